import PyProof.Rows.All
import Wide.All
import OpenK.AllK
import Wide.FinOn
import Lean
import PyProof.EqAt
import PyProof.EqKinds
import PyProof.TupleCall
import PyProof.ExcClass3
import PyProof.NeKinds
import PyProof.ZipIter
import PyProof.ExcArgsOwn
import PySem.Challenge.RW_hastebook_k59_wishes_and_rests_refused
set_option Elab.async false
set_option linter.all false
namespace L2
open PySem
def defArgs (s : Stmt) : Arguments := match s with
  | .FunctionDef _ a _ _ _ _ _ _ _ _ => a
  | _ => { posonlyargs := [], args := [], vararg := none, kwonlyargs := [], kw_defaults := [], kwarg := none, defaults := [] }
def defBody (s : Stmt) : List Stmt := match s with
  | .FunctionDef _ _ b _ _ _ _ _ _ _ => b
  | _ => []
def defScope (s : Stmt) : Scope := match s with
  | .FunctionDef _ _ _ _ _ _ sc _ _ _ => sc
  | _ => { kind := .function, names := [], isGenerator := false, isCoroutine := false }
end L2
namespace HT
open PySem PySem.W PyProof.Rows
abbrev so (x : String) : Str := Str.ofString x
abbrev de := PySem.DictEntry.mk
abbrev ob := PySem.Obj.mk
abbrev kh := PySem.PyData.keyHash
open L2 (defArgs defBody defScope)
abbrev PR : Program := PySem.Challenge.pw_hastebook_k59_wishes_and_rests_refused
def top (i : Nat) : Stmt := PR.main.body.getD i (.Pass ⟨0, 0, 0, 0⟩)
def KH : Params → PySem.W.Frag := fun P => 
  (nat_lit 2, ob Value.none Option.none (Data.dict #[]) #[]) ::
  (nat_lit 3, ob (Value.type "dict") Option.none (Data.dict #[de (kh P (so "__name__")) (Value.str (so "__name__") 165) (Value.str (so "law_hastebook_k59_wishes_and_rests_refused") 721), de (kh P (so "__doc__")) (Value.str (so "__doc__") 166) Value.none, de (kh P (so "__package__")) (Value.str (so "__package__") 167) Value.none, de (kh P (so "__loader__")) (Value.str (so "__loader__") 168) (Value.builtin "__main__.__loader__#opaque"), de (kh P (so "__spec__")) (Value.str (so "__spec__") 169) Value.none, de (kh P (so "__annotations__")) (Value.str (so "__annotations__") 170) (Value.ref 6), de (kh P (so "__builtins__")) (Value.str (so "__builtins__") 171) (Value.ref 4), de (kh P (so "__file__")) (Value.str (so "__file__") 173) (Value.str (so "/claim/cut.py") 172), de (kh P (so "__cached__")) (Value.str (so "__cached__") 174) Value.none, de (kh P (so "BookError")) (Value.str (so "BookError") 206) (Value.ref 24), de (kh P (so "NoOrder")) (Value.str (so "NoOrder") 222) (Value.ref 37), de (kh P (so "NoRoom")) (Value.str (so "NoRoom") 238) (Value.ref 49), de (kh P (so "NoRow")) (Value.str (so "NoRow") 254) (Value.ref 61), de (kh P (so "NoName")) (Value.str (so "NoName") 270) (Value.ref 73), de (kh P (so "NoText")) (Value.str (so "NoText") 286) (Value.ref 85), de (kh P (so "order_of")) (Value.str (so "order_of") 298) (Value.ref 94), de (kh P (so "is_work")) (Value.str (so "is_work") 306) (Value.ref 101), de (kh P (so "needed_works")) (Value.str (so "needed_works") 312) (Value.ref 106), de (kh P (so "least_ready")) (Value.str (so "least_ready") 318) (Value.ref 111), de (kh P (so "earliest")) (Value.str (so "earliest") 326) (Value.ref 116), de (kh P (so "length")) (Value.str (so "length") 334) (Value.ref 123), de (kh P (so "done_moments")) (Value.str (so "done_moments") 340) (Value.ref 128), de (kh P (so "SOURCE")) (Value.str (so "SOURCE") 344) (Value.int 0 343), de (kh P (so "SINK")) (Value.str (so "SINK") 346) (Value.int 1 345), de (kh P (so "Pipe")) (Value.str (so "Pipe") 382) (Value.ref 145), de (kh P (so "Net")) (Value.str (so "Net") 481) (Value.ref 215), de (kh P (so "begin_place")) (Value.str (so "begin_place") 488) (Value.ref 226), de (kh P (so "done_place")) (Value.str (so "done_place") 495) (Value.ref 233), de (kh P (so "work_at")) (Value.str (so "work_at") 502) (Value.ref 240), de (kh P (so "raise_moments")) (Value.str (so "raise_moments") 513) (Value.ref 247), de (kh P (so "tight_route")) (Value.str (so "tight_route") 519) (Value.ref 252), de (kh P (so "next_routes")) (Value.str (so "next_routes") 529) (Value.ref 259), de (kh P (so "room_on")) (Value.str (so "room_on") 535) (Value.ref 264), de (kh P (so "pour")) (Value.str (so "pour") 544) (Value.ref 271), de (kh P (so "flowing_route")) (Value.str (so "flowing_route") 553) (Value.ref 278), de (kh P (so "steps_from")) (Value.str (so "steps_from") 559) (Value.ref 283), de (kh P (so "take_out")) (Value.str (so "take_out") 565) (Value.ref 288), de (kh P (so "works_on")) (Value.str (so "works_on") 571) (Value.ref 293), de (kh P (so "least_end")) (Value.str (so "least_end") 581) (Value.ref 300), de (kh P (so "free_end")) (Value.str (so "free_end") 587) (Value.ref 305), de (kh P (so "least_hours")) (Value.str (so "least_hours") 593) (Value.ref 310), de (kh P (so "free_hours")) (Value.str (so "free_hours") 600) (Value.ref 317), de (kh P (so "corners")) (Value.str (so "corners") 616) (Value.ref 324), de (kh P (so "end_for")) (Value.str (so "end_for") 630) (Value.ref 331), de (kh P (so "best_end")) (Value.str (so "best_end") 636) (Value.ref 336), de (kh P (so "best_sum")) (Value.str (so "best_sum") 645) (Value.ref 343), de (kh P (so "bonus_stream")) (Value.str (so "bonus_stream") 655) (Value.ref 350), de (kh P (so "step_between")) (Value.str (so "step_between") 663) (Value.ref 357), de (kh P (so "least_sum")) (Value.str (so "least_sum") 669) (Value.ref 362), de (kh P (so "corner_sum")) (Value.str (so "corner_sum") 677) (Value.ref 369), de (kh P (so "done_at")) (Value.str (so "done_at") 686) (Value.ref 376), de (kh P (so "rest_of")) (Value.str (so "rest_of") 694) (Value.ref 381), de (kh P (so "rest_of_work")) (Value.str (so "rest_of_work") 704) (Value.ref 388), de (kh P (so "is_done")) (Value.str (so "is_done") 712) (Value.ref 395), de (kh P (so "waits")) (Value.str (so "waits") 720) (Value.ref 402), de (kh P (so "_law_cell_at")) (Value.str (so "_law_cell_at") 730) (Value.ref 409), de (kh P (so "_law_mixed")) (Value.str (so "_law_mixed") 739) (Value.ref 416), de (kh P (so "_law_names")) (Value.str (so "_law_names") 749) (Value.ref 423), de (kh P (so "_law_numbers")) (Value.str (so "_law_numbers") 755) (Value.ref 428), de (kh P (so "_law_work")) (Value.str (so "_law_work") 769) (Value.ref 435), de (kh P (so "_law_lot_free")) (Value.str (so "_law_lot_free") 787) (Value.ref 442), de (kh P (so "_law_lot")) (Value.str (so "_law_lot") 793) (Value.ref 447), de (kh P (so "_law_asked")) (Value.str (so "_law_asked") 799) (Value.ref 452), de (kh P (so "_law_bent")) (Value.str (so "_law_bent") 805) (Value.ref 457), de (kh P (so "_law_refused")) (Value.str (so "_law_refused") 817) (Value.ref 464), de (kh P (so "law")) (Value.str (so "law") 823) (Value.ref 469)] 66) #[]) ::
  (nat_lit 15, ob (Value.type "tuple") Option.none (Data.seq #[Value.type "ValueError"]) #[]) ::
  (nat_lit 22, ob (Value.type "tuple") Option.none (Data.seq #[]) #[]) ::
  (nat_lit 23, ob (Value.type "dict") Option.none (Data.dict #[de (kh P (so "__module__")) (Value.str (so "__module__") 196) (Value.str (so "hastebook.errors") 187), de (kh P (so "__firstlineno__")) (Value.str (so "__firstlineno__") 200) (Value.int 2 199), de (kh P (so "__static_attributes__")) (Value.str (so "__static_attributes__") 201) (Value.ref 22), de (kh P (so "__weakref__")) (Value.str (so "__weakref__") 203) (Value.ref 25), de (kh P (so "__doc__")) (Value.str (so "__doc__") 204) Value.none] 3) #[]) ::
  (nat_lit 24, ob (Value.type "type") Option.none (Data.cls (PySem.ClassData.mk (so "BookError") [Value.type "ValueError"] [Value.ref 24, Value.type "ValueError", Value.type "Exception", Value.type "BaseException", Value.type "object"] 23 (so "BookError") Bool.true [] [Value.ref 37, Value.ref 49, Value.ref 61, Value.ref 73, Value.ref 85] Bool.false Option.none Bool.false)) #[Option.some (Value.ref 15), Option.none, Option.some (Value.str (so "BookError") 189), Option.some (Value.str (so "BookError") 197), Option.some (Value.builtin "ValueError.__new__"), Option.some (Value.bool Bool.true)]) ::
  (nat_lit 25, ob (Value.type "getset_descriptor") Option.none (Data.fields #[Value.str (so "__weakref__") 202, Value.ref 24, Value.builtin "ExceptionGroup.__weakref__", Value.none]) #[]) ::
  (nat_lit 28, ob (Value.type "tuple") Option.none (Data.seq #[Value.ref 24]) #[]) ::
  (nat_lit 35, ob (Value.type "tuple") Option.none (Data.seq #[]) #[]) ::
  (nat_lit 36, ob (Value.type "dict") Option.none (Data.dict #[de (kh P (so "__module__")) (Value.str (so "__module__") 214) (Value.str (so "hastebook.errors") 187), de (kh P (so "__firstlineno__")) (Value.str (so "__firstlineno__") 218) (Value.int 4 217), de (kh P (so "__static_attributes__")) (Value.str (so "__static_attributes__") 219) (Value.ref 35), de (kh P (so "__doc__")) (Value.str (so "__doc__") 220) Value.none] 2) #[]) ::
  (nat_lit 37, ob (Value.type "type") Option.none (Data.cls (PySem.ClassData.mk (so "NoOrder") [Value.ref 24] [Value.ref 37, Value.ref 24, Value.type "ValueError", Value.type "Exception", Value.type "BaseException", Value.type "object"] 36 (so "NoOrder") Bool.true [] [] Bool.false Option.none Bool.false)) #[Option.some (Value.ref 28), Option.none, Option.some (Value.str (so "NoOrder") 207), Option.some (Value.str (so "NoOrder") 215), Option.some (Value.builtin "ValueError.__new__"), Option.some (Value.bool Bool.true)]) ::
  (nat_lit 40, ob (Value.type "tuple") Option.none (Data.seq #[Value.ref 24]) #[]) ::
  (nat_lit 47, ob (Value.type "tuple") Option.none (Data.seq #[]) #[]) ::
  (nat_lit 48, ob (Value.type "dict") Option.none (Data.dict #[de (kh P (so "__module__")) (Value.str (so "__module__") 230) (Value.str (so "hastebook.errors") 187), de (kh P (so "__firstlineno__")) (Value.str (so "__firstlineno__") 234) (Value.int 6 233), de (kh P (so "__static_attributes__")) (Value.str (so "__static_attributes__") 235) (Value.ref 47), de (kh P (so "__doc__")) (Value.str (so "__doc__") 236) Value.none] 2) #[]) ::
  (nat_lit 49, ob (Value.type "type") Option.none (Data.cls (PySem.ClassData.mk (so "NoRoom") [Value.ref 24] [Value.ref 49, Value.ref 24, Value.type "ValueError", Value.type "Exception", Value.type "BaseException", Value.type "object"] 48 (so "NoRoom") Bool.true [] [] Bool.false Option.none Bool.false)) #[Option.some (Value.ref 40), Option.none, Option.some (Value.str (so "NoRoom") 223), Option.some (Value.str (so "NoRoom") 231), Option.some (Value.builtin "ValueError.__new__"), Option.some (Value.bool Bool.true)]) ::
  (nat_lit 52, ob (Value.type "tuple") Option.none (Data.seq #[Value.ref 24]) #[]) ::
  (nat_lit 59, ob (Value.type "tuple") Option.none (Data.seq #[]) #[]) ::
  (nat_lit 60, ob (Value.type "dict") Option.none (Data.dict #[de (kh P (so "__module__")) (Value.str (so "__module__") 246) (Value.str (so "hastebook.errors") 187), de (kh P (so "__firstlineno__")) (Value.str (so "__firstlineno__") 250) (Value.int 8 249), de (kh P (so "__static_attributes__")) (Value.str (so "__static_attributes__") 251) (Value.ref 59), de (kh P (so "__doc__")) (Value.str (so "__doc__") 252) Value.none] 2) #[]) ::
  (nat_lit 61, ob (Value.type "type") Option.none (Data.cls (PySem.ClassData.mk (so "NoRow") [Value.ref 24] [Value.ref 61, Value.ref 24, Value.type "ValueError", Value.type "Exception", Value.type "BaseException", Value.type "object"] 60 (so "NoRow") Bool.true [] [] Bool.false Option.none Bool.false)) #[Option.some (Value.ref 52), Option.none, Option.some (Value.str (so "NoRow") 239), Option.some (Value.str (so "NoRow") 247), Option.some (Value.builtin "ValueError.__new__"), Option.some (Value.bool Bool.true)]) ::
  (nat_lit 64, ob (Value.type "tuple") Option.none (Data.seq #[Value.ref 24]) #[]) ::
  (nat_lit 71, ob (Value.type "tuple") Option.none (Data.seq #[]) #[]) ::
  (nat_lit 72, ob (Value.type "dict") Option.none (Data.dict #[de (kh P (so "__module__")) (Value.str (so "__module__") 262) (Value.str (so "hastebook.errors") 187), de (kh P (so "__firstlineno__")) (Value.str (so "__firstlineno__") 266) (Value.int 10 265), de (kh P (so "__static_attributes__")) (Value.str (so "__static_attributes__") 267) (Value.ref 71), de (kh P (so "__doc__")) (Value.str (so "__doc__") 268) Value.none] 2) #[]) ::
  (nat_lit 73, ob (Value.type "type") Option.none (Data.cls (PySem.ClassData.mk (so "NoName") [Value.ref 24] [Value.ref 73, Value.ref 24, Value.type "ValueError", Value.type "Exception", Value.type "BaseException", Value.type "object"] 72 (so "NoName") Bool.true [] [] Bool.false Option.none Bool.false)) #[Option.some (Value.ref 64), Option.none, Option.some (Value.str (so "NoName") 255), Option.some (Value.str (so "NoName") 263), Option.some (Value.builtin "ValueError.__new__"), Option.some (Value.bool Bool.true)]) ::
  (nat_lit 76, ob (Value.type "tuple") Option.none (Data.seq #[Value.ref 24]) #[]) ::
  (nat_lit 83, ob (Value.type "tuple") Option.none (Data.seq #[]) #[]) ::
  (nat_lit 84, ob (Value.type "dict") Option.none (Data.dict #[de (kh P (so "__module__")) (Value.str (so "__module__") 278) (Value.str (so "hastebook.errors") 187), de (kh P (so "__firstlineno__")) (Value.str (so "__firstlineno__") 282) (Value.int 12 281), de (kh P (so "__static_attributes__")) (Value.str (so "__static_attributes__") 283) (Value.ref 83), de (kh P (so "__doc__")) (Value.str (so "__doc__") 284) Value.none] 2) #[]) ::
  (nat_lit 85, ob (Value.type "type") Option.none (Data.cls (PySem.ClassData.mk (so "NoText") [Value.ref 24] [Value.ref 85, Value.ref 24, Value.type "ValueError", Value.type "Exception", Value.type "BaseException", Value.type "object"] 84 (so "NoText") Bool.true [] [] Bool.false Option.none Bool.false)) #[Option.some (Value.ref 76), Option.none, Option.some (Value.str (so "NoText") 271), Option.some (Value.str (so "NoText") 279), Option.some (Value.builtin "ValueError.__new__"), Option.some (Value.bool Bool.true)]) ::
  (nat_lit 88, ob (Value.type "tuple") Option.none (Data.seq #[]) #[]) ::
  (nat_lit 90, ob (Value.type "tuple") Option.none (Data.seq #[Value.str (so "many") 292, Value.str (so "needs") 293, Value.str (so "needed") 294, Value.str (so "order") 295]) #[]) ::
  (nat_lit 91, ob (Value.type "tuple") Option.none (Data.seq #[]) #[]) ::
  (nat_lit 93, ob (Value.type "code") Option.none (Data.fields #[Value.str (so "order_of") 289, Value.str (so "order_of") 290, Value.str (so "/claim/cut.py") 291, Value.int 15 0, Value.int 2 0, Value.int 0 0, Value.int 0 0, Value.int 3 0, Value.ref 88, Value.bool Bool.true, Value.int 181 0, Value.ref 89, Value.none, Value.ref 90, Value.ref 91, Value.ref 92, Value.int 296 0, Value.int 15 0, Value.str (so "/claim/cut.py") 297]) #[]) ::
  (nat_lit 94, ob (Value.type "function") (Option.none) (Data.func (PySem.W.fnOf "order_of" "order_of" (defArgs (top 8)) (defBody (top 8)) (defScope (top 8)) Value.none (Value.none) (Value.none) (Value.str (so "hastebook.needs") 287) (Option.none) (Value.ref 93) (Value.none))) (#[])) ::
  (nat_lit 95, ob (Value.type "tuple") Option.none (Data.seq #[]) #[]) ::
  (nat_lit 97, ob (Value.type "tuple") Option.none (Data.seq #[Value.str (so "many") 302, Value.str (so "number") 303]) #[]) ::
  (nat_lit 98, ob (Value.type "tuple") Option.none (Data.seq #[]) #[]) ::
  (nat_lit 100, ob (Value.type "code") Option.none (Data.fields #[Value.str (so "is_work") 299, Value.str (so "is_work") 300, Value.str (so "/claim/cut.py") 301, Value.int 21 0, Value.int 2 0, Value.int 0 0, Value.int 0 0, Value.int 3 0, Value.ref 95, Value.bool Bool.true, Value.int 181 0, Value.ref 96, Value.none, Value.ref 97, Value.ref 98, Value.ref 99, Value.int 304 0, Value.int 21 0, Value.str (so "/claim/cut.py") 305]) #[]) ::
  (nat_lit 101, ob (Value.type "function") (Option.none) (Data.func (PySem.W.fnOf "is_work" "is_work" (defArgs (top 9)) (defBody (top 9)) (defScope (top 9)) Value.none (Value.none) (Value.none) (Value.str (so "hastebook.needs") 287) (Option.none) (Value.ref 100) (Value.none))) (#[])) ::
  (nat_lit 102, ob (Value.type "tuple") Option.none (Data.seq #[]) #[]) ::
  (nat_lit 105, ob (Value.type "code") Option.none (Data.fields #[Value.str (so "needed_works") 307, Value.str (so "needed_works") 308, Value.str (so "/claim/cut.py") 309, Value.int 23 0, Value.int 2 0, Value.int 0 0, Value.int 0 0, Value.int 3 0, Value.ref 102, Value.bool Bool.true, Value.int 181 0, Value.ref 103, Value.none, Value.none, Value.none, Value.ref 104, Value.int 310 0, Value.int 23 0, Value.str (so "/claim/cut.py") 311]) #[]) ::
  (nat_lit 106, ob (Value.type "function") (Option.none) (Data.func (PySem.W.fnOf "needed_works" "needed_works" (defArgs (top 10)) (defBody (top 10)) (defScope (top 10)) Value.none (Value.none) (Value.none) (Value.str (so "hastebook.needs") 287) (Option.none) (Value.ref 105) (Value.none))) (#[])) ::
  (nat_lit 107, ob (Value.type "tuple") Option.none (Data.seq #[]) #[]) ::
  (nat_lit 110, ob (Value.type "code") Option.none (Data.fields #[Value.str (so "least_ready") 313, Value.str (so "least_ready") 314, Value.str (so "/claim/cut.py") 315, Value.int 31 0, Value.int 2 0, Value.int 0 0, Value.int 0 0, Value.int 3 0, Value.ref 107, Value.bool Bool.true, Value.int 181 0, Value.ref 108, Value.none, Value.none, Value.none, Value.ref 109, Value.int 316 0, Value.int 31 0, Value.str (so "/claim/cut.py") 317]) #[]) ::
  (nat_lit 111, ob (Value.type "function") (Option.none) (Data.func (PySem.W.fnOf "least_ready" "least_ready" (defArgs (top 11)) (defBody (top 11)) (defScope (top 11)) Value.none (Value.none) (Value.none) (Value.str (so "hastebook.needs") 287) (Option.none) (Value.ref 110) (Value.none))) (#[])) ::
  (nat_lit 112, ob (Value.type "tuple") Option.none (Data.seq #[]) #[]) ::
  (nat_lit 115, ob (Value.type "code") Option.none (Data.fields #[Value.str (so "earliest") 321, Value.str (so "earliest") 322, Value.str (so "/claim/cut.py") 323, Value.int 37 0, Value.int 2 0, Value.int 0 0, Value.int 0 0, Value.int 3 0, Value.ref 112, Value.bool Bool.true, Value.int 181 0, Value.ref 113, Value.none, Value.none, Value.none, Value.ref 114, Value.int 324 0, Value.int 37 0, Value.str (so "/claim/cut.py") 325]) #[]) ::
  (nat_lit 116, ob (Value.type "function") (Option.none) (Data.func (PySem.W.fnOf "earliest" "earliest" (defArgs (top 13)) (defBody (top 13)) (defScope (top 13)) Value.none (Value.none) (Value.none) (Value.str (so "hastebook.moments") 319) (Option.none) (Value.ref 115) (Value.none))) (#[])) ::
  (nat_lit 117, ob (Value.type "tuple") Option.none (Data.seq #[]) #[]) ::
  (nat_lit 119, ob (Value.type "tuple") Option.none (Data.seq #[Value.str (so "hours") 330, Value.str (so "needs") 331]) #[]) ::
  (nat_lit 120, ob (Value.type "tuple") Option.none (Data.seq #[]) #[]) ::
  (nat_lit 122, ob (Value.type "code") Option.none (Data.fields #[Value.str (so "length") 327, Value.str (so "length") 328, Value.str (so "/claim/cut.py") 329, Value.int 44 0, Value.int 2 0, Value.int 0 0, Value.int 0 0, Value.int 3 0, Value.ref 117, Value.bool Bool.true, Value.int 181 0, Value.ref 118, Value.none, Value.ref 119, Value.ref 120, Value.ref 121, Value.int 332 0, Value.int 44 0, Value.str (so "/claim/cut.py") 333]) #[]) ::
  (nat_lit 123, ob (Value.type "function") (Option.none) (Data.func (PySem.W.fnOf "length" "length" (defArgs (top 14)) (defBody (top 14)) (defScope (top 14)) Value.none (Value.none) (Value.none) (Value.str (so "hastebook.moments") 319) (Option.none) (Value.ref 122) (Value.none))) (#[])) ::
  (nat_lit 124, ob (Value.type "tuple") Option.none (Data.seq #[]) #[]) ::
  (nat_lit 127, ob (Value.type "code") Option.none (Data.fields #[Value.str (so "done_moments") 335, Value.str (so "done_moments") 336, Value.str (so "/claim/cut.py") 337, Value.int 46 0, Value.int 2 0, Value.int 0 0, Value.int 0 0, Value.int 3 0, Value.ref 124, Value.bool Bool.true, Value.int 181 0, Value.ref 125, Value.none, Value.none, Value.none, Value.ref 126, Value.int 338 0, Value.int 46 0, Value.str (so "/claim/cut.py") 339]) #[]) ::
  (nat_lit 128, ob (Value.type "function") (Option.none) (Data.func (PySem.W.fnOf "done_moments" "done_moments" (defArgs (top 15)) (defBody (top 15)) (defScope (top 15)) Value.none (Value.none) (Value.none) (Value.str (so "hastebook.moments") 319) (Option.none) (Value.ref 127) (Value.none))) (#[])) ::
  (nat_lit 143, ob (Value.type "tuple") Option.none (Data.seq #[Value.str (so "back") 370, Value.str (so "head") 371, Value.str (so "hours") 372, Value.str (so "room") 373, Value.str (so "tail") 374]) #[]) ::
  (nat_lit 144, ob (Value.type "dict") Option.none (Data.dict #[de (kh P (so "__module__")) (Value.str (so "__module__") 354) (Value.str (so "hastebook.nets") 341), de (kh P (so "__firstlineno__")) (Value.str (so "__firstlineno__") 358) (Value.int 51 357), de (kh P (so "__init__")) (Value.str (so "__init__") 369) (Value.ref 142), de (kh P (so "__static_attributes__")) (Value.str (so "__static_attributes__") 375) (Value.ref 143), de (kh P (so "__dict__")) (Value.str (so "__dict__") 377) (Value.ref 146), de (kh P (so "__weakref__")) (Value.str (so "__weakref__") 379) (Value.ref 147), de (kh P (so "__doc__")) (Value.str (so "__doc__") 380) Value.none] 4) #[]) ::
  (nat_lit 145, ob (Value.type "type") Option.none (Data.cls (PySem.ClassData.mk (so "Pipe") [Value.type "object"] [Value.ref 145, Value.type "object"] 144 (so "Pipe") Bool.true [] [] Bool.false Option.none Bool.false)) #[Option.none, Option.none, Option.some (Value.str (so "Pipe") 347), Option.some (Value.str (so "Pipe") 355), Option.some (Value.builtin "object.__new__"), Option.some (Value.bool Bool.true)]) ::
  (nat_lit 146, ob (Value.type "getset_descriptor") Option.none (Data.fields #[Value.str (so "__dict__") 376, Value.ref 145, Value.builtin "function.__dict__", Value.builtin "function.__dict__#set"]) #[]) ::
  (nat_lit 147, ob (Value.type "getset_descriptor") Option.none (Data.fields #[Value.str (so "__weakref__") 378, Value.ref 145, Value.builtin "ExceptionGroup.__weakref__", Value.none]) #[]) ::
  (nat_lit 213, ob (Value.type "tuple") Option.none (Data.seq #[Value.str (so "pipes") 472, Value.str (so "places") 473]) #[]) ::
  (nat_lit 214, ob (Value.type "dict") Option.none (Data.dict #[de (kh P (so "__module__")) (Value.str (so "__module__") 390) (Value.str (so "hastebook.nets") 341), de (kh P (so "__firstlineno__")) (Value.str (so "__firstlineno__") 394) (Value.int 59 393), de (kh P (so "__init__")) (Value.str (so "__init__") 401) (Value.ref 162), de (kh P (so "lay")) (Value.str (so "lay") 414) (Value.ref 169), de (kh P (so "fill")) (Value.str (so "fill") 424) (Value.ref 176), de (kh P (so "lead")) (Value.str (so "lead") 434) (Value.ref 183), de (kh P (so "moments")) (Value.str (so "moments") 440) (Value.ref 188), de (kh P (so "open_length")) (Value.str (so "open_length") 447) (Value.ref 195), de (kh P (so "open_pipes")) (Value.str (so "open_pipes") 453) (Value.ref 200), de (kh P (so "amount")) (Value.str (so "amount") 459) (Value.ref 205), de (kh P (so "stream")) (Value.str (so "stream") 471) (Value.ref 212), de (kh P (so "__static_attributes__")) (Value.str (so "__static_attributes__") 474) (Value.ref 213), de (kh P (so "__dict__")) (Value.str (so "__dict__") 476) (Value.ref 216), de (kh P (so "__weakref__")) (Value.str (so "__weakref__") 478) (Value.ref 217), de (kh P (so "__doc__")) (Value.str (so "__doc__") 479) Value.none] 4) #[]) ::
  (nat_lit 215, ob (Value.type "type") Option.none (Data.cls (PySem.ClassData.mk (so "Net") [Value.type "object"] [Value.ref 215, Value.type "object"] 214 (so "Net") Bool.true [] [] Bool.false Option.none Bool.false)) #[Option.none, Option.none, Option.some (Value.str (so "Net") 383), Option.some (Value.str (so "Net") 391), Option.some (Value.builtin "object.__new__"), Option.some (Value.bool Bool.true)]) ::
  (nat_lit 216, ob (Value.type "getset_descriptor") Option.none (Data.fields #[Value.str (so "__dict__") 475, Value.ref 215, Value.builtin "function.__dict__", Value.builtin "function.__dict__#set"]) #[]) ::
  (nat_lit 217, ob (Value.type "getset_descriptor") Option.none (Data.fields #[Value.str (so "__weakref__") 477, Value.ref 215, Value.builtin "ExceptionGroup.__weakref__", Value.none]) #[]) ::
  (nat_lit 294, ob (Value.type "tuple") Option.none (Data.seq #[]) #[]) ::
  (nat_lit 296, ob (Value.type "tuple") Option.none (Data.seq #[Value.str (so "works") 577, Value.str (so "needs") 578]) #[]) ::
  (nat_lit 297, ob (Value.type "tuple") Option.none (Data.seq #[]) #[]) ::
  (nat_lit 299, ob (Value.type "code") Option.none (Data.fields #[Value.str (so "least_end") 574, Value.str (so "least_end") 575, Value.str (so "/claim/cut.py") 576, Value.int 173 0, Value.int 2 0, Value.int 0 0, Value.int 0 0, Value.int 3 0, Value.ref 294, Value.bool Bool.true, Value.int 181 0, Value.ref 295, Value.none, Value.ref 296, Value.ref 297, Value.ref 298, Value.int 579 0, Value.int 173 0, Value.str (so "/claim/cut.py") 580]) #[]) ::
  (nat_lit 300, ob (Value.type "function") (Option.none) (Data.func (PySem.W.fnOf "least_end" "least_end" (defArgs (top 34)) (defBody (top 34)) (defScope (top 34)) Value.none (Value.none) (Value.none) (Value.str (so "hastebook.haste") 572) (Option.none) (Value.ref 299) (Value.none))) (#[])) ::
  (nat_lit 306, ob (Value.type "tuple") Option.none (Data.seq #[]) #[]) ::
  (nat_lit 309, ob (Value.type "code") Option.none (Data.fields #[Value.str (so "least_hours") 588, Value.str (so "least_hours") 589, Value.str (so "/claim/cut.py") 590, Value.int 177 0, Value.int 1 0, Value.int 0 0, Value.int 0 0, Value.int 3 0, Value.ref 306, Value.bool Bool.true, Value.int 181 0, Value.ref 307, Value.none, Value.none, Value.none, Value.ref 308, Value.int 591 0, Value.int 177 0, Value.str (so "/claim/cut.py") 592]) #[]) ::
  (nat_lit 310, ob (Value.type "function") (Option.none) (Data.func (PySem.W.fnOf "least_hours" "least_hours" (defArgs (top 36)) (defBody (top 36)) (defScope (top 36)) Value.none (Value.none) (Value.none) (Value.str (so "hastebook.haste") 572) (Option.none) (Value.ref 309) (Value.none))) (#[])) ::
  (nat_lit 318, ob (Value.type "tuple") Option.none (Data.seq #[]) #[]) ::
  (nat_lit 320, ob (Value.type "tuple") Option.none (Data.seq #[Value.str (so "works") 606, Value.str (so "needs") 607, Value.str (so "last") 608, Value.str (so "end") 609, Value.str (so "price") 610, Value.str (so "found") 611, Value.str (so "net") 612, Value.str (so "sooner") 613]) #[]) ::
  (nat_lit 321, ob (Value.type "tuple") Option.none (Data.seq #[]) #[]) ::
  (nat_lit 323, ob (Value.type "code") Option.none (Data.fields #[Value.str (so "corners") 603, Value.str (so "corners") 604, Value.str (so "/claim/cut.py") 605, Value.int 182 0, Value.int 2 0, Value.int 0 0, Value.int 0 0, Value.int 3 0, Value.ref 318, Value.bool Bool.true, Value.int 181 0, Value.ref 319, Value.none, Value.ref 320, Value.ref 321, Value.ref 322, Value.int 614 0, Value.int 182 0, Value.str (so "/claim/cut.py") 615]) #[]) ::
  (nat_lit 324, ob (Value.type "function") (Option.none) (Data.func (PySem.W.fnOf "corners" "corners" (defArgs (top 39)) (defBody (top 39)) (defScope (top 39)) Value.none (Value.none) (Value.none) (Value.str (so "hastebook.curves") 601) (Option.none) (Value.ref 323) (Value.none))) (#[])) ::
  (nat_lit 325, ob (Value.type "tuple") Option.none (Data.seq #[]) #[]) ::
  (nat_lit 327, ob (Value.type "tuple") Option.none (Data.seq #[Value.str (so "works") 622, Value.str (so "needs") 623, Value.str (so "budget") 624, Value.str (so "told") 625, Value.str (so "ahead") 626, Value.str (so "behind") 627]) #[]) ::
  (nat_lit 328, ob (Value.type "tuple") Option.none (Data.seq #[]) #[]) ::
  (nat_lit 330, ob (Value.type "code") Option.none (Data.fields #[Value.str (so "end_for") 619, Value.str (so "end_for") 620, Value.str (so "/claim/cut.py") 621, Value.int 196 0, Value.int 3 0, Value.int 0 0, Value.int 0 0, Value.int 3 0, Value.ref 325, Value.bool Bool.true, Value.int 181 0, Value.ref 326, Value.none, Value.ref 327, Value.ref 328, Value.ref 329, Value.int 628 0, Value.int 196 0, Value.str (so "/claim/cut.py") 629]) #[]) ::
  (nat_lit 331, ob (Value.type "function") (Option.none) (Data.func (PySem.W.fnOf "end_for" "end_for" (defArgs (top 41)) (defBody (top 41)) (defScope (top 41)) Value.none (Value.none) (Value.none) (Value.str (so "hastebook.wishes") 617) (Option.none) (Value.ref 330) (Value.none))) (#[])) ::
  (nat_lit 332, ob (Value.type "tuple") Option.none (Data.seq #[]) #[]) ::
  (nat_lit 335, ob (Value.type "code") Option.none (Data.fields #[Value.str (so "best_end") 631, Value.str (so "best_end") 632, Value.str (so "/claim/cut.py") 633, Value.int 202 0, Value.int 3 0, Value.int 0 0, Value.int 0 0, Value.int 3 0, Value.ref 332, Value.bool Bool.true, Value.int 181 0, Value.ref 333, Value.none, Value.none, Value.none, Value.ref 334, Value.int 634 0, Value.int 202 0, Value.str (so "/claim/cut.py") 635]) #[]) ::
  (nat_lit 336, ob (Value.type "function") (Option.none) (Data.func (PySem.W.fnOf "best_end" "best_end" (defArgs (top 42)) (defBody (top 42)) (defScope (top 42)) Value.none (Value.none) (Value.none) (Value.str (so "hastebook.wishes") 617) (Option.none) (Value.ref 335) (Value.none))) (#[])) ::
  (nat_lit 337, ob (Value.type "tuple") Option.none (Data.seq #[]) #[]) ::
  (nat_lit 339, ob (Value.type "tuple") Option.none (Data.seq #[Value.str (so "works") 640, Value.str (so "needs") 641, Value.str (so "bonus") 642]) #[]) ::
  (nat_lit 340, ob (Value.type "tuple") Option.none (Data.seq #[]) #[]) ::
  (nat_lit 342, ob (Value.type "code") Option.none (Data.fields #[Value.str (so "best_sum") 637, Value.str (so "best_sum") 638, Value.str (so "/claim/cut.py") 639, Value.int 206 0, Value.int 3 0, Value.int 0 0, Value.int 0 0, Value.int 3 0, Value.ref 337, Value.bool Bool.true, Value.int 181 0, Value.ref 338, Value.none, Value.ref 339, Value.ref 340, Value.ref 341, Value.int 643 0, Value.int 206 0, Value.str (so "/claim/cut.py") 644]) #[]) ::
  (nat_lit 343, ob (Value.type "function") (Option.none) (Data.func (PySem.W.fnOf "best_sum" "best_sum" (defArgs (top 43)) (defBody (top 43)) (defScope (top 43)) Value.none (Value.none) (Value.none) (Value.str (so "hastebook.wishes") 617) (Option.none) (Value.ref 342) (Value.none))) (#[])) ::
  (nat_lit 344, ob (Value.type "tuple") Option.none (Data.seq #[]) #[]) ::
  (nat_lit 346, ob (Value.type "tuple") Option.none (Data.seq #[Value.str (so "works") 649, Value.str (so "needs") 650, Value.str (so "bonus") 651, Value.str (so "net") 652]) #[]) ::
  (nat_lit 347, ob (Value.type "tuple") Option.none (Data.seq #[]) #[]) ::
  (nat_lit 349, ob (Value.type "code") Option.none (Data.fields #[Value.str (so "bonus_stream") 646, Value.str (so "bonus_stream") 647, Value.str (so "/claim/cut.py") 648, Value.int 208 0, Value.int 3 0, Value.int 0 0, Value.int 0 0, Value.int 3 0, Value.ref 344, Value.bool Bool.true, Value.int 181 0, Value.ref 345, Value.none, Value.ref 346, Value.ref 347, Value.ref 348, Value.int 653 0, Value.int 208 0, Value.str (so "/claim/cut.py") 654]) #[]) ::
  (nat_lit 350, ob (Value.type "function") (Option.none) (Data.func (PySem.W.fnOf "bonus_stream" "bonus_stream" (defArgs (top 44)) (defBody (top 44)) (defScope (top 44)) Value.none (Value.none) (Value.none) (Value.str (so "hastebook.wishes") 617) (Option.none) (Value.ref 349) (Value.none))) (#[])) ::
  (nat_lit 358, ob (Value.type "tuple") Option.none (Data.seq #[]) #[]) ::
  (nat_lit 361, ob (Value.type "code") Option.none (Data.fields #[Value.str (so "least_sum") 664, Value.str (so "least_sum") 665, Value.str (so "/claim/cut.py") 666, Value.int 217 0, Value.int 2 0, Value.int 0 0, Value.int 0 0, Value.int 3 0, Value.ref 358, Value.bool Bool.true, Value.int 181 0, Value.ref 359, Value.none, Value.none, Value.none, Value.ref 360, Value.int 667 0, Value.int 217 0, Value.str (so "/claim/cut.py") 668]) #[]) ::
  (nat_lit 362, ob (Value.type "function") (Option.none) (Data.func (PySem.W.fnOf "least_sum" "least_sum" (defArgs (top 46)) (defBody (top 46)) (defScope (top 46)) Value.none (Value.none) (Value.none) (Value.str (so "hastebook.wishes") 617) (Option.none) (Value.ref 361) (Value.none))) (#[])) ::
  (nat_lit 377, ob (Value.type "tuple") Option.none (Data.seq #[]) #[]) ::
  (nat_lit 380, ob (Value.type "code") Option.none (Data.fields #[Value.str (so "rest_of") 689, Value.str (so "rest_of") 690, Value.str (so "/claim/cut.py") 691, Value.int 225 0, Value.int 4 0, Value.int 0 0, Value.int 0 0, Value.int 3 0, Value.ref 377, Value.bool Bool.true, Value.int 181 0, Value.ref 378, Value.none, Value.none, Value.none, Value.ref 379, Value.int 692 0, Value.int 225 0, Value.str (so "/claim/cut.py") 693]) #[]) ::
  (nat_lit 381, ob (Value.type "function") (Option.none) (Data.func (PySem.W.fnOf "rest_of" "rest_of" (defArgs (top 51)) (defBody (top 51)) (defScope (top 51)) Value.none (Value.none) (Value.none) (Value.str (so "hastebook.rests") 687) (Option.none) (Value.ref 380) (Value.none))) (#[])) ::
  (nat_lit 403, ob (Value.type "tuple") Option.none (Data.seq #[]) #[]) ::
  (nat_lit 405, ob (Value.type "tuple") Option.none (Data.seq #[Value.str (so "_law_script") 726, Value.str (so "_law_k") 727]) #[]) ::
  (nat_lit 406, ob (Value.type "tuple") Option.none (Data.seq #[]) #[]) ::
  (nat_lit 408, ob (Value.type "code") Option.none (Data.fields #[Value.str (so "_law_cell_at") 723, Value.str (so "_law_cell_at") 724, Value.str (so "/claim/cut.py") 725, Value.int 242 0, Value.int 2 0, Value.int 0 0, Value.int 0 0, Value.int 3 0, Value.ref 403, Value.bool Bool.true, Value.int 181 0, Value.ref 404, Value.none, Value.ref 405, Value.ref 406, Value.ref 407, Value.int 728 0, Value.int 242 0, Value.str (so "/claim/cut.py") 729]) #[]) ::
  (nat_lit 409, ob (Value.type "function") (Option.none) (Data.func (PySem.W.fnOf "_law_cell_at" "_law_cell_at" (defArgs (top 56)) (defBody (top 56)) (defScope (top 56)) Value.none (Value.none) (Value.none) (Value.str (so "law_hastebook_k59_wishes_and_rests_refused") 721) (Option.none) (Value.ref 408) (Value.none))) (#[])) ::
  (nat_lit 410, ob (Value.type "tuple") Option.none (Data.seq #[]) #[]) ::
  (nat_lit 412, ob (Value.type "tuple") Option.none (Data.seq #[Value.str (so "_law_cell") 734, Value.str (so "_law_k") 735, Value.str (so "_law_number") 736]) #[]) ::
  (nat_lit 413, ob (Value.type "tuple") Option.none (Data.seq #[]) #[]) ::
  (nat_lit 415, ob (Value.type "code") Option.none (Data.fields #[Value.str (so "_law_mixed") 731, Value.str (so "_law_mixed") 732, Value.str (so "/claim/cut.py") 733, Value.int 246 0, Value.int 2 0, Value.int 0 0, Value.int 0 0, Value.int 3 0, Value.ref 410, Value.bool Bool.true, Value.int 181 0, Value.ref 411, Value.none, Value.ref 412, Value.ref 413, Value.ref 414, Value.int 737 0, Value.int 246 0, Value.str (so "/claim/cut.py") 738]) #[]) ::
  (nat_lit 416, ob (Value.type "function") (Option.none) (Data.func (PySem.W.fnOf "_law_mixed" "_law_mixed" (defArgs (top 57)) (defBody (top 57)) (defScope (top 57)) Value.none (Value.none) (Value.none) (Value.str (so "law_hastebook_k59_wishes_and_rests_refused") 721) (Option.none) (Value.ref 415) (Value.none))) (#[])) ::
  (nat_lit 417, ob (Value.type "tuple") Option.none (Data.seq #[]) #[]) ::
  (nat_lit 419, ob (Value.type "tuple") Option.none (Data.seq #[Value.str (so "_law_cell") 743, Value.str (so "_law_many") 744, Value.str (so "_law_points") 745, Value.str (so "_law_k") 746]) #[]) ::
  (nat_lit 420, ob (Value.type "tuple") Option.none (Data.seq #[]) #[]) ::
  (nat_lit 422, ob (Value.type "code") Option.none (Data.fields #[Value.str (so "_law_names") 740, Value.str (so "_law_names") 741, Value.str (so "/claim/cut.py") 742, Value.int 250 0, Value.int 2 0, Value.int 0 0, Value.int 0 0, Value.int 3 0, Value.ref 417, Value.bool Bool.true, Value.int 181 0, Value.ref 418, Value.none, Value.ref 419, Value.ref 420, Value.ref 421, Value.int 747 0, Value.int 250 0, Value.str (so "/claim/cut.py") 748]) #[]) ::
  (nat_lit 423, ob (Value.type "function") (Option.none) (Data.func (PySem.W.fnOf "_law_names" "_law_names" (defArgs (top 58)) (defBody (top 58)) (defScope (top 58)) Value.none (Value.none) (Value.none) (Value.str (so "law_hastebook_k59_wishes_and_rests_refused") 721) (Option.none) (Value.ref 422) (Value.none))) (#[])) ::
  (nat_lit 424, ob (Value.type "tuple") Option.none (Data.seq #[]) #[]) ::
  (nat_lit 427, ob (Value.type "code") Option.none (Data.fields #[Value.str (so "_law_numbers") 750, Value.str (so "_law_numbers") 751, Value.str (so "/claim/cut.py") 752, Value.int 255 0, Value.int 1 0, Value.int 0 0, Value.int 0 0, Value.int 3 0, Value.ref 424, Value.bool Bool.true, Value.int 181 0, Value.ref 425, Value.none, Value.none, Value.none, Value.ref 426, Value.int 753 0, Value.int 255 0, Value.str (so "/claim/cut.py") 754]) #[]) ::
  (nat_lit 428, ob (Value.type "function") (Option.none) (Data.func (PySem.W.fnOf "_law_numbers" "_law_numbers" (defArgs (top 59)) (defBody (top 59)) (defScope (top 59)) Value.none (Value.none) (Value.none) (Value.str (so "law_hastebook_k59_wishes_and_rests_refused") 721) (Option.none) (Value.ref 427) (Value.none))) (#[])) ::
  (nat_lit 429, ob (Value.type "tuple") Option.none (Data.seq #[]) #[]) ::
  (nat_lit 431, ob (Value.type "tuple") Option.none (Data.seq #[Value.str (so "_law_one") 759, Value.str (so "_law_two") 760, Value.str (so "_law_three") 761, Value.str (so "_law_mode") 762, Value.str (so "_law_unit") 763, Value.str (so "_law_least") 764, Value.str (so "_law_more") 765, Value.str (so "_law_price") 766]) #[]) ::
  (nat_lit 432, ob (Value.type "tuple") Option.none (Data.seq #[]) #[]) ::
  (nat_lit 434, ob (Value.type "code") Option.none (Data.fields #[Value.str (so "_law_work") 756, Value.str (so "_law_work") 757, Value.str (so "/claim/cut.py") 758, Value.int 261 0, Value.int 5 0, Value.int 0 0, Value.int 0 0, Value.int 3 0, Value.ref 429, Value.bool Bool.true, Value.int 181 0, Value.ref 430, Value.none, Value.ref 431, Value.ref 432, Value.ref 433, Value.int 767 0, Value.int 261 0, Value.str (so "/claim/cut.py") 768]) #[]) ::
  (nat_lit 435, ob (Value.type "function") (Option.none) (Data.func (PySem.W.fnOf "_law_work" "_law_work" (defArgs (top 60)) (defBody (top 60)) (defScope (top 60)) Value.none (Value.none) (Value.none) (Value.str (so "law_hastebook_k59_wishes_and_rests_refused") 721) (Option.none) (Value.ref 434) (Value.none))) (#[])) ::
  (nat_lit 436, ob (Value.type "tuple") Option.none (Data.seq #[]) #[]) ::
  (nat_lit 438, ob (Value.type "tuple") Option.none (Data.seq #[Value.str (so "_law_cells") 773, Value.str (so "_law_many") 774, Value.str (so "_law_unit") 775, Value.str (so "_law_base") 776, Value.str (so "_law_works") 777, Value.str (so "_law_k") 778, Value.str (so "_law_left") 779, Value.str (so "_law_least") 780, Value.str (so "_law_more") 781, Value.str (so "_law_order") 782, Value.str (so "_law_needs") 783, Value.str (so "_law_a") 784]) #[]) ::
  (nat_lit 439, ob (Value.type "tuple") Option.none (Data.seq #[]) #[]) ::
  (nat_lit 441, ob (Value.type "code") Option.none (Data.fields #[Value.str (so "_law_lot_free") 770, Value.str (so "_law_lot_free") 771, Value.str (so "/claim/cut.py") 772, Value.int 275 0, Value.int 3 0, Value.int 0 0, Value.int 0 0, Value.int 3 0, Value.ref 436, Value.bool Bool.true, Value.int 181 0, Value.ref 437, Value.none, Value.ref 438, Value.ref 439, Value.ref 440, Value.int 785 0, Value.int 275 0, Value.str (so "/claim/cut.py") 786]) #[]) ::
  (nat_lit 442, ob (Value.type "function") (Option.none) (Data.func (PySem.W.fnOf "_law_lot_free" "_law_lot_free" (defArgs (top 61)) (defBody (top 61)) (defScope (top 61)) Value.none (Value.none) (Value.none) (Value.str (so "law_hastebook_k59_wishes_and_rests_refused") 721) (Option.none) (Value.ref 441) (Value.none))) (#[])) ::
  (nat_lit 443, ob (Value.type "tuple") Option.none (Data.seq #[]) #[]) ::
  (nat_lit 446, ob (Value.type "code") Option.none (Data.fields #[Value.str (so "_law_lot") 788, Value.str (so "_law_lot") 789, Value.str (so "/claim/cut.py") 790, Value.int 297 0, Value.int 3 0, Value.int 0 0, Value.int 0 0, Value.int 3 0, Value.ref 443, Value.bool Bool.true, Value.int 181 0, Value.ref 444, Value.none, Value.none, Value.none, Value.ref 445, Value.int 791 0, Value.int 297 0, Value.str (so "/claim/cut.py") 792]) #[]) ::
  (nat_lit 447, ob (Value.type "function") (Option.none) (Data.func (PySem.W.fnOf "_law_lot" "_law_lot" (defArgs (top 62)) (defBody (top 62)) (defScope (top 62)) Value.none (Value.none) (Value.none) (Value.str (so "law_hastebook_k59_wishes_and_rests_refused") 721) (Option.none) (Value.ref 446) (Value.none))) (#[])) ::
  (nat_lit 448, ob (Value.type "tuple") Option.none (Data.seq #[]) #[]) ::
  (nat_lit 451, ob (Value.type "code") Option.none (Data.fields #[Value.str (so "_law_asked") 794, Value.str (so "_law_asked") 795, Value.str (so "/claim/cut.py") 796, Value.int 315 0, Value.int 4 0, Value.int 0 0, Value.int 0 0, Value.int 3 0, Value.ref 448, Value.bool Bool.true, Value.int 181 0, Value.ref 449, Value.none, Value.none, Value.none, Value.ref 450, Value.int 797 0, Value.int 315 0, Value.str (so "/claim/cut.py") 798]) #[]) ::
  (nat_lit 452, ob (Value.type "function") (Option.none) (Data.func (PySem.W.fnOf "_law_asked" "_law_asked" (defArgs (top 63)) (defBody (top 63)) (defScope (top 63)) Value.none (Value.none) (Value.none) (Value.str (so "law_hastebook_k59_wishes_and_rests_refused") 721) (Option.none) (Value.ref 451) (Value.none))) (#[])) ::
  (nat_lit 453, ob (Value.type "tuple") Option.none (Data.seq #[]) #[]) ::
  (nat_lit 456, ob (Value.type "code") Option.none (Data.fields #[Value.str (so "_law_bent") 800, Value.str (so "_law_bent") 801, Value.str (so "/claim/cut.py") 802, Value.int 326 0, Value.int 3 0, Value.int 0 0, Value.int 0 0, Value.int 3 0, Value.ref 453, Value.bool Bool.true, Value.int 181 0, Value.ref 454, Value.none, Value.none, Value.none, Value.ref 455, Value.int 803 0, Value.int 326 0, Value.str (so "/claim/cut.py") 804]) #[]) ::
  (nat_lit 457, ob (Value.type "function") (Option.none) (Data.func (PySem.W.fnOf "_law_bent" "_law_bent" (defArgs (top 64)) (defBody (top 64)) (defScope (top 64)) Value.none (Value.none) (Value.none) (Value.str (so "law_hastebook_k59_wishes_and_rests_refused") 721) (Option.none) (Value.ref 456) (Value.none))) (#[])) ::
  (nat_lit 458, ob (Value.type "tuple") Option.none (Data.seq #[]) #[]) ::
  (nat_lit 460, ob (Value.type "tuple") Option.none (Data.seq #[Value.str (so "_law_k") 809, Value.str (so "_law_works") 810, Value.str (so "_law_needs") 811, Value.str (so "_law_end") 812, Value.str (so "_law_caught") 813, Value.str (so "e") 814]) #[]) ::
  (nat_lit 461, ob (Value.type "tuple") Option.none (Data.seq #[]) #[]) ::
  (nat_lit 463, ob (Value.type "code") Option.none (Data.fields #[Value.str (so "_law_refused") 806, Value.str (so "_law_refused") 807, Value.str (so "/claim/cut.py") 808, Value.int 339 0, Value.int 4 0, Value.int 0 0, Value.int 0 0, Value.int 3 0, Value.ref 458, Value.bool Bool.true, Value.int 181 0, Value.ref 459, Value.none, Value.ref 460, Value.ref 461, Value.ref 462, Value.int 815 0, Value.int 339 0, Value.str (so "/claim/cut.py") 816]) #[]) ::
  (nat_lit 464, ob (Value.type "function") (Option.none) (Data.func (PySem.W.fnOf "_law_refused" "_law_refused" (defArgs (top 65)) (defBody (top 65)) (defScope (top 65)) Value.none (Value.none) (Value.none) (Value.str (so "law_hastebook_k59_wishes_and_rests_refused") 721) (Option.none) (Value.ref 463) (Value.none))) (#[])) ::
  (nat_lit 465, ob (Value.type "tuple") Option.none (Data.seq #[]) #[]) ::
  (nat_lit 468, ob (Value.type "code") Option.none (Data.fields #[Value.str (so "law") 818, Value.str (so "law") 819, Value.str (so "/claim/cut.py") 820, Value.int 348 0, Value.int 1 0, Value.int 0 0, Value.int 0 0, Value.int 3 0, Value.ref 465, Value.bool Bool.true, Value.int 181 0, Value.ref 466, Value.none, Value.none, Value.none, Value.ref 467, Value.int 821 0, Value.int 348 0, Value.str (so "/claim/cut.py") 822]) #[]) ::
  (nat_lit 469, ob (Value.type "function") (Option.none) (Data.func (PySem.W.fnOf "law" "law" (defArgs (top 66)) (defBody (top 66)) (defScope (top 66)) Value.none (Value.none) (Value.none) (Value.str (so "law_hastebook_k59_wishes_and_rests_refused") 721) (Option.none) (Value.ref 468) (Value.none))) (#[])) :: []
def KA : List Addr := [2, 3, 15, 22, 23, 24, 25, 28, 35, 36, 37, 40, 47, 48, 49, 52, 59, 60, 61, 64, 71, 72, 73, 76, 83, 84, 85, 88, 90, 91, 93, 94, 95, 97, 98, 100, 101, 102, 105, 106, 107, 110, 111, 112, 115, 116, 117, 119, 120, 122, 123, 124, 127, 128, 143, 144, 145, 146, 147, 213, 214, 215, 216, 217, 294, 296, 297, 299, 300, 306, 309, 310, 318, 320, 321, 323, 324, 325, 327, 328, 330, 331, 332, 335, 336, 337, 339, 340, 342, 343, 344, 346, 347, 349, 350, 358, 361, 362, 377, 380, 381, 403, 405, 406, 408, 409, 410, 412, 413, 415, 416, 417, 419, 420, 422, 423, 424, 427, 428, 429, 431, 432, 434, 435, 436, 438, 439, 441, 442, 443, 446, 447, 448, 451, 452, 453, 456, 457, 458, 460, 461, 463, 464, 465, 468, 469]

noncomputable def insAll : Nat → List Obj → BT → BT
  | _, [], t => t
  | i, o :: os, t => insAll (i + 1) os (t.ins i o)
noncomputable def runT (p : Program) (w : World) (m : Nat) (an : Option Value) : Nat → SharedT → Thread → Option SharedT
  | 0, _, _ => none
  | n + 1, s, t => match through t with
    | true => some s
    | false => match stepOk m an t with
      | false => none
      | true => match stepT (denote treeTable) p w s t with
        | some r => runT p w m an n r.1 r.2
        | none => none
theorem run_of {p : Program} {w : World} {m : Nat} {an : Option Value} : ∀ {n : Nat} {s s' : SharedT} {t : Thread}, runT p w m an n s t = some s' → topRun treeTable p w m an n s.abs t = some s'.abs
  | 0, _, _, _, h => by cases h
  | n + 1, s, s', t, h => by
    unfold runT at h
    unfold topRun
    cases h1 : through t with
    | true => rw [h1] at h; cases h; rfl
    | false =>
      rw [h1] at h
      cases h2 : stepOk m an t with
      | false => rw [h2] at h; cases h
      | true =>
        rw [h2] at h
        cases h3 : stepT (denote treeTable) p w s t with
        | none => rw [h3] at h; cases h
        | some r =>
          rw [h3] at h
          rw [show step (denote treeTable) p w s.abs t = .go r.1.abs r.2 from stepT_spec h3]
          exact run_of h
theorem leftOf {p q : Program} {Xt : Shared → Bool} {α : Type} {Yf : Shared → α} {Ya : World → α} {N : Nat} {s0 : World → OsState → SharedT} {ran : World → OsState → Option SharedT} {fin : World → OsState → Shared}
    (hf : ∀ w os, fin w os = ((ran w os).getD (s0 w os)).abs)
    (hr : ∀ w os, ran w os = runT p w (boot_heap w.params).objs.size ((boot_heap w.params).nsMap mainGlobals "__annotations__") N (s0 w os) (topStub p))
    (c0 : (fun (w : World) (os : OsState) => (s0 w os).abs) = fun w os => ⟨boot_heap w.params, Array.mk [], boot_drawn, boot_toks, os⟩)
    (c1 : (fun w : World => (boot_heap w.params).isNs mainGlobals) = fun _ => true)
    (c2 : (fun (w : World) (os : OsState) => (ran w os).isSome) = fun _ _ => true)
    (c3 : (fun (w : World) (os : OsState) => (staticsOk (importedModules p.main.body) (boot_heap w.params) (fin w os).heap && namesBound p (fin w os).heap && gensDone (fin w os)) && laidKept (boot_heap w.params) (fin w os).heap) = fun _ _ => true)
    (c4 : (fun (w : World) (os : OsState) => openSeen q [] (importedModules p.main.body) Xt true (fin w os)) = fun _ _ => openGood q [])
    (c5 : (fun (w : World) (os : OsState) => Yf (fin w os)) = fun w _ => Ya w)
    (c6 : opening p = plainProg p.main.scope.names) (hN : Nat.ble 600 N = true) (hm : ∀ s, fenceModules? p s = some s) : LeftO p q [] Xt Yf Ya N := fun w => by
  obtain ⟨⟨h, gs, d, k, os⟩, e, e'⟩ := Option.map_eq_some_iff.mp (boot_open (p := p) (N := N) c6 hN hm w)
  obtain ⟨rfl, rfl, rfl, rfl⟩ : h = boot_heap w.params ∧ gs = Array.mk [] ∧ d = boot_drawn ∧ k = boot_toks := by simpa using e'
  have r : topRun treeTable p w (boot_heap w.params).objs.size ((boot_heap w.params).nsMap mainGlobals "__annotations__") N ⟨boot_heap w.params, Array.mk [], boot_drawn, boot_toks, os⟩ (topStub p) = some (fin w os) := by
    have q0 : (s0 w os).abs = ⟨boot_heap w.params, Array.mk [], boot_drawn, boot_toks, os⟩ := congrFun (congrFun c0 w) os
    have q2 : (ran w os).isSome = true := congrFun (congrFun c2 w) os
    rw [← q0]
    obtain ⟨x, hx⟩ := Option.isSome_iff_exists.mp q2
    have : fin w os = x.abs := by rw [hf, hx]; rfl
    rw [this]
    rw [hr] at hx
    exact run_of hx
  have t : topFrom treeTable p w N ⟨boot_heap w.params, Array.mk [], boot_drawn, boot_toks, os⟩ = some (fin w os) := by
    unfold topFrom
    dsimp only
    rw [show (boot_heap w.params).isNs mainGlobals = true from congrFun c1 w, r]
    have q3 : ((staticsOk (importedModules p.main.body) (boot_heap w.params) (fin w os).heap && namesBound p (fin w os).heap && gensDone (fin w os)) && laidKept (boot_heap w.params) (fin w os).heap) = true := congrFun (congrFun c3 w) os
    show (match ((staticsOk (importedModules p.main.body) (boot_heap w.params) (fin w os).heap && namesBound p (fin w os).heap && gensDone (fin w os)) && laidKept (boot_heap w.params) (fin w os).heap) with | true => some (fin w os) | false => none) = _
    rw [q3]
  unfold openEnds
  rw [e]
  show (topFrom treeTable p w N _).map _ = _
  rw [t]
  exact congrArg some (Prod.ext (congrFun (congrFun c4 w) os) (congrFun (congrFun c5 w) os))
noncomputable def s0 (w : World) (os : OsState) : SharedT := ⟨insAll 0 (boot_heap w.params).objs.toList .nil, (boot_heap w.params).objs.size, (boot_heap w.params).life, #[], boot_drawn, boot_toks, os⟩
noncomputable def ran (w : World) (os : OsState) : Option SharedT := runT PR w (boot_heap w.params).objs.size ((boot_heap w.params).nsMap mainGlobals "__annotations__") 3780 (s0 w os) (topStub PR)
noncomputable def fin (w : World) (os : OsState) : Shared := ((ran w os).getD (s0 w os)).abs
def vw : Program := view PR [1, 2, 3, 4, 5, 6, 8, 9, 10, 11, 13, 14, 15, 17, 18, 19, 20, 21, 22, 23, 24, 25, 26, 27, 28, 29, 30, 31, 32, 34, 35, 36, 37, 39, 41, 42, 43, 44, 45, 46, 47, 49, 51, 52, 53, 54, 56, 57, 58, 59, 60, 61, 62, 63, 64, 65, 66]
noncomputable def xt (s : Shared) : Bool := xlAt vw [] s && recOk (RowW.records (OpenRow.toRowW (OpenLaw.row PySem.Challenge.rw_hastebook_k59_wishes_and_rests_refused))) s
set_option maxHeartbeats 0 in
theorem c0 : (fun (w : World) (os : OsState) => (s0 w os).abs) = fun w os => ⟨boot_heap w.params, Array.mk [], boot_drawn, boot_toks, os⟩ := by kernel_rfl
theorem c1 : (fun w : World => (boot_heap w.params).isNs mainGlobals) = fun _ => true := by kernel_rfl
set_option maxHeartbeats 0 in
theorem c2 : (fun (w : World) (os : OsState) => (ran w os).isSome) = fun _ _ => true := by kernel_rfl
set_option maxHeartbeats 0 in
theorem c3 : (fun (w : World) (os : OsState) => (staticsOk (importedModules PR.main.body) (boot_heap w.params) (fin w os).heap && namesBound PR (fin w os).heap && gensDone (fin w os)) && laidKept (boot_heap w.params) (fin w os).heap) = fun _ _ => true := by kernel_rfl
set_option maxHeartbeats 0 in
theorem c4 : (fun (w : World) (os : OsState) => openSeen vw [] (importedModules PR.main.body) xt true (fin w os)) = fun _ _ => openGood vw [] := by kernel_rfl
set_option maxHeartbeats 0 in
theorem c5 : (fun (w : World) (os : OsState) => KA.map (fin w os).heap.get?) = fun w _ => (KH w.params).map fun p => some p.2 := by kernel_rfl
theorem c6 : opening PR = plainProg PR.main.scope.names := by kernel_rfl
theorem left : LeftO PR vw [] xt (fun s => KA.map s.heap.get?) (fun w => (KH w.params).map fun p => some p.2) 3780 :=
  leftOf (s0 := s0) (ran := ran) (fin := fin) (fun _ _ => rfl) (fun _ _ => rfl) c0 c1 c2 c3 c4 c5 c6 rfl (fun _ => rfl)
theorem ka (P : Params) : KA = (KH P).map (·.1) := by kernel_rfl
theorem xs : ∀ s, xt s = true → XL vw [] (s.heap.nsMap mainGlobals) s.heap := fun s e => xl_of s (Bool.and_eq_true_iff.mp e).1
theorem rs : ∀ s, xt s = true → RecFacts (RowW.records (OpenRow.toRowW (OpenLaw.row PySem.Challenge.rw_hastebook_k59_wishes_and_rests_refused))) s.heap := fun s e => recFacts_of (Bool.and_eq_true_iff.mp e).2
end HT
/-! LayL -/
set_option linter.all false
set_option maxRecDepth 100000
/-! THE HAND LAYER, for ints, bools, texts, own classes, LISTS and tuples (index, slices, in, append, pop ..), calls, loops. Paste it whole ahead of your own text; what your proof does not reach may be deleted. -/
namespace L2
open PySem PySem.Spec PyProof.Rows

noncomputable abbrev Key := Sum Int Str
noncomputable def keyIs : Key → Value → Bool
  | .inl k, v => Value.isInt k v
  | .inr x, v => Value.isStrOf x v
noncomputable def keyH (w : World) : Key → Int
  | .inl k => hashInt k
  | .inr x => hashStr w x
theorem keyIs_shape : ∀ {k : Key} {v : Value}, keyIs k v = true → (∃ i t, k = Sum.inl i ∧ v = Value.int i t) ∨ (∃ x t, k = Sum.inr x ∧ v = Value.str x t)
  | .inl i, v, h => by
    obtain ⟨t, e⟩ := Value.isInt_shape (k := i) (v := v) h
    exact .inl ⟨i, t, rfl, e⟩
  | .inr x, v, h => by
    obtain ⟨t, e⟩ := Value.isStrOf_shape (x := x) (v := v) h
    exact .inr ⟨x, t, rfl, e⟩
theorem key_ll (a b : Int) : decide ((Sum.inl a : Key) = Sum.inl b) = (a == b) := by
  by_cases e : a = b
  · subst e; simp
  · have h : ¬ (Sum.inl a : Key) = Sum.inl b := fun q => e (Sum.inl.inj q)
    rw [decide_eq_false h]
    exact (beq_eq_false_iff_ne.mpr e).symm
theorem key_rr (a b : Str) : decide ((Sum.inr a : Key) = Sum.inr b) = decide (a = b) := by
  by_cases e : a = b
  · subst e; simp
  · have h : ¬ (Sum.inr a : Key) = Sum.inr b := fun q => e (Sum.inr.inj q)
    rw [decide_eq_false h, decide_eq_false e]
theorem key_lr (a : Int) (b : Str) : decide ((Sum.inl a : Key) = Sum.inr b) = false := decide_eq_false (fun q => nomatch q)
theorem key_rl (a : Str) (b : Int) : decide ((Sum.inr a : Key) = Sum.inl b) = false := decide_eq_false (fun q => nomatch q)

noncomputable def mixKind (prog : Program) (w : World) : PySem.KeyKind prog w Key where
  is := keyIs
  hash := keyH w
  inj := fun v a b ha hb => by
    rcases keyIs_shape ha with ⟨i, t, rfl, rfl⟩ | ⟨x, t, rfl, rfl⟩
    · rcases keyIs_shape hb with ⟨j, u, rfl, e⟩ | ⟨y, u, rfl, e⟩
      · injection e with e1 _; rw [e1]
      · exact nomatch e
    · rcases keyIs_shape hb with ⟨j, u, rfl, e⟩ | ⟨y, u, rfl, e⟩
      · exact nomatch e
      · injection e with e1 _; rw [e1]
  byValue := fun k v h => by
    rcases keyIs_shape h with ⟨i, t, rfl, rfl⟩ | ⟨x, t, rfl, rfl⟩ <;> rfl
  pyHash := fun hv h => by
    rcases keyIs_shape hv with ⟨i, t, rfl, rfl⟩ | ⟨x, t, rfl, rfl⟩
    · exact wpAny_pyHash_int h
    · exact wpAny_pyHash_str h
  eqBool := fun hu hv h => by
    rcases keyIs_shape hu with ⟨i, t, rfl, rfl⟩ | ⟨x, t, rfl, rfl⟩
    · rcases keyIs_shape hv with ⟨j, u, rfl, rfl⟩ | ⟨y, u, rfl, rfl⟩
      · rw [key_ll] at h; exact wpAny_eqBool_int h
      · rw [key_lr] at h; exact SeqAt.EqAt.int_str i t y u _ _ _ _ h
    · rcases keyIs_shape hv with ⟨j, u, rfl, rfl⟩ | ⟨y, u, rfl, rfl⟩
      · rw [key_rl] at h; exact SeqAt.EqAt.str_int x t j u _ _ _ _ h
      · rw [key_rr] at h; exact wpAny_eqBool_str h
  «strs» := fun k x t v h => by
    rcases keyIs_shape h with ⟨i, u, rfl, e⟩ | ⟨y, u, rfl, e⟩
    · exact nomatch e
    · injection e with e1 _
      subst e1
      cases v <;> rfl

end L2

namespace L2
open PySem PySem.Spec PyProof.Rows

inductive V where
  | non | bl (b : Bool) | int (i : Int) | str (x : Str) | byt (b : Array UInt8) | flt (b : UInt64) | ref (a : Addr) | ty (n : String)
  deriving DecidableEq

noncomputable def RelV : V → Value → Prop
  | .non, u => u = Value.none
  | .bl b, u => u = Value.bool b
  | .int i, u => ∃ t, u = Value.int i t
  | .str x, u => ∃ t, u = Value.str x t
  | .byt b, u => ∃ t, u = Value.bytes b t
  | .flt b, u => ∃ t, u = Value.float b t
  | .ref a, u => u = Value.ref a
  | .ty n, u => u = Value.type n

noncomputable abbrev Vals : List V → List Value → Prop := Paired RelV
theorem Vals.length {xs : List V} {us : List Value} (r : Vals xs us) : xs.length = us.length := Paired.length r
theorem Vals.get : ∀ {xs : List V} {us : List Value} {i : Nat} {x : V}, Vals xs us → xs[i]? = some x → ∃ u, us[i]? = some u ∧ RelV x u
  | _, _, _, _, .nil, e => by simp at e
  | _, _, 0, _, .cons r _, e => by simp at e; subst e; exact ⟨_, rfl, r⟩
  | _, _, i + 1, x, .cons _ t, e => by
    obtain ⟨u, h1, h2⟩ := Vals.get (i := i) (x := x) t (by simpa using e)
    exact ⟨u, by simpa using h1, h2⟩
theorem Vals.set {x : V} {u : Value} (r : RelV x u) : ∀ {xs : List V} {us : List Value} (i : Nat), Vals xs us → Vals (xs.set i x) (us.set i u)
  | _, _, _, .nil => .nil
  | _, _, 0, .cons _ t => .cons r t
  | _, _, i + 1, .cons q t => .cons q (Vals.set r i t)
theorem Vals.append : ∀ {xs ys : List V} {us ws : List Value}, Vals xs us → Vals ys ws → Vals (xs ++ ys) (us ++ ws)
  | _, _, _, _, .nil, s => s
  | _, _, _, _, .cons r t, s => .cons r (Vals.append t s)
theorem Vals.take : ∀ {xs : List V} {us : List Value} (n : Nat), Vals xs us → Vals (xs.take n) (us.take n)
  | _, _, 0, _ => .nil
  | _, _, _ + 1, .nil => .nil
  | _, _, n + 1, .cons r t => .cons r (Vals.take n t)
theorem Vals.drop : ∀ {xs : List V} {us : List Value} (n : Nat), Vals xs us → Vals (xs.drop n) (us.drop n)
  | _, _, 0, r => r
  | _, _, _ + 1, .nil => .nil
  | _, _, n + 1, .cons _ t => Vals.drop n t
noncomputable def RelO : Option V → Option Value → Prop
  | some v, some u => RelV v u
  | none, none => True
  | _, _ => False
noncomputable def KV {κ : Type} : List (κ × V) → List (κ × Value) → Prop := Paired fun (p : κ × V) (q : κ × Value) => p.1 = q.1 ∧ RelV p.2 q.2

noncomputable def kV : Key → V
  | .inl i => .int i
  | .inr x => .str x

inductive HO where
  | lst (xs : List V)
  | tup (xs : List V)
  | dK (kvs : List (Key × V)) | dT (kvs : List (List Key × V))
  | set (S : Int → Bool) (n : Nat)
  | ins (C dx : Addr) (fs : List (Str × V))
  | own (x : Addr)
  | xd (fs : List (Str × V))
  | met (f x : Addr)
  | rng (lo hi : Int)
  | frz (o : Obj) (u : HO)
  | tbl (ps : Array Value)
  | ext (φ : Heap → Prop)

noncomputable abbrev Hp := Addr → Option HO
noncomputable def upd (H : Hp) (a : Addr) (o : HO) : Hp := fun b => if b = a then some o else H b
theorem upd_same {H : Hp} {a : Addr} {o : HO} : upd H a o a = some o := by unfold upd; rw [if_pos rfl]
theorem upd_ne {H : Hp} {a b : Addr} {o : HO} (h : b ≠ a) : upd H a o b = H b := by unfold upd; rw [if_neg h]
theorem ne_of_none {H : Hp} {a b : Addr} {o : HO} (h : H a = some o) (h' : H b = none) : a ≠ b := by
  intro e; subst e; rw [h] at h'; cases h'

section
variable (P : Program) (w : World)
noncomputable def ObjOk (H : Hp) (h : Heap) (a : Addr) : HO → Prop
  | .lst xs => xs.length ≤ sizeLine ∧ ∃ (its : List Value) (n : Nat), Vals xs its ∧ h.get? a = some { cls := .type "list", data := .seq its.toArray n }
  | .tup xs => xs.length ≤ sizeLine ∧ ∃ its : List Value, Vals xs its ∧ IsTup h a its.toArray
  | .dK kvs => kvs.length ≤ sizeLine ∧ (a == sysModules) = false ∧ ∃ vs, KV kvs vs ∧ h.DictOf (mixKind P w) a vs
  | .dT kvs => kvs.length ≤ sizeLine ∧ (a == sysModules) = false ∧ ∃ xs : List (List Key × Addr × Value),
      Paired (fun (p : List Key × V) (q : List Key × Addr × Value) => p.1 = q.1 ∧ H q.2.1 = some (.tup (p.1.map kV)) ∧ RelV p.2 q.2.2) kvs xs ∧
      ∃ o es ep, h.get? a = some o ∧ o.ExactDict ∧ o.data = .dict es ep ∧ es.toList = xs.map (entryOfKey (tupleKind (mixKind P w))) ∧ (xs.map (·.1)).Nodup
  | .set S n => h.SetOf (intKind P w) a S n
  | .ins C dx fs => H dx = some (.own a) ∧ fs.length ≤ 1000 ∧ dx ≠ a ∧ h.get? a = some (PySem.W.instObj C dx) ∧
      ∃ mA, h.Ns1 dx mA ∧ (∀ f, RelO (fs.lookup f) (mA f)) ∧ PySem.Within mA (fs.map (·.1))
  | .own _ => ∃ o, h.get? a = some o
  | .xd fs => ∃ mA, h.Ns1 a mA ∧ ∀ f, RelO (fs.lookup f) (mA f)
  | .rng lo hi => ∃ t u v, h.get? a = some { cls := .type "range", data := .fields #[.int lo t, .int hi u, .int 1 v] }
  | .frz o u => h.get? a = some o ∧ ObjOk H h a u
  | .tbl ps => h.get? a = some { cls := .none, data := .fields ps }
  | .met f x => h.get? a = some (PySem.W.methodObj (.ref f) (.ref x))
  | .ext φ => φ h ∧ (∃ o, h.get? a = some o) ∧ ∀ h1 h2 : Heap, φ h1 → (∀ o, h1.get? a = some o → h2.get? a = some o) → φ h2
noncomputable def HOk (H : Hp) (h : Heap) : Prop := ∀ a o, H a = some o → ObjOk P w H h a o
end

section
variable {P : Program} {w : World} {H H' : Hp} {h h' : Heap} {a : Addr} {o : HO}
theorem ObjOk.lt (x : ObjOk P w H h a o) : a < h.objs.size := by
  cases o with
  | lst xs => obtain ⟨_, _, _, _, e⟩ := x; exact Heap.lt_size e
  | tup xs => obtain ⟨_, _, _, p⟩ := x; exact p.lt
  | dK kvs => obtain ⟨_, _, _, _, o, _, _, e, _⟩ := x; exact Heap.lt_size e
  | dT kvs => obtain ⟨_, _, _, _, o, _, _, e, _⟩ := x; exact Heap.lt_size e
  | set S n => obtain ⟨o, _, _, _, e, _⟩ := x; exact Heap.lt_size e
  | ins C dx fs => obtain ⟨_, _, _, e, _⟩ := x; exact Heap.lt_size e
  | own y => obtain ⟨_, e⟩ := x; exact Heap.lt_size e
  | xd fs => obtain ⟨_, ⟨_, _, _, e, _⟩, _⟩ := x; exact Heap.lt_size e
  | rng lo hi => obtain ⟨_, _, _, e⟩ := x; exact Heap.lt_size e
  | frz ob u => obtain ⟨e, _⟩ := x; exact Heap.lt_size e
  | tbl ps => exact Heap.lt_size (show h.get? a = some _ from x)
  | met f y => exact Heap.lt_size (show h.get? a = some _ from x)
  | ext φ => obtain ⟨_, ⟨_, e⟩, _⟩ := x; exact Heap.lt_size e
theorem Paired.mapP {α β : Type} {F G : α → β → Prop} : ∀ {l₁ : List α} {l₂ : List β}, Paired F l₁ l₂ → (∀ a b, F a b → G a b) → Paired G l₁ l₂
  | _, _, .nil, _ => .nil
  | _, _, .cons r t, f => .cons (f _ _ r) (Paired.mapP t f)
theorem ObjOk.stay (x : ObjOk P w H h a o) (k : ∀ b u, (b = a ∨ H b = some (.own a)) → h.get? b = some u → h'.get? b = some u)
    (ho : ∀ b, H b = some (.own a) → H' b = some (.own a)) (ht : ∀ b xs, H b = some (.tup xs) → H' b = some (.tup xs)) : ObjOk P w H' h' a o := by
  induction o with
  | lst xs => obtain ⟨z, its, n, r, e⟩ := x; exact ⟨z, its, n, r, k _ _ (.inl rfl) e⟩
  | tup xs => obtain ⟨z, its, r, ob, e, c⟩ := x; exact ⟨z, its, r, ob, k _ _ (.inl rfl) e, c⟩
  | dK kvs => obtain ⟨z, y, vs, r, ob, es, ep, e, c⟩ := x; exact ⟨z, y, vs, r, ob, es, ep, k _ _ (.inl rfl) e, c⟩
  | dT kvs =>
    obtain ⟨z, y, xs, r, ob, es, ep, e, c⟩ := x
    exact ⟨z, y, xs, Paired.mapP r fun p q z => ⟨z.1, ht _ _ z.2.1, z.2.2⟩, ob, es, ep, k _ _ (.inl rfl) e, c⟩
  | set S n => obtain ⟨ob, es, ep, t, e, c⟩ := x; exact ⟨ob, es, ep, t, k _ _ (.inl rfl) e, c⟩
  | ins C dx fs =>
    obtain ⟨d, z, ne, e, mA, ⟨od, es, ep, e2, c⟩, r⟩ := x
    exact ⟨ho _ d, z, ne, k _ _ (.inl rfl) e, mA, ⟨od, es, ep, k _ _ (.inr d) e2, c⟩, r⟩
  | own y => obtain ⟨ob, e⟩ := x; exact ⟨ob, k _ _ (.inl rfl) e⟩
  | xd fs => obtain ⟨mA, ⟨od, es, ep, e, c⟩, r⟩ := x; exact ⟨mA, ⟨od, es, ep, k _ _ (.inl rfl) e, c⟩, r⟩
  | rng lo hi => obtain ⟨t, u, v, e⟩ := x; exact ⟨t, u, v, k _ _ (.inl rfl) e⟩
  | frz ob u ih => obtain ⟨e, q⟩ := x; exact ⟨k _ _ (.inl rfl) e, ih q⟩
  | tbl ps =>
    have e : h.get? a = some { cls := .none, data := .fields ps } := x
    show h'.get? a = some { cls := .none, data := .fields ps }
    exact k a _ (.inl rfl) e
  | met f y =>
    have e : h.get? a = some (PySem.W.methodObj (.ref f) (.ref y)) := x
    show h'.get? a = some (PySem.W.methodObj (.ref f) (.ref y))
    exact k a _ (.inl rfl) e
  | ext φ => obtain ⟨p, ⟨o, e⟩, st⟩ := x; exact ⟨st _ _ p fun o q => k _ _ (.inl rfl) q, ⟨o, k _ _ (.inl rfl) e⟩, st⟩
theorem HOk.lt (x : HOk P w H h) (e : H a = some o) : a < h.objs.size := (x a o e).lt
theorem HOk.fresh (x : HOk P w H h) (e : h.objs.size ≤ a) : H a = none := by
  cases q : H a with
  | none => rfl
  | some u => exact absurd (Nat.lt_of_lt_of_le (x.lt q) e) (Nat.lt_irrefl _)
theorem HOk.kept (x : HOk P w H h) (k : ∀ b u, h.get? b = some u → h'.get? b = some u) : HOk P w H h' := fun a o e =>
  (x a o e).stay (fun b u _ q => k b u q) (fun _ q => q) fun _ _ q => q
theorem HOk.laid (x : HOk P w H h) (k : ∀ b u, h.get? b = some u → h'.get? b = some u) (hp : h.objs.size ≤ a) (new : ObjOk P w (upd H a o) h' a o) : HOk P w (upd H a o) h' := fun b u e => by
  have hn := x.fresh hp
  by_cases hb : b = a
  · subst hb; rw [upd_same] at e; cases e; exact new
  · rw [upd_ne hb] at e
    exact (x b u e).stay (fun c v _ q => k c v q) (fun c q => by rw [upd_ne (ne_of_none q hn)]; exact q) fun c xs q => by rw [upd_ne (ne_of_none q hn)]; exact q
end

noncomputable def Rd (H : Hp) (a : Addr) (u : HO) : Prop := H a = some u ∨ ∃ o, H a = some (.frz o u)
theorem Rd.of {H : Hp} {a : Addr} {u : HO} (h : H a = some u) : Rd H a u := .inl h
theorem Rd.ok {P : Program} {w : World} {H : Hp} {h : Heap} {a : Addr} {u : HO} (r : Rd H a u) (x : HOk P w H h) : ObjOk P w H h a u := by
  rcases r with r | ⟨o, r⟩
  · exact x a u r
  · obtain ⟨_, q⟩ := x a _ r
    exact q
noncomputable def Mut : Option HO → Prop
  | some (.lst _) => True
  | some (.dK _) => True
  | some (.dT _) => True
  | some (.set _ _) => True
  | some (.ins _ _ _) => True
  | some (.ext _) => True
  | _ => False
section
variable {P : Program} {w : World} {H : Hp} {h h' : Heap} {x e : Addr} {o' : HO}
theorem HOk.write (ok : HOk P w H h) (mu : Mut (H x)) (he : e = x ∨ H e = some (.own x)) (k : ∀ b u, b ≠ e → h.get? b = some u → h'.get? b = some u) (heo : ∃ u, h'.get? e = some u)
    (new : ObjOk P w (upd H x o') h' x o') : HOk P w (upd H x o') h' := fun b u q => by
  have nown : ∀ c y, H c = some (.own y) → c ≠ x := fun c y r z => by subst z; rw [r] at mu; exact mu
  have ntup : ∀ c xs, H c = some (.tup xs) → c ≠ x := fun c xs r z => by subst z; rw [r] at mu; exact mu
  by_cases hb : b = x
  · subst hb; rw [upd_same] at q; cases q; exact new
  · rw [upd_ne hb] at q
    by_cases hbe : b = e
    · have q' : H b = some (.own x) := by
        rcases he with z | z
        · exact absurd (hbe.trans z) hb
        · rw [hbe]; exact z
      rw [q] at q'; cases q'
      obtain ⟨v, hv⟩ := heo
      exact ⟨v, by rw [hbe]; exact hv⟩
    · refine (ok b u q).stay (fun c v hc r => k c v ?_ r) (fun c r => by rw [upd_ne (nown c b r)]; exact r) fun c xs r => by rw [upd_ne (ntup c xs r)]; exact r
      rcases hc with rfl | hc
      · exact hbe
      · rintro rfl
        rcases he with z | z
        · exact nown c b hc z
        · rw [hc] at z; cases z; exact hb rfl
end

/-! ### kept unless tracked; of the frames at fs (the callers') the slots may change (an exception that passes writes there); of the records at ex (iterators) nothing is said -/
structure Un (fs ex : List Addr) (H H' : Hp) (h h' : Heap) : Prop where
  keep : ∀ b o, h.get? b = some o → H b = none → b ∉ fs → b ∉ ex → h'.get? b = some o
  slot : ∀ b o, h.get? b = some o → H b = none → b ∈ fs → b ∉ ex → ∃ sl, h'.get? b = some { o with slots := sl }
  free : ∀ b o, h.get? b = some o → H b = none → b ∉ ex → H' b = none
  there : ∀ b o, h.get? b = some o → b ∉ ex → ∃ o', h'.get? b = some o'
  tups : ∀ b xs, H b = some (.tup xs) → H' b = some (.tup xs)
  frzs : ∀ b o u, H b = some (.frz o u) → H' b = some (.frz o u)
  tbls : ∀ b ps, H b = some (.tbl ps) → ∃ more, H' b = some (.tbl (ps ++ more))
section
variable {fs fs' ex ex' : List Addr} {H H1 H2 : Hp} {h h1 h2 h' : Heap} {a x e : Addr} {o : HO}
theorem Un.any (u : Un fs ex H H1 h h1) {b : Addr} {ob : Obj} (q : h.get? b = some ob) (n : H b = none) (hx : b ∉ ex) : ∃ sl, h1.get? b = some { ob with slots := sl } := by
  by_cases hb : b ∈ fs
  · exact u.slot b ob q n hb hx
  · exact ⟨ob.slots, u.keep b ob q n hb hx⟩
theorem Un.trans (a : Un fs ex H H1 h h1) (b : Un fs ex H1 H2 h1 h2) : Un fs ex H H2 h h2 where
  keep := fun c ob q n hc hx => b.keep c ob (a.keep c ob q n hc hx) (a.free c ob q n hx) hc hx
  slot := fun c ob q n hc hx => by
    obtain ⟨sl, e1⟩ := a.slot c ob q n hc hx
    obtain ⟨sl', e2⟩ := b.slot c _ e1 (a.free c ob q n hx) hc hx
    exact ⟨sl', e2⟩
  free := fun c ob q n hx => by
    obtain ⟨o', e1⟩ := a.there c ob q hx
    exact b.free c o' e1 (a.free c ob q n hx) hx
  there := fun c ob q hx => by
    obtain ⟨o', e1⟩ := a.there c ob q hx
    exact b.there c o' e1 hx
  tups := fun c xs q => b.tups c xs (a.tups c xs q)
  frzs := fun c ob xs q => b.frzs c ob xs (a.frzs c ob xs q)
  tbls := fun c ps q => by
    obtain ⟨m1, e1⟩ := a.tbls c ps q
    obtain ⟨m2, e2⟩ := b.tbls c _ e1
    exact ⟨m1 ++ m2, by rw [e2, Array.append_assoc]⟩
theorem Un.kept (k : ∀ b u, h.get? b = some u → h'.get? b = some u) : Un fs ex H H h h' :=
  ⟨fun b ob q _ _ _ => k b ob q, fun b ob q _ _ _ => ⟨ob.slots, k b ob q⟩, fun _ _ _ n _ => n, fun b ob q _ => ⟨ob, k b ob q⟩, fun _ _ q => q, fun _ _ _ q => q, fun _ ps q => ⟨#[], by rw [q]; simp⟩⟩
theorem Un.refl : Un fs ex H H h h := Un.kept fun _ _ q => q
theorem Un.laid (k : ∀ b u, h.get? b = some u → h'.get? b = some u) (hp : h.objs.size ≤ a) (hn : H a = none) : Un fs ex H (upd H a o) h h' where
  keep := fun b u q _ _ _ => k b u q
  slot := fun b u q _ _ _ => ⟨u.slots, k b u q⟩
  free := fun b u q n _ => by rw [upd_ne (Nat.ne_of_lt (Nat.lt_of_lt_of_le (Heap.lt_size q) hp))]; exact n
  there := fun b u q _ => ⟨u, k b u q⟩
  tups := fun b xs q => by rw [upd_ne (ne_of_none q hn)]; exact q
  frzs := fun b u xs q => by rw [upd_ne (ne_of_none q hn)]; exact q
  tbls := fun b ps q => ⟨#[], by rw [upd_ne (ne_of_none q hn), q]; simp⟩
theorem Un.write (mu : Mut (H x)) (he : e = x ∨ H e = some (.own x)) (k : ∀ b u, b ≠ e → h.get? b = some u → h'.get? b = some u) (heo : ∃ u, h'.get? e = some u) : Un fs ex H (upd H x o) h h' := by
  have hx : ∀ b, H b = none → b ≠ x := fun b n z => by subst z; rw [n] at mu; exact mu
  have hb : ∀ b, H b = none → b ≠ e := fun b n z => by
    subst z
    rcases he with r | r
    · exact hx b n r
    · rw [n] at r; cases r
  have hm : ∀ b u, H b = some u → ¬ Mut (some u) → b ≠ x := fun b u q nm z => by subst z; rw [q] at mu; exact nm mu
  refine ⟨fun b u q n _ _ => k b u (hb b n) q, fun b u q n _ _ => ⟨u.slots, k b u (hb b n) q⟩, fun b u q n _ => by rw [upd_ne (hx b n)]; exact n, fun b u q _ => ?_,
    fun b xs q => by rw [upd_ne (hm b _ q fun z => z)]; exact q, fun b u xs q => by rw [upd_ne (hm b _ q fun z => z)]; exact q, fun b ps q => ⟨#[], by rw [upd_ne (hm b _ q fun z => z), q]; simp⟩⟩
  by_cases hbe : b = e
  · subst hbe; exact heo
  · exact ⟨u, k b u hbe q⟩
theorem Un.mono (u : Un fs ex H H1 h h1) (hs : ∀ b ∈ fs, b ∈ fs') (hx : ∀ b ∈ ex, b ∈ ex') : Un fs' ex' H H1 h h1 :=
  ⟨fun b ob q n hb he => u.keep b ob q n (fun z => hb (hs b z)) fun z => he (hx b z), fun _ _ q n _ he => u.any q n fun z => he (hx _ z), fun b ob q n he => u.free b ob q n fun z => he (hx b z), fun b ob q he => u.there b ob q fun z => he (hx b z), u.tups, u.frzs, u.tbls⟩
end

/-! ### the heap without what is tracked -/
noncomputable def trk (h : Heap) (H : Hp) : List Addr := (List.range h.objs.size).filter fun a => (H a).isSome
noncomputable def hidT (h : Heap) (H : Hp) : Heap := PySem.W.hideAll h (trk h H)
theorem hidT_size (h : Heap) (H : Hp) : (hidT h H).objs.size = h.objs.size := PySem.W.hideAll_size _ _
theorem hidT_get {h : Heap} {H : Hp} {b : Addr} {o : Obj} (e : h.get? b = some o) (n : H b = none) : (hidT h H).get? b = some o :=
  PySem.W.hideAll_get _ e fun hm => by
    have q : (H b).isSome = true := (List.mem_filter.mp hm).2
    rw [n] at q; simp at q
theorem of_hidT {h : Heap} {H : Hp} {b : Addr} {o : Obj} (e : (hidT h H).get? b = some o) : h.get? b = some o ∧ H b = none := by
  have e' : h.get? b = some o := PySem.W.of_hideAll (trk h H) e
  refine ⟨e', ?_⟩
  cases q : H b with
  | none => rfl
  | some x =>
    have hm : b ∈ trk h H := List.mem_filter.mpr ⟨List.mem_range.mpr (Heap.lt_size e'), by simp [q]⟩
    have z : (hidT h H).get? b = none := PySem.W.hideAll_none (trk h H) hm
    rw [z] at e; cases e

/-! ### OpenK's ledger, filled with every new object but one -/
noncomputable def allNews (g h : Heap) (L : Addr) : List (Addr × Obj) := (List.range h.objs.size).filterMap fun a => if a = L ∨ (g.get? a).isSome = true then none else (h.get? a).map fun o => (a, o)
noncomputable def rest (g h : Heap) (L d : Addr) : List (Addr × Obj) := (allNews g h L).filter fun p => decide (p.1 ≠ d)
end L2

namespace L2
open PySem PySem.Spec PyProof.Rows

structure Mod (K : PySem.W.Frag) (mg : Str → Option Value) (base : Heap) : Prop where
  kin : K.In base
  glob : base.Ns mainGlobals mg
  blt : ∃ mb, base.Ns builtinsNs mb ∧ ∀ x : Str, x ≠ "__name__" → mb x = bootBuiltins x
  nolimit : base.NoLimit

structure Cx where
  prog : Program
  w : World
  K : PySem.W.Frag
  mg : Str → Option Value
  base : Heap
  A : Around
  N : List Str
  s₀ : Shared
  H₀ : Hp
  env : Env
  outer : List Env
  stack : List Env
  ex : List Addr
  fn : Str → Bool
  calm : Bool
  pn : List (Addr × Obj)
  xe : Value → Shared → Prop
noncomputable def frs (l : List Env) : List Addr := l.filterMap (·.frame)
noncomputable abbrev Cx.fs (X : Cx) : List Addr := frs X.outer

noncomputable def Vis (sc : Scope) (x : Str) : Prop := sc.names.lookup x = some .local ∨ sc.names.lookup x = some .cell ∨ sc.names.lookup x = some .free
noncomputable def Loc (sc : Scope) (x : Str) : Prop := sc.names.lookup x = some .local ∨ sc.names.lookup x = some .cell
noncomputable def Look (env : Env) (h : Heap) (m : Str → Option Value) (x : Str) (u : Value) : Prop :=
  (env.kindOf x = some .local ∧ m x = some u) ∨ ((env.kindOf x = some .cell ∨ env.kindOf x = some .free) ∧ ∃ c, env.cells.lookup x = some c ∧ h.IsCell c (some u))

structure Cx.Ok (X : Cx) : Prop where
  mod : Mod X.K X.mg X.base
  kind : X.env.scope.kind = .function
  glob : X.env.globals = mainGlobals
  blt : X.env.builtins = builtinsNs
  above : X.s₀.heap.objs.size ≤ X.env.locals
  inj : ∀ x y c, X.env.cells.lookup x = some c → X.env.cells.lookup y = some c → x = y
  has : ∀ x, (X.env.kindOf x = some .cell ∨ X.env.kindOf x = some .free) → ∃ c, X.env.cells.lookup x = some c
  cab : ∀ x c, X.fn x = true → X.env.cells.lookup x = some c → X.s₀.heap.objs.size ≤ c
  hd : X.calm = true → X.A.handled = none
  frames : X.A.frames = some X.stack
  stk : X.stack = X.outer ∨ (X.stack = X.env :: X.outer ∧ X.env.frame = some X.env.locals)
  exf : ∀ b ∈ X.ex, b ≠ X.env.locals ∧ ∀ x c, X.env.cells.lookup x = some c → c ≠ b
  bs : ∀ b o, X.base.get? b = some o → X.s₀.heap.get? b = some o ∧ X.H₀ b = none
  bsz : X.base.objs.size ≤ X.s₀.heap.objs.size
  noex : ∀ b o, X.base.get? b = some o → b ∉ X.ex
  exfs : ∀ b ∈ X.ex, b ∉ X.fs
  funs : X.s₀.heap.FunFrames X.base X.outer
  frf : ∀ b ∈ X.fs, X.H₀ b = none

structure Inv (X : Cx) (pins : List (Addr × Obj)) (σ : List (Option V)) (H : Hp) (s : Shared) : Prop where
  ok : X.Ok
  os : s.os = X.s₀.os
  bare : AllBare s.gens
  base : Un X.fs X.ex X.H₀ H X.s₀.heap s.heap
  loc : ∃ m, s.heap.Ns X.env.locals m ∧ ∀ (i : Nat) (x : Str) (v : V), X.N[i]? = some x → σ[i]? = some (some v) → Vis X.env.scope x → ∃ u, RelV v u ∧ Look X.env s.heap m x u
  cell : ∀ x c, X.env.cells.lookup x = some c → ∃ v, s.heap.IsCell c v
  free : H X.env.locals = none
  freeC : ∀ x c, X.env.cells.lookup x = some c → H c = none
  pin : ∀ p ∈ X.pn ++ pins, s.heap.get? p.1 = some p.2 ∧ H p.1 = none ∧ p.1 ≠ X.env.locals ∧ p.1 ∉ X.fs ∧ ∀ v, p.2.data ≠ .cell v
  hok : HOk X.prog X.w H s.heap
  len : σ.length = X.N.length

section
variable {X : Cx} {pins : List (Addr × Obj)} {σ : List (Option V)} {H H' : Hp} {s : Shared} {h' : Heap}

theorem Cx.Ok.nofr (ok : X.Ok) {b : Addr} {o : Obj} (e : X.base.get? b = some o) : b ∉ X.fs := fun hb => by
  have := (ok.funs.mem hb).1
  rw [e] at this; cases this
theorem Inv.bs (I : Inv X pins σ H s) : ∀ b o, X.base.get? b = some o → s.heap.get? b = some o ∧ H b = none := fun b o e =>
  ⟨I.base.keep b o (I.ok.bs b o e).1 (I.ok.bs b o e).2 (I.ok.nofr e) (I.ok.noex b o e), I.base.free b o (I.ok.bs b o e).1 (I.ok.bs b o e).2 (I.ok.noex b o e)⟩
theorem Inv.bk (I : Inv X pins σ H s) : ∀ b o, X.base.get? b = some o → s.heap.get? b = some o := fun b o e => (I.bs b o e).1
theorem Inv.mod (I : Inv X pins σ H s) : Mod X.K X.mg X.base := I.ok.mod
theorem Inv.kIn (I : Inv X pins σ H s) : X.K.In s.heap := I.ok.mod.kin.keeps I.bk
theorem Inv.nolimit (I : Inv X pins σ H s) : s.heap.NoLimit := I.ok.mod.nolimit.keeps I.bk
theorem Inv.fr (I : Inv X pins σ H s) : ∃ m, Fr X.base X.env.locals s.heap m :=
  let ⟨m, hn, _⟩ := I.loc
  ⟨m, hn, I.bk, Nat.le_trans I.ok.bsz I.ok.above⟩
theorem Inv.lt (I : Inv X pins σ H s) : X.env.locals < s.heap.objs.size := let ⟨_, hn, _⟩ := I.loc; hn.lt
theorem Inv.sz (I : Inv X pins σ H s) : X.s₀.heap.objs.size ≤ s.heap.objs.size := Nat.le_trans I.ok.above (Nat.le_of_lt I.lt)
theorem Inv.nofs (I : Inv X pins σ H s) {a : Addr} (h : s.heap.objs.size ≤ a) : a ∉ X.fs := fun hb => by
  obtain ⟨_, o, ho, _⟩ := I.ok.funs.mem hb
  exact absurd (Nat.lt_of_lt_of_le (Heap.lt_size ho) (Nat.le_trans I.sz h)) (Nat.lt_irrefl _)
theorem Inv.cne (I : Inv X pins σ H s) : ∀ x c, X.env.cells.lookup x = some c → c ≠ X.env.locals := fun x c e z => by
  obtain ⟨v, o, ho, hd⟩ := I.cell x c e
  obtain ⟨m, ⟨o', es, ep, ho', hd', _⟩, _⟩ := I.loc
  rw [z, ho'] at ho; cases ho; rw [hd'] at hd; cases hd
theorem Inv.funs (I : Inv X pins σ H s) : s.heap.FunFrames X.base X.outer := by
  have all : ∀ (l : List Env), (∀ b ∈ frs l, b ∈ X.fs) → X.s₀.heap.FunFrames X.base l → s.heap.FunFrames X.base l := by
    intro l
    induction l with
    | nil => intro _ _; trivial
    | cons env r ih =>
      intro hs hl
      obtain ⟨hk, ⟨L, o, hf, hn, ho, hd⟩, hr⟩ := hl
      have hL : L ∈ X.fs := hs L (by unfold frs; rw [List.filterMap_cons, hf]; exact List.mem_cons_self)
      obtain ⟨sl, e⟩ := I.base.slot L o ho (I.ok.frf L hL) hL fun z => I.ok.exfs L z hL
      exact ⟨hk, ⟨L, _, hf, hn, e, hd⟩, ih (fun b hb => hs b (by unfold frs; rw [List.filterMap_cons, hf]; exact List.mem_cons_of_mem _ hb)) hr⟩
  exact all X.outer (fun _ hb => hb) I.ok.funs

theorem Inv.stack (I : Inv X pins σ H s) : s.heap.FunFrames X.base X.stack := by
  rcases I.ok.stk with e | ⟨e, hf⟩
  · rw [e]; exact I.funs
  · rw [e]
    obtain ⟨m, hn, _⟩ := I.loc
    refine .cons (by rw [I.ok.kind]; decide) hf hn ?_ I.funs
    exact Heap.get?_none_of_le (Nat.le_trans I.ok.bsz I.ok.above)
theorem Inv.stkSub (I : Inv X pins σ H s) : ∀ b ∈ frs X.stack, b ∈ X.env.locals :: X.fs := fun b hb => by
  rcases I.ok.stk with e | ⟨e, hf⟩
  · rw [e] at hb; exact List.mem_cons_of_mem _ hb
  · rw [e] at hb
    unfold frs at hb
    rw [List.filterMap_cons, hf] at hb
    exact hb
theorem Inv.stkFree (I : Inv X pins σ H s) : ∀ b ∈ frs X.stack, H b = none := fun b hb => by
  rcases List.mem_cons.mp (I.stkSub b hb) with e | hb
  · rw [e]; exact I.free
  · obtain ⟨_, o, ho, _⟩ := I.ok.funs.mem hb
    exact I.base.free b o ho (I.ok.frf b hb) fun z => I.ok.exfs b z hb

theorem Inv.step {g' : Array GenState} {t' : Nat} {d' : Drawn} {ch : List Addr} (I : Inv X pins σ H s)
    (hch : ∀ b ∈ ch, (b ∈ X.ex ∨ X.s₀.heap.objs.size ≤ b) ∧ b ≠ X.env.locals ∧ (∀ x c, X.env.cells.lookup x = some c → c ≠ b) ∧ ∀ p ∈ X.pn ++ pins, p.1 ≠ b)
    (keep : ∀ b o, b ≠ X.env.locals → b ∉ X.fs → b ∉ ch → s.heap.get? b = some o → H b = none → h'.get? b = some o)
    (slot : ∀ b o, b ≠ X.env.locals → b ∈ X.fs → b ∉ ch → s.heap.get? b = some o → H b = none → ∃ sl, h'.get? b = some { o with slots := sl }) (free : ∀ b o, b ∉ ch → s.heap.get? b = some o → H b = none → H' b = none)
    (there : ∀ b o, b ∉ ch → s.heap.get? b = some o → ∃ o', h'.get? b = some o')
    (tups : ∀ b xs, H b = some (.tup xs) → H' b = some (.tup xs)) (frzs : ∀ b o u, H b = some (.frz o u) → H' b = some (.frz o u)) (tbls : ∀ b ps, H b = some (.tbl ps) → ∃ more, H' b = some (.tbl (ps ++ more)))
    (ns : ∀ m, s.heap.Ns X.env.locals m → h'.Ns X.env.locals m) (hok : HOk X.prog X.w H' h') (hg : AllBare g') :
    Inv X pins σ H' { s with heap := h', gens := g', drawn := d', toks := t' } := by
  have neL : ∀ b o, X.s₀.heap.get? b = some o → b ≠ X.env.locals := fun b o e => Nat.ne_of_lt (Nat.lt_of_lt_of_le (Heap.lt_size e) I.ok.above)
  have neC : ∀ b o, X.s₀.heap.get? b = some o → b ∉ X.ex → b ∉ ch := fun b o e hx hb => by
    rcases (hch b hb).1 with z | z
    · exact hx z
    · exact absurd (Nat.lt_of_lt_of_le (Heap.lt_size e) z) (Nat.lt_irrefl _)
  have cellK : ∀ x c, X.env.cells.lookup x = some c → ∀ v, s.heap.IsCell c v → h'.IsCell c v := fun x c e v ⟨o, ho, hd⟩ => by
    have nch : c ∉ ch := fun z => (hch c z).2.2.1 x c e rfl
    by_cases hc : c ∈ X.fs
    · obtain ⟨sl, q⟩ := slot c o (I.cne x c e) hc nch ho (I.freeC x c e)
      exact ⟨_, q, hd⟩
    · exact ⟨o, keep c o (I.cne x c e) hc nch ho (I.freeC x c e), hd⟩
  refine ⟨I.ok, I.os, hg, ⟨fun b o e n hb hx => ?_, fun b o e n hb hx => ?_, fun b o e n hx => ?_, fun b o e hx => ?_, fun b xs e => tups b xs (I.base.tups b xs e), fun b o xs e => frzs b o xs (I.base.frzs b o xs e), fun b ps e => ?_⟩, ?_, fun x c e => ?_, ?_, fun x c e => ?_, fun p hp => ?_, hok, I.len⟩
  · exact keep b o (neL b o e) hb (neC b o e hx) (I.base.keep b o e n hb hx) (I.base.free b o e n hx)
  · obtain ⟨sl, e1⟩ := I.base.slot b o e n hb hx
    obtain ⟨sl', e2⟩ := slot b _ (neL b o e) hb (neC b o e hx) e1 (I.base.free b o e n hx)
    exact ⟨sl', e2⟩
  · obtain ⟨o', e1⟩ := I.base.there b o e hx
    exact free b o' (neC b o e hx) e1 (I.base.free b o e n hx)
  · obtain ⟨o', e1⟩ := I.base.there b o e hx
    exact there b o' (neC b o e hx) e1
  · obtain ⟨m1, e1⟩ := I.base.tbls b ps e
    obtain ⟨m2, e2⟩ := tbls b _ e1
    exact ⟨m1 ++ m2, by rw [e2, Array.append_assoc]⟩
  · obtain ⟨m, hn, hl⟩ := I.loc
    refine ⟨m, ns m hn, fun i x v e1 e2 e3 => ?_⟩
    obtain ⟨u, r, l⟩ := hl i x v e1 e2 e3
    refine ⟨u, r, ?_⟩
    rcases l with l | ⟨k, c, e, z⟩
    · exact .inl l
    · exact .inr ⟨k, c, e, cellK x c e _ z⟩
  · obtain ⟨v, z⟩ := I.cell x c e
    exact ⟨v, cellK x c e v z⟩
  · obtain ⟨m, ⟨o, _, _, ho, _⟩, _⟩ := I.loc
    exact free _ o (fun z => (hch _ z).2.1 rfl) ho I.free
  · obtain ⟨v, o, ho, hd⟩ := I.cell x c e
    exact free c o (fun z => (hch c z).2.2.1 x c e rfl) ho (I.freeC x c e)
  · obtain ⟨e, n, ne, nf, d⟩ := I.pin p hp
    have nch : p.1 ∉ ch := fun z => (hch p.1 z).2.2.2 p hp rfl
    exact ⟨keep p.1 p.2 ne nf nch e n, free p.1 p.2 nch e n, ne, nf, d⟩
theorem Inv.un {t' : Nat} (I : Inv X pins σ H s) (u : Un X.fs [] H H' s.heap h') (hok : HOk X.prog X.w H' h') : Inv X pins σ H' { s with heap := h', toks := t' } := by
  obtain ⟨m, ⟨o, es, ep, ho, r⟩, _⟩ := id I.loc
  obtain ⟨sl, hL⟩ := u.any ho I.free (by simp)
  exact I.step (g' := s.gens) (d' := s.drawn) (ch := []) (fun _ z => nomatch z) (fun b o _ hb _ e n => u.keep b o e n hb (by simp)) (fun b o _ hb _ e n => u.slot b o e n hb (by simp)) (fun b o _ e n => u.free b o e n (by simp)) (fun b o _ e => u.there b o e (by simp)) u.tups u.frzs u.tbls (fun m' hm => by
    obtain ⟨o', es', ep', ho', r'⟩ := hm
    rw [ho] at ho'; cases ho'
    exact ⟨_, es', ep', hL, r'⟩) hok I.bare
theorem Inv.call {g' : Array GenState} {t' : Nat} {d' : Drawn} {ch : List Addr} (I : Inv X pins σ H s) (u : Un (frs X.stack) ch H H' s.heap h') (hok : HOk X.prog X.w H' h') (hg : AllBare g')
    (hch : ∀ b ∈ ch, (b ∈ X.ex ∨ X.s₀.heap.objs.size ≤ b) ∧ b ≠ X.env.locals ∧ (∀ x c, X.env.cells.lookup x = some c → c ≠ b) ∧ ∀ p ∈ X.pn ++ pins, p.1 ≠ b) :
    Inv X pins σ H' { s with heap := h', gens := g', drawn := d', toks := t' } := by
  obtain ⟨m, ⟨o, es, ep, ho, r⟩, _⟩ := id I.loc
  obtain ⟨sl, hL⟩ := u.any ho I.free fun z => (hch _ z).2.1 rfl
  exact I.step (ch := ch) hch (fun b o hL hb hc e n => u.keep b o e n (fun z => (List.mem_cons.mp (I.stkSub b z)).elim hL hb) hc) (fun b o _ _ hc e n => u.any e n hc) (fun b o hc e n => u.free b o e n hc) (fun b o hc e => u.there b o e hc) u.tups u.frzs u.tbls (fun m' hm => by
    obtain ⟨o', es', ep', ho', r'⟩ := hm
    rw [ho] at ho'; cases ho'
    exact ⟨_, es', ep', hL, r'⟩) hok hg
theorem Inv.turned {t' : Nat} {it : Addr} (I : Inv X pins σ H s) (k : ∀ b o, b ≠ it → s.heap.get? b = some o → h'.get? b = some o) (hn : H it = none) (hL : it ≠ X.env.locals)
    (h1 : it ∈ X.ex ∨ X.s₀.heap.objs.size ≤ it) (h2 : ∀ x c, X.env.cells.lookup x = some c → c ≠ it) (h3 : ∀ p ∈ X.pn ++ pins, p.1 ≠ it) : Inv X pins σ H { s with heap := h', toks := t' } := by
  have nit : ∀ b u, H b = some u → b ≠ it := fun b u e z => by rw [z, hn] at e; cases e
  refine I.step (g' := s.gens) (d' := s.drawn) (ch := [it]) (fun b hb => ?_) (fun b o _ _ hc e _ => k b o (fun z => hc (by simp [z])) e) (fun b o _ _ hc e _ => ⟨o.slots, k b o (fun z => hc (by simp [z])) e⟩) (fun _ _ _ _ n => n)
    (fun b o hc e => ⟨o, k b o (fun z => hc (by simp [z])) e⟩) (fun _ _ e => e) (fun _ _ _ e => e) (fun b ps e => ⟨#[], by rw [e]; simp⟩) (fun m hm => ?_) (fun b u e => ?_) I.bare
  · have e : b = it := by simpa using hb
    subst e
    exact ⟨h1, hL, h2, h3⟩
  · obtain ⟨o, es, ep, ho, r⟩ := hm
    exact ⟨o, es, ep, k _ o (Ne.symm hL) ho, r⟩
  · refine (I.hok b u e).stay (fun c v hc q => k c v ?_ q) (fun _ q => q) fun _ _ q => q
    rcases hc with z | z
    · rw [z]; exact nit b u e
    · exact nit c _ z
theorem Inv.tok (I : Inv X pins σ H s) (t : Nat) : Inv X pins σ H { s with toks := t } := I.un (h' := s.heap) (t' := t) Un.refl I.hok
theorem Inv.kept {t' : Nat} (I : Inv X pins σ H s) (k : ∀ b u, s.heap.get? b = some u → h'.get? b = some u) : Inv X pins σ H { s with heap := h', toks := t' } := I.un (Un.kept k) (I.hok.kept k)
theorem Inv.laid {a : Addr} {o : HO} {t' : Nat} (I : Inv X pins σ H s) (k : ∀ b u, s.heap.get? b = some u → h'.get? b = some u) (hp : s.heap.objs.size ≤ a) (new : ObjOk X.prog X.w (upd H a o) h' a o) :
    Inv X pins σ (upd H a o) { s with heap := h', toks := t' } := I.un (Un.laid k hp (I.hok.fresh hp)) (I.hok.laid k hp new)
theorem Inv.write {x e : Addr} {o : HO} {t' : Nat} (I : Inv X pins σ H s) (mu : Mut (H x)) (he : e = x ∨ H e = some (.own x)) (k : ∀ b u, b ≠ e → s.heap.get? b = some u → h'.get? b = some u) (heo : ∃ u, h'.get? e = some u)
    (new : ObjOk X.prog X.w (upd H x o) h' x o) : Inv X pins σ (upd H x o) { s with heap := h', toks := t' } := I.un (Un.write mu he k heo) (I.hok.write mu he k heo new)
theorem Inv.weak {σ' : List (Option V)} (I : Inv X pins σ H s) (hl : σ'.length = σ.length) (w : ∀ (i : Nat) v, σ'[i]? = some (some v) → σ[i]? = some (some v)) : Inv X pins σ' H s :=
  ⟨I.ok, I.os, I.bare, I.base, let ⟨m, hn, hl'⟩ := I.loc; ⟨m, hn, fun i x v e1 e2 e3 => hl' i x v e1 (w i v e2) e3⟩, I.cell, I.free, I.freeC, I.pin, I.hok, hl.trans I.len⟩
theorem Inv.pins_of {pins' : List (Addr × Obj)} (I : Inv X pins σ H s) (h : ∀ p ∈ pins', s.heap.get? p.1 = some p.2 ∧ H p.1 = none ∧ p.1 ≠ X.env.locals ∧ p.1 ∉ X.fs ∧ ∀ v, p.2.data ≠ .cell v) : Inv X pins' σ H s :=
  ⟨I.ok, I.os, I.bare, I.base, I.loc, I.cell, I.free, I.freeC, fun p hp => (List.mem_append.mp hp).elim (fun z => I.pin p (List.mem_append_left _ z)) (h p), I.hok, I.len⟩

theorem nodup_ix {N : List Str} (hN : N.Nodup) {i j : Nat} {x : Str} (a : N[i]? = some x) (b : N[j]? = some x) : i = j := by
  obtain ⟨h1, e1⟩ := List.getElem?_eq_some_iff.mp a
  obtain ⟨h2, e2⟩ := List.getElem?_eq_some_iff.mp b
  exact (List.getElem_inj hN).mp (e1.trans e2.symm)

theorem store_ok2 {M : Model} {A : Around} {E : Value → Shared → Prop} {i : Nat} {x : Str} {v : V} {u : Value} {Q : Unit → Shared → Prop} (I : Inv X pins σ H s) (hN : X.N.Nodup) (hi : X.N[i]? = some x) (hx : Loc X.env.scope x) (r : RelV v u)
    (h : ∀ s', Inv X pins (σ.set i (some v)) H s' → (∃ a, Heap.SameBut a s.heap s'.heap ∧ (a = X.env.locals ∨ X.env.cells.lookup x = some a)) → Q () s') (hf : X.fn x = true ∨ X.env.scope.names.lookup x = some .local := by first | exact .inl rfl | exact .inr rfl | assumption) : wpAny M A (storeName X.env x u) Q E s := by
  obtain ⟨m, hn, hl⟩ := id I.loc
  have hcls : (X.env.scope.kind == .class || (X.env.scope.kind == .module && X.env.locals != X.env.globals)) = false := by rw [I.ok.kind]; rfl
  have hiσ : i < σ.length := by rw [I.len]; exact (List.getElem?_eq_some_iff.mp hi).1
  have cne := I.cne
  have tracked : ∀ {a : Addr} {h' : Heap}, (∃ o, s.heap.get? a = some o ∧ H a = none) → Heap.SameBut a s.heap h' → HOk X.prog X.w H h' := fun {a h'} ha hs b ob e => by
    obtain ⟨_, _, hfree⟩ := ha
    refine (I.hok b ob e).stay (fun c w' hc q => (hs.2 c ?_).trans q) (fun _ q => q) fun _ _ q => q
    rintro rfl
    rcases hc with rfl | hc
    · rw [hfree] at e; cases e
    · rw [hfree] at hc; cases hc
  rcases hx with hk | hk
  · refine wpAny_storeName_local hk hn (fun h' hn' hs => ?_) hcls
    obtain ⟨oL, _, _, hoL, _⟩ := id hn
    refine h _ ⟨I.ok, I.os, I.bare, ⟨fun b o e n hb hx => ?_, fun b o e n hb hx => ?_, I.base.free, fun b o e hx => ?_, I.base.tups, I.base.frzs, I.base.tbls⟩, ⟨_, hn', fun j y v' e1 e2 e3 => ?_⟩, fun y c e => ?_, I.free, I.freeC, fun p hp => ?_, tracked ⟨oL, hoL, I.free⟩ hs, by simpa using I.len⟩ ⟨_, hs, .inl rfl⟩
    · exact (hs.2 b (Nat.ne_of_lt (Nat.lt_of_lt_of_le (Heap.lt_size e) I.ok.above))).trans (I.base.keep b o e n hb hx)
    · obtain ⟨sl, e1⟩ := I.base.slot b o e n hb hx
      exact ⟨sl, (hs.2 b (Nat.ne_of_lt (Nat.lt_of_lt_of_le (Heap.lt_size e) I.ok.above))).trans e1⟩
    · obtain ⟨o', e1⟩ := I.base.there b o e hx
      exact ⟨o', (hs.2 b (Nat.ne_of_lt (Nat.lt_of_lt_of_le (Heap.lt_size e) I.ok.above))).trans e1⟩
    · by_cases hj : j = i
      · subst hj
        rw [hi] at e1; cases e1
        rw [List.getElem?_set_self hiσ] at e2
        cases e2
        exact ⟨u, r, .inl ⟨hk, by simp⟩⟩
      · rw [List.getElem?_set_ne (Ne.symm hj)] at e2
        obtain ⟨u', r', q⟩ := hl j y v' e1 e2 e3
        refine ⟨u', r', ?_⟩
        rcases q with ⟨k, e⟩ | ⟨k, c, e, z⟩
        · refine .inl ⟨k, ?_⟩
          have : y ≠ x := fun e => hj (nodup_ix hN e1 (e ▸ hi))
          simp [this, e]
        · exact .inr ⟨k, c, e, z.sameBut hs (cne y c e)⟩
    · obtain ⟨w', z⟩ := I.cell y c e
      exact ⟨w', z.sameBut hs (cne y c e)⟩
    · obtain ⟨e, n, ne, nf, d⟩ := I.pin p hp
      exact ⟨(hs.2 p.1 ne).trans e, n, ne, nf, d⟩
  · have hfn : X.fn x = true := by
      rcases hf with z | z
      · exact z
      · rw [z] at hk; cases hk
    obtain ⟨c, hc⟩ := I.ok.has x (.inl hk)
    obtain ⟨w', z⟩ := I.cell x c hc
    refine wpAny_storeName_cell I.ok.kind hk hc z (fun h' hc' hs => ?_)
    obtain ⟨oc, hoc, hocd⟩ := id z
    refine h { s with heap := h' } ⟨I.ok, I.os, I.bare, ⟨fun b o e n hb hx => ?_, fun b o e n hb hx => ?_, I.base.free, fun b o e hx => ?_, I.base.tups, I.base.frzs, I.base.tbls⟩, ⟨m, hn.sameBut hs (Ne.symm (cne x c hc)), fun j y v' e1 e2 e3 => ?_⟩, fun y c' e => ?_, I.free, I.freeC, fun p hp => ?_, tracked ⟨oc, hoc, I.freeC x c hc⟩ hs, by simpa using I.len⟩ ⟨c, hs, .inr hc⟩
    · exact (hs.2 b (Nat.ne_of_lt (Nat.lt_of_lt_of_le (Heap.lt_size e) (I.ok.cab x c hfn hc)))).trans (I.base.keep b o e n hb hx)
    · obtain ⟨sl, e1⟩ := I.base.slot b o e n hb hx
      exact ⟨sl, (hs.2 b (Nat.ne_of_lt (Nat.lt_of_lt_of_le (Heap.lt_size e) (I.ok.cab x c hfn hc)))).trans e1⟩
    · obtain ⟨o', e1⟩ := I.base.there b o e hx
      exact ⟨o', (hs.2 b (Nat.ne_of_lt (Nat.lt_of_lt_of_le (Heap.lt_size e) (I.ok.cab x c hfn hc)))).trans e1⟩
    · by_cases hj : j = i
      · subst hj
        rw [hi] at e1; cases e1
        rw [List.getElem?_set_self hiσ] at e2
        cases e2
        exact ⟨u, r, .inr ⟨.inl hk, c, hc, hc'⟩⟩
      · rw [List.getElem?_set_ne (Ne.symm hj)] at e2
        obtain ⟨u', r', q⟩ := hl j y v' e1 e2 e3
        refine ⟨u', r', ?_⟩
        rcases q with q | ⟨k, c', e, z'⟩
        · exact .inl q
        · refine .inr ⟨k, c', e, z'.sameBut hs ?_⟩
          rintro rfl
          exact hj (nodup_ix hN e1 (I.ok.inj _ _ _ e hc ▸ hi))
    · by_cases hcc : c' = c
      · subst hcc; exact ⟨_, hc'⟩
      · obtain ⟨w2, z2⟩ := I.cell y c' e
        exact ⟨w2, z2.sameBut hs hcc⟩
    · obtain ⟨e, n, ne, nf, d⟩ := I.pin p hp
      refine ⟨(hs.2 p.1 ?_).trans e, n, ne, nf, d⟩
      intro q
      rw [q, hoc] at e
      have q' : oc = p.2 := Option.some.inj e
      exact d w' (by rw [← q']; exact hocd)
theorem store_ok {M : Model} {A : Around} {E : Value → Shared → Prop} {i : Nat} {x : Str} {v : V} {u : Value} {Q : Unit → Shared → Prop} (I : Inv X pins σ H s) (hN : X.N.Nodup) (hi : X.N[i]? = some x) (hx : Loc X.env.scope x) (r : RelV v u)
    (h : ∀ s', Inv X pins (σ.set i (some v)) H s' → Q () s') (hf : X.fn x = true ∨ X.env.scope.names.lookup x = some .local := by first | exact .inl rfl | exact .inr rfl | assumption) : wpAny M A (storeName X.env x u) Q E s :=
  store_ok2 I hN hi hx r (fun s' I' _ => h s' I') hf
theorem Inv.call' {s' : Shared} {ch : List Addr} (I : Inv X pins σ H s) (ho : s'.os = s.os) (u : Un (frs X.stack) ch H H' s.heap s'.heap) (hok : HOk X.prog X.w H' s'.heap) (hg : AllBare s'.gens)
    (hch : ∀ b ∈ ch, (b ∈ X.ex ∨ X.s₀.heap.objs.size ≤ b) ∧ b ≠ X.env.locals ∧ (∀ x c, X.env.cells.lookup x = some c → c ≠ b) ∧ ∀ p ∈ X.pn ++ pins, p.1 ≠ b) : Inv X pins σ H' s' := by
  obtain ⟨h', g', d', t', o'⟩ := s'
  have e : o' = s.os := ho
  subst e
  exact I.call (g' := g') (t' := t') (d' := d') u hok hg hch
end

/-! ### the judgements -/
noncomputable abbrev XK := Value → Option Addr → Hp → Prop
noncomputable abbrev St := List (Option V)
noncomputable abbrev VK := V → Hp → Prop
noncomputable abbrev TE := St → Hp → VK → Prop
noncomputable abbrev TT := St → Hp → (Bool → Hp → Prop) → Prop
noncomputable abbrev TA := St → Hp → (List V → Hp → Prop) → Prop
structure Ends where
  nx : St → Hp → Prop
  rt : VK
  bk : St → Hp → Prop := fun _ _ => False
  ct : St → Hp → Prop := fun _ _ => False
noncomputable abbrev TS := Ends → St → Hp → Prop

noncomputable def EP (X : Cx) (pins : List (Addr × Obj)) (σ : St) (Q : VK) (u : Value) (s' : Shared) : Prop := ∃ v H', Inv X pins σ H' s' ∧ RelV v u ∧ Q v H'
noncomputable def TP (X : Cx) (pins : List (Addr × Obj)) (σ : St) (Q : Bool → Hp → Prop) (b : Bool) (s' : Shared) : Prop := ∃ H', Inv X pins σ H' s' ∧ Q b H'
noncomputable def AP (X : Cx) (pins : List (Addr × Obj)) (σ : St) (Q : List V → Hp → Prop) (us : List Value) (s' : Shared) : Prop := ∃ vs H', Inv X pins σ H' s' ∧ Vals vs us ∧ Q vs H'
noncomputable def SP (X : Cx) (pins : List (Addr × Obj)) (D : Ends) (f : Flow) (s' : Shared) : Prop :=
  match f with
  | .next => ∃ σ' H', Inv X pins σ' H' s' ∧ D.nx σ' H'
  | .brk => ∃ σ' H', Inv X pins σ' H' s' ∧ D.bk σ' H'
  | .cont => ∃ σ' H', Inv X pins σ' H' s' ∧ D.ct σ' H'
  | .ret u => ∃ v σ' H', Inv X pins σ' H' s' ∧ RelV v u ∧ D.rt v H'

noncomputable def PE (X : Cx) (e : Expr) (t : TE) : Prop :=
  ∀ (pins : List (Addr × Obj)) (s : Shared) (σ : St) (H : Hp) (Q : VK), Inv X pins σ H s → t σ H Q → wpAny (model X.prog X.w) X.A (eval e X.env) (EP X pins σ Q) X.xe s
noncomputable def PT (X : Cx) (e : Expr) (t : TT) : Prop :=
  ∀ (pins : List (Addr × Obj)) (s : Shared) (σ : St) (H : Hp) (Q : Bool → Hp → Prop), Inv X pins σ H s → t σ H Q → wpAny (model X.prog X.w) X.A (isTrue e X.env (eval e X.env)) (TP X pins σ Q) X.xe s
noncomputable def PW (X : Cx) (e : Expr) (t : TT) : Prop :=
  ∀ (whole : Sem Value) (pins : List (Addr × Obj)) (s : Shared) (σ : St) (H : Hp) (Q : Bool → Hp → Prop), Inv X pins σ H s → t σ H Q → wpAny (model X.prog X.w) X.A (isTrue e X.env whole) (TP X pins σ Q) X.xe s
theorem PW.pt {X : Cx} {e : Expr} {t : TT} (h : PW X e t) : PT X e t := h _
noncomputable def PA (X : Cx) (es : List Expr) (t : TA) : Prop :=
  ∀ (pos : Pos) (pins : List (Addr × Obj)) (s : Shared) (σ : St) (H : Hp) (Q : List V → Hp → Prop), Inv X pins σ H s → t σ H Q → wpAny (model X.prog X.w) X.A (spliced (backTo pos (starEach es X.env))) (AP X pins σ Q) X.xe s
noncomputable def PS (X : Cx) (st : Stmt) (t : TS) : Prop :=
  ∀ (pins : List (Addr × Obj)) (s : Shared) (σ : St) (H : Hp) (D : Ends), Inv X pins σ H s → t D σ H → wpAny (model X.prog X.w) X.A (exec st X.env) (SP X pins D) X.xe s
noncomputable def PSs (X : Cx) (st : List Stmt) (t : TS) : Prop :=
  ∀ (pins : List (Addr × Obj)) (s : Shared) (σ : St) (H : Hp) (D : Ends), Inv X pins σ H s → t D σ H → wpAny (model X.prog X.w) X.A (execs st X.env) (SP X pins D) X.xe s
theorem thn {α : Type} {t : Sem α} {Q Q' : α → Shared → Prop} {M : Model} {A : Around} {E : Value → Shared → Prop} {s : Shared} (h : wpAny M A t Q E s) (hQ : ∀ a s, Q a s → Q' a s) : wpAny M A t Q' E s := wpAny_mono h hQ fun _ _ x => x
end L2

namespace L2
open PySem PySem.Spec PyProof.Rows
section
variable {X : Cx}

/-! ### names and constants -/
noncomputable def tVar (i : Nat) : TE := fun σ H Q => ∃ v, σ[i]? = some (some v) ∧ Q v H
noncomputable def tC (v : V) : TE := fun _ H Q => Q v H
theorem pe_var {i : Nat} {x : Str} {pos : Pos} (hN : X.N[i]? = some x) (hv : Vis X.env.scope x) (hd : (x == ("__debug__" : Str)) = false := by decide) (hcd : (x == ("__classdict__" : Str)) = false := by decide) : PE X (.Name x pos) (tVar i) := by
  intro pins s σ H Q I h
  obtain ⟨v, e, h⟩ := h
  obtain ⟨m, hn, hl⟩ := I.loc
  obtain ⟨u, r, l⟩ := hl i x v hN e hv
  have fin : EP X pins σ Q u s := ⟨v, H, I, r, h⟩
  rcases l with ⟨hk, hm⟩ | ⟨hk, c, hc, hcell⟩
  · exact wpAny_Name (wpAny_loadName_local I.ok.kind hk hn hm fin) hd
  · rcases hk with hk | hk
    · exact wpAny_Name (wpAny_loadName_cell I.ok.kind hk hc hcell fin) hd
    · exact wpAny_Name (wpAny_loadName_free I.ok.kind hk hc hcell fin hcd) hd
theorem pe_int {i j pos} : PE X (.Constant (.int i) j pos) (tC (.int i)) := fun _ _ _ H _ I h => wpAny_Constant_int ⟨.int i, H, I.tok _, ⟨_, rfl⟩, h⟩
theorem pe_bl {b j pos} : PE X (.Constant (.bool b) j pos) (tC (.bl b)) := fun _ _ _ H _ I h => Constant_bool ⟨.bl b, H, I, rfl, h⟩
theorem pe_non {j pos} : PE X (.Constant .none j pos) (tC .non) := fun _ _ _ H _ I h => Constant_none ⟨.non, H, I, rfl, h⟩
theorem pe_str {x j pos} : PE X (.Constant (.str x) j pos) (tC (.str x)) := fun _ _ _ H _ I h => Calls.Constant_str ⟨.str x, H, I.tok _, ⟨_, rfl⟩, h⟩

noncomputable def Gl (X : Cx) (x : Str) : Prop := X.env.kindOf x = some .globalImplicit
theorem ld_glob {E : Value → Shared → Prop} {pins : List (Addr × Obj)} {s : Shared} {σ : St} {H : Hp} {x : Str} {u : Value} {pos : Pos} {Q : Value → Shared → Prop} (I : Inv X pins σ H s) (hg : Gl X x) (hm : X.mg x = some u) (h : Q u s)
    (hd : (x == ("__debug__" : Str)) = false := by decide) : wpAny (model X.prog X.w) X.A (eval (.Name x pos) X.env) Q E s :=
  Calls.Name_function_global I.ok.kind hg (Calls.loadGlobal_global (by rw [I.ok.glob]; exact I.mod.glob.keeps I.bk) hm h) hd
theorem ld_blt {E : Value → Shared → Prop} {pins : List (Addr × Obj)} {s : Shared} {σ : St} {H : Hp} {x : Str} {u : Value} {pos : Pos} {Q : Value → Shared → Prop} (I : Inv X pins σ H s) (hg : Gl X x) (hm : X.mg x = none) (hv : bootBuiltins x = some u) (h : Q u s)
    (hn : x ≠ "__name__" := by decide) (hd : (x == ("__debug__" : Str)) = false := by decide) : wpAny (model X.prog X.w) X.A (eval (.Name x pos) X.env) Q E s := by
  obtain ⟨mb, h1, h2⟩ := I.mod.blt
  exact Calls.Name_function_global I.ok.kind hg (Calls.loadGlobal_builtin (by rw [I.ok.glob]; exact I.mod.glob.keeps I.bk) hm (by rw [I.ok.blt]; exact h1.keeps I.bk) ((h2 x hn).trans hv) h) hd
theorem pe_glob {x : Str} {v : V} {u : Value} {pos : Pos} (hg : Gl X x) (hm : X.mg x = some u) (r : RelV v u) (hd : (x == ("__debug__" : Str)) = false := by decide) : PE X (.Name x pos) (tC v) :=
  fun _ _ _ H _ I h => ld_glob I hg hm ⟨v, H, I, r, h⟩ hd
theorem pe_bltn {x : Str} {v : V} {u : Value} {pos : Pos} (hg : Gl X x) (hm : X.mg x = none) (hv : bootBuiltins x = some u) (r : RelV v u) (hn : x ≠ "__name__" := by decide) (hd : (x == ("__debug__" : Str)) = false := by decide) : PE X (.Name x pos) (tC v) :=
  fun _ _ _ H _ I h => ld_blt I hg hm hv ⟨v, H, I, r, h⟩ hn hd

/-! ### arithmetic -/
variable {a b : Expr} {ta tb : TE} {pos : Pos}
/-! ### comparisons -/
/-! ### and, or, not -/
variable {tA tB' : TT} {rest : List Expr}
noncomputable def tAnd (t u : TT) : TT := fun σ H Q => t σ H fun c H1 => if c = true then u σ H1 Q else Q false H1
noncomputable def tOr (t u : TT) : TT := fun σ H Q => t σ H fun c H1 => if c = true then Q true H1 else u σ H1 Q
noncomputable def tNot (t : TT) : TT := fun σ H Q => t σ H fun c H1 => Q (!c) H1
theorem pw_and1 (ha : PT X a tA) : PW X (.BoolOp .And [a] pos) tA := by
  intro wh pins s σ H Q I h
  refine isTrue_and (thn (ha pins s σ H Q I h) fun c s1 e => ?_)
  cases c with
  | true => exact isTrue_and_nil e
  | false => exact e
theorem pw_or1 (ha : PT X a tA) : PW X (.BoolOp .Or [a] pos) tA := by
  intro wh pins s σ H Q I h
  refine isTrue_or (thn (ha pins s σ H Q I h) fun c s1 e => ?_)
  cases c with
  | false => exact isTrue_or_nil e
  | true => exact e
theorem pw_and (ha : PT X a tA) (hb : PW X (.BoolOp .And (b :: rest) pos) tB') : PW X (.BoolOp .And (a :: b :: rest) pos) (tAnd tA tB') := by
  intro wh pins s σ H Q I h
  refine isTrue_and (thn (ha pins s σ H _ I h) fun c s1 ⟨H1, I1, q1⟩ => ?_)
  cases c with
  | true => exact hb wh pins s1 σ H1 Q I1 q1
  | false => exact ⟨H1, I1, q1⟩
theorem pw_or (ha : PT X a tA) (hb : PW X (.BoolOp .Or (b :: rest) pos) tB') : PW X (.BoolOp .Or (a :: b :: rest) pos) (tOr tA tB') := by
  intro wh pins s σ H Q I h
  refine isTrue_or (thn (ha pins s σ H _ I h) fun c s1 ⟨H1, I1, q1⟩ => ?_)
  cases c with
  | true => exact ⟨H1, I1, q1⟩
  | false => exact hb wh pins s1 σ H1 Q I1 q1
theorem pt_not (ha : PT X a tA) : PT X (.UnaryOp .Not a pos) (tNot tA) := by
  intro pins s σ H Q I h
  exact isTrue_not (ha pins s σ H (fun c H1 => Q (!c) H1) I h)
noncomputable def tAndV (ta tb : TE) : TE := fun σ H Q => ta σ H fun x H1 => ∃ c, x = .bl c ∧ if c = true then tb σ H1 Q else Q (.bl false) H1
noncomputable def tNotV (ta : TE) : TE := fun σ H Q => ta σ H fun x H1 => ∃ c, x = .bl c ∧ Q (.bl (!c)) H1
theorem pe_one {op} {t : TE} (h : PE X a t) : PE X (.BoolOp op [a] pos) t := fun pins s σ H Q I hw => BoolOp_one (h pins s σ H Q I hw)
theorem pe_and (ha : PE X a ta) (hb : PE X (.BoolOp .And (b :: rest) pos) tb) : PE X (.BoolOp .And (a :: b :: rest) pos) (tAndV ta tb) := by
  intro pins s σ H Q I h
  refine BoolOp_and (thn (ha pins s σ H _ I h) fun v s1 ⟨x, H1, I1, r1, q1⟩ => ?_)
  obtain ⟨c, rfl, q1⟩ := q1
  cases r1
  refine wpAny_truthy_bool ?_
  cases c with
  | true => exact hb pins s1 σ H1 Q I1 q1
  | false => exact ⟨.bl false, H1, I1, rfl, q1⟩
theorem pe_not (ha : PE X a ta) : PE X (.UnaryOp .Not a pos) (tNotV ta) := by
  intro pins s σ H Q I h
  refine UnaryOp_ (thn (ha pins s σ H _ I h) fun v s1 ⟨x, H1, I1, r1, q1⟩ => ?_)
  obtain ⟨c, rfl, q1⟩ := q1
  cases r1
  exact not_of (wpAny_truthy_bool ⟨.bl (!c), H1, I1, rfl, q1⟩)
end
end L2

namespace L2
open PySem PySem.Spec PyProof.Rows

/-! ### a list, a tuple that is read: tracked, frozen, or an object of the module -/
noncomputable def SqL (K : PySem.W.Frag) (H : Hp) (a : Addr) (xs : List V) : Prop :=
  Rd H a (.lst xs) ∨
    ∃ (o : Obj) (its : Array Value) (n : Nat), K.lookup a = some o ∧ o.cls = .type "list" ∧ o.dict = none ∧ o.data = .seq its n ∧ its.size ≤ sizeLine ∧ Vals xs its.toList
noncomputable def SqT (K : PySem.W.Frag) (H : Hp) (a : Addr) (xs : List V) : Prop :=
  Rd H a (.tup xs) ∨
    ∃ (o : Obj) (its : Array Value) (n : Nat), K.lookup a = some o ∧ o.cls = .type "tuple" ∧ o.data = .seq its n ∧ its.size ≤ sizeLine ∧ Vals xs its.toList
noncomputable def absV : Value → Option V
  | .none => some .non
  | .bool b => some (.bl b)
  | .int i _ => some (.int i)
  | .str x _ => some (.str x)
  | .bytes b _ => some (.byt b)
  | .float b _ => some (.flt b)
  | .ref a => some (.ref a)
  | .type n => some (.ty n)
  | _ => none
theorem RelV.abs {x : V} {u : Value} (r : RelV x u) : absV u = some x := by
  cases x with
  | non => cases r; rfl
  | bl _ => cases r; rfl
  | int _ => obtain ⟨t, rfl⟩ := r; rfl
  | str _ => obtain ⟨t, rfl⟩ := r; rfl
  | byt _ => obtain ⟨t, rfl⟩ := r; rfl
  | flt _ => obtain ⟨t, rfl⟩ := r; rfl
  | ref _ => cases r; rfl
  | ty _ => cases r; rfl
theorem RelV.inj {x y : V} {u : Value} (r : RelV x u) (q : RelV y u) : x = y := Option.some.inj (r.abs.symm.trans q.abs)
theorem Vals.inj : ∀ {xs ys : List V} {us : List Value}, Vals xs us → Vals ys us → xs = ys
  | _, _, _, .nil, .nil => rfl
  | _, _, _, .cons r t, .cons r' t' => by rw [r.inj r', Vals.inj t t']
section
variable {X : Cx} {pins : List (Addr × Obj)} {σ : St} {H : Hp} {s : Shared} {a : Addr} {xs ys : List V}
theorem SqL.of {K : PySem.W.Frag} (h : H a = some (.lst xs)) : SqL K H a xs := .inl (.inl h)
theorem SqT.of {K : PySem.W.Frag} (h : H a = some (.tup xs)) : SqT K H a xs := .inl (.inl h)
theorem Inv.list (I : Inv X pins σ H s) (h : SqL X.K H a xs) : ∃ its : List Value, Vals xs its ∧ PlainL s.heap a its.toArray ∧ xs.length ≤ sizeLine := by
  rcases h with h | ⟨o, its, n, hk, hc, hd, hs, hz, r⟩
  · obtain ⟨z, its, n, r, e⟩ := h.ok I.hok
    exact ⟨its, r, ⟨_, n, e, rfl, rfl, rfl⟩, z⟩
  · refine ⟨its.toList, r, ⟨o, n, I.kIn a o hk, hc, hd, by simpa using hs⟩, ?_⟩
    have e := r.length
    simp only [Array.length_toList] at e
    omega
theorem Inv.tuple (I : Inv X pins σ H s) (h : SqT X.K H a xs) : ∃ its : List Value, Vals xs its ∧ IsTup s.heap a its.toArray ∧ xs.length ≤ sizeLine := by
  rcases h with h | ⟨o, its, n, hk, hc, hs, hz, r⟩
  · obtain ⟨z, its, r, p⟩ := h.ok I.hok
    exact ⟨its, r, p, z⟩
  · refine ⟨its.toList, r, ⟨o, I.kIn a o hk, hc, n, by simpa using hs⟩, ?_⟩
    have e := r.length
    simp only [Array.length_toList] at e
    omega
theorem Inv.list_inj (I : Inv X pins σ H s) (h : SqL X.K H a xs) (h' : SqL X.K H a ys) : xs = ys := by
  obtain ⟨its, r, ⟨o, n, e, _, _, d⟩, _⟩ := I.list h
  obtain ⟨its', r', ⟨o', n', e', _, _, d'⟩, _⟩ := I.list h'
  rw [e] at e'; cases e'
  rw [d] at d'
  injection d' with d1 _
  have : its = its' := by simpa using congrArg Array.toList d1
  subst this
  exact r.inj r'
end

/-! ### another wish about exceptions -/
noncomputable abbrev Cx.wish (X : Cx) (E : Value → Shared → Prop) : Cx := { X with xe := E }
noncomputable abbrev Cx.nox (X : Cx) : Cx := X.wish fun _ _ => False
theorem Cx.Ok.wish {X : Cx} (ok : X.Ok) (E : Value → Shared → Prop) : (X.wish E).Ok :=
  ⟨ok.mod, ok.kind, ok.glob, ok.blt, ok.above, ok.inj, ok.has, ok.cab, ok.hd, ok.frames, ok.stk, ok.exf, ok.bs, ok.bsz, ok.noex, ok.exfs, ok.funs, ok.frf⟩
theorem Cx.Ok.unwish {X : Cx} {E : Value → Shared → Prop} (ok : (X.wish E).Ok) : X.Ok :=
  ⟨ok.mod, ok.kind, ok.glob, ok.blt, ok.above, ok.inj, ok.has, ok.cab, ok.hd, ok.frames, ok.stk, ok.exf, ok.bs, ok.bsz, ok.noex, ok.exfs, ok.funs, ok.frf⟩
section
variable {X : Cx} {pins : List (Addr × Obj)} {σ : St} {H : Hp} {s : Shared} {E : Value → Shared → Prop}
theorem Inv.wish (I : Inv X pins σ H s) (E : Value → Shared → Prop) : Inv (X.wish E) pins σ H s := ⟨I.ok.wish E, I.os, I.bare, I.base, I.loc, I.cell, I.free, I.freeC, I.pin, I.hok, I.len⟩
theorem Inv.unwish (I : Inv (X.wish E) pins σ H s) : Inv X pins σ H s := ⟨I.ok.unwish, I.os, I.bare, I.base, I.loc, I.cell, I.free, I.freeC, I.pin, I.hok, I.len⟩
theorem SP.unwish {D : Ends} {f : Flow} {s' : Shared} (h : SP (X.wish E) pins D f s') : SP X pins D f s' := by
  cases f with
  | next => obtain ⟨σ', H', I, q⟩ := h; exact ⟨σ', H', I.unwish, q⟩
  | brk => obtain ⟨σ', H', I, q⟩ := h; exact ⟨σ', H', I.unwish, q⟩
  | cont => obtain ⟨σ', H', I, q⟩ := h; exact ⟨σ', H', I.unwish, q⟩
  | ret u => obtain ⟨v, σ', H', I, r, q⟩ := h; exact ⟨v, σ', H', I.unwish, r, q⟩
theorem PE.nox {e : Expr} {t : TE} (h : PE X.nox e t) : PE X e t := fun pins s σ H Q I hw =>
  wpAny_mono (h pins s σ H Q (I.wish _) hw) (fun _ _ ⟨v, H', I', r, q⟩ => ⟨v, H', I'.unwish, r, q⟩) fun _ _ z => False.elim z
theorem PT.nox {e : Expr} {t : TT} (h : PT X.nox e t) : PT X e t := fun pins s σ H Q I hw =>
  wpAny_mono (h pins s σ H Q (I.wish _) hw) (fun _ _ ⟨H', I', q⟩ => ⟨H', I'.unwish, q⟩) fun _ _ z => False.elim z
theorem PSs.nox {st : List Stmt} {t : TS} (h : PSs X.nox st t) : PSs X st t := fun pins s σ H D I hw =>
  wpAny_mono (h pins s σ H D (I.wish _) hw) (fun _ _ q => q.unwish) fun _ _ z => False.elim z
end

/-! ### blocks and small statements -/
section
variable {X : Cx} {st : Stmt} {rest : List Stmt} {t u : TS} {e : Expr} {te : TE} {pos : Pos}
noncomputable def tNext : TS := fun D σ H => D.nx σ H
noncomputable def tSeq (t u : TS) : TS := fun D σ H => t { D with nx := u D } σ H
theorem pss_nil : PSs X [] tNext := fun _ _ σ H _ I h => wpAny_execs_nil ⟨σ, H, I, h⟩
theorem pss_cons (h1 : PS X st t) (h2 : PSs X rest u) : PSs X (st :: rest) (tSeq t u) := by
  intro pins s σ H D I h
  refine wpAny_execs_cons (thn (h1 pins s σ H { D with nx := u D } I h) fun f s1 q => ?_)
  cases f with
  | next =>
    obtain ⟨σ', H', I', q⟩ := q
    exact h2 pins s1 σ' H' D I' q
  | ret v => exact q
  | brk => exact q
  | cont => exact q
theorem pss_one (h1 : PS X st t) : PSs X [st] t := by
  intro pins s σ H D I h
  refine wpAny_execs_cons (thn (h1 pins s σ H D I h) fun f s1 q => ?_)
  cases f with
  | next => exact wpAny_execs_nil q
  | ret v => exact q
  | brk => exact q
  | cont => exact q
theorem Inv.quiet {pins : List (Addr × Obj)} {σ : St} {H : Hp} {s : Shared} (I : Inv X pins σ H s) : interactive X.env = false := by simp [interactive, I.ok.kind]
noncomputable def tDrop (te : TE) : TS := fun D σ H => te σ H fun _ H1 => D.nx σ H1
theorem ps_expr (he : PE X e te) (hs : swapsWith e none pos.line X.env = pure false := by rfl) : PS X (.Expr e pos) (tDrop te) := by
  intro pins s σ H D I h
  exact wpAny_Expr_any (thn (he pins s σ H _ I h) fun v s1 ⟨x, H1, I1, r1, q1⟩ => ⟨σ, H1, I1, q1⟩) I.quiet hs
noncomputable def tRet (te : TE) : TS := fun D σ H => te σ H D.rt
theorem ps_ret (he : PE X e te) : PS X (.Return (some e) pos) (tRet te) := by
  intro pins s σ H D I h
  exact wpAny_Return_some (thn (he pins s σ H _ I h) fun v s1 ⟨x, H1, I1, r1, q1⟩ => ⟨x, σ, H1, I1, r1, q1⟩)
noncomputable def tIfS (c : TT) (t u : TS) : TS := fun D σ H => c σ H fun b H1 => if b = true then t D σ H1 else u D σ H1
theorem ps_if {c : Expr} {a b : List Stmt} {tc : TT} (hc : PT X c tc) (ha : PSs X a t) (hb : PSs X b u) : PS X (.If c a b pos) (tIfS tc t u) := by
  intro pins s σ H D I h
  refine wpAny_If (thn (hc pins s σ H _ I h) fun d s1 ⟨H1, I1, q1⟩ => ?_)
  cases d with
  | true => exact ha pins s1 σ H1 D I1 q1
  | false => exact hb pins s1 σ H1 D I1 q1
end

/-! ### targets -/
noncomputable abbrev TG := V → St → Hp → (St → Hp → Prop) → Prop
noncomputable abbrev TGs := List V → St → Hp → (St → Hp → Prop) → Prop
noncomputable def PG (X : Cx) (target : Expr) (t : TG) : Prop :=
  ∀ (pins : List (Addr × Obj)) (s : Shared) (σ : St) (H : Hp) (v : V) (u : Value) (Q : St → Hp → Prop), Inv X pins σ H s → RelV v u → t v σ H Q →
    wpAny (model X.prog X.w) X.A (assign target X.env u) (fun _ s' => ∃ σ' H', Inv X pins σ' H' s' ∧ Q σ' H') X.xe s
noncomputable def PGs (X : Cx) (ts : List Expr) (t : TGs) : Prop :=
  ∀ (pins : List (Addr × Obj)) (s : Shared) (σ : St) (H : Hp) (vs : List V) (us : List Value) (Q : St → Hp → Prop), Inv X pins σ H s → Vals vs us → t vs σ H Q →
    wpAny (model X.prog X.w) X.A (assignInOrder ((assignEach ts X.env).map (·.2)) us) (fun _ s' => ∃ σ' H', Inv X pins σ' H' s' ∧ Q σ' H') X.xe s
noncomputable abbrev TSet := V → V → V → Hp → (Hp → Prop) → Prop
noncomputable def PSet (X : Cx) (t : TSet) : Prop :=
  ∀ (pins : List (Addr × Obj)) (s : Shared) (σ : St) (H : Hp) (o i v : V) (ov iv u : Value) (Q : Hp → Prop), Inv X pins σ H s → RelV o ov → RelV i iv → RelV v u → t o i v H Q →
    wpAny (model X.prog X.w) X.A (setItem ov iv u) (fun _ s' => ∃ H', Inv X pins σ H' s' ∧ Q H') X.xe s
section
variable {X : Cx} {pos : Pos}
noncomputable def gName (i : Nat) : TG := fun v σ H Q => Q (σ.set i (some v)) H
theorem pg_name {i : Nat} {x : Str} (hN : X.N.Nodup) (hi : X.N[i]? = some x) (hx : Loc X.env.scope x) (hf : X.fn x = true ∨ X.env.scope.names.lookup x = some .local := by first | exact .inl rfl | exact .inr rfl | assumption) : PG X (.Name x pos) (gName i) := by
  intro pins s σ H v u Q I r h
  exact wpAny_assign_Name (store_ok I hN hi hx r (fun s' I' => ⟨_, H, I', h⟩) hf)
noncomputable def gNil : TGs := fun vs σ H Q => vs = [] ∧ Q σ H
noncomputable def gCons (t : TG) (u : TGs) : TGs := fun vs σ H Q => ∃ v r, vs = v :: r ∧ t v σ H fun σ' H' => u r σ' H' Q
theorem pgs_nil : PGs X [] gNil := by
  intro pins s σ H vs us Q I r h
  obtain ⟨e, h⟩ := h
  subst e
  cases r
  exact assignInOrder_nil ⟨σ, H, I, h⟩
theorem pgs_cons {e : Expr} {es : List Expr} {t : TG} {u : TGs} (h1 : PG X e t) (h2 : PGs X es u)
    (hs : (assignEach (e :: es) X.env).map (·.2) = assign e X.env :: (assignEach es X.env).map (·.2) := by rfl) : PGs X (e :: es) (gCons t u) := by
  intro pins s σ H vs us Q I r h
  obtain ⟨v, vr, e1, h⟩ := h
  subst e1
  cases r with
  | cons r rr =>
    rw [hs]
    refine assignInOrder_cons (thn (h1 pins s σ H _ _ _ I r h) fun _ s1 ⟨σ1, H1, I1, q1⟩ => ?_)
    exact h2 pins s1 σ1 H1 _ _ Q I1 rr q1
noncomputable def gTup (K : PySem.W.Frag) (n : Nat) (t : TGs) : TG := fun v σ H Q => ∃ a xs, v = .ref a ∧ SqT K H a xs ∧ xs.length = n ∧ t xs σ H Q
theorem pg_tup {es : List Expr} {k : Nat} {t : TGs} {n : Nat} (hc : X.calm = true) (h : PGs X es t)
    (hn : (assignEach es X.env).length = n := by rfl) (hst : (assignEach es X.env).findIdx? (·.1) = none := by rfl) : PG X (.Tuple es k pos) (gTup X.K n t) := by
  intro pins s σ H v u Q I r hw
  obtain ⟨a, xs, e1, hq, hl, hw⟩ := hw
  subst e1
  cases r
  obtain ⟨its, rv, ht, hz⟩ := I.tuple hq
  refine assign_Tuple_tuple (I.ok.hd hc) ht (by simp [hn, ← hl, rv.length]) hst fun h' hx => ?_
  have I1 : Inv X pins σ H { s with heap := h' } := I.kept (t' := s.toks) fun b o e => hx b o (Nat.ne_of_lt (Heap.lt_size e)) e
  exact h pins _ σ H xs _ Q I1 (by simpa using rv) hw
noncomputable def gSub (to ti : TE) (t : TSet) : TG := fun v σ H Q => to σ H fun o H1 => ti σ H1 fun i H2 => t o i v H2 fun H3 => Q σ H3
theorem pg_sub {o i : Expr} {to ti : TE} {t : TSet} (ho : PE X o to) (hi : PE X i ti) (hs : PSet X t)
    (ha : ∀ v, assign (.Subscript o i pos) X.env v = (do
      let ov ← holding [v] (eval o X.env)
      let iv ← holding [v, ov] (eval i X.env)
      standAt pos
      holding [v, ov, iv] (setItem ov iv v)
      release [v, ov, iv] []) := by intro _; rfl) : PG X (.Subscript o i pos) (gSub to ti t) := by
  intro pins s σ H v u Q I r h
  rw [ha]
  refine wpAny_bind (wpAny_holding (thn (ho pins s σ H _ I h) fun ov s1 ⟨x, H1, I1, r1, q1⟩ => ?_))
  refine wpAny_bind (wpAny_holding (thn (hi pins s1 σ H1 _ I1 q1) fun iv s2 ⟨y, H2, I2, r2, q2⟩ => ?_))
  refine wpAny_bind (wpAny_standAt (wpAny_bind (wpAny_holding (thn (hs pins s2 σ H2 x y v ov iv u _ I2 r1 r2 r q2) fun _ s3 ⟨H3, I3, q3⟩ => ?_))))
  exact wpAny_release ⟨σ, H3, I3, q3⟩
noncomputable def tAsg (te : TE) (g : TG) : TS := fun D σ H => te σ H fun x H1 => g x σ H1 D.nx
theorem ps_asg {tg e : Expr} {te : TE} {g : TG} (he : PE X e te) (hg : PG X tg g) (hs : swapsWithSole [tg] e pos.line X.env = pure false := by rfl) (hw : swappedStores [tg] e X.env = pure none := by rfl)
    (h1 : (assignEach [tg] X.env).map (·.2) = [assign tg X.env] := by rfl) : PS X (.Assign [tg] e pos) (tAsg te g) := by
  intro pins s σ H D I h
  refine wpAny_Assign_stores (thn (he pins s σ H _ I h) fun v s1 ⟨x, H1, I1, r1, q1⟩ => ?_) hs hw
  rw [h1]
  exact thn (hg pins s1 σ H1 x v _ I1 r1 q1) fun _ s2 q => q
theorem ps_set {i : Nat} {x : Str} {e : Expr} {te : TE} {pos' : Pos} (hN : X.N.Nodup) (hi : X.N[i]? = some x) (hx : Loc X.env.scope x) (he : PE X e te) (hs : swapsWith e (some (.Name x pos')) pos.line X.env = pure false := by rfl) (hf : X.fn x = true ∨ X.env.scope.names.lookup x = some .local := by first | exact .inl rfl | exact .inr rfl | assumption) :
    PS X (.Assign [.Name x pos'] e pos) (tAsg te (gName i)) := by
  intro pins s σ H D I h
  refine wpAny_Assign_Name (thn (he pins s σ H _ I h) fun v s1 ⟨y, H1, I1, r1, q1⟩ => ?_) hs
  exact store_ok I1 hN hi hx r1 (fun s2 I2 => ⟨_, H1, I2, q1⟩) hf
end

/-! ### while -/
section
variable {X : Cx} {pos : Pos}
noncomputable def tWhile (c : TT) (tb : TS) : TS := fun D σ H => ∃ W : Nat → St → Hp → Prop, (∃ m, W m σ H) ∧ ∀ m σ H, W m σ H →
  c σ H fun b H1 => if b = true then ∃ N : St → Hp → Prop, (∀ σ' H', N σ' H' → ∃ m', m' < m ∧ W m' σ' H') ∧ tb { D with nx := N, ct := N, bk := D.nx } σ H1 else D.nx σ H1
theorem ps_while {c : Expr} {body : List Stmt} {tc : TT} {tb : TS} (hp : PassesOwn (model X.prog X.w) X.A X.env X.xe) (hc : PT X c tc) (hb : PSs X body tb) : PS X (.While c body [] pos) (tWhile tc tb) := by
  intro pins s σ H D I h
  obtain ⟨W, ⟨m0, w0⟩, turn⟩ := h
  refine wpAny_While (codeAny_whileLoop (fun n s' => ∃ σ' H', Inv X pins σ' H' s' ∧ W n σ' H') ?_ m0 ⟨σ, H, I, w0⟩)
  rintro n s1 ⟨σ1, H1, I1, w1⟩
  refine wpAny_passesOwn hp (thn (hc pins s1 σ1 H1 _ I1 (turn n σ1 H1 w1)) fun b s2 ⟨H2, I2, q2⟩ => ?_)
  cases b with
  | true =>
    obtain ⟨N, hN, q2⟩ := q2
    rw [if_pos rfl]
    refine wpAny_passesOwn hp (thn (hb pins s2 σ1 H2 _ I2 q2) fun f s3 q3 => ?_)
    cases f with
    | next =>
      obtain ⟨σ3, H3, I3, n3⟩ := q3
      obtain ⟨m', hm, w3⟩ := hN σ3 H3 n3
      exact ⟨m', hm, σ3, H3, I3, w3⟩
    | cont =>
      obtain ⟨σ3, H3, I3, n3⟩ := q3
      obtain ⟨m', hm, w3⟩ := hN σ3 H3 n3
      exact ⟨m', hm, σ3, H3, I3, w3⟩
    | brk => exact q3
    | ret v => exact q3
  | false =>
    rw [if_neg Bool.false_ne_true]
    exact wpAny_execs_nil ⟨σ1, H2, I2, q2⟩
end

/-! ### what a loop or a comprehension walks -/
structure It where
  go : Nat → Hp → Prop
  yld : Nat → Hp → V → Hp → Prop
  stop : Nat → Hp → Prop
noncomputable def FpOk (X : Cx) (pins : List (Addr × Obj)) (H : Hp) (b : Addr) : Prop :=
  H b = none ∧ b ≠ X.env.locals ∧ b ∉ X.fs ∧ (b ∈ X.ex ∨ X.s₀.heap.objs.size ≤ b) ∧ (∀ x c, X.env.cells.lookup x = some c → c ≠ b) ∧ ∀ p ∈ X.pn ++ pins, p.1 ≠ b
theorem Inv.fpOk {X : Cx} {pins : List (Addr × Obj)} {σ : St} {H H' : Hp} {s : Shared} {b : Addr} (I : Inv X pins σ H s) (hb : s.heap.objs.size ≤ b) (hn : H' b = none) : FpOk X pins H' b := by
  refine ⟨hn, Nat.ne_of_gt (Nat.lt_of_lt_of_le I.lt hb), I.nofs hb, .inr (Nat.le_trans I.sz hb), fun x c e z => ?_, fun p hp z => ?_⟩
  · obtain ⟨v, q⟩ := I.cell x c e
    exact absurd (Nat.lt_of_lt_of_le q.lt (by rw [z]; exact hb)) (Nat.lt_irrefl _)
  · exact absurd (Nat.lt_of_lt_of_le (Heap.lt_size (I.pin p hp).1) (by rw [z]; exact hb)) (Nat.lt_irrefl _)
structure Turn (P : Program) (w : World) (K : PySem.W.Frag) (tg : Expr) (J : It) (fp : List Addr) (it : Addr) (tn : Nat → Heap → Prop) : Prop where
  mem : it ∈ fp
  obj : ∀ i h, tn i h → ∀ b ∈ fp, ∃ o, h.get? b = some o ∧ ∀ v, o.data ≠ .cell v
  keep : ∀ i h h', tn i h → (∀ b ∈ fp, ∀ o, h.get? b = some o → h'.get? b = some o) → tn i h'
  item : ∀ (X : Cx), X.prog = P → X.w = w → X.K = K → X.calm = true → ∀ (i : Nat) (pins : List (Addr × Obj)) (s : Shared) (σ : St) (H : Hp) (E : Value → Shared → Prop), Inv X pins σ H s → (∀ b ∈ fp, FpOk X pins H b) → tn i s.heap → J.go i H →
    wpAny (model P w) X.A (pyNext (.ref it)) (fun r s1 => ∃ u, r = some u ∧
      wpAny (model P w) X.A (letOwnedTupleGo tg (.ref it) u) (fun _ s2 => ∃ x H', Inv X pins σ H' s2 ∧ RelV x u ∧ J.yld i H x H' ∧ tn (i + 1) s2.heap ∧ ∀ b ∈ fp, H' b = none) E s1) E s
  done : ∀ (X : Cx), X.prog = P → X.w = w → X.K = K → X.calm = true → ∀ (i : Nat) (pins : List (Addr × Obj)) (s : Shared) (σ : St) (H : Hp) (E : Value → Shared → Prop), Inv X pins σ H s → (∀ b ∈ fp, FpOk X pins H b) → tn i s.heap → J.stop i H →
    wpAny (model P w) X.A (pyNext (.ref it)) (fun r s1 => r = none ∧ Inv X pins σ H s1) E s
  self : ∀ (A : Around) (i : Nat) (s : Shared) (Q : Value → Shared → Prop) (E : Value → Shared → Prop), tn i s.heap → Q (.ref it) s → wpAny (model P w) A (pyIter (.ref it)) Q E s
noncomputable abbrev TI := St → Hp → (It → Hp → Prop) → Prop
noncomputable def PIE (X : Cx) (pins : List (Addr × Obj)) (σ : St) (tg : Expr) (R : It → Hp → Prop) (itv : Value) (s2 : Shared) : Prop :=
  ∃ (it : Addr) (fp : List Addr) (tn : Nat → Heap → Prop) (J : It) (H' : Hp), itv = .ref it ∧ Inv X pins σ H' s2 ∧ Turn X.prog X.w X.K tg J fp it tn ∧ tn 0 s2.heap ∧ (∀ b ∈ fp, FpOk X pins H' b) ∧ R J H'
noncomputable def PI (X : Cx) (tg iter : Expr) (wi : TI) : Prop :=
  ∀ (pins : List (Addr × Obj)) (s : Shared) (σ : St) (H : Hp) (R : It → Hp → Prop), Inv X pins σ H s → wi σ H R →
    wpAny (model X.prog X.w) X.A (eval iter X.env) (fun v s1 => wpAny (model X.prog X.w) X.A (pyIter v) (PIE X pins σ tg R) X.xe s1) X.xe s

theorem go_of {M : Model} {A : Around} {E : Value → Shared → Prop} {s : Shared} {tg : Expr} {it : Addr} {u : Value} {o : Obj} {n : String} {vs : Array Value} {Q : Unit → Shared → Prop} (ho : s.heap.get? it = some o) (hc : o.cls = .type n) (hd : o.data = .fields vs)
    (hn : ["enumerate", "zip", "dict_itemiterator", "dict_reverseitemiterator", "odict_iterator", "itertools.zip_longest", "itertools.pairwise"].contains n = false) (hQ : Q () s) : wpAny M A (letOwnedTupleGo tg (.ref it) u) Q E s := by
  unfold letOwnedTupleGo
  cases tg <;> first
    | exact wpAny_pure hQ
    | (cases u <;> first
        | exact wpAny_pure hQ
        | (refine wpAny_bind (wpAny_load ho ?_)
           rw [hc, hd]
           show wpAny M A (if (["enumerate", "zip", "dict_itemiterator", "dict_reverseitemiterator", "odict_iterator", "itertools.zip_longest", "itertools.pairwise"].contains n && vs[0]? == some (rawInt _)) = true then _ else _) Q E s
           rw [if_neg (by intro h; rw [hn, Bool.false_and] at h; cases h)]
           exact wpAny_pure hQ))

noncomputable def Itl (K : PySem.W.Frag) (a : Addr) : It :=
  ⟨fun i H => ∃ xs x, SqL K H a xs ∧ xs[i]? = some x, fun i H x H' => H' = H ∧ ∀ xs, SqL K H a xs → xs[i]? = some x, fun i H => ∃ xs, SqL K H a xs ∧ xs.length ≤ i⟩
noncomputable def Itr (lo : Int) (n : Nat) : It := ⟨fun i _ => i < n, fun i H x H' => H' = H ∧ x = .int (lo + i), fun i _ => n ≤ i⟩
theorem turn_list {P : Program} {w : World} {K : PySem.W.Frag} {tg : Expr} (a it : Addr) : Turn P w K tg (Itl K a) [it] it (fun i h => h.IsListIter it a i) where
  mem := by simp
  obj := fun i h st b hb => by
    have e : b = it := by simpa using hb
    subst e
    obtain ⟨o, e, c, d⟩ := st
    exact ⟨o, e, fun v z => by rw [d] at z; cases z⟩
  keep := fun i h h' st k => st.at fun o e => k it (by simp) o e
  item := by
    intro X hP hw hK hc i pins s σ H E I hf st hg
    subst hP hw hK
    obtain ⟨xs, x, hq, hx⟩ := hg
    obtain ⟨its, rv, p, hz⟩ := I.list hq
    obtain ⟨u, hu, ru⟩ := rv.get hx
    obtain ⟨f0, f1, f2, f3, f4, f5⟩ := hf it (by simp)
    refine wpAny_pyNext_list_item st p.isList (x := u) (by simpa using hu) fun h' st' sb => ?_
    have I1 : Inv X pins σ H { s with heap := h' } := I.turned (t' := s.toks) (fun b o hb e => (sb.2 b hb).trans e) f0 f1 f3 f4 f5
    obtain ⟨o, e, c, d⟩ := id st'
    exact ⟨u, rfl, go_of (s := { s with heap := h' }) e c d (by decide) ⟨x, H, I1, ru, ⟨rfl, fun ys hy => by rw [I.list_inj hy hq]; exact hx⟩, st', fun b hb => (hf b hb).1⟩⟩
  done := by
    intro X hP hw hK hc i pins s σ H E I hf st hg
    subst hP hw hK
    obtain ⟨xs, hq, hx⟩ := hg
    obtain ⟨its, rv, p, hz⟩ := I.list hq
    obtain ⟨f0, f1, f2, f3, f4, f5⟩ := hf it (by simp)
    have hl := rv.length
    exact wpAny_pyNext_list_end (I.ok.hd hc) st p.isList (by simp; omega) fun h' eb => ⟨rfl, I.turned (t' := s.toks) (fun b o hb e => eb b o hb e) f0 f1 f3 f4 f5⟩
  self := fun _ _ _ _ _ st h => wpAny_pyIter_listiter st h
theorem turn_range {P : Program} {w : World} {K : PySem.W.Frag} {tg : Expr} (it : Addr) (lo : Int) (n : Nat) : Turn P w K tg (Itr lo n) [it] it (fun i h => IsRangeIter h it (lo + (i : Nat) * 1) ((n : Int) - (i : Nat)) 1) where
  mem := by simp
  obj := fun i h st b hb => by
    have e : b = it := by simpa using hb
    subst e
    exact ⟨_, st, fun v z => by
      have z' : Data.fields _ = Data.cell v := z
      cases z'⟩
  keep := fun i h h' st k => k it (by simp) _ st
  item := by
    intro X hP hw hK hc i pins s σ H E I hf st hg
    subst hP hw hK
    obtain ⟨f0, f1, f2, f3, f4, f5⟩ := hf it (by simp)
    have W := Walks.range (prog := X.prog) (w := X.w) (I.ok.hd hc) it lo 1 n
    refine W.item i s _ _ hg st fun v h' tk hv st' kk => ?_
    obtain ⟨t, rfl⟩ := hv
    have I1 : Inv X pins σ H { s with heap := h', toks := tk } := I.turned (fun b o hb e => kk b o (by simpa using hb) e) f0 f1 f3 f4 f5
    refine ⟨_, rfl, go_of (s := { s with heap := h', toks := tk }) (n := "range_iterator") st' rfl rfl (by decide) ⟨.int (lo + i), H, I1, ⟨t, ?_⟩, ⟨rfl, rfl⟩, st', fun b hb => (hf b hb).1⟩⟩
    rw [Int.mul_one]
  done := by
    intro X hP hw hK hc i pins s σ H E I hf st hg
    subst hP hw hK
    obtain ⟨f0, f1, f2, f3, f4, f5⟩ := hf it (by simp)
    exact wpAny_pyNext_range_end (I.ok.hd hc) st (by have : n ≤ i := hg; omega) fun h' eb => ⟨rfl, I.turned (t' := s.toks) (fun b o hb e => eb b o hb e) f0 f1 f3 f4 f5⟩
  self := fun _ _ _ _ _ st h => wpAny_pyIter_rangeiter st h
end L2

namespace L2
open PySem PySem.Spec PyProof.Rows
section
variable {X : Cx} {tg : Expr}
noncomputable def iList (K : PySem.W.Frag) (tl : TE) : TI := fun σ H R => tl σ H fun x H1 => ∃ a, x = .ref a ∧ (∃ xs, SqL K H1 a xs) ∧ R (Itl K a) H1
theorem pi_list {l : Expr} {tl : TE} (hl : PE X l tl) : PI X tg l (iList X.K tl) := by
  intro pins s σ H R I h
  refine thn (hl pins s σ H _ I h) fun v s1 ⟨x, H1, I1, r1, q1⟩ => ?_
  obtain ⟨a, e, ⟨xs, hq⟩, q⟩ := q1
  subst e
  cases r1
  obtain ⟨its, rv, p, hz⟩ := I1.list hq
  refine wpAny_pyIter_list p.isList ?_
  refine ⟨s1.heap.objs.size, [s1.heap.objs.size], _, _, H1, rfl, I1.kept (t' := s1.toks) fun b o e => Heap.get?_push_of_some _ e, turn_list a _, ⟨_, Heap.get?_push_size _ rfl, rfl, rfl⟩, fun b hb => ?_, q⟩
  have e : b = s1.heap.objs.size := by simpa using hb
  subst e
  exact I1.fpOk (Nat.le_refl _) (I1.hok.fresh (Nat.le_refl _))
theorem range_it {pins : List (Addr × Obj)} {σ : St} {H : Hp} {s : Shared} {R : It → Hp → Prop} {E : Value → Shared → Prop} {lo hi : Int} {t u v : Tok} {tk : Nat} (I : Inv X pins σ H s) (h1 : -(2 ^ 62) ≤ lo) (h2 : lo < 2 ^ 62) (h3 : -(2 ^ 62) ≤ hi) (h4 : hi < 2 ^ 62)
    (q : R (Itr lo (hi - lo).toNat) H) : wpAny (model X.prog X.w) X.A (pyIter (.ref s.heap.objs.size)) (PIE X pins σ tg R) E { s with heap := s.heap.push { cls := .type "range", data := .fields #[.int lo t, .int hi u, .int 1 v] }, toks := tk } := by
  refine wpAny_pyIter_range (IsRange.new ..) (small_one h1 h2 h3 h4) ?_
  have I1 : Inv X pins σ H { s with heap := s.heap.push { cls := .type "range", data := .fields #[.int lo t, .int hi u, .int 1 v] }, toks := tk } := I.kept fun b o e => Heap.get?_push_of_some _ e
  refine ⟨(s.heap.push { cls := .type "range", data := .fields #[.int lo t, .int hi u, .int 1 v] }).objs.size, [(s.heap.push { cls := .type "range", data := .fields #[.int lo t, .int hi u, .int 1 v] }).objs.size], _, _, H, rfl,
    I1.kept (t' := tk) fun b o e => Heap.get?_push_of_some _ e, turn_range _ lo (hi - lo).toNat, ?_, fun b hb => ?_, q⟩
  · have e1 : lo + ((0 : Nat) : Int) * 1 = lo := by simp
    have e2 : (((hi - lo).toNat : Nat) : Int) - ((0 : Nat) : Int) = Builtin.Range.rangeSize lo hi 1 := by rw [rangeSize_one]; split <;> omega
    show IsRangeIter _ _ (lo + ((0 : Nat) : Int) * 1) ((((hi - lo).toNat : Nat) : Int) - ((0 : Nat) : Int)) 1
    rw [e1, e2]
    exact Heap.get?_push_size _ rfl
  · have e : b = (s.heap.push { cls := .type "range", data := .fields #[.int lo t, .int hi u, .int 1 v] }).objs.size := by simpa using hb
    subst e
    exact I1.fpOk (Nat.le_refl _) (I1.hok.fresh (Nat.le_refl _))
noncomputable def iRng1 (ta : TA) : TI := fun σ H R => ta σ H fun vs H1 => ∃ j : Int, vs = [.int j] ∧ -(2 ^ 62) ≤ j ∧ j < 2 ^ 62 ∧ R (Itr 0 j.toNat) H1
noncomputable def iRng2 (ta : TA) : TI := fun σ H R => ta σ H fun vs H1 => ∃ i j : Int, vs = [.int i, .int j] ∧ (-(2 ^ 62) ≤ i ∧ i < 2 ^ 62 ∧ -(2 ^ 62) ≤ j ∧ j < 2 ^ 62) ∧ R (Itr i (j - i).toNat) H1
theorem pi_range1 {a : Expr} {ta : TA} {p pos : Pos} (hg : Gl X "range") (hm : X.mg "range" = none) (ha : PA X [a] ta) (hs : starEach [a] X.env = [(false, eval a X.env)] := by rfl) : PI X tg (.Call (.Name "range" p) [a] [] pos) (iRng1 ta) := by
  intro pins s σ H R I h
  refine Call_ (ld_blt I hg hm boot_range (PyProof.Rows.callWith_type1 (thn (ha pos pins s σ H _ I h) fun us s1 ⟨vs, H1, I1, r1, q1⟩ => ?_) hs rfl))
  obtain ⟨j, e, q1, q2, q⟩ := q1
  subst e
  cases r1 with
  | cons r rr =>
    cases rr
    obtain ⟨t, rfl⟩ := r
    exact call_range_1 (range_it I1 (by omega) (by omega) q1 q2 (by simpa using q))
theorem pi_range2 {a b : Expr} {ta : TA} {p pos : Pos} (hg : Gl X "range") (hm : X.mg "range" = none) (ha : PA X [a, b] ta) (hs : starEach [a, b] X.env = [(false, eval a X.env), (false, eval b X.env)] := by rfl) (hs2 : starEach [b] X.env = [(false, eval b X.env)] := by rfl) :
    PI X tg (.Call (.Name "range" p) [a, b] [] pos) (iRng2 ta) := by
  intro pins s σ H R I h
  refine Call_ (ld_blt I hg hm boot_range (PyProof.Rows.callWith_type1 (thn (ha pos pins s σ H _ I h) fun us s1 ⟨vs, H1, I1, r1, q1⟩ => ?_) (by rw [hs, hs2]) (by rw [hs2]; rfl)))
  obtain ⟨i, j, e, ⟨q1, q2, q3, q4⟩, q⟩ := q1
  subst e
  cases r1 with
  | cons r rr =>
    cases rr with
    | cons r' rr =>
      cases rr
      obtain ⟨t, rfl⟩ := r
      obtain ⟨t', rfl⟩ := r'
      exact call_range_2 (range_it I1 q1 q2 q3 q4 q)

/-! ### for -/
noncomputable def tFor (wi : TI) (g : TG) (tb : TS) : TS := fun D σ H => wi σ H fun J H1 => ∃ W : Nat → Nat → St → Hp → Prop, (∃ m, W 0 m σ H1) ∧ ∀ i m σ H, W i m σ H →
  (J.stop i H ∧ D.nx σ H) ∨ (J.go i H ∧ ∃ N : St → Hp → Prop, (∀ σ' H', N σ' H' → ∃ m', m' < m ∧ W (i + 1) m' σ' H') ∧ ∀ x H', J.yld i H x H' → g x σ H' fun σ2 H2 => tb { D with nx := N, ct := N, bk := D.nx } σ2 H2)
noncomputable def pinsAt (fp : List Addr) (h : Heap) : List (Addr × Obj) := fp.filterMap fun b => (h.get? b).map fun o => (b, o)
theorem mem_pinsAt {fp : List Addr} {h : Heap} {b : Addr} {o : Obj} (hb : b ∈ fp) (e : h.get? b = some o) : (b, o) ∈ pinsAt fp h := List.mem_filterMap.mpr ⟨b, hb, by rw [e]; rfl⟩
theorem of_pinsAt {fp : List Addr} {h : Heap} {p : Addr × Obj} (hp : p ∈ pinsAt fp h) : p.1 ∈ fp ∧ h.get? p.1 = some p.2 := by
  obtain ⟨b, hb, e⟩ := List.mem_filterMap.mp hp
  cases q : h.get? b with
  | none => rw [q] at e; cases e
  | some o =>
    rw [q] at e
    have e' : (b, o) = p := Option.some.inj e
    subst e'
    exact ⟨hb, q⟩
theorem Inv.pinned {pins : List (Addr × Obj)} {σ : St} {H : Hp} {s : Shared} {fp : List Addr} (I : Inv X pins σ H s) (hf : ∀ b ∈ fp, FpOk X pins H b) (ho : ∀ b ∈ fp, ∃ o, s.heap.get? b = some o ∧ ∀ v, o.data ≠ .cell v) : Inv X (pins ++ pinsAt fp s.heap) σ H s :=
  I.pins_of fun p hp => (List.mem_append.mp hp).elim (fun z => I.pin p (List.mem_append_right _ z)) fun z => by
    obtain ⟨hb, e⟩ := of_pinsAt z
    obtain ⟨f0, f1, f2, _⟩ := hf p.1 hb
    obtain ⟨o, e', d⟩ := ho p.1 hb
    rw [e] at e'; cases e'
    exact ⟨e, f0, f1, f2, d⟩
theorem Inv.unpinned {pins pl : List (Addr × Obj)} {σ : St} {H : Hp} {s : Shared} (I : Inv X (pins ++ pl) σ H s) : Inv X pins σ H s := I.pins_of fun p hp => I.pin p (List.mem_append_right _ (List.mem_append_left _ hp))
theorem ps_for {iter : Expr} {body : List Stmt} {wi : TI} {g : TG} {tb : TS} {pos : Pos} (hp : PassesOwn (model X.prog X.w) X.A X.env X.xe) (hc : X.calm = true) (hi : PI X tg iter wi) (hg : PG X tg g) (hb : PSs X body tb)
    (hs : ∀ x, foldedSetIterable iter X.env x = pure x := by intro _; rfl) : PS X (.For tg iter body [] pos) (tFor wi g tb) := by
  intro pins s σ H D I h
  refine wpAny_For (thn (hi pins s σ H _ I h) fun v s1 h1 => thn h1 fun itv s2 h2 => ?_) hs
  obtain ⟨it, fp, tn, J, H2, e, I2, T, st2, f2, W, ⟨m0, w0⟩, turn⟩ := h2
  subst e
  -- what stays true of the iterator's objects through the loop
  have stat : ∀ {H' : Hp}, (∀ b ∈ fp, H' b = none) → ∀ b ∈ fp, FpOk X pins H' b := fun hn b hb => ⟨hn b hb, (f2 b hb).2⟩
  refine codeAny_forLoop_any (fun n s' => ∃ i σ' H', Inv X pins σ' H' s' ∧ tn i s'.heap ∧ (∀ b ∈ fp, H' b = none) ∧ W i n σ' H') ?_ m0 ⟨0, σ, H2, I2, st2, fun b hb => (f2 b hb).1, w0⟩
  rintro n s3 ⟨i, σ3, H3, I3, st3, fr3, w3⟩
  rcases turn i n σ3 H3 w3 with ⟨stop, qn⟩ | ⟨go, N, hN, step⟩
  · refine wpAny_passesOwn hp (thn (T.done X rfl rfl rfl hc i pins s3 σ3 H3 X.xe I3 (stat fr3) st3 stop) fun r s4 ⟨hr, I4⟩ => ?_)
    subst hr
    exact wpAny_execs_nil ⟨σ3, H3, I4, qn⟩
  · refine wpAny_passesOwn hp (thn (T.item X rfl rfl rfl hc i pins s3 σ3 H3 X.xe I3 (stat fr3) st3 go) fun r s4 ⟨u, hr, h4⟩ => ?_)
    subst hr
    refine wpAny_passesOwn hp (thn h4 fun _ s5 ⟨x, H5, I5, r5, y5, st5, fr5⟩ => ?_)
    have I5' := I5.pinned (stat fr5) (T.obj _ _ st5)
    refine wpAny_passesOwn hp (thn (hg _ s5 σ3 H5 x u _ I5' r5 (step x H5 y5)) fun _ s6 ⟨σ6, H6, I6, q6⟩ => ?_)
    refine wpAny_passesOwn hp (thn (hb _ s6 σ6 H6 _ I6 q6) fun f s7 q7 => ?_)
    have again : ∀ {σ7 : St} {H7 : Hp}, Inv X (pins ++ pinsAt fp s5.heap) σ7 H7 s7 → N σ7 H7 → ∃ m, m < n ∧ ∃ i σ' H', Inv X pins σ' H' s7 ∧ tn i s7.heap ∧ (∀ b ∈ fp, H' b = none) ∧ W i m σ' H' := fun {σ7 H7} I7 n7 => by
      obtain ⟨m', hm, w7⟩ := hN σ7 H7 n7
      refine ⟨m', hm, i + 1, σ7, H7, I7.unpinned, T.keep _ _ _ st5 fun b hb o e => (I7.pin (b, o) (List.mem_append_right _ (List.mem_append_right _ (mem_pinsAt hb e)))).1, fun b hb => ?_, w7⟩
      obtain ⟨o, e, d⟩ := T.obj _ _ st5 b hb
      exact (I7.pin (b, o) (List.mem_append_right _ (List.mem_append_right _ (mem_pinsAt hb e)))).2.1
    cases f with
    | next => obtain ⟨σ7, H7, I7, n7⟩ := q7; exact again I7 n7
    | cont => obtain ⟨σ7, H7, I7, n7⟩ := q7; exact again I7 n7
    | brk => obtain ⟨σ7, H7, I7, q7⟩ := q7; exact ⟨σ7, H7, I7.unpinned, q7⟩
    | ret v => obtain ⟨x7, σ7, H7, I7, r7, q7⟩ := q7; exact ⟨x7, σ7, H7, I7.unpinned, r7, q7⟩
end

/-! ### the forms one uses -/
end L2

namespace L2
open PySem PySem.Spec PyProof.Rows

noncomputable abbrev R2 := V → V → Hp → VK → Prop
noncomputable def OpR (X : Cx) (f : Value → Value → Sem Value) (r : R2) : Prop :=
  ∀ (pins : List (Addr × Obj)) (s : Shared) (σ : St) (H : Hp) (x y : V) (v u : Value) (Q : VK), Inv X pins σ H s → RelV x v → RelV y u → r x y H Q →
    wpAny (model X.prog X.w) X.A (f v u) (EP X pins σ Q) X.xe s
noncomputable def UnR (X : Cx) (f : Value → Sem Value) (r : V → Hp → VK → Prop) : Prop :=
  ∀ (pins : List (Addr × Obj)) (s : Shared) (σ : St) (H : Hp) (x : V) (v : Value) (Q : VK), Inv X pins σ H s → RelV x v → r x H Q →
    wpAny (model X.prog X.w) X.A (f v) (EP X pins σ Q) X.xe s
noncomputable def CallR (X : Cx) (f : Value) (r : List V → Hp → VK → Prop) : Prop :=
  ∀ (pins : List (Addr × Obj)) (s : Shared) (σ : St) (H : Hp) (xs : List V) (us : List Value) (Q : VK), Inv X pins σ H s → Vals xs us → r xs H Q →
    wpAny (model X.prog X.w) X.A (call f us) (EP X pins σ Q) X.xe s
noncomputable def TruR (X : Cx) (r : V → Hp → (Bool → Hp → Prop) → Prop) : Prop :=
  ∀ (pins : List (Addr × Obj)) (s : Shared) (σ : St) (H : Hp) (x : V) (v : Value) (Q : Bool → Hp → Prop), Inv X pins σ H s → RelV x v → r x H Q →
    wpAny (model X.prog X.w) X.A (truthy v) (TP X pins σ Q) X.xe s

noncomputable def tOp (r : R2) (ta tb : TE) : TE := fun σ H Q => ta σ H fun x H1 => tb σ H1 fun y H2 => r x y H2 Q
noncomputable def tUn (r : V → Hp → VK → Prop) (ta : TE) : TE := fun σ H Q => ta σ H fun x H1 => r x H1 Q
noncomputable def rI (C : Int → Int → Prop) (g : Int → Int → V) : R2 := fun x y H Q => ∃ i j, x = .int i ∧ y = .int j ∧ C i j ∧ Q (g i j) H
noncomputable def rI0 (g : Int → Int → V) : R2 := fun x y H Q => ∃ i j, x = .int i ∧ y = .int j ∧ Q (g i j) H
noncomputable def rU (g : Int → V) : V → Hp → VK → Prop := fun x H Q => ∃ i, x = .int i ∧ Q (g i) H

section
variable {X : Cx} {a b c : Expr} {ta tb tc : TE} {pos : Pos}

theorem binT (ha : PE X a ta) (hb : PE X b tb) {pins : List (Addr × Obj)} {s : Shared} {σ : St} {H : Hp} {R : V → V → Hp → Prop} (I : Inv X pins σ H s)
    (h : ta σ H fun x H1 => tb σ H1 fun y H2 => R x y H2) {Q : Value → Shared → Prop} {f : Value → Value → Sem Value}
    (hf : ∀ v u s2 x y H2, Inv X pins σ H2 s2 → RelV x v → RelV y u → R x y H2 → wpAny (model X.prog X.w) X.A (f v u) Q X.xe s2) :
    wpAny (model X.prog X.w) X.A (eval a X.env) (fun v s₁ => wpAny (model X.prog X.w) X.A (eval b X.env) (fun u s₂ => wpAny (model X.prog X.w) X.A (f v u) Q X.xe s₂) X.xe s₁) X.xe s := by
  refine thn (ha pins s σ H _ I h) fun v s1 ⟨x, H1, I1, r1, q1⟩ => ?_
  refine thn (hb pins s1 σ H1 _ I1 q1) fun u s2 ⟨y, H2, I2, r2, q2⟩ => ?_
  exact hf v u s2 x y H2 I2 r1 r2 q2

theorem pe_op {op : Operator} {r : R2} (ho : OpR X (binaryOp op) r) (ha : PE X a ta) (hb : PE X b tb) : PE X (.BinOp a op b pos) (tOp r ta tb) := by
  intro pins s σ H Q I h
  exact wpAny_BinOp (binT ha hb I h fun v u s2 x y H2 I2 rx ry q => ho pins s2 σ H2 x y v u Q I2 rx ry q)
theorem pe_un {op : UnaryOp} {r : V → Hp → VK → Prop} (ho : UnR X (unaryOp op) r) (ha : PE X a ta) : PE X (.UnaryOp op a pos) (tUn r ta) := by
  intro pins s σ H Q I h
  exact UnaryOp_ (thn (ha pins s σ H _ I h) fun v s1 ⟨x, H1, I1, r1, q1⟩ => ho pins s1 σ H1 x v Q I1 r1 q1)
/-! ### ints -/
theorem opI {f : Value → Value → Sem Value} {C : Int → Int → Prop} {g : Int → Int → Int}
    (rule : ∀ (i j : Int) (t u : Tok) (s : Shared) (Q : Value → Shared → Prop) (E : Value → Shared → Prop), C i j → Q (.int (g i j) s.toks) { s with toks := s.toks + 1 } → wpAny (model X.prog X.w) X.A (f (.int i t) (.int j u)) Q E s) :
    OpR X f (rI C fun i j => .int (g i j)) := by
  intro pins s σ H x y v u Q I rx ry h
  obtain ⟨i, j, rfl, rfl, hc, q⟩ := h
  obtain ⟨t, rfl⟩ := rx
  obtain ⟨t', rfl⟩ := ry
  exact rule i j t t' s _ _ hc ⟨.int (g i j), H, I.tok _, ⟨_, rfl⟩, q⟩
theorem opI0 {f : Value → Value → Sem Value} {g : Int → Int → Int}
    (rule : ∀ (i j : Int) (t u : Tok) (s : Shared) (Q : Value → Shared → Prop) (E : Value → Shared → Prop), Q (.int (g i j) s.toks) { s with toks := s.toks + 1 } → wpAny (model X.prog X.w) X.A (f (.int i t) (.int j u)) Q E s) :
    OpR X f (rI0 fun i j => .int (g i j)) := by
  intro pins s σ H x y v u Q I rx ry h
  obtain ⟨i, j, rfl, rfl, q⟩ := h
  obtain ⟨t, rfl⟩ := rx
  obtain ⟨t', rfl⟩ := ry
  exact rule i j t t' s _ _ ⟨.int (g i j), H, I.tok _, ⟨_, rfl⟩, q⟩
theorem opB0 {f : Value → Value → Sem Value} {g : Int → Int → Bool}
    (rule : ∀ (i j : Int) (t u : Tok) (s : Shared) (Q : Value → Shared → Prop) (E : Value → Shared → Prop), Q (.bool (g i j)) s → wpAny (model X.prog X.w) X.A (f (.int i t) (.int j u)) Q E s) :
    OpR X f (rI0 fun i j => .bl (g i j)) := by
  intro pins s σ H x y v u Q I rx ry h
  obtain ⟨i, j, rfl, rfl, q⟩ := h
  obtain ⟨t, rfl⟩ := rx
  obtain ⟨t', rfl⟩ := ry
  exact rule i j t t' s _ _ ⟨.bl (g i j), H, I, rfl, q⟩

noncomputable def CDiv (i j : Int) : Prop := 0 < j ∧ j < 1073741824
noncomputable def CPow (i j : Int) : Prop := 0 ≤ j ∧ j ≤ 1000000 ∧ i.natAbs < 2 ^ 64
noncomputable def CMul (i j : Int) : Prop := (-(2 ^ 64) < i ∧ i < 2 ^ 64) ∨ (-(2 ^ 64) < j ∧ j < 2 ^ 64)
theorem CMul.ok {i j : Int} (h : CMul i j) : IntMulOk i j := by
  rcases h with ⟨h1, h2⟩ | ⟨h1, h2⟩
  · exact .of_left (intBits_le_64 h1 h2)
  · exact .of_right (intBits_le_64 h1 h2)
theorem op_add : OpR X (binaryOp .Add) (rI0 fun i j => .int (i + j)) := opI0 fun _ _ _ _ _ _ _ q => add_int q
theorem op_sub : OpR X (binaryOp .Sub) (rI0 fun i j => .int (i - j)) := opI0 fun _ _ _ _ _ _ _ q => sub_int q
theorem op_fdiv : OpR X (binaryOp .FloorDiv) (rI CDiv fun i j => .int (i / j)) := opI fun i j _ _ _ _ _ hc q => by
  have h1 : (0 : Int) < j := hc.1
  have h2 : j < 1073741824 := hc.2
  exact floordiv_int (by omega) (by rw [Int.fdiv_eq_ediv_of_nonneg i (by omega)]; exact q) (.inl (PyProof.noPylong_small (by omega)))
theorem op_mod : OpR X (binaryOp .Mod) (rI (fun _ j => 0 < j) fun i j => .int (i % j)) := opI fun i j _ _ _ _ _ hc q => by
  have h1 : (0 : Int) < j := hc
  exact mod_int' (by omega) (by rw [Int.fmod_eq_emod_of_nonneg i (by omega)]; exact q)
theorem op_pow : OpR X (binaryOp .Pow) (rI CPow fun i j => .int (i ^ j.toNat)) := opI fun _ _ _ _ _ _ _ hc q => pow_int_small hc.1 hc.2.1 hc.2.2 q
theorem unI {f : Value → Sem Value} {g : Int → Int}
    (rule : ∀ (i : Int) (t : Tok) (s : Shared) (Q : Value → Shared → Prop) (E : Value → Shared → Prop), Q (.int (g i) s.toks) { s with toks := s.toks + 1 } → wpAny (model X.prog X.w) X.A (f (.int i t)) Q E s) :
    UnR X f (rU fun i => .int (g i)) := by
  intro pins s σ H x v Q I rx h
  obtain ⟨i, rfl, q⟩ := h
  obtain ⟨t, rfl⟩ := rx
  exact rule i t s _ _ ⟨.int (g i), H, I.tok _, ⟨_, rfl⟩, q⟩
theorem un_neg : UnR X (unaryOp .USub) (rU fun i => .int (-i)) := unI fun _ _ _ _ _ q => neg_int q
/-! ### bools among ints: n += (a < b) -/
end

/-! ### comparisons -/
noncomputable def scal : V → V → Bool
  | .non, .non => true | .non, .int _ => true | .int _, .non => true | .non, .bl _ => true | .bl _, .non => true | .non, .str _ => true | .str _, .non => true
  | .int _, .int _ => true | .bl _, .bl _ => true | .str _, .str _ => true | .byt _, .byt _ => true
  | .int _, .str _ => true | .str _, .int _ => true | .bl _, .str _ => true | .str _, .bl _ => true
  | _, _ => false
noncomputable def rNe : R2 := fun x y H Q => scal x y = true ∧ Q (.bl (!decide (x = y))) H

theorem dec_int {i j : Int} : decide (V.int i = V.int j) = (i == j) := by
  rw [Bool.eq_iff_iff]
  simp
theorem dec_bl {i j : Bool} : decide (V.bl i = V.bl j) = (i == j) := by
  rw [Bool.eq_iff_iff]
  simp
theorem dec_str {i j : Str} : decide (V.str i = V.str j) = (i == j) := by
  rw [Bool.eq_iff_iff]
  simp
theorem dec_byt {i j : Array UInt8} : decide (V.byt i = V.byt j) = (i.toList == j.toList) := by
  rw [Bool.eq_iff_iff]
  cases i
  cases j
  simp

section
variable {X : Cx} {a b c : Expr} {ta tb tc : TE} {pos : Pos}
theorem fin_bl {pins : List (Addr × Obj)} {σ : St} {H : Hp} {s : Shared} {Q : VK} {k k' : Bool} (I : Inv X pins σ H s) (q : Q (.bl k) H) (e : k = k') : EP X pins σ Q (.bool k') s := by
  subst e
  exact ⟨.bl k, H, I, rfl, q⟩
theorem op_ne : OpR X (compareOp .NotEq) rNe := by
  intro pins s σ H x y v u Q I rx ry h
  obtain ⟨hs, q⟩ := h
  cases x with
  | non =>
    cases rx
    cases y with
    | non => cases ry; exact PySem.EqNone.ne_none_none (fin_bl I q (by simp))
    | bl j => cases ry; exact PySem.EqNone.ne_none_bool (fin_bl I q (by simp))
    | int j => obtain ⟨t', rfl⟩ := ry; exact PySem.EqNone.ne_none_int (fin_bl I q (by simp))
    | str j => obtain ⟨t', rfl⟩ := ry; exact PySem.EqNone.ne_none_str (fin_bl I q (by simp))
    | _ => exact absurd (show false = true from hs) Bool.false_ne_true
  | bl i =>
    cases rx
    cases y with
    | non => cases ry; exact PySem.EqNone.ne_bool_none (fin_bl I q (by simp))
    | bl j => cases ry; exact ne_bool (fin_bl I q (congrArg not dec_bl))
    | str j => obtain ⟨t', rfl⟩ := ry; exact PySem.EqMixed.ne_bool_str (fin_bl I q (by simp))
    | _ => exact absurd (show false = true from hs) Bool.false_ne_true
  | int i =>
    obtain ⟨t, rfl⟩ := rx
    cases y with
    | non => cases ry; exact PySem.EqNone.ne_int_none (fin_bl I q (by simp))
    | int j => obtain ⟨t', rfl⟩ := ry; exact ne_int (fin_bl I q (congrArg not dec_int))
    | str j => obtain ⟨t', rfl⟩ := ry; exact PySem.EqMixed.ne_int_str (fin_bl I q (by simp))
    | _ => exact absurd (show false = true from hs) Bool.false_ne_true
  | str i =>
    obtain ⟨t, rfl⟩ := rx
    cases y with
    | non => cases ry; exact PySem.EqNone.ne_str_none (fin_bl I q (by simp))
    | bl j => cases ry; exact PySem.EqMixed.ne_str_bool (fin_bl I q (by simp))
    | int j => obtain ⟨t', rfl⟩ := ry; exact PySem.EqMixed.ne_str_int (fin_bl I q (by simp))
    | str j => obtain ⟨t', rfl⟩ := ry; exact ne_str (fin_bl I q (congrArg not dec_str))
    | _ => exact absurd (show false = true from hs) Bool.false_ne_true
  | byt i =>
    obtain ⟨t, rfl⟩ := rx
    cases y with
    | byt j => obtain ⟨t', rfl⟩ := ry; exact PySem.W.ne_bytes (fin_bl I q (congrArg not dec_byt))
    | _ => exact absurd (show false = true from hs) Bool.false_ne_true
  | _ => cases y <;> exact absurd (show false = true from hs) Bool.false_ne_true

theorem op_lt : OpR X (compareOp .Lt) (rI0 fun i j => .bl (decide (i < j))) := opB0 fun _ _ _ _ _ _ _ q => lt_int q
theorem op_le : OpR X (compareOp .LtE) (rI0 fun i j => .bl (decide (i ≤ j))) := opB0 fun _ _ _ _ _ _ _ q => le_int q
theorem op_gt : OpR X (compareOp .Gt) (rI0 fun i j => .bl (decide (j < i))) := opB0 fun _ _ _ _ _ _ _ q => gt_int q
noncomputable def isObj : HO → Bool
  | .lst _ => true
  | .ins _ _ _ => true
  | _ => false
theorem obj_there {pins : List (Addr × Obj)} {s : Shared} {σ : St} {H : Hp} {a : Addr} {o : HO} (I : Inv X pins σ H s) (h : H a = some o) (p : isObj o = true) : ∃ ob, s.heap.get? a = some ob ∧ ob.cls ≠ .type "tuple" := by
  cases o with
  | lst xs =>
    obtain ⟨_, its, n, _, e⟩ : xs.length ≤ sizeLine ∧ ∃ (its : List Value) (n : Nat), Vals xs its ∧ s.heap.get? a = some { cls := .type "list", data := .seq its.toArray n } := I.hok a _ h
    exact ⟨_, e, (by show Value.type "list" ≠ .type "tuple"; decide +kernel)⟩
  | ins C dx fs =>
    have x := I.hok a _ h
    obtain ⟨_, _, _, e, _⟩ := x
    exact ⟨_, e, (by show Value.ref C ≠ .type "tuple"; exact fun z => by cases z)⟩
  | _ => exact absurd (show false = true from p) Bool.false_ne_true
theorem OpR.or {f : Value → Value → Sem Value} {r r' : R2} (h : OpR X f r) (h' : OpR X f r') : OpR X f (fun x y H Q => r x y H Q ∨ r' x y H Q) := by
  intro pins s σ H x y v u Q I rx ry q
  rcases q with q | q
  · exact h pins s σ H x y v u Q I rx ry q
  · exact h' pins s σ H x y v u Q I rx ry q

theorem nomark (b : Expr) {op : CmpOp} (h : op ≠ .In := by decide) (h2 : op ≠ .NotIn := by decide) : behindInMarks op b = false := by
  have e1 : (op == CmpOp.In) = false := by cases op <;> first | rfl | exact absurd rfl h
  have e2 : (op == CmpOp.NotIn) = false := by cases op <;> first | rfl | exact absurd rfl h2
  cases b <;> simp [behindInMarks, e1, e2]
theorem pe_cmpR {op : CmpOp} {r : R2} (ho : OpR X (compareOp op) r) (ha : PE X a ta) (hb : PE X b tb) (hm : behindInMarks op b = false) : PE X (.Compare a [op] [b] pos) (tOp r ta tb) := by
  intro pins s σ H Q I h
  exact wpAny_Compare1 (binT ha hb I h fun v u s2 x y H2 I2 rx ry q => ho pins s2 σ H2 x y v u Q I2 rx ry q) hm
noncomputable def tTest (t : TE) : TT := fun σ H Q => t σ H fun x H' => ∃ k, x = .bl k ∧ Q k H'
theorem pt_cmpR {op : CmpOp} {r : R2} (ho : OpR X (compareOp op) r) (ha : PE X a ta) (hb : PE X b tb) (hm : behindInMarks op b = false) : PT X (.Compare a [op] [b] pos) (tTest (tOp r ta tb)) := by
  intro pins s σ H Q I h
  refine wpAny_isTrue_Compare1 (thn (ha pins s σ H _ I h) fun v s1 ⟨x, H1, I1, r1, q1⟩ => thn (hb pins s1 σ H1 _ I1 q1) fun u s2 ⟨y, H2, I2, r2, q2⟩ =>
    thn (ho pins s2 σ H2 x y v u _ I2 r1 r2 q2) fun c s3 ⟨z, H3, I3, r3, k, e, q3⟩ => ?_) hm
  subst e
  cases r3
  exact wpAny_truthy_bool ⟨H3, I3, q3⟩
noncomputable def tChain (r r' : R2) (ta tb tc : TE) : TE := fun σ H Q => ta σ H fun x H1 => tb σ H1 fun y H2 => r x y H2 fun z H3 => ∃ k, z = .bl k ∧
  (if k = true then tc σ H3 fun w' H4 => r' y w' H4 Q else Q (.bl false) H3)
theorem pe_chain {op op' : CmpOp} {r r' : R2} (ho : OpR X (compareOp op) r) (ho' : OpR X (compareOp op') r') (ha : PE X a ta) (hb : PE X b tb) (hc : PE X c tc)
    (hm : lastMarks [op, op'] [b, c] = false := by with_unfolding_all rfl) : PE X (.Compare a [op, op'] [b, c] pos) (tChain r r' ta tb tc) := by
  intro pins s σ H Q I h
  refine Compare_chain (thn (ha pins s σ H _ I h) fun v s1 ⟨x, H1, I1, r1, q1⟩ => chain_link (thn (hb pins s1 σ H1 _ I1 q1) fun u s2 ⟨y, H2, I2, r2, q2⟩ =>
    thn (ho pins s2 σ H2 x y v u _ I2 r1 r2 q2) fun d s3 ⟨z, H3, I3, r3, k, e, q3⟩ => ?_)) hm
  subst e
  cases r3
  refine wpAny_truthy_bool ?_
  cases k with
  | false => exact ite_ff ⟨.bl false, H3, I3, rfl, q3⟩
  | true => exact ite_tt (chain_last (thn (hc pins s3 σ H3 _ I3 q3) fun w' s4 ⟨z', H4, I4, r4, q4⟩ => ho' pins s4 σ H4 y z' u w' Q I4 r2 r4 q4))
/-! ### truth -/
noncomputable def TruV (K : PySem.W.Frag) (x : V) (H : Hp) (k : Bool) : Prop :=
  match x with
  | .non => k = false
  | .bl b => k = b
  | .int i => k = (i != 0)
  | .str y => y.length ≤ sizeLine ∧ k = ((y.length : Int) != 0)
  | .byt y => y.size ≤ sizeLine ∧ k = ((y.size : Int) != 0)
  | .ref p => (∃ xs, SqL K H p xs ∧ k = !xs.isEmpty) ∨ (∃ xs, SqT K H p xs ∧ k = !xs.isEmpty) ∨ ∃ kvs, H p = some (.dK kvs) ∧ k = !kvs.isEmpty
  | _ => False
theorem isEmpty_kv {κ : Type} {kvs : List (κ × V)} {vs : List (κ × Value)} (r : KV kvs vs) : (!vs.isEmpty) = !kvs.isEmpty := by
  cases r <;> rfl
theorem isEmpty_of {xs : List V} {its : List Value} (r : Vals xs its) : (!its.toArray.isEmpty) = !xs.isEmpty := by
  cases r <;> simp
theorem line63 : (sizeLine : Nat) < 2 ^ 63 := by rw [sizeLine_eq]; decide
theorem tru_ok : TruR X (fun x H Q => ∃ k, TruV X.K x H k ∧ Q k H) := by
  intro pins s σ H x v Q I rx h
  obtain ⟨k, e, q⟩ := h
  have hl := line63
  have hs : sizeLine = 16777216 := sizeLine_eq
  cases x with
  | non =>
    cases rx
    have e' : k = false := e
    subst e'
    exact truthy_none ⟨H, I, q⟩
  | bl b =>
    cases rx
    have e' : k = b := e
    subst e'
    exact wpAny_truthy_bool ⟨H, I, q⟩
  | int i =>
    obtain ⟨t, rfl⟩ := rx
    have e' : k = (i != 0) := e
    subst e'
    exact PySem.P.truthy_int ⟨H, I, q⟩
  | str y =>
    obtain ⟨t, rfl⟩ := rx
    obtain ⟨hy, e'⟩ : y.length ≤ sizeLine ∧ k = ((y.length : Int) != 0) := e
    subst e'
    exact PySem.P.truthy_str (by omega) ⟨H, I.tok _, q⟩
  | byt y =>
    obtain ⟨t, rfl⟩ := rx
    obtain ⟨hy, e'⟩ : y.size ≤ sizeLine ∧ k = ((y.size : Int) != 0) := e
    subst e'
    exact PySem.W.truthy_bytes (by omega) ⟨H, I.tok _, q⟩
  | ref p =>
    cases rx
    have e' : (∃ xs, SqL X.K H p xs ∧ k = !xs.isEmpty) ∨ (∃ xs, SqT X.K H p xs ∧ k = !xs.isEmpty) ∨ ∃ kvs, H p = some (.dK kvs) ∧ k = !kvs.isEmpty := e
    rcases e' with ⟨xs, hx, e'⟩ | ⟨xs, hx, e'⟩ | ⟨kvs, hx, e'⟩
    · subst e'
      obtain ⟨its, r, pl, hz⟩ := I.list hx
      have hlen := r.length
      exact wpAny_truthy_list pl.isList (by simp only [List.size_toArray]; omega) ⟨H, I.tok _, by rw [isEmpty_of r]; exact q⟩
    · subst e'
      obtain ⟨its, r, pl, hz⟩ := I.tuple hx
      have hlen := r.length
      exact truthy_tuple pl (by simp only [List.size_toArray]; omega) ⟨H, I.tok _, by rw [isEmpty_of r]; exact q⟩
    · subst e'
      obtain ⟨hz, hS, vs, r, m⟩ : kvs.length ≤ sizeLine ∧ (p == sysModules) = false ∧ ∃ vs, KV kvs vs ∧ s.heap.DictOf (mixKind X.prog X.w) p vs := I.hok p _ hx
      have hlen : kvs.length = vs.length := Paired.length r
      exact wpAny_truthy_dict hS m (by omega) ⟨H, I.tok _, by rw [isEmpty_kv r]; exact q⟩
  | _ => exact (show False from e).elim
theorem pt_truth (ha : PE X a ta) (he : ∀ whole, isTrue a X.env whole = (do let v ← whole; standAt a.pos; holding [v] (truthy v))) :
    PT X a (fun σ H Q => ta σ H fun x H' => ∃ k, TruV X.K x H' k ∧ Q k H') := by
  intro pins s σ H Q I h
  exact isTrue_plain (thn (ha pins s σ H _ I h) fun v s1 ⟨x, H1, I1, r1, q1⟩ => tru_ok pins s1 σ H1 x v Q I1 r1 q1) (he _)

/-! ### strs and bytes -/
/-! ### scalar builtins, by CallR -/
theorem vals1 {x : V} {us : List Value} (r : Vals [x] us) : ∃ u, us = [u] ∧ RelV x u := by
  cases r with
  | cons r1 r2 => cases r2; exact ⟨_, rfl, r1⟩
theorem vals2 {x y : V} {us : List Value} (r : Vals [x, y] us) : ∃ u w', us = [u, w'] ∧ RelV x u ∧ RelV y w' := by
  cases r with
  | cons r1 r2 =>
    cases r2 with
    | cons r3 r4 => cases r4; exact ⟨_, _, rfl, r1, r3⟩
theorem call_max2 (hc : X.calm = true) : CallR X (.builtin "max") (fun xs H Q => ∃ i j, xs = [.int i, .int j] ∧ Q (.int (if j > i then j else i)) H) := by
  intro pins s σ H xs us Q I r h
  obtain ⟨i, j, rfl, q⟩ := h
  obtain ⟨u, w', rfl, ⟨t, rfl⟩, ⟨t', rfl⟩⟩ := vals2 r
  refine max_two_ints (I.ok.hd hc) fun h' tk k => ⟨_, H, I.kept k, ?_, q⟩
  by_cases hj : j > i
  · rw [if_pos hj, if_pos hj]; exact ⟨_, rfl⟩
  · rw [if_neg hj, if_neg hj]; exact ⟨_, rfl⟩
theorem call_min2 (hc : X.calm = true) : CallR X (.builtin "min") (fun xs H Q => ∃ i j, xs = [.int i, .int j] ∧ Q (.int (if j < i then j else i)) H) := by
  intro pins s σ H xs us Q I r h
  obtain ⟨i, j, rfl, q⟩ := h
  obtain ⟨u, w', rfl, ⟨t, rfl⟩, ⟨t', rfl⟩⟩ := vals2 r
  refine min_two_ints (I.ok.hd hc) fun h' tk k => ⟨_, H, I.kept k, ?_, q⟩
  by_cases hj : j < i
  · rw [if_pos hj, if_pos hj]; exact ⟨_, rfl⟩
  · rw [if_neg hj, if_neg hj]; exact ⟨_, rfl⟩
theorem call_int1 : CallR X (.type "int") (fun xs H Q => (∃ i, xs = [.int i] ∧ Q (.int i) H) ∨ ∃ k, xs = [.bl k] ∧ Q (.int (if k then 1 else 0)) H) := by
  intro pins s σ H xs us Q I r h
  rcases h with ⟨i, rfl, q⟩ | ⟨k, rfl, q⟩
  · obtain ⟨u, rfl, t, rfl⟩ := vals1 r
    exact call_int_int ⟨.int i, H, I, ⟨_, rfl⟩, q⟩
  · obtain ⟨u, rfl, r1⟩ := vals1 r
    cases r1
    exact call_int_bool ⟨.int (if k then 1 else 0), H, I.tok _, ⟨_, rfl⟩, q⟩
end
end L2

namespace L2
open PySem PySem.Spec PyProof.Rows

/-! ### an instance, its attributes a map -/
section
variable {prog : Program} {w : World} {A : Around} {E : Value → Shared → Prop} {s : Shared} {K : PySem.W.Frag} {x dx C f : Addr} {mA : Str → Option Value} {name : Str} {v : Value}

end

/-! ### the attributes as a list of pairs -/
section
variable {P : Program} {w : World} {H H' : Hp} {h h' : Heap} {a C dx : Addr} {fs fs' : List (Str × V)}
end

/-! ### what of the text a class must have -/
structure Cls (K : PySem.W.Frag) (C : Addr) : Prop where
  pg : PySem.W.plainGet K C Str.empty = true
  hd : PySem.W.hasDictIn K C = true
  po : PySem.W.plainOver K C = true
  sa : PySem.W.findIn K (.ref C) "__setattr__" = some (some (.builtin "object.__setattr__"))
theorem Cls.get {K : PySem.W.Frag} {C : Addr} (c : Cls K C) (f : Str) : PySem.W.plainGet K C f = true := c.pg
section
variable {X : Cx} {pins : List (Addr × Obj)} {σ : St} {H : Hp} {s : Shared} {a C dx : Addr} {fs : List (Str × V)} {f : Str} {v : V} {A : Around} {E : Value → Shared → Prop}

end

/-! ### readings and rules -/
section
variable {X : Cx} {o e value : Expr} {f : Str} {pos pos' tpos : Pos} {ta tv : TE}
end

/-! ### isinstance -/
section
variable {X : Cx} {pins : List (Addr × Obj)} {σ : St} {H : Hp} {s : Shared} {A : Around} {E : Value → Shared → Prop} {Q : Value → Shared → Prop} {c : Value} {b : Bool}
end
end L2

namespace L2
open PySem PySem.Spec PyProof.Rows

/-! ### room -/
structure Room (k : Nat) (A : Around) : Prop where
  hd : A.handled = none
  dp : A.depth + 3 * k + 5 < recursionLimit
  un : A.units + 16 * k + 200 < cLine
theorem Room.mono {j k : Nat} {A : Around} (r : Room k A) (h : j ≤ k) : Room j A := ⟨r.hd, by have := r.dp; omega, by have := r.un; omega⟩
theorem Room.deeper {k : Nat} {A : Around} (r : Room (k + 1) A) (env : Env) : Room k (A.deeper env) :=
  ⟨r.hd, by have := r.dp; show A.depth + 1 + 3 * k + 5 < _; omega, by have := r.un; show A.units + 3 + 16 * k + 200 < _; omega⟩
theorem Room.in1 {k : Nat} {A : Around} (r : Room (k + 1) A) : Room k A.in1 :=
  ⟨r.hd, by have := r.dp; show A.depth + 3 * k + 5 < _; omega, by have := r.un; show A.units + 1 + 16 * k + 200 < _; omega⟩
theorem Room.depth {k : Nat} {A : Around} (r : Room k A) : A.depth < recursionLimit := by have := r.dp; omega
theorem Room.units {k : Nat} {A : Around} (r : Room k A) : A.units + 64 < cLine := by have := r.un; omega
/-! ### argument lists and displays -/
noncomputable def tNil : TA := fun _ H Q => Q [] H
noncomputable def tCons (ta : TE) (tr : TA) : TA := fun σ H Q => ta σ H fun x H1 => tr σ H1 fun xs H2 => Q (x :: xs) H2
section
variable {X : Cx} {e : Expr} {es : List Expr} {te : TE} {t : TA} {pos : Pos}
theorem pa_nil : PA X [] tNil := fun _ _ _ _ H Q I h => Calls.spliced_nil ⟨[], H, I, .nil, h⟩
theorem pa_cons (ha : PE X e te) (hr : PA X es t) (hs : starEach (e :: es) X.env = (false, eval e X.env) :: starEach es X.env := by rfl) : PA X (e :: es) (tCons te t) := by
  intro pos pins s σ H Q I h
  rw [hs]
  show wpAny _ _ (spliced ((false, eval e X.env) :: backTo pos (starEach es X.env))) _ _ s
  refine Calls.spliced_cons (thn (ha pins s σ H _ I h) fun u s1 ⟨x, H1, I1, r1, q1⟩ => ?_)
  exact thn (hr pos pins s1 σ H1 _ I1 q1) fun us s2 ⟨xs, H2, I2, r2, q2⟩ => ⟨x :: xs, H2, I2, .cons r1 r2, q2⟩

noncomputable def tTup (t : TA) : TE := fun σ H Q => t σ H fun xs H1 => xs.length ≤ sizeLine ∧ ∀ p, H1 p = none → Q (.ref p) (upd H1 p (.tup xs))
noncomputable def tLst (t : TA) : TE := fun σ H Q => t σ H fun xs H1 => xs.length ≤ sizeLine ∧ ∀ p, H1 p = none → Q (.ref p) (upd H1 p (.lst xs))
theorem pe_tup {x1} (h : PA X es t) : PE X (.Tuple es x1 pos) (tTup t) := by
  intro pins s σ H Q I hq
  refine wpAny_Tuple_spliced (thn (h pos pins s σ H _ I hq) fun us s1 ⟨xs, H1, I1, r, z, q⟩ => ⟨by rw [← r.length]; exact z, ?_⟩)
  have hf : H1 s1.heap.objs.size = none := I1.hok.fresh (Nat.le_refl _)
  refine ⟨.ref s1.heap.objs.size, upd H1 s1.heap.objs.size (.tup xs), I1.laid (t' := s1.toks) (fun b u e => Heap.get?_push_of_some _ e) (Nat.le_refl _) ?_, rfl, q _ hf⟩
  exact ⟨z, us, r, ⟨_, Heap.get?_push_size _ rfl, rfl, _, rfl⟩⟩
theorem pe_lst (h : PA X es t) : PE X (.List es pos) (tLst t) := by
  intro pins s σ H Q I hq
  refine wpAny_List_spliced (thn (h pos pins s σ H _ I hq) fun us s1 ⟨xs, H1, I1, r, z, q⟩ => ⟨by rw [← r.length]; exact z, ?_⟩)
  have hf : H1 s1.heap.objs.size = none := I1.hok.fresh (Nat.le_refl _)
  refine ⟨.ref s1.heap.objs.size, upd H1 s1.heap.objs.size (.lst xs), I1.laid (t' := s1.toks) (fun b u e => Heap.get?_push_of_some _ e) (Nat.le_refl _) ?_, rfl, q _ hf⟩
  exact ⟨z, us, 0, r, Heap.get?_push_size _ rfl⟩
end

/-! ### what a def promises -/
noncomputable abbrev Sp := List V → Hp → VK → XK → Prop
noncomputable abbrev CXT := List Env → Hp → Shared → XK → Value → Shared → Prop

structure Env0 (P : Program) (w : World) (K : PySem.W.Frag) (mg : Str → Option Value) (base : Heap) (A : Around) (outer : List Env) (s : Shared) (H : Hp) : Prop where
  frames : A.frames = some outer
  mod : Mod K mg base
  bs : ∀ b o, base.get? b = some o → s.heap.get? b = some o ∧ H b = none
  bsz : base.objs.size ≤ s.heap.objs.size
  funs : s.heap.FunFrames base outer
  frf : ∀ b ∈ frs outer, H b = none
  hok : HOk P w H s.heap
  bare : AllBare s.gens
noncomputable def CE (outer : List Env) (P : Program) (w : World) (H : Hp) (s : Shared) (Q : VK) (u : Value) (s' : Shared) : Prop :=
  ∃ v H', s'.os = s.os ∧ AllBare s'.gens ∧ Un (frs outer) [] H H' s.heap s'.heap ∧ HOk P w H' s'.heap ∧ RelV v u ∧ Q v H'
noncomputable def CR (CX : CXT) (outer : List Env) (P : Program) (w : World) (H : Hp) (s : Shared) (Q : VK) (E : XK) (r : Result) (s' : Shared) : Prop :=
  match r with
  | .ok (.ret u) => CE outer P w H s Q u s'
  | .ok _ => False
  | .error e => CX outer H s E e s'
structure FnOk (P : Program) (w : World) (K : PySem.W.Frag) (mg : Str → Option Value) (base : Heap) (CX : CXT) (k : Nat) (f : Addr) (fd : FuncData) (ps : List Str) (sp : Sp) : Prop where
  len : ∀ vs H Q E, sp vs H Q E → vs.length = ps.length
  run : ∀ (A : Around) (outer : List Env) (s : Shared) (H : Hp) (args : Args) (us : List Value) (vs : List V) (Q : VK) (E : XK), Room k A → Env0 P w K mg base A outer s H → BindsTo s fd args (ps.zip us) → Vals vs us → sp vs H Q E →
    codeAny (model P w) A (.call (.ref f) args) (CR CX outer P w H s Q E) s
theorem FnOk.mono {P : Program} {w : World} {K : PySem.W.Frag} {mg : Str → Option Value} {base : Heap} {CX : CXT} {j k : Nat} {f : Addr} {fd : FuncData} {ps : List Str} {sp : Sp} (F : FnOk P w K mg base CX j f fd ps sp) (h : j ≤ k) :
    FnOk P w K mg base CX k f fd ps sp := ⟨F.len, fun A outer s H args us vs Q E hr => F.run A outer s H args us vs Q E (hr.mono h)⟩
theorem FnOk.imp {P : Program} {w : World} {K : PySem.W.Frag} {mg : Str → Option Value} {base : Heap} {CX : CXT} {k : Nat} {f : Addr} {fd : FuncData} {ps : List Str} {sp sp' : Sp} (F : FnOk P w K mg base CX k f fd ps sp)
    (h : ∀ vs H Q E, sp' vs H Q E → sp vs H Q E) : FnOk P w K mg base CX k f fd ps sp' :=
  ⟨fun vs H Q E q => F.len vs H Q E (h _ _ _ _ q), fun A outer s H args us vs Q E hr he hb hv hs => F.run A outer s H args us vs Q E hr he hb hv (h _ _ _ _ hs)⟩

theorem Env0.in1 {P : Program} {w : World} {K : PySem.W.Frag} {mg : Str → Option Value} {base : Heap} {A : Around} {outer : List Env} {s : Shared} {H : Hp} (e : Env0 P w K mg base A outer s H) :
    Env0 P w K mg base A.in1 outer s H := ⟨e.frames, e.mod, e.bs, e.bsz, e.funs, e.frf, e.hok, e.bare⟩

section
variable {X : Cx} {pins : List (Addr × Obj)} {σ : St} {H : Hp} {s s' : Shared}
theorem Inv.env0 (I : Inv X pins σ H s) : Env0 X.prog X.w X.K X.mg X.base X.A X.stack s H :=
  ⟨I.ok.frames, I.ok.mod, I.bs, Nat.le_trans I.ok.bsz I.sz, I.stack, I.stkFree, I.hok, I.bare⟩
theorem Inv.after {Q : VK} {u : Value} (I : Inv X pins σ H s) (h : CE X.stack X.prog X.w H s Q u s') : EP X pins σ Q u s' := by
  obtain ⟨v, H', os, bare, un, hok, r, q⟩ := h
  obtain ⟨hh, g, d, t, os'⟩ := s'
  obtain rfl : os' = s.os := os
  exact ⟨v, H', I.call (h' := hh) (g' := g) (d' := d) (t' := t) (ch := []) un hok bare (fun b z => absurd z (by simp)), r, q⟩
end

/-! ### calls -/
noncomputable def tCall (sp : Sp) (dvs : List V) (E : XK) (t : TA) : TE := fun σ H Q => t σ H fun vs H1 => sp (vs ++ dvs) H1 Q E
noncomputable def Binds (K : PySem.W.Frag) (fd : FuncData) (ps : List Str) (ds : List Value) : Prop :=
  ∀ (s : Shared) (us : List Value), K.In s.heap → (us ++ ds).length = ps.length → BindsTo s fd ⟨us, []⟩ (ps.zip (us ++ ds))
theorem Binds.all {K : PySem.W.Frag} {fd : FuncData} {ps : List Str} (h : ∀ us : List Value, us.length = ps.length → bindArgs fd ⟨us, []⟩ = pure (ps.zip us)) : Binds K fd ps [] := fun s us _ hl => by
  rw [List.append_nil] at hl ⊢
  exact .of_eq (h us hl)

noncomputable def Passes (CX : CXT) (X : Cx) (E : XK) : Prop := ∀ (pins : List (Addr × Obj)) (σ : St) (H : Hp) (s : Shared) (e : Value) (s' : Shared), Inv X pins σ H s → CX X.stack H s E e s' → X.xe e s'

section
variable {X : Cx} {CX : CXT} {k : Nat} {f C : Addr} {fd : FuncData} {ps : List Str} {sp : Sp} {dvs : List V} {ds : List Value} {E : XK} {x m : Str} {p pos apos : Pos} {e o : Expr} {es : List Expr} {ta : TE} {t : TA}

theorem run_fn {pins : List (Addr × Obj)} {σ : St} {H : Hp} {s : Shared} {Q : VK} {us : List Value} {vs : List V} (F : FnOk X.prog X.w X.K X.mg X.base CX k f fd ps sp) (hr : Room k X.A) (hb : Binds X.K fd ps ds) (hd : Vals dvs ds) (hx : Passes CX X E)
    (I : Inv X pins σ H s) (r : Vals vs us) (h : sp (vs ++ dvs) H Q E) : wpAny (model X.prog X.w) X.A (call (.ref f) us) (EP X pins σ Q) X.xe s := by
  have r2 : Vals (vs ++ dvs) (us ++ ds) := r.append hd
  have hl : (us ++ ds).length = ps.length := by rw [← r2.length]; exact F.len _ _ _ _ h
  refine wpAny_call (codeAny_mono (F.run X.A X.stack s H ⟨us, []⟩ (us ++ ds) (vs ++ dvs) Q E hr I.env0 (hb s us I.kIn hl) r2 h) fun r s' hq => ?_)
  cases r with
  | error e => exact hx pins σ H s e s' I hq
  | ok fl =>
    cases fl with
    | ret u => exact I.after hq
    | next => exact False.elim hq
    | brk => exact False.elim hq
    | cont => exact False.elim hq

theorem pe_call (F : FnOk X.prog X.w X.K X.mg X.base CX k f fd ps sp) (hr : Room k X.A) (hg : Gl X x) (hm : X.mg x = some (.ref f)) (hk : PySem.W.keepIn X.K (.ref f) = true) (hb : Binds X.K fd ps ds) (hd : Vals dvs ds) (hx : Passes CX X E)
    (ha : PA X (e :: es) t) (hdb : (x == ("__debug__" : Str)) = false := by decide) (he : starEach (e :: es) X.env = (false, eval e X.env) :: starEach es X.env := by rfl) (hpl : (backTo pos (starEach es X.env)).any (·.1) = false := by rfl) :
    PE X (.Call (.Name x p) (e :: es) [] pos) (tCall sp dvs E t) := by
  intro pins s σ H Q I h
  refine wpAny_Call_Name_kw (ld_glob I hg hm ?_ hdb)
  refine PySem.W.callWith_K (h₀ := X.base) I.ok.mod.kin hk (thn (ha pos pins s σ H _ I h) fun us s1 ⟨vs, H1, I1, r, q⟩ => ⟨I1.kIn, ?_⟩) he hpl
  exact run_fn F hr hb hd hx I1 r q
end

/-! ### keywords -/
noncomputable def PK (X : Cx) (kws : List Keyword) (t : TA) : Prop :=
  ∀ (pos : Pos) (pins : List (Addr × Obj)) (s : Shared) (σ : St) (H : Hp) (Q : List V → Hp → Prop), Inv X pins σ H s → t σ H Q → wpAny (model X.prog X.w) X.A (evalAll ((backToKw pos (keywordEach kws X.env)).map (·.2))) (AP X pins σ Q) X.xe s
section
variable {X : Cx} {CX : CXT} {k : Nat} {f C : Addr} {fd : FuncData} {ps ks : List Str} {sp : Sp} {E : XK} {x m : Str} {p pos apos kpos : Pos} {e o : Expr} {es : List Expr} {kws : List Keyword} {te ta : TE} {t tk : TA} {nm : Option Str}
theorem pk_nil : PK X [] tNil := fun _ _ _ _ H Q I h => wpAny_evalAll_nil ⟨[], H, I, .nil, h⟩
theorem pk_cons (ha : PE X e te) (hr : PK X kws t) : PK X (⟨nm, e, kpos⟩ :: kws) (tCons te t) := by
  intro pos pins s σ H Q I h
  show wpAny _ _ (evalAll ((do let v ← eval e X.env; standAt pos; pure v) :: (backToKw pos (keywordEach kws X.env)).map (·.2))) _ _ s
  refine wpAny_evalAll_cons (wpAny_bind (thn (ha pins s σ H _ I h) fun u s1 ⟨x, H1, I1, r1, q1⟩ => wpAny_bind (wpAny_standAt (wpAny_pure ?_))))
  exact thn (hr pos pins s1 σ H1 _ I1 q1) fun us s2 ⟨xs, H2, I2, r2, q2⟩ => ⟨x :: xs, H2, I2, .cons r1 r2, q2⟩

variable {g : List Value → List Value → List Value} {gV : List V → List V → List V}
end

/-! ### a def's body keeps its promise -/
structure FnScope (N P : List Str) (sc : Scope) : Prop where
  kind : sc.kind = .function
  co : sc.isCoroutine = false
  gen : sc.isGenerator = false
  nd : N.Nodup
  pre : N.take P.length = P
  par : ∀ x ∈ P, sc.names.lookup x = some .local ∨ sc.names.lookup x = some .cell
  nofree : ∀ y ∈ sc.names, y.2 ≠ .free

theorem bindL_out {kindOf : Str → Option NameKind} {x : Str} : ∀ {binds : List (Str × Value)} {m : Str → Option Value}, (∀ v, (x, v) ∉ binds) → bindL kindOf binds m x = m x
  | [], _, _ => rfl
  | (n, v) :: r, m, h => by
    unfold bindL
    rw [bindL_out fun w hw => h w (List.mem_cons_of_mem _ hw)]
    split
    · have : x ≠ n := by rintro rfl; exact h v List.mem_cons_self
      simp [this]
    · rfl
theorem bindC_out {kindOf : Str → Option NameKind} {x : Str} : ∀ {binds : List (Str × Value)} {m : Str → Option Value}, (∀ v, (x, v) ∉ binds) → bindC kindOf binds m x = m x
  | [], _, _ => rfl
  | (n, v) :: r, m, h => by
    unfold bindC
    rw [bindC_out fun w hw => h w (List.mem_cons_of_mem _ hw)]
    split
    · rfl
    · have : x ≠ n := by rintro rfl; exact h v List.mem_cons_self
      simp [this]
theorem bindL_get {kindOf : Str → Option NameKind} {x : Str} {v : Value} : ∀ {P : List Str} {vs : List Value} {i : Nat} {m : Str → Option Value}, P.Nodup → P[i]? = some x → vs[i]? = some v → kindOf x = some .local →
    bindL kindOf (P.zip vs) m x = some v
  | [], _, _, _, _, h, _, _ => by simp at h
  | _ :: _, [], _, _, _, _, h, _ => by simp at h
  | p :: P, w :: vs, 0, m, nd, h1, h2, hk => by
    simp at h1 h2; subst h1; subst h2
    show bindL kindOf ((p, w) :: P.zip vs) m p = _
    unfold bindL
    rw [bindL_out fun v hv => (List.nodup_cons.mp nd).1 (List.of_mem_zip hv).1, if_pos hk]
    simp
  | p :: P, w :: vs, i + 1, m, nd, h1, h2, hk => by
    show bindL kindOf ((p, w) :: P.zip vs) m x = _
    unfold bindL
    exact bindL_get (i := i) (List.nodup_cons.mp nd).2 (by simpa using h1) (by simpa using h2) hk
theorem bindC_get {kindOf : Str → Option NameKind} {x : Str} {v : Value} : ∀ {P : List Str} {vs : List Value} {i : Nat} {m : Str → Option Value}, P.Nodup → P[i]? = some x → vs[i]? = some v → kindOf x ≠ some .local →
    bindC kindOf (P.zip vs) m x = some v
  | [], _, _, _, _, h, _, _ => by simp at h
  | _ :: _, [], _, _, _, _, h, _ => by simp at h
  | p :: P, w :: vs, 0, m, nd, h1, h2, hk => by
    simp at h1 h2; subst h1; subst h2
    show bindC kindOf ((p, w) :: P.zip vs) m p = _
    unfold bindC
    rw [bindC_out fun v hv => (List.nodup_cons.mp nd).1 (List.of_mem_zip hv).1, if_neg hk]
    simp
  | p :: P, w :: vs, i + 1, m, nd, h1, h2, hk => by
    show bindC kindOf ((p, w) :: P.zip vs) m x = _
    unfold bindC
    exact bindC_get (i := i) (List.nodup_cons.mp nd).2 (by simpa using h1) (by simpa using h2) hk

noncomputable def start (N : List Str) (vs : List V) : St := vs.map some ++ List.replicate (N.length - vs.length) none

noncomputable def cxOf (CX : CXT) (P : Program) (w : World) (K : PySem.W.Frag) (mg : Str → Option Value) (base : Heap) (N : List Str) (qual : Str) (scope : Scope) (f : Addr) (cd : Value) (A : Around) (outer : List Env) (s : Shared) (H : Hp) (E : XK) : Cx where
  prog := P
  w := w
  K := K
  mg := mg
  base := base
  A := A.deeper (envOfC qual scope s.heap.objs.size f cd)
  N := N
  s₀ := s
  H₀ := H
  env := envOfC qual scope s.heap.objs.size f cd
  outer := outer
  stack := envOfC qual scope s.heap.objs.size f cd :: outer
  ex := []
  calm := true
  fn := fun _ => true
  pn := []
  xe := fun e s' => wpAny (model P w) (A.deeper (envOfC qual scope s.heap.objs.size f cd)) (leaving (envOfC qual scope s.heap.objs.size f cd) e) (fun _ s'' => CX outer H s E e s'') (fun e' s'' => CX outer H s E e' s'') s'

theorem cell_has {sc : Scope} {n : Nat} {x : Str} (h : sc.names.lookup x = some .cell) : ∃ c, (cellsFrom n sc.names []).lookup x = some c := by
  have q := PySem.W.cellsFrom_some sc.names n [] (.inl h)
  exact Option.isSome_iff_exists.mp q

theorem inv_start {CX : CXT} {P : Program} {w : World} {K : PySem.W.Frag} {mg : Str → Option Value} {base : Heap} {N ps : List Str} {qual : Str} {scope : Scope} {f : Addr} {cd : Value} {A : Around} {outer : List Env} {s s1 : Shared} {H : Hp} {E : XK} {us : List Value} {vs : List V}
    (S : FnScope N ps scope) (hd : A.handled = none) (e0 : Env0 P w K mg base A outer s H) (hl : vs.length = ps.length) (r : Vals vs us)
    (x : InCallC s s.heap.objs.size (bindL (envOfC qual scope s.heap.objs.size f cd).kindOf (ps.zip us) fun _ => none) (cellsFrom (s.heap.objs.size + 1) scope.names []) (bindC (envOfC qual scope s.heap.objs.size f cd).kindOf (ps.zip us) fun _ => none) s1) :
    Inv (cxOf CX P w K mg base N qual scope f cd A outer s H E) [] (start N vs) H s1 := by
  have hpl : ps.length ≤ N.length := by have := congrArg List.length S.pre; rw [List.length_take] at this; omega
  obtain ⟨h1, tk, rfl, hk⟩ := x.done
  have noA : ∀ b : Addr, b ∉ (cxOf CX P w K mg base N qual scope f cd A outer s H E).ex := fun b z => absurd (show b ∈ ([] : List Addr) from z) (by simp)
  refine ⟨⟨e0.mod, S.kind, rfl, rfl, Nat.le_refl _, fun y z c h1 h2 => ?_, fun y hy => ?_, fun y c _ h => ?_, fun _ => hd, Around.frames_deeper e0.frames, .inr ⟨rfl, rfl⟩, fun b z => absurd z (noA b), e0.bs, e0.bsz, fun b _ _ => noA b, fun b z => absurd z (noA b), e0.funs, e0.frf⟩,
    rfl, e0.bare, Un.kept hk, ⟨_, x.toInCall.ns, fun i y v h1 h2 h3 => ?_⟩, fun y c h => ⟨_, x.cell y c h⟩, e0.hok.fresh (Nat.le_refl _), fun y c h => ?_, fun p hp => absurd (show p ∈ ([] : List (Addr × Obj)) from hp) (by simp), e0.hok.kept hk, ?_⟩
  · exact name_of_addr x.apart (PySem.mem_of_lookup h1) (PySem.mem_of_lookup h2)
  · have hy : scope.names.lookup y = some .cell ∨ scope.names.lookup y = some .free := hy
    rcases hy with hy | hy
    · exact cell_has hy
    · exact absurd rfl (S.nofree _ (PySem.mem_of_lookup hy))
  · exact Nat.le_of_lt (x.above y c (PySem.mem_of_lookup h))
  · have hi : i < vs.length := by
      unfold start at h2
      by_cases hi : i < vs.length
      · exact hi
      · rw [List.getElem?_append_right (by simpa using hi)] at h2
        rw [List.getElem?_replicate] at h2
        split at h2 <;> cases h2
    have ha : vs[i]? = some v := by
      unfold start at h2
      rw [List.getElem?_append_left (by simpa using hi), List.getElem?_map] at h2
      cases e : vs[i]? with
      | none => rw [e] at h2; cases h2
      | some a => rw [e] at h2; cases h2; rfl
    obtain ⟨u, hu, rv⟩ := r.get ha
    have hp : ps[i]? = some y := by
      rw [← S.pre, List.getElem?_take_of_lt (by omega)]; exact h1
    have ndP : ps.Nodup := by rw [← S.pre]; exact S.nd.sublist (List.take_sublist _ _)
    refine ⟨u, rv, ?_⟩
    rcases S.par y (List.mem_of_getElem? hp) with k | k
    · exact .inl ⟨k, bindL_get ndP hp hu k⟩
    · obtain ⟨c, e⟩ := cell_has (n := s.heap.objs.size + 1) k
      refine .inr ⟨.inl k, c, e, ?_⟩
      have q := x.cell y c e
      rw [bindC_get ndP hp hu (by show scope.names.lookup y ≠ _; rw [k]; decide)] at q
      exact q
  · exact e0.hok.fresh (Nat.le_of_lt (x.above y c (PySem.mem_of_lookup h)))
  · unfold start
    show _ = N.length
    rw [List.length_append, List.length_map, List.length_replicate]
    omega

theorem fn_of {CX : CXT} {P : Program} {w : World} {K : PySem.W.Frag} {mg : Str → Option Value} {base : Heap} {k : Nat} {f : Addr} {name qual : Str} {params : Arguments} {body : List Stmt} {scope : Scope} {dV kV doc pm cdv ct oc : Value} {an od : Option Addr}
    {osl : Array (Option Value)} {N ps : List Str} {sp : Sp} (lk : K.lookup f = some ⟨oc, od, .func (PySem.W.fnOf name qual params body scope dV kV doc pm an cdv ct), osl⟩) (hcd : PySem.W.codeIn K cdv qual = true) (S : FnScope N ps scope)
    (len : ∀ vs H Q E, sp vs H Q E → vs.length = ps.length)
    (hbody : ∀ (A : Around) (outer : List Env) (s : Shared) (H : Hp) (vs : List V) (Q : VK) (E : XK), Room k (A.deeper (envOfC qual scope s.heap.objs.size f cdv)) → sp vs H Q E →
      ∃ t, PSs (cxOf CX P w K mg base N qual scope f cdv A outer s H E) body t ∧ t { nx := fun _ H' => Q .non H', rt := Q } (start N vs) H) :
    FnOk P w K mg base CX (k + 1) f (PySem.W.fnOf name qual params body scope dV kV doc pm an cdv ct) ps sp := by
  refine ⟨len, fun A outer s H args us vs Q E hr e0 hb r hsp => ?_⟩
  have hl := len _ _ _ _ hsp
  have KX : K.In s.heap := e0.mod.kin.keeps fun b o e => (e0.bs b o e).1
  have lim : s.heap.NoLimit := e0.mod.nolimit.keeps fun b o e => (e0.bs b o e).1
  have hkind : ∀ y ∈ ps.zip us, scope.names.lookup y.1 = some .local ∨ (scope.names.lookup y.1 = some .cell ∧ ((cellsFrom (s.heap.objs.size + 1) scope.names []).lookup y.1).isSome = true) := fun ⟨n, v⟩ hy => by
    rcases S.par n (List.of_mem_zip hy).1 with q | q
    · exact .inl q
    · exact .inr ⟨q, PySem.W.cellsFrom_some _ _ _ (.inl q)⟩
  refine codeAny_call_function hr.depth (KX _ _ lk) rfl S.co S.gen rfl (PySem.W.codeRec_of KX hcd) (hb _ _ _ _ ?_)
  refine wpAny_newFunctionEnv_cells S.kind hkind fun env he s1 x => ?_
  subst he
  refine ⟨lim.keeps x.toInCall.keep, codeAny_func ?_⟩
  obtain ⟨t, ht, hq⟩ := hbody A outer s H vs Q E (hr.deeper _) hsp
  have I : Inv (cxOf CX P w K mg base N qual scope f cdv A outer s H E) [] (start N vs) H s1 := inv_start S hr.hd e0 hl r x
  refine wpAny_mono (ht [] s1 (start N vs) H _ I hq) (fun fl s' hs => ?_) fun e s' hs => hs
  have fin : ∀ {σ' : St} {H' : Hp} {v : V} {u : Value}, Inv (cxOf CX P w K mg base N qual scope f cdv A outer s H E) [] σ' H' s' → RelV v u → Q v H' → CE outer P w H s Q u s' :=
    fun {σ' H' v u} J rv q => ⟨v, H', J.os, J.bare, J.base, J.hok, rv, q⟩
  cases fl with
  | ret u =>
    obtain ⟨v, σ', H', J, rv, q⟩ := hs
    exact fin J rv q
  | next =>
    obtain ⟨σ', H', J, q⟩ := hs
    exact fin (v := V.non) (u := Value.none) J rfl q
  | brk =>
    obtain ⟨_, _, _, q⟩ := hs
    exact False.elim q
  | cont =>
    obtain ⟨_, _, _, q⟩ := hs
    exact False.elim q
end L2

namespace L2
open PySem PySem.Spec PyProof.Rows
section
variable {X : Cx} {x : Str} {p pos : Pos} {e : Expr} {es : List Expr} {t : TA} {id T : String} {r : List V → Hp → VK → Prop}

noncomputable def tCB (r : List V → Hp → VK → Prop) (t : TA) : TE := fun σ H Q => t σ H fun vs H1 => r vs H1 Q
theorem pe_callB (hc : CallR X (.builtin id) r) (hg : Gl X x) (hm : X.mg x = none) (hv : bootBuiltins x = some (.builtin id)) (ha : PA X (e :: es) t) (hn : x ≠ "__name__" := by decide) (hdb : (x == ("__debug__" : Str)) = false := by decide)
    (he : starEach (e :: es) X.env = (false, eval e X.env) :: starEach es X.env := by rfl) (hpl : (backTo pos (starEach es X.env)).any (·.1) = false := by rfl) : PE X (.Call (.Name x p) (e :: es) [] pos) (tCB r t) := by
  intro pins s σ H Q I h
  refine wpAny_Call_Name_kw (ld_blt I hg hm hv ?_ hn hdb)
  exact PyProof.Rows.callWith_builtin1 (thn (ha pos pins s σ H _ I h) fun us s1 ⟨vs, H1, I1, r1, q1⟩ => hc pins s1 σ H1 vs us Q I1 r1 q1) he hpl
theorem pe_callTy (hc : CallR X (.type T) r) (hg : Gl X x) (hm : X.mg x = none) (hv : bootBuiltins x = some (.type T)) (ha : PA X (e :: es) t) (hn : x ≠ "__name__" := by decide) (hdb : (x == ("__debug__" : Str)) = false := by decide)
    (he : starEach (e :: es) X.env = (false, eval e X.env) :: starEach es X.env := by rfl) (hpl : (backTo pos (starEach es X.env)).any (·.1) = false := by rfl) : PE X (.Call (.Name x p) (e :: es) [] pos) (tCB r t) := by
  intro pins s σ H Q I h
  refine wpAny_Call_Name_kw (ld_blt I hg hm hv ?_ hn hdb)
  exact PyProof.Rows.callWith_type1 (thn (ha pos pins s σ H _ I h) fun us s1 ⟨vs, H1, I1, r1, q1⟩ => hc pins s1 σ H1 vs us Q I1 r1 q1) he hpl
end
end L2

namespace HT
open PySem PyProof.Rows

section
open PySem.SeqAt
open PySem.AutoSeq1 (wpAny_loadPart')
open PySem.MeetsSeq PySem.MeetsSeq2 PySem.MeetsSeq3

end

section
variable {prog : Program} {w : World} {A : Around} {E : Value → Shared → Prop} {s : Shared}

/-! ### t[a:b], not the whole -/
noncomputable def sIx (n d : Nat) : Option Int → Nat
  | none => d
  | some v => if v < 0 then (v + (n : Int)).toNat else min v.toNat n
theorem sIx_none (n d : Nat) : sIx n d none = d := rfl
end
end HT

namespace L2
open PySem PySem.Spec PyProof.Rows

/-! ### the parts of a slice -/
noncomputable abbrev TO := St → Hp → (Option Int → Hp → Prop) → Prop
noncomputable def PO (X : Cx) (e : Option Expr) (t : TO) : Prop :=
  ∀ (pins : List (Addr × Obj)) (s : Shared) (σ : St) (H : Hp) (Q : Option Int → Hp → Prop), Inv X pins σ H s → t σ H Q →
    wpAny (model X.prog X.w) X.A (evalPart e X.env) (fun u s' => ∃ o H', Inv X pins σ H' s' ∧ IsPart u o ∧ Q o H') X.xe s
noncomputable def tNoPart : TO := fun _ H Q => Q none H
noncomputable def tPart (t : TE) : TO := fun σ H Q => t σ H fun x H1 => ∃ i, x = .int i ∧ Q (some i) H1

theorem intsAre_of {ns : List Int} : ∀ {us : List Value}, Vals (ns.map V.int) us → IntsAre us ns := by
  induction ns with
  | nil => intro us r; rw [List.map_nil] at r; cases r; exact .nil
  | cons n ns ih =>
    intro us r
    rw [List.map_cons] at r
    cases r with
    | cons r1 r2 =>
      obtain ⟨t, e⟩ := r1
      subst e
      exact .cons n t (ih r2)

section
variable {X : Cx} {e : Expr} {te : TE} {lo hi : Option Expr} {tl th : TO} {pos p2 : Pos}

theorem po_none : PO X none tNoPart := by
  intro pins s σ H Q I h
  rw [evalPart_none]
  exact wpAny_pure ⟨none, H, I, .none, h⟩
theorem po_some (h : PE X e te) : PO X (some e) (tPart te) := by
  intro pins s σ H Q I hw
  rw [evalPart_some]
  refine thn (h pins s σ H _ I hw) fun u s1 ⟨x, H1, I1, r1, q1⟩ => ?_
  obtain ⟨i, rfl, q⟩ := q1
  obtain ⟨t, rfl⟩ := r1
  exact ⟨some i, H1, I1, .int i t, q⟩

noncomputable def SlR (X : Cx) (r : V → Option Int → Option Int → Hp → VK → Prop) : Prop :=
  ∀ (pins : List (Addr × Obj)) (s : Shared) (σ : St) (H : Hp) (x : V) (v vl vu : Value) (lo hi : Option Int) (sl : Addr) (Q : VK), Inv X pins σ H s → RelV x v → s.heap.IsSliceOf sl vl vu .none → IsPart vl lo → IsPart vu hi → r x lo hi H Q →
    ∃ T id, typeLookup (.type T) "__getitem__" = pure (some (.builtin id)) ∧ s.TypeIs v T ∧ wpAny (model X.prog X.w) X.A (getItem v (.ref sl)) (EP X pins σ Q) X.xe s
theorem SlR.or {r r' : V → Option Int → Option Int → Hp → VK → Prop} (h : SlR X r) (h' : SlR X r') : SlR X (fun x lo hi H Q => r x lo hi H Q ∨ r' x lo hi H Q) := by
  intro pins s σ H x v vl vu lo hi sl Q I rx hs pl pu q
  rcases q with q | q
  · exact h pins s σ H x v vl vu lo hi sl Q I rx hs pl pu q
  · exact h' pins s σ H x v vl vu lo hi sl Q I rx hs pl pu q
noncomputable def tSl (r : V → Option Int → Option Int → Hp → VK → Prop) (te : TE) (tl th : TO) : TE := fun σ H Q => te σ H fun x H1 => tl σ H1 fun l H2 => th σ H2 fun u H3 => r x l u H3 Q
theorem pe_slice {r : V → Option Int → Option Int → Hp → VK → Prop} (hr : SlR X r) (he : PE X e te) (hl : PO X lo tl) (hu : PO X hi th) : PE X (.Subscript e (.Slice lo hi none p2) pos) (tSl r te tl th) := by
  intro pins s σ H Q I h
  refine Subscript_ (thn (he pins s σ H _ I h) fun v s1 ⟨x, H1, I1, r1, q1⟩ => ?_)
  refine wpAny_Slice (thn (hl pins s1 σ H1 _ I1 q1) fun vl s2 ⟨l, H2, I2, pl, q2⟩ => thn (hu pins s2 σ H2 _ I2 q2) fun vu s3 ⟨u, H3, I3, pu, q3⟩ => ?_)
  rw [evalPart_none]
  refine wpAny_pure ?_
  have I4 : Inv X pins σ H3 { s3 with heap := s3.heap.push { cls := .type "slice", data := .fields #[vl, vu, .none] } } := I3.kept (t' := s3.toks) fun b ob q => Heap.get?_push_of_some _ q
  obtain ⟨T, id, hT, ht, hg⟩ := hr pins { s3 with heap := s3.heap.push { cls := .type "slice", data := .fields #[vl, vu, .none] } } σ H3 x v vl vu l u s3.heap.objs.size Q I4 r1 (Heap.IsSliceOf.new ..) pl pu q3
  show wpAny (model X.prog X.w) X.A (subscriptTail e (.Slice lo hi none p2) v (.ref s3.heap.objs.size)) (EP X pins σ Q) X.xe { s3 with heap := s3.heap.push { cls := .type "slice", data := .fields #[vl, vu, .none] } }
  exact tail_any (ops := [.ref s3.heap.objs.size, v]) ht hT hg (by with_unfolding_all rfl)

noncomputable def cutV (xs : List V) (lo hi : Option Int) : List V := (xs.drop (HT.sIx xs.length 0 lo)).take (HT.sIx xs.length xs.length hi - HT.sIx xs.length 0 lo)
theorem cutV_length (xs : List V) (lo hi : Option Int) : (cutV xs lo hi).length ≤ xs.length := by
  unfold cutV
  rw [List.length_take, List.length_drop]
  omega
/-! ### t < u, t + u -/
end
end L2

namespace L2
open PySem PySem.Spec PyProof.Rows

/-! ### places -/
noncomputable def ixN (n : Nat) (i : Int) : Option Nat := if 0 ≤ i then (if i < n then some i.toNat else none) else if -(n : Int) ≤ i then some (i + n).toNat else none
noncomputable def atI {α : Type} (xs : List α) (i : Int) : Option α := (ixN xs.length i).bind fun j => xs[j]?
theorem ixN_seq {n : Nat} {i : Int} {j : Nat} (h : ixN n i = some j) : seqIndex? i n = some j ∧ j < n ∧ -(n : Int) ≤ i ∧ i < n := by
  unfold ixN at h
  by_cases h0 : 0 ≤ i
  · rw [if_pos h0] at h
    by_cases h1 : i < n
    · rw [if_pos h1] at h
      have e : i.toNat = j := Option.some.inj h
      exact ⟨by rw [seqIndex_of h0 h1, e], by omega, by omega, h1⟩
    · rw [if_neg h1] at h; cases h
  · rw [if_neg h0] at h
    by_cases h1 : -(n : Int) ≤ i
    · rw [if_pos h1] at h
      have e : (i + n).toNat = j := Option.some.inj h
      exact ⟨by rw [seqIndex_neg (by omega) h1, e], by omega, h1, by omega⟩
    · rw [if_neg h1] at h; cases h
theorem atI_get {α : Type} {xs : List α} {i : Int} {v : α} (h : atI xs i = some v) : ∃ j, seqIndex? i xs.length = some j ∧ xs[j]? = some v ∧ j < xs.length ∧ -(xs.length : Int) ≤ i ∧ i < xs.length := by
  unfold atI at h
  cases e : ixN xs.length i with
  | none => rw [e] at h; cases h
  | some j =>
    rw [e] at h
    obtain ⟨h1, h2, h3, h4⟩ := ixN_seq e
    exact ⟨j, h1, h, h2, h3, h4⟩
/-! ### what may be subscripted -/
noncomputable def PlainIx (b : Expr) : Prop := ∀ o i, subscripted b false o i = operate [o, i] (getItem o i)
noncomputable def IxR (X : Cx) (r : R2) : Prop :=
  ∀ (value slice : Expr) (pins : List (Addr × Obj)) (s : Shared) (σ : St) (H : Hp) (x y : V) (v u : Value) (Q : VK), Inv X pins σ H s → RelV x v → RelV y u → r x y H Q →
    subscripted slice false v u = operate [v, u] (getItem v u) → wpAny (model X.prog X.w) X.A (subscriptTail value slice v u) (EP X pins σ Q) X.xe s
noncomputable def MtR (X : Cx) (id : String) (r : V → List V → Hp → VK → Prop) : Prop :=
  ∀ (pins : List (Addr × Obj)) (s : Shared) (σ : St) (H : Hp) (x : V) (xs : List V) (v : Value) (us : List Value) (Q : VK), Inv X pins σ H s → RelV x v → Vals xs us → r x xs H Q →
    wpAny (model X.prog X.w) X.A (call (.builtin id) (v :: us)) (EP X pins σ Q) X.xe s
section
variable {X : Cx} {a b : Expr} {ta tb : TE} {pos : Pos}
theorem IxR.or {r r' : R2} (h : IxR X r) (h' : IxR X r') : IxR X (fun x y H Q => r x y H Q ∨ r' x y H Q) := by
  intro value slice pins s σ H x y v u Q I rx ry q hs
  rcases q with q | q
  · exact h value slice pins s σ H x y v u Q I rx ry q hs
  · exact h' value slice pins s σ H x y v u Q I rx ry q hs
theorem MtR.or {id : String} {r r' : V → List V → Hp → VK → Prop} (h : MtR X id r) (h' : MtR X id r') : MtR X id (fun x xs H Q => r x xs H Q ∨ r' x xs H Q) := by
  intro pins s σ H x xs v us Q I rx rs q
  rcases q with q | q
  · exact h pins s σ H x xs v us Q I rx rs q
  · exact h' pins s σ H x xs v us Q I rx rs q
theorem pe_ix {r : R2} (hr : IxR X r) (ha : PE X a ta) (hb : PE X b tb) (hs : PlainIx b) : PE X (.Subscript a b pos) (tOp r ta tb) := by
  intro pins s σ H Q I h
  exact Subscript_ (binT ha hb I h fun v u s2 x y H2 I2 rx ry q => hr a b pins s2 σ H2 x y v u Q I2 rx ry q (hs _ _))

noncomputable def rIxL (K : PySem.W.Frag) : R2 := fun x y H Q => ∃ p xs i v, x = .ref p ∧ y = .int i ∧ SqL K H p xs ∧ atI xs i = some v ∧ Q v H
noncomputable def rIxT (K : PySem.W.Frag) : R2 := fun x y H Q => ∃ p xs i v, x = .ref p ∧ y = .int i ∧ SqT K H p xs ∧ atI xs i = some v ∧ Q v H
noncomputable def rIxS : R2 := fun x y H Q => ∃ z i c, x = .str z ∧ y = .int i ∧ z.length ≤ sizeLine ∧ atI z.cps.toList i = some c ∧ Q (.str ⟨#[c]⟩) H
theorem ix_list : IxR X (rIxL X.K) := by
  intro value slice pins s σ H x y v u Q I rx ry h hs
  obtain ⟨p, xs, i, z, rfl, rfl, hq, he, q⟩ := h
  cases rx
  obtain ⟨t, rfl⟩ := ry
  obtain ⟨its, r, pl, hz⟩ := I.list hq
  obtain ⟨j, h1, h2, h3, h4, h5⟩ := atI_get he
  obtain ⟨w, ew, rw'⟩ := r.get h2
  have hl := r.length
  have hn := line63
  have fin : EP X pins σ Q w s := ⟨z, H, I, rw', q⟩
  by_cases h0 : 0 ≤ i
  · have hj : i.toNat = j := by
      rw [seqIndex_of h0 h5] at h1
      exact Option.some.inj h1
    exact item_listR pl.isList h0 (by omega) (by rw [hj]; simpa using ew) fin hs
  · have hj : (i + (its.toArray.size : Int)).toNat = j := by
      rw [seqIndex_neg (by omega) h4] at h1
      rw [List.size_toArray, ← hl]
      exact Option.some.inj h1
    exact subscriptTail_builtinR (x := w) pl.isList.typeIs slot_list_getitem.lookup
      (wpAny_getItem_list_neg (Q := fun r s' => r = w ∧ EP X pins σ Q r s') pl.isList (by omega) (by rw [List.size_toArray] <;> omega) (by omega) (by rw [hj]; simpa using ew) ⟨rfl, fin⟩) hs
theorem ix_tup : IxR X (rIxT X.K) := by
  intro value slice pins s σ H x y v u Q I rx ry h hs
  obtain ⟨p, xs, i, z, rfl, rfl, hq, he, q⟩ := h
  cases rx
  obtain ⟨t, rfl⟩ := ry
  obtain ⟨its, r, pl, hz⟩ := I.tuple hq
  obtain ⟨j, h1, h2, h3, h4, h5⟩ := atI_get he
  obtain ⟨w, ew, rw'⟩ := r.get h2
  have hl := r.length
  have hn := line63
  have fin : EP X pins σ Q w s := ⟨z, H, I, rw', q⟩
  exact subscriptTail_builtinR (x := w) pl.typeIs slot_tuple_getitem.lookup
    (getItem_tuple (j := j) (Q := fun r s' => r = w ∧ EP X pins σ Q r s') pl (by omega) (by omega) (by rw [List.size_toArray, ← hl]; exact h1) (by simpa using ew) ⟨rfl, fin⟩) hs
theorem ix_str : IxR X rIxS := by
  intro value slice pins s σ H x y v u Q I rx ry h hs
  obtain ⟨z, i, c, rfl, rfl, hz, he, q⟩ := h
  obtain ⟨t, rfl⟩ := rx
  obtain ⟨t', rfl⟩ := ry
  obtain ⟨j, h1, h2, h3, h4, h5⟩ := atI_get he
  have hl : z.cps.toList.length = z.length := by simp [Str.length]
  rw [hl] at h1 h4 h5
  have hn := line63
  exact tail_any (typeIs_str s z t) slot_str_getitem.lookup (getItem_str (c := c) (by
    have e1 : decide (i < -(2 ^ 63 : Int)) = false := decide_eq_false (by omega)
    have e2 : decide (i ≥ 2 ^ 63) = false := decide_eq_false (by omega)
    rw [e1, e2, Bool.or_false]) (by rw [h1]; simpa using h2) ⟨.str ⟨#[c]⟩, H, I.tok _, ⟨_, rfl⟩, q⟩) hs
noncomputable def rIx (K : PySem.W.Frag) : R2 := fun x y H Q => rIxL K x y H Q ∨ rIxT K x y H Q ∨ rIxS x y H Q
theorem ix_seq : IxR X (rIx X.K) := ix_list.or (ix_tup.or ix_str)

/-! ### xs[i] = v, any sign -/
theorem mapSeq_set (its : List Value) (n j : Nat) (u : Value) : Obj.mapSeq (·.setIfInBounds j u) { cls := .type "list", data := .seq its.toArray n } = { cls := .type "list", data := .seq (its.set j u).toArray n } := by
  simp [Obj.mapSeq]
theorem Inv.lst {pins : List (Addr × Obj)} {σ : St} {H : Hp} {s : Shared} {p : Addr} {xs : List V} (I : Inv X pins σ H s) (h : H p = some (.lst xs)) :
    ∃ (its : List Value) (n : Nat), Vals xs its ∧ s.heap.get? p = some { cls := .type "list", data := .seq its.toArray n } ∧ xs.length ≤ sizeLine := by
  obtain ⟨z, its, n, r, e⟩ := I.hok p _ h
  exact ⟨its, n, r, e, z⟩
theorem Inv.lstUpd {pins : List (Addr × Obj)} {σ : St} {H : Hp} {s : Shared} {p : Addr} {xs ys : List V} {its its' : List Value} {n n' : Nat} {f : Obj → Obj} (I : Inv X pins σ H s) (h : H p = some (.lst xs))
    (ho : s.heap.get? p = some { cls := .type "list", data := .seq its.toArray n }) (hf : f { cls := .type "list", data := .seq its.toArray n } = { cls := .type "list", data := .seq its'.toArray n' }) (r : Vals ys its') (hz : ys.length ≤ sizeLine) (t : Nat) :
    Inv X pins σ (upd H p (.lst ys)) { s with heap := s.heap.update p f, toks := t } := by
  have e : (s.heap.update p f).get? p = some { cls := .type "list", data := .seq its'.toArray n' } := by
    rw [Heap.get?_update_self f ho (by rw [hf] <;> rfl), hf]
  refine I.write (x := p) (e := p) (by rw [h]; trivial) (.inl rfl) (fun b u hb q => (Heap.get?_update_other _ _ (Ne.symm hb)).trans q) ⟨_, e⟩ ?_
  exact ⟨hz, its', n', r, e⟩
noncomputable def rSetL : V → V → V → Hp → (Hp → Prop) → Prop := fun o i v H Q => ∃ p xs k j, o = .ref p ∧ i = .int k ∧ H p = some (.lst xs) ∧ ixN xs.length k = some j ∧ Q (upd H p (.lst (xs.set j v)))
theorem set_list : PSet X rSetL := by
  intro pins s σ H o i v ov iv u Q I ro ri rv h
  obtain ⟨p, xs, k, j, rfl, rfl, hp, hj, q⟩ := h
  cases ro
  obtain ⟨t, rfl⟩ := ri
  obtain ⟨its, n, r, ho, hz⟩ := I.lst hp
  obtain ⟨h1, h2, h3, h4⟩ := ixN_seq hj
  have hl := r.length
  have hn := line63
  have I' : Inv X pins σ (upd H p (.lst (xs.set j v))) { s with heap := s.heap.update p (Obj.mapSeq (·.setIfInBounds j u)) } :=
    I.lstUpd hp ho (mapSeq_set its n j u) (r.set rv j) (by rw [List.length_set]; exact hz) s.toks
  by_cases h0 : 0 ≤ k
  · have hk : k.toNat = j := by
      rw [seqIndex_of h0 h4] at h1
      exact Option.some.inj h1
    exact PySem.W.ki_setAt ho h0 (by omega) (by rw [List.size_toArray, ← hl]; exact h4) (by rw [hk]; exact ⟨_, I', q⟩)
  · have hk : (k + (its.toArray.size : Int)).toNat = j := by
      rw [seqIndex_neg (by omega) h3] at h1
      rw [List.size_toArray, ← hl]
      exact Option.some.inj h1
    exact PySem.W.ki_setBack ho (by omega) (by rw [List.size_toArray, ← hl]; exact h3) (by omega) (by rw [hk]; exact ⟨_, I', q⟩)

/-! ### slices -/
theorem slice_bounds (lo hi : Option Int) (n : Nat) : (sliceBounds lo hi none n).1 = ((HT.sIx n 0 lo : Nat) : Int) ∧ (sliceBounds lo hi none n).2.1 = ((HT.sIx n n hi : Nat) : Int) ∧ (sliceBounds lo hi none n).2.2 = 1 := by
  refine ⟨?_, ?_, rfl⟩
  · cases lo with
    | none => simp [sliceBounds, HT.sIx]
    | some i =>
      simp only [sliceBounds, HT.sIx, Option.getD_none, show (1 : Int) > 0 by decide, if_true]
      by_cases h : i < 0
      · simp only [h, if_true] <;> omega
      · simp only [h, if_false] <;> omega
  · cases hi with
    | none => simp [sliceBounds, HT.sIx]
    | some i =>
      simp only [sliceBounds, HT.sIx, Option.getD_none, show (1 : Int) > 0 by decide, if_true]
      by_cases h : i < 0
      · simp only [h, if_true] <;> omega
      · simp only [h, if_false] <;> omega
theorem slicePick_cut (its : List Value) (lo hi : Option Int) : slicePick its.toArray lo hi none = ((its.drop (HT.sIx its.length 0 lo)).take (HT.sIx its.length its.length hi - HT.sIx its.length 0 lo)).toArray := by
  obtain ⟨h1, h2, h3⟩ := slice_bounds lo hi its.toArray.size
  unfold slicePick
  rw [h1, h2, h3]
  simp only [sliceRange_one, pick_run, List.size_toArray] <;> rfl
noncomputable def rSlL (K : PySem.W.Frag) : V → Option Int → Option Int → Hp → VK → Prop := fun x lo hi H Q => ∃ a xs, x = .ref a ∧ SqL K H a xs ∧ ∀ p, H p = none → Q (.ref p) (upd H p (.lst (cutV xs lo hi)))
theorem sl_list : SlR X (rSlL X.K) := by
  intro pins s σ H x v vl vu lo hi sl Q I rx hs pl pu h
  obtain ⟨a, xs, rfl, hx, q⟩ := h
  cases rx
  obtain ⟨its, r, ht, hz⟩ := I.list hx
  have hlen := r.length
  refine ⟨"list", _, slot_list_getitem.lookup, ht.isList.typeIs, ?_⟩
  refine wpAny_getItem_list_slice ht.isList hs pl pu .none (by simp) ?_ (by rw [List.size_toArray] <;> omega)
  rw [slicePick_cut, ← hlen]
  refine ⟨.ref s.heap.objs.size, _, I.laid (t' := s.toks) (o := .lst (cutV xs lo hi)) (fun b ob q => Heap.get?_push_of_some _ q) (Nat.le_refl _) ?_, rfl, q _ (I.hok.fresh (Nat.le_refl _))⟩
  exact ⟨Nat.le_trans (cutV_length xs lo hi) hz, _, 0, (r.drop (HT.sIx xs.length 0 lo)).take (HT.sIx xs.length xs.length hi - HT.sIx xs.length 0 lo), Heap.get?_push_size _ rfl⟩

/-! ### in, not in: flat items -/
noncomputable def flatV : V → Bool
  | .non => true
  | .bl _ => true
  | .int _ => true
  | .str _ => true
  | _ => false
noncomputable def eqV : V → V → Bool
  | .non, .non => true
  | .bl a, .bl b => a == b
  | .bl a, .int b => (if a then 1 else 0) == b
  | .int a, .bl b => a == (if b then 1 else 0)
  | .int a, .int b => a == b
  | .str a, .str b => a == b
  | _, _ => false
theorem eqAt_V {A : Around} {s : Shared} {y x : V} {u v : Value} (ry : RelV y u) (rx : RelV x v) (fy : flatV y = true) (fx : flatV x = true) : SeqAt.EqAt A s u v (eqV y x) := by
  cases y with
  | non =>
    cases ry
    cases x with
    | non => cases rx; exact SeqAt.EqAt.same _
    | bl b => cases rx; exact SeqAt.EqAt.none_bool b
    | int b => obtain ⟨t, rfl⟩ := rx; exact SeqAt.EqAt.none_int b t
    | str b => obtain ⟨t, rfl⟩ := rx; exact SeqAt.EqAt.none_str b t
    | _ => exact absurd (show false = true from fx) Bool.false_ne_true
  | bl a =>
    cases ry
    cases x with
    | non => cases rx; exact SeqAt.EqAt.bool_none a
    | bl b => cases rx; exact SeqAt.EqAt.bool_bool a b
    | int b => obtain ⟨t, rfl⟩ := rx; exact SeqAt.EqAt.bool_int a b t
    | str b => obtain ⟨t, rfl⟩ := rx; exact SeqAt.EqAt.bool_str a b t
    | _ => exact absurd (show false = true from fx) Bool.false_ne_true
  | int a =>
    obtain ⟨t', rfl⟩ := ry
    cases x with
    | non => cases rx; exact SeqAt.EqAt.int_none a t'
    | bl b => cases rx; exact SeqAt.EqAt.int_bool a t' b
    | int b => obtain ⟨t, rfl⟩ := rx; exact SeqAt.EqAt.int_int a t' b t
    | str b => obtain ⟨t, rfl⟩ := rx; exact SeqAt.EqAt.int_str a t' b t
    | _ => exact absurd (show false = true from fx) Bool.false_ne_true
  | str a =>
    obtain ⟨t', rfl⟩ := ry
    cases x with
    | non => cases rx; exact SeqAt.EqAt.str_none a t'
    | bl b => cases rx; exact SeqAt.EqAt.str_bool a t' b
    | int b => obtain ⟨t, rfl⟩ := rx; exact SeqAt.EqAt.str_int a t' b t
    | str b => obtain ⟨t, rfl⟩ := rx; exact SeqAt.EqAt.str_str a t' b t
    | _ => exact absurd (show false = true from fx) Bool.false_ne_true
  | _ => exact absurd (show false = true from fy) Bool.false_ne_true
/-! ### len, list(x), tuple(x) of any list or tuple that is read -/
theorem call_len_seq : CallR X (.builtin "len") (fun xs H Q => ∃ p ys, xs = [.ref p] ∧ (SqL X.K H p ys ∨ SqT X.K H p ys) ∧ Q (.int ys.length) H) := by
  intro pins s σ H xs us Q I r h
  obtain ⟨p, ys, rfl, hq, q⟩ := h
  obtain ⟨u, rfl, rx⟩ := vals1 r
  cases rx
  have hn := line63
  rcases hq with hq | hq
  · obtain ⟨its, r', pl, hz⟩ := I.list hq
    have hlen := r'.length
    exact Calls.call_len_list pl.isList (by simp only [List.size_toArray] <;> omega) ⟨.int ys.length, H, I.tok _, ⟨s.toks + 1, by rw [List.size_toArray, hlen]⟩, q⟩
  · obtain ⟨its, r', pl, hz⟩ := I.tuple hq
    have hlen := r'.length
    exact len_tuple pl (by simp only [List.size_toArray] <;> omega) ⟨.int ys.length, H, I.tok _, ⟨s.toks + 1, by rw [List.size_toArray, hlen]⟩, q⟩
theorem CallR.or {f : Value} {r r' : List V → Hp → VK → Prop} (h : CallR X f r) (h' : CallR X f r') : CallR X f (fun xs H Q => r xs H Q ∨ r' xs H Q) := by
  intro pins s σ H xs us Q I rs q
  rcases q with q | q
  · exact h pins s σ H xs us Q I rs q
  · exact h' pins s σ H xs us Q I rs q
theorem call_list_of : CallR X (.type "list") (fun xs H Q => ∃ p ys, xs = [.ref p] ∧ (SqL X.K H p ys ∨ SqT X.K H p ys) ∧ ∀ l, H l = none → Q (.ref l) (upd H l (.lst ys))) := by
  intro pins s σ H xs us Q I r h
  obtain ⟨p, ys, rfl, hq, q⟩ := h
  obtain ⟨u, rfl, rx⟩ := vals1 r
  cases rx
  have fin : ∀ (its : List Value), Vals ys its → ys.length ≤ sizeLine → ∀ (h' : Heap) (c' : Nat), (∀ b o', s.heap.get? b = some o' → h'.get? b = some o') →
      h'.get? s.heap.objs.size = some { cls := .type "list", dict := none, data := .seq its.toArray c', slots := #[] } → EP X pins σ Q (.ref s.heap.objs.size) { s with heap := h' } := fun its r' hz h' c' kp e =>
    ⟨.ref s.heap.objs.size, _, I.laid (t' := s.toks) kp (Nat.le_refl _) (show ObjOk X.prog X.w _ h' _ (.lst ys) from ⟨hz, its, c', r', e⟩), rfl, q _ (I.hok.fresh (Nat.le_refl _))⟩
  rcases hq with hq | hq
  · obtain ⟨its, r', pl, hz⟩ := I.list hq
    have hlen := r'.length
    obtain ⟨o, ho, hc, n, hd⟩ := pl.isList
    exact call_list_seq p (.inl rfl) ho hc hd (fun h' c' kp e => fin its r' hz h' c' kp e) (by simp only [List.size_toArray] <;> omega)
  · obtain ⟨its, r', pl, hz⟩ := I.tuple hq
    have hlen := r'.length
    obtain ⟨o, ho, hc, n, hd⟩ := pl
    exact call_list_seq p (.inr rfl) ho hc hd (fun h' c' kp e => fin its r' hz h' c' kp e) (by simp only [List.size_toArray] <;> omega)
/-! ### the call of a builtin's method: o.m(..) -/
noncomputable def tyV (K : PySem.W.Frag) (T : String) (x : V) (H : Hp) : Prop := match x with
  | .str _ => T = "str"
  | .int _ => T = "int"
  | .ref p => (T = "list" ∧ ∃ xs, SqL K H p xs) ∨ (T = "tuple" ∧ ∃ o, K.lookup p = some o ∧ o.cls = .type "tuple" ∧ o.dict = none) ∨
      (T = "dict" ∧ ((∃ kvs, H p = some (.dK kvs)) ∨ ∃ kvs, H p = some (.dT kvs))) ∨ (T = "set" ∧ ∃ S n, H p = some (.set S n))
  | _ => False
theorem tyV_is {pins : List (Addr × Obj)} {σ : St} {H : Hp} {s : Shared} {T : String} {x : V} {v : Value} (I : Inv X pins σ H s) (r : RelV x v) (ty : tyV X.K T x H) :
    s.TypeIs v T ∧ ∀ a, v = .ref a → ∃ ob, s.heap.get? a = some ob ∧ ob.dict = none := by
  cases x with
  | str z =>
    obtain ⟨t, rfl⟩ := r
    cases (show T = "str" from ty)
    exact ⟨typeIs_str s z t, fun _ e => nomatch e⟩
  | int i =>
    obtain ⟨t, rfl⟩ := r
    cases (show T = "int" from ty)
    exact ⟨typeIs_int s i t, fun _ e => nomatch e⟩
  | ref p =>
    cases r
    rcases ty with ⟨rfl, xs, hq⟩ | ⟨rfl, o, hk, hc, hd⟩ | ⟨rfl, hk⟩ | ⟨rfl, S, n, hk⟩
    · obtain ⟨its, _, pl, _⟩ := I.list hq
      refine ⟨pl.isList.typeIs, fun a e => ?_⟩
      cases e
      obtain ⟨o, n, e, c, hd, _⟩ := pl
      exact ⟨o, e, hd⟩
    · refine ⟨⟨o, I.kIn p o hk, hc⟩, fun a e => ?_⟩
      cases e
      exact ⟨o, I.kIn _ o hk, hd⟩
    · have z : ∃ o, s.heap.get? p = some o ∧ o.ExactDict := by
        rcases hk with ⟨kvs, hk⟩ | ⟨kvs, hk⟩
        · obtain ⟨_, _, _, _, o, _, _, e, ex, _⟩ := I.hok p _ hk
          exact ⟨o, e, ex⟩
        · obtain ⟨_, _, _, _, o, _, _, e, ex, _⟩ := I.hok p _ hk
          exact ⟨o, e, ex⟩
      obtain ⟨o, e, ex⟩ := z
      refine ⟨⟨o, e, ex.1⟩, fun a e2 => ?_⟩
      cases e2
      exact ⟨o, e, ex.2.1⟩
    · obtain ⟨o, _, _, _, e, ex, _⟩ := I.hok p _ hk
      refine ⟨⟨o, e, ex.1⟩, fun a e2 => ?_⟩
      cases e2
      exact ⟨o, e, ex.2.1⟩
  | _ => exact False.elim ty
noncomputable def tBM (K : PySem.W.Frag) (T : String) (r : V → List V → Hp → VK → Prop) (to : TE) (t : TA) : TE := fun σ H Q => to σ H fun x H1 => tyV K T x H1 ∧ t σ H1 fun xs H2 => r x xs H2 Q
variable {o e : Expr} {es : List Expr} {to : TE} {t : TA} {name : Str} {apos cpos : Pos} {T id : String} {r : V → List V → Hp → VK → Prop}
theorem pe_bm (pa : PlainAttrs T) (slot : Slot T name id) (hty : typeOf (.builtin id) = pure (.type "method_descriptor")) (hm : MtR X id r) (ho : PE X o to) (ha : PA X (e :: es) t)
    (hbase : attributeBase o name X.env (eval o X.env) = eval o X.env := by rfl)
    (hfew : ((backTo cpos (starEach (e :: es) X.env)).all (fun x => !x.1) && (backToKw cpos (keywordEach [] X.env)).all (fun x => x.1.isSome)
      && decide ((e :: es).length + ([] : List Keyword).length + (if ([] : List Keyword).isEmpty then 0 else 1) < 30)) = true := by rfl)
    (hline : (apos.endLine == cpos.line) = true := by rfl) (hs : starEach (e :: es) X.env = (false, eval e X.env) :: starEach es X.env := by rfl) (hplain : (backTo cpos (starEach es X.env)).any (·.1) = false := by rfl) :
    PE X (.Call (.Attribute o name apos) (e :: es) [] cpos) (tBM X.K T r to t) := by
  intro pins s σ H Q I h
  refine wpAny_Call_method_late hbase hfew hline rfl (thn (ho pins s σ H _ I h) fun v s1 ⟨x, H1, I1, r1, ty, q1⟩ => ?_)
  obtain ⟨h1, h2⟩ := tyV_is I1 r1 ty
  refine ⟨T, id, pa, slot, hty, h1, h2, ?_⟩
  have hA := ha cpos pins s1 σ H1 _ I1 q1
  rw [hs] at hA ⊢
  refine Calls.callWith_builtin (by show (false || (backTo cpos (starEach es X.env)).any (·.1)) = false; rw [hplain] <;> rfl) (Calls.evalArgs_plain ?_)
  exact thn hA fun us s2 ⟨vs, H2, I2, r2, q2⟩ => hm pins s2 σ H2 x vs v us Q I2 r1 r2 q2
/- xs.append(e), list.index on a module's tuple .. are MtR facts of 06m -/
end
end L2

namespace L2
open PySem PySem.Spec PyProof.Rows

noncomputable def MtM (X : Cx) (id : String) (r : V → List V → Hp → VK → Prop) : Prop :=
  ∀ (pins : List (Addr × Obj)) (s : Shared) (σ : St) (H : Hp) (x : V) (xs : List V) (v : Value) (us : List Value) (Q : VK), Inv X pins σ H s → RelV x v → Vals xs us → r x xs H Q →
    wpAny (model X.prog X.w) X.A (call (.builtin id) (v :: us)) (EP X pins σ Q) X.xe s

/-! ### lists of values -/
theorem Vals.one : ∀ {x : V} {us : List Value}, Vals [x] us → ∃ u, us = [u] ∧ RelV x u
  | _, _, .cons r .nil => ⟨_, rfl, r⟩
theorem Vals.two : ∀ {x y : V} {us : List Value}, Vals [x, y] us → ∃ u v, us = [u, v] ∧ RelV x u ∧ RelV y v
  | _, _, _, .cons r (.cons q .nil) => ⟨_, _, rfl, r, q⟩
theorem Vals.zero : ∀ {us : List Value}, Vals [] us → us = []
  | _, .nil => rfl
theorem Vals.reverse {xs : List V} {us : List Value} (h : Vals xs us) : Vals xs.reverse us.reverse := by
  induction h with
  | nil => exact .nil
  | cons r t ih => rw [List.reverse_cons, List.reverse_cons]; exact Vals.append ih (.cons r .nil)
section
variable {X : Cx} {pins : List (Addr × Obj)} {σ : St} {H : Hp} {s : Shared} {l b : Addr} {xs ys zs : List V}

/-! ### the two steps: a tracked list is rewritten, a new list is laid -/
theorem Inv.lset {its its' : List Value} {n : Nat} {f : Array Value → Array Value} {t' : Nat} (I : Inv X pins σ H s) (hH : H l = some (.lst xs))
    (e : s.heap.get? l = some { cls := .type "list", data := .seq its.toArray n }) (hf : f its.toArray = its'.toArray) (hv : Vals ys its') (hz : ys.length ≤ sizeLine) :
    Inv X pins σ (upd H l (.lst ys)) { s with heap := s.heap.update l (Obj.mapSeq f), toks := t' } := by
  have q := PySem.IsL.update e f
  rw [hf] at q
  refine I.write (x := l) (e := l) (by rw [hH]; exact trivial) (.inl rfl) (fun b' u hb hu => (Heap.get?_update_other s.heap (Obj.mapSeq f) (Ne.symm hb)).trans hu) ⟨_, q⟩ ?_
  exact ⟨hz, its', _, hv, q⟩
theorem Inv.lnew {its : List Value} {t' : Nat} (I : Inv X pins σ H s) (hv : Vals ys its) (hz : ys.length ≤ sizeLine) :
    Inv X pins σ (upd H s.heap.objs.size (.lst ys)) { s with heap := s.heap.push { cls := .type "list", data := .seq its.toArray }, toks := t' } :=
  I.laid (fun _ _ q => Heap.get?_push_of_some _ q) (Nat.le_refl _) ⟨hz, its, 0, hv, Heap.get?_push_size _ rfl⟩
theorem Inv.fresh (I : Inv X pins σ H s) : H s.heap.objs.size = none := I.hok.fresh (Nat.le_refl _)
theorem Inv.lstM (I : Inv X pins σ H s) (hH : H l = some (.lst xs)) : xs.length ≤ sizeLine ∧ ∃ (its : List Value) (n : Nat), Vals xs its ∧ xs.length = its.length ∧ s.heap.get? l = some { cls := .type "list", data := .seq its.toArray n } := by
  obtain ⟨z, its, n, r, e⟩ := I.hok l _ hH
  exact ⟨z, its, n, r, r.length, e⟩

end

section
variable {X : Cx}

/-! ### methods -/
noncomputable def rAppend : V → List V → Hp → VK → Prop := fun x vs H Q => ∃ l xs y, x = .ref l ∧ vs = [y] ∧ H l = some (.lst xs) ∧ xs.length < sizeLine ∧ Q .non (upd H l (.lst (xs ++ [y])))
theorem mt_append : MtM X "list.append" rAppend := by
  intro pins s σ H x vs v us Q I rx rv h
  obtain ⟨l, xs, y, rfl, rfl, hH, hz, q⟩ := h
  cases rx
  obtain ⟨u, rfl, ru⟩ := rv.one
  obtain ⟨z, its, n, r, hl, e⟩ := I.lstM hH
  refine call_meets F.slot_list_append ⟨_, e, rfl⟩ F.entry_list_append (F.args_list_append_2 _ _) (PySem.list_append l its.toArray n u (by rw [List.size_toArray]; omega)) ⟨e, ?_⟩
  refine ⟨.non, _, I.lset (its' := its ++ [u]) hH e (by simp) (r.append (.cons ru .nil)) ?_, rfl, q⟩
  rw [List.length_append, List.length_singleton]
  omega

/-! ### list + list, list += list, list * int -/
/-! ### del xs[i] -/
end

/-! ### xs[a:b] = ys -/
section
variable {prog : Program} {w : World} {A : Around} {E : Value → Shared → Prop} {s : Shared}
end

section
variable {X : Cx}
end
end L2

namespace Att
open PySem PySem.W PySem.Calls PyProof.Rows

/-! ### the script -/
theorem ints_of_wellAll {P : Params} {h : Heap} : ∀ (ns : List Int) (vs : List Value), WellAll P h vs (ns.map WData.int) → IntsAre vs ns := by
  intro ns
  induction ns with
  | nil =>
    intro vs w
    rw [List.map_nil] at w
    cases w
    exact .nil
  | cons n ns ih =>
    intro vs w
    rw [List.map_cons] at w
    cases w with
    | cons a b =>
      cases a
      exact .cons _ _ (ih _ b)

theorem script_of {l : OpenLaw} {n : Nat} (hn : l.most = some n) {P : Params} {h : Heap} {args : List WData} {vals : List Value}
    (hpre : l.row.toRowW.claim.pre args = true) (hwl : WellAll P h vals args) :
    ∃ a vs ns, vals = [Value.ref a] ∧ args = [WData.list (ns.map WData.int)] ∧ h.get? a = some { cls := .type "list", data := .seq vs.toArray } ∧ IntsAre vs ns ∧ ns.length ≤ n := by
  have hsh : WShape.hasAll [] args [.list .int] = true := (pre_splitW hpre).1
  have hc : l.pre.holds [] { args := args } = true := (pre_splitW hpre).2
  obtain ⟨d, r, rfl, h1, h2⟩ := hasAllW_cons hsh
  obtain rfl := hasAllW_nil h2
  obtain ⟨xs, rfl, h3⟩ := hasW_list h1
  obtain ⟨ns, rfl⟩ := items_int h3
  have hlen : ns.length ≤ n := by
    unfold OpenLaw.pre at hc
    have h4 : (WTm.not (.lt (.lit (.int (n : Int))) (.len (.arg 0)))).holds [] { args := [.list (ns.map .int)] } = true := by
      have h4 := (holds_andW hc).1
      rw [hn] at h4
      exact h4
    have h5 := condW_of h4 (w_not (w_lt w_lit (w_len_list (w_arg rfl))))
    rw [List.length_map] at h5
    refine Nat.le_of_not_lt fun q => ?_
    have q' : (n : Int) < ((ns.length : Nat) : Int) := by omega
    first
      | (rw [decide_eq_true q'] at h5; exact absurd h5 (by decide))
      | (simp at h5; omega)
  cases hwl with
  | cons w1 w2 =>
    cases w2
    cases w1 with
    | list ho hall => exact ⟨_, _, ns, rfl, rfl, ho, ints_of_wellAll ns _ hall, hlen⟩

theorem post_true (l : OpenLaw) (args : List WData) : l.row.toRowW.claim.post args (.bool true) args = true :=
  postW_of (r := l.row.toRowW) (X := (true == true))
    (show WShape.has [] (.bool true) .bool = true by first | rfl | decide | simp [WShape.has, WShape.arms, WShape.armsAll])
    (show (WTm.eq .res (.lit (.bool true))).value [] { args := args, res := some (.bool true), after := args } = some (.bool (true == true)) from w_eq_bool (w_res rfl) w_lit) rfl

/-! ### the attachment: holds_open's last premise (the goal 'hc' behind k_head) from a wpAny of the law's body -/
theorem attach_call {l : OpenLaw} {n : Nat} {q : Program} {loose : List Str} {XP : (Str → Option Value) → Heap → Prop} {YP : World → Heap → Prop} {d : DefRec}
    (hn : l.most = some n) (hdf : d.params.defaults = [])
    (call : ∀ (w : World) (s₀ s₁ : Shared) (mg mb : Str → Option Value) (fa : Addr) (o : Obj) (pm cd doc : Value) (a : Addr) (vs : List Value) (ns : List Int),
      Ground q loose [] XP w s₀ mg mb s₁.heap → YP w s₁.heap →
      s₁.heap.get? fa = some o → o.data = .func (docDef d.name d.params d.body d.scope pm cd doc) → s₁.heap.CodeRec cd d.name → mg d.name = some (.ref fa) →
      s₁.heap.get? a = some { cls := .type "list", data := .seq vs.toArray } → IntsAre vs ns → ns.length ≤ n → s₁.gens = #[] →
      codeAny (model l.prog w) callerA (.call (.ref fa) ⟨[.ref a], []⟩) (fun r s' => r = .ok (.ret (.bool true)) ∧ OldK s₁.heap s'.heap ∧ s'.os = s₁.os ∧ AllBare s'.gens) s₁) :
    WalkO q loose XP YP l.row.toRowW d [] (fun f vs => PySem.call f vs) := by
  intro w s₀ s₁ mg mb G Y fa o pm cd doc dV kV ho hd hcd hD hmg hg args vals as hpre hlay hrd hwl hlo
  obtain rfl : dV = .none := Dflts.none hD hdf
  obtain rfl : kV = .none := Dflts.noKw hD
  obtain ⟨a, vs, ns, rfl, rfl, hobj, hints, hlen⟩ := script_of hn hpre hwl
  refine enter_call (codeAny_mono (call w s₀ s₁ mg mb fa o pm cd doc a vs ns G Y ho (fd_plain hd) hcd hmg hobj hints hlen hg) fun r s' hq => ?_)
  obtain ⟨rfl, h2, h3, h4⟩ := hq
  exact ⟨.inl ⟨.bool true, .bool true, [], rfl, fun _ => rfl, .bool true, post_true l _, fun _ => ⟨List.Pairwise.nil, fun _ hm => (nomatch hm)⟩⟩, h2, h3, h4⟩

/-! ### rules over ANY heap (no ledger) from facts about the written part K: the library's own take a ledger (News) for what they write -/
section
variable {prog : Program} {w : World} {A : Around} {E : Value → Shared → Prop} {s : Shared} {K : Frag}

/-! the whole heap as the ledger: makes every rule that writes through a ledger a rule over any heap -/
end
end Att

namespace L2
open PySem PySem.Spec PyProof.Rows

theorem vals_ints : ∀ {vs : List Value} {ns : List Int}, IntsAre vs ns → Vals (ns.map V.int) vs
  | _, _, .nil => .nil
  | _, _, .cons n t h => .cons ⟨t, rfl⟩ (vals_ints h)

noncomputable def Only (H : Hp) : Prop := ∀ b, H b = none ∨ ∃ o xs, H b = some (.frz o (.lst xs))

theorem law_call {P : Program} {w : World} {K : PySem.W.Frag} {mg mb : Str → Option Value} {CX : CXT} {k : Nat} {fa a : Addr} {fd : FuncData} {x : Str} {sp : Sp} {s₁ : Shared} {vs : List Value} {ns : List Int}
    (KX : K.In s₁.heap) (hns : s₁.heap.Ns mainGlobals mg) (hb : s₁.heap.Ns builtinsNs mb) (hbb : ∀ x : Str, x ≠ "__name__" → mb x = bootBuiltins x) (hlim : s₁.heap.NoLimit) (hg : s₁.gens = #[])
    (ha : s₁.heap.get? a = some { cls := .type "list", data := .seq vs.toArray }) (hi : IntsAre vs ns) (hl : ns.length ≤ sizeLine) (hr : Room k callerA)
    (F : ∀ base : Heap, K.In base → base.Ns mainGlobals mg → FnOk P w K mg base CX k fa fd [x] sp) (hbind : ∀ (s : Shared) (u : Value), BindsTo s fd ⟨[u], []⟩ [(x, u)])
    (hsp : ∀ H : Hp, Only H → SqL K H a (ns.map V.int) → sp [.ref a] H (fun v _ => v = .bl true) fun _ _ _ => False)
    (hCX : ∀ H e s', CX [] H s₁ (fun _ _ _ => False) e s' → False) :
    codeAny (model P w) callerA (.call (.ref fa) ⟨[.ref a], []⟩) (fun r s' => r = .ok (.ret (.bool true)) ∧ OldK s₁.heap s'.heap ∧ s'.os = s₁.os ∧ AllBare s'.gens) s₁ := by
  have rv := vals_ints hi
  have lenV := hi.length
  -- from an abstract heap in which nothing but the script may be tracked
  have core : ∀ H : Hp, Only H → SqL K H a (ns.map V.int) → HOk P w H s₁.heap → (∀ b, H b ≠ none → b = a) → (H a ≠ none → K.lookup a = none) →
      codeAny (model P w) callerA (.call (.ref fa) ⟨[.ref a], []⟩) (fun r s' => r = .ok (.ret (.bool true)) ∧ OldK s₁.heap s'.heap ∧ s'.os = s₁.os ∧ AllBare s'.gens) s₁ := by
    intro H hO hS hok hA hK
    have base_of : ∀ {b : Addr} {o : Obj}, s₁.heap.get? b = some o → H b = none → (hidT s₁.heap H).get? b = some o := fun e n => hidT_get e n
    have noA : ∀ {b : Addr} {o : Obj} {es : Array DictEntry} {ep : Nat}, s₁.heap.get? b = some o → o.data = .dict es ep → H b = none := fun {b o es ep} e d => by
      cases q : H b with
      | none => rfl
      | some u =>
        have e' : b = a := hA b (by rw [q]; simp)
        subst e'
        rw [ha] at e; cases e
        have d' : Data.seq vs.toArray _ = Data.dict es ep := d
        cases d'
    have nsK : ∀ {b : Addr} {m : Str → Option Value}, s₁.heap.Ns b m → (hidT s₁.heap H).Ns b m := fun {b m} ⟨o, es, ep, e, d, r⟩ => ⟨o, es, ep, base_of e (noA e d), d, r⟩
    have hKb : K.In (hidT s₁.heap H) := fun b o e => base_of (KX b o e) (by
      cases q : H b with
      | none => rfl
      | some u =>
        have e' : b = a := hA b (by rw [q]; simp)
        subst e'
        rw [hK (by rw [q]; simp)] at e; cases e)
    have hM : Mod K mg (hidT s₁.heap H) := ⟨hKb, nsK hns, ⟨mb, nsK hb, hbb⟩, let ⟨mc, h1, h2⟩ := hlim; ⟨mc, nsK h1, h2⟩⟩
    have e0 : Env0 P w K mg (hidT s₁.heap H) callerA [] s₁ H := ⟨rfl, hM, fun b o e => of_hidT e, Nat.le_of_eq (hidT_size _ _), trivial, fun b hb => absurd (show b ∈ ([] : List Addr) from hb) (by simp), hok, .of_eq hg⟩
    refine codeAny_mono ((F _ hKb (nsK hns)).run callerA [] s₁ H ⟨[.ref a], []⟩ [.ref a] [.ref a] _ _ hr e0 (hbind s₁ (.ref a)) (.cons rfl .nil) (hsp H hO hS)) fun r s' h => ?_
    cases r with
    | error e => exact (hCX H e s' h).elim
    | ok fl =>
      cases fl with
      | next => exact False.elim h
      | brk => exact False.elim h
      | cont => exact False.elim h
      | ret u =>
        obtain ⟨v, H', os, bare, un, hok', r', q⟩ := h
        have q' : v = .bl true := q
        subst q'
        obtain rfl : u = Value.bool true := r'
        refine ⟨rfl, OldK.of_keep fun b o e => ?_, os, bare⟩
        cases q : H b with
        | none => exact un.keep b o e q (by intro z; exact absurd (show b ∈ ([] : List Addr) from z) (by simp)) (by simp)
        | some u =>
          rcases hO b with z | ⟨ob, xs, z⟩
          · rw [q] at z; cases z
          · have z2 := un.frzs b ob _ z
            obtain ⟨e1, _⟩ := hok b _ z
            obtain ⟨e2, _⟩ := hok' b _ z2
            rw [e] at e1; cases e1
            exact e2
  cases hk : K.lookup a with
  | some o =>
    -- the script is one of the module's own objects
    have e := KX a o hk
    rw [ha] at e
    cases e
    refine core (fun _ => none) (fun _ => .inl rfl) (.inr ⟨_, vs.toArray, _, hk, rfl, rfl, rfl, by rw [List.size_toArray, lenV]; exact hl, by simpa using rv⟩) (fun b u z => by have z' : (none : Option HO) = some u := z; cases z') (fun b z => absurd rfl z) fun z => absurd rfl z
  | none =>
    refine core (fun b => if b = a then some (.frz { cls := .type "list", data := .seq vs.toArray } (.lst (ns.map V.int))) else none) (fun b => ?_) (.inl (.inr ⟨{ cls := .type "list", data := .seq vs.toArray }, if_pos rfl⟩)) (fun b u z => ?_) (fun b z => ?_) fun _ => hk
    · by_cases hb : b = a
      · exact .inr ⟨_, _, if_pos hb⟩
      · exact .inl (if_neg hb)
    · by_cases hb : b = a
      · have z' := (if_pos hb).symm.trans z
        cases z'
        subst hb
        exact ⟨ha, by rw [List.length_map]; exact hl, vs, _, rv, ha⟩
      · have z' := (if_neg hb).symm.trans z
        cases z'
    · by_cases hb : b = a
      · exact hb
      · exact absurd (if_neg hb) z
end L2

namespace L2
open PySem PySem.Spec PyProof.Rows

noncomputable abbrev KOf {K : PySem.W.Frag} {h : Heap} (_ : K.In h) : PySem.W.Frag := K

theorem walk_of {l : PySem.W.OpenLaw} {n k : Nat} {q : Program} {loose : List Str} {XP : (Str → Option Value) → Heap → Prop} {YP : World → Heap → Prop} {d : DefRec} {K : Params → PySem.W.Frag} {CX : World → CXT} {sp : World → Sp} {x : Str}
    (hn : l.most = some n) (hn2 : n ≤ sizeLine) (hdf : d.params.defaults = []) (hr : Room k callerA)
    (hY : ∀ (w : World) (h : Heap), YP w h → (K w.params).In h)
    (F : ∀ (w : World) (mg : Str → Option Value) (fa : Addr) (h : Heap), (K w.params).In h → h.Ns mainGlobals mg → mg d.name = some (.ref fa) →
      ∃ fd : FuncData, (∀ (s : Shared) (u : Value), BindsTo s fd ⟨[u], []⟩ [(x, u)]) ∧
        ∀ base : Heap, (K w.params).In base → base.Ns mainGlobals mg → FnOk l.prog w (K w.params) mg base (CX w) k fa fd [x] (sp w))
    (hsp : ∀ (w : World) (H : Hp) (a : Addr) (ns : List Int), ns.length ≤ n → Only H → SqL (K w.params) H a (ns.map V.int) → sp w [.ref a] H (fun v _ => v = .bl true) fun _ _ _ => False)
    (hCX : ∀ (w : World) (H : Hp) (s : Shared) (e : Value) (s' : Shared), CX w [] H s (fun _ _ _ => False) e s' → False) :
    PySem.W.WalkO q loose XP YP l.row.toRowW d [] (fun f vs => PySem.call f vs) := by
  refine Att.attach_call hn hdf fun w s₀ s₁ mg mb fa o pm cd doc a vs ns G Y ho hd hcd hmg hobj hints hlen hg => ?_
  have KX := hY w _ Y
  obtain ⟨fd, hb, hF⟩ := F w mg fa _ KX G.T.g hmg
  exact law_call KX G.T.g G.T.b G.T.builtins G.T.nolimit hg hobj hints (Nat.le_trans hlen hn2) hr hF hb (fun H hO hS => hsp w H a ns hlen hO hS) fun H e s' => hCX w H s₁ e s'
end L2

/- THE LAST THEOREM (shape; LID, My.* are yours):
   My.Adr: a structure of the addresses that your layer names (classes, functions); My.Txt K t: a structure (Prop) of the equations over K;
   My.txt_mk : {K} {implicit addresses ..} (e1 : nsIn K mainGlobals "law" = some (some (.ref f))) (e2 : K.lookup f = some ⟨oc, od, .func (fnOf "law" "law" params body scope dV kV doc pm an cdv ct), sl⟩) (e3 : codeIn K cdv "law" = true) .. : ∃ t, My.Txt K t

set_option maxRecDepth 100000 in
set_option maxHeartbeats 0 in
theorem PySem.Challenge.cw_LID_holds : PySem.Challenge.rw_LID.Holds := by
  w_on; o_law; k_head; (case hw => w_witness2)
  k_fill
  refine L2.walk_of (l := PySem.Challenge.rw_LID) (n := 63) (k := 40) (x := "script") (CX := fun w => ..) (sp := fun _ => My.sp_law) rfl (by decide) rfl ⟨rfl, by decide, by decide⟩ (fun w h Y => PySem.W.kIn_of Y) ?F ?S ?C
  case F =>
    intro w mg fa h KX G hmg
    have T : ∃ t, My.Txt (L2.KOf KX) t := by
      dsimp only [L2.KOf]                          -- K must stand as «<heap const> w.params» for k_is
      refine' My.txt_mk ?e1 ?e2 ?e3 ..
      (case e1 => PySem.W.k_is)                    -- in the order: a name -> its address -> its object -> its parts
      (case e2 => PySem.W.k_is)
      ..
    obtain ⟨t, T⟩ := T
    have e0 := hmg.symm.trans (PySem.W.mg_of KX G T.law)
    cases e0                                       -- fa is the law's own address
    exact ⟨_, fun s u => .of_eq rfl, fun base kb nb => My.law_fn T kb nb⟩     -- if «.of_eq rfl» comes too early: refine' ⟨_, ?b, fun base kb nb => My.law_fn T kb nb⟩; exact fun s u => .of_eq rfl
  case S => exact fun w H a ns hl hO hS => ..
  case C => exact ..
(the tactic k_is has no namespace: write k_is) -/

/-! SHORT WORDS over the layer: a def of the text, its body, what a loop and a test want. -/
namespace L2
open PySem PySem.Spec PyProof.Rows

/-! ### the text by places -/

/-! ### no exception leaves a def -/
noncomputable abbrev CX0 : CXT := fun _ _ _ _ _ _ => False
/-! ### a def (or method) of the text as it stands behind the top -/
structure Fun (K : PySem.W.Frag) (x qual : Str) (st : Stmt) (f : Addr) (fd : FuncData) : Prop where
  ex : ∃ (oc : Value) (od : Option Addr) (kV doc pm : Value) (an : Option Addr) (cdv ct : Value) (osl : Array (Option Value)),
    fd = PySem.W.fnOf x qual (defArgs st) (defBody st) (defScope st) .none kV doc pm an cdv ct ∧ K.lookup f = some ⟨oc, od, .func fd, osl⟩ ∧ PySem.W.codeIn K cdv qual = true
  kp : PySem.W.keepIn K (.ref f) = true
section
variable {P : Program} {w : World} {K : PySem.W.Frag} {mg : Str → Option Value} {base : Heap}
theorem Fun.ok {x qual : Str} {st : Stmt} {f : Addr} {fd : FuncData} {N ps : List Str} {k : Nat} {sp : Sp} (F : Fun K x qual st f fd) (S : FnScope N ps (defScope st)) (len : ∀ vs H Q E, sp vs H Q E → vs.length = ps.length)
    (hbody : ∀ (cdv : Value) (A : Around) (outer : List Env) (s : Shared) (H : Hp) (vs : List V) (Q : VK) (E : XK), Room k (A.deeper (envOfC qual (defScope st) s.heap.objs.size f cdv)) → sp vs H Q E →
      ∃ t, PSs (cxOf CX0 P w K mg base N qual (defScope st) f cdv A outer s H E).nox (defBody st) t ∧ t { nx := fun _ H' => Q .non H', rt := Q } (start N vs) H) : FnOk P w K mg base CX0 (k + 1) f fd ps sp := by
  obtain ⟨oc, od, kV, doc, pm, an, cdv, ct, osl, rfl, lk, hcd⟩ := F.ex
  refine fn_of lk hcd S len fun A outer s H vs Q E hr hsp => ?_
  obtain ⟨t, h, q⟩ := hbody cdv A outer s H vs Q E hr hsp
  exact ⟨t, h.nox, q⟩
theorem Fun.binds {x qual : Str} {st : Stmt} {f : Addr} {fd : FuncData} {ps : List Str} (F : Fun K x qual st f fd)
    (h : ∀ (kV doc pm : Value) (an : Option Addr) (cdv ct : Value) (us : List Value), us.length = ps.length → bindArgs (PySem.W.fnOf x qual (defArgs st) (defBody st) (defScope st) .none kV doc pm an cdv ct) ⟨us, []⟩ = pure (ps.zip us)) : Binds K fd ps [] := by
  obtain ⟨oc, od, kV, doc, pm, an, cdv, ct, osl, rfl, lk, hcd⟩ := F.ex
  exact .all (h kV doc pm an cdv ct)
theorem fun_mk {x qual : Str} {st : Stmt} {f : Addr} {oc : Value} {od an : Option Addr} {osl : Array (Option Value)} {kV doc pm cdv ct : Value} (l : K.lookup f = some ⟨oc, od, .func (PySem.W.fnOf x qual (defArgs st) (defBody st) (defScope st) .none kV doc pm an cdv ct), osl⟩)
    (c : PySem.W.codeIn K cdv qual = true) (k : PySem.W.keepIn K (.ref f) = true) : Fun K x qual st f (PySem.W.fnOf x qual (defArgs st) (defBody st) (defScope st) .none kV doc pm an cdv ct) := ⟨⟨oc, od, kV, doc, pm, an, cdv, ct, osl, rfl, l, c⟩, k⟩
end
/-! ### expressions in short: the name that stands in the i-th slot -/
section
variable {X : Cx}
theorem pv (i : Nat) {x : Str} {pos : Pos} (hN : X.N[i]? = some x := by rfl) (hv : Vis X.env.scope x := by first | exact Or.inl rfl | exact Or.inr (Or.inl rfl) | exact Or.inr (Or.inr rfl)) (hd : (x == ("__debug__" : Str)) = false := by decide)
    (hcd : (x == ("__classdict__" : Str)) = false := by decide) : PE X (.Name x pos) (tVar i) := pe_var hN hv hd hcd
end

/-! ### tests -/
/-! ### heaps -/
noncomputable def Same (H H' : Hp) : Prop := ∀ b o, H b = some o → H' b = some o
theorem Same.refl (H : Hp) : Same H H := fun _ _ h => h
theorem Same.trans {H H1 H2 : Hp} (a : Same H H1) (b : Same H1 H2) : Same H H2 := fun c o h => b c o (a c o h)
theorem Same.free {H H' : Hp} (e : Same H H') {l : Addr} (h : H' l = Option.none) : H l = Option.none := by
  cases q : H l with
  | none => rfl
  | some o =>
    rw [e l o q] at h
    cases h
theorem Same.seq {K : PySem.W.Frag} {H H' : Hp} {a : Addr} {xs : List V} (e : Same H H') (h : SqL K H a xs) : SqL K H' a xs := by
  rcases h with (h | ⟨o, h⟩) | h
  · exact .inl (.inl (e _ _ h))
  · exact .inl (.inr ⟨o, e _ _ h⟩)
  · exact .inr h

end L2
/-! ModelM -/
set_option linter.all false
set_option maxRecDepth 100000
namespace PySem
section
variable {M : Model} {A : Around} {E : Value → Shared → Prop}
variable {nm q : Str} {C N : Addr} {bs bm : List Value} {hdct : Bool} {sn : List Str} {sub : List Value} {ab : Bool} {col : Option Bool} {dd : Option Addr} {k0 k1 k2 k3 k5 : Option Value} {newId : String}
variable {nm' q' : Str} {D N' : Addr} {bs' bm' : List Value} {hdct' : Bool} {sn' : List Str} {sub' : List Value} {ab' : Bool} {col' : Option Bool} {dd' : Option Addr} {k0' k1' k2' k3' k5' : Option Value} {newId' : String}
theorem excMatches_own {h : Heap} {g : Array GenState} {d : Drawn} {t : Nat} {os : OsState} {e : Addr} {oe : Obj} {Q : Bool → Shared → Prop}
    (hC : h.get? C = some (excClassObj nm q C N bs bm hdct sn sub ab col dd k0 k1 k2 k3 k5 newId)) (hD : h.get? D = some (excClassObj nm' q' D N' bs' bm' hdct' sn' sub' ab' col' dd' k0' k1' k2' k3' k5' newId')) (he : h.get? e = some oe) (hcls : oe.cls = .ref C) (hbase : bm'.contains (.type "BaseException") = true)
    (hs : (Value.ref C :: bm).contains (.ref D) = true)
    (hq : Q true ⟨h, g, d, t, os⟩) : wpAny M A (excMatches (.ref e) (.ref D)) Q E ⟨h, g, d, t, os⟩ := by
  have hcB : (Value.ref D :: bm').contains (.type "BaseException") = true := by rw [List.contains_cons, hbase, Bool.or_true]
  have f := tc_notTuple
  unfold excMatches
  repeat (first | (with_reducible refine wpAny_loadPart_at he ?_; rw [hcls]) | with_reducible refine wpAny_loadPart_at hD ?_ | (with_reducible refine wpAny_isSubtype_exc hD ?_; rw [hcB]) | (with_reducible refine wpAny_isSubtype_exc hC ?_; rw [hs]) | wp_step)
  exact hq
end
end PySem
/-! TreeA -/
set_option linter.all false
namespace TL
open PySem L2

inductive T where
  | non | bl (b : Bool) | int (i : Int) | str (x : Str) | lst (xs : List T) | tup (xs : List T) | cell (c : Nat) | exc (c : String)

noncomputable abbrev TSt := List (Option T)
noncomputable abbrev Sto := List (List T)
noncomputable abbrev Rho := List Addr

open Classical in
noncomputable def mask (H : Hp) (Z : Addr → Prop) (ρ : Rho) : Hp := fun a => if Z a ∨ a ∈ ρ then none else H a
theorem mask_some {H : Hp} {Z : Addr → Prop} {ρ : Rho} {a : Addr} {o : HO} : mask H Z ρ a = some o ↔ ¬ Z a ∧ a ∉ ρ ∧ H a = some o := by
  unfold mask
  constructor
  · intro h
    split at h
    · cases h
    · rename_i q
      exact ⟨fun z => q (.inl z), fun z => q (.inr z), h⟩
  · rintro ⟨h1, h2, h3⟩
    rw [if_neg (by
      rintro (z | z)
      · exact h1 z
      · exact h2 z)]
    exact h3
theorem mask_of {H : Hp} {Z : Addr → Prop} {ρ : Rho} {a : Addr} {o : HO} (h1 : ¬ Z a) (h2 : a ∉ ρ) (h3 : H a = some o) : mask H Z ρ a = some o := mask_some.mpr ⟨h1, h2, h3⟩
theorem mask_sub {H : Hp} {Z : Addr → Prop} {ρ : Rho} : Same (mask H Z ρ) H := fun a o h => (mask_some.mp h).2.2

noncomputable def exO (a C : Addr) : HO := .ext fun h => ∃ ob, h.get? a = some ob ∧ ob.cls = .ref C
mutual
noncomputable def RT (K : PySem.W.Frag) (M : Hp) (ρ : Rho) : T → V → Prop
  | .non, v => v = .non
  | .bl b, v => v = .bl b
  | .int i, v => v = .int i
  | .str x, v => v = .str x
  | .lst ts, v => ∃ a vs, v = .ref a ∧ SqL K M a vs ∧ RTs K M ρ ts vs
  | .tup ts, v => ∃ a vs, v = .ref a ∧ SqT K M a vs ∧ RTs K M ρ ts vs
  | .cell c, v => ∃ a, v = .ref a ∧ ρ[c]? = some a
  | .exc c, v => ∃ a C, v = .ref a ∧ PySem.W.nsIn K mainGlobals (Str.ofString c) = some (some (.ref C)) ∧ M a = some (exO a C)
noncomputable def RTs (K : PySem.W.Frag) (M : Hp) (ρ : Rho) : List T → List V → Prop
  | [], vs => vs = []
  | t :: ts, vs => ∃ v r, vs = v :: r ∧ RT K M ρ t v ∧ RTs K M ρ ts r
end

theorem Same.tseq {K : PySem.W.Frag} {H H' : Hp} {a : Addr} {xs : List V} (e : Same H H') (h : SqT K H a xs) : SqT K H' a xs := by
  rcases h with (h | ⟨o, h⟩) | h
  · exact .inl (.inl (e _ _ h))
  · exact .inl (.inr ⟨o, e _ _ h⟩)
  · exact .inr h

theorem get_pre {ρ e : Rho} {c : Nat} {a : Addr} (h : ρ[c]? = some a) : (ρ ++ e)[c]? = some a := by
  rw [List.getElem?_append_left (List.getElem?_eq_some_iff.mp h).1]; exact h

section
variable {K : PySem.W.Frag} {M M' : Hp} {ρ ρ' : Rho}
mutual
theorem RT.mono (s : Same M M') (p : ∀ (c : Nat) (a : Addr), ρ[c]? = some a → ρ'[c]? = some a) : ∀ {t : T} {v : V}, RT K M ρ t v → RT K M' ρ' t v
  | .non, _, h => by unfold RT at *; exact h
  | .bl _, _, h => by unfold RT at *; exact h
  | .int _, _, h => by unfold RT at *; exact h
  | .str _, _, h => by unfold RT at *; exact h
  | .lst ts, v, h => by
    unfold RT at *
    obtain ⟨a, vs, e, q, r⟩ := h
    exact ⟨a, vs, e, s.seq q, RTs.mono s p r⟩
  | .tup ts, v, h => by
    unfold RT at *
    obtain ⟨a, vs, e, q, r⟩ := h
    exact ⟨a, vs, e, Same.tseq s q, RTs.mono s p r⟩
  | .cell c, v, h => by
    unfold RT at *
    obtain ⟨a, e, q⟩ := h
    exact ⟨a, e, p c a q⟩
  | .exc c, v, h => by
    unfold RT at *
    obtain ⟨a, C, e, q, r⟩ := h
    exact ⟨a, C, e, q, s _ _ r⟩
theorem RTs.mono (s : Same M M') (p : ∀ (c : Nat) (a : Addr), ρ[c]? = some a → ρ'[c]? = some a) : ∀ {ts : List T} {vs : List V}, RTs K M ρ ts vs → RTs K M' ρ' ts vs
  | [], _, h => by unfold RTs at *; exact h
  | t :: ts, vs, h => by
    unfold RTs at *
    obtain ⟨v, r, e, h1, h2⟩ := h
    exact ⟨v, r, e, RT.mono s p h1, RTs.mono s p h2⟩
end
theorem RTs.nil : RTs K M ρ [] [] := by unfold RTs; rfl
theorem RTs.cons {t : T} {ts : List T} {v : V} {vs : List V} (h : RT K M ρ t v) (hs : RTs K M ρ ts vs) : RTs K M ρ (t :: ts) (v :: vs) := by
  unfold RTs; exact ⟨v, vs, rfl, h, hs⟩
theorem RTs.nil_inv {vs : List V} (h : RTs K M ρ [] vs) : vs = [] := by unfold RTs at h; exact h
theorem RTs.cons_inv {t : T} {ts : List T} {vs : List V} (h : RTs K M ρ (t :: ts) vs) : ∃ v r, vs = v :: r ∧ RT K M ρ t v ∧ RTs K M ρ ts r := by unfold RTs at h; exact h
theorem RTs.length : ∀ {ts : List T} {vs : List V}, RTs K M ρ ts vs → vs.length = ts.length
  | [], _, h => by rw [h.nil_inv]; rfl
  | t :: ts, vs, h => by
    obtain ⟨v, r, rfl, _, h2⟩ := h.cons_inv
    simp [h2.length]
theorem RTs.get : ∀ {ts : List T} {vs : List V} {i : Nat} {t : T}, RTs K M ρ ts vs → ts[i]? = some t → ∃ v, vs[i]? = some v ∧ RT K M ρ t v
  | [], _, _, _, _, e => by simp at e
  | x :: ts, vs, 0, t, h, e => by
    obtain ⟨v, r, rfl, h1, h2⟩ := h.cons_inv
    simp at e; subst e
    exact ⟨v, rfl, h1⟩
  | x :: ts, vs, i + 1, t, h, e => by
    obtain ⟨v, r, rfl, h1, h2⟩ := h.cons_inv
    obtain ⟨u, q1, q2⟩ := RTs.get (i := i) h2 (by simpa using e)
    exact ⟨u, by simpa using q1, q2⟩
theorem RTs.append : ∀ {ts us : List T} {vs ws : List V}, RTs K M ρ ts vs → RTs K M ρ us ws → RTs K M ρ (ts ++ us) (vs ++ ws)
  | [], _, _, _, h, h' => by rw [h.nil_inv]; exact h'
  | t :: ts, _, _, _, h, h' => by
    obtain ⟨v, r, rfl, h1, h2⟩ := h.cons_inv
    exact .cons h1 (h2.append h')
theorem RTs.take : ∀ (n : Nat) {ts : List T} {vs : List V}, RTs K M ρ ts vs → RTs K M ρ (ts.take n) (vs.take n)
  | 0, _, _, _ => by simpa using RTs.nil
  | n + 1, [], _, h => by rw [h.nil_inv]; simpa using RTs.nil
  | n + 1, t :: ts, _, h => by
    obtain ⟨v, r, rfl, h1, h2⟩ := h.cons_inv
    exact .cons h1 (h2.take n)
theorem RTs.drop : ∀ (n : Nat) {ts : List T} {vs : List V}, RTs K M ρ ts vs → RTs K M ρ (ts.drop n) (vs.drop n)
  | 0, _, _, h => h
  | n + 1, [], _, h => by rw [h.nil_inv]; simpa using RTs.nil
  | n + 1, t :: ts, _, h => by
    obtain ⟨v, r, rfl, h1, h2⟩ := h.cons_inv
    exact h2.drop n
theorem RTs.set {t : T} {v : V} (h0 : RT K M ρ t v) : ∀ (n : Nat) {ts : List T} {vs : List V}, RTs K M ρ ts vs → RTs K M ρ (ts.set n t) (vs.set n v)
  | _, [], _, h => by rw [h.nil_inv]; simpa using RTs.nil
  | 0, x :: ts, _, h => by
    obtain ⟨u, r, rfl, h1, h2⟩ := h.cons_inv
    exact .cons h0 h2
  | n + 1, x :: ts, _, h => by
    obtain ⟨u, r, rfl, h1, h2⟩ := h.cons_inv
    exact .cons h1 (h2.set h0 n)
theorem RTs.reverse : ∀ {ts : List T} {vs : List V}, RTs K M ρ ts vs → RTs K M ρ ts.reverse vs.reverse
  | [], _, h => by rw [h.nil_inv]; exact RTs.nil
  | t :: ts, _, h => by
    obtain ⟨v, r, rfl, h1, h2⟩ := h.cons_inv
    rw [List.reverse_cons, List.reverse_cons]
    exact h2.reverse.append (.cons h1 .nil)
end

structure Rel (K : PySem.W.Frag) (H₀ : Hp) (Z : Addr → Prop) (ρ : Rho) (τ : TSt) (C : Sto) (σ : St) (H : Hp) : Prop where
  old : Same H₀ H
  frs : ∀ a ∈ ρ, H₀ a = none ∧ ¬ Z a
  nd : ρ.Nodup
  zd : ∀ a, Z a → H a ≠ none
  loc : ∀ (i : Nat) (t : T), τ[i]? = some (some t) → ∃ v, σ[i]? = some (some v) ∧ RT K (mask H Z ρ) ρ t v
  cel : ∀ (c : Nat) (a : Addr), ρ[c]? = some a → ∃ ts vs, C[c]? = some ts ∧ H a = some (.lst vs) ∧ RTs K (mask H Z ρ) ρ ts vs
  len : ρ.length = C.length
  lnt : τ.length = σ.length

structure Step (H H' : Hp) (ρ ρ' : Rho) : Prop where
  same : Same H H'
  pre : ∃ e, ρ' = ρ ++ e ∧ ∀ a ∈ e, H a = none
theorem Step.refl {H : Hp} {ρ : Rho} : Step H H ρ ρ := ⟨.refl H, [], by simp, by simp⟩
theorem Step.trans {H H1 H2 : Hp} {ρ ρ1 ρ2 : Rho} (a : Step H H1 ρ ρ1) (b : Step H1 H2 ρ1 ρ2) : Step H H2 ρ ρ2 := by
  obtain ⟨e, he, h1⟩ := a.pre
  obtain ⟨f, hf, h2⟩ := b.pre
  refine ⟨a.same.trans b.same, e ++ f, by rw [hf, he, List.append_assoc], fun x hx => ?_⟩
  rcases List.mem_append.mp hx with hx | hx
  · exact h1 x hx
  · exact a.same.free (h2 x hx)
theorem Step.idx {H H' : Hp} {ρ ρ' : Rho} (s : Step H H' ρ ρ') : ∀ (c : Nat) (a : Addr), ρ[c]? = some a → ρ'[c]? = some a := fun c a h => by
  obtain ⟨e, he, _⟩ := s.pre
  rw [he]; exact get_pre h
theorem Step.msk {H H' : Hp} {ρ ρ' : Rho} (s : Step H H' ρ ρ') (Z : Addr → Prop) : Same (mask H Z ρ) (mask H' Z ρ') := fun a o h => by
  obtain ⟨h1, h2, h3⟩ := mask_some.mp h
  refine mask_of h1 (fun z => ?_) (s.same a o h3)
  obtain ⟨e, he, hn⟩ := s.pre
  rw [he] at z
  rcases List.mem_append.mp z with z | z
  · exact h2 z
  · rw [hn a z] at h3; cases h3
theorem RT.step {K : PySem.W.Frag} {H H' : Hp} {ρ ρ' : Rho} {Z : Addr → Prop} {t : T} {v : V} (h : RT K (mask H Z ρ) ρ t v) (s : Step H H' ρ ρ') : RT K (mask H' Z ρ') ρ' t v := h.mono (s.msk Z) s.idx
theorem RTs.step {K : PySem.W.Frag} {H H' : Hp} {ρ ρ' : Rho} {Z : Addr → Prop} {t : List T} {v : List V} (h : RTs K (mask H Z ρ) ρ t v) (s : Step H H' ρ ρ') : RTs K (mask H' Z ρ') ρ' t v := h.mono (s.msk Z) s.idx

structure SStep (Z : Addr → Prop) (H H' : Hp) (ρ ρ' : Rho) : Prop where
  same : Same (mask H Z ρ) (mask H' Z ρ')
  pre : ∃ e, ρ' = ρ ++ e
theorem SStep.refl {Z : Addr → Prop} {H : Hp} {ρ : Rho} : SStep Z H H ρ ρ := ⟨.refl _, [], by simp⟩
theorem SStep.trans {Z : Addr → Prop} {H H1 H2 : Hp} {ρ ρ1 ρ2 : Rho} (a : SStep Z H H1 ρ ρ1) (b : SStep Z H1 H2 ρ1 ρ2) : SStep Z H H2 ρ ρ2 := by
  obtain ⟨e, he⟩ := a.pre
  obtain ⟨f, hf⟩ := b.pre
  exact ⟨a.same.trans b.same, e ++ f, by rw [hf, he, List.append_assoc]⟩
theorem Step.ss {Z : Addr → Prop} {H H' : Hp} {ρ ρ' : Rho} (s : Step H H' ρ ρ') : SStep Z H H' ρ ρ' := ⟨s.msk Z, let ⟨e, he, _⟩ := s.pre; ⟨e, he⟩⟩
theorem SStep.idx {Z : Addr → Prop} {H H' : Hp} {ρ ρ' : Rho} (s : SStep Z H H' ρ ρ') : ∀ (c : Nat) (a : Addr), ρ[c]? = some a → ρ'[c]? = some a := fun c a h => by
  obtain ⟨e, he⟩ := s.pre
  rw [he]; exact get_pre h
section
variable {K : PySem.W.Frag} {H₀ H H' : Hp} {Z : Addr → Prop} {ρ ρ' : Rho} {τ : TSt} {C : Sto} {σ : St}
theorem Rel.alloc (R : Rel K H₀ Z ρ τ C σ H) {p : Addr} {o : HO} (hp : H p = none) : Rel K H₀ Z ρ τ C σ (upd H p o) ∧ Step H (upd H p o) ρ ρ := by
  have sm : Same H (upd H p o) := fun b u h => by rw [upd_ne (fun z => by rw [z, hp] at h; cases h)]; exact h
  have st : Step H (upd H p o) ρ ρ := ⟨sm, [], by simp, by simp⟩
  refine ⟨⟨R.old.trans sm, R.frs, R.nd, fun a z q => R.zd a z (sm.free q), fun i t e => ?_, fun c a e => ?_, R.len, R.lnt⟩, st⟩
  · obtain ⟨v, h1, h2⟩ := R.loc i t e
    exact ⟨v, h1, h2.step st⟩
  · obtain ⟨ts, vs, h1, h2, h3⟩ := R.cel c a e
    exact ⟨ts, vs, h1, sm _ _ h2, h3.step st⟩
theorem Rel.fresh_not (R : Rel K H₀ Z ρ τ C σ H) {p : Addr} (hp : H p = none) : ¬ Z p ∧ p ∉ ρ ∧ H₀ p = none := by
  refine ⟨fun z => R.zd p z hp, fun z => ?_, R.old.free hp⟩
  obtain ⟨c, hc⟩ := List.mem_iff_getElem?.mp z
  obtain ⟨_, _, _, h, _⟩ := R.cel c p hc
  rw [hp] at h; cases h
theorem Rel.alloc_lst (R : Rel K H₀ Z ρ τ C σ H) {p : Addr} {ts : List T} {vs : List V} (hp : H p = none) (h : RTs K (mask H Z ρ) ρ ts vs) :
    RT K (mask (upd H p (.lst vs)) Z ρ) ρ (.lst ts) (.ref p) := by
  obtain ⟨h1, h2, _⟩ := R.fresh_not hp
  unfold RT
  exact ⟨p, vs, rfl, .of (mask_of h1 h2 upd_same), h.step (R.alloc hp).2⟩
theorem Rel.alloc_tup (R : Rel K H₀ Z ρ τ C σ H) {p : Addr} {ts : List T} {vs : List V} (hp : H p = none) (h : RTs K (mask H Z ρ) ρ ts vs) :
    RT K (mask (upd H p (.tup vs)) Z ρ) ρ (.tup ts) (.ref p) := by
  obtain ⟨h1, h2, _⟩ := R.fresh_not hp
  unfold RT
  exact ⟨p, vs, rfl, .of (mask_of h1 h2 upd_same), h.step (R.alloc hp).2⟩
theorem Rel.alloc_cell (R : Rel K H₀ Z ρ τ C σ H) {p : Addr} {ts : List T} {vs : List V} (hp : H p = none) (h : RTs K (mask H Z ρ) ρ ts vs) :
    Rel K H₀ Z (ρ ++ [p]) τ (C ++ [ts]) σ (upd H p (.lst vs)) ∧ Step H (upd H p (.lst vs)) ρ (ρ ++ [p]) ∧ RT K (mask (upd H p (.lst vs)) Z (ρ ++ [p])) (ρ ++ [p]) (.cell C.length) (.ref p) := by
  obtain ⟨n1, n2, n3⟩ := R.fresh_not hp
  have sm : Same H (upd H p (.lst vs)) := fun b u h => by rw [upd_ne (fun z => by rw [z, hp] at h; cases h)]; exact h
  have st : Step H (upd H p (.lst vs)) ρ (ρ ++ [p]) := ⟨sm, [p], rfl, fun a ha => by rw [List.mem_singleton.mp ha]; exact hp⟩
  refine ⟨⟨R.old.trans sm, fun a ha => ?_, ?_, fun a z q => R.zd a z (sm.free q), fun i t e => ?_, fun c a e => ?_, by simp [R.len], R.lnt⟩, st, ?_⟩
  · rcases List.mem_append.mp ha with ha | ha
    · exact R.frs a ha
    · rw [List.mem_singleton.mp ha]; exact ⟨n3, n1⟩
  · refine List.nodup_append.mpr ⟨R.nd, by simp, fun a ha b hb => ?_⟩
    rw [List.mem_singleton.mp hb]
    rintro rfl
    exact n2 ha
  · obtain ⟨v, h1, h2⟩ := R.loc i t e
    exact ⟨v, h1, h2.step st⟩
  · by_cases hc : c < ρ.length
    · rw [List.getElem?_append_left hc] at e
      obtain ⟨us, ws, h1, h2, h3⟩ := R.cel c a e
      exact ⟨us, ws, by rw [List.getElem?_append_left (by rw [← R.len]; exact hc)]; exact h1, sm _ _ h2, h3.step st⟩
    · have hc' : c = ρ.length := by
        have := (List.getElem?_eq_some_iff.mp e).1
        simp at this; omega
      subst hc'
      rw [List.getElem?_append_right (Nat.le_refl _)] at e
      simp at e
      subst e
      exact ⟨ts, vs, by rw [R.len]; simp, upd_same, h.step st⟩
  · unfold RT
    exact ⟨p, rfl, by rw [← R.len]; simp⟩
theorem Rel.write (R : Rel K H₀ Z ρ τ C σ H) {c : Nat} {a : Addr} {ts : List T} {vs : List V} (hc : ρ[c]? = some a) (h : RTs K (mask H Z ρ) ρ ts vs) :
    Rel K H₀ Z ρ τ (C.set c ts) σ (upd H a (.lst vs)) ∧ SStep Z H (upd H a (.lst vs)) ρ ρ := by
  have am : a ∈ ρ := List.mem_of_getElem? hc
  have em : mask (upd H a (.lst vs)) Z ρ = mask H Z ρ := by
    funext b
    unfold mask
    split
    · rfl
    · rename_i q
      rw [upd_ne (by rintro rfl; exact q (.inr am))]
  refine ⟨⟨fun b o q => ?_, R.frs, R.nd, fun b z q => ?_, fun i t e => ?_, fun d b e => ?_, by simp [R.len], R.lnt⟩, ⟨by rw [em]; exact .refl _, [], by simp⟩⟩
  · rw [upd_ne (by rintro rfl; rw [(R.frs b am).1] at q; cases q)]
    exact R.old b o q
  · by_cases hb : b = a
    · subst hb; rw [upd_same] at q; cases q
    · rw [upd_ne hb] at q; exact R.zd b z q
  · rw [em]; exact R.loc i t e
  · rw [em]
    by_cases hd : d = c
    · subst hd
      rw [hc] at e; cases e
      have hl : d < C.length := by rw [← R.len]; exact (List.getElem?_eq_some_iff.mp hc).1
      exact ⟨ts, vs, by rw [List.getElem?_set_self hl], upd_same, h⟩
    · obtain ⟨us, ws, h1, h2, h3⟩ := R.cel d b e
      refine ⟨us, ws, by rw [List.getElem?_set_ne (Ne.symm hd)]; exact h1, ?_, h3⟩
      rw [upd_ne]
      · exact h2
      · rintro rfl
        obtain ⟨l1, e1⟩ := List.getElem?_eq_some_iff.mp e
        obtain ⟨l2, e2⟩ := List.getElem?_eq_some_iff.mp hc
        exact hd ((List.getElem_inj R.nd).mp (e1.trans e2.symm))
theorem Rel.set (R : Rel K H₀ Z ρ τ C σ H) {i : Nat} {t : T} {v : V} (h : RT K (mask H Z ρ) ρ t v) : Rel K H₀ Z ρ (τ.set i (some t)) C (σ.set i (some v)) H := by
  refine ⟨R.old, R.frs, R.nd, R.zd, fun j u e => ?_, R.cel, R.len, by simp [R.lnt]⟩
  by_cases hj : j = i
  · subst hj
    have hτ : j < τ.length := by
      have := (List.getElem?_eq_some_iff.mp e).1
      simpa using this
    rw [List.getElem?_set_self hτ] at e
    cases e
    exact ⟨v, by rw [List.getElem?_set_self (by rw [← R.lnt]; exact hτ)], h⟩
  · rw [List.getElem?_set_ne (Ne.symm hj)] at e
    obtain ⟨w, h1, h2⟩ := R.loc j u e
    exact ⟨w, by rw [List.getElem?_set_ne (Ne.symm hj)]; exact h1, h2⟩
theorem Rel.weak (R : Rel K H₀ Z ρ τ C σ H) {τ' : TSt} (hl : τ'.length = τ.length) (h : ∀ (i : Nat) t, τ'[i]? = some (some t) → τ[i]? = some (some t)) : Rel K H₀ Z ρ τ' C σ H :=
  ⟨R.old, R.frs, R.nd, R.zd, fun i t e => R.loc i t (h i t e), R.cel, R.len, hl.trans R.lnt⟩
end
end TL
/-! TreeB -/
set_option linter.all false
namespace TL
open PySem L2

noncomputable def lim : Nat := 100000
noncomputable abbrev FE := TSt → Sto → Option (T × Sto)
noncomputable abbrev FN := TSt → Sto → Option (List T × Sto)
noncomputable abbrev FB := TSt → Sto → Option (Bool × Sto)
noncomputable def trE (K : PySem.W.Frag) (f : FE) : TE := fun σ H Q => ∃ H₀ Z ρ τ C t C', Rel K H₀ Z ρ τ C σ H ∧ f τ C = some (t, C') ∧
  ∀ v H' ρ', Rel K H₀ Z ρ' τ C' σ H' → RT K (mask H' Z ρ') ρ' t v → Step H H' ρ ρ' → Q v H'
noncomputable def trA (K : PySem.W.Frag) (f : FN) : TA := fun σ H Q => ∃ H₀ Z ρ τ C ts C', Rel K H₀ Z ρ τ C σ H ∧ f τ C = some (ts, C') ∧
  ∀ vs H' ρ', Rel K H₀ Z ρ' τ C' σ H' → RTs K (mask H' Z ρ') ρ' ts vs → Step H H' ρ ρ' → Q vs H'
noncomputable def trN (K : PySem.W.Frag) (f : FN) : TE := fun σ H Q => ∃ H₀ Z ρ τ C ts C', Rel K H₀ Z ρ τ C σ H ∧ f τ C = some (ts, C') ∧
  ∀ p H' ρ' vs, Rel K H₀ Z ρ' τ C' σ H' → H' p = none → RTs K (mask H' Z ρ') ρ' ts vs → Step H H' ρ ρ' → Q (.ref p) (upd H' p (.lst vs))
noncomputable def trT (K : PySem.W.Frag) (f : FB) : TT := fun σ H Q => ∃ H₀ Z ρ τ C b C', Rel K H₀ Z ρ τ C σ H ∧ f τ C = some (b, C') ∧
  ∀ H' ρ', Rel K H₀ Z ρ' τ C' σ H' → Step H H' ρ ρ' → Q b H'
noncomputable def trV (K : PySem.W.Frag) (σ : St) (ts : List T) (vs : List V) (g : Sto → Option (T × Sto)) (H : Hp) (Q : VK) : Prop := ∃ H₀ Z ρ τ C t C', Rel K H₀ Z ρ τ C σ H ∧ RTs K (mask H Z ρ) ρ ts vs ∧ g C = some (t, C') ∧
  ∀ v H' ρ', Rel K H₀ Z ρ' τ C' σ H' → RT K (mask H' Z ρ') ρ' t v → Step H H' ρ ρ' → Q v H'
noncomputable def trW (K : PySem.W.Frag) (σ : St) (ts : List T) (vs : List V) (g : Sto → Option (List T)) (H : Hp) (Q : VK) : Prop := ∃ H₀ Z ρ τ C us, Rel K H₀ Z ρ τ C σ H ∧ RTs K (mask H Z ρ) ρ ts vs ∧ g C = some us ∧
  ∀ p H' ρ' ws, Rel K H₀ Z ρ' τ C σ H' → H' p = none → RTs K (mask H' Z ρ') ρ' us ws → Step H H' ρ ρ' → Q (.ref p) (upd H' p (.lst ws))

noncomputable def fVar (i : Nat) : FE := fun τ C => match τ[i]? with
  | some (some t) => some (t, C)
  | _ => none
noncomputable def fC (t : T) : FE := fun _ C => some (t, C)
noncomputable def fBin (fa fb : FE) (g : T → T → Sto → Option (T × Sto)) : FE := fun τ C => (fa τ C).bind fun p => (fb τ p.2).bind fun q => g p.1 q.1 q.2
noncomputable def fUn (fa : FE) (g : T → Sto → Option (T × Sto)) : FE := fun τ C => (fa τ C).bind fun p => g p.1 p.2
noncomputable def fBinN (fa fb : FE) (g : T → T → Sto → Option (List T)) : FN := fun τ C => (fa τ C).bind fun p => (fb τ p.2).bind fun q => (g p.1 q.1 q.2).map fun us => (us, q.2)
noncomputable def fNil : FN := fun _ C => some ([], C)
noncomputable def fCons (fa : FE) (fr : FN) : FN := fun τ C => (fa τ C).bind fun p => (fr τ p.2).map fun q => (p.1 :: q.1, q.2)
noncomputable def fArg (fa : FN) (g : List T → Sto → Option (T × Sto)) : FE := fun τ C => (fa τ C).bind fun p => g p.1 p.2
noncomputable def fArgN (fa : FN) (g : List T → Sto → Option (List T)) : FN := fun τ C => (fa τ C).bind fun p => (g p.1 p.2).map fun us => (us, p.2)
noncomputable def fTree (f : FN) : FE := fun τ C => (f τ C).map fun p => (.lst p.1, p.2)
noncomputable def fCell (f : FN) : FE := fun τ C => (f τ C).map fun p => (.cell p.2.length, p.2 ++ [p.1])

section
variable {K : PySem.W.Frag} {σ : St} {H : Hp} {Q : VK}
theorem i_var {i : Nat} (h : trE K (fVar i) σ H Q) : tVar i σ H Q := by
  obtain ⟨H₀, Z, ρ, τ, C, t, C', R, e, k⟩ := h
  unfold fVar at e
  split at e
  · rename_i u hu
    cases e
    obtain ⟨v, h1, h2⟩ := R.loc i t hu
    exact ⟨v, h1, k v H ρ R h2 .refl⟩
  · cases e
theorem i_C {t : T} {v : V} (ht : ∀ M ρ, RT K M ρ t v) (h : trE K (fC t) σ H Q) : tC v σ H Q := by
  obtain ⟨H₀, Z, ρ, τ, C, t, C', R, e, k⟩ := h
  cases e
  exact k v H ρ R (ht _ _) .refl
theorem i_bin {fa fb : FE} {g : T → T → Sto → Option (T × Sto)} (h : trE K (fBin fa fb g) σ H Q) :
    trE K fa σ H fun x H1 => trE K fb σ H1 fun y H2 => ∃ t1 t2, trV K σ [t1, t2] [x, y] (g t1 t2) H2 Q := by
  obtain ⟨H₀, Z, ρ, τ, C, t, C', R, e, k⟩ := h
  unfold fBin at e
  obtain ⟨⟨t1, C1⟩, e1, e⟩ := Option.bind_eq_some_iff.mp e
  obtain ⟨⟨t2, C2⟩, e2, e⟩ := Option.bind_eq_some_iff.mp e
  refine ⟨H₀, Z, ρ, τ, C, t1, C1, R, e1, fun x H1 ρ1 R1 h1 s1 => ?_⟩
  refine ⟨H₀, Z, ρ1, τ, C1, t2, C2, R1, e2, fun y H2 ρ2 R2 h2 s2 => ?_⟩
  exact ⟨t1, t2, H₀, Z, ρ2, τ, C2, t, C', R2, .cons (h1.step s2) (.cons h2 .nil), e, fun v H3 ρ3 R3 h3 s3 => k v H3 ρ3 R3 h3 ((s1.trans s2).trans s3)⟩
theorem i_un {fa : FE} {g : T → Sto → Option (T × Sto)} (h : trE K (fUn fa g) σ H Q) :
    trE K fa σ H fun x H1 => ∃ t1, trV K σ [t1] [x] (g t1) H1 Q := by
  obtain ⟨H₀, Z, ρ, τ, C, t, C', R, e, k⟩ := h
  unfold fUn at e
  obtain ⟨⟨t1, C1⟩, e1, e⟩ := Option.bind_eq_some_iff.mp e
  refine ⟨H₀, Z, ρ, τ, C, t1, C1, R, e1, fun x H1 ρ1 R1 h1 s1 => ?_⟩
  exact ⟨t1, H₀, Z, ρ1, τ, C1, t, C', R1, .cons h1 .nil, e, fun v H3 ρ3 R3 h3 s3 => k v H3 ρ3 R3 h3 (s1.trans s3)⟩
theorem i_binN {fa fb : FE} {g : T → T → Sto → Option (List T)} (h : trN K (fBinN fa fb g) σ H Q) :
    trE K fa σ H fun x H1 => trE K fb σ H1 fun y H2 => ∃ t1 t2, trW K σ [t1, t2] [x, y] (g t1 t2) H2 Q := by
  obtain ⟨H₀, Z, ρ, τ, C, ts, C', R, e, k⟩ := h
  unfold fBinN at e
  obtain ⟨⟨t1, C1⟩, e1, e⟩ := Option.bind_eq_some_iff.mp e
  obtain ⟨⟨t2, C2⟩, e2, e⟩ := Option.bind_eq_some_iff.mp e
  obtain ⟨us, e3, e⟩ := Option.map_eq_some_iff.mp e
  cases e
  refine ⟨H₀, Z, ρ, τ, C, t1, C1, R, e1, fun x H1 ρ1 R1 h1 s1 => ?_⟩
  refine ⟨H₀, Z, ρ1, τ, C1, t2, _, R1, e2, fun y H2 ρ2 R2 h2 s2 => ?_⟩
  exact ⟨t1, t2, H₀, Z, ρ2, τ, _, _, R2, .cons (h1.step s2) (.cons h2 .nil), e3, fun p H3 ρ3 ws R3 n3 h3 s3 => k p H3 ρ3 ws R3 n3 h3 ((s1.trans s2).trans s3)⟩
theorem i_nil {Q : List V → Hp → Prop} (h : trA K fNil σ H Q) : tNil σ H Q := by
  obtain ⟨H₀, Z, ρ, τ, C, ts, C', R, e, k⟩ := h
  cases e
  exact k [] H ρ R .nil .refl
theorem i_cons {fa : FE} {fr : FN} {Q : List V → Hp → Prop} (h : trA K (fCons fa fr) σ H Q) : tCons (trE K fa) (trA K fr) σ H Q := by
  obtain ⟨H₀, Z, ρ, τ, C, ts, C', R, e, k⟩ := h
  unfold fCons at e
  obtain ⟨⟨t1, C1⟩, e1, e⟩ := Option.bind_eq_some_iff.mp e
  obtain ⟨⟨t2, C2⟩, e2, e⟩ := Option.map_eq_some_iff.mp e
  cases e
  refine ⟨H₀, Z, ρ, τ, C, t1, C1, R, e1, fun x H1 ρ1 R1 h1 s1 => ?_⟩
  exact ⟨H₀, Z, ρ1, τ, C1, t2, _, R1, e2, fun vs H2 ρ2 R2 h2 s2 => k (x :: vs) H2 ρ2 R2 (.cons (h1.step s2) h2) (s1.trans s2)⟩
theorem i_arg {fa : FN} {g : List T → Sto → Option (T × Sto)} (h : trE K (fArg fa g) σ H Q) :
    trA K fa σ H fun vs H1 => ∃ ts, trV K σ ts vs (g ts) H1 Q := by
  obtain ⟨H₀, Z, ρ, τ, C, t, C', R, e, k⟩ := h
  unfold fArg at e
  obtain ⟨⟨ts, C1⟩, e1, e⟩ := Option.bind_eq_some_iff.mp e
  refine ⟨H₀, Z, ρ, τ, C, ts, C1, R, e1, fun x H1 ρ1 R1 h1 s1 => ?_⟩
  exact ⟨ts, H₀, Z, ρ1, τ, C1, t, C', R1, h1, e, fun v H3 ρ3 R3 h3 s3 => k v H3 ρ3 R3 h3 (s1.trans s3)⟩
theorem i_argN {fa : FN} {g : List T → Sto → Option (List T)} (h : trN K (fArgN fa g) σ H Q) :
    trA K fa σ H fun vs H1 => ∃ ts, trW K σ ts vs (g ts) H1 Q := by
  obtain ⟨H₀, Z, ρ, τ, C, ts, C', R, e, k⟩ := h
  unfold fArgN at e
  obtain ⟨⟨us, C1⟩, e1, e⟩ := Option.bind_eq_some_iff.mp e
  obtain ⟨ws, e2, e⟩ := Option.map_eq_some_iff.mp e
  cases e
  refine ⟨H₀, Z, ρ, τ, C, us, _, R, e1, fun x H1 ρ1 R1 h1 s1 => ?_⟩
  exact ⟨us, H₀, Z, ρ1, τ, _, _, R1, h1, e2, fun p H3 ρ3 ws R3 n3 h3 s3 => k p H3 ρ3 ws R3 n3 h3 (s1.trans s3)⟩
theorem i_tree {f : FN} (h : trE K (fTree f) σ H Q) : trN K f σ H Q := by
  obtain ⟨H₀, Z, ρ, τ, C, t, C', R, e, k⟩ := h
  unfold fTree at e
  obtain ⟨⟨us, C1⟩, e1, e⟩ := Option.map_eq_some_iff.mp e
  cases e
  exact ⟨H₀, Z, ρ, τ, C, us, _, R, e1, fun p H1 ρ1 vs R1 n1 h1 s1 => k _ _ ρ1 (R1.alloc n1).1 (R1.alloc_lst n1 h1) (s1.trans (R1.alloc n1).2)⟩
theorem i_cell {f : FN} (h : trE K (fCell f) σ H Q) : trN K f σ H Q := by
  obtain ⟨H₀, Z, ρ, τ, C, t, C', R, e, k⟩ := h
  unfold fCell at e
  obtain ⟨⟨us, C1⟩, e1, e⟩ := Option.map_eq_some_iff.mp e
  cases e
  refine ⟨H₀, Z, ρ, τ, C, us, _, R, e1, fun p H1 ρ1 vs R1 n1 h1 s1 => ?_⟩
  obtain ⟨q1, q2, q3⟩ := R1.alloc_cell n1 h1
  exact k _ _ _ q1 q3 (s1.trans q2)

/-! ### values -/
noncomputable def liT (C : Sto) : T → Option (List T)
  | .lst ts => some ts
  | .cell c => C[c]?
  | _ => none
noncomputable def sqT (C : Sto) : T → Option (List T)
  | .lst ts => some ts
  | .cell c => C[c]?
  | .tup ts => some ts
  | _ => none
theorem SqL.msk {M : Hp} {Z : Addr → Prop} {ρ : Rho} {a : Addr} {vs : List V} (h : SqL K (mask M Z ρ) a vs) : SqL K M a vs := mask_sub.seq h
theorem SqT.msk {M : Hp} {Z : Addr → Prop} {ρ : Rho} {a : Addr} {vs : List V} (h : SqT K (mask M Z ρ) a vs) : SqT K M a vs := Same.tseq mask_sub h
theorem Rel.li {H₀ : Hp} {Z : Addr → Prop} {ρ : Rho} {τ : TSt} {C : Sto} (R : Rel K H₀ Z ρ τ C σ H) {t : T} {v : V} {ts : List T} (h : RT K (mask H Z ρ) ρ t v) (e : liT C t = some ts) :
    ∃ a vs, v = .ref a ∧ SqL K H a vs ∧ RTs K (mask H Z ρ) ρ ts vs := by
  cases t with
  | lst us =>
    cases e
    unfold RT at h
    obtain ⟨a, vs, e, q, r⟩ := h
    exact ⟨a, vs, e, SqL.msk q, r⟩
  | cell c =>
    unfold RT at h
    obtain ⟨a, e1, q⟩ := h
    obtain ⟨us, ws, h1, h2, h3⟩ := R.cel c a q
    have e' : C[c]? = some ts := e
    rw [h1] at e'; cases e'
    exact ⟨a, ws, e1, .of h2, h3⟩
  | _ => cases e
theorem Rel.sq {H₀ : Hp} {Z : Addr → Prop} {ρ : Rho} {τ : TSt} {C : Sto} (R : Rel K H₀ Z ρ τ C σ H) {t : T} {v : V} {ts : List T} (h : RT K (mask H Z ρ) ρ t v) (e : sqT C t = some ts) :
    ∃ a vs, v = .ref a ∧ (SqL K H a vs ∨ SqT K H a vs) ∧ RTs K (mask H Z ρ) ρ ts vs := by
  cases t with
  | lst us =>
    obtain ⟨a, vs, h1, h2, h3⟩ := R.li h (show liT C (.lst us) = some ts from e)
    exact ⟨a, vs, h1, .inl h2, h3⟩
  | cell c =>
    obtain ⟨a, vs, h1, h2, h3⟩ := R.li h (show liT C (.cell c) = some ts from e)
    exact ⟨a, vs, h1, .inl h2, h3⟩
  | tup us =>
    cases e
    unfold RT at h
    obtain ⟨a, vs, e, q, r⟩ := h
    exact ⟨a, vs, e, .inr (SqT.msk q), r⟩
  | _ => cases e
theorem RT.int_inv {M : Hp} {ρ : Rho} {i : Int} {v : V} (h : RT K M ρ (.int i) v) : v = .int i := by unfold RT at h; exact h
theorem RT.bl_inv {M : Hp} {ρ : Rho} {b : Bool} {v : V} (h : RT K M ρ (.bl b) v) : v = .bl b := by unfold RT at h; exact h
theorem RT.non_inv {M : Hp} {ρ : Rho} {v : V} (h : RT K M ρ .non v) : v = .non := by unfold RT at h; exact h
theorem RT.int {M : Hp} {ρ : Rho} {i : Int} : RT K M ρ (.int i) (.int i) := by unfold RT; rfl
theorem RT.bl {M : Hp} {ρ : Rho} {i : Bool} : RT K M ρ (.bl i) (.bl i) := by unfold RT; rfl
theorem RT.non {M : Hp} {ρ : Rho} : RT K M ρ .non .non := by unfold RT; rfl
theorem RT.str {M : Hp} {ρ : Rho} {x : Str} : RT K M ρ (.str x) (.str x) := by unfold RT; rfl

/-! ### int operations -/
noncomputable def gI (f : Int → Int → T) : T → T → Sto → Option (T × Sto)
  | .int i, .int j, C => some (f i j, C)
  | _, _, _ => none
noncomputable def gIc (c : Int → Int → Bool) (f : Int → Int → T) : T → T → Sto → Option (T × Sto)
  | .int i, .int j, C => if c i j = true then some (f i j, C) else none
  | _, _, _ => none
theorem o_I {x y : V} {f : Int → Int → T} {g : Int → Int → V} (hfg : ∀ i j M ρ, RT K M ρ (f i j) (g i j)) (h : ∃ t1 t2, trV K σ [t1, t2] [x, y] (gI f t1 t2) H Q) :
    ∃ i j, x = .int i ∧ y = .int j ∧ Q (g i j) H := by
  obtain ⟨t1, t2, H₀, Z, ρ, τ, C, t, C', R, r, e, k⟩ := h
  obtain ⟨_, _, z, r1, r⟩ := r.cons_inv
  cases z
  obtain ⟨_, _, z, r2, r⟩ := r.cons_inv
  cases z
  unfold gI at e
  split at e
  · cases e
    exact ⟨_, _, r1.int_inv, r2.int_inv, k _ H ρ R (hfg _ _ _ _) .refl⟩
  · cases e
theorem o_Ic {x y : V} {c : Int → Int → Bool} {f : Int → Int → T} {g : Int → Int → V} (hfg : ∀ i j M ρ, RT K M ρ (f i j) (g i j)) (h : ∃ t1 t2, trV K σ [t1, t2] [x, y] (gIc c f t1 t2) H Q) :
    ∃ i j, x = .int i ∧ y = .int j ∧ c i j = true ∧ Q (g i j) H := by
  obtain ⟨t1, t2, H₀, Z, ρ, τ, C, t, C', R, r, e, k⟩ := h
  obtain ⟨_, _, z, r1, r⟩ := r.cons_inv
  cases z
  obtain ⟨_, _, z, r2, r⟩ := r.cons_inv
  cases z
  unfold gIc at e
  split at e
  · split at e
    · rename_i hc
      cases e
      exact ⟨_, _, r1.int_inv, r2.int_inv, hc, k _ H ρ R (hfg _ _ _ _) .refl⟩
    · cases e
  · cases e
end
end TL
/-! TreeC -/
set_option linter.all false
namespace TL
open PySem L2

inductive Fl where
  | nx | bk | ct | rt (t : T) | ex (c : String)
noncomputable abbrev FS := TSt → Sto → Option (Fl × TSt × Sto)
noncomputable abbrev XW := String → St → Hp → Prop
noncomputable def EndF (K : PySem.W.Frag) (W : XW) (D : Ends) (Z : Addr → Prop) (ρ : Rho) (fl : Fl) (σ : St) (H : Hp) : Prop := match fl with
  | .nx => D.nx σ H
  | .bk => D.bk σ H
  | .ct => D.ct σ H
  | .rt t => ∀ v, RT K (mask H Z ρ) ρ t v → D.rt v H
  | .ex c => W c σ H
noncomputable def trS (K : PySem.W.Frag) (W : XW) (F : FS) : TS := fun D σ H => ∃ H₀ Z ρ τ C fl τ' C', Rel K H₀ Z ρ τ C σ H ∧ F τ C = some (fl, τ', C') ∧
  ∀ σ' H' ρ', Rel K H₀ Z ρ' τ' C' σ' H' → SStep Z H H' ρ ρ' → EndF K W D Z ρ' fl σ' H'
noncomputable abbrev FG := T → Sto → TSt → Option TSt
noncomputable def trG (K : PySem.W.Frag) (g : FG) : TG := fun v σ H Q => ∃ H₀ Z ρ τ C t τ', Rel K H₀ Z ρ τ C σ H ∧ RT K (mask H Z ρ) ρ t v ∧ g t C τ = some τ' ∧
  ∀ σ', Rel K H₀ Z ρ τ' C σ' H → Q σ' H

noncomputable def fNext : FS := fun τ C => some (.nx, τ, C)
noncomputable def fNever : FS := fun _ _ => none
noncomputable def fSeq (F G : FS) : FS := fun τ C => (F τ C).bind fun r => match r with
  | (.nx, τ1, C1) => G τ1 C1
  | r => some r
noncomputable def fIf (c : FB) (F G : FS) : FS := fun τ C => (c τ C).bind fun p => if p.1 = true then F τ p.2 else G τ p.2
noncomputable def fRet (f : FE) : FS := fun τ C => (f τ C).map fun p => (.rt p.1, τ, p.2)
noncomputable def fRetN : FS := fun τ C => some (.rt .non, τ, C)
noncomputable def fDrop (f : FE) : FS := fun τ C => (f τ C).map fun p => (.nx, τ, p.2)
noncomputable def fAsg (f : FE) (g : FG) : FS := fun τ C => (f τ C).bind fun p => (g p.1 p.2 τ).map fun τ' => (.nx, τ', p.2)
noncomputable def gN (i : Nat) : FG := fun t _ τ => some (τ.set i (some t))
noncomputable def setAll : List Nat → List T → TSt → TSt
  | i :: is, t :: ts, τ => setAll is ts (τ.set i (some t))
  | _, _, τ => τ
noncomputable def gU (is : List Nat) : FG := fun t C τ => (sqT C t).bind fun ts => if ts.length = is.length then some (setAll is ts τ) else none

section
variable {K : PySem.W.Frag} {W : XW} {σ : St} {H : Hp} {D : Ends}
theorem s_next (h : trS K W fNext D σ H) : tNext D σ H := by
  obtain ⟨H₀, Z, ρ, τ, C, fl, τ', C', R, e, k⟩ := h
  cases e
  exact k σ H ρ R .refl
theorem s_never (h : trS K W fNever D σ H) : False := by
  obtain ⟨H₀, Z, ρ, τ, C, fl, τ', C', R, e, k⟩ := h
  cases e
theorem s_seq {F G : FS} (h : trS K W (fSeq F G) D σ H) : tSeq (trS K W F) (trS K W G) D σ H := by
  obtain ⟨H₀, Z, ρ, τ, C, fl, τ', C', R, e, k⟩ := h
  unfold fSeq at e
  obtain ⟨⟨f1, τ1, C1⟩, e1, e⟩ := Option.bind_eq_some_iff.mp e
  refine ⟨H₀, Z, ρ, τ, C, f1, τ1, C1, R, e1, fun σ1 H1 ρ1 R1 s1 => ?_⟩
  cases f1 with
  | nx => exact ⟨H₀, Z, ρ1, τ1, C1, fl, τ', C', R1, e, fun σ2 H2 ρ2 R2 s2 => k σ2 H2 ρ2 R2 (s1.trans s2)⟩
  | bk => cases e; exact k σ1 H1 ρ1 R1 s1
  | ct => cases e; exact k σ1 H1 ρ1 R1 s1
  | rt t => cases e; exact k σ1 H1 ρ1 R1 s1
  | ex c => cases e; exact k σ1 H1 ρ1 R1 s1
theorem s_if {c : FB} {F G : FS} (h : trS K W (fIf c F G) D σ H) : tIfS (trT K c) (trS K W F) (trS K W G) D σ H := by
  obtain ⟨H₀, Z, ρ, τ, C, fl, τ', C', R, e, k⟩ := h
  unfold fIf at e
  obtain ⟨⟨b, C1⟩, e1, e⟩ := Option.bind_eq_some_iff.mp e
  refine ⟨H₀, Z, ρ, τ, C, b, C1, R, e1, fun H1 ρ1 R1 s1 => ?_⟩
  cases b with
  | true =>
    rw [if_pos rfl] at e ⊢
    exact ⟨H₀, Z, ρ1, τ, C1, fl, τ', C', R1, e, fun σ2 H2 ρ2 R2 s2 => k σ2 H2 ρ2 R2 (s1.ss.trans s2)⟩
  | false =>
    rw [if_neg (by simp)] at e ⊢
    exact ⟨H₀, Z, ρ1, τ, C1, fl, τ', C', R1, e, fun σ2 H2 ρ2 R2 s2 => k σ2 H2 ρ2 R2 (s1.ss.trans s2)⟩
theorem s_ret {f : FE} (h : trS K W (fRet f) D σ H) : tRet (trE K f) D σ H := by
  obtain ⟨H₀, Z, ρ, τ, C, fl, τ', C', R, e, k⟩ := h
  unfold fRet at e
  obtain ⟨⟨t, C1⟩, e1, e⟩ := Option.map_eq_some_iff.mp e
  cases e
  exact ⟨H₀, Z, ρ, τ, C, t, _, R, e1, fun v H1 ρ1 R1 h1 s1 => k σ H1 ρ1 R1 s1.ss v h1⟩
theorem s_drop {f : FE} (h : trS K W (fDrop f) D σ H) : tDrop (trE K f) D σ H := by
  obtain ⟨H₀, Z, ρ, τ, C, fl, τ', C', R, e, k⟩ := h
  unfold fDrop at e
  obtain ⟨⟨t, C1⟩, e1, e⟩ := Option.map_eq_some_iff.mp e
  cases e
  exact ⟨H₀, Z, ρ, τ, C, t, _, R, e1, fun v H1 ρ1 R1 h1 s1 => k σ H1 ρ1 R1 s1.ss⟩
theorem s_asg {f : FE} {g : FG} (h : trS K W (fAsg f g) D σ H) : tAsg (trE K f) (trG K g) D σ H := by
  obtain ⟨H₀, Z, ρ, τ, C, fl, τ', C', R, e, k⟩ := h
  unfold fAsg at e
  obtain ⟨⟨t, C1⟩, e1, e⟩ := Option.bind_eq_some_iff.mp e
  obtain ⟨τ1, e2, e⟩ := Option.map_eq_some_iff.mp e
  cases e
  refine ⟨H₀, Z, ρ, τ, C, t, _, R, e1, fun v H1 ρ1 R1 h1 s1 => ?_⟩
  exact ⟨H₀, Z, ρ1, τ, _, t, _, R1, h1, e2, fun σ' R' => k σ' H1 ρ1 R' s1.ss⟩
theorem g_name {i : Nat} {v : V} {Q : St → Hp → Prop} (h : trG K (gN i) v σ H Q) : gName i v σ H Q := by
  obtain ⟨H₀, Z, ρ, τ, C, t, τ', R, r, e, k⟩ := h
  cases e
  exact k _ (R.set r)
theorem Rel.setAll {H₀ : Hp} {Z : Addr → Prop} {ρ : Rho} {C : Sto} : ∀ {is : List Nat} {ts : List T} {vs : List V} {τ : TSt} {σ : St}, Rel K H₀ Z ρ τ C σ H → RTs K (mask H Z ρ) ρ ts vs → ts.length = is.length → ∀ {Q : St → Hp → Prop},
    (∀ σ', Rel K H₀ Z ρ (TL.setAll is ts τ) C σ' H → Q σ' H) → (is.foldr (fun i g => gCons (gName i) g) gNil) vs σ H Q
  | [], [], vs, τ, σ, R, r, _, Q, k => ⟨r.nil_inv, k σ R⟩
  | i :: is, t :: ts, vs, τ, σ, R, r, hl, Q, k => by
    obtain ⟨v, r', rfl, h1, h2⟩ := r.cons_inv
    exact ⟨v, r', rfl, Rel.setAll (is := is) (ts := ts) (R.set h1) h2 (by simpa using hl) k⟩
  | [], t :: ts, _, _, _, _, _, hl, _, _ => by simp at hl
  | i :: is, [], _, _, _, _, _, hl, _, _ => by simp at hl

/-! ### for -/
open Classical in
noncomputable def forGo (P : Sto → Prop) (g : FG) (F : FS) : List T → FS
  | [], τ, C => some (.nx, τ, C)
  | t :: ts, τ, C => (g t C τ).bind fun τ1 => (F τ1 C).bind fun r => match r with
    | (.nx, τ2, C2) => if P C2 then forGo P g F ts τ2 C2 else none
    | (.ct, τ2, C2) => if P C2 then forGo P g F ts τ2 C2 else none
    | (.bk, τ2, C2) => some (.nx, τ2, C2)
    | (.rt v, τ2, C2) => some (.rt v, τ2, C2)
    | (.ex c, τ2, C2) => some (.ex c, τ2, C2)
noncomputable def stays (t : T) (ts : List T) (C : Sto) : Prop := match t with
  | .cell c => C[c]? = some ts
  | _ => True
noncomputable def fFor (f : FE) (g : FG) (F : FS) : FS := fun τ C => (f τ C).bind fun p => (liT p.2 p.1).bind fun ts => forGo (stays p.1 ts) g F ts τ p.2
theorem Rel.same {H₀ : Hp} {Z : Addr → Prop} {ρ : Rho} {τ : TSt} {C : Sto} {H' : Hp} (R : Rel K H₀ Z ρ τ C σ H) (s : Same H H') : Rel K H₀ Z ρ τ C σ H' ∧ Step H H' ρ ρ := by
  have st : Step H H' ρ ρ := ⟨s, [], by simp, by simp⟩
  refine ⟨⟨R.old.trans s, R.frs, R.nd, fun a z q => R.zd a z (s.free q), fun i t e => ?_, fun c a e => ?_, R.len, R.lnt⟩, st⟩
  · obtain ⟨v, h1, h2⟩ := R.loc i t e
    exact ⟨v, h1, h2.step st⟩
  · obtain ⟨ts, vs, h1, h2, h3⟩ := R.cel c a e
    exact ⟨ts, vs, h1, s _ _ h2, h3.step st⟩
structure Wlk (K : PySem.W.Frag) (J : It) (Z : Addr → Prop) (H1 : Hp) (ρ1 : Rho) (ts : List T) (P : Sto → Prop) : Prop where
  go : ∀ (i : Nat) (t : T) (H₀ : Hp) (Z' : Addr → Prop) (ρ' : Rho) (τ : TSt) (C : Sto) (σ : St) (H : Hp), ts[i]? = some t → Rel K H₀ Z' ρ' τ C σ H → Same (mask H1 Z ρ1) (mask H Z' ρ') →
    (∀ (c : Nat) (a : Addr), ρ1[c]? = some a → ρ'[c]? = some a) → (P C ∨ Same H1 H) → J.go i H ∧ ∀ x H', J.yld i H x H' → Same H H' ∧ RT K (mask H' Z' ρ') ρ' t x
  stop : ∀ (H₀ : Hp) (Z' : Addr → Prop) (ρ' : Rho) (τ : TSt) (C : Sto) (σ : St) (H : Hp), Rel K H₀ Z' ρ' τ C σ H → Same (mask H1 Z ρ1) (mask H Z' ρ') →
    (∀ (c : Nat) (a : Addr), ρ1[c]? = some a → ρ'[c]? = some a) → (P C ∨ Same H1 H) → J.stop ts.length H
theorem for_any {J : It} {H₀ : Hp} {Z : Addr → Prop} {ρ : Rho} {τ τ' : TSt} {C C' : Sto} {P : Sto → Prop} {g : FG} {F : FS} {ts : List T} {fl : Fl} {H1 : Hp} {σ1 : St}
    (R : Rel K H₀ Z ρ τ C σ1 H1) (hP : P C) (e : forGo P g F ts τ C = some (fl, τ', C')) (w : Wlk K J Z H1 ρ ts P)
    (k : ∀ σ' H' ρ', Rel K H₀ Z ρ' τ' C' σ' H' → SStep Z H1 H' ρ ρ' → EndF K W D Z ρ' fl σ' H') :
    ∃ V : Nat → Nat → St → Hp → Prop, (∃ m, V 0 m σ1 H1) ∧ ∀ i m σ H, V i m σ H →
      (J.stop i H ∧ D.nx σ H) ∨ (J.go i H ∧ ∃ N : St → Hp → Prop, (∀ σ' H', N σ' H' → ∃ m', m' < m ∧ V (i + 1) m' σ' H') ∧ ∀ x H', J.yld i H x H' → trG K g x σ H' fun σ2 H2 => trS K W F { D with nx := N, ct := N, bk := D.nx } σ2 H2) := by
  refine ⟨fun i m σ H => ∃ ρ' τ1 C1 rest, m = rest.length ∧ ts.drop i = rest ∧ i ≤ ts.length ∧ Rel K H₀ Z ρ' τ1 C1 σ H ∧ SStep Z H1 H ρ ρ' ∧ P C1 ∧ forGo P g F rest τ1 C1 = some (fl, τ', C'),
    ⟨ts.length, ρ, τ, C, ts, rfl, rfl, Nat.zero_le _, R, .refl, hP, e⟩, ?_⟩
  rintro i m σ H ⟨ρ', τ1, C1, rest, rfl, hd, hi, R1, s1, hP1, e1⟩
  cases rest with
  | nil =>
    have hi' : i = ts.length := by
      have : ts.length ≤ i := by simpa using hd
      omega
    subst hi'
    cases e1
    exact .inl ⟨w.stop _ _ _ _ _ _ _ R1 s1.same s1.idx (.inl hP1), k σ H ρ' R1 s1⟩
  | cons t rest =>
    have ht : ts[i]? = some t := by
      have := congrArg (fun l => l[0]?) hd
      simpa using this
    have hlt : i < ts.length := (List.getElem?_eq_some_iff.mp ht).1
    have hd' : ts.drop (i + 1) = rest := by
      have := congrArg List.tail hd
      simpa using this
    obtain ⟨g1, g2⟩ := w.go i t _ _ ρ' τ1 C1 σ H ht R1 s1.same s1.idx (.inl hP1)
    unfold forGo at e1
    obtain ⟨τ2, eg, e1⟩ := Option.bind_eq_some_iff.mp e1
    obtain ⟨⟨f3, τ3, C3⟩, eF, e1⟩ := Option.bind_eq_some_iff.mp e1
    refine .inr ⟨g1, fun σ' H' => ∃ ρ3 τ3 C3, Rel K H₀ Z ρ3 τ3 C3 σ' H' ∧ SStep Z H1 H' ρ ρ3 ∧ P C3 ∧ forGo P g F rest τ3 C3 = some (fl, τ', C'), ?_, ?_⟩
    · rintro σ' H' ⟨ρ3, τ3, C3, R3, s3, hP3, e3⟩
      exact ⟨rest.length, by simp, ρ3, τ3, C3, rest, rfl, hd', hlt, R3, s3, hP3, e3⟩
    · intro x H' y
      obtain ⟨sm, rx⟩ := g2 x H' y
      obtain ⟨R1', st'⟩ := R1.same sm
      refine ⟨H₀, Z, ρ', τ1, C1, t, τ2, R1', rx, eg, fun σ2 R2 => ?_⟩
      refine ⟨H₀, Z, ρ', τ2, C1, f3, τ3, C3, R2, eF, fun σ3 H3 ρ3 R3 s3 => ?_⟩
      have s3' := (s1.trans st'.ss).trans s3
      cases f3 with
      | nx =>
        dsimp only at e1
        split at e1
        · rename_i hP3
          exact ⟨ρ3, τ3, C3, R3, s3', hP3, e1⟩
        · cases e1
      | ct =>
        dsimp only at e1
        split at e1
        · rename_i hP3
          exact ⟨ρ3, τ3, C3, R3, s3', hP3, e1⟩
        · cases e1
      | bk =>
        cases e1
        exact k σ3 H3 ρ3 R3 s3'
      | rt v =>
        cases e1
        exact k σ3 H3 ρ3 R3 s3'
      | ex c =>
        cases e1
        exact k σ3 H3 ρ3 R3 s3'
theorem stays_of {t : T} {ts : List T} {C : Sto} (e : liT C t = some ts) : stays t ts C := by
  cases t with
  | cell c => exact e
  | _ => trivial
theorem wlk_list {Z : Addr → Prop} {H1 : Hp} {ρ1 : Rho} {H₀ : Hp} {τ : TSt} {C : Sto} {σ : St} {t : T} {ts : List T} {a : Addr} (R1 : Rel K H₀ Z ρ1 τ C σ H1) (h1 : RT K (mask H1 Z ρ1) ρ1 t (.ref a)) (e2 : liT C t = some ts) :
    Wlk K (Itl K a) Z H1 ρ1 ts (stays t ts) := by
  have there : ∀ {H₀ : Hp} {Z' : Addr → Prop} {ρ' : Rho} {τ' : TSt} {C' : Sto} {σ : St} {H : Hp}, Rel K H₀ Z' ρ' τ' C' σ H → Same (mask H1 Z ρ1) (mask H Z' ρ') → (∀ (c : Nat) (a : Addr), ρ1[c]? = some a → ρ'[c]? = some a) → (stays t ts C' ∨ Same H1 H) →
      ∃ ws, SqL K H a ws ∧ RTs K (mask H Z' ρ') ρ' ts ws := by
    intro H₀ Z' ρ' τ' C' σ H R' sm ix st'
    rcases st' with st' | st'
    · have h2 := h1.mono sm ix
      have e3 : liT C' t = some ts := by
        cases t with
        | cell c => exact st'
        | lst us => exact e2
        | _ => cases e2
      obtain ⟨a', ws, ev', q', r'⟩ := R'.li h2 e3
      cases ev'
      exact ⟨ws, q', r'⟩
    · obtain ⟨a', ws, ev', q', r'⟩ := R1.li h1 e2
      cases ev'
      exact ⟨ws, st'.seq q', r'.mono sm ix⟩
  refine ⟨fun i t' H₀ Z' ρ' τ' C' σ H ht R' sm ix st' => ?_, fun H₀ Z' ρ' τ' C' σ H R' sm ix st' => ?_⟩
  · obtain ⟨ws, q', r'⟩ := there R' sm ix st'
    obtain ⟨x, hx, rx⟩ := r'.get ht
    refine ⟨⟨ws, x, q', hx⟩, fun y H' ⟨hy, z⟩ => ?_⟩
    subst hy
    have := z ws q'
    rw [hx] at this; cases this
    exact ⟨.refl _, rx⟩
  · obtain ⟨ws, q', r'⟩ := there R' sm ix st'
    exact ⟨ws, q', by rw [r'.length]; exact Nat.le_refl _⟩
noncomputable def rngT (lo : Int) (n : Nat) : List T := (List.range n).map fun (i : Nat) => T.int (lo + (i : Int))
theorem wlk_range {Z : Addr → Prop} {H1 : Hp} {ρ1 : Rho} {lo : Int} {n : Nat} : Wlk K (Itr lo n) Z H1 ρ1 (rngT lo n) (fun _ => True) := by
  refine ⟨fun i t' H₀ Z' ρ' τ' C' σ H ht R' sm ix st' => ?_, fun H₀ Z' ρ' τ' C' σ H R' sm ix st' => ?_⟩
  · unfold rngT at ht
    have hi : i < n := by
      have := (List.getElem?_eq_some_iff.mp ht).1
      simpa using this
    rw [List.getElem?_map, List.getElem?_range hi] at ht
    cases ht
    refine ⟨hi, fun x H' ⟨h1, h2⟩ => ?_⟩
    subst h1
    rw [h2]; exact ⟨.refl _, .int⟩
  · show n ≤ _
    simp [rngT]
theorem s_for {f : FE} {g : FG} {F : FS} (h : trS K W (fFor f g F) D σ H) : tFor (iList K (trE K f)) (trG K g) (trS K W F) D σ H := by
  obtain ⟨H₀, Z, ρ, τ, C, fl, τ', C', R, e, k⟩ := h
  unfold fFor at e
  obtain ⟨⟨t, C1⟩, e1, e⟩ := Option.bind_eq_some_iff.mp e
  obtain ⟨ts, e2, e⟩ := Option.bind_eq_some_iff.mp e
  refine ⟨H₀, Z, ρ, τ, C, t, C1, R, e1, fun v H1 ρ1 R1 h1 s1 => ?_⟩
  obtain ⟨a, vs, ev, q, r⟩ := R1.li h1 e2
  subst ev
  exact ⟨a, rfl, ⟨vs, q⟩, for_any R1 (stays_of e2) e (wlk_list R1 h1 e2) fun σ' H' ρ' R' s' => k σ' H' ρ' R' (s1.ss.trans s')⟩
noncomputable def fForR (lo : Int) (n : Nat) (g : FG) (F : FS) : FS := forGo (fun _ => True) g F (rngT lo n)
noncomputable def fForR1 (f : FE) (g : FG) (F : FS) : FS := fun τ C => (f τ C).bind fun p => match p.1 with
  | .int j => if -(2 ^ 62) ≤ j ∧ j < 2 ^ 62 then fForR 0 j.toNat g F τ p.2 else none
  | _ => none
noncomputable def fForR2 (f1 f2 : FE) (g : FG) (F : FS) : FS := fun τ C => (f1 τ C).bind fun p => (f2 τ p.2).bind fun q => match p.1, q.1 with
  | .int i, .int j => if -(2 ^ 62) ≤ i ∧ i < 2 ^ 62 ∧ -(2 ^ 62) ≤ j ∧ j < 2 ^ 62 then fForR i (j - i).toNat g F τ q.2 else none
  | _, _ => none
theorem s_forR1 {f : FE} {g : FG} {F : FS} (h : trS K W (fForR1 f g F) D σ H) : tFor (iRng1 (trA K (fCons f fNil))) (trG K g) (trS K W F) D σ H := by
  obtain ⟨H₀, Z, ρ, τ, C, fl, τ', C', R, e, k⟩ := h
  unfold fForR1 at e
  obtain ⟨⟨t, C1⟩, e1, e⟩ := Option.bind_eq_some_iff.mp e
  refine ⟨H₀, Z, ρ, τ, C, [t], C1, R, by simp [fCons, fNil, e1], fun vs H1 ρ1 R1 h1 s1 => ?_⟩
  obtain ⟨v, r, rfl, q1, q2⟩ := h1.cons_inv
  rw [q2.nil_inv]
  dsimp only at e
  split at e
  · split at e
    · rename_i hj
      exact ⟨_, by rw [q1.int_inv], hj.1, hj.2, for_any (P := fun _ => True) R1 trivial e wlk_range fun σ' H' ρ' R' s' => k σ' H' ρ' R' (s1.ss.trans s')⟩
    · cases e
  · cases e
theorem s_forR2 {f1 f2 : FE} {g : FG} {F : FS} (h : trS K W (fForR2 f1 f2 g F) D σ H) : tFor (iRng2 (trA K (fCons f1 (fCons f2 fNil)))) (trG K g) (trS K W F) D σ H := by
  obtain ⟨H₀, Z, ρ, τ, C, fl, τ', C', R, e, k⟩ := h
  unfold fForR2 at e
  obtain ⟨⟨t, C1⟩, e1, e⟩ := Option.bind_eq_some_iff.mp e
  obtain ⟨⟨u, C2⟩, e2, e⟩ := Option.bind_eq_some_iff.mp e
  refine ⟨H₀, Z, ρ, τ, C, [t, u], C2, R, by simp [fCons, fNil, e1, e2], fun vs H1 ρ1 R1 h1 s1 => ?_⟩
  obtain ⟨v, r, rfl, q1, q2⟩ := h1.cons_inv
  obtain ⟨v', r', rfl, q3, q4⟩ := q2.cons_inv
  rw [q4.nil_inv]
  dsimp only at e
  split at e
  · split at e
    · rename_i hj
      exact ⟨_, _, by rw [q1.int_inv, q3.int_inv], hj, for_any (P := fun _ => True) R1 trivial e wlk_range fun σ' H' ρ' R' s' => k σ' H' ρ' R' (s1.ss.trans s')⟩
    · cases e
  · cases e

/-! ### while -/
noncomputable def whGo (c : FB) (F : FS) : Nat → FS
  | 0, _, _ => none
  | n + 1, τ, C => (c τ C).bind fun p => if p.1 = true then (F τ p.2).bind fun r => match r with
      | (.nx, τ2, C2) => whGo c F n τ2 C2
      | (.ct, τ2, C2) => whGo c F n τ2 C2
      | (.bk, τ2, C2) => some (.nx, τ2, C2)
      | (.rt v, τ2, C2) => some (.rt v, τ2, C2)
      | (.ex v, τ2, C2) => some (.ex v, τ2, C2)
    else some (.nx, τ, p.2)
theorem s_while {c : FB} {F : FS} {n : Nat} (h : trS K W (whGo c F n) D σ H) : tWhile (trT K c) (trS K W F) D σ H := by
  obtain ⟨H₀, Z, ρ, τ, C, fl, τ', C', R, e, k⟩ := h
  refine ⟨fun m σ1 H1 => ∃ ρ1 τ1 C1, Rel K H₀ Z ρ1 τ1 C1 σ1 H1 ∧ SStep Z H H1 ρ ρ1 ∧ whGo c F m τ1 C1 = some (fl, τ', C'), ⟨n, ρ, τ, C, R, .refl, e⟩, ?_⟩
  rintro m σ1 H1 ⟨ρ1, τ1, C1, R1, s1, e1⟩
  cases m with
  | zero => cases e1
  | succ m =>
    unfold whGo at e1
    obtain ⟨⟨b, C2⟩, e2, e1⟩ := Option.bind_eq_some_iff.mp e1
    refine ⟨H₀, Z, ρ1, τ1, C1, b, C2, R1, e2, fun H2 ρ2 R2 s2 => ?_⟩
    cases b with
    | false =>
      rw [if_neg (by simp)] at e1 ⊢
      cases e1
      exact k σ1 H2 ρ2 R2 (s1.trans s2.ss)
    | true =>
      rw [if_pos rfl] at e1 ⊢
      obtain ⟨⟨f3, τ3, C3⟩, e3, e1⟩ := Option.bind_eq_some_iff.mp e1
      refine ⟨fun σ' H' => ∃ ρ3 τ3 C3, Rel K H₀ Z ρ3 τ3 C3 σ' H' ∧ SStep Z H H' ρ ρ3 ∧ whGo c F m τ3 C3 = some (fl, τ', C'), fun σ' H' z => ⟨m, Nat.lt_succ_self _, z⟩, ?_⟩
      refine ⟨H₀, Z, ρ2, τ1, C2, f3, τ3, C3, R2, e3, fun σ4 H4 ρ4 R4 s4 => ?_⟩
      cases f3 with
      | nx => exact ⟨ρ4, τ3, C3, R4, (s1.trans s2.ss).trans s4, e1⟩
      | ct => exact ⟨ρ4, τ3, C3, R4, (s1.trans s2.ss).trans s4, e1⟩
      | bk => cases e1; exact k σ4 H4 ρ4 R4 ((s1.trans s2.ss).trans s4)
      | rt v => cases e1; exact k σ4 H4 ρ4 R4 ((s1.trans s2.ss).trans s4)
      | ex c => cases e1; exact k σ4 H4 ρ4 R4 ((s1.trans s2.ss).trans s4)
end
end TL
/-! TreeD -/
set_option linter.all false
namespace TL
open PySem L2

section
variable {K : PySem.W.Frag} {σ : St} {H : Hp} {Q : VK}

/-! ### reading lists -/
theorem atI_rt {M : Hp} {ρ : Rho} {ts : List T} {vs : List V} {i : Int} {t : T} (h : RTs K M ρ ts vs) (e : atI ts i = some t) : ∃ v, atI vs i = some v ∧ RT K M ρ t v := by
  unfold atI at e ⊢
  rw [h.length]
  cases q : ixN ts.length i with
  | none => rw [q] at e; cases e
  | some j =>
    rw [q] at e
    exact h.get e
noncomputable def gIx (t1 t2 : T) (C : Sto) : Option (T × Sto) := match t2 with
  | .int i => (sqT C t1).bind fun ts => (atI ts i).map fun t => (t, C)
  | _ => none
theorem o_ix {x y : V} (h : ∃ t1 t2, trV K σ [t1, t2] [x, y] (gIx t1 t2) H Q) : rIx K x y H Q := by
  obtain ⟨t1, t2, H₀, Z, ρ, τ, C, t, C', R, r, e, k⟩ := h
  obtain ⟨_, _, z, r1, r⟩ := r.cons_inv
  cases z
  obtain ⟨_, _, z, r2, r⟩ := r.cons_inv
  cases z
  unfold gIx at e
  split at e
  · obtain ⟨ts, e1, e⟩ := Option.bind_eq_some_iff.mp e
    obtain ⟨u, e2, e⟩ := Option.map_eq_some_iff.mp e
    cases e
    obtain ⟨a, vs, ev, q, rr⟩ := R.sq r1 e1
    obtain ⟨v, h1, h2⟩ := atI_rt rr e2
    have fin := k v H ρ R h2 .refl
    rcases q with q | q
    · exact .inl ⟨a, vs, _, v, ev, r2.int_inv, q, h1, fin⟩
    · exact .inr (.inl ⟨a, vs, _, v, ev, r2.int_inv, q, h1, fin⟩)
  · cases e

/-! ### slices -/
noncomputable abbrev FO := TSt → Sto → Option (Option Int × Sto)
noncomputable def fNoPart : FO := fun _ C => some (none, C)
noncomputable def fPart (f : FE) : FO := fun τ C => (f τ C).bind fun p => match p.1 with
  | .int i => some (some i, p.2)
  | _ => none
noncomputable def trO (K : PySem.W.Frag) (f : FO) : TO := fun σ H Q => ∃ H₀ Z ρ τ C o C', Rel K H₀ Z ρ τ C σ H ∧ f τ C = some (o, C') ∧
  ∀ H' ρ', Rel K H₀ Z ρ' τ C' σ H' → Step H H' ρ ρ' → Q o H'
theorem i_noPart {Q : Option Int → Hp → Prop} (h : trO K fNoPart σ H Q) : tNoPart σ H Q := by
  obtain ⟨H₀, Z, ρ, τ, C, o, C', R, e, k⟩ := h
  cases e
  exact k H ρ R .refl
theorem i_part {f : FE} {Q : Option Int → Hp → Prop} (h : trO K (fPart f) σ H Q) : tPart (trE K f) σ H Q := by
  obtain ⟨H₀, Z, ρ, τ, C, o, C', R, e, k⟩ := h
  unfold fPart at e
  obtain ⟨⟨t, C1⟩, e1, e⟩ := Option.bind_eq_some_iff.mp e
  dsimp only at e
  split at e
  · cases e
    exact ⟨H₀, Z, ρ, τ, C, _, _, R, e1, fun v H1 ρ1 R1 h1 s1 => ⟨_, h1.int_inv, k H1 ρ1 R1 s1⟩⟩
  · cases e
noncomputable def cutT (xs : List T) (lo hi : Option Int) : List T := (xs.drop (HT.sIx xs.length 0 lo)).take (HT.sIx xs.length xs.length hi - HT.sIx xs.length 0 lo)
theorem RTs.cut {M : Hp} {ρ : Rho} {ts : List T} {vs : List V} (h : RTs K M ρ ts vs) (lo hi : Option Int) : RTs K M ρ (cutT ts lo hi) (cutV vs lo hi) := by
  unfold cutT cutV
  rw [h.length]
  exact (h.drop _).take _
noncomputable def fSl (f : FE) (lo hi : FO) : FN := fun τ C => (f τ C).bind fun p => (lo τ p.2).bind fun q => (hi τ q.2).bind fun r => (liT r.2 p.1).map fun ts => (cutT ts q.1 r.1, r.2)
theorem i_sl {f : FE} {lo hi : FO} (h : trN K (fSl f lo hi) σ H Q) : tSl (rSlL K) (trE K f) (trO K lo) (trO K hi) σ H Q := by
  obtain ⟨H₀, Z, ρ, τ, C, ts, C', R, e, k⟩ := h
  unfold fSl at e
  obtain ⟨⟨t, C1⟩, e1, e⟩ := Option.bind_eq_some_iff.mp e
  obtain ⟨⟨l, C2⟩, e2, e⟩ := Option.bind_eq_some_iff.mp e
  obtain ⟨⟨u, C3⟩, e3, e⟩ := Option.bind_eq_some_iff.mp e
  obtain ⟨us, e4, e⟩ := Option.map_eq_some_iff.mp e
  cases e
  refine ⟨H₀, Z, ρ, τ, C, t, C1, R, e1, fun v H1 ρ1 R1 h1 s1 => ?_⟩
  refine ⟨H₀, Z, ρ1, τ, C1, l, C2, R1, e2, fun H2 ρ2 R2 s2 => ?_⟩
  refine ⟨H₀, Z, ρ2, τ, C2, u, _, R2, e3, fun H3 ρ3 R3 s3 => ?_⟩
  obtain ⟨a, vs, ev, q, r⟩ := R3.li ((h1.step s2).step s3) e4
  exact ⟨a, vs, ev, q, fun p hp => k p H3 ρ3 _ R3 hp (r.cut l u) ((s1.trans s2).trans s3)⟩

/-! ### new lists of lists -/
noncomputable def rCatL (K : PySem.W.Frag) : R2 := fun x y H Q => ∃ l b xs zs, x = .ref l ∧ y = .ref b ∧ SqL K H l xs ∧ SqL K H b zs ∧ xs.length + zs.length ≤ lim ∧ ∀ p, H p = none → Q (.ref p) (upd H p (.lst (xs ++ zs)))
noncomputable def gCat (t1 t2 : T) (C : Sto) : Option (List T) := (liT C t1).bind fun ts => (liT C t2).bind fun us => if ts.length + us.length ≤ lim then some (ts ++ us) else none
theorem o_cat {x y : V} (h : ∃ t1 t2, trW K σ [t1, t2] [x, y] (gCat t1 t2) H Q) : rCatL K x y H Q := by
  obtain ⟨t1, t2, H₀, Z, ρ, τ, C, us, R, r, e, k⟩ := h
  obtain ⟨_, _, z, r1, r⟩ := r.cons_inv
  cases z
  obtain ⟨_, _, z, r2, r⟩ := r.cons_inv
  cases z
  unfold gCat at e
  obtain ⟨ts, e1, e⟩ := Option.bind_eq_some_iff.mp e
  obtain ⟨ws, e2, e⟩ := Option.bind_eq_some_iff.mp e
  split at e
  · rename_i hl
    cases e
    obtain ⟨a, vs, ea, qa, ra⟩ := R.li r1 e1
    obtain ⟨b, zs, eb, qb, rb⟩ := R.li r2 e2
    exact ⟨a, b, vs, zs, ea, eb, qa, qb, by rw [ra.length, rb.length]; exact hl, fun p hp => k p H ρ _ R hp (ra.append rb) .refl⟩
  · cases e
noncomputable def fDisp (fa : FN) : FN := fArgN fa fun ts _ => if ts.length ≤ lim then some ts else none
theorem i_disp {fa : FN} (hz : lim ≤ sizeLine) (h : trN K (fDisp fa) σ H Q) : tLst (trA K fa) σ H Q := by
  obtain ⟨H₀, Z, ρ, τ, C, ts, C', R, e, k⟩ := i_argN h
  refine ⟨H₀, Z, ρ, τ, C, ts, C', R, e, fun vs H1 ρ1 R1 h1 s1 => ?_⟩
  obtain ⟨us, H₀', Z', ρ', τ', C1, ws, R', r, e, k⟩ := k vs H1 ρ1 R1 h1 s1
  split at e
  · rename_i hl
    cases e
    exact ⟨by rw [r.length]; exact Nat.le_trans hl hz, fun p hp => k p H1 ρ' _ R' hp r .refl⟩
  · cases e
noncomputable def gList (ts : List T) (C : Sto) : Option (List T) := match ts with
  | [t] => sqT C t
  | _ => none
theorem o_list {xs : List V} (h : ∃ ts, trW K σ ts xs (gList ts) H Q) : ∃ p ys, xs = [.ref p] ∧ (SqL K H p ys ∨ SqT K H p ys) ∧ ∀ l, H l = none → Q (.ref l) (upd H l (.lst ys)) := by
  obtain ⟨ts, H₀, Z, ρ, τ, C, us, R, r, e, k⟩ := h
  unfold gList at e
  split at e
  · obtain ⟨v, _, rfl, r1, r⟩ := r.cons_inv
    rw [r.nil_inv]
    obtain ⟨a, vs, ea, qa, ra⟩ := R.sq r1 e
    exact ⟨a, vs, by rw [ea], qa, fun p hp => k p H ρ _ R hp ra .refl⟩
  · cases e
noncomputable def gLen (ts : List T) (C : Sto) : Option (T × Sto) := match ts with
  | [t] => (sqT C t).map fun us => (.int us.length, C)
  | _ => none
theorem o_len {xs : List V} (h : ∃ ts, trV K σ ts xs (gLen ts) H Q) : ∃ p ys, xs = [.ref p] ∧ (SqL K H p ys ∨ SqT K H p ys) ∧ Q (.int ys.length) H := by
  obtain ⟨ts, H₀, Z, ρ, τ, C, t, C', R, r, e, k⟩ := h
  unfold gLen at e
  split at e
  · obtain ⟨v, _, rfl, r1, r⟩ := r.cons_inv
    rw [r.nil_inv]
    obtain ⟨us, e1, e⟩ := Option.map_eq_some_iff.mp e
    cases e
    obtain ⟨a, vs, ea, qa, ra⟩ := R.sq r1 e1
    exact ⟨a, vs, by rw [ea], qa, k _ H ρ R (by rw [ra.length]; exact .int) .refl⟩
  · cases e
noncomputable def ints? : List T → Option (List Int)
  | [] => some []
  | .int i :: ts => (ints? ts).map (i :: ·)
  | _ :: _ => none
noncomputable def bls? : List T → Option (List Bool)
  | [] => some []
  | .bl i :: ts => (bls? ts).map (i :: ·)
  | _ :: _ => none
theorem ints?_inv {M : Hp} {ρ : Rho} : ∀ {ts : List T} {vs : List V} {ns : List Int}, RTs K M ρ ts vs → ints? ts = some ns → vs = ns.map V.int
  | [], _, _, r, e => by cases e; rw [r.nil_inv]; rfl
  | .int i :: ts, _, _, r, e => by
    obtain ⟨v, vs, rfl, r1, r⟩ := r.cons_inv
    obtain ⟨ns, e1, rfl⟩ := Option.map_eq_some_iff.mp e
    rw [List.map_cons, r1.int_inv, ints?_inv r e1]
  | .non :: _, _, _, _, e => by cases e
  | .bl _ :: _, _, _, _, e => by cases e
  | .str _ :: _, _, _, _, e => by cases e
  | .lst _ :: _, _, _, _, e => by cases e
  | .tup _ :: _, _, _, _, e => by cases e
  | .cell _ :: _, _, _, _, e => by cases e
theorem bls?_inv {M : Hp} {ρ : Rho} : ∀ {ts : List T} {vs : List V} {ns : List Bool}, RTs K M ρ ts vs → bls? ts = some ns → vs = ns.map V.bl
  | [], _, _, r, e => by cases e; rw [r.nil_inv]; rfl
  | .bl i :: ts, _, _, r, e => by
    obtain ⟨v, vs, rfl, r1, r⟩ := r.cons_inv
    obtain ⟨ns, e1, rfl⟩ := Option.map_eq_some_iff.mp e
    rw [List.map_cons, r1.bl_inv, bls?_inv r e1]
  | .non :: _, _, _, _, e => by cases e
  | .int _ :: _, _, _, _, e => by cases e
  | .str _ :: _, _, _, _, e => by cases e
  | .lst _ :: _, _, _, _, e => by cases e
  | .tup _ :: _, _, _, _, e => by cases e
  | .cell _ :: _, _, _, _, e => by cases e
theorem bls?_map (ns : List Bool) : bls? (ns.map T.bl) = some ns := by
  induction ns with
  | nil => rfl
  | cons n ns ih => simp [bls?, ih]
noncomputable def gInts (c : List Int → Bool) (f : List Int → Int) (ts : List T) (C : Sto) : Option (T × Sto) := match ts with
  | [t] => (liT C t).bind fun us => (ints? us).bind fun ns => if c ns = true then some (.int (f ns), C) else none
  | _ => none
noncomputable def gBls (f : List Bool → Bool) (ts : List T) (C : Sto) : Option (T × Sto) := match ts with
  | [t] => (liT C t).bind fun us => (bls? us).map fun ns => (.bl (f ns), C)
  | _ => none
noncomputable def rBls (K : PySem.W.Frag) (f : List Bool → Bool) : List V → Hp → VK → Prop := fun xs H Q => ∃ p ns, xs = [.ref p] ∧ SqL K H p (ns.map V.bl) ∧ Q (.bl (f ns)) H
theorem o_bls {f : List Bool → Bool} {xs : List V} (h : ∃ ts, trV K σ ts xs (gBls f ts) H Q) : rBls K f xs H Q := by
  obtain ⟨ts, H₀, Z, ρ, τ, C, t, C', R, r, e, k⟩ := h
  unfold gBls at e
  split at e
  · obtain ⟨v, _, rfl, r1, r⟩ := r.cons_inv
    rw [r.nil_inv]
    obtain ⟨us, e1, e⟩ := Option.bind_eq_some_iff.mp e
    obtain ⟨ns, e2, e⟩ := Option.map_eq_some_iff.mp e
    cases e
    obtain ⟨a, vs, ea, qa, ra⟩ := R.li r1 e1
    have := bls?_inv ra e2
    subst this
    exact ⟨a, ns, by rw [ea], qa, k _ H ρ R .bl .refl⟩
  · cases e
noncomputable def gI2 (f : Int → Int → Int) (ts : List T) (C : Sto) : Option (T × Sto) := match ts with
  | [.int i, .int j] => some (.int (f i j), C)
  | _ => none
theorem o_I2 {f : Int → Int → Int} {xs : List V} (h : ∃ ts, trV K σ ts xs (gI2 f ts) H Q) : ∃ i j, xs = [.int i, .int j] ∧ Q (.int (f i j)) H := by
  obtain ⟨ts, H₀, Z, ρ, τ, C, t, C', R, r, e, k⟩ := h
  unfold gI2 at e
  split at e
  · obtain ⟨v, _, rfl, r1, r⟩ := r.cons_inv
    obtain ⟨w, _, rfl, r2, r⟩ := r.cons_inv
    rw [r.nil_inv, r1.int_inv, r2.int_inv]
    cases e
    exact ⟨_, _, rfl, k _ H ρ R .int .refl⟩
  · cases e

/-! ### tests, and, or, not -/
noncomputable def truT (C : Sto) : T → Option Bool
  | .non => some false
  | .bl b => some b
  | .int i => some (i != 0)
  | .lst ts => some (!ts.isEmpty)
  | .tup ts => some (!ts.isEmpty)
  | .cell c => (C[c]?).map fun ts => !ts.isEmpty
  | .str _ => none
  | .exc _ => none
noncomputable def fTru (f : FE) : FB := fun τ C => (f τ C).bind fun p => (truT p.2 p.1).map fun b => (b, p.2)
theorem isEmpty_rt {M : Hp} {ρ : Rho} {ts : List T} {vs : List V} (h : RTs K M ρ ts vs) : vs.isEmpty = ts.isEmpty := by
  cases ts with
  | nil => rw [h.nil_inv]; rfl
  | cons t ts => obtain ⟨v, r, rfl, _⟩ := h.cons_inv; rfl
theorem i_tru {f : FE} {Q : Bool → Hp → Prop} (h : trT K (fTru f) σ H Q) : trE K f σ H fun x H1 => ∃ k, TruV K x H1 k ∧ Q k H1 := by
  obtain ⟨H₀, Z, ρ, τ, C, b, C', R, e, k⟩ := h
  unfold fTru at e
  obtain ⟨⟨t, C1⟩, e1, e⟩ := Option.bind_eq_some_iff.mp e
  obtain ⟨b', e2, e⟩ := Option.map_eq_some_iff.mp e
  cases e
  refine ⟨H₀, Z, ρ, τ, C, t, _, R, e1, fun v H1 ρ1 R1 h1 s1 => ⟨b, ?_, k H1 ρ1 R1 s1⟩⟩
  dsimp only at e2 R1
  cases t with
  | non => rw [h1.non_inv]; cases e2; rfl
  | bl c => rw [h1.bl_inv]; cases e2; rfl
  | int i => rw [h1.int_inv]; cases e2; rfl
  | str x => cases e2
  | exc x => cases e2
  | lst ts =>
    obtain ⟨a, vs, ea, qa, ra⟩ := R1.li h1 rfl
    rw [ea]; cases e2
    exact .inl ⟨vs, qa, by rw [isEmpty_rt ra]⟩
  | tup ts =>
    unfold RT at h1
    obtain ⟨a, vs, ea, qa, ra⟩ := h1
    rw [ea]; cases e2
    exact .inr (.inl ⟨vs, SqT.msk qa, by rw [isEmpty_rt ra]⟩)
  | cell c =>
    obtain ⟨ts, e3, e2⟩ := Option.map_eq_some_iff.mp e2
    obtain ⟨a, vs, ea, qa, ra⟩ := R1.li h1 e3
    rw [ea]; cases e2
    exact .inl ⟨vs, qa, by rw [isEmpty_rt ra]⟩
noncomputable def fTst (f : FE) : FB := fun τ C => (f τ C).bind fun p => match p.1 with
  | .bl b => some (b, p.2)
  | _ => none
theorem i_tst {f : FE} {te : TE} {Q : Bool → Hp → Prop} (hi : ∀ σ H Q, trE K f σ H Q → te σ H Q) (h : trT K (fTst f) σ H Q) : tTest te σ H Q := by
  obtain ⟨H₀, Z, ρ, τ, C, b, C', R, e, k⟩ := h
  unfold fTst at e
  obtain ⟨⟨t, C1⟩, e1, e⟩ := Option.bind_eq_some_iff.mp e
  dsimp only at e
  split at e
  · cases e
    exact hi _ _ _ ⟨H₀, Z, ρ, τ, C, _, _, R, e1, fun v H1 ρ1 R1 h1 s1 => ⟨_, h1.bl_inv, k H1 ρ1 R1 s1⟩⟩
  · cases e
noncomputable def fAndT (c d : FB) : FB := fun τ C => (c τ C).bind fun p => if p.1 = true then d τ p.2 else some (false, p.2)
noncomputable def fOrT (c d : FB) : FB := fun τ C => (c τ C).bind fun p => if p.1 = true then some (true, p.2) else d τ p.2
noncomputable def fNotT (c : FB) : FB := fun τ C => (c τ C).map fun p => (!p.1, p.2)
theorem i_andT {c d : FB} {Q : Bool → Hp → Prop} (h : trT K (fAndT c d) σ H Q) : tAnd (trT K c) (trT K d) σ H Q := by
  obtain ⟨H₀, Z, ρ, τ, C, b, C', R, e, k⟩ := h
  unfold fAndT at e
  obtain ⟨⟨b1, C1⟩, e1, e⟩ := Option.bind_eq_some_iff.mp e
  refine ⟨H₀, Z, ρ, τ, C, b1, C1, R, e1, fun H1 ρ1 R1 s1 => ?_⟩
  cases b1 with
  | true =>
    rw [if_pos rfl] at e ⊢
    exact ⟨H₀, Z, ρ1, τ, C1, b, C', R1, e, fun H2 ρ2 R2 s2 => k H2 ρ2 R2 (s1.trans s2)⟩
  | false =>
    rw [if_neg (by simp)] at e ⊢
    cases e
    exact k H1 ρ1 R1 s1
theorem i_orT {c d : FB} {Q : Bool → Hp → Prop} (h : trT K (fOrT c d) σ H Q) : tOr (trT K c) (trT K d) σ H Q := by
  obtain ⟨H₀, Z, ρ, τ, C, b, C', R, e, k⟩ := h
  unfold fOrT at e
  obtain ⟨⟨b1, C1⟩, e1, e⟩ := Option.bind_eq_some_iff.mp e
  refine ⟨H₀, Z, ρ, τ, C, b1, C1, R, e1, fun H1 ρ1 R1 s1 => ?_⟩
  cases b1 with
  | false =>
    rw [if_neg (by simp)] at e ⊢
    exact ⟨H₀, Z, ρ1, τ, C1, b, C', R1, e, fun H2 ρ2 R2 s2 => k H2 ρ2 R2 (s1.trans s2)⟩
  | true =>
    rw [if_pos rfl] at e ⊢
    cases e
    exact k H1 ρ1 R1 s1
theorem i_notT {c : FB} {Q : Bool → Hp → Prop} (h : trT K (fNotT c) σ H Q) : tNot (trT K c) σ H Q := by
  obtain ⟨H₀, Z, ρ, τ, C, b, C', R, e, k⟩ := h
  unfold fNotT at e
  obtain ⟨⟨b1, C1⟩, e1, e⟩ := Option.map_eq_some_iff.mp e
  cases e
  exact ⟨H₀, Z, ρ, τ, C, b1, _, R, e1, fun H1 ρ1 R1 s1 => k H1 ρ1 R1 s1⟩
noncomputable def fAndV (fa fb : FE) : FE := fun τ C => (fa τ C).bind fun p => match p.1 with
  | .bl true => fb τ p.2
  | .bl false => some (.bl false, p.2)
  | _ => none
noncomputable def fOrV (fa fb : FE) : FE := fun τ C => (fa τ C).bind fun p => match p.1 with
  | .bl false => fb τ p.2
  | .bl true => some (.bl true, p.2)
  | _ => none
noncomputable def fNotV (fa : FE) : FE := fun τ C => (fa τ C).bind fun p => match p.1 with
  | .bl b => some (.bl (!b), p.2)
  | _ => none
theorem i_andV {fa fb : FE} (h : trE K (fAndV fa fb) σ H Q) : tAndV (trE K fa) (trE K fb) σ H Q := by
  obtain ⟨H₀, Z, ρ, τ, C, t, C', R, e, k⟩ := h
  unfold fAndV at e
  obtain ⟨⟨t1, C1⟩, e1, e⟩ := Option.bind_eq_some_iff.mp e
  refine ⟨H₀, Z, ρ, τ, C, t1, C1, R, e1, fun v H1 ρ1 R1 h1 s1 => ?_⟩
  dsimp only at e
  split at e
  · refine ⟨true, h1.bl_inv, ?_⟩
    rw [if_pos rfl]
    exact ⟨H₀, Z, ρ1, τ, C1, t, C', R1, e, fun v H2 ρ2 R2 h2 s2 => k v H2 ρ2 R2 h2 (s1.trans s2)⟩
  · refine ⟨false, h1.bl_inv, ?_⟩
    rw [if_neg (by simp)]
    cases e
    exact k _ H1 ρ1 R1 .bl s1
  · cases e
theorem i_notV {fa : FE} (h : trE K (fNotV fa) σ H Q) : tNotV (trE K fa) σ H Q := by
  obtain ⟨H₀, Z, ρ, τ, C, t, C', R, e, k⟩ := h
  unfold fNotV at e
  obtain ⟨⟨t1, C1⟩, e1, e⟩ := Option.bind_eq_some_iff.mp e
  refine ⟨H₀, Z, ρ, τ, C, t1, C1, R, e1, fun v H1 ρ1 R1 h1 s1 => ?_⟩
  dsimp only at e
  split at e
  · cases e
    exact ⟨_, h1.bl_inv, k _ H1 ρ1 R1 .bl s1⟩
  · cases e
noncomputable def fIte (c : FB) (fa fb : FE) : FE := fun τ C => (c τ C).bind fun p => if p.1 = true then fa τ p.2 else fb τ p.2
noncomputable def fChain (fa fb fc : FE) (p q : Int → Int → Bool) : FE := fun τ C => (fa τ C).bind fun x => (fb τ x.2).bind fun y => match x.1, y.1 with
  | .int i, .int j => if p i j = true then (fc τ y.2).bind fun z => match z.1 with
      | .int l => some (.bl (q j l), z.2)
      | _ => none
    else some (.bl false, y.2)
  | _, _ => none
theorem i_chain {fa fb fc : FE} {p q : Int → Int → Bool} (h : trE K (fChain fa fb fc p q) σ H Q) :
    tChain (fun x y H Q => ∃ i j, x = .int i ∧ y = .int j ∧ Q (.bl (p i j)) H) (fun x y H Q => ∃ i j, x = .int i ∧ y = .int j ∧ Q (.bl (q i j)) H) (trE K fa) (trE K fb) (trE K fc) σ H Q := by
  obtain ⟨H₀, Z, ρ, τ, C, t, C', R, e, k⟩ := h
  unfold fChain at e
  obtain ⟨⟨t1, C1⟩, e1, e⟩ := Option.bind_eq_some_iff.mp e
  obtain ⟨⟨t2, C2⟩, e2, e⟩ := Option.bind_eq_some_iff.mp e
  refine ⟨H₀, Z, ρ, τ, C, t1, C1, R, e1, fun x H1 ρ1 R1 h1 s1 => ?_⟩
  refine ⟨H₀, Z, ρ1, τ, C1, t2, C2, R1, e2, fun y H2 ρ2 R2 h2 s2 => ?_⟩
  dsimp only at e
  split at e
  · refine ⟨_, _, h1.int_inv, h2.int_inv, _, rfl, ?_⟩
    split at e
    · rename_i hp
      rw [if_pos hp]
      obtain ⟨⟨t3, C3⟩, e3, e⟩ := Option.bind_eq_some_iff.mp e
      refine ⟨H₀, Z, ρ2, τ, C2, t3, C3, R2, e3, fun z H3 ρ3 R3 h3 s3 => ?_⟩
      dsimp only at e
      split at e
      · cases e
        exact ⟨_, _, h2.int_inv, h3.int_inv, k _ H3 ρ3 R3 .bl ((s1.trans s2).trans s3)⟩
      · cases e
    · rename_i hp
      rw [if_neg hp]
      cases e
      exact k _ H2 ρ2 R2 .bl (s1.trans s2)
  · cases e

/-! ### lists that are changed -/
noncomputable def fSetI (fe fo fi : FE) : FS := fun τ C => (fe τ C).bind fun p => (fo τ p.2).bind fun q => (fi τ q.2).bind fun r => match q.1, r.1 with
  | .cell c, .int i => (r.2[c]?).bind fun ts => (ixN ts.length i).map fun j => (.nx, τ, r.2.set c (ts.set j p.1))
  | _, _ => none
theorem s_setI {fe fo fi : FE} {D : Ends} (h : trS K W (fSetI fe fo fi) D σ H) : tAsg (trE K fe) (gSub (trE K fo) (trE K fi) rSetL) D σ H := by
  obtain ⟨H₀, Z, ρ, τ, C, fl, τ', C', R, e, k⟩ := h
  unfold fSetI at e
  obtain ⟨⟨t1, C1⟩, e1, e⟩ := Option.bind_eq_some_iff.mp e
  obtain ⟨⟨t2, C2⟩, e2, e⟩ := Option.bind_eq_some_iff.mp e
  obtain ⟨⟨t3, C3⟩, e3, e⟩ := Option.bind_eq_some_iff.mp e
  refine ⟨H₀, Z, ρ, τ, C, t1, C1, R, e1, fun x H1 ρ1 R1 h1 s1 => ?_⟩
  refine ⟨H₀, Z, ρ1, τ, C1, t2, C2, R1, e2, fun y H2 ρ2 R2 h2 s2 => ?_⟩
  refine ⟨H₀, Z, ρ2, τ, C2, t3, C3, R2, e3, fun z H3 ρ3 R3 h3 s3 => ?_⟩
  dsimp only at e
  split at e
  · obtain ⟨ts, e4, e⟩ := Option.bind_eq_some_iff.mp e
    obtain ⟨j, e5, e⟩ := Option.map_eq_some_iff.mp e
    cases e
    have h2' := h2.step s3
    unfold RT at h2'
    obtain ⟨a, ea, qa⟩ := h2'
    obtain ⟨us, vs, c1, c2, c3⟩ := R3.cel _ a qa

    rw [e4] at c1; cases c1
    obtain ⟨w1, w2⟩ := R3.write qa (c3.set ((h1.step s2).step s3) j)
    exact ⟨a, vs, _, j, ea, h3.int_inv, c2, by rw [c3.length]; exact e5, k σ _ ρ3 w1 (((s1.trans s2).trans s3).ss.trans w2)⟩
  · cases e
noncomputable def fMut (fo : FE) (fa : FN) (g : List T → List T → Option (List T)) : FS := fun τ C => (fo τ C).bind fun p => (fa τ p.2).bind fun q => match p.1 with
  | .cell c => (q.2[c]?).bind fun ts => (g ts q.1).map fun us => (.nx, τ, q.2.set c us)
  | _ => none
noncomputable def rMut (g : List V → List V → Option (List V)) : V → List V → Hp → VK → Prop := fun x vs H Q => ∃ l xs ys, x = .ref l ∧ H l = some (.lst xs) ∧ g xs vs = some ys ∧ Q .non (upd H l (.lst ys))
theorem s_mut {fo : FE} {fa : FN} {g : List T → List T → Option (List T)} {gv : List V → List V → Option (List V)} {D : Ends}
    (hg : ∀ M ρ ts us ws vs xs, RTs K M ρ ts vs → RTs K M ρ us xs → g ts us = some ws → ∃ ys, gv vs xs = some ys ∧ RTs K M ρ ws ys)
    (h : trS K W (fMut fo fa g) D σ H) : tDrop (tBM K "list" (rMut gv) (trE K fo) (trA K fa)) D σ H := by
  obtain ⟨H₀, Z, ρ, τ, C, fl, τ', C', R, e, k⟩ := h
  unfold fMut at e
  obtain ⟨⟨t1, C1⟩, e1, e⟩ := Option.bind_eq_some_iff.mp e
  obtain ⟨⟨t2, C2⟩, e2, e⟩ := Option.bind_eq_some_iff.mp e
  refine ⟨H₀, Z, ρ, τ, C, t1, C1, R, e1, fun x H1 ρ1 R1 h1 s1 => ?_⟩
  dsimp only at e
  split at e
  · obtain ⟨ts, e4, e⟩ := Option.bind_eq_some_iff.mp e
    obtain ⟨us, e5, e⟩ := Option.map_eq_some_iff.mp e
    cases e
    refine ⟨?_, H₀, Z, ρ1, τ, C1, t2, C2, R1, e2, fun xs H2 ρ2 R2 h2 s2 => ?_⟩
    · have h1' := h1
      unfold RT at h1'
      obtain ⟨a, ea, qa⟩ := h1'
      obtain ⟨us, vs, c1, c2, c3⟩ := R1.cel _ a qa
      rw [ea]
      exact .inl ⟨rfl, vs, .of c2⟩
    · have h1' := h1.step s2
      unfold RT at h1'
      obtain ⟨a, ea, qa⟩ := h1'
      obtain ⟨us', vs, c1, c2, c3⟩ := R2.cel _ a qa

      rw [e4] at c1; cases c1
      obtain ⟨ys, y1, y2⟩ := hg _ _ _ _ _ _ _ c3 h2 e5
      obtain ⟨w1, w2⟩ := R2.write qa y2
      exact ⟨a, vs, ys, ea, c2, y1, k σ _ ρ2 w1 ((s1.trans s2).ss.trans w2)⟩
  · cases e
end
end TL
/-! TreeE -/
set_option linter.all false
namespace TL
open PySem L2

/-! ### trees without cells -/
mutual
noncomputable def CF : T → Bool
  | .cell _ => false
  | .lst ts => CFs ts
  | .tup ts => CFs ts
  | _ => true
noncomputable def CFs : List T → Bool
  | [] => true
  | t :: ts => CF t && CFs ts
end
theorem CFs_iff {ts : List T} : CFs ts = true ↔ ∀ t ∈ ts, CF t = true := by
  induction ts with
  | nil => simp [CFs]
  | cons t ts ih => simp [CFs, ih]
section
variable {K : PySem.W.Frag} {σ : St} {H : Hp} {Q : VK}
mutual
theorem RT.cf {M : Hp} {ρ ρ' : Rho} : ∀ {t : T} {v : V}, CF t = true → RT K M ρ t v → RT K M ρ' t v
  | .non, _, _, h => by unfold RT at *; exact h
  | .bl _, _, _, h => by unfold RT at *; exact h
  | .int _, _, _, h => by unfold RT at *; exact h
  | .str _, _, _, h => by unfold RT at *; exact h
  | .exc _, _, _, h => by unfold RT at *; exact h
  | .lst ts, v, c, h => by
    unfold RT at *
    obtain ⟨a, vs, e, q, r⟩ := h
    exact ⟨a, vs, e, q, RTs.cf (by unfold CF at c; exact c) r⟩
  | .tup ts, v, c, h => by
    unfold RT at *
    obtain ⟨a, vs, e, q, r⟩ := h
    exact ⟨a, vs, e, q, RTs.cf (by unfold CF at c; exact c) r⟩
  | .cell c, _, h, _ => by unfold CF at h; cases h
theorem RTs.cf {M : Hp} {ρ ρ' : Rho} : ∀ {ts : List T} {vs : List V}, CFs ts = true → RTs K M ρ ts vs → RTs K M ρ' ts vs
  | [], _, _, h => by unfold RTs at *; exact h
  | t :: ts, vs, c, h => by
    unfold CFs at c
    rw [Bool.and_eq_true] at c
    unfold RTs at *
    obtain ⟨v, r, e, h1, h2⟩ := h
    exact ⟨v, r, e, RT.cf c.1 h1, RTs.cf c.2 h2⟩
end
noncomputable def mapO (f : T → Option T) : List T → Option (List T)
  | [] => some []
  | t :: ts => (f t).bind fun u => (mapO f ts).map (u :: ·)
noncomputable def dr : Nat → Sto → T → Option T
  | 0, _, t => if CF t = true then some t else none
  | n + 1, C, .cell c => (C[c]?).bind fun ts => (mapO (dr n C) ts).map T.lst
  | n + 1, C, .lst ts => if CFs ts = true then some (.lst ts) else (mapO (dr n C) ts).map T.lst
  | n + 1, C, .tup ts => if CFs ts = true then some (.tup ts) else (mapO (dr n C) ts).map T.tup
  | _ + 1, _, t => if CF t = true then some t else none
theorem mask_less {Z : Addr → Prop} {ρ : Rho} : Same (mask H Z ρ) (mask H Z []) := fun a o h => by
  obtain ⟨h1, h2, h3⟩ := mask_some.mp h
  exact mask_of h1 (by simp) h3
theorem RTs.mapO {M M' : Hp} {ρ ρ' : Rho} {f : T → Option T} (hf : ∀ t v t', RT K M ρ t v → f t = some t' → RT K M' ρ' t' v) : ∀ {ts : List T} {vs : List V} {us : List T}, RTs K M ρ ts vs → TL.mapO f ts = some us → RTs K M' ρ' us vs
  | [], _, _, h, e => by cases e; rw [h.nil_inv]; exact .nil
  | t :: ts, _, us, h, e => by
    obtain ⟨v, r, rfl, h1, h2⟩ := h.cons_inv
    unfold TL.mapO at e
    obtain ⟨u, e1, e⟩ := Option.bind_eq_some_iff.mp e
    obtain ⟨us, e2, rfl⟩ := Option.map_eq_some_iff.mp e
    exact .cons (hf t v u h1 e1) (RTs.mapO hf h2 e2)
theorem Rel.dr {H₀ : Hp} {Z : Addr → Prop} {ρ : Rho} {τ : TSt} {C : Sto} (R : Rel K H₀ Z ρ τ C σ H) : ∀ (n : Nat) (t : T) (v : V) (t' : T), RT K (mask H Z ρ) ρ t v → TL.dr n C t = some t' → RT K (mask H Z []) [] t' v := by
  intro n
  induction n with
  | zero =>
    intro t v t' h e
    unfold TL.dr at e
    split at e
    · rename_i hc
      cases e
      exact (h.cf hc).mono mask_less (fun c a z => z)
    · cases e
  | succ n ih =>
    intro t v t' h e
    by_cases hc : ∃ c, t = .cell c
    · obtain ⟨c, rfl⟩ := hc
      unfold TL.dr at e
      obtain ⟨ts, e1, e⟩ := Option.bind_eq_some_iff.mp e
      obtain ⟨us, e2, rfl⟩ := Option.map_eq_some_iff.mp e
      unfold RT at h
      obtain ⟨a, ea, qa⟩ := h
      obtain ⟨ts', vs, c1, c2, c3⟩ := R.cel c a qa
      rw [e1] at c1; cases c1
      unfold RT
      exact ⟨a, vs, ea, .of (mask_of (R.frs a (List.mem_of_getElem? qa)).2 (by simp) c2), c3.mapO ih e2⟩
    · have fin : CF t = true → t = t' → RT K (mask H Z []) [] t' v := fun hc z => by
        subst z
        exact (h.cf hc).mono mask_less (fun c a z => z)
      have e'' : ∀ {p : Bool} {u : T}, (if p = true then some u else none) = some t' → p = true ∧ u = t' := fun {p u} z => by
        cases p with
        | true => exact ⟨rfl, Option.some.inj z⟩
        | false => cases z
      cases t with
      | cell c => exact absurd ⟨c, rfl⟩ hc
      | lst ts =>
        unfold TL.dr at e
        split at e
        · rename_i hc
          exact fin (by unfold CF; exact hc) (Option.some.inj e)
        · obtain ⟨us, e2, rfl⟩ := Option.map_eq_some_iff.mp e
          unfold RT at h
          obtain ⟨a, vs, ea, qa, ra⟩ := h
          unfold RT
          exact ⟨a, vs, ea, mask_less.seq qa, ra.mapO ih e2⟩
      | tup ts =>
        unfold TL.dr at e
        split at e
        · rename_i hc
          exact fin (by unfold CF; exact hc) (Option.some.inj e)
        · obtain ⟨us, e2, rfl⟩ := Option.map_eq_some_iff.mp e
          unfold RT at h
          obtain ⟨a, vs, ea, qa, ra⟩ := h
          unfold RT
          exact ⟨a, vs, ea, Same.tseq mask_less qa, ra.mapO ih e2⟩
      | non => exact fin (e'' e).1 (e'' e).2
      | bl _ => exact fin (e'' e).1 (e'' e).2
      | int _ => exact fin (e'' e).1 (e'' e).2
      | str _ => exact fin (e'' e).1 (e'' e).2
      | exc _ => exact fin (e'' e).1 (e'' e).2

/-! ### == -/
noncomputable def eqF : T → T → Option Bool
  | .bl a, .bl b => some (a == b)
  | .int a, .int b => some (a == b)
  | .str a, .str b => some (a == b)
  | _, _ => none
noncomputable def eqL (e : T → T → Option Bool) : List T → List T → Option Bool
  | [], [] => some true
  | x :: xs, y :: ys => (e x y).bind fun a => (eqL e xs ys).map fun b => a && b
  | _, _ => none
noncomputable def eqT : Nat → T → T → Option Bool
  | n + 1, .lst xs, .lst ys => if xs.length = ys.length then eqL (eqT n) xs ys else some false
  | _, a, b => eqF a b
noncomputable def rEqT (K : PySem.W.Frag) (neg : Bool) : R2 := fun x y H Q => ∃ t1 t2 b, RT K H [] t1 x ∧ RT K H [] t2 y ∧ eqT 5 t1 t2 = some b ∧ Q (.bl (if neg then !b else b)) H
noncomputable def gEq (neg : Bool) (t1 t2 : T) (C : Sto) : Option (T × Sto) := (dr 3 C t1).bind fun u1 => (dr 3 C t2).bind fun u2 => (eqT 5 u1 u2).map fun b => (.bl (if neg then !b else b), C)
theorem o_eq {neg : Bool} {x y : V} (h : ∃ t1 t2, trV K σ [t1, t2] [x, y] (gEq neg t1 t2) H Q) : rEqT K neg x y H Q := by
  obtain ⟨t1, t2, H₀, Z, ρ, τ, C, t, C', R, r, e, k⟩ := h
  obtain ⟨_, _, z, r1, r⟩ := r.cons_inv
  cases z
  obtain ⟨_, _, z, r2, r⟩ := r.cons_inv
  cases z
  unfold gEq at e
  obtain ⟨u1, e1, e⟩ := Option.bind_eq_some_iff.mp e
  obtain ⟨u2, e2, e⟩ := Option.bind_eq_some_iff.mp e
  obtain ⟨b, e3, e⟩ := Option.map_eq_some_iff.mp e
  cases e
  exact ⟨u1, u2, b, (R.dr _ _ _ _ r1 e1).mono mask_sub (fun c a z => z), (R.dr _ _ _ _ r2 e2).mono mask_sub (fun c a z => z), e3, k _ H ρ R .bl .refl⟩
/-! ### in -/
noncomputable def inL (e : T → Option Bool) : List T → Option Bool
  | [] => some false
  | x :: xs => (e x).bind fun a => (inL e xs).map fun b => a || b
noncomputable def rInT (K : PySem.W.Frag) (neg : Bool) : R2 := fun x y H Q => ∃ t p vs ts b, RT K H [] t x ∧ y = .ref p ∧ SqL K H p vs ∧ RTs K H [] ts vs ∧ inL (fun u => eqT 5 u t) ts = some b ∧ Q (.bl (if neg then !b else b)) H
noncomputable def gIn (neg : Bool) (t1 t2 : T) (C : Sto) : Option (T × Sto) := (dr 3 C t1).bind fun u1 => (liT C t2).bind fun ts => (mapO (dr 3 C) ts).bind fun us => (inL (fun u => eqT 5 u u1) us).map fun b => (.bl (if neg then !b else b), C)
theorem o_in {neg : Bool} {x y : V} (h : ∃ t1 t2, trV K σ [t1, t2] [x, y] (gIn neg t1 t2) H Q) : rInT K neg x y H Q := by
  obtain ⟨t1, t2, H₀, Z, ρ, τ, C, t, C', R, r, e, k⟩ := h
  obtain ⟨_, _, z, r1, r⟩ := r.cons_inv
  cases z
  obtain ⟨_, _, z, r2, r⟩ := r.cons_inv
  cases z
  unfold gIn at e
  obtain ⟨u1, e1, e⟩ := Option.bind_eq_some_iff.mp e
  obtain ⟨ts, e2, e⟩ := Option.bind_eq_some_iff.mp e
  obtain ⟨us, e4, e⟩ := Option.bind_eq_some_iff.mp e
  obtain ⟨b, e3, e⟩ := Option.map_eq_some_iff.mp e
  cases e
  obtain ⟨a, vs, ea, qa, ra⟩ := R.li r2 e2
  exact ⟨u1, a, vs, us, b, (R.dr _ _ _ _ r1 e1).mono mask_sub (fun c a z => z), ea, qa, ra.mapO (fun t v t' h e => (R.dr _ _ _ _ h e).mono mask_sub (fun c a z => z)) e4, e3, k _ H ρ R .bl .refl⟩

/-! ### calls of defs -/
noncomputable def spT (K : PySem.W.Frag) (n : Nat) (F : List T → Option T) : Sp := fun vs H Q _ => ∃ Z ts t, ts.length = n ∧ (∀ a, Z a → H a ≠ none) ∧ RTs K (mask H Z []) [] ts vs ∧ F ts = some t ∧
  ∀ v H', Same H H' → RT K (mask H' Z []) [] t v → Q v H'
theorem spT_len {n : Nat} {F : List T → Option T} : ∀ vs H Q E, spT K n F vs H Q E → vs.length = n := fun vs H Q E ⟨Z, ts, t, h, _, r, _⟩ => by rw [r.length, h]
noncomputable def sca : T → Bool
  | .non => true
  | .bl _ => true
  | .int _ => true
  | .str _ => true
  | _ => false
theorem RT.sca {M M' : Hp} {ρ ρ' : Rho} {t : T} {v : V} (hs : TL.sca t = true) (h : RT K M ρ t v) : RT K M' ρ' t v := by
  cases t with
  | non => unfold RT at *; exact h
  | bl _ => unfold RT at *; exact h
  | int _ => unfold RT at *; exact h
  | str _ => unfold RT at *; exact h
  | _ => cases hs
theorem RTs.sca {M M' : Hp} {ρ ρ' : Rho} : ∀ {ts : List T} {vs : List V}, ts.all TL.sca = true → RTs K M ρ ts vs → RTs K M' ρ' ts vs
  | [], _, _, h => by rw [h.nil_inv]; exact .nil
  | t :: ts, _, hs, h => by
    obtain ⟨v, r, rfl, h1, h2⟩ := h.cons_inv
    rw [List.all_cons, Bool.and_eq_true] at hs
    exact .cons (h1.sca hs.1) (h2.sca hs.2)
noncomputable def gCall (n : Nat) (F : List T → Option T) (ts : List T) (C : Sto) : Option (T × Sto) := if ts.length = n then
    if CFs ts = true then (F ts).map fun t => (t, C)
    else (mapO (dr 3 C) ts).bind fun us => (F us).bind fun t => if sca t = true then some (t, C) else none
  else none
theorem mask_in {Z : Addr → Prop} {ρ : Rho} : mask H (fun a => Z a ∨ a ∈ ρ) [] = mask H Z ρ := by
  funext a
  unfold mask
  by_cases h : Z a ∨ a ∈ ρ
  · rw [if_pos (.inl h), if_pos h]
  · rw [if_neg (by rintro (z | z); · exact h z
                   · cases z), if_neg h]
theorem mapO_len {f : T → Option T} : ∀ {ts us : List T}, mapO f ts = some us → us.length = ts.length
  | [], _, e => by cases e; rfl
  | t :: ts, us, e => by
    unfold mapO at e
    obtain ⟨u, e1, e⟩ := Option.bind_eq_some_iff.mp e
    obtain ⟨us, e2, rfl⟩ := Option.map_eq_some_iff.mp e
    simp [mapO_len e2]
theorem Rel.cel_some {H₀ : Hp} {Z : Addr → Prop} {ρ : Rho} {τ : TSt} {C : Sto} (R : Rel K H₀ Z ρ τ C σ H) {a : Addr} (ha : a ∈ ρ) : H a ≠ none := fun z => by
  obtain ⟨c, hc⟩ := List.mem_iff_getElem?.mp ha
  obtain ⟨_, _, _, h, _⟩ := R.cel c a hc
  rw [z] at h; cases h
theorem o_call {n : Nat} {F : List T → Option T} {vs : List V} {E : XK} (h : ∃ ts, trV K σ ts vs (gCall n F ts) H Q) : spT K n F vs H Q E := by
  obtain ⟨ts, H₀, Z, ρ, τ, C, t, C', R, r, e, k⟩ := h
  unfold gCall at e
  split at e
  · rename_i hn
    split at e
    · rename_i hc
      obtain ⟨u, e1, e⟩ := Option.map_eq_some_iff.mp e
      cases e
      refine ⟨fun a => Z a ∨ a ∈ ρ, ts, _, hn, fun a z => ?_, by rw [mask_in]; exact r.cf hc, e1, fun v H' sm rv => ?_⟩
      · rcases z with z | z
        · exact R.zd a z
        · exact R.cel_some z
      · obtain ⟨R', st⟩ := R.same sm
        rw [mask_in] at rv
        exact k v H' ρ R' (rv.mono (.refl _) (fun c a z => by cases z)) st
    · obtain ⟨us, e1, e⟩ := Option.bind_eq_some_iff.mp e
      obtain ⟨u, e2, e⟩ := Option.bind_eq_some_iff.mp e
      split at e
      · rename_i hs
        cases e
        refine ⟨Z, us, _, (mapO_len e1).trans hn, R.zd, r.mapO (fun t v t' h e => R.dr _ _ _ _ h e) e1, e2, fun v H' sm rv => ?_⟩
        obtain ⟨R', st⟩ := R.same sm
        exact k v H' ρ R' (rv.sca hs) st
      · cases e
  · cases e
/-! ### a def's body -/
noncomputable def st0 (m : Nat) (ts : List T) : TSt := ts.map some ++ List.replicate (m - ts.length) none
theorem Rel.start {Z : Addr → Prop} {ts : List T} {vs : List V} {m : Nat} (hz : ∀ a, Z a → H a ≠ none) (h : RTs K (mask H Z []) [] ts vs) :
    Rel K H Z [] (st0 m ts) [] (vs.map some ++ List.replicate (m - vs.length) none) H := by
  refine ⟨.refl _, (fun a ha => nomatch ha), List.nodup_nil, hz, fun i t e => ?_, (fun c a e => nomatch e), rfl, by simp [st0, h.length]⟩
  unfold st0 at e
  have hi : i < ts.length := by
    by_cases hi : i < ts.length
    · exact hi
    · rw [List.getElem?_append_right (by simpa using hi), List.getElem?_replicate] at e
      split at e <;> cases e
  rw [List.getElem?_append_left (by simpa using hi), List.getElem?_map] at e
  cases q : ts[i]? with
  | none => rw [q] at e; cases e
  | some u =>
    rw [q] at e; cases e
    obtain ⟨v, h1, h2⟩ := h.get q
    refine ⟨v, ?_, h2⟩
    rw [List.getElem?_append_left (by simpa [h.length] using hi), List.getElem?_map, h1]
    rfl
noncomputable def EndT (t : T) : Fl × TSt × Sto → Prop
  | (.rt r, _, C) => dr 3 C r = some t
  | (.nx, _, _) => t = .non
  | _ => False
theorem body_T {n m : Nat} {G : List T → Option T} {F : FS} {vs : List V} {E : XK} (hG : ∀ ts t, ts.length = n → G ts = some t → ∃ r, F (st0 m ts) [] = some r ∧ EndT t r) (h : spT K n G vs H Q E) :
    trS K W F { nx := fun _ H' => Q .non H', rt := Q } (vs.map some ++ List.replicate (m - vs.length) none) H := by
  obtain ⟨Z, ts, t, hn, hz, r, e, k⟩ := h
  obtain ⟨⟨fl, τ', C'⟩, e1, e2⟩ := hG ts t hn e
  refine ⟨H, Z, [], st0 m ts, [], fl, τ', C', Rel.start hz r, e1, fun σ' H' ρ' R' _ => ?_⟩
  cases fl with
  | nx =>
    have : t = .non := e2
    subst this
    exact k .non H' R'.old .non
  | bk => exact False.elim e2
  | ct => exact False.elim e2
  | rt u => exact fun v hv => k v H' R'.old (R'.dr _ _ _ _ hv e2)
  | ex c => exact False.elim e2
/-! ### comprehensions -/
noncomputable def tComp (wi : TI) (sc : St → St) (g : TG) (tc : TT) (te : TE) : TE := fun σ H Q => wi σ H fun J H1 => ∀ D, H1 D = none → ∃ W : Nat → Nat → St → Hp → Prop, (∃ m, W 0 m (sc σ) (upd H1 D (.lst []))) ∧ ∀ i m σc H, W i m σc H →
  (J.stop i H ∧ Q (.ref D) H) ∨ (J.go i H ∧ ∀ x H', J.yld i H x H' → g x σc H' fun σ2 H2 => tc σ2 H2 fun b H3 =>
    if b = true then te σ2 H3 fun y H4 => ∃ ys m', H4 D = some (.lst ys) ∧ ys.length < lim ∧ m' < m ∧ W (i + 1) m' σ2 (upd H4 D (.lst (ys ++ [y]))) else ∃ m', m' < m ∧ W (i + 1) m' σ2 H3)
noncomputable def compGo (g : FG) (tc : FB) (fe : FE) (τ : TSt) : List T → Sto → Option (List T × Sto)
  | [], C => some ([], C)
  | t :: ts, C => (g t C τ).bind fun τ1 => (tc τ1 C).bind fun b => if b.1 = true then (fe τ1 b.2).bind fun y => (compGo g tc fe τ ts y.2).map fun r => (y.1 :: r.1, r.2) else compGo g tc fe τ ts b.2
noncomputable def scT (k : Nat) (is : List Nat) (τ : TSt) : TSt := List.replicate k none ++ is.map fun i => (τ[i]?).getD none
noncomputable def scV (k : Nat) (is : List Nat) (σ : St) : St := List.replicate k none ++ is.map fun i => (σ[i]?).getD none
noncomputable def Own (k : Nat) (g : FG) : Prop := ∀ t C τ τ1, g t C τ = some τ1 → τ1.length = τ.length ∧ ∀ j, k ≤ j → τ1[j]? = τ[j]?
theorem Rel.writeZ {H₀ : Hp} {Z : Addr → Prop} {ρ : Rho} {τ : TSt} {C : Sto} {D : Addr} {o : HO} (R : Rel K H₀ Z ρ τ C σ H) (hz : Z D) (h0 : H₀ D = none) : Rel K H₀ Z ρ τ C σ (upd H D o) ∧ mask (upd H D o) Z ρ = mask H Z ρ := by
  have em : mask (upd H D o) Z ρ = mask H Z ρ := by
    funext b
    unfold mask
    split
    · rfl
    · rename_i q
      rw [upd_ne (by rintro rfl; exact q (.inl hz))]
  refine ⟨⟨fun b u q => ?_, R.frs, R.nd, fun b z q => ?_, fun i t e => ?_, fun d b e => ?_, R.len, R.lnt⟩, em⟩
  · rw [upd_ne (by rintro rfl; rw [h0] at q; cases q)]
    exact R.old b u q
  · by_cases hb : b = D
    · subst hb; rw [upd_same] at q; cases q
    · rw [upd_ne hb] at q; exact R.zd b z q
  · rw [em]; exact R.loc i t e
  · rw [em]
    obtain ⟨us, ws, h1, h2, h3⟩ := R.cel d b e
    refine ⟨us, ws, h1, ?_, h3⟩
    rw [upd_ne]
    · exact h2
    · rintro rfl
      exact (R.frs b (List.mem_of_getElem? e)).2 hz
theorem scT_weak {k : Nat} {is : List Nat} {τ τ1 : TSt} (hl : τ1.length = (scT k is τ).length) (h : ∀ j, k ≤ j → τ1[j]? = (scT k is τ)[j]?) : ∀ (i : Nat) t, (scT k is τ)[i]? = some (some t) → τ1[i]? = some (some t) := fun i t e => by
  by_cases hi : i < k
  · unfold scT at e
    rw [List.getElem?_append_left (by simpa using hi), List.getElem?_replicate, if_pos hi] at e
    cases e
  · rw [h i (by omega)]; exact e
theorem comp_any {J : It} {H₀ : Hp} {Z : Addr → Prop} {ρ : Rho} {τ : TSt} {C C' : Sto} {P : Sto → Prop} {g : FG} {tc : FB} {fe : FE} {k : Nat} {is : List Nat} {ts ys : List T} {H1 : Hp} {D : Addr}
    (R : Rel K H₀ Z ρ τ C σ H1) (hg : Own k g) (w : Wlk K J Z H1 ρ ts P) (hl : ts.length < lim) (e : compGo g tc fe (scT k is τ) ts C = some (ys, C')) (hD : H1 D = none)
    (q : ∀ p H' ρ' vs, Rel K H₀ Z ρ' τ C' σ H' → H' p = none → RTs K (mask H' Z ρ') ρ' ys vs → Step H1 H' ρ ρ' → Q (.ref p) (upd H' p (.lst vs))) :
    ∃ W : Nat → Nat → St → Hp → Prop, (∃ m, W 0 m (scV k is σ) (upd H1 D (.lst []))) ∧ ∀ i m σc H, W i m σc H →
      (J.stop i H ∧ Q (.ref D) H) ∨ (J.go i H ∧ ∀ x H', J.yld i H x H' → trG K g x σc H' fun σ2 H2 => trT K tc σ2 H2 fun b H3 =>
        if b = true then trE K fe σ2 H3 fun y H4 => ∃ ys m', H4 D = some (.lst ys) ∧ ys.length < lim ∧ m' < m ∧ W (i + 1) m' σ2 (upd H4 D (.lst (ys ++ [y]))) else ∃ m', m' < m ∧ W (i + 1) m' σ2 H3) := by
  obtain ⟨nz, nr, n0⟩ := R.fresh_not hD
  have hZD : ∀ a, Z a → a ≠ D := fun a z h => by subst h; exact nz z
  refine ⟨fun i m σc H => ∃ ρ' C1 done rest vs, m = rest.length ∧ ts.drop i = rest ∧ i ≤ ts.length ∧ done.length ≤ i ∧ Rel K H₀ (fun a => Z a ∨ a = D) ρ' (scT k is τ) C1 σc H ∧ H D = some (.lst vs) ∧
    RTs K (mask H (fun a => Z a ∨ a = D) ρ') ρ' done vs ∧ Same H1 H ∧ (∃ f, ρ' = ρ ++ f ∧ ∀ a ∈ f, H1 a = none) ∧ ∃ yr, compGo g tc fe (scT k is τ) rest C1 = some (yr, C') ∧ ys = done ++ yr, ?_, ?_⟩
  · refine ⟨ts.length, ρ, C, [], ts, [], rfl, rfl, Nat.zero_le _, Nat.le_refl _, ?_, upd_same, .nil, ?_, ⟨[], by simp, by simp⟩, ys, e, rfl⟩
    · have sm : Same (mask H1 Z ρ) (mask (upd H1 D (.lst [])) (fun a => Z a ∨ a = D) ρ) := fun a o z => by
        obtain ⟨h1, h2, h3⟩ := mask_some.mp z
        have ne : a ≠ D := fun z => by rw [z, hD] at h3; cases h3
        exact mask_of (by rintro (z | z); · exact h1 z
                          · exact ne z) h2 (by rw [upd_ne ne]; exact h3)
      refine ⟨fun b o z => ?_, fun a ha => ⟨(R.frs a ha).1, ?_⟩, R.nd, fun a z h => ?_, fun i t z => ?_, fun c a z => ?_, R.len, by simp [scT, scV]⟩
      · rw [upd_ne (by rintro rfl; rw [n0] at z; cases z)]
        exact R.old b o z
      · rintro (z | z)
        · exact (R.frs a ha).2 z
        · subst z; exact nr ha
      · by_cases ha : a = D
        · subst ha; rw [upd_same] at h; cases h
        · rw [upd_ne ha] at h
          rcases z with z | z
          · exact R.zd a z h
          · exact ha z
      · unfold scT at z
        by_cases hi : i < k
        · rw [List.getElem?_append_left (by simpa using hi), List.getElem?_replicate, if_pos hi] at z
          cases z
        · rw [List.getElem?_append_right (by simpa using Nat.le_of_not_lt hi), List.getElem?_map] at z
          obtain ⟨j, hj, z⟩ := Option.map_eq_some_iff.mp z
          have hτ : τ[j]? = some (some t) := by
            cases q : τ[j]? with
            | none => rw [q] at z; cases z
            | some u => rw [q] at z; exact congrArg some z
          obtain ⟨v, h1, h2⟩ := R.loc j t hτ
          refine ⟨v, ?_, h2.mono sm (fun c a z => z)⟩
          unfold scV
          rw [List.getElem?_append_right (by simpa using Nat.le_of_not_lt hi), List.getElem?_map]
          simp only [List.length_replicate] at hj ⊢
          rw [hj]
          simp [h1]
      · obtain ⟨us, vs, h1, h2, h3⟩ := R.cel c a z
        refine ⟨us, vs, h1, ?_, h3.mono sm (fun c a z => z)⟩
        rw [upd_ne (by rintro rfl; rw [hD] at h2; cases h2)]
        exact h2
    · intro b o z
      rw [upd_ne (by rintro rfl; rw [hD] at z; cases z)]
      exact z
  · rintro i m σc H ⟨ρ', C1, done, rest, vs, rfl, hd, hi, hdl, R1, hDv, rd, sm1, ⟨f, hf, hfn⟩, yr, e1, hys⟩
    have ix : ∀ (c : Nat) (a : Addr), ρ[c]? = some a → ρ'[c]? = some a := fun c a h => by rw [hf]; exact get_pre h
    have smm : Same (mask H1 Z ρ) (mask H (fun a => Z a ∨ a = D) ρ') := fun a o z => by
      obtain ⟨h1, h2, h3⟩ := mask_some.mp z
      have ne : a ≠ D := fun z => by rw [z, hD] at h3; cases h3
      refine mask_of (by rintro (z | z); · exact h1 z
                         · exact ne z) (fun z => ?_) (sm1 a o h3)
      rw [hf] at z
      rcases List.mem_append.mp z with z | z
      · exact h2 z
      · rw [hfn a z] at h3; cases h3
    cases rest with
    | nil =>
      have hi' : i = ts.length := by
        have : ts.length ≤ i := by simpa using hd
        omega
      subst hi'
      cases e1
      refine .inl ⟨w.stop _ _ _ _ _ _ _ R1 smm ix (.inr sm1), ?_⟩
      -- the heap without the list
      have hm : mask (fun b => if b = D then none else H b) Z ρ' = mask H (fun a => Z a ∨ a = D) ρ' := by
        funext a
        unfold mask
        by_cases ha : a = D
        · subst ha
          rw [if_pos (show (Z a ∨ a = a) ∨ a ∈ ρ' from .inl (.inr rfl))]
          split
          · rfl
          · exact if_pos rfl
        · by_cases hz : Z a ∨ a ∈ ρ'
          · rw [if_pos hz, if_pos (by rcases hz with z | z; · exact .inl (.inl z)
                                      · exact .inr z)]
          · rw [if_neg hz, if_neg (by rintro ((z | z) | z); · exact hz (.inl z)
                                      · exact ha z
                                      · exact hz (.inr z))]
            exact if_neg ha
      have hu : upd (fun b => if b = D then none else H b) D (.lst vs) = H := by
        funext b
        unfold upd
        by_cases hb : b = D
        · subst hb; rw [if_pos rfl, hDv]
        · rw [if_neg hb]; exact if_neg hb
      have hs : Same H1 (fun b => if b = D then none else H b) := fun b o z => by
        show (if b = D then none else H b) = some o
        rw [if_neg (by rintro rfl; rw [hD] at z; cases z)]
        exact sm1 b o z
      have st : Step H1 (fun b => if b = D then none else H b) ρ ρ' := ⟨hs, f, hf, hfn⟩
      have R2 : Rel K H₀ Z ρ' τ C' σ (fun b => if b = D then none else H b) := by
        refine ⟨R.old.trans hs, fun a ha => ⟨(R1.frs a ha).1, fun z => (R1.frs a ha).2 (.inl z)⟩, R1.nd, fun a z h => R.zd a z (hs.free h), fun j t z => ?_, fun c a z => ?_, R1.len, R.lnt⟩
        · obtain ⟨v, h1, h2⟩ := R.loc j t z
          exact ⟨v, h1, h2.step st⟩
        · obtain ⟨us, ws, h1, h2, h3⟩ := R1.cel c a z
          refine ⟨us, ws, h1, ?_, by rw [hm]; exact h3⟩
          show (if a = D then none else H a) = _
          rw [if_neg (fun z' => (R1.frs a (List.mem_of_getElem? z)).2 (.inr z'))]
          exact h2
      have fin := q D (fun b => if b = D then none else H b) ρ' vs R2 (if_pos rfl) (by rw [hm, hys, List.append_nil]; exact rd) st
      rw [hu] at fin
      exact fin
    | cons t rest =>
      have ht : ts[i]? = some t := by
        have := congrArg (fun l => l[0]?) hd
        simpa using this
      have hlt : i < ts.length := (List.getElem?_eq_some_iff.mp ht).1
      have hd' : ts.drop (i + 1) = rest := by
        have := congrArg List.tail hd
        simpa using this
      obtain ⟨g1, g2⟩ := w.go i t _ _ ρ' _ C1 σc H ht R1 smm ix (.inr sm1)
      refine .inr ⟨g1, fun x H' hy => ?_⟩
      obtain ⟨smy, rx⟩ := g2 x H' hy
      obtain ⟨R1', st'⟩ := R1.same smy
      unfold compGo at e1
      obtain ⟨τ1, eg, e1⟩ := Option.bind_eq_some_iff.mp e1
      obtain ⟨⟨b, C2⟩, et, e1⟩ := Option.bind_eq_some_iff.mp e1
      obtain ⟨o1, o2⟩ := hg _ _ _ _ eg
      refine ⟨_, _, ρ', _, C1, t, τ1, R1', rx, eg, fun σ2 R2 => ?_⟩
      refine ⟨_, _, ρ', τ1, C1, b, C2, R2, et, fun H3 ρ3 R3 s3 => ?_⟩
      have s13 := st'.trans s3
      obtain ⟨f3, hf3, hfn3⟩ := s13.pre
      have pre3 : ∃ f, ρ3 = ρ ++ f ∧ ∀ a ∈ f, H1 a = none := ⟨f ++ f3, by rw [hf3, hf, List.append_assoc], fun a ha => by
        rcases List.mem_append.mp ha with ha | ha
        · exact hfn a ha
        · exact sm1.free (hfn3 a ha)⟩
      cases b with
      | false =>
        rw [if_neg (by simp)] at e1
        dsimp only
        rw [if_neg (by simp)]
        exact ⟨rest.length, by simp, ρ3, C2, done, rest, vs, rfl, hd', hlt, Nat.le_succ_of_le hdl, R3.weak (by rw [o1]) (scT_weak o1 o2), s13.same _ _ hDv, rd.step s13, sm1.trans s13.same, pre3, yr, e1, hys⟩
      | true =>
        rw [if_pos rfl] at e1
        dsimp only
        rw [if_pos rfl]
        obtain ⟨⟨ty, C3⟩, ee, e1⟩ := Option.bind_eq_some_iff.mp e1
        obtain ⟨⟨yr', C4⟩, e3, e2⟩ := Option.map_eq_some_iff.mp e1
        cases e2
        refine ⟨_, _, ρ3, τ1, C2, ty, C3, R3, ee, fun y H4 ρ4 R4 hy4 s4 => ?_⟩
        have s14 := s13.trans s4
        obtain ⟨f4, hf4, hfn4⟩ := s14.pre
        have pre4 : ∃ f, ρ4 = ρ ++ f ∧ ∀ a ∈ f, H1 a = none := ⟨f ++ f4, by rw [hf4, hf, List.append_assoc], fun a ha => by
          rcases List.mem_append.mp ha with ha | ha
          · exact hfn a ha
          · exact sm1.free (hfn4 a ha)⟩
        have rd4 := rd.step s14
        obtain ⟨R5, em⟩ := R4.writeZ (D := D) (o := .lst (vs ++ [y])) (.inr rfl) n0
        refine ⟨vs, rest.length, s14.same _ _ hDv, by rw [rd.length]; omega, by simp, ρ4, C3, done ++ [ty], rest, vs ++ [y], rfl, hd', hlt, by simp; omega, R5.weak (by rw [o1]) (scT_weak o1 o2), upd_same, ?_, ?_, pre4, yr', e3, by rw [hys]; simp⟩
        · rw [em]
          exact rd4.append (.cons hy4 .nil)
        · intro b o z
          rw [upd_ne (by rintro rfl; rw [hD] at z; cases z)]
          exact (sm1.trans s14.same) b o z
noncomputable def fComp (f : FE) (k : Nat) (is : List Nat) (g : FG) (tc : FB) (fe : FE) : FN := fun τ C => (f τ C).bind fun p => (liT p.2 p.1).bind fun ts => if ts.length < lim then compGo g tc fe (scT k is τ) ts p.2 else none
theorem i_comp {f : FE} {k : Nat} {is : List Nat} {g : FG} {tc : FB} {fe : FE} (hg : Own k g) (h : trN K (fComp f k is g tc fe) σ H Q) : tComp (iList K (trE K f)) (scV k is) (trG K g) (trT K tc) (trE K fe) σ H Q := by
  obtain ⟨H₀, Z, ρ, τ, C, ys, C', R, e, q⟩ := h
  unfold fComp at e
  obtain ⟨⟨t, C1⟩, e1, e⟩ := Option.bind_eq_some_iff.mp e
  obtain ⟨ts, e2, e⟩ := Option.bind_eq_some_iff.mp e
  split at e
  · rename_i hl
    refine ⟨H₀, Z, ρ, τ, C, t, C1, R, e1, fun v H1 ρ1 R1 h1 s1 => ?_⟩
    obtain ⟨a, vs, ev, qa, r⟩ := R1.li h1 e2
    subst ev
    exact ⟨a, rfl, ⟨vs, qa⟩, fun D hD => comp_any R1 hg (wlk_list R1 h1 e2) hl e hD fun p H' ρ' vs R' hp rv s' => q p H' ρ' vs R' hp rv (s1.trans s')⟩
  · cases e
noncomputable def fCompR1 (f : FE) (k : Nat) (is : List Nat) (g : FG) (tc : FB) (fe : FE) : FN := fun τ C => (f τ C).bind fun p => match p.1 with
  | .int j => if j < 50000 ∧ -(2 ^ 62) ≤ j then compGo g tc fe (scT k is τ) (rngT 0 j.toNat) p.2 else none
  | _ => none
theorem i_compR1 {f : FE} {k : Nat} {is : List Nat} {g : FG} {tc : FB} {fe : FE} (hg : Own k g) (h : trN K (fCompR1 f k is g tc fe) σ H Q) : tComp (iRng1 (trA K (fCons f fNil))) (scV k is) (trG K g) (trT K tc) (trE K fe) σ H Q := by
  obtain ⟨H₀, Z, ρ, τ, C, ys, C', R, e, q⟩ := h
  unfold fCompR1 at e
  obtain ⟨⟨t, C1⟩, e1, e⟩ := Option.bind_eq_some_iff.mp e
  dsimp only at e
  split at e
  · split at e
    · rename_i hj
      refine ⟨H₀, Z, ρ, τ, C, _, C1, R, by simp [fCons, fNil, e1]; rfl, fun vs H1 ρ1 R1 h1 s1 => ?_⟩
      obtain ⟨v, r, rfl, q1, q2⟩ := h1.cons_inv
      rw [q2.nil_inv]
      refine ⟨_, by rw [q1.int_inv], hj.2, by omega, fun D hD => comp_any (P := fun _ => True) R1 hg wlk_range (by simp [rngT, lim]; omega) e hD fun p H' ρ' vs R' hp rv s' => q p H' ρ' vs R' hp rv (s1.trans s')⟩
    · cases e
  · cases e
theorem own_gN {k i : Nat} (h : i < k) : Own k (gN i) := fun t C τ τ1 e => by
  cases e
  refine ⟨by simp, fun j hj => ?_⟩
  rw [List.getElem?_set_ne (by omega)]
theorem setAll_own {k : Nat} : ∀ (is : List Nat) (ts : List T) (τ : TSt), (∀ i ∈ is, i < k) → (setAll is ts τ).length = τ.length ∧ ∀ j, k ≤ j → (setAll is ts τ)[j]? = τ[j]?
  | [], _, _, _ => by simp [setAll]
  | i :: is, [], _, _ => by simp [setAll]
  | i :: is, t :: ts, τ, h => by
    obtain ⟨h1, h2⟩ := setAll_own (k := k) is ts (τ.set i (some t)) (fun j hj => h j (List.mem_cons_of_mem _ hj))
    have hi := h i List.mem_cons_self
    refine ⟨by simp [setAll, h1], fun j hj => ?_⟩
    show (setAll is ts (τ.set i (some t)))[j]? = _
    rw [h2 j hj, List.getElem?_set_ne (by omega)]
theorem own_gU {k : Nat} {is : List Nat} (h : ∀ i ∈ is, i < k) : Own k (gU is) := fun t C τ τ1 e => by
  unfold gU at e
  obtain ⟨ts, e1, e⟩ := Option.bind_eq_some_iff.mp e
  split at e
  · cases e
    exact setAll_own is ts τ h
  · cases e
end
end TL
/-! TreeF -/
set_option linter.all false
namespace TL
open PySem L2
section
variable {K : PySem.W.Frag} {σ : St} {H : Hp}
theorem trE_mono {f : FE} {Q Q' : VK} (h : trE K f σ H Q) (hq : ∀ v H', Q v H' → Q' v H') : trE K f σ H Q' := by
  obtain ⟨H₀, Z, ρ, τ, C, t, C', R, e, k⟩ := h
  exact ⟨H₀, Z, ρ, τ, C, t, C', R, e, fun v H' ρ' a b c => hq _ _ (k v H' ρ' a b c)⟩
theorem trA_mono {f : FN} {Q Q' : List V → Hp → Prop} (h : trA K f σ H Q) (hq : ∀ v H', Q v H' → Q' v H') : trA K f σ H Q' := by
  obtain ⟨H₀, Z, ρ, τ, C, t, C', R, e, k⟩ := h
  exact ⟨H₀, Z, ρ, τ, C, t, C', R, e, fun v H' ρ' a b c => hq _ _ (k v H' ρ' a b c)⟩
theorem i_op {fa fb : FE} {g : T → T → Sto → Option (T × Sto)} {r : R2} {Q : VK} (ho : ∀ σ H Q x y, (∃ t1 t2, trV K σ [t1, t2] [x, y] (g t1 t2) H Q) → r x y H Q) (h : trE K (fBin fa fb g) σ H Q) : tOp r (trE K fa) (trE K fb) σ H Q :=
  trE_mono (i_bin h) fun _ _ q => trE_mono q fun _ _ q => ho _ _ _ _ _ q
theorem i_opN {fa fb : FE} {g : T → T → Sto → Option (List T)} {r : R2} {Q : VK} (ho : ∀ σ H Q x y, (∃ t1 t2, trW K σ [t1, t2] [x, y] (g t1 t2) H Q) → r x y H Q) (h : trN K (fBinN fa fb g) σ H Q) : tOp r (trE K fa) (trE K fb) σ H Q :=
  trE_mono (i_binN h) fun _ _ q => trE_mono q fun _ _ q => ho _ _ _ _ _ q
theorem i_cb {fa : FN} {g : List T → Sto → Option (T × Sto)} {r : List V → Hp → VK → Prop} {Q : VK} (ho : ∀ σ H Q xs, (∃ ts, trV K σ ts xs (g ts) H Q) → r xs H Q) (h : trE K (fArg fa g) σ H Q) : tCB r (trA K fa) σ H Q :=
  trA_mono (i_arg h) fun _ _ q => ho _ _ _ _ q
theorem i_cbN {fa : FN} {g : List T → Sto → Option (List T)} {r : List V → Hp → VK → Prop} {Q : VK} (ho : ∀ σ H Q xs, (∃ ts, trW K σ ts xs (g ts) H Q) → r xs H Q) (h : trN K (fArgN fa g) σ H Q) : tCB r (trA K fa) σ H Q :=
  trA_mono (i_argN h) fun _ _ q => ho _ _ _ _ q
theorem i_call {fa : FN} {n : Nat} {F : List T → Option T} {E : XK} {Q : VK} (h : trE K (fArg fa (gCall n F)) σ H Q) : tCall (spT K n F) [] E (trA K fa) σ H Q :=
  trA_mono (i_arg h) fun vs _ q => by rw [List.append_nil]; exact o_call q
noncomputable def gDm (ts : List T) (C : Sto) : Option (T × Sto) := match ts with
  | [.int i, .int j] => if 0 < j ∧ j < 1073741824 then some (.tup [.int (i / j), .int (i % j)], C) else none
  | _ => none
noncomputable def gInt1 (ts : List T) (C : Sto) : Option (T × Sto) := match ts with
  | [.int i] => some (.int i, C)
  | [.bl k] => some (.int (if k then 1 else 0), C)
  | _ => none
theorem o_int1 {xs : List V} {Q : VK} (h : ∃ ts, trV K σ ts xs (gInt1 ts) H Q) : (∃ i, xs = [.int i] ∧ Q (.int i) H) ∨ ∃ k, xs = [.bl k] ∧ Q (.int (if k then 1 else 0)) H := by
  obtain ⟨ts, H₀, Z, ρ, τ, C, t, C', R, r, e, k⟩ := h
  unfold gInt1 at e
  split at e
  · obtain ⟨v, _, rfl, r1, r⟩ := r.cons_inv
    rw [r.nil_inv, r1.int_inv]
    cases e
    exact .inl ⟨_, rfl, k _ H ρ R .int .refl⟩
  · obtain ⟨v, _, rfl, r1, r⟩ := r.cons_inv
    rw [r.nil_inv, r1.bl_inv]
    cases e
    exact .inr ⟨_, rfl, k _ H ρ R .int .refl⟩
  · cases e
noncomputable def gNeg (t : T) (C : Sto) : Option (T × Sto) := match t with
  | .int i => some (.int (-i), C)
  | _ => none
theorem o_neg {x : V} {Q : VK} (h : ∃ t, trV K σ [t] [x] (gNeg t) H Q) : ∃ i, x = .int i ∧ Q (.int (-i)) H := by
  obtain ⟨t0, H₀, Z, ρ, τ, C, t, C', R, r, e, k⟩ := h
  obtain ⟨_, _, z, r1, r⟩ := r.cons_inv
  cases z
  unfold gNeg at e
  split at e
  · cases e
    exact ⟨_, r1.int_inv, k _ H ρ R .int .refl⟩
  · cases e
noncomputable def gIsB (t1 t2 : T) (C : Sto) : Option (T × Sto) := match t1, t2 with
  | .bl a, .bl b => some (.bl (a == b), C)
  | _, _ => none
noncomputable def fRep (fa : FN) (fb : FE) : FN := fun τ C => (fa τ C).bind fun p => (fb τ p.2).bind fun q => match q.1 with
  | .int k => if -(2 ^ 63) ≤ k ∧ k < 2 ^ 63 ∧ p.1.length * k.toNat ≤ lim then some ((List.replicate k.toNat p.1).flatten, q.2) else none
  | _ => none
end
end TL
/-! TreeG -/
set_option linter.all false
namespace TL
open PySem L2

/-! ### the words of the bodies -/
noncomputable def mulOkB (i j : Int) : Bool := !(decide (Builtin.Int.intBits i > shortFactorBits) && decide (Builtin.Int.intBits j > shortFactorBits) && Builtin.Int.intTooBig (Builtin.Int.intBits i + Builtin.Int.intBits j))
noncomputable def insAt {α : Type} (xs : List α) (i : Int) (y : α) : List α := xs.take (if i < 0 then (i + (xs.length : Int)).toNat else min i.toNat xs.length) ++ y :: xs.drop (if i < 0 then (i + (xs.length : Int)).toNat else min i.toNat xs.length)
noncomputable def gtApp (xs vs : List T) : Option (List T) := match vs with
  | [y] => if xs.length < lim then some (xs ++ [y]) else none
  | _ => none
noncomputable def gtIns (xs vs : List T) : Option (List T) := match vs with
  | [.int i, y] => if xs.length < lim ∧ -(2 ^ 63) ≤ i ∧ i < 2 ^ 63 then some (insAt xs i y) else none
  | _ => none
noncomputable def maxL : List Int → Int
  | [] => 0
  | n :: ns => ns.foldl (fun a b => if b > a then b else a) n
noncomputable abbrev fAdd (a b : FE) : FE := fBin a b (gI fun i j => .int (i + j))
noncomputable abbrev fSub (a b : FE) : FE := fBin a b (gI fun i j => .int (i - j))
noncomputable abbrev fMul (a b : FE) : FE := fBin a b (gIc mulOkB fun i j => .int (i * j))
noncomputable abbrev fMod (a b : FE) : FE := fBin a b (gIc (fun _ j => decide (0 < j)) fun i j => .int (i % j))
noncomputable abbrev fFdv (a b : FE) : FE := fBin a b (gIc (fun _ j => decide (0 < j ∧ j < 1073741824)) fun i j => .int (i / j))
noncomputable abbrev fPow (a b : FE) : FE := fBin a b (gIc (fun i j => decide (0 ≤ j ∧ j ≤ 1000000 ∧ i.natAbs < 2 ^ 64)) fun i j => .int (i ^ j.toNat))
noncomputable abbrev fNeg (a : FE) : FE := fUn a gNeg
noncomputable abbrev fLt (a b : FE) : FE := fBin a b (gI fun i j => .bl (decide (i < j)))
noncomputable abbrev fGt (a b : FE) : FE := fBin a b (gI fun i j => .bl (decide (j < i)))
noncomputable abbrev fEq (a b : FE) : FE := fBin a b (gEq false)
noncomputable abbrev fNe (a b : FE) : FE := fBin a b (gEq true)
noncomputable abbrev fIn (a b : FE) : FE := fBin a b (gIn false)
noncomputable abbrev fNin (a b : FE) : FE := fBin a b (gIn true)
noncomputable abbrev fLeLt (a b c : FE) : FE := fChain a b c (fun i j => decide (i ≤ j)) (fun i j => decide (i < j))
noncomputable abbrev fIx (a b : FE) : FE := fBin a b gIx
noncomputable abbrev fCat (a b : FE) : FN := fBinN a b gCat
noncomputable abbrev fLen (a : FN) : FE := fArg a gLen
noncomputable abbrev fList (a : FN) : FN := fArgN a gList
noncomputable abbrev fAll (a : FN) : FE := fArg a (gBls fun bs => bs.all id)
noncomputable abbrev fMax2 (a : FN) : FE := fArg a (gI2 fun i j => if j > i then j else i)
noncomputable abbrev fMin2 (a : FN) : FE := fArg a (gI2 fun i j => if j < i then j else i)
noncomputable abbrev fInt1 (a : FN) : FE := fArg a gInt1
noncomputable abbrev fCall (n : Nat) (F : List T → Option T) (a : FN) : FE := fArg a (gCall n F)
noncomputable def isiT (c : String) : T → Option Bool
  | .non => some (c == "NoneType")
  | .bl _ => some (c == "bool" || c == "int")
  | .int _ => some (c == "int")
  | .str _ => some (c == "str")
  | .lst _ => some (c == "list")
  | .cell _ => some (c == "list")
  | .tup _ => some (c == "tuple")
  | .exc _ => none
noncomputable def fIsi (c : String) (a : FE) : FE := fUn a fun t C => (isiT c t).map fun b => (.bl b, C)
noncomputable abbrev fApp (o : FE) (a : FN) : FS := fMut o a gtApp
noncomputable abbrev fIns (o : FE) (a : FN) : FS := fMut o a gtIns
noncomputable def fTrueT : FB := fun _ C => some (true, C)

noncomputable def runT (B : FS) (m : Nat) (ts : List T) : Option T := match B (st0 m ts) [] with
  | some (.rt r, _, C) => dr 3 C r
  | some (.nx, _, _) => some .non
  | _ => none
theorem runT_ok {B : FS} {m n : Nat} : ∀ ts t, ts.length = n → runT B m ts = some t → ∃ r, B (st0 m ts) [] = some r ∧ EndT t r := fun ts t _ e => by
  unfold runT at e
  split at e
  · rename_i h; exact ⟨_, h, e⟩
  · rename_i h; cases e; exact ⟨_, h, rfl⟩
  · cases e
end TL
/-! ModelA -/
set_option linter.all false
set_option maxRecDepth 100000
namespace L2
open PySem PySem.Spec PyProof.Rows
theorem PE.imp {X : Cx} {e : Expr} {t t' : TE} (h : PE X e t) (hi : ∀ σ H Q, t' σ H Q → t σ H Q) : PE X e t' := fun pins s σ H Q I q => h pins s σ H Q I (hi σ H Q q)
theorem PT.imp {X : Cx} {e : Expr} {t t' : TT} (h : PT X e t) (hi : ∀ σ H Q, t' σ H Q → t σ H Q) : PT X e t' := fun pins s σ H Q I q => h pins s σ H Q I (hi σ H Q q)
theorem PW.imp {X : Cx} {e : Expr} {t t' : TT} (h : PW X e t) (hi : ∀ σ H Q, t' σ H Q → t σ H Q) : PW X e t' := fun wh pins s σ H Q I q => h wh pins s σ H Q I (hi σ H Q q)
theorem PA.imp {X : Cx} {e : List Expr} {t t' : TA} (h : PA X e t) (hi : ∀ σ H Q, t' σ H Q → t σ H Q) : PA X e t' := fun pos pins s σ H Q I q => h pos pins s σ H Q I (hi σ H Q q)
theorem PS.imp {X : Cx} {e : Stmt} {t t' : TS} (h : PS X e t) (hi : ∀ D σ H, t' D σ H → t D σ H) : PS X e t' := fun pins s σ H D I q => h pins s σ H D I (hi D σ H q)
theorem PSs.imp {X : Cx} {e : List Stmt} {t t' : TS} (h : PSs X e t) (hi : ∀ D σ H, t' D σ H → t D σ H) : PSs X e t' := fun pins s σ H D I q => h pins s σ H D I (hi D σ H q)
theorem PG.imp {X : Cx} {e : Expr} {t t' : TG} (h : PG X e t) (hi : ∀ v σ H Q, t' v σ H Q → t v σ H Q) : PG X e t' := fun pins s σ H v u Q I r q => h pins s σ H v u Q I r (hi v σ H Q q)

theorem PO.imp {X : Cx} {e : Option Expr} {t t' : TO} (h : PO X e t) (hi : ∀ σ H Q, t' σ H Q → t σ H Q) : PO X e t' := fun pins s σ H Q I q => h pins s σ H Q I (hi σ H Q q)
end L2
namespace TL
open PySem PySem.Spec PyProof.Rows L2

theorem lim_line : lim ≤ sizeLine := by unfold lim; rw [sizeLine_eq]; decide

/-! ### lists by values: + and * of lists that are read -/
section
variable {X : Cx}
theorem op_catL : OpR X (binaryOp .Add) (rCatL X.K) := by
  intro pins s σ H x y v u Q I rx ry h
  obtain ⟨l, b, xs, zs, rfl, rfl, hH, hB, hz, q⟩ := h
  cases rx
  cases ry
  obtain ⟨its, r, p, hl⟩ := I.list hH
  obtain ⟨its2, r2, p2, hl2⟩ := I.list hB
  obtain ⟨⟨cls, dd, data, sl⟩, ho, hc, n, hd⟩ := id p.isList
  obtain ⟨⟨cls2, dd2, data2, sl2⟩, ho2, hc2, n2, hd2⟩ := id p2.isList
  simp only at hc hd hc2 hd2
  subst hc hd hc2 hd2
  have e1 := r.length
  have e2 := r2.length
  have hlim := lim_line
  have ea : its.toArray ++ its2.toArray = (its ++ its2).toArray := by simp
  refine concat_meets ⟨_, ho, rfl⟩ ⟨_, ho2, rfl⟩ noFill_list_add seq_list_add PySem.F.slot_list_add PySem.F.entry_list_add (PySem.F.args_list_add_2 _ _)
    (list_addW l b its.toArray its2.toArray n n2 dd dd2 sl sl2 (by rw [List.size_toArray, List.size_toArray]; omega)) ⟨ho, ho2, ?_⟩
  rw [ea]
  exact ⟨.ref _, _, I.lnew (t' := s.toks) (r.append r2) (by rw [List.length_append]; omega), rfl, q _ I.fresh⟩

/-! ### methods that change a list -/
noncomputable def gvApp (xs vs : List V) : Option (List V) := match vs with
  | [y] => if xs.length < lim then some (xs ++ [y]) else none
  | _ => none
theorem app_ok {K : PySem.W.Frag} : ∀ M ρ ts us ws vs xs, RTs K M ρ ts vs → RTs K M ρ us xs → gtApp ts us = some ws → ∃ ys, gvApp vs xs = some ys ∧ RTs K M ρ ws ys := by
  intro M ρ ts us ws vs xs h1 h2 e
  unfold gtApp at e
  split at e
  · obtain ⟨v, _, rfl, r1, r2⟩ := h2.cons_inv
    rw [r2.nil_inv]
    split at e
    · rename_i hl
      cases e
      refine ⟨vs ++ [v], ?_, h1.append (.cons r1 .nil)⟩
      show (if vs.length < lim then some (vs ++ [v]) else none) = _
      rw [if_pos (by rw [h1.length]; exact hl)]
    · cases e
  · cases e
theorem mt_app : MtR X "list.append" (rMut gvApp) := by
  intro pins s σ H x vs v us Q I rx rv h
  obtain ⟨l, xs, ys, ex, hH, e, q⟩ := h
  unfold gvApp at e
  split at e
  · split at e
    · rename_i hl
      cases e
      exact mt_append pins s σ H x _ v us Q I rx rv ⟨l, xs, _, ex, rfl, hH, Nat.lt_of_lt_of_le hl lim_line, q⟩
    · cases e
  · cases e
noncomputable def gvIns (xs vs : List V) : Option (List V) := match vs with
  | [.int i, y] => if xs.length < lim ∧ -(2 ^ 63) ≤ i ∧ i < 2 ^ 63 then some (insAt xs i y) else none
  | _ => none
theorem ins_ok {K : PySem.W.Frag} : ∀ M ρ ts us ws vs xs, RTs K M ρ ts vs → RTs K M ρ us xs → gtIns ts us = some ws → ∃ ys, gvIns vs xs = some ys ∧ RTs K M ρ ws ys := by
  intro M ρ ts us ws vs xs h1 h2 e
  unfold gtIns at e
  split at e
  · obtain ⟨v, _, rfl, r1, r2⟩ := h2.cons_inv
    obtain ⟨v', _, rfl, r2, r3⟩ := r2.cons_inv
    rw [r3.nil_inv, r1.int_inv]
    split at e
    · rename_i hl
      cases e
      refine ⟨insAt vs _ v', by
        show (if vs.length < lim ∧ _ then some (insAt vs _ v') else none) = _
        rw [if_pos (by rw [h1.length]; exact hl)], ?_⟩
      unfold insAt
      rw [h1.length]
      exact (h1.take _).append (.cons r2 (h1.drop _))
    · cases e
  · cases e
theorem insAt_len {α : Type} (xs : List α) (i : Int) (y : α) : (insAt xs i y).length = xs.length + 1 := by
  unfold insAt
  rw [List.length_append, List.length_cons, List.length_take, List.length_drop]
  omega
theorem Vals.insAt {xs : List V} {us : List Value} {y : V} {u : Value} (h : Vals xs us) (r : RelV y u) (i : Int) : Vals (TL.insAt xs i y) (PySem.W.kl_ins us i u) := by
  unfold TL.insAt PySem.W.kl_ins
  rw [h.length]
  exact (L2.Vals.take _ h).append (.cons r (L2.Vals.drop _ h))
theorem mt_ins : MtR X "list.insert" (rMut gvIns) := by
  intro pins s σ H x vs v us Q I rx rv h
  obtain ⟨l, xs, ys, ex, hH, e, q⟩ := h
  subst ex
  cases rx
  unfold gvIns at e
  split at e
  · split at e
    · rename_i hl
      cases e
      obtain ⟨u1, u2, rfl, r1, r2⟩ := rv.two
      obtain ⟨t, rfl⟩ := r1
      obtain ⟨z, its, n, r, hl2, eo⟩ := I.lstM hH
      have hlim := lim_line
      refine call_meets PySem.F.slot_list_insert ⟨_, eo, rfl⟩ PySem.F.entry_list_insert (PySem.F.args_list_insert_3 _ _ _) (PySem.AutoSeq1.list_insert_list_int_val_1 l its.toArray n _ t u2 (by rw [fitsIndex_both hl.2.1 hl.2.2]; exact Bool.false_ne_true) (by rw [List.size_toArray]; omega)) ⟨eo, ?_⟩
      refine ⟨.non, _, I.lset (its' := PySem.W.kl_ins its _ u2) hH eo ?_ (Vals.insAt r r2 _) ?_, rfl, q⟩
      · show (its.toArray.extract 0 _).push u2 ++ its.toArray.extract _ = _
        rw [PySem.W.kl_ins_eq, List.size_toArray]
        rfl
      · rw [insAt_len]; omega
    · cases e
  · cases e

/-! ### sum, max, min, all, any -/
theorem maxL_spec : ∀ {ns : List Int}, ns ≠ [] → maxL ns ∈ ns ∧ ∀ a ∈ ns, a ≤ maxL ns := by
  have key : ∀ (ns : List Int) (n : Int), (ns.foldl (fun a b => if b > a then b else a) n = n ∨ ns.foldl (fun a b => if b > a then b else a) n ∈ ns) ∧ n ≤ ns.foldl (fun a b => if b > a then b else a) n ∧ ∀ a ∈ ns, a ≤ ns.foldl (fun a b => if b > a then b else a) n := by
    intro ns
    induction ns with
    | nil => intro n; simp
    | cons m ns ih =>
      intro n
      rw [List.foldl_cons]
      obtain ⟨h1, h2, h3⟩ := ih (if m > n then m else n)
      by_cases hm : m > n
      · rw [if_pos hm] at h1 h2 h3 ⊢
        refine ⟨?_, by omega, fun a ha => ?_⟩
        · rcases h1 with h1 | h1
          · rw [h1]; simp
          · exact .inr (List.mem_cons_of_mem _ h1)
        · rcases List.mem_cons.mp ha with rfl | ha
          · exact h2
          · exact h3 a ha
      · rw [if_neg hm] at h1 h2 h3 ⊢
        refine ⟨?_, h2, fun a ha => ?_⟩
        · rcases h1 with h1 | h1
          · exact .inl h1
          · exact .inr (List.mem_cons_of_mem _ h1)
        · rcases List.mem_cons.mp ha with rfl | ha
          · omega
          · exact h3 a ha
  intro ns hne
  cases ns with
  | nil => exact absurd rfl hne
  | cons n ns =>
    obtain ⟨h1, h2, h3⟩ := key ns n
    refine ⟨?_, fun a ha => ?_⟩
    · rcases h1 with h1 | h1
      · show List.foldl (fun a b => if b > a then b else a) n ns ∈ n :: ns
        rw [h1]; simp
      · exact List.mem_cons_of_mem _ h1
    · rcases List.mem_cons.mp ha with rfl | ha
      · exact h2
      · exact h3 a ha
theorem boolsAre_of {bs : List Bool} : ∀ {us : List Value}, Vals (bs.map V.bl) us → us = bs.map Value.bool := by
  induction bs with
  | nil => intro us r; rw [List.map_nil] at r; cases r; rfl
  | cons n ns ih =>
    intro us r
    rw [List.map_cons] at r
    cases r with
    | cons r1 r2 =>
      cases r1
      rw [ih r2]; rfl
theorem range_allB (bs : List Bool) : ((List.range bs.length).all fun i => (bs[i]?).getD true) = bs.all id := by
  rw [Bool.eq_iff_iff, List.all_eq_true, List.all_eq_true]
  constructor
  · intro h b hb
    obtain ⟨i, hi, rfl⟩ := List.getElem_of_mem hb
    have := h i (List.mem_range.mpr hi)
    simpa [List.getElem?_eq_getElem hi] using this
  · intro h i hi
    have hi' := List.mem_range.mp hi
    simpa [List.getElem?_eq_getElem hi'] using h _ (List.getElem_mem hi')
theorem kept_it {s : Shared} {h' : Heap} {o : Obj} (hk : ∀ b x, b ∉ [s.heap.objs.size] → (s.heap.push o).get? b = some x → h'.get? b = some x) : ∀ b x, s.heap.get? b = some x → h'.get? b = some x :=
  fun b x e => hk b x (fun hm => by rw [List.mem_singleton.mp hm] at e; exact Nat.lt_irrefl _ (Heap.lt_size e)) (Heap.get?_push_of_some _ e)
theorem call_allL (hc : X.calm = true) : CallR X (.builtin "all") (rBls X.K (fun bs => bs.all id)) := by
  intro pins s σ H xs us Q I r h
  obtain ⟨p, bs, rfl, hq, q⟩ := h
  obtain ⟨u, rfl, ru⟩ := vals1 r
  cases ru
  obtain ⟨its, rv, pl, hz⟩ := I.list hq
  have hb := boolsAre_of rv
  subst hb
  have hlt : p < s.heap.objs.size := pl.lt
  refine call_all_walk (wpAny_pyIter_list pl.isList ?_)
  refine ⟨s.heap.objs.size, [s.heap.objs.size, p], [s.heap.objs.size], (bs.map Value.bool).toArray.size, _, _, fun i => (bs[i]?).getD true, rfl, Walks.list (A := X.A.in1) (I.ok.hd hc) _ p (Nat.ne_of_lt hlt) (bs.map Value.bool).toArray,
    ⟨⟨_, Heap.get?_push_size _ rfl, rfl, rfl⟩, pl.isList.push _⟩, fun i v s' Q' E' hP hQ => ?_, fun h' tk hk => ?_⟩
  · simp only [List.getElem?_toArray, List.getElem?_map] at hP
    cases e : bs[i]? with
    | none => rw [e] at hP; cases hP
    | some b =>
      rw [e] at hP; cases hP
      simp only [e, Option.getD_some] at hQ
      exact wpAny_truthy_bool hQ
  · have e : ((List.range (bs.map Value.bool).toArray.size).all fun i => (bs[i]?).getD true) = bs.all id := by
      rw [List.size_toArray, List.length_map]; exact range_allB bs
    rw [e]
    exact ⟨.bl _, H, I.kept (kept_it hk), rfl, q⟩
end

/-! ### == and in, deep -/
section
variable {X : Cx} {pins : List (Addr × Obj)} {σ : L2.St} {H : Hp} {s : Shared}
theorem eqF_at {A : Around} {t1 t2 : T} {x y : V} {u v : Value} {b : Bool} (h1 : RT X.K H [] t1 x) (h2 : RT X.K H [] t2 y) (r1 : RelV x u) (r2 : RelV y v) (e : eqF t1 t2 = some b) : SeqAt.EqAt A s u v b := by
  unfold eqF at e
  split at e <;> first
    | (cases e; done)
    | (cases e
       unfold RT at h1 h2
       subst h1 h2
       have q := eqAt_V (A := A) (s := s) r1 r2 rfl rfl
       exact q)
theorem eqF_same {t1 t2 : T} {x : V} {b : Bool} (h1 : RT X.K H [] t1 x) (h2 : RT X.K H [] t2 x) (e : eqF t1 t2 = some b) : b = true := by
  unfold eqF at e
  split at e <;> first
    | (cases e; done)
    | (cases e
       unfold RT at h1 h2
       rw [h1] at h2
       first | rfl | (cases h2; simp) | (exact nomatch h2))
theorem eqL_same {e : T → T → Option Bool} {vs : List V} (he : ∀ t1 t2 x b, RT X.K H [] t1 x → RT X.K H [] t2 x → e t1 t2 = some b → b = true) : ∀ {ts us : List T} {vs : List V} {b : Bool}, RTs X.K H [] ts vs → RTs X.K H [] us vs → eqL e ts us = some b → b = true
  | [], [], _, b, _, _, q => by cases q; rfl
  | t :: ts, u :: us, vs, b, h1, h2, q => by
    obtain ⟨v, r, rfl, a1, a2⟩ := h1.cons_inv
    obtain ⟨v', r', z, b1, b2⟩ := h2.cons_inv
    cases z
    unfold eqL at q
    obtain ⟨c, q1, q⟩ := Option.bind_eq_some_iff.mp q
    obtain ⟨d, q2, q⟩ := Option.map_eq_some_iff.mp q
    rw [he _ _ _ _ a1 b1 q1, eqL_same (vs := vs) he a2 b2 q2] at q
    exact q.symm
  | [], _ :: _, _, _, _, _, q => by cases q
  | _ :: _, [], _, _, _, _, q => by cases q
theorem eqT_same (I : Inv X pins σ H s) : ∀ (n : Nat) (t1 t2 : T) (x : V) (b : Bool), RT X.K H [] t1 x → RT X.K H [] t2 x → eqT n t1 t2 = some b → b = true := by
  intro n
  induction n with
  | zero => intro t1 t2 x b h1 h2 e; exact eqF_same h1 h2 (by unfold eqT at e; exact e)
  | succ n ih =>
    intro t1 t2 x b h1 h2 e
    by_cases hl : ∃ xs ys, t1 = .lst xs ∧ t2 = .lst ys
    · obtain ⟨xs, ys, rfl, rfl⟩ := hl
      unfold RT at h1 h2
      obtain ⟨a, vs, e1, q1, r1⟩ := h1
      obtain ⟨a', vs', e2, q2, r2⟩ := h2
      rw [e1] at e2; cases e2
      have := I.list_inj q1 q2
      subst this
      unfold eqT at e
      rw [if_pos (by rw [← r1.length, ← r2.length])] at e
      exact eqL_same (vs := vs) ih r1 r2 e
    · have e' : eqF t1 t2 = some b := by
        unfold eqT at e
        split at e
        · exact absurd ⟨_, _, rfl, rfl⟩ hl
        · exact e
      exact eqF_same h1 h2 e'
theorem eqL_at {e : T → T → Option Bool} {A : Around} (he : ∀ t1 t2 x y u v b, RT X.K H [] t1 x → RT X.K H [] t2 y → RelV x u → RelV y v → e t1 t2 = some b → SeqAt.EqAt A s u v b) :
    ∀ {ts us : List T} {vs ws : List V} {is js : List Value} {b : Bool}, RTs X.K H [] ts vs → RTs X.K H [] us ws → Vals vs is → Vals ws js → eqL e ts us = some b →
      ∃ f : Nat → Bool, (∀ j u v, is[j]? = some u → js[j]? = some v → SeqAt.EqAt A s u v (f j)) ∧ (List.range is.length).all f = b
  | [], [], _, _, _, _, b, h1, h2, v1, v2, q => by
    cases q
    rw [h1.nil_inv] at v1
    cases v1
    exact ⟨fun _ => true, fun j u v z => by simp at z, rfl⟩
  | t :: ts, u :: us, vs, ws, is, js, b, h1, h2, v1, v2, q => by
    obtain ⟨v, r, rfl, a1, a2⟩ := h1.cons_inv
    obtain ⟨v', r', rfl, b1, b2⟩ := h2.cons_inv
    unfold eqL at q
    obtain ⟨c, q1, q⟩ := Option.bind_eq_some_iff.mp q
    obtain ⟨d, q2, q⟩ := Option.map_eq_some_iff.mp q
    cases v1 with
    | cons x1 y1 =>
      cases v2 with
      | cons x2 y2 =>
        obtain ⟨f, f1, f2⟩ := eqL_at he a2 b2 y1 y2 q2
        refine ⟨fun j => match j with | 0 => c | j + 1 => f j, fun j u v z1 z2 => ?_, ?_⟩
        · cases j with
          | zero =>
            simp at z1 z2
            subst z1 z2
            exact he _ _ _ _ _ _ _ a1 b1 x1 x2 q1
          | succ j => exact f1 j u v (by simpa using z1) (by simpa using z2)
        · rw [List.length_cons, List.range_succ_eq_map, List.all_cons, List.all_map, ← q, ← f2]
          rfl
  | [], _ :: _, _, _, _, _, _, _, _, _, _, q => by cases q
  | _ :: _, [], _, _, _, _, _, _, _, _, _, q => by cases q
theorem eqT_at (I : Inv X pins σ H s) : ∀ (n : Nat) (A : Around) (t1 t2 : T) (x y : V) (u v : Value) (b : Bool), A.units + n < cLine → RT X.K H [] t1 x → RT X.K H [] t2 y → RelV x u → RelV y v → eqT n t1 t2 = some b → SeqAt.EqAt A s u v b := by
  intro n
  induction n with
  | zero => intro A t1 t2 x y u v b hu h1 h2 r1 r2 e; exact eqF_at h1 h2 r1 r2 (by unfold eqT at e; exact e)
  | succ n ih =>
    intro A t1 t2 x y u v b hu h1 h2 r1 r2 e
    by_cases hl : ∃ xs ys, t1 = .lst xs ∧ t2 = .lst ys
    · obtain ⟨xs, ys, rfl, rfl⟩ := hl
      have sm : x = y → b = true := fun z => by subst z; exact eqT_same I _ _ _ _ _ h1 h2 e
      unfold RT at h1 h2
      obtain ⟨a, vs, e1, q1, k1⟩ := h1
      obtain ⟨c, ws, e2, q2, k2⟩ := h2
      subst e1 e2
      cases r1
      cases r2
      by_cases hac : a = c
      · subst hac
        rw [sm rfl]
        exact SeqAt.EqAt.same _
      · obtain ⟨is, v1, p1, z1⟩ := I.list q1
        obtain ⟨js, v2, p2, z2⟩ := I.list q2
        have l1 := v1.length
        have l2 := v2.length
        unfold eqT at e
        split at e
        · rename_i hlen
          obtain ⟨f, f1, f2⟩ := eqL_at (A := A.in1) (fun t1 t2 x y u v b a1 a2 a3 a4 a5 => ih A.in1 t1 t2 x y u v b (by show A.units + 1 + n < cLine; omega) a1 a2 a3 a4 a5) k1 k2 v1 v2 e
          have q := SeqAt.EqAt.of_refs hac (SeqAt.RcAt.lists (A := A) (s := s) (e := f) p1.isList p2.isList (by rw [List.size_toArray, List.size_toArray, ← l1, ← l2, k1.length, k2.length]; exact hlen) (by omega) fun j h1 h2 =>
            f1 j _ _ (by simp) (by simp))
          rw [List.size_toArray, f2] at q
          exact q
        · rename_i hlen
          cases e
          refine SeqAt.EqAt.of_refs hac (SeqAt.RcAt.lists_lengths p1.isList p2.isList ?_ (by omega))
          rw [List.size_toArray, List.size_toArray, ← l1, ← l2, k1.length, k2.length]
          simpa using hlen
    · have e' : eqF t1 t2 = some b := by
        unfold eqT at e
        split at e
        · exact absurd ⟨_, _, rfl, rfl⟩ hl
        · exact e
      exact eqF_at h1 h2 r1 r2 e'
end
end TL
/-! ModelB -/
set_option linter.all false
set_option maxRecDepth 100000
namespace TL
open PySem PySem.Spec PyProof.Rows L2

/-! ### closures of comprehensions -/
noncomputable def closL (cells : List (Str × Addr)) : List (Str × NameKind) → List (Str × Addr) → Option (List (Str × Addr))
  | [], acc => some acc
  | (n, k) :: r, acc => if (k == NameKind.free) = true then (match cells.lookup n with
      | some c => closL cells r ((n, c) :: acc)
      | none => none) else closL cells r acc
theorem closL_of {env : Env} : ∀ (ns : List (Str × NameKind)) (acc cl : List (Str × Addr)), closL env.cells ns acc = some cl →
    (forIn ns acc fun (x : Str × NameKind) (cs : List (Str × Addr)) => if (x.2 == NameKind.free) = true then do let c ← cellOf env x.1; pure (ForInStep.yield ((x.1, c) :: cs)) else pure (ForInStep.yield cs) : Sem (List (Str × Addr))) = pure cl
  | [], acc, cl, e => by cases e; rfl
  | (n, k) :: r, acc, cl, e => by
    unfold closL at e
    rw [List.forIn_cons]
    split at e
    · rename_i hk
      split at e
      · rename_i c hc
        have := closL_of r _ cl e
        simp only [hk, if_true]
        unfold cellOf
        rw [hc]
        exact this
      · cases e
    · rename_i hk
      have := closL_of r _ cl e
      simp only [hk, if_false]
      exact this
theorem clos_of {env : Env} {scope : Scope} {cl : List (Str × Addr)} (e : closL env.cells scope.names [] = some cl) : closureFor scope env = pure cl := by
  have h := closL_of scope.names [] cl e
  unfold closureFor
  first
    | exact h
    | (simp only [bind_pure] at *; exact h)
    | (show (forIn scope.names [] _ >>= fun r => pure r) = pure cl; rw [bind_pure]; exact h)
theorem closL_sub {cells : List (Str × Addr)} : ∀ (ns : List (Str × NameKind)) (acc cl : List (Str × Addr)), closL cells ns acc = some cl → (∀ x c, acc.lookup x = some c → cells.lookup x = some c) →
    (∀ x c, cl.lookup x = some c → cells.lookup x = some c)
  | [], acc, cl, e, h => by cases e; exact h
  | (n, k) :: r, acc, cl, e, h => by
    unfold closL at e
    split at e
    · split at e
      · rename_i c hc
        refine closL_sub r _ cl e fun x d hx => ?_
        rw [List.lookup_cons] at hx
        split at hx
        · rename_i q
          cases hx
          rw [eq_of_beq q]; exact hc
        · exact h x d hx
      · cases e
    · exact closL_sub r _ cl e h
theorem closL_has {cells : List (Str × Addr)} : ∀ (ns : List (Str × NameKind)) (acc cl : List (Str × Addr)), closL cells ns acc = some cl → ∀ x, ((x, NameKind.free) ∈ ns ∨ ∃ c, acc.lookup x = some c) → ∃ c, cl.lookup x = some c
  | [], acc, cl, e, x, h => by
    cases e
    rcases h with h | h
    · cases h
    · exact h
  | (n, k) :: r, acc, cl, e, x, h => by
    unfold closL at e
    split at e
    · split at e
      · rename_i c hc
        refine closL_has r _ cl e x ?_
        rcases h with h | h
        · rcases List.mem_cons.mp h with h | h
          · cases h
            exact .inr ⟨c, by simp [List.lookup_cons]⟩
          · exact .inl h
        · obtain ⟨d, hd⟩ := h
          by_cases hx : (x == n) = true
          · exact .inr ⟨c, by rw [List.lookup_cons, hx]⟩
          · refine .inr ⟨d, ?_⟩
            rw [List.lookup_cons]
            simp only [hx]
            exact hd
      · cases e
    · rename_i hk
      refine closL_has r _ cl e x ?_
      rcases h with h | h
      · rcases List.mem_cons.mp h with h | h
        · cases h; exact absurd rfl hk
        · exact .inl h
      · exact .inr h

noncomputable abbrev compCx (X : Cx) (N : List Str) (scope : Scope) (cl : List (Str × Addr)) (C : Addr) (s3 : Shared) (H3 : Hp) (fp : List Addr) : Cx :=
  { X with N := N, s₀ := s3, H₀ := H3, env := compEnvC scope cl C X.env, outer := X.stack, stack := X.stack, ex := fp, fn := fun _ => false, pn := [], xe := fun _ _ => False }

theorem relabel_lookup {env : Env} : ∀ {names : List (Str × NameKind)} {x : Str}, (∀ y ∈ names, y.2 ≠ .cell) →
    ((names.map fun (n, k) => if (k == NameKind.free && env.scope.kind == .function && env.kindOf n == some .cell) = true then (n, NameKind.cell) else (n, k)).lookup x = some .cell ∨
     (names.map fun (n, k) => if (k == NameKind.free && env.scope.kind == .function && env.kindOf n == some .cell) = true then (n, NameKind.cell) else (n, k)).lookup x = some .free) → (x, NameKind.free) ∈ names
  | [], x, _, h => by rcases h with h | h <;> simp at h
  | (n, k) :: r, x, hc, h => by
    have ih := @relabel_lookup env r x (fun y hy => hc y (List.mem_cons_of_mem _ hy))
    have hk : k ≠ .cell := hc (n, k) List.mem_cons_self
    rw [List.map_cons] at h
    by_cases hx : (x == n) = true
    · have hx' : x = n := eq_of_beq hx
      subst hx'
      by_cases hcnd : (k == NameKind.free && env.scope.kind == .function && env.kindOf x == some .cell) = true
      · have : k = .free := by
          rw [Bool.and_eq_true, Bool.and_eq_true] at hcnd
          exact eq_of_beq hcnd.1.1
        subst this
        exact List.mem_cons_self
      · simp only [if_neg hcnd, List.lookup_cons, hx] at h
        rcases h with h | h
        · cases h; exact absurd rfl hk
        · cases h; exact List.mem_cons_self
    · refine List.mem_cons_of_mem _ (ih ?_)
      by_cases hcnd : (k == NameKind.free && env.scope.kind == .function && env.kindOf n == some .cell) = true
      · simp only [if_pos hcnd, List.lookup_cons, hx] at h
        exact h
      · simp only [if_neg hcnd, List.lookup_cons, hx] at h
        exact h

structure CompOk (X : Cx) (own fr : List Str) (is : List Nat) (scope : Scope) (cl : List (Str × Addr)) : Prop where
  clos : closL X.env.cells scope.names [] = some cl
  cell : ∀ y ∈ scope.names, y.2 ≠ .cell
  kind : scope.kind = .function
  names : ∀ y ∈ scope.names, y.2 = .local → scope.names.lookup y.1 = some .local
  pick : is.map (fun i => X.N[i]?) = fr.map some
  kx : fr.all (fun x => X.env.kindOf x == some .cell || X.env.kindOf x == some .free) = true
  ky : fr.all (fun x => (relabel scope X.env).names.lookup x == some .cell || (relabel scope X.env).names.lookup x == some .free) = true

section
variable {X : Cx} {own fr : List Str} {is : List Nat} {scope : Scope} {cl : List (Str × Addr)}
theorem kind_or {x : Option NameKind} (h : (x == some .cell || x == some .free) = true) : x = some .cell ∨ x = some .free := by
  rw [Bool.or_eq_true] at h
  rcases h with h | h
  · exact .inl (eq_of_beq h)
  · exact .inr (eq_of_beq h)

theorem comp_inv {pins : List (Addr × Obj)} {σ : L2.St} {H : Hp} {s : Shared} {h₁ : Heap} {fp : List Addr} {tk : Nat} (k : CompOk X own fr is scope cl) (I : Inv X pins σ H s) (hf : ∀ b ∈ fp, FpOk X pins H b ∧ b < s.heap.objs.size)
    (hn : h₁.Ns s.heap.objs.size (fun x => ([] : List (Str × Value)).reverse.lookup x)) (hs : Heap.SameBut s.heap.objs.size (s.heap.push { cls := .type "dict", data := .dict #[] }) h₁) :
    Inv (compCx X (own ++ fr) scope cl s.heap.objs.size s H fp) [] (scV own.length is σ) H { s with heap := h₁, toks := tk } := by
  have hk : ∀ b o, s.heap.get? b = some o → h₁.get? b = some o := fun b o e => (hs.2 b (Nat.ne_of_lt (Heap.lt_size e))).trans (Heap.get?_push_of_some _ e)
  have sub := closL_sub _ _ _ k.clos (fun x c z => by simp at z)
  have cellX : ∀ x c, cl.lookup x = some c → ∃ v, s.heap.IsCell c v := fun x c e => I.cell x c (sub x c e)
  have cellH : ∀ {c v}, s.heap.IsCell c v → h₁.IsCell c v := fun ⟨o, ho, hd⟩ => ⟨o, hk _ o ho, hd⟩
  have cne : ∀ x c, cl.lookup x = some c → c ≠ s.heap.objs.size := fun x c e z => by
    obtain ⟨v, o, ho, _⟩ := cellX x c e
    exact absurd (z ▸ Heap.lt_size ho) (Nat.lt_irrefl _)
  refine ⟨⟨I.ok.mod, k.kind, I.ok.glob, I.ok.blt, Nat.le_refl _, fun x y c h1 h2 => I.ok.inj x y c (sub x c h1) (sub y c h2), fun x hx => ?_, fun x c h => (by cases h), I.ok.hd, I.ok.frames, .inl rfl, fun b hb => ⟨Nat.ne_of_lt (hf b hb).2, fun x c e => (hf b hb).1.2.2.2.2.1 x c (sub x c e)⟩,
      fun b o e => I.bs b o e, Nat.le_trans I.ok.bsz I.sz, fun b o e hb => ?_, fun b hb z => ?_, I.stack, I.stkFree⟩,
    rfl, I.bare, Un.kept hk, ⟨_, hn, fun i x v h1 h2 h3 => ?_⟩, fun x c e => ?_, I.hok.fresh (Nat.le_refl _), fun x c e => I.freeC x c (sub x c e), fun p hp => absurd hp (by simp), I.hok.kept hk, ?_⟩
  · have hx' : (relabel scope X.env).names.lookup x = some .cell ∨ (relabel scope X.env).names.lookup x = some .free := hx
    exact closL_has _ _ _ k.clos x (.inl (relabel_lookup k.cell hx'))
  · rcases (hf b hb).1.2.2.2.1 with z | z
    · exact I.ok.noex b o e z
    · exact absurd (Nat.lt_of_lt_of_le (Heap.lt_size e) (Nat.le_trans I.ok.bsz z)) (Nat.lt_irrefl _)
  · rcases List.mem_cons.mp (I.stkSub b z) with q | q
    · exact (hf b hb).1.2.1 q
    · exact (hf b hb).1.2.2.1 q
  · -- a name from around
    have hi : ¬ i < own.length := fun hi => by
      unfold scV at h2
      rw [List.getElem?_append_left (by simpa using hi), List.getElem?_replicate, if_pos hi] at h2
      cases h2
    have hi' := Nat.le_of_not_lt hi
    unfold scV at h2
    rw [List.getElem?_append_right (by simpa using hi'), List.getElem?_map] at h2
    simp only [List.length_replicate] at h2
    obtain ⟨j, hj, z⟩ := Option.map_eq_some_iff.mp h2
    have hσ : σ[j]? = some (some v) := by
      cases q : σ[j]? with
      | none => rw [q] at z; cases z
      | some u => rw [q] at z; exact congrArg some z
    have h1' : fr[i - own.length]? = some x := by
      have : (own ++ fr)[i]? = some x := h1
      rw [List.getElem?_append_right hi'] at this
      exact this
    have hN : X.N[j]? = some x := by
      have := congrArg (fun l => l[i - own.length]?) k.pick
      simp only [List.getElem?_map, hj, h1', Option.map_some] at this
      exact Option.some.inj this
    have hxm : x ∈ fr := List.mem_of_getElem? h1'
    have kx := kind_or (List.all_eq_true.mp k.kx x hxm)
    have ky := kind_or (List.all_eq_true.mp k.ky x hxm)
    obtain ⟨m, _, hl⟩ := I.loc
    obtain ⟨u, r, l⟩ := hl j x v hN hσ (by rcases kx with z | z; · exact .inr (.inl z)
                                           · exact .inr (.inr z))
    refine ⟨u, r, .inr ⟨ky, ?_⟩⟩
    rcases l with ⟨z, _⟩ | ⟨_, c, e, q⟩
    · rcases kx with w | w <;> (rw [w] at z; cases z)
    · obtain ⟨d, hd⟩ := closL_has _ _ _ k.clos x (.inl (relabel_lookup k.cell ky))
      have := sub x d hd
      rw [e] at this; cases this
      exact ⟨c, hd, cellH q⟩
  · obtain ⟨v, q⟩ := cellX x c e
    exact ⟨v, cellH q⟩
  · unfold scV
    show _ = (own ++ fr).length
    have := congrArg List.length k.pick
    simp only [List.length_map] at this
    simp [this]

theorem comp_back {pins : List (Addr × Obj)} {σ σc : L2.St} {H H' : Hp} {s s' : Shared} {h' : Heap} {fp : List Addr} (I : Inv X pins σ H s) (hf : ∀ b ∈ fp, FpOk X pins H b)
    (J : Inv (compCx X (own ++ fr) scope cl s.heap.objs.size s H fp) [] σc H' s') (hs : Heap.SameBut s.heap.objs.size s'.heap h') : Inv X pins σ H' { s' with heap := h' } := by
  have u : Un (frs X.stack) fp H H' s.heap s'.heap := J.base
  have ne : ∀ b o, s.heap.get? b = some o → b ≠ s.heap.objs.size := fun b o e => Nat.ne_of_lt (Heap.lt_size e)
  have u' : Un (frs X.stack) fp H H' s.heap h' := ⟨fun b o e n h1 h2 => (hs.2 b (ne b o e)).trans (u.keep b o e n h1 h2), fun b o e n h1 h2 => by
      obtain ⟨sl, q⟩ := u.slot b o e n h1 h2
      exact ⟨sl, (hs.2 b (ne b o e)).trans q⟩, u.free, fun b o e h2 => by
      obtain ⟨o', q⟩ := u.there b o e h2
      exact ⟨o', (hs.2 b (ne b o e)).trans q⟩, u.tups, u.frzs, u.tbls⟩
  have hfree : H' s.heap.objs.size = none := J.free
  have hok : HOk X.prog X.w H' h' := fun b ob e => by
    refine (J.hok b ob e).stay (fun c w' hc q => (hs.2 c ?_).trans q) (fun _ q => q) fun _ _ q => q
    rintro rfl
    rcases hc with rfl | hc
    · rw [hfree] at e; cases e
    · rw [hfree] at hc; cases hc
  exact I.call' (s' := { s' with heap := h' }) J.os u' hok J.bare fun b hb => ⟨(hf b hb).2.2.2.1, (hf b hb).2.1, (hf b hb).2.2.2.2.1, (hf b hb).2.2.2.2.2⟩

theorem compLoop_tests {prog : Program} {w : World} {A : Around} {R : Result → Shared → Prop} {s : Shared} {elt target iter : Expr} {ifs : List Expr} {scope : Scope} {pos : Pos} {it acc : Value} {env : Env} (I : Nat → Shared → Prop)
    (turn : ∀ n s, I n s → wpAny (model prog w) A (pyNext it) (fun r s₁ => match r with
      | none => R (.ok .next) s₁
      | some v => wpAny (model prog w) A (letOwnedTupleGo target it v) (fun _ s₁ => wpAny (model prog w) A (assign target env v) (fun _ s₂ =>
          wpAny (model prog w) A (forIn ifs true fun c r => if r = true then do let ok ← isTrue c env (eval c env); pure (ForInStep.yield ok) else pure (ForInStep.yield r)) (fun ok s₃ =>
            if ok = true then wpAny (model prog w) A (eval elt env) (fun x s₄ =>
              wpAny (model prog w) A (call (.builtin "list.append") [acc, x]) (fun _ s₅ => ∃ m, m < n ∧ I m s₅) (fun _ _ => False) s₄) (fun _ _ => False) s₃
            else ∃ m, m < n ∧ I m s₃) (fun _ _ => False) s₂) (fun _ _ => False) s₁) (fun _ _ => False) s₁) (fun _ _ => False) s)
    (n : Nat) (h : I n s) :
    codeAny (model prog w) A (.compLoop (.ListComp elt [⟨target, iter, ifs, 0⟩] scope pos) 0 it acc env) R s := by
  refine codeAny_loop rfl I (fun n s hI => ?_) n h
  show wpAny _ A ((compTurn (.ListComp elt [⟨target, iter, ifs, 0⟩] scope pos) 0 it acc env).onRaise (fun x => do noteFrame x env; theTreesLotGoes x)) _ _ s
  refine wpAny_noted ?_
  rw [compTurn_list]
  refine wpAny_bind (wpAny_standAt (wpAny_bind (wpAny_mono (turn n s hI) (fun r s₁ h₁ => ?_) fun _ _ h' => h'.elim)))
  cases r with
  | none => exact wpAny_pure h₁
  | some v =>
    refine wpAny_bind (wpAny_mono h₁ (fun _ s₁ h₁ => ?_) fun _ _ h' => h'.elim)
    refine wpAny_bind (wpAny_mono h₁ (fun _ s₂ h₂ => wpAny_bind (wpAny_mono h₂ (fun ok s₃ h₃ => ?_) fun _ _ h' => h'.elim)) fun _ _ h' => h'.elim)
    cases ok with
    | false => exact wpAny_pure ⟨rfl, h₃⟩
    | true =>
      exact wpAny_bind (wpAny_bind (wpAny_mono h₃ (fun x s₄ h₄ => wpAny_bind (wpAny_mono h₄ (fun _ s₅ h₅ => wpAny_pure (wpAny_pure ⟨rfl, h₅⟩)) fun _ _ h' => h'.elim)) fun _ _ h' => h'.elim))

noncomputable def PTs (X : Cx) (ifs : List Expr) (t : TT) : Prop :=
  ∀ (pins : List (Addr × Obj)) (s : Shared) (σ : L2.St) (H : Hp) (Q : Bool → Hp → Prop), Inv X pins σ H s → t σ H Q →
    wpAny (model X.prog X.w) X.A (forIn ifs true fun c r => if r = true then do let ok ← isTrue c X.env (eval c X.env); pure (ForInStep.yield ok) else pure (ForInStep.yield r)) (TP X pins σ Q) X.xe s
theorem pts_nil : PTs X [] (fun _ H Q => Q true H) := fun _ _ _ H _ I h => wpAny_tests_nil ⟨H, I, h⟩
theorem pts_one {c : Expr} {t : TT} (h : PT X c t) : PTs X [c] t := fun pins s σ H Q I q => wpAny_tests_one (h pins s σ H Q I q)

theorem comp_block {tg iter elt : Expr} {ifs : List Expr} {pos : Pos} {g : TG} {tc : TT} {te : TE} {pins : List (Addr × Obj)} {σ : L2.St} {H2 : Hp} {s2 : Shared} {it : Addr} {fp : List Addr} {tn : Nat → Heap → Prop} {J : It} {Q : VK}
    {RR : Value → Addr → Result → Shared → Prop} {E : Value → Shared → Prop}
    (hc : X.calm = true) (k : CompOk X own fr is scope cl)
    (hg : ∀ C s3 H3 fp, PG (compCx X (own ++ fr) scope cl C s3 H3 fp) tg g) (ht : ∀ C s3 H3 fp, PTs (compCx X (own ++ fr) scope cl C s3 H3 fp) ifs tc) (he : ∀ C s3 H3 fp, PE (compCx X (own ++ fr) scope cl C s3 H3 fp) elt te)
    (I2 : Inv X pins σ H2 s2) (T : Turn X.prog X.w X.K tg J fp it tn) (st2 : tn 0 s2.heap) (f2 : ∀ b ∈ fp, FpOk X pins H2 b)
    (q : ∀ D, H2 D = none → ∃ W : Nat → Nat → L2.St → Hp → Prop, (∃ m, W 0 m (scV own.length is σ) (upd H2 D (.lst []))) ∧ ∀ i m σc H, W i m σc H →
      (J.stop i H ∧ Q (.ref D) H) ∨ (J.go i H ∧ ∀ x H', J.yld i H x H' → g x σc H' fun σ2 H2 => tc σ2 H2 fun b H3 =>
        if b = true then te σ2 H3 fun y H4 => ∃ ys m', H4 D = some (.lst ys) ∧ ys.length < lim ∧ m' < m ∧ W (i + 1) m' σ2 (upd H4 D (.lst (ys ++ [y]))) else ∃ m', m' < m ∧ W (i + 1) m' σ2 H3))
    (hRR : ∀ D C H' s', (∃ m, s'.heap.Ns C m) → (∀ h', Heap.SameBut C s'.heap h' → Inv X pins σ H' { s' with heap := h' }) → H' C = none → s2.heap.objs.size ≤ C → Q (.ref D) H' → RR (.ref D) C (.ok .next) s') :
    wpAny (model X.prog X.w) X.A (newList []) (fun acc s₃ => wpAny (model X.prog X.w) X.A (newFunctionEnv scope X.env.globals cl [] X.env.qual none .none (some X.env)) (fun cenv s₄ =>
      codeAny (model X.prog X.w) X.A (.compStart (.ListComp elt [⟨tg, iter, ifs, 0⟩] scope pos) 0 (.ref it) acc { cenv with scope := relabel scope X.env }) (RR acc cenv.locals) s₄) E s₃) E s2 := by
  refine wpAny_newObj_type (wpAny_newFunctionEnv k.cell (by intro y hy; simp at hy) (fun h₁ hns₁ hsb₁ => ?_) k.kind)
  have I3 : Inv X pins σ (upd H2 s2.heap.objs.size (.lst [])) { s2 with heap := s2.heap.push { cls := .type "list", data := .seq ([] : List Value).toArray } } := I2.lnew (t' := s2.toks) (its := []) .nil (Nat.zero_le _)
  have hD : H2 s2.heap.objs.size = none := I2.fresh
  obtain ⟨W, ⟨m0, w0⟩, turn⟩ := q _ hD
  have hlt : ∀ b ∈ fp, b < s2.heap.objs.size := fun b hb => by
    obtain ⟨o, e, _⟩ := T.obj _ _ st2 b hb
    exact Heap.lt_size e
  have f3 : ∀ b ∈ fp, FpOk X pins (upd H2 s2.heap.objs.size (.lst [])) b ∧ b < (s2.heap.push { cls := .type "list", data := .seq ([] : List Value).toArray }).objs.size := fun b hb =>
    ⟨⟨by rw [upd_ne (Nat.ne_of_lt (hlt b hb))]; exact (f2 b hb).1, (f2 b hb).2⟩, by rw [Heap.size_push]; exact Nat.lt_succ_of_lt (hlt b hb)⟩
  have J0 := comp_inv (tk := s2.toks + ([] : List (Str × Value)).length) k I3 f3 hns₁ hsb₁
  have kept : ∀ b o, s2.heap.get? b = some o → h₁.get? b = some o := fun b o e => (hsb₁.2 b (by
      show b ≠ (s2.heap.push _).objs.size
      rw [Heap.size_push]
      exact Nat.ne_of_lt (Nat.lt_succ_of_lt (Heap.lt_size e)))).trans (Heap.get?_push_of_some _ (Heap.get?_push_of_some _ e))
  have st4 : tn 0 h₁ := T.keep _ _ _ st2 fun b _ o e => kept b o e
  have stat : ∀ {H' : Hp}, (∀ b ∈ fp, H' b = none) → ∀ b ∈ fp, FpOk (compCx X (own ++ fr) scope cl (s2.heap.push { cls := .type "list", data := .seq ([] : List Value).toArray }).objs.size { s2 with heap := s2.heap.push { cls := .type "list", data := .seq ([] : List Value).toArray } } (upd H2 s2.heap.objs.size (.lst [])) fp) [] H' b := fun hn b hb =>
    ⟨hn b hb, Nat.ne_of_lt (f3 b hb).2, fun z => J0.ok.exfs b hb z, .inl hb, fun x c e => (J0.ok.exf b hb).2 x c e, fun p hp => absurd hp (by simp)⟩
  have loop : codeAny (model X.prog X.w) X.A (.compLoop (.ListComp elt [⟨tg, iter, ifs, 0⟩] scope pos) 0 (.ref it) (.ref s2.heap.objs.size) (compEnvC scope cl (s2.heap.push { cls := .type "list", data := .seq ([] : List Value).toArray }).objs.size X.env))
      (RR (.ref s2.heap.objs.size) (s2.heap.push { cls := .type "list", data := .seq ([] : List Value).toArray }).objs.size) { s2 with heap := h₁, toks := s2.toks + ([] : List (Str × Value)).length } := by
    refine compLoop_tests (fun n s' => ∃ i σ' H', Inv (compCx X (own ++ fr) scope cl (s2.heap.push { cls := .type "list", data := .seq ([] : List Value).toArray }).objs.size { s2 with heap := s2.heap.push { cls := .type "list", data := .seq ([] : List Value).toArray } } (upd H2 s2.heap.objs.size (.lst [])) fp) [] σ' H' s' ∧ tn i s'.heap ∧ (∀ b ∈ fp, H' b = none) ∧ W i n σ' H') ?_ m0
      ⟨0, _, _, J0, st4, fun b hb => (f3 b hb).1.1, w0⟩
    rintro n s3 ⟨i, σ3, H3, I3', st3, fr3, w3⟩
    rcases turn i n σ3 H3 w3 with ⟨stop, qn⟩ | ⟨go, step⟩
    · refine thn (T.done (compCx X (own ++ fr) scope cl _ _ _ fp) rfl rfl rfl hc i [] s3 σ3 H3 (fun _ _ => False) I3' (stat fr3) st3 stop) fun r s4 ⟨hr, I4⟩ => ?_
      subst hr
      obtain ⟨m, hm, _⟩ := I4.loc
      refine hRR _ _ H3 s4 ⟨m, hm⟩ (fun h' hs' => ?_) I4.free ?_ qn
      · have := comp_back I3 (fun b hb => (f3 b hb).1) I4 hs'
        exact this
      · show s2.heap.objs.size ≤ (s2.heap.push _).objs.size
        rw [Heap.size_push]
        exact Nat.le_succ _
    · refine thn (T.item (compCx X (own ++ fr) scope cl _ _ _ fp) rfl rfl rfl hc i [] s3 σ3 H3 (fun _ _ => False) I3' (stat fr3) st3 go) fun r s4 ⟨u, hr, h4⟩ => ?_
      subst hr
      refine thn h4 fun _ s5 ⟨x, H5, I5, r5, y5, st5, fr5⟩ => ?_
      have I5' := I5.pinned (stat fr5) (T.obj _ _ st5)
      refine thn (hg _ _ _ _ _ s5 σ3 H5 x u _ I5' r5 (step x H5 y5)) fun _ s6 ⟨σ6, H6, I6, q6⟩ => ?_
      refine thn (ht _ _ _ _ _ s6 σ6 H6 _ I6 q6) fun ok s7 ⟨H7, I7, q7⟩ => ?_
      have back : ∀ {σ7 : L2.St} {H7 : Hp} {s7 : Shared} {m' : Nat}, Inv (compCx X (own ++ fr) scope cl (s2.heap.push { cls := .type "list", data := .seq ([] : List Value).toArray }).objs.size { s2 with heap := s2.heap.push { cls := .type "list", data := .seq ([] : List Value).toArray } } (upd H2 s2.heap.objs.size (.lst [])) fp) ([] ++ pinsAt fp s5.heap) σ7 H7 s7 → m' < n → W (i + 1) m' σ7 H7 →
          ∃ m, m < n ∧ ∃ i σ' H', Inv (compCx X (own ++ fr) scope cl (s2.heap.push { cls := .type "list", data := .seq ([] : List Value).toArray }).objs.size { s2 with heap := s2.heap.push { cls := .type "list", data := .seq ([] : List Value).toArray } } (upd H2 s2.heap.objs.size (.lst [])) fp) [] σ' H' s7 ∧ tn i s7.heap ∧ (∀ b ∈ fp, H' b = none) ∧ W i m σ' H' := fun {σ7 H7 s7 m'} I7 hm w7 => by
        refine ⟨m', hm, i + 1, σ7, H7, I7.unpinned, T.keep _ _ _ st5 fun b hb o e => (I7.pin (b, o) (List.mem_append_right _ (List.mem_append_right _ (mem_pinsAt hb e)))).1, fun b hb => ?_, w7⟩
        obtain ⟨o, e, d⟩ := T.obj _ _ st5 b hb
        exact (I7.pin (b, o) (List.mem_append_right _ (List.mem_append_right _ (mem_pinsAt hb e)))).2.1
      cases ok with
      | false =>
        try dsimp only at q7
        try dsimp only
        rw [if_neg (by simp)] at q7 ⊢
        obtain ⟨m', hm, w7⟩ := q7
        exact back I7 hm w7
      | true =>
        try dsimp only at q7
        try dsimp only
        rw [if_pos rfl] at q7 ⊢
        refine thn (he _ _ _ _ _ s7 σ6 H7 _ I7 q7) fun y s8 ⟨v, H8, I8, r8, ys, m', e8, l8, hm, w8⟩ => ?_
        refine thn (mt_append _ s8 σ6 H8 (.ref s2.heap.objs.size) [v] (.ref s2.heap.objs.size) [y] (fun _ H9 => W (i + 1) m' σ6 H9) I8 rfl (.cons r8 .nil) ⟨_, ys, v, rfl, rfl, e8, Nat.lt_of_lt_of_le l8 lim_line, w8⟩) fun _ s9 ⟨_, H9, I9, _, w9⟩ => ?_
        exact back I9 hm w9
  exact codeAny_compStart_list loop (T.self X.A 0 _ _ _ st4 loop)

theorem pe_comp {tg iter elt : Expr} {ifs : List Expr} {pos : Pos} {wi : TI} {g : TG} {tc : TT} {te : TE} (hc : X.calm = true) (k : CompOk X own fr is scope cl) (hi : PI X tg iter wi)
    (hg : ∀ C s3 H3 fp, PG (compCx X (own ++ fr) scope cl C s3 H3 fp) tg g) (ht : ∀ C s3 H3 fp, PTs (compCx X (own ++ fr) scope cl C s3 H3 fp) ifs tc) (he : ∀ C s3 H3 fp, PE (compCx X (own ++ fr) scope cl C s3 H3 fp) elt te)
    (hs : ∀ x, foldedSetIterable iter X.env x = pure x := by intro _; rfl) : PE X (.ListComp elt [⟨tg, iter, ifs, 0⟩] scope pos) (tComp wi (scV own.length is) g tc te) := by
  intro pins s σ H Q I h
  rw [eval_ListComp]
  refine wpAny_comprehension_free (use := none) rfl hs (clos_of k.clos) k.kind k.names (thn (hi pins s σ H _ I h) fun v s1 h1 => thn h1 fun itv s2 h2 => ?_)
  obtain ⟨it, fp, tn, J, H2, e, I2, T, st2, f2, q⟩ := h2
  subst e
  refine comp_block (RR := fun acc C => compPost (model X.prog X.w) X.A X.xe none (EP X pins σ Q) acc C) hc k hg ht he I2 T st2 f2 q ?_
  intro D C H' s' hm hI _ _ qD
  obtain ⟨m, hm⟩ := hm
  exact ⟨m, hm, fun h' hs' => ⟨.ref D, H', hI h' hs', rfl, qD⟩⟩
theorem ps_setComp {tg iter elt : Expr} {ifs : List Expr} {pos pos' spos : Pos} {wi : TI} {g : TG} {tc : TT} {te : TE} {i : Nat} {x : Str} (hN : X.N.Nodup) (hx : X.N[i]? = some x) (hloc : X.env.scope.names.lookup x = some .local)
    (hc : X.calm = true) (k : CompOk X own fr is scope cl) (hi : PI X tg iter wi)
    (hg : ∀ C s3 H3 fp, PG (compCx X (own ++ fr) scope cl C s3 H3 fp) tg g) (ht : ∀ C s3 H3 fp, PTs (compCx X (own ++ fr) scope cl C s3 H3 fp) ifs tc) (he : ∀ C s3 H3 fp, PE (compCx X (own ++ fr) scope cl C s3 H3 fp) elt te)
    (hsw : swapsWith (.ListComp elt [⟨tg, iter, ifs, 0⟩] scope pos) (some (.Name x pos')) spos.line X.env = pure true)
    (hs : ∀ x, foldedSetIterable iter X.env x = pure x := by intro _; rfl) : PS X (.Assign [.Name x pos'] (.ListComp elt [⟨tg, iter, ifs, 0⟩] scope pos) spos) (tAsg (tComp wi (scV own.length is) g tc te) (gName i)) := by
  intro pins s σ H D I h
  rw [exec_Assign_Name_used _ _ _ _ hsw]
  refine wpAny_bind (wpAny_standAt (wpAny_bind ?_))
  show wpAny _ X.A (do let _ ← comprehension (.ListComp elt [⟨tg, iter, ifs, 0⟩] scope pos) scope X.env _ (newList []) false (eval iter X.env) (some (assign (.Name x pos') X.env))) _ _ s
  refine wpAny_bind (wpAny_mono (wpAny_comprehension_free (use := some (assign (.Name x pos') X.env)) (Q := fun _ s' => SP X pins D .next s') rfl hs (clos_of k.clos) k.kind k.names
    (thn (hi pins s σ H _ I h) fun v s1 h1 => thn h1 fun itv s2 h2 => ?_)) (fun _ s' hq => wpAny_pure (wpAny_pure hq)) fun _ _ e => e)
  obtain ⟨it, fp, tn, J, H2, e, I2, T, st2, f2, q⟩ := h2
  subst e
  refine comp_block (Q := fun v H1 => D.nx (σ.set i (some v)) H1) (RR := fun acc C => compPost (model X.prog X.w) X.A X.xe (some (assign (.Name x pos') X.env)) (fun _ s' => SP X pins D .next s') acc C) hc k hg ht he I2 T st2 f2 q ?_
  intro A C H' s' hm hI hC hne qD
  obtain ⟨m, hm⟩ := hm
  show wpAny _ X.A (assign (.Name x pos') X.env (.ref A)) _ _ _
  have I' : Inv X pins σ H' s' := hI s'.heap (Heap.SameBut.refl ..)
  refine wpAny_assign_Name (store_ok2 (v := .ref A) I' hN hx (.inl hloc) rfl (fun s'' I'' hch => ?_) (.inr hloc))
  obtain ⟨a, sb, ha⟩ := hch
  have old : ∀ b o, s2.heap.get? b = some o → C ≠ b := fun b o e z => by
    subst z
    exact absurd (Nat.lt_of_lt_of_le (Heap.lt_size e) hne) (Nat.lt_irrefl _)
  have hl : ∃ o, s2.heap.get? X.env.locals = some o := let ⟨_, ⟨o, _, _, ho, _⟩, _⟩ := I2.loc; ⟨o, ho⟩
  have hcl : ∀ y c, X.env.cells.lookup y = some c → C ≠ c := fun y c e => by
    obtain ⟨v, o, ho, _⟩ := I2.cell y c e
    exact old c o ho
  have haC : C ≠ a := by
    rcases ha with rfl | ha
    · obtain ⟨o, ho⟩ := hl
      exact old _ o ho
    · exact hcl x a ha
  refine ⟨m, hm.sameBut sb haC, fun h3 hs3 => ⟨σ.set i (some (.ref A)), H', ?_, qD⟩⟩
  refine I''.turned (t' := s''.toks) (fun b o hb e => (hs3.2 b hb).trans e) hC ?_ (.inr (Nat.le_trans I2.sz hne)) (fun y c e => Ne.symm (hcl y c e)) fun p hp => ?_
  · obtain ⟨o, ho⟩ := hl
    exact old _ o ho
  · exact Ne.symm (old _ _ (I2.pin p hp).1)
end
end TL
/-! ModelC -/
set_option linter.all false
set_option maxRecDepth 100000
namespace TL
open PySem PySem.Spec PyProof.Rows L2

section
variable {X : Cx}
/-! ### ==, !=, in, not in -/
theorem op_eqT (hu : X.A.units + 20 < cLine) : OpR X (compareOp .Eq) (rEqT X.K false) := by
  intro pins s σ H x y u v Q I rx ry h
  obtain ⟨t1, t2, b, h1, h2, e, q⟩ := h
  have q' : Q (.bl b) H := q
  have fin : EP X pins σ Q (.bool b) s := ⟨.bl b, H, I, rfl, q'⟩
  by_cases hl : ∃ xs ys, t1 = .lst xs ∧ t2 = .lst ys
  · obtain ⟨xs, ys, rfl, rfl⟩ := hl
    unfold RT at h1 h2
    obtain ⟨a, vs, e1, q1, k1⟩ := h1
    obtain ⟨c, ws, e2, q2, k2⟩ := h2
    subst e1 e2
    cases rx
    cases ry
    obtain ⟨is, v1, p1, z1⟩ := I.list q1
    obtain ⟨js, v2, p2, z2⟩ := I.list q2
    have l1 := v1.length
    have l2 := v2.length
    unfold eqT at e
    split at e
    · rename_i hlen
      obtain ⟨f, f1, f2⟩ := eqL_at (A := X.A.in1) (fun t1 t2 x y u v b a1 a2 a3 a4 a5 => eqT_at I _ X.A.in1 t1 t2 x y u v b (by show X.A.units + 1 + 4 < cLine; omega) a1 a2 a3 a4 a5) k1 k2 v1 v2 e
      refine SeqAt.eq_listAt (e := f) p1.isList p2.isList (by rw [List.size_toArray, List.size_toArray, ← l1, ← l2, k1.length, k2.length]; exact hlen) (by omega) (fun j h1 h2 =>
        f1 j _ _ (by simp) (by simp)) ?_
      rw [List.size_toArray, f2]
      exact fin
    · rename_i hlen
      cases e
      refine SeqAt.eq_list_lengthsAt p1.isList p2.isList ?_ (by omega) fin
      rw [List.size_toArray, List.size_toArray, ← l1, ← l2, k1.length, k2.length]
      simpa using hlen
  · have e' : eqF t1 t2 = some b := by
      unfold eqT at e
      split at e
      · exact absurd ⟨_, _, rfl, rfl⟩ hl
      · exact e
    unfold eqF at e'
    split at e'
    · cases e'; unfold RT at h1 h2; subst h1 h2; cases rx; cases ry; exact SeqAt.RcAt.bool_bool _ _ _ _ _ _ fin
    · cases e'; unfold RT at h1 h2; subst h1 h2; obtain ⟨t, rfl⟩ := rx; obtain ⟨t', rfl⟩ := ry; exact SeqAt.RcAt.int_int _ _ _ _ _ _ _ _ fin
    · cases e'; unfold RT at h1 h2; subst h1 h2; obtain ⟨t, rfl⟩ := rx; obtain ⟨t', rfl⟩ := ry; exact SeqAt.RcAt.str_str _ _ _ _ _ _ _ _ fin
    · cases e'
theorem op_neT (hu : X.A.units + 20 < cLine) : OpR X (compareOp .NotEq) (rEqT X.K true) := by
  intro pins s σ H x y u v Q I rx ry h
  obtain ⟨t1, t2, b, h1, h2, e, q⟩ := h
  have q' : Q (.bl (!b)) H := q
  have fin : EP X pins σ Q (.bool (!b)) s := ⟨.bl (!b), H, I, rfl, q'⟩
  by_cases hl : ∃ xs ys, t1 = .lst xs ∧ t2 = .lst ys
  · obtain ⟨xs, ys, rfl, rfl⟩ := hl
    unfold RT at h1 h2
    obtain ⟨a, vs, e1, q1, k1⟩ := h1
    obtain ⟨c, ws, e2, q2, k2⟩ := h2
    subst e1 e2
    cases rx
    cases ry
    obtain ⟨is, v1, p1, z1⟩ := I.list q1
    obtain ⟨js, v2, p2, z2⟩ := I.list q2
    have l1 := v1.length
    have l2 := v2.length
    unfold eqT at e
    split at e
    · rename_i hlen
      obtain ⟨f, f1, f2⟩ := eqL_at (A := X.A.in1) (fun t1 t2 x y u v b a1 a2 a3 a4 a5 => eqT_at I _ X.A.in1 t1 t2 x y u v b (by show X.A.units + 1 + 4 < cLine; omega) a1 a2 a3 a4 a5) k1 k2 v1 v2 e
      refine SeqAt.RcNeAt.lists (e := f) p1.isList p2.isList (by rw [List.size_toArray, List.size_toArray, ← l1, ← l2, k1.length, k2.length]; exact hlen) (by omega) (fun j h1 h2 =>
        f1 j _ _ (by simp) (by simp)) _ _ _ _ ?_
      rw [List.size_toArray, f2]
      exact fin
    · rename_i hlen
      cases e
      refine SeqAt.RcNeAt.lists_lengths p1.isList p2.isList ?_ (by omega) _ _ _ _ fin
      rw [List.size_toArray, List.size_toArray, ← l1, ← l2, k1.length, k2.length]
      simpa using hlen
  · have e' : eqF t1 t2 = some b := by
      unfold eqT at e
      split at e
      · exact absurd ⟨_, _, rfl, rfl⟩ hl
      · exact e
    unfold eqF at e'
    split at e'
    · cases e'; unfold RT at h1 h2; subst h1 h2; exact op_ne pins s σ H _ _ u v Q I rx ry ⟨rfl, by rw [dec_bl]; exact q'⟩
    · cases e'; unfold RT at h1 h2; subst h1 h2; exact op_ne pins s σ H _ _ u v Q I rx ry ⟨rfl, by rw [dec_int]; exact q'⟩
    · cases e'; unfold RT at h1 h2; subst h1 h2; exact op_ne pins s σ H _ _ u v Q I rx ry ⟨rfl, by rw [dec_str]; exact q'⟩
    · cases e'

theorem inL_at {t : T} {x : V} {u : Value} {A : Around} {pins : List (Addr × Obj)} {s : Shared} {σ : L2.St} {H : Hp} (I : Inv X pins σ H s) (hu : A.units + 5 < cLine) (h : RT X.K H [] t x) (r : RelV x u) :
    ∀ {ts : List T} {vs : List V} {is : List Value} {b : Bool}, RTs X.K H [] ts vs → Vals vs is → inL (fun y => eqT 5 y t) ts = some b → ∃ rs : List (Value × Bool), rs.map (·.1) = is ∧ (∀ p ∈ rs, SeqAt.EqAt A s p.1 u p.2) ∧ b = rs.any (·.2)
  | [], _, _, b, h1, v1, q => by
    cases q
    rw [h1.nil_inv] at v1
    cases v1
    exact ⟨[], rfl, (fun p hp => nomatch hp), rfl⟩
  | t' :: ts, _, _, b, h1, v1, q => by
    obtain ⟨v, r', rfl, a1, a2⟩ := h1.cons_inv
    unfold inL at q
    obtain ⟨c, q1, q⟩ := Option.bind_eq_some_iff.mp q
    obtain ⟨d, q2, q⟩ := Option.map_eq_some_iff.mp q
    cases v1 with
    | cons x1 y1 =>
      obtain ⟨rs, w1, w2, w3⟩ := inL_at I hu h r a2 y1 q2
      refine ⟨(_, c) :: rs, by rw [List.map_cons, w1], fun p hp => ?_, by rw [List.any_cons, ← w3, q]⟩
      rcases List.mem_cons.mp hp with rfl | hp
      · exact eqT_at I 5 A t' t _ _ _ _ c hu a1 h x1 r q1
      · exact w2 p hp
open Classical in
noncomputable def ansOf (rs : List (Value × Bool)) (y : Value) : Bool := if ∃ p ∈ rs, p.1 = y ∧ p.2 = true then true else false
theorem ans_at {A : Around} {s : Shared} {u y : Value} {rs : List (Value × Bool)} (h : ∀ p ∈ rs, SeqAt.EqAt A s p.1 u p.2) (hy : y ∈ rs.map (·.1)) : SeqAt.EqAt A s y u (ansOf rs y) := by
  unfold ansOf
  split
  · rename_i he
    obtain ⟨p, hp, rfl, e⟩ := he
    rw [← e]; exact h p hp
  · rename_i hn
    obtain ⟨p, hp, rfl⟩ := List.mem_map.mp hy
    have : p.2 = false := by
      cases e : p.2 with
      | false => rfl
      | true => exact absurd ⟨p, hp, rfl, e⟩ hn
    rw [← this]; exact h p hp
theorem ans_any {rs : List (Value × Bool)} : (rs.map (·.1)).any (ansOf rs) = rs.any (·.2) := by
  rw [Bool.eq_iff_iff, List.any_eq_true, List.any_eq_true]
  constructor
  · rintro ⟨y, hy, e⟩
    unfold ansOf at e
    split at e
    · rename_i he
      obtain ⟨p, hp, _, e⟩ := he
      exact ⟨p, hp, e⟩
    · cases e
  · rintro ⟨p, hp, e⟩
    refine ⟨p.1, List.mem_map.mpr ⟨p, hp, rfl⟩, ?_⟩
    unfold ansOf
    rw [if_pos ⟨p, hp, rfl, e⟩]
theorem op_inT (hu : X.A.units + 20 < cLine) : OpR X (compareOp .In) (rInT X.K false) := by
  intro pins s σ H x y u v Q I rx ry h
  obtain ⟨t, p, vs, ts, b, h1, rfl, hq, hs, e, q⟩ := h
  cases ry
  obtain ⟨is, v1, p1, z1⟩ := I.list hq
  obtain ⟨rs, w1, w2, w3⟩ := inL_at (A := X.A.in1) I (by show X.A.units + 1 + 5 < cLine; omega) h1 rx hs v1 e
  subst w1
  refine SeqAt.in_listAt (ansOf rs) p1.isList (fun y hy => ans_at w2 (by simpa using hy)) ?_
  rw [show (rs.map (·.1)).toArray.any (ansOf rs) = (rs.map (·.1)).any (ansOf rs) by simp, ans_any, ← w3]
  exact ⟨.bl b, H, I, rfl, q⟩
theorem op_notInT (hu : X.A.units + 20 < cLine) : OpR X (compareOp .NotIn) (rInT X.K true) := by
  intro pins s σ H x y u v Q I rx ry h
  obtain ⟨t, p, vs, ts, b, h1, rfl, hq, hs, e, q⟩ := h
  cases ry
  obtain ⟨is, v1, p1, z1⟩ := I.list hq
  obtain ⟨rs, w1, w2, w3⟩ := inL_at (A := X.A.in1) I (by show X.A.units + 1 + 5 < cLine; omega) h1 rx hs v1 e
  subst w1
  refine SeqAt.notIn_listAt (ansOf rs) p1.isList (fun y hy => ans_at w2 (by simpa using hy)) ?_
  rw [show (rs.map (·.1)).toArray.any (ansOf rs) = (rs.map (·.1)).any (ansOf rs) by simp, ans_any, ← w3]
  exact ⟨.bl (!b), H, I, rfl, q⟩

/-! ### a, b = a list -/
theorem draw_list {prog : Program} {w : World} {A : Around} {E : Value → Shared → Prop} {it t : Addr} {items : Array Value} (hne : t ≠ it) : ∀ (n i : Nat) (s : Shared) (Q : List Value → Shared → Prop), s.heap.IsListIter it t i → s.heap.IsList t items → i + n ≤ items.size →
    (∀ h', h'.IsListIter it t (i + n) → Heap.SameBut it s.heap h' → Q ((items.toList.drop i).take n) { s with heap := h' }) → wpAny (model prog w) A (draw (.ref it) n) Q E s
  | 0, i, s, Q, hit, _, _, hQ => by
    show wpAny _ _ (pure []) Q E s
    exact wpAny_pure (by simpa using hQ s.heap hit (Heap.SameBut.refl ..))
  | n + 1, i, s, Q, hit, ht, hle, hQ => by
    have hlt : i < items.size := by omega
    show wpAny _ _ (pyNext (.ref it) >>= _) Q E s
    refine wpAny_bind (wpAny_pyNext_list_item hit ht (x := items[i]) (by simp [hlt]) fun h₁ hit₁ hs₁ => ?_)
    refine wpAny_bind (wpAny_holding (draw_list hne n (i + 1) _ _ hit₁ (ht.extBut hs₁.extBut hne) (by omega) fun h₂ hit₂ hs₂ => wpAny_pure ?_))
    have hd : items.toList.drop i = items[i] :: items.toList.drop (i + 1) := by simp [List.drop_eq_getElem_cons, hlt]
    have := hQ h₂ (by rw [show i + (n + 1) = i + 1 + n by omega]; exact hit₂) (hs₁.trans hs₂)
    rw [hd, List.take_succ_cons] at this
    exact this
theorem unpackItems_list {prog : Program} {w : World} {A : Around} {E : Value → Shared → Prop} {s : Shared} {t : Addr} {items : Array Value} {Q : List Value → Shared → Prop} (hh : A.handled = none) (ht : s.heap.IsList t items)
    (hQ : ∀ h', Heap.ExtBut s.heap.objs.size s.heap h' → Q items.toList { s with heap := h' }) : wpAny (model prog w) A (unpackItems (.ref t) items.size none) Q E s := by
  have hlt : t ≠ s.heap.objs.size := by obtain ⟨o, ho, _⟩ := ht; exact Nat.ne_of_lt (Heap.lt_size ho)
  unfold unpackItems
  refine wpAny_bind ?_
  · unfold notIterableAtAll
    refine wpAny_bind (wpAny_specialOf ht.typeIs slot_list_iter.lookup ?_)
    refine wpAny_pure ?_
    simp only [Bool.false_eq_true, if_false]
    refine wpAny_bind (wpAny_holding (wpAny_pyIter_list ht ?_))
    refine wpAny_bind (wpAny_holding (draw_list hlt items.size 0 _ _ ⟨_, Heap.get?_push_size _ rfl, rfl, rfl⟩ (ht.push _) (by omega) fun h₁ hit₁ hs₁ => ?_))
    have hall : List.take items.size (List.drop 0 items.toList) = items.toList := by
      rw [List.drop_zero]; exact List.take_of_length_le (by simp)
    rw [hall]
    rw [if_neg (by simp)]
    have ht₁ : h₁.IsList t items := (ht.push _).extBut hs₁.extBut hlt
    refine wpAny_bind (wpAny_holding (wpAny_pyNext_list_end hh hit₁ ht₁ (by simp) fun h₂ he₂ => ?_))
    simp only [Option.isSome_none, Bool.false_eq_true, if_false]
    refine wpAny_pure (hQ h₂ fun b o hb e => he₂ b o hb (hs₁.extBut b o hb (Heap.get?_push_of_some _ e)))
noncomputable def gLst (K : PySem.W.Frag) (n : Nat) (t : TGs) : TG := fun v σ H Q => ∃ a xs, v = .ref a ∧ (SqL K H a xs ∨ SqT K H a xs) ∧ xs.length = n ∧ t xs σ H Q
theorem pg_lst {es : List Expr} {k : Nat} {t : TGs} {n : Nat} {pos : Pos} (hc : X.calm = true) (h : PGs X es t)
    (hn : (assignEach es X.env).length = n := by rfl) (hst : (assignEach es X.env).findIdx? (·.1) = none := by rfl) : PG X (.Tuple es k pos) (gLst X.K n t) := by
  intro pins s σ H v u Q I r hw
  obtain ⟨a, xs, e1, hq, hl, hw⟩ := hw
  rcases hq with hq | hq
  · subst e1
    cases r
    obtain ⟨its, rv, ht, hz⟩ := I.list hq
    rw [assign_Tuple]
    refine wpAny_bind (wpAny_standAt ?_)
    unfold unpack
    have hn' : (assignEach es X.env).length = its.toArray.size := by simp [hn, ← hl, rv.length]
    rw [hn', hst]
    refine wpAny_bind (wpAny_holding (unpackItems_list (I.ok.hd hc) ht.isList fun h' hx => ?_))
    have I1 : Inv X pins σ H { s with heap := h' } := I.kept (t' := s.toks) fun b o e => hx b o (Nat.ne_of_lt (Heap.lt_size e)) e
    exact h pins _ σ H xs _ Q I1 (by simpa using rv) hw
  · exact pg_tup hc h hn hst pins s σ H v u Q I r ⟨a, xs, e1, hq, hl, hw⟩
/-! ### x is True, x is False -/
end
end TL
/-! TreeH -/
set_option linter.all false
namespace TL
open PySem L2
noncomputable def Itz (K : PySem.W.Frag) (l1 l2 : Addr) : It :=
  ⟨fun i H => ∃ xs ys x y, SqL K H l1 xs ∧ SqL K H l2 ys ∧ xs[i]? = some x ∧ ys[i]? = some y,
   fun i H v H' => ∃ p x y, H p = none ∧ v = .ref p ∧ H' = upd H p (.tup [x, y]) ∧ (∀ xs, SqL K H l1 xs → xs[i]? = some x) ∧ ∀ ys, SqL K H l2 ys → ys[i]? = some y,
   fun i H => ∃ xs ys, SqL K H l1 xs ∧ SqL K H l2 ys ∧ (xs[i]? = none ∨ ys[i]? = none)⟩
noncomputable def iZip (K : PySem.W.Frag) (t : TA) : TI := fun σ H R => t σ H fun vs H1 => ∃ l1 l2, vs = [.ref l1, .ref l2] ∧ (∃ xs, SqL K H1 l1 xs) ∧ (∃ ys, SqL K H1 l2 ys) ∧ R (Itz K l1 l2) H1
noncomputable def zipT (ts us : List T) : List T := (ts.zip us).map fun p => .tup [p.1, p.2]
section
variable {K : PySem.W.Frag} {σ : L2.St} {H : Hp} {Q : VK}
theorem there_list {Z : Addr → Prop} {H1 : Hp} {ρ1 : Rho} {H₀ : Hp} {τ : TSt} {C : Sto} {σ : L2.St} {t : T} {ts : List T} {a : Addr} (R1 : Rel K H₀ Z ρ1 τ C σ H1) (h1 : RT K (mask H1 Z ρ1) ρ1 t (.ref a)) (e2 : liT C t = some ts)
    {H₀' : Hp} {Z' : Addr → Prop} {ρ' : Rho} {τ' : TSt} {C' : Sto} {σ' : L2.St} {H : Hp} (R' : Rel K H₀' Z' ρ' τ' C' σ' H) (sm : Same (mask H1 Z ρ1) (mask H Z' ρ')) (ix : ∀ (c : Nat) (a : Addr), ρ1[c]? = some a → ρ'[c]? = some a) (st' : stays t ts C' ∨ Same H1 H) :
      ∃ ws, SqL K H a ws ∧ RTs K (mask H Z' ρ') ρ' ts ws := by
  rcases st' with st' | st'
  · have h2 := h1.mono sm ix
    have e3 : liT C' t = some ts := by
      cases t with
      | cell c => exact st'
      | lst us => exact e2
      | _ => cases e2
    obtain ⟨a', ws, ev', q', r'⟩ := R'.li h2 e3
    cases ev'
    exact ⟨ws, q', r'⟩
  · obtain ⟨a', ws, ev', q', r'⟩ := R1.li h1 e2
    cases ev'
    exact ⟨ws, st'.seq q', r'.mono sm ix⟩
theorem wlk_zip {Z : Addr → Prop} {H1 : Hp} {ρ1 : Rho} {H₀ : Hp} {τ : TSt} {C : Sto} {σ : L2.St} {t u : T} {ts us : List T} {a b : Addr} (R1 : Rel K H₀ Z ρ1 τ C σ H1) (h1 : RT K (mask H1 Z ρ1) ρ1 t (.ref a)) (e1 : liT C t = some ts)
    (h2 : RT K (mask H1 Z ρ1) ρ1 u (.ref b)) (e2 : liT C u = some us) : Wlk K (Itz K a b) Z H1 ρ1 (zipT ts us) (fun C => stays t ts C ∧ stays u us C) := by
  refine ⟨fun i t' H₀ Z' ρ' τ' C' σ H ht R' sm ix st' => ?_, fun H₀ Z' ρ' τ' C' σ H R' sm ix st' => ?_⟩
  · obtain ⟨ws, q1, r1⟩ := there_list R1 h1 e1 R' sm ix (st'.imp (·.1) id)
    obtain ⟨xs, q2, r2⟩ := there_list R1 h2 e2 R' sm ix (st'.imp (·.2) id)
    unfold zipT at ht
    rw [List.getElem?_map] at ht
    obtain ⟨⟨x1, x2⟩, hz, rfl⟩ := Option.map_eq_some_iff.mp ht
    obtain ⟨z1, z2⟩ := List.getElem?_zip_eq_some.mp hz
    obtain ⟨v1, hv1, rv1⟩ := r1.get z1
    obtain ⟨v2, hv2, rv2⟩ := r2.get z2
    refine ⟨⟨ws, xs, v1, v2, q1, q2, hv1, hv2⟩, fun x H' hy => ?_⟩
    obtain ⟨p, y1, y2, hp, rfl, rfl, k1, k2⟩ := hy
    have w1 := k1 ws q1
    have w2 := k2 xs q2
    rw [hv1] at w1; cases w1
    rw [hv2] at w2; cases w2
    exact ⟨(R'.alloc hp).2.same, R'.alloc_tup hp (.cons rv1 (.cons rv2 .nil))⟩
  · obtain ⟨ws, q1, r1⟩ := there_list R1 h1 e1 R' sm ix (st'.imp (·.1) id)
    obtain ⟨xs, q2, r2⟩ := there_list R1 h2 e2 R' sm ix (st'.imp (·.2) id)
    refine ⟨ws, xs, q1, q2, ?_⟩
    have hl : (zipT ts us).length = min ts.length us.length := by simp [zipT]
    rw [hl]
    rcases Nat.le_total ts.length us.length with h | h
    · exact .inl (List.getElem?_eq_none (by rw [r1.length, Nat.min_eq_left h]; exact Nat.le_refl _))
    · exact .inr (List.getElem?_eq_none (by rw [r2.length, Nat.min_eq_right h]; exact Nat.le_refl _))
noncomputable def fCompZ (f1 f2 : FE) (k : Nat) (is : List Nat) (g : FG) (tc : FB) (fe : FE) : FN := fun τ C => (f1 τ C).bind fun p => (f2 τ p.2).bind fun q => (liT q.2 p.1).bind fun ts => (liT q.2 q.1).bind fun us =>
  if (zipT ts us).length < lim then compGo g tc fe (scT k is τ) (zipT ts us) q.2 else none
theorem i_compZ {f1 f2 : FE} {k : Nat} {is : List Nat} {g : FG} {tc : FB} {fe : FE} (hg : Own k g) (h : trN K (fCompZ f1 f2 k is g tc fe) σ H Q) : tComp (iZip K (trA K (fCons f1 (fCons f2 fNil)))) (scV k is) (trG K g) (trT K tc) (trE K fe) σ H Q := by
  obtain ⟨H₀, Z, ρ, τ, C, ys, C', R, e, q⟩ := h
  unfold fCompZ at e
  obtain ⟨⟨t, C1⟩, e1, e⟩ := Option.bind_eq_some_iff.mp e
  obtain ⟨⟨u, C2⟩, e2, e⟩ := Option.bind_eq_some_iff.mp e
  obtain ⟨ts, e3, e⟩ := Option.bind_eq_some_iff.mp e
  obtain ⟨us, e4, e⟩ := Option.bind_eq_some_iff.mp e
  split at e
  · rename_i hl
    refine ⟨H₀, Z, ρ, τ, C, [t, u], C2, R, by simp [fCons, fNil, e1, e2], fun vs H1 ρ1 R1 h1 s1 => ?_⟩
    obtain ⟨v, r, rfl, q1, q2⟩ := h1.cons_inv
    obtain ⟨v', r', rfl, q3, q4⟩ := q2.cons_inv
    rw [q4.nil_inv]
    obtain ⟨a, vs, ea, qa, ra⟩ := R1.li q1 e3
    obtain ⟨b, ws, eb, qb, rb⟩ := R1.li q3 e4
    subst ea eb
    exact ⟨a, b, rfl, ⟨vs, qa⟩, ⟨ws, qb⟩, fun D hD => comp_any R1 hg (wlk_zip R1 q1 e3 q3 e4) hl e hD fun p H' ρ' vs R' hp rv s' => q p H' ρ' vs R' hp rv (s1.trans s')⟩
  · cases e
noncomputable def fRev (f : FE) : FN := fun τ C => (f τ C).bind fun p => (liT p.2 p.1).map fun ts => (ts.reverse, p.2)
end
end TL
/-! TreeI -/
set_option linter.all false
namespace TL
open PySem L2
noncomputable def maxD (d : Int) (ns : List Int) : Int := if ns.isEmpty then d else maxL ns
noncomputable def gMaxD (t1 t2 : T) (C : Sto) : Option (T × Sto) := match t2 with
  | .int d => (liT C t1).bind fun us => (ints? us).map fun ns => (.int (maxD d ns), C)
  | _ => none
noncomputable abbrev fMaxD (a b : FE) : FE := fBin a b gMaxD
end TL
/-! TreeJ -/
set_option linter.all false
namespace TL
open PySem L2
noncomputable def gIndex (t1 t2 : T) (C : Sto) : Option (T × Sto) := match t2 with
  | .int k => (liT C t1).bind fun us => (ints? us).bind fun ns => if k ∈ ns then some (.int (ns.idxOf k), C) else none
  | _ => none
noncomputable def fForRv (f : FE) (g : FG) (F : FS) : FS := fun τ C => (f τ C).bind fun p => (liT p.2 p.1).bind fun ts => forGo (stays p.1 ts) g F ts.reverse τ p.2
end TL
/-! TreeK -/
set_option linter.all false
namespace TL
open PySem L2
noncomputable def frz1 (C : Sto) : Option T → Option (Option T)
  | none => some none
  | some t => (dr 3 C t).map some
noncomputable def frz (C : Sto) : TSt → Option TSt
  | [] => some []
  | o :: τ => (frz1 C o).bind fun o' => (frz C τ).map (o' :: ·)
noncomputable def fFrz (F : FS) : FS := fun τ C => (F τ C).bind fun r => match r with
  | (.nx, τ1, C1) => (frz C1 τ1).map fun τ2 => (.nx, τ2, [])
  | r => some r
noncomputable def trS0 (K : PySem.W.Frag) (W : XW) (F : FS) : TS := fun D σ H => ∃ H₀ Z ρ τ C fl τ' C', Rel K H₀ Z ρ τ C σ H ∧ F τ C = some (fl, τ', C') ∧
  ∀ σ' H' ρ', Rel K H₀ Z ρ' τ' C' σ' H' → EndF K W D Z ρ' fl σ' H'
section
variable {K : PySem.W.Frag} {σ : St} {H : Hp} {D : Ends} {F G : FS} {Q : VK}
theorem trS0.to (h : trS0 K W F D σ H) : trS K W F D σ H := by
  obtain ⟨H₀, Z, ρ, τ, C, fl, τ', C', R, e, k⟩ := h
  exact ⟨H₀, Z, ρ, τ, C, fl, τ', C', R, e, fun σ' H' ρ' R' _ => k σ' H' ρ' R'⟩
theorem frz_len {C : Sto} : ∀ {τ τ' : TSt}, frz C τ = some τ' → τ'.length = τ.length
  | [], _, e => by cases e; rfl
  | o :: τ, _, e => by
    obtain ⟨o', _, e⟩ := Option.bind_eq_some_iff.mp e
    obtain ⟨τ2, e2, e⟩ := Option.map_eq_some_iff.mp e
    cases e
    simp [frz_len e2]
theorem frz_get {C : Sto} : ∀ {τ τ' : TSt} {i : Nat} {t' : T}, frz C τ = some τ' → τ'[i]? = some (some t') → ∃ t, τ[i]? = some (some t) ∧ dr 3 C t = some t'
  | [], _, _, _, e, h => by cases e; simp at h
  | o :: τ, _, i, t', e, h => by
    obtain ⟨o', e1, e⟩ := Option.bind_eq_some_iff.mp e
    obtain ⟨τ2, e2, e⟩ := Option.map_eq_some_iff.mp e
    cases e
    cases i with
    | zero =>
      simp at h
      subst h
      cases o with
      | none => cases e1
      | some t =>
        obtain ⟨u, e3, e4⟩ := Option.map_eq_some_iff.mp e1
        cases e4
        exact ⟨t, rfl, e3⟩
    | succ i =>
      obtain ⟨t, h1, h2⟩ := frz_get (i := i) e2 (by simpa using h)
      exact ⟨t, by simpa using h1, h2⟩
theorem Rel.frz {H₀ : Hp} {Z : Addr → Prop} {ρ : Rho} {τ τ' : TSt} {C : Sto} (R : Rel K H₀ Z ρ τ C σ H) (e : TL.frz C τ = some τ') : Rel K H₀ Z [] τ' [] σ H := by
  refine ⟨R.old, by simp, .nil, R.zd, fun i t' h => ?_, fun c a h => by simp at h, rfl, by rw [frz_len e]; exact R.lnt⟩
  obtain ⟨t, h1, h2⟩ := frz_get e h
  obtain ⟨v, h3, h4⟩ := R.loc i t h1
  exact ⟨v, h3, R.dr _ _ _ _ h4 h2⟩
end
end TL
/-! ModelX -/
set_option linter.all false
namespace TL
open PySem PySem.Spec PyProof.Rows L2

section
variable {P : Program} {w : World} {H H' : Hp} {h h' : Heap} {a : Addr} {o : HO}
theorem obj_there (x : ObjOk P w H h a o) : ∃ ob, h.get? a = some ob := by
  cases o with
  | lst xs => obtain ⟨_, _, _, _, e⟩ := x; exact ⟨_, e⟩
  | tup xs => obtain ⟨_, _, _, ob, e, _⟩ := x; exact ⟨_, e⟩
  | dK kvs => obtain ⟨_, _, _, _, o, _, _, e, _⟩ := x; exact ⟨_, e⟩
  | dT kvs => obtain ⟨_, _, _, _, o, _, _, e, _⟩ := x; exact ⟨_, e⟩
  | set S n => obtain ⟨o, _, _, _, e, _⟩ := x; exact ⟨_, e⟩
  | ins C dx fs => obtain ⟨_, _, _, e, _⟩ := x; exact ⟨_, e⟩
  | own y => obtain ⟨_, e⟩ := x; exact ⟨_, e⟩
  | xd fs => obtain ⟨_, ⟨_, _, _, e, _⟩, _⟩ := x; exact ⟨_, e⟩
  | rng lo hi => obtain ⟨_, _, _, e⟩ := x; exact ⟨_, e⟩
  | frz ob u => obtain ⟨e, _⟩ := x; exact ⟨_, e⟩
  | tbl ps => exact ⟨_, (show h.get? a = some _ from x)⟩
  | met f y => exact ⟨_, (show h.get? a = some _ from x)⟩
  | ext φ => obtain ⟨_, ⟨_, e⟩, _⟩ := x; exact ⟨_, e⟩
theorem hok_trk (x : HOk P w H h) (k : ∀ b u ob, H b = some u → h.get? b = some ob → h'.get? b = some ob) : HOk P w H h' := fun a o e =>
  (x a o e).stay (fun b u hb q => by
    rcases hb with rfl | hb
    · exact k _ _ _ e q
    · exact k _ _ _ hb q) (fun _ q => q) fun _ _ q => q
end

noncomputable def Named (K : PySem.W.Frag) (c : String) (C : Addr) : Prop := PySem.W.nsIn K mainGlobals (Str.ofString c) = some (some (.ref C))

structure Aloft (P : Program) (w : World) (K : PySem.W.Frag) (l : List Env) (H : Hp) (s : Shared) (c : String) (H' : Hp) (C : Addr) (B : Heap) (s' : Shared) : Prop where
  nm : Named K c C
  os : s'.os = s.os
  bare : AllBare s'.gens
  un : Un (frs l) [] H H' s.heap s'.heap
  hok : HOk P w H' s'.heap
  keepB : ∀ b o, s.heap.get? b = some o → H b = none → b ∉ frs l → B.get? b = some o
  trkB : ∀ b u o, H' b = some u → s'.heap.get? b = some o → B.get? b = some o
  thereB : ∀ b o, s.heap.get? b = some o → b ∉ frs l → ∃ o', B.get? b = some o'
noncomputable def Flies (B : Heap) (l : List Env) (a C : Addr) (s' : Shared) : Prop := ∃ t, Heap.FlyingW B l a (.ref C) (.ref t) s'.heap
noncomputable def Made (B : Heap) (l : List Env) (a C : Addr) (s' : Shared) : Prop := ∃ h vs, B.StaysIn h ∧ h.FunFrames B l ∧ Heap.MadeExcOf h s'.heap a (.ref C) vs
noncomputable def wish (X : Cx) : XW := fun c σ H' => ∀ pins H s a C B s', Inv X pins σ H s → Aloft X.prog X.w X.K X.stack H s c H' C B s' → (Made B X.stack a C s' ∨ Flies B X.stack a C s') → X.xe (.ref a) s'
noncomputable def CX1 (P : Program) (w : World) (K : PySem.W.Frag) : CXT := fun l H s E e s' => ∃ c a C B H', e = .ref a ∧ Aloft P w K l H s c H' C B s' ∧ Flies B l a C s' ∧ E (.type c) none H'

section
variable {X : Cx} {pins : List (Addr × Obj)} {σ : L2.St} {H H' : Hp} {s s' : Shared} {c : String} {C a : Addr} {B : Heap}
theorem Aloft.out {h' : Heap} {t : Addr} (I : Inv X pins σ H s) (hex : X.ex = []) (A : Aloft X.prog X.w X.K X.stack H s c H' C B s') (F : Heap.FlyingW B X.outer a (.ref C) (.ref t) h') (sm : s'.heap.UpToSlots h') :
    Aloft X.prog X.w X.K X.outer X.H₀ X.s₀ c H' C B { s' with heap := h' } := by
  have nx : ∀ b : Addr, b ∉ X.ex := fun b => by rw [hex]; simp
  have old : ∀ b o, X.s₀.heap.get? b = some o → b ∉ X.fs → b ∉ frs X.stack := fun b o e n z => by
    rcases List.mem_cons.mp (I.stkSub b z) with q | q
    · have := Nat.lt_of_lt_of_le (Heap.lt_size e) I.ok.above
      rw [q] at this
      exact Nat.lt_irrefl _ this
    · exact n q
  have stay : ∀ b u o, H' b = some u → s'.heap.get? b = some o → h'.get? b = some o := fun b u o e q => F.1 b o (A.trkB b u o e q)
  have keepB : ∀ b o, X.s₀.heap.get? b = some o → X.H₀ b = none → b ∉ X.fs → B.get? b = some o := fun b o e n nf =>
    A.keepB b o (I.base.keep b o e n nf (nx b)) (I.base.free b o e n (nx b)) (old b o e nf)
  have thereB : ∀ b o, X.s₀.heap.get? b = some o → b ∉ X.fs → ∃ o', B.get? b = some o' := fun b o e nf => by
    obtain ⟨o1, e1⟩ := I.base.there b o e (nx b)
    exact A.thereB b o1 e1 (old b o e nf)
  have frm : ∀ b ∈ X.fs, ∃ o, X.s₀.heap.get? b = some o ∧ ∀ vs, o.data ≠ .fields vs := fun b hb => (I.ok.funs.mem hb).2
  have slot : ∀ b o, X.s₀.heap.get? b = some o → X.H₀ b = none → b ∈ X.fs → ∃ sl, h'.get? b = some { o with slots := sl } := fun b o e n hb => by
    obtain ⟨sl1, e1⟩ := I.base.slot b o e n hb (nx b)
    obtain ⟨sl2, e2⟩ := A.un.any e1 (I.base.free b o e n (nx b)) (by simp)
    obtain ⟨o', e', nd⟩ := frm b hb
    rw [e] at e'; cases e'
    obtain ⟨sl3, e3⟩ := sm b _ e2 nd
    exact ⟨sl3, e3⟩
  refine ⟨A.nm, A.os.trans I.os, A.bare, ⟨fun b o e n nf _ => F.1 b o (keepB b o e n nf), fun b o e n hb _ => slot b o e n hb, fun b o e n _ => A.un.free b _ (I.base.any e n (nx b)).choose_spec (I.base.free b o e n (nx b)) (by simp), fun b o e _ => ?_, fun b xs e => A.un.tups b xs (I.base.tups b xs e), fun b o u e => A.un.frzs b o u (I.base.frzs b o u e), fun b ps e => ?_⟩, hok_trk A.hok stay, keepB, fun b u o e q => ?_, thereB⟩
  · by_cases hb : b ∈ X.fs
    · obtain ⟨sl, e'⟩ := slot b o e (I.ok.frf b hb) hb
      exact ⟨_, e'⟩
    · obtain ⟨o', e'⟩ := thereB b o e hb
      exact ⟨o', F.1 b o' e'⟩
  · obtain ⟨m1, e1⟩ := I.base.tbls b ps e
    obtain ⟨m2, e2⟩ := A.un.tbls b _ e1
    exact ⟨m1 ++ m2, by rw [e2, Array.append_assoc]⟩
  · obtain ⟨ob, eo⟩ := obj_there (A.hok b u e)
    have := stay b u ob e eo
    rw [show ({ s' with heap := h' } : Shared).heap.get? b = h'.get? b from rfl] at q
    have q2 := q.symm.trans this
    cases q2
    exact A.trkB b u _ e eo
end
section
variable {P : Program} {w : World} {K : PySem.W.Frag} {mg : Str → Option Value} {base : Heap} {N : List Str} {qual : Str} {scope : Scope} {f : Addr} {cd : Value} {A : Around} {outer : List Env} {s : Shared} {H : Hp} {E : XK}
theorem wish_fn {c : String} {σ : L2.St} {H' : Hp} (h : E (.type c) none H') : wish (cxOf (CX1 P w K) P w K mg base N qual scope f cd A outer s H E) c σ H' := by
  intro pins H1 s1 a C B s' I al fl
  have hfr := I.ok.frames
  rcases fl with ⟨h0, vs, st, ff, me⟩ | ⟨t, F⟩
  · refine wpAny_leaves_madeW (A := A.deeper (envOfC qual scope s.heap.objs.size f cd)) hfr rfl st ff me fun h' t F _ _ sm => ?_
    exact ⟨c, a, C, B, H', rfl, al.out I rfl F sm, ⟨t, F⟩, h⟩
  · refine wpAny_leaves_onW (A := A.deeper (envOfC qual scope s.heap.objs.size f cd)) hfr rfl F fun h' F' sm => ?_
    exact ⟨c, a, C, B, H', rfl, al.out I rfl F' sm, ⟨t, F'⟩, h⟩
end
end TL
/-! ModelD -/
set_option linter.all false
set_option maxRecDepth 100000
namespace TL
open PySem PySem.Spec PyProof.Rows L2

noncomputable abbrev QE (X : Cx) (e : Expr) (f : FE) : Prop := PE X e (trE X.K f)
noncomputable abbrev QN (X : Cx) (e : Expr) (f : FN) : Prop := PE X e (trN X.K f)
noncomputable abbrev QA (X : Cx) (e : List Expr) (f : FN) : Prop := PA X e (trA X.K f)
noncomputable abbrev QT (X : Cx) (e : Expr) (f : FB) : Prop := PT X e (trT X.K f)
noncomputable abbrev QW (X : Cx) (e : Expr) (f : FB) : Prop := PW X e (trT X.K f)
noncomputable abbrev QO (X : Cx) (e : Option Expr) (f : FO) : Prop := PO X e (trO X.K f)
noncomputable abbrev QS (X : Cx) (e : Stmt) (f : FS) : Prop := PS X e (trS X.K (wish X) f)
noncomputable abbrev QSs (X : Cx) (e : List Stmt) (f : FS) : Prop := PSs X e (trS X.K (wish X) f)
noncomputable abbrev QG (X : Cx) (e : Expr) (g : FG) : Prop := PG X e (trG X.K g)
noncomputable abbrev QTs (X : Cx) (e : List Expr) (f : FB) : Prop := PTs X e (trT X.K f)
theorem PTs.imp {X : Cx} {e : List Expr} {t t' : TT} (h : PTs X e t) (hi : ∀ σ H Q, t' σ H Q → t σ H Q) : PTs X e t' := fun pins s σ H Q I q => h pins s σ H Q I (hi σ H Q q)

theorem mulOk_of {i j : Int} (h : mulOkB i j = true) : IntMulOk i j := by
  unfold mulOkB at h
  unfold IntMulOk
  intro z
  rw [z] at h
  cases h
section
variable {X : Cx} {a b c e : Expr} {es : List Expr} {fa fb fc f : FE} {fr fn : FN} {ga gb : FB} {pos p p2 : Pos} {j : Nat}

theorem q_var (i : Nat) {x : Str} (hN : X.N[i]? = some x := by rfl) (hv : Vis X.env.scope x := by first | exact Or.inl rfl | exact Or.inr (Or.inl rfl) | exact Or.inr (Or.inr rfl)) (hd : (x == ("__debug__" : Str)) = false := by decide)
    (hcd : (x == ("__classdict__" : Str)) = false := by decide) : QE X (.Name x pos) (fVar i) := (pe_var hN hv hd hcd).imp fun _ _ _ => i_var
theorem q_int {i : Int} {k} : QE X (.Constant (.int i) k pos) (fC (.int i)) := pe_int.imp fun _ _ _ => i_C fun _ _ => .int
theorem q_bl {i : Bool} {k} : QE X (.Constant (.bool i) k pos) (fC (.bl i)) := pe_bl.imp fun _ _ _ => i_C fun _ _ => .bl
theorem q_non {k} : QE X (.Constant .none k pos) (fC .non) := pe_non.imp fun _ _ _ => i_C fun _ _ => .non
theorem q_str {i : Str} {k} : QE X (.Constant (.str i) k pos) (fC (.str i)) := pe_str.imp fun _ _ _ => i_C fun _ _ => .str

/-! ### ints -/
theorem q_add (ha : QE X a fa) (hb : QE X b fb) : QE X (.BinOp a .Add b pos) (fBin fa fb (gI fun i j => .int (i + j))) := (pe_op op_add ha hb).imp fun _ _ _ => i_op fun _ _ _ _ _ => o_I fun _ _ _ _ => .int
theorem q_sub (ha : QE X a fa) (hb : QE X b fb) : QE X (.BinOp a .Sub b pos) (fBin fa fb (gI fun i j => .int (i - j))) := (pe_op op_sub ha hb).imp fun _ _ _ => i_op fun _ _ _ _ _ => o_I fun _ _ _ _ => .int
theorem op_mulG : OpR X (binaryOp .Mult) (rI IntMulOk fun i j => .int (i * j)) := opI fun _ _ _ _ _ _ _ hc q => mul_int q hc
theorem q_mul (ha : QE X a fa) (hb : QE X b fb) : QE X (.BinOp a .Mult b pos) (fBin fa fb (gIc mulOkB fun i j => .int (i * j))) := (pe_op op_mulG ha hb).imp fun _ _ _ => i_op fun _ _ _ _ _ h => by
  obtain ⟨i, j, h1, h2, h3, q⟩ := o_Ic (g := fun i j => .int (i * j)) (fun _ _ _ _ => .int) h
  exact ⟨i, j, h1, h2, mulOk_of h3, q⟩
theorem q_mod (ha : QE X a fa) (hb : QE X b fb) : QE X (.BinOp a .Mod b pos) (fBin fa fb (gIc (fun _ j => decide (0 < j)) fun i j => .int (i % j))) := (pe_op op_mod ha hb).imp fun _ _ _ => i_op fun _ _ _ _ _ h => by
  obtain ⟨i, j, h1, h2, h3, q⟩ := o_Ic (g := fun i j => .int (i % j)) (fun _ _ _ _ => .int) h
  exact ⟨i, j, h1, h2, of_decide_eq_true h3, q⟩
theorem q_fdiv (ha : QE X a fa) (hb : QE X b fb) : QE X (.BinOp a .FloorDiv b pos) (fBin fa fb (gIc (fun _ j => decide (0 < j ∧ j < 1073741824)) fun i j => .int (i / j))) := (pe_op op_fdiv ha hb).imp fun _ _ _ => i_op fun _ _ _ _ _ h => by
  obtain ⟨i, j, h1, h2, h3, q⟩ := o_Ic (g := fun i j => .int (i / j)) (fun _ _ _ _ => .int) h
  have h4 : 0 < j ∧ j < 1073741824 := of_decide_eq_true h3
  exact ⟨i, j, h1, h2, h4, q⟩
theorem q_pow (ha : QE X a fa) (hb : QE X b fb) : QE X (.BinOp a .Pow b pos) (fBin fa fb (gIc (fun i j => decide (0 ≤ j ∧ j ≤ 1000000 ∧ i.natAbs < 2 ^ 64)) fun i j => .int (i ^ j.toNat))) := (pe_op op_pow ha hb).imp fun _ _ _ => i_op fun _ _ _ _ _ h => by
  obtain ⟨i, j, h1, h2, h3, q⟩ := o_Ic (g := fun i j => .int (i ^ j.toNat)) (fun _ _ _ _ => .int) h
  have h4 : 0 ≤ j ∧ j ≤ 1000000 ∧ i.natAbs < 2 ^ 64 := of_decide_eq_true h3
  exact ⟨i, j, h1, h2, h4, q⟩
theorem q_neg (ha : QE X a fa) : QE X (.UnaryOp .USub a pos) (fUn fa gNeg) := (pe_un un_neg ha).imp fun _ _ _ h => trE_mono (i_un h) fun _ _ q => o_neg q

/-! ### comparisons -/
theorem q_cmp {op : CmpOp} {r : R2} {g : T → T → Sto → Option (T × Sto)} (ho : OpR X (compareOp op) r) (hg : ∀ σ H Q x y, (∃ t1 t2, trV X.K σ [t1, t2] [x, y] (g t1 t2) H Q) → r x y H Q) (ha : QE X a fa) (hb : QE X b fb) (hm : behindInMarks op b = false) :
    QE X (.Compare a [op] [b] pos) (fBin fa fb g) := (pe_cmpR ho ha hb hm).imp fun _ _ _ => i_op hg
theorem t_cmp {op : CmpOp} {r : R2} {g : T → T → Sto → Option (T × Sto)} (ho : OpR X (compareOp op) r) (hg : ∀ σ H Q x y, (∃ t1 t2, trV X.K σ [t1, t2] [x, y] (g t1 t2) H Q) → r x y H Q) (ha : QE X a fa) (hb : QE X b fb) (hm : behindInMarks op b = false) :
    QT X (.Compare a [op] [b] pos) (fTst (fBin fa fb g)) := (pt_cmpR ho ha hb hm).imp fun _ _ _ => i_tst fun _ _ _ => i_op hg
noncomputable abbrev gLt := gI fun i j => .bl (decide (i < j))
noncomputable abbrev gGt := gI fun i j => .bl (decide (j < i))
theorem q_lt (ha : QE X a fa) (hb : QE X b fb) : QE X (.Compare a [.Lt] [b] pos) (fBin fa fb gLt) := q_cmp op_lt (fun _ _ _ _ _ => o_I fun _ _ _ _ => .bl) ha hb (nomark _)
theorem q_gt (ha : QE X a fa) (hb : QE X b fb) : QE X (.Compare a [.Gt] [b] pos) (fBin fa fb gGt) := q_cmp op_gt (fun _ _ _ _ _ => o_I fun _ _ _ _ => .bl) ha hb (nomark _)
theorem t_lt (ha : QE X a fa) (hb : QE X b fb) : QT X (.Compare a [.Lt] [b] pos) (fTst (fBin fa fb gLt)) := t_cmp op_lt (fun _ _ _ _ _ => o_I fun _ _ _ _ => .bl) ha hb (nomark _)
theorem t_gt (ha : QE X a fa) (hb : QE X b fb) : QT X (.Compare a [.Gt] [b] pos) (fTst (fBin fa fb gGt)) := t_cmp op_gt (fun _ _ _ _ _ => o_I fun _ _ _ _ => .bl) ha hb (nomark _)
theorem t_eq (hu : X.A.units + 20 < cLine) (ha : QE X a fa) (hb : QE X b fb) : QT X (.Compare a [.Eq] [b] pos) (fTst (fBin fa fb (gEq false))) := t_cmp (op_eqT hu) (fun _ _ _ _ _ => o_eq) ha hb (nomark _)
theorem t_ne (hu : X.A.units + 20 < cLine) (ha : QE X a fa) (hb : QE X b fb) : QT X (.Compare a [.NotEq] [b] pos) (fTst (fBin fa fb (gEq true))) := t_cmp (op_neT hu) (fun _ _ _ _ _ => o_eq) ha hb (nomark _)
theorem q_in (hu : X.A.units + 20 < cLine) (ha : QE X a fa) (hb : QE X b fb) (hm : behindInMarks .In b = false := by rfl) : QE X (.Compare a [.In] [b] pos) (fBin fa fb (gIn false)) := q_cmp (op_inT hu) (fun _ _ _ _ _ => o_in) ha hb hm
theorem t_in (hu : X.A.units + 20 < cLine) (ha : QE X a fa) (hb : QE X b fb) (hm : behindInMarks .In b = false := by rfl) : QT X (.Compare a [.In] [b] pos) (fTst (fBin fa fb (gIn false))) := t_cmp (op_inT hu) (fun _ _ _ _ _ => o_in) ha hb hm
theorem t_nin (hu : X.A.units + 20 < cLine) (ha : QE X a fa) (hb : QE X b fb) (hm : behindInMarks .NotIn b = false := by rfl) : QT X (.Compare a [.NotIn] [b] pos) (fTst (fBin fa fb (gIn true))) := t_cmp (op_notInT hu) (fun _ _ _ _ _ => o_in) ha hb hm
theorem q_chain_le_lt (ha : QE X a fa) (hb : QE X b fb) (hc : QE X c fc) (hm : lastMarks [.LtE, .Lt] [b, c] = false := by with_unfolding_all rfl) : QE X (.Compare a [.LtE, .Lt] [b, c] pos) (fChain fa fb fc (fun i j => decide (i ≤ j)) (fun i j => decide (i < j))) :=
  (pe_chain op_le op_lt ha hb hc hm).imp fun _ _ _ => i_chain
/-! ### and, or, not, if -/
theorem q_one {op} (ha : QE X a fa) : QE X (.BoolOp op [a] pos) fa := pe_one ha
theorem q_and (ha : QE X a fa) (hb : QE X (.BoolOp .And (b :: es) pos) fb) : QE X (.BoolOp .And (a :: b :: es) pos) (fAndV fa fb) := (pe_and ha hb).imp fun _ _ _ => i_andV
theorem q_not (ha : QE X a fa) : QE X (.UnaryOp .Not a pos) (fNotV fa) := (pe_not ha).imp fun _ _ _ => i_notV
theorem t_and1 (ha : QT X a ga) : QW X (.BoolOp .And [a] pos) ga := pw_and1 ha
theorem t_or1 (ha : QT X a ga) : QW X (.BoolOp .Or [a] pos) ga := pw_or1 ha
theorem t_and (ha : QT X a ga) (hb : QW X (.BoolOp .And (b :: es) pos) gb) : QW X (.BoolOp .And (a :: b :: es) pos) (fAndT ga gb) := (pw_and ha hb).imp fun _ _ _ => i_andT
theorem t_or (ha : QT X a ga) (hb : QW X (.BoolOp .Or (b :: es) pos) gb) : QW X (.BoolOp .Or (a :: b :: es) pos) (fOrT ga gb) := (pw_or ha hb).imp fun _ _ _ => i_orT
theorem t_w (h : QW X a ga) : QT X a ga := h.pt
theorem t_not (ha : QT X a ga) : QT X (.UnaryOp .Not a pos) (fNotT ga) := (pt_not ha).imp fun _ _ _ => i_notT
theorem t_tru (ha : QE X a fa) (he : ∀ whole, isTrue a X.env whole = (do let v ← whole; standAt a.pos; holding [v] (truthy v)) := by intro _; rfl) : QT X a (fTru fa) := (pt_truth ha he).imp fun _ _ _ => i_tru
/-! ### lists -/
theorem q_ix (ha : QE X a fa) (hb : QE X b fb) (hs : PlainIx b := by exact fun _ _ => rfl) : QE X (.Subscript a b pos) (fBin fa fb gIx) := (pe_ix ix_seq ha hb hs).imp fun _ _ _ => i_op fun _ _ _ _ _ => o_ix
theorem q_nopart : QO X none fNoPart := po_none.imp fun _ _ _ => i_noPart
theorem q_part (ha : QE X a fa) : QO X (some a) (fPart fa) := (po_some ha).imp fun _ _ _ => i_part
theorem n_slice {lo hi : Option Expr} {fl fh : FO} (ha : QE X a fa) (hl : QO X lo fl) (hh : QO X hi fh) : QN X (.Subscript a (.Slice lo hi none p2) pos) (fSl fa fl fh) := (pe_slice sl_list ha hl hh).imp fun _ _ _ => i_sl
theorem q_anil : QA X [] fNil := pa_nil.imp fun _ _ _ => i_nil
theorem q_acons (ha : QE X e f) (hr : QA X es fr) (hs : starEach (e :: es) X.env = (false, eval e X.env) :: starEach es X.env := by rfl) : QA X (e :: es) (fCons f fr) := (pa_cons ha hr hs).imp fun _ _ _ => i_cons
theorem n_disp (h : QA X es fr) : QN X (.List es pos) (fDisp fr) := (pe_lst h).imp fun _ _ _ => i_disp lim_line
theorem n_cat (ha : QE X a fa) (hb : QE X b fb) : QN X (.BinOp a .Add b pos) (fBinN fa fb gCat) := (pe_op op_catL ha hb).imp fun _ _ _ => i_opN fun _ _ _ _ _ => o_cat
theorem q_tree (h : QN X a fn) : QE X a (fTree fn) := PE.imp h fun _ _ _ => i_tree
theorem q_cell (h : QN X a fn) : QE X a (fCell fn) := PE.imp h fun _ _ _ => i_cell

/-! ### Python's own functions -/
section
variable {x : Str} {id : String}
theorem q_bi {r : List V → Hp → VK → Prop} {g : List T → Sto → Option (T × Sto)} (hc : CallR X (.builtin id) r) (ho : ∀ σ H Q xs, (∃ ts, trV X.K σ ts xs (g ts) H Q) → r xs H Q) (hv : bootBuiltins x = some (.builtin id)) (hm : X.mg x = none) (hg : Gl X x) (ha : QA X (e :: es) fr) (hn : x ≠ "__name__" := by decide) (hdb : (x == ("__debug__" : Str)) = false := by decide)
    (he : starEach (e :: es) X.env = (false, eval e X.env) :: starEach es X.env := by rfl) (hpl : (backTo pos (starEach es X.env)).any (·.1) = false := by rfl) : QE X (.Call (.Name x p) (e :: es) [] pos) (fArg fr g) :=
  (pe_callB hc hg hm hv ha hn hdb he hpl).imp fun _ _ _ => i_cb ho
end
theorem q_len (hm : X.mg "len" = none) (ha : QA X (e :: es) fr) (hg : Gl X "len" := by rfl) (he : starEach (e :: es) X.env = (false, eval e X.env) :: starEach es X.env := by rfl) (hpl : (backTo pos (starEach es X.env)).any (·.1) = false := by rfl) :
    QE X (.Call (.Name "len" p) (e :: es) [] pos) (fArg fr gLen) := q_bi call_len_seq (fun _ _ _ _ => o_len) PySem.boot_len hm hg ha (by decide) (by decide) he hpl

theorem q_max2 (hm : X.mg "max" = none) (hc : X.calm = true) (ha : QA X (e :: es) fr) (hg : Gl X "max" := by rfl) (he : starEach (e :: es) X.env = (false, eval e X.env) :: starEach es X.env := by rfl) (hpl : (backTo pos (starEach es X.env)).any (·.1) = false := by rfl) :
    QE X (.Call (.Name "max" p) (e :: es) [] pos) (fMax2 fr) := q_bi (call_max2 hc) (fun _ _ _ _ => o_I2) boot_max hm hg ha (by decide) (by decide) he hpl
theorem q_min2 (hm : X.mg "min" = none) (hc : X.calm = true) (ha : QA X (e :: es) fr) (hg : Gl X "min" := by rfl) (he : starEach (e :: es) X.env = (false, eval e X.env) :: starEach es X.env := by rfl) (hpl : (backTo pos (starEach es X.env)).any (·.1) = false := by rfl) :
    QE X (.Call (.Name "min" p) (e :: es) [] pos) (fMin2 fr) := q_bi (call_min2 hc) (fun _ _ _ _ => o_I2) boot_min hm hg ha (by decide) (by decide) he hpl
theorem q_all (hm : X.mg "all" = none) (hc : X.calm = true) (ha : QA X (e :: es) fr) (hg : Gl X "all" := by rfl) (he : starEach (e :: es) X.env = (false, eval e X.env) :: starEach es X.env := by rfl) (hpl : (backTo pos (starEach es X.env)).any (·.1) = false := by rfl) :
    QE X (.Call (.Name "all" p) (e :: es) [] pos) (fAll fr) := q_bi (call_allL hc) (fun _ _ _ _ => o_bls) boot_all hm hg ha (by decide) (by decide) he hpl
theorem q_int1 (hm : X.mg "int" = none) (ha : QA X (e :: es) fr) (hg : Gl X "int" := by rfl) (he : starEach (e :: es) X.env = (false, eval e X.env) :: starEach es X.env := by rfl) (hpl : (backTo pos (starEach es X.env)).any (·.1) = false := by rfl) :
    QE X (.Call (.Name "int" p) (e :: es) [] pos) (fInt1 fr) := (pe_callTy call_int1 hg hm boot_int ha (by decide) (by decide) he hpl).imp fun _ _ _ => i_cb fun _ _ _ _ => o_int1
theorem n_list (hm : X.mg "list" = none) (ha : QA X (e :: es) fr) (hg : Gl X "list" := by rfl) (he : starEach (e :: es) X.env = (false, eval e X.env) :: starEach es X.env := by rfl) (hpl : (backTo pos (starEach es X.env)).any (·.1) = false := by rfl) :
    QN X (.Call (.Name "list" p) (e :: es) [] pos) (fList fr) := (pe_callTy call_list_of hg hm boot_list ha (by decide) (by decide) he hpl).imp fun _ _ _ => i_cbN fun _ _ _ _ => o_list

/-! ### defs -/
structure DefT (P : Program) (w : World) (K : PySem.W.Frag) (mg : Str → Option Value) (base : Heap) (k : Nat) (x : Str) (n : Nat) (F : List T → Option T) : Prop where
  ex : ∃ f fd ps, FnOk P w K mg base CX0 k f fd ps (spT K n F) ∧ mg x = some (.ref f) ∧ PySem.W.keepIn K (.ref f) = true ∧ Binds K fd ps []
theorem q_call {k n : Nat} {x : Str} {F : List T → Option T} (D : DefT X.prog X.w X.K X.mg X.base k x n F) (hr : Room k X.A) (ha : QA X (e :: es) fr) (hg : Gl X x := by rfl) (hdb : (x == ("__debug__" : Str)) = false := by decide)
    (he : starEach (e :: es) X.env = (false, eval e X.env) :: starEach es X.env := by rfl) (hpl : (backTo pos (starEach es X.env)).any (·.1) = false := by rfl) : QE X (.Call (.Name x p) (e :: es) [] pos) (fCall n F fr) := by
  obtain ⟨f, fd, ps, G, hm, hk, hb⟩ := D.ex
  exact (pe_call (E := fun _ _ _ => False) G hr hg hm hk hb .nil (fun _ _ _ _ _ _ _ h => h.elim) ha hdb he hpl).imp fun _ _ _ => i_call
theorem hu20 {k : Nat} {A : Around} (hr : Room k A) : A.units + 20 < cLine := by have := hr.un; omega

/-! ### targets -/
theorem g_nm {x : Str} (hN : X.N.Nodup) (i : Nat) (hi : X.N[i]? = some x := by rfl) (hx : Loc X.env.scope x := by first | exact Or.inl rfl | exact Or.inr rfl) (hf : X.fn x = true ∨ X.env.scope.names.lookup x = some .local := by first | exact .inl rfl | exact .inr rfl) : QG X (.Name x pos) (gN i) :=
  (pg_name hN hi hx hf).imp fun _ _ _ _ => g_name
structure NG (X : Cx) (ts : List Expr) (is : List Nat) : Prop where
  h : PGs X ts (is.foldr (fun i g => gCons (gName i) g) gNil)
theorem g_nil : NG X [] [] := ⟨pgs_nil⟩
theorem g_cons {x : Str} {ts : List Expr} {is : List Nat} (hN : X.N.Nodup) (i : Nat) (h : NG X ts is) (hi : X.N[i]? = some x := by rfl) (hx : Loc X.env.scope x := by first | exact Or.inl rfl | exact Or.inr rfl) (hf : X.fn x = true ∨ X.env.scope.names.lookup x = some .local := by first | exact .inl rfl | exact .inr rfl)
    (hs : (assignEach (.Name x pos :: ts) X.env).map (·.2) = assign (.Name x pos) X.env :: (assignEach ts X.env).map (·.2) := by rfl) : NG X (.Name x pos :: ts) (i :: is) := ⟨pgs_cons (pg_name hN hi hx hf) h.h hs⟩
theorem gU_ok {K : PySem.W.Frag} {is : List Nat} {v : V} {σ : L2.St} {H : Hp} {Q : L2.St → Hp → Prop} (h : trG K (gU is) v σ H Q) : gLst K is.length (is.foldr (fun i g => gCons (gName i) g) gNil) v σ H Q := by
  obtain ⟨H₀, Z, ρ, τ, C, t, τ', R, r, e, k⟩ := h
  unfold gU at e
  obtain ⟨ts, e1, e⟩ := Option.bind_eq_some_iff.mp e
  split at e
  · rename_i hl
    cases e
    obtain ⟨a, vs, ea, qa, ra⟩ := R.sq r e1
    exact ⟨a, vs, ea, qa, by rw [ra.length]; exact hl, Rel.setAll R ra hl k⟩
  · cases e
theorem g_tup {ts : List Expr} {is : List Nat} {k : Nat} (hc : X.calm = true) (h : NG X ts is) (hn : (assignEach ts X.env).length = is.length := by rfl) (hst : (assignEach ts X.env).findIdx? (·.1) = none := by rfl) : QG X (.Tuple ts k pos) (gU is) :=
  (pg_lst hc h.h hn hst).imp fun _ _ _ _ => gU_ok

/-! ### comprehensions -/
theorem cok (own fr : List Str) (is : List Nat) {scope : Scope} {cl : List (Str × Addr)} (h1 : closL X.env.cells scope.names [] = some cl := by with_unfolding_all rfl) (h2 : ∀ y ∈ scope.names, y.2 ≠ .cell := by decide +kernel) (h3 : scope.kind = .function := by rfl)
    (h4 : ∀ y ∈ scope.names, y.2 = .local → scope.names.lookup y.1 = some .local := by decide +kernel) (h5 : is.map (fun i => X.N[i]?) = fr.map some := by rfl)
    (h6 : fr.all (fun x => X.env.kindOf x == some .cell || X.env.kindOf x == some .free) = true := by rfl) (h7 : fr.all (fun x => (relabel scope X.env).names.lookup x == some .cell || (relabel scope X.env).names.lookup x == some .free) = true := by rfl) : CompOk X own fr is scope cl :=
  ⟨h1, h2, h3, h4, h5, h6, h7⟩
theorem qts_nil : QTs X [] fTrueT := pts_nil.imp fun σ H Q h => by
  obtain ⟨H₀, Z, ρ, τ, C, b, C', R, e, k⟩ := h
  cases e
  exact k H ρ R .refl
theorem qts_one (h : QT X c ga) : QTs X [c] ga := pts_one h
section
variable {own frs : List Str} {is : List Nat} {scope : Scope} {cl : List (Str × Addr)} {tg iter elt : Expr} {ifs : List Expr} {fi fe : FE} {g : FG} {gt : FB} {spos pos' : Pos} {x : Str}
theorem n_comp (hc : X.calm = true) (k : CompOk X own frs is scope cl) (hi : QE X iter fi) (ho : Own own.length g) (hg : ∀ C s3 H3 fp, QG (compCx X (own ++ frs) scope cl C s3 H3 fp) tg g) (ht : ∀ C s3 H3 fp, QTs (compCx X (own ++ frs) scope cl C s3 H3 fp) ifs gt)
    (he : ∀ C s3 H3 fp, QE (compCx X (own ++ frs) scope cl C s3 H3 fp) elt fe) (hs : ∀ x, foldedSetIterable iter X.env x = pure x := by intro _; rfl) : QN X (.ListComp elt [⟨tg, iter, ifs, 0⟩] scope pos) (fComp fi own.length is g gt fe) :=
  (pe_comp hc k (pi_list hi) hg ht he hs).imp fun _ _ _ => i_comp ho
theorem asgT {K : PySem.W.Frag} {W : XW} {te : TE} {fn : FN} {i : Nat} {D : Ends} {σ : L2.St} {H : Hp} (hi : ∀ σ H Q, trN K fn σ H Q → te σ H Q) (h : trS K W (fAsg (fTree fn) (gN i)) D σ H) : tAsg te (gName i) D σ H :=
  hi _ _ _ (i_tree (trE_mono (s_asg h) fun _ _ q => g_name q))
theorem asgC {K : PySem.W.Frag} {W : XW} {te : TE} {fn : FN} {i : Nat} {D : Ends} {σ : L2.St} {H : Hp} (hi : ∀ σ H Q, trN K fn σ H Q → te σ H Q) (h : trS K W (fAsg (fCell fn) (gN i)) D σ H) : tAsg te (gName i) D σ H :=
  hi _ _ _ (i_cell (trE_mono (s_asg h) fun _ _ q => g_name q))
theorem s_compR1T (hN : X.N.Nodup) (i : Nat) (hm : X.mg "range" = none) (hc : X.calm = true) (k : CompOk X own frs is scope cl) (hi : QE X iter fi) (ho : Own own.length g) (hg : ∀ C s3 H3 fp, QG (compCx X (own ++ frs) scope cl C s3 H3 fp) tg g) (ht : ∀ C s3 H3 fp, QTs (compCx X (own ++ frs) scope cl C s3 H3 fp) ifs gt)
    (he : ∀ C s3 H3 fp, QE (compCx X (own ++ frs) scope cl C s3 H3 fp) elt fe) (hgl : Gl X "range" := by rfl) (hx : X.N[i]? = some x := by rfl) (hl : X.env.scope.names.lookup x = some .local := by rfl)
    (hsw : swapsWith (.ListComp elt [⟨tg, .Call (.Name "range" p) [iter] [] p2, ifs, 0⟩] scope pos) (some (.Name x pos')) spos.line X.env = pure true := by rfl) (hs : ∀ x, foldedSetIterable (.Call (.Name "range" p) [iter] [] p2) X.env x = pure x := by intro _; rfl) (hst : starEach [iter] X.env = [(false, eval iter X.env)] := by rfl) :
    QS X (.Assign [.Name x pos'] (.ListComp elt [⟨tg, .Call (.Name "range" p) [iter] [] p2, ifs, 0⟩] scope pos) spos) (fAsg (fTree (fCompR1 fi own.length is g gt fe)) (gN i)) :=
  (ps_setComp hN hx hl hc k (pi_range1 hgl hm (q_acons hi q_anil (by rw [hst]; rfl)) hst) hg ht he hsw hs).imp fun _ _ _ => asgT fun _ _ _ => i_compR1 ho
theorem s_compR1C (hN : X.N.Nodup) (i : Nat) (hm : X.mg "range" = none) (hc : X.calm = true) (k : CompOk X own frs is scope cl) (hi : QE X iter fi) (ho : Own own.length g) (hg : ∀ C s3 H3 fp, QG (compCx X (own ++ frs) scope cl C s3 H3 fp) tg g) (ht : ∀ C s3 H3 fp, QTs (compCx X (own ++ frs) scope cl C s3 H3 fp) ifs gt)
    (he : ∀ C s3 H3 fp, QE (compCx X (own ++ frs) scope cl C s3 H3 fp) elt fe) (hgl : Gl X "range" := by rfl) (hx : X.N[i]? = some x := by rfl) (hl : X.env.scope.names.lookup x = some .local := by rfl)
    (hsw : swapsWith (.ListComp elt [⟨tg, .Call (.Name "range" p) [iter] [] p2, ifs, 0⟩] scope pos) (some (.Name x pos')) spos.line X.env = pure true := by rfl) (hs : ∀ x, foldedSetIterable (.Call (.Name "range" p) [iter] [] p2) X.env x = pure x := by intro _; rfl) (hst : starEach [iter] X.env = [(false, eval iter X.env)] := by rfl) :
    QS X (.Assign [.Name x pos'] (.ListComp elt [⟨tg, .Call (.Name "range" p) [iter] [] p2, ifs, 0⟩] scope pos) spos) (fAsg (fCell (fCompR1 fi own.length is g gt fe)) (gN i)) :=
  (ps_setComp hN hx hl hc k (pi_range1 hgl hm (q_acons hi q_anil (by rw [hst]; rfl)) hst) hg ht he hsw hs).imp fun _ _ _ => asgC fun _ _ _ => i_compR1 ho
end

/-! ### statements -/
section
variable {st : Stmt} {sts sts' : List Stmt} {F G : FS} {tg iter : Expr} {g : FG}
theorem qss_nil : QSs X [] fNext := pss_nil.imp fun _ _ _ => s_next
theorem qss_one (h : QS X st F) : QSs X [st] F := pss_one h
theorem qss_cons (h : QS X st F) (h2 : QSs X sts G) : QSs X (st :: sts) (fSeq F G) := (pss_cons h h2).imp fun _ _ _ => s_seq
theorem qs_never : QS X st fNever := fun _ _ _ _ _ _ h => (s_never h).elim
theorem qs_ret (h : QE X a fa) : QS X (.Return (some a) pos) (fRet fa) := (ps_ret h).imp fun _ _ _ => s_ret
theorem qs_expr (h : QE X a fa) (hs : swapsWith a none pos.line X.env = pure false := by rfl) : QS X (.Expr a pos) (fDrop fa) := (ps_expr h hs).imp fun _ _ _ => s_drop
theorem qs_if (hc : QT X c ga) (ha : QSs X sts F) (hb : QSs X sts' G) : QS X (.If c sts sts' pos) (fIf ga F G) := (ps_if hc ha hb).imp fun _ _ _ => s_if
theorem qs_set {x : Str} {pos' : Pos} (hN : X.N.Nodup) (i : Nat) (h : QE X a fa) (hi : X.N[i]? = some x := by rfl) (hx : Loc X.env.scope x := by first | exact Or.inl rfl | exact Or.inr rfl) (hs : swapsWith a (some (.Name x pos')) pos.line X.env = pure false := by rfl)
    (hf : X.fn x = true ∨ X.env.scope.names.lookup x = some .local := by first | exact .inl rfl | exact .inr rfl) : QS X (.Assign [.Name x pos'] a pos) (fAsg fa (gN i)) := (ps_set hN hi hx h hs hf).imp fun _ _ _ h => trE_mono (s_asg h) fun _ _ q => g_name q
theorem qs_asg (h : QE X a fa) (hg : QG X tg g) (hs : swapsWithSole [tg] a pos.line X.env = pure false := by rfl) (hw : swappedStores [tg] a X.env = pure none := by rfl) (h1 : (assignEach [tg] X.env).map (·.2) = [assign tg X.env] := by rfl) : QS X (.Assign [tg] a pos) (fAsg fa g) :=
  (ps_asg h hg hs hw h1).imp fun _ _ _ => s_asg
theorem qs_setI (hv : QE X a fa) (ho : QE X b fb) (hi : QE X c fc) (hs : swapsWithSole [.Subscript b c p] a pos.line X.env = pure false := by rfl) (hw : swappedStores [.Subscript b c p] a X.env = pure none := by rfl)
    (h1 : (assignEach [.Subscript b c p] X.env).map (·.2) = [assign (.Subscript b c p) X.env] := by rfl)
    (ha : ∀ v, assign (.Subscript b c p) X.env v = (do
      let ov ← holding [v] (eval b X.env)
      let iv ← holding [v, ov] (eval c X.env)
      standAt p
      holding [v, ov, iv] (setItem ov iv v)
      release [v, ov, iv] []) := by intro _; rfl) : QS X (.Assign [.Subscript b c p] a pos) (fSetI fa fb fc) :=
  (ps_asg hv (pg_sub ho hi set_list ha) hs hw h1).imp fun _ _ _ => s_setI
theorem qs_for (hc : X.calm = true) (hi : QE X iter fa) (hg : QG X tg g) (hb : QSs X sts F) (hp : PassesOwn (model X.prog X.w) X.A X.env X.xe := by first | exact PassesOwn.never | exact PassesOwn.leaving | exact PassesOwn.looking) (hs : ∀ x, foldedSetIterable iter X.env x = pure x := by intro _; rfl) : QS X (.For tg iter sts [] pos) (fFor fa g F) :=
  (ps_for hp hc (pi_list hi) hg hb hs).imp fun _ _ _ => s_for
theorem qs_forR1 (hm : X.mg "range" = none) (hc : X.calm = true) (hi : QE X iter fa) (hg : QG X tg g) (hb : QSs X sts F) (hp : PassesOwn (model X.prog X.w) X.A X.env X.xe := by first | exact PassesOwn.never | exact PassesOwn.leaving | exact PassesOwn.looking) (hgl : Gl X "range" := by rfl)
    (hs : ∀ x, foldedSetIterable (.Call (.Name "range" p) [iter] [] p2) X.env x = pure x := by intro _; rfl) (hst : starEach [iter] X.env = [(false, eval iter X.env)] := by rfl) : QS X (.For tg (.Call (.Name "range" p) [iter] [] p2) sts [] pos) (fForR1 fa g F) :=
  (ps_for hp hc (pi_range1 hgl hm (q_acons hi q_anil (by rw [hst]; rfl)) hst) hg hb hs).imp fun _ _ _ => s_forR1
theorem qs_forR2 (hm : X.mg "range" = none) (hc : X.calm = true) (h1 : QE X a fa) (h2 : QE X b fb) (hg : QG X tg g) (hb : QSs X sts F) (hp : PassesOwn (model X.prog X.w) X.A X.env X.xe := by first | exact PassesOwn.never | exact PassesOwn.leaving | exact PassesOwn.looking) (hgl : Gl X "range" := by rfl)
    (hs : ∀ x, foldedSetIterable (.Call (.Name "range" p) [a, b] [] p2) X.env x = pure x := by intro _; rfl) (hst : starEach [a, b] X.env = [(false, eval a X.env), (false, eval b X.env)] := by rfl) (hst2 : starEach [b] X.env = [(false, eval b X.env)] := by rfl) : QS X (.For tg (.Call (.Name "range" p) [a, b] [] p2) sts [] pos) (fForR2 fa fb g F) :=
  (ps_for hp hc (pi_range2 hgl hm (q_acons h1 (q_acons h2 q_anil (by rw [hst2]; rfl)) (by rw [hst, hst2])) hst hst2) hg hb hs).imp fun _ _ _ => s_forR2
theorem qs_while (n : Nat) (hc : QT X c ga) (hb : QSs X sts F) (hp : PassesOwn (model X.prog X.w) X.A X.env X.xe := by first | exact PassesOwn.never | exact PassesOwn.leaving | exact PassesOwn.looking) : QS X (.While c sts [] pos) (whGo ga F n) := (ps_while hp hc hb).imp fun _ _ _ => s_while
theorem qs_app {apos cpos : Pos} (ho : QE X a fa) (ha : QA X (e :: es) fr) (hs : swapsWith (.Call (.Attribute a "append" apos) (e :: es) [] cpos) none pos.line X.env = pure false := by rfl) (hbase : attributeBase a "append" X.env (eval a X.env) = eval a X.env := by rfl)
    (hfew : ((backTo cpos (starEach (e :: es) X.env)).all (fun x => !x.1) && (backToKw cpos (keywordEach [] X.env)).all (fun x => x.1.isSome)
      && decide ((e :: es).length + ([] : List Keyword).length + (if ([] : List Keyword).isEmpty then 0 else 1) < 30)) = true := by rfl)
    (hline : (apos.endLine == cpos.line) = true := by rfl) (hst : starEach (e :: es) X.env = (false, eval e X.env) :: starEach es X.env := by rfl) (hplain : (backTo cpos (starEach es X.env)).any (·.1) = false := by rfl) :
    QS X (.Expr (.Call (.Attribute a "append" apos) (e :: es) [] cpos) pos) (fApp fa fr) :=
  (ps_expr (pe_bm PySem.F.plainAttrs_list PySem.F.slot_list_append PySem.F.type_list_append mt_app ho ha hbase hfew hline hst hplain) hs).imp fun _ _ _ => s_mut app_ok
theorem qs_ins {apos cpos : Pos} (ho : QE X a fa) (ha : QA X (e :: es) fr) (hs : swapsWith (.Call (.Attribute a "insert" apos) (e :: es) [] cpos) none pos.line X.env = pure false := by rfl) (hbase : attributeBase a "insert" X.env (eval a X.env) = eval a X.env := by rfl)
    (hfew : ((backTo cpos (starEach (e :: es) X.env)).all (fun x => !x.1) && (backToKw cpos (keywordEach [] X.env)).all (fun x => x.1.isSome)
      && decide ((e :: es).length + ([] : List Keyword).length + (if ([] : List Keyword).isEmpty then 0 else 1) < 30)) = true := by rfl)
    (hline : (apos.endLine == cpos.line) = true := by rfl) (hst : starEach (e :: es) X.env = (false, eval e X.env) :: starEach es X.env := by rfl) (hplain : (backTo cpos (starEach es X.env)).any (·.1) = false := by rfl) :
    QS X (.Expr (.Call (.Attribute a "insert" apos) (e :: es) [] cpos) pos) (fIns fa fr) :=
  (ps_expr (pe_bm PySem.F.plainAttrs_list PySem.F.slot_list_insert PySem.F.type_list_insert mt_ins ho ha hbase hfew hline hst hplain) hs).imp fun _ _ _ => s_mut ins_ok
end
end
end TL
/-! ModelE -/
set_option linter.all false
set_option maxRecDepth 100000
namespace TL
open PySem PySem.Spec PyProof.Rows L2

section
variable {X : Cx} {pins : List (Addr × Obj)} {σ : L2.St} {H : Hp} {s : Shared}
theorem Inv_turn {ch : List Addr} {h' : Heap} {p : Addr} {o : HO} {t' : Nat} (I : Inv X pins σ H s) (hch : ∀ b ∈ ch, FpOk X pins H b) (k : ∀ b ob, b ∉ ch → s.heap.get? b = some ob → h'.get? b = some ob) (hp : s.heap.objs.size ≤ p)
    (new : ObjOk X.prog X.w (upd H p o) h' p o) : Inv X pins σ (upd H p o) { s with heap := h', toks := t' } := by
  have hn : H p = none := I.hok.fresh hp
  have ne : ∀ b u, H b = some u → b ≠ p := fun b u e z => by rw [z, hn] at e; cases e
  have nch : ∀ b u, H b = some u → b ∉ ch := fun b u e z => by rw [(hch b z).1] at e; cases e
  refine I.step (g' := s.gens) (d' := s.drawn) (ch := ch) (fun b hb => ⟨(hch b hb).2.2.2.1, (hch b hb).2.1, (hch b hb).2.2.2.2.1, (hch b hb).2.2.2.2.2⟩) (fun b o _ _ hc e _ => k b o hc e) (fun b o _ _ hc e _ => ⟨o.slots, k b o hc e⟩)
    (fun b ob _ e n => by rw [upd_ne (Nat.ne_of_lt (Nat.lt_of_lt_of_le (Heap.lt_size e) hp))]; exact n) (fun b ob hc e => ⟨ob, k b ob hc e⟩)
    (fun b xs e => by rw [upd_ne (ne _ _ e)]; exact e) (fun b ob u e => by rw [upd_ne (ne _ _ e)]; exact e) (fun b ps e => ⟨#[], by rw [upd_ne (ne _ _ e), e]; simp⟩) (fun m hm => ?_) (fun b u e => ?_) I.bare
  · obtain ⟨ob, es, ep, ho, r⟩ := hm
    exact ⟨ob, es, ep, k _ ob (fun z => (hch _ z).2.1 rfl) ho, r⟩
  · by_cases hb : b = p
    · subst hb
      rw [upd_same] at e; cases e
      exact new
    · rw [upd_ne hb] at e
      refine (I.hok b u e).stay (fun c v hc q => k c v ?_ q) (fun c q => by rw [upd_ne (ne _ _ q)]; exact q) fun c xs q => by rw [upd_ne (ne _ _ q)]; exact q
      rcases hc with z | z
      · rw [z]; exact nch b u e
      · exact nch c _ z
theorem Inv_turn0 {ch : List Addr} {h' : Heap} {t' : Nat} (I : Inv X pins σ H s) (hch : ∀ b ∈ ch, FpOk X pins H b) (k : ∀ b ob, b ∉ ch → s.heap.get? b = some ob → h'.get? b = some ob) : Inv X pins σ H { s with heap := h', toks := t' } := by
  have nch : ∀ b u, H b = some u → b ∉ ch := fun b u e z => by rw [(hch b z).1] at e; cases e
  refine I.step (g' := s.gens) (d' := s.drawn) (ch := ch) (fun b hb => ⟨(hch b hb).2.2.2.1, (hch b hb).2.1, (hch b hb).2.2.2.2.1, (hch b hb).2.2.2.2.2⟩) (fun b o _ _ hc e _ => k b o hc e) (fun b o _ _ hc e _ => ⟨o.slots, k b o hc e⟩)
    (fun b ob _ e n => n) (fun b ob hc e => ⟨ob, k b ob hc e⟩) (fun b xs e => e) (fun b ob u e => e) (fun b ps e => ⟨#[], by rw [e]; simp⟩) (fun m hm => ?_) (fun b u e => ?_) I.bare
  · obtain ⟨ob, es, ep, ho, r⟩ := hm
    exact ⟨ob, es, ep, k _ ob (fun z => (hch _ z).2.1 rfl) ho, r⟩
  · refine (I.hok b u e).stay (fun c v hc q => k c v ?_ q) (fun c q => q) fun c xs q => q
    rcases hc with z | z
    · rw [z]; exact nch b u e
    · exact nch c _ z
end

theorem turn_zip {P : Program} {w : World} {K : PySem.W.Frag} {ts : List Expr} {k : Nat} {pos : Pos} (z TI TO i1 i2 l1 l2 : Addr) (D : ZipApart z TI TO i1 i2 l1 l2) :
    Turn P w K (.Tuple ts k pos) (Itz K l1 l2) [z, TI, TO, i1, i2] z (fun i h => IsZip h z TI TO .none ∧ IsPair h TI (.ref i1) (.ref i2) ∧ (∃ a b, IsPair h TO a b) ∧ h.IsListIter i1 l1 i ∧ h.IsListIter i2 l2 i) where
  mem := by simp
  obj := fun i h st b hb => by
    obtain ⟨hz, hTI, ⟨a, b', hTO⟩, ⟨o1, e1, c1, d1⟩, ⟨o2, e2, c2, d2⟩⟩ := st
    simp only [List.mem_cons, List.not_mem_nil, or_false] at hb
    rcases hb with rfl | rfl | rfl | rfl | rfl
    · exact ⟨_, hz, fun v z => by simp at z⟩
    · exact ⟨_, hTI, fun v z => by simp at z⟩
    · exact ⟨_, hTO, fun v z => by simp at z⟩
    · exact ⟨o1, e1, fun v z => by rw [d1] at z; cases z⟩
    · exact ⟨o2, e2, fun v z => by rw [d2] at z; cases z⟩
  keep := fun i h h' st kk => by
    obtain ⟨hz, hTI, ⟨a, b', hTO⟩, h1, h2⟩ := st
    exact ⟨kk z (by simp) _ hz, kk TI (by simp) _ hTI, ⟨a, b', kk TO (by simp) _ hTO⟩, h1.at fun o e => kk i1 (by simp) o e, h2.at fun o e => kk i2 (by simp) o e⟩
  item := by
    intro X hP hw hK hc i pins s σ H E I hf st hg
    subst hP hw hK
    obtain ⟨hz, hTI, ⟨a, b', hTO⟩, h1, h2⟩ := st
    obtain ⟨xs, ys, x, y, q1, q2, g1, g2⟩ := hg
    obtain ⟨its, rv, p1, z1⟩ := I.list q1
    obtain ⟨its2, rv2, p2, z2⟩ := I.list q2
    obtain ⟨u, hu, ru⟩ := rv.get g1
    obtain ⟨u2, hu2, ru2⟩ := rv2.get g2
    refine wpAny_pyNext_zip_item D hz hTI hTO h1 h2 p1.isList p2.isList (x := u) (y := u2) (by simpa using hu) (by simpa using hu2) fun h' a1 a2 a3 a4 a5 a6 hk => ?_
    refine ⟨_, rfl, wpAny_letOwnedTupleGo_zip (s := { s with heap := h' }) a1 fun h'' hz'' hs'' => ?_⟩
    have zlt : z ≠ s.heap.objs.size := Nat.ne_of_lt (Heap.lt_size hz)
    have kk : ∀ b ob, b ∉ [z, TI, TO, i1, i2] → s.heap.get? b = some ob → h''.get? b = some ob := fun b ob hb e => by
      simp only [List.mem_cons, List.not_mem_nil, or_false, not_or] at hb
      exact (hs''.2 b hb.1).trans (hk b ob hb.1 hb.2.2.1 hb.2.2.2.1 hb.2.2.2.2 e)
    have hT : h''.get? s.heap.objs.size = some { cls := .type "tuple", data := .seq #[u, u2] } := (hs''.2 _ (Ne.symm zlt)).trans a5
    have I1 : Inv X pins σ (upd H s.heap.objs.size (.tup [x, y])) { s with heap := h'', toks := s.toks } := Inv_turn I hf kk (Nat.le_refl _)
      (show ObjOk X.prog X.w _ h'' _ (.tup [x, y]) from ⟨by show 2 ≤ sizeLine; decide, [u, u2], .cons ru (.cons ru2 .nil), ⟨_, hT, rfl, _, rfl⟩⟩)
    have hn : H s.heap.objs.size = none := I.fresh
    refine ⟨.ref s.heap.objs.size, _, I1, rfl, ⟨_, x, y, hn, rfl, rfl, fun zs hz => by rw [I.list_inj hz q1]; exact g1, fun zs hz => by rw [I.list_inj hz q2]; exact g2⟩, ?_, fun b hb => ?_⟩
    · refine ⟨hz'', (hs''.2 _ D.TIz).trans (hk _ _ D.TIz D.TITO D.TIi1 D.TIi2 hTI), ⟨u, u2, (hs''.2 _ D.TOz).trans a2⟩, a3.at fun o e => (hs''.2 _ D.i1z).trans e, a4.at fun o e => (hs''.2 _ D.i2z).trans e⟩
    · have hb' := (hf b hb).1
      rw [upd_ne]
      · exact hb'
      · rintro rfl
        have : ∃ o, s.heap.get? s.heap.objs.size = some o := by
          simp only [List.mem_cons, List.not_mem_nil, or_false] at hb
          obtain ⟨o1, e1, _⟩ := h1
          obtain ⟨o2, e2, _⟩ := h2
          rcases hb with h | h | h | h | h
          · rw [h]; exact ⟨_, hz⟩
          · rw [h]; exact ⟨_, hTI⟩
          · rw [h]; exact ⟨_, hTO⟩
          · rw [h]; exact ⟨_, e1⟩
          · rw [h]; exact ⟨_, e2⟩
        obtain ⟨o, e⟩ := this
        exact absurd (Heap.lt_size e) (Nat.lt_irrefl _)
  done := by
    intro X hP hw hK hc i pins s σ H E I hf st hg
    subst hP hw hK
    obtain ⟨hz, hTI, ⟨a, b', hTO⟩, h1, h2⟩ := st
    obtain ⟨xs, ys, q1, q2, hend⟩ := hg
    obtain ⟨its, rv, p1, z1⟩ := I.list q1
    obtain ⟨its2, rv2, p2, z2⟩ := I.list q2
    have l1 := rv.length
    have l2 := rv2.length
    refine wpAny_pyNext_zip_end (I.ok.hd hc) D hz hTI hTO h1 h2 p1.isList p2.isList ?_ fun h' hk => ⟨rfl, Inv_turn0 (t' := s.toks) I hf fun b ob hb e => ?_⟩
    · rcases hend with h | h
      · exact .inl (by simp at h ⊢; omega)
      · exact .inr (by simp at h ⊢; omega)
    · simp only [List.mem_cons, List.not_mem_nil, or_false, not_or] at hb
      exact hk b ob hb.1 hb.2.2.1 hb.2.2.2.1 hb.2.2.2.2 e
  self := fun _ _ _ _ _ st h => wpAny_pyIter_zip st.1 h

section
variable {X : Cx} {a b e : Expr} {es : List Expr} {fa fb : FE} {fr : FN} {pos p p2 : Pos}
theorem pi_zip {ts : List Expr} {k : Nat} {tpos : Pos} {ta : TA} (hg : Gl X "zip") (hm : X.mg "zip" = none) (ha : PA X [a, b] ta) (hs : starEach [a, b] X.env = [(false, eval a X.env), (false, eval b X.env)] := by rfl) (hs2 : starEach [b] X.env = [(false, eval b X.env)] := by rfl) :
    PI X (.Tuple ts k tpos) (.Call (.Name "zip" p) [a, b] [] pos) (iZip X.K ta) := by
  intro pins s σ H R I h
  refine Call_ (ld_blt I hg hm boot_zip (PyProof.Rows.callWith_type1 (thn (ha pos pins s σ H _ I h) fun us s1 ⟨vs, H1, I1, r1, q1⟩ => ?_) (by rw [hs, hs2]) (by rw [hs2]; rfl)))
  obtain ⟨l1, l2, e, ⟨xs, qx⟩, ⟨ys, qy⟩, q⟩ := q1
  subst e
  obtain ⟨u, u2, rfl, ru, ru2⟩ := r1.two
  cases ru
  cases ru2
  obtain ⟨its, rv, p1, z1⟩ := I1.list qx
  obtain ⟨its2, rv2, p2, z2⟩ := I1.list qy
  have a1 : l1 < s1.heap.objs.size := p1.lt
  have a2 : l2 < s1.heap.objs.size := p2.lt
  refine call_zip_2 p1.isList p2.isList fun h' hz hTI hTO hi1 hi2 hsz hk => wpAny_pyIter_zip hz ?_
  have I2 : Inv X pins σ H1 { s1 with heap := h' } := I1.kept (t' := s1.toks) hk
  refine ⟨s1.heap.objs.size + 4, [s1.heap.objs.size + 4, s1.heap.objs.size + 2, s1.heap.objs.size + 3, s1.heap.objs.size, s1.heap.objs.size + 1], _, _, H1, rfl, I2, turn_zip _ _ _ _ _ l1 l2 (zipApart_new a1 a2), ⟨hz, hTI, ⟨_, _, hTO⟩, hi1, hi2⟩, fun b hb => ?_, q⟩
  have hle : s1.heap.objs.size ≤ b := by
    simp only [List.mem_cons, List.not_mem_nil, or_false] at hb
    rcases hb with rfl | rfl | rfl | rfl | rfl
    · exact Nat.le_add_right _ _
    · exact Nat.le_add_right _ _
    · exact Nat.le_add_right _ _
    · exact Nat.le_refl _
    · exact Nat.le_add_right _ _
  exact I1.fpOk hle (I1.hok.fresh hle)
section
variable {own frs : List Str} {is : List Nat} {scope : Scope} {cl : List (Str × Addr)} {ts : List Expr} {tk : Nat} {tpos : Pos} {elt : Expr} {ifs : List Expr} {fe : FE} {g : FG} {gt : FB}
theorem n_compZ (hm : X.mg "zip" = none) (hc : X.calm = true) (k : CompOk X own frs is scope cl) (h1 : QE X a fa) (h2 : QE X b fb) (ho : Own own.length g) (hg : ∀ C s3 H3 fp, QG (compCx X (own ++ frs) scope cl C s3 H3 fp) (.Tuple ts tk tpos) g) (ht : ∀ C s3 H3 fp, QTs (compCx X (own ++ frs) scope cl C s3 H3 fp) ifs gt)
    (he : ∀ C s3 H3 fp, QE (compCx X (own ++ frs) scope cl C s3 H3 fp) elt fe) (hgl : Gl X "zip" := by rfl) (hs : ∀ x, foldedSetIterable (.Call (.Name "zip" p) [a, b] [] p2) X.env x = pure x := by intro _; rfl)
    (hst : starEach [a, b] X.env = [(false, eval a X.env), (false, eval b X.env)] := by rfl) (hst2 : starEach [b] X.env = [(false, eval b X.env)] := by rfl) :
    QN X (.ListComp elt [⟨.Tuple ts tk tpos, .Call (.Name "zip" p) [a, b] [] p2, ifs, 0⟩] scope pos) (fCompZ fa fb own.length is g gt fe) :=
  (pe_comp hc k (pi_zip hgl hm (q_acons h1 (q_acons h2 q_anil (by rw [hst2]; rfl)) (by rw [hst, hst2])) hst hst2) hg ht he hs).imp fun _ _ _ => i_compZ ho
end

/-! ### isinstance -/
end
end TL
/-! ModelF -/
set_option linter.all false
set_option maxRecDepth 100000
namespace TL
open PySem PySem.W PySem.Calls PyProof.Rows L2

theorem bitsW {n : Int} (h : (WData.int n).layable = true) : Builtin.Int.intBits n ≤ 2 ^ 20 := by
  obtain ⟨_, _, h3⟩ := layableW_iff.mp h
  unfold WData.weight at h3
  unfold Builtin.Int.intBits
  exact h3
theorem script_bits {ns : List Int} (h : WData.layableAll [WData.list (ns.map WData.int)] = true) : ∀ n ∈ ns, Builtin.Int.intBits n ≤ 2 ^ 20 := fun n hn =>
  bitsW (layableW_item (layableW_arg h _ List.mem_cons_self) _ (List.mem_map.mpr ⟨n, hn, rfl⟩))

theorem walk_tree {l : PySem.W.OpenLaw} {k : Nat} {q : Program} {loose : List Str} {XP : (Str → Option Value) → Heap → Prop} {YP : World → Heap → Prop} {d : DefRec} {K : Params → PySem.W.Frag} {x : Str} {R : List T → Option T}
    (hn : l.most = some 63) (hdf : d.params.defaults = []) (hr : Room k callerA)
    (hY : ∀ (w : World) (h : Heap), YP w h → (K w.params).In h)
    (hR : ∀ ns : List Int, ns.length ≤ 63 → (∀ n ∈ ns, Builtin.Int.intBits n ≤ 2 ^ 20) → R [.lst (ns.map T.int)] = some (.bl true))
    (F : ∀ (w : World) (mg : Str → Option Value) (fa : Addr) (h : Heap), (K w.params).In h → h.Ns mainGlobals mg → mg d.name = some (.ref fa) →
      ∃ fd : FuncData, (∀ (s : Shared) (u : Value), BindsTo s fd ⟨[u], []⟩ [(x, u)]) ∧
        ∀ base : Heap, (K w.params).In base → base.Ns mainGlobals mg → FnOk l.prog w (K w.params) mg base CX0 k fa fd [x] (spT (K w.params) 1 R)) :
    PySem.W.WalkO q loose XP YP l.row.toRowW d [] (fun f vs => PySem.call f vs) := by
  intro w s₀ s₁ mg mb G Y fa o pm cd doc dV kV ho hd hcd hD hmg hg args vals as hpre hlay hrd hwl hlo
  obtain rfl : dV = .none := Dflts.none hD hdf
  obtain rfl : kV = .none := Dflts.noKw hD
  obtain ⟨a, vs, ns, rfl, rfl, hobj, hints, hlen⟩ := Att.script_of hn hpre hwl
  have KX := hY w _ Y
  obtain ⟨fd, hb, hF⟩ := F w mg fa _ KX G.T.g hmg
  have hsp : ∀ H : Hp, Only H → SqL (K w.params) H a (ns.map V.int) → spT (K w.params) 1 R [.ref a] H (fun v _ => v = .bl true) fun _ _ _ => False := fun H _ hS => by
    refine ⟨fun _ => False, [.lst (ns.map T.int)], .bl true, rfl, fun _ z => z.elim, .cons ?_ .nil, hR ns hlen (script_bits hlay), fun v H' _ r => r.bl_inv⟩
    unfold RT
    have sm : Same H (mask H (fun _ => False) []) := fun b o e => mask_of (fun z => z) (by simp) e
    refine ⟨a, _, rfl, sm.seq hS, ?_⟩
    clear hS hobj hints hlen hlay hpre hrd hwl
    induction ns with
    | nil => exact .nil
    | cons n ns ih => exact .cons .int ih
  refine enter_call (codeAny_mono (law_call KX G.T.g G.T.b G.T.builtins G.T.nolimit hg hobj hints (Nat.le_trans hlen (by decide)) hr hF hb hsp (fun H e s' z => z)) fun r s' hq => ?_)
  obtain ⟨rfl, h2, h3, h4⟩ := hq
  exact ⟨.inl ⟨.bool true, .bool true, [], rfl, fun _ => rfl, .bool true, Att.post_true l _, fun _ => ⟨List.Pairwise.nil, fun _ hm => (nomatch hm)⟩⟩, h2, h3, h4⟩
end TL
/-! ModelG -/
set_option linter.all false
set_option maxRecDepth 100000
namespace TL
open PySem PySem.Spec PyProof.Rows L2

/-! ### max(xs, default=d), min(xs, default=d) -/
theorem args_maxd (a d : Value) : argsOk "max" ⟨[a], [("default", d)]⟩ := by unfold argsOk; kernel_rfl
noncomputable abbrev bstObj (us : Array Value) (c : Nat) : Obj := { cls := .type "list", dict := none, data := .seq us c, slots := #[] }
section
variable {P : Program} {w : World} {A : Around} {R : Result → Shared → Prop} {it bs : Addr} {fp wr : List Addr} {n : Nat} {Pr : Nat → Value → Prop} {St : Nat → Heap → Prop} {kws : List (Str × Value)} {bt : Nat → Nat → Bool}
theorem nm_max : (toString "max" ++ toString ".loop" : String) = "max.loop" := by decide
theorem maxd_loop (W : Walks P w A.in1 it fp wr n Pr St) (hcmp : CmpOf P w A.in1 .Gt Pr bt) (hbf : bs ∉ fp) : ∀ (k j : Nat) (s : Shared) (vb : Value) (c : Nat), n - (j + 1) = k → j + 1 ≤ n → St (j + 1) s.heap → Pr (argBest bt j) vb → s.heap.get? bs = some (bstObj #[vb, vb] c) →
    (∀ v g tk, Pr (argBest bt (n - 1)) v → (∀ b o, b ∉ wr → b ≠ bs → s.heap.get? b = some o → g.get? b = some o) → R (.ok (.ret v)) { s with heap := g, toks := tk }) → codeAny (model P w) A (.builtin "max.loop" ⟨[.ref it, .none, .ref bs], kws⟩) R s := by
  have nw : bs ∉ wr := fun q => hbf (W.sub _ q)
  intro k
  induction k with
  | zero =>
    intro j s vb c ek ej st pb eb fin
    have en : j + 1 = n := by omega
    refine codeAny_builtin PySem.F.entry_max_loop (by
      rw [Around.under_plainId PySem.F.plain_max_loop _]
      show wpAny _ A.in1 (seqItems? (.ref bs) >>= _) _ _ s
      refine wpAny_bind (wpAny_seqItems eb rfl ?_)
      show wpAny _ A.in1 (tryCatch (pyNext (.ref it)) _ >>= _) _ _ s
      refine wpAny_bind (wpAny_tryCatch (W.done s _ _ (en ▸ st) fun g tk kp => ?_))
      have eb' := kp bs _ nw eb
      show wpAny _ A.in1 (updateSeq bs (fun _ => #[]) >>= _) _ _ _
      exact wpAny_bind (wpAny_updateSeq eb' rfl (wpAny_bind (wpAny_letGo (wpAny_pure (fin vb _ tk (by rw [← en]; exact pb) fun b o z1 z2 e => (Heap.get?_update_other _ _ (Ne.symm z2)).trans (kp b o z1 e)))))))
  | succ k ih =>
    intro j s vb c ek ej st pb eb fin
    have lt : j + 1 < n := by omega
    refine codeAny_builtin PySem.F.entry_max_loop (by
      rw [Around.under_plainId PySem.F.plain_max_loop _]
      show wpAny _ A.in1 (seqItems? (.ref bs) >>= _) _ _ s
      refine wpAny_bind (wpAny_seqItems eb rfl ?_)
      show wpAny _ A.in1 (tryCatch (pyNext (.ref it)) _ >>= _) _ _ s
      refine wpAny_bind (wpAny_tryCatch (W.item (j + 1) s _ _ lt st fun v g tk pv st' kp => ?_))
      have eb' := kp bs _ nw eb
      show wpAny _ A.in1 (tryCatch (holding [v, v] (richCompare .Gt v vb >>= _)) _ >>= _) _ _ _
      refine wpAny_bind (wpAny_tryCatch (wpAny_holding (wpAny_bind (hcmp (j + 1) (argBest bt j) v vb _ _ _ pv pb (wpAny_bind (wpAny_holding (wpAny_truthy_bool (wpAny_bind (wpAny_letGo (wpAny_pure ?_)))))))))) 
      cases hb : bt (j + 1) (argBest bt j) with
      | true =>
        simp only [if_true]
        refine wpAny_bind (wpAny_updateSeq eb' rfl (wpAny_bind (wpAny_letGo ?_)))
        rw [nm_max]
        refine wpAny_pure ⟨plainId_quiet PySem.F.plain_max_loop _, ih (j + 1) _ v _ (by omega) lt (W.frame _ _ _ st' fun b z o e => ?_) (by simp only [argBest, hb, if_true]; exact pv) (Heap.get?_update_self _ eb' rfl) fun v' g' tk' pv' kp' => ?_⟩
        · exact (Heap.get?_update_other _ _ (fun q : bs = b => hbf (by rw [q]; exact z))).trans e
        · exact fin v' g' tk' pv' fun b o z1 z2 e => kp' b o z1 z2 ((Heap.get?_update_other _ _ (Ne.symm z2)).trans (kp b o z1 e))
      | false =>
        simp only [Bool.false_eq_true, if_false]
        refine wpAny_bind (wpAny_letGo ?_)
        rw [nm_max]
        refine wpAny_pure ⟨plainId_quiet PySem.F.plain_max_loop _, ih (j + 1) _ vb c (by omega) lt st' (by simp only [argBest, hb, Bool.false_eq_true, if_false]; exact pb) eb' fun v' g' tk' pv' kp' => ?_⟩
        exact fin v' g' tk' pv' fun b o z1 z2 e => kp' b o z1 z2 (kp b o z1 e))
theorem maxd_first (W : Walks P w A.in1 it fp wr n Pr St) (hcmp : CmpOf P w A.in1 .Gt Pr bt) (hbf : bs ∉ fp) (hn : 0 < n) {s : Shared} {c : Nat} (st : St 0 s.heap) (eb : s.heap.get? bs = some (bstObj #[] c))
    (fin : ∀ v g tk, Pr (argBest bt (n - 1)) v → (∀ b o, b ∉ wr → b ≠ bs → s.heap.get? b = some o → g.get? b = some o) → R (.ok (.ret v)) { s with heap := g, toks := tk }) : codeAny (model P w) A (.builtin "max.loop" ⟨[.ref it, .none, .ref bs], kws⟩) R s := by
  have nw : bs ∉ wr := fun q => hbf (W.sub _ q)
  refine codeAny_builtin PySem.F.entry_max_loop (by
    rw [Around.under_plainId PySem.F.plain_max_loop _]
    show wpAny _ A.in1 (seqItems? (.ref bs) >>= _) _ _ s
    refine wpAny_bind (wpAny_seqItems eb rfl ?_)
    show wpAny _ A.in1 (tryCatch (pyNext (.ref it)) _ >>= _) _ _ s
    refine wpAny_bind (wpAny_tryCatch (W.item 0 s _ _ hn st fun v g tk pv st' kp => ?_))
    have eb' := kp bs _ nw eb
    show wpAny _ A.in1 (updateSeq bs (fun _ => #[v, v]) >>= _) _ _ _
    refine wpAny_bind (wpAny_updateSeq eb' rfl ?_)
    rw [nm_max]
    refine wpAny_pure ⟨plainId_quiet PySem.F.plain_max_loop _, maxd_loop W hcmp hbf _ 0 _ v _ rfl hn (W.frame _ _ _ st' fun b z o e => ?_) pv (Heap.get?_update_self _ eb' rfl) fun v' g' tk' pv' kp' => ?_⟩
    · exact (Heap.get?_update_other _ _ (fun q : bs = b => hbf (by rw [q]; exact z))).trans e
    · exact fin v' g' tk' pv' fun b o z1 z2 e => kp' b o z1 z2 ((Heap.get?_update_other _ _ (Ne.symm z2)).trans (kp b o z1 e)))
theorem maxd_none {d : Value} {nm : Str} (W : Walks P w A.in1 it fp wr 0 Pr St) (hbf : bs ∉ fp) {s : Shared} {c : Nat} (st : St 0 s.heap) (eb : s.heap.get? bs = some (bstObj #[] c))
    (fin : ∀ g tk, (∀ b o, b ∉ wr → b ≠ bs → s.heap.get? b = some o → g.get? b = some o) → R (.ok (.ret d)) { s with heap := g, toks := tk }) : codeAny (model P w) A (.builtin "max.loop" ⟨[.ref it, .none, .ref bs], [(nm, d)]⟩) R s := by
  refine codeAny_builtin PySem.F.entry_max_loop (by
    rw [Around.under_plainId PySem.F.plain_max_loop _]
    show wpAny _ A.in1 (seqItems? (.ref bs) >>= _) _ _ s
    refine wpAny_bind (wpAny_seqItems eb rfl ?_)
    show wpAny _ A.in1 (tryCatch (pyNext (.ref it)) _ >>= _) _ _ s
    refine wpAny_bind (wpAny_tryCatch (W.done s _ _ st fun g tk kp => ?_))
    exact wpAny_bind (wpAny_rule (wpAny_pure (fin g tk fun b o z1 _ e => kp b o z1 e))))
end

section
variable {X : Cx} {pins : List (Addr × Obj)} {σ : L2.St} {H : Hp} {s : Shared} {Q : VK}
theorem call_maxD {p : Addr} {ns : List Int} {d : Int} {t : Tok} (hc : X.calm = true) (I : Inv X pins σ H s) (hq : SqL X.K H p (ns.map V.int)) (q : Q (.int (maxD d ns)) H) :
    wpAny (model X.prog X.w) X.A (call (.builtin "max") [.ref p] [("default", .int d t)]) (EP X pins σ Q) X.xe s := by
  obtain ⟨its, rv, pl, hz⟩ := I.list hq
  have hi := intsAre_of rv
  obtain ⟨ys, hx⟩ := hi.allInts.items
  have hl' : s.heap.IsList p (intItems ys) := hx ▸ pl.isList
  have hns : ns = ys.toList.map (·.1) := by
    rw [← nums_intItems, ← hx]
    exact (show numsOf its.toArray.toList = ns from hi.numsOf).symm
  refine kmk_tree PySem.F.kind_max PySem.F.plain_max PySem.F.entry_max (args_maxd _ _) ?_
  show wpAny _ X.A.in1 (Builtin.Builtins.bindParams "max" ["key", "default"] 0 ⟨[], [("default", .int d t)]⟩ >>= _) _ _ s
  refine wpAny_bind (wpAny_of_eq (show Builtin.Builtins.bindParams "max" ["key", "default"] 0 ⟨[], [("default", .int d t)]⟩ = pure [none, some (.int d t)] from rfl) (wpAny_bind (wpAny_pure ?_)))
  refine wpAny_bind (iter_intList hl' fun s2 e2 st fp ne => ?_)
  subst e2
  have W := Walks.list (prog := X.prog) (w := X.w) (A := X.A.in1) (I.ok.hd hc) s.heap.objs.size p ne (intItems ys)
  have hbf : (s.heap.push { cls := .type "list_iterator", data := .fields #[.ref p, .int 0 0] }).objs.size ∉ [s.heap.objs.size, p] := fun z => Nat.lt_irrefl _ (fp _ z)
  refine wpAny_bind (wpAny_newObj_type ?_)
  rw [nm_max]
  refine wpAny_pure ⟨plainId_quiet PySem.F.plain_max_loop _, ?_⟩
  by_cases he : ns = []
  · have hsz : (intItems ys).size = 0 := by
      have h3 : ns.length = 0 := by rw [he]; rfl
      rw [hns, List.length_map, Array.length_toList] at h3
      simpa [intItems] using h3
    rw [hsz] at W
    refine maxd_none W hbf (W.frame _ _ _ st fun b _ o e => Heap.get?_push_of_some _ e) (Heap.get?_push_size _ rfl) fun g tk kp => ?_
    refine ⟨.int d, H, I.kept fun b o e => kp b o (fun z => ?_) (Nat.ne_of_lt (Nat.lt_trans (Heap.lt_size e) (by rw [Heap.size_push]; exact Nat.lt_succ_self _))) (Heap.get?_push_of_some _ (Heap.get?_push_of_some _ e)), ⟨_, rfl⟩, ?_⟩
    · exact Nat.lt_irrefl _ (List.mem_singleton.mp z ▸ Heap.lt_size e)
    · have : maxD d ns = d := by unfold maxD; rw [he]; rfl
      rw [this] at q; exact q
  · have hsz : 0 < ys.size := by
      have h3 : 0 < ns.length := List.length_pos_iff.mpr he
      rw [hns, List.length_map, Array.length_toList] at h3; exact h3
    refine maxd_first W (bt := fun i j => decide (numAt ys i > numAt ys j)) (CmpOf.ints_gt (numAt ys) (fun _ _ => intItems_at)) hbf (by simpa [intItems] using hsz) (W.frame _ _ _ st fun b _ o e => Heap.get?_push_of_some _ e) (Heap.get?_push_size _ rfl) fun v g tk pv kp => ?_
    have pv' : (intItems ys)[argBest (fun i j => decide (numAt ys i > numAt ys j)) (ys.size - 1)]? = some v := by simpa [intItems] using pv
    obtain ⟨t', rfl⟩ := intItems_at pv'
    obtain ⟨h1, h2⟩ := argBest_gt (numAt ys) (ys.size - 1)
    obtain ⟨m1, m2⟩ := maxL_spec he
    have eM : numAt ys (argBest (fun i j => decide (numAt ys i > numAt ys j)) (ys.size - 1)) = maxL ns := by
      apply Int.le_antisymm
      · refine m2 _ ?_
        generalize argBest (fun i j => decide (numAt ys i > numAt ys j)) (ys.size - 1) = j at *
        rw [hns, numAt_eq]; exact getD_mem (by rw [List.length_map, Array.length_toList]; omega)
      · generalize maxL ns = M at *
        rw [hns] at m1
        obtain ⟨j, hj, ej⟩ := mem_getD m1
        rw [List.length_map, Array.length_toList] at hj
        rw [← ej, ← numAt_eq]; exact h2 j (by omega)
    refine ⟨.int (maxL ns), H, I.kept fun b o e => kp b o (fun z => ?_) (Nat.ne_of_lt (Nat.lt_trans (Heap.lt_size e) (by rw [Heap.size_push]; exact Nat.lt_succ_self _))) (Heap.get?_push_of_some _ (Heap.get?_push_of_some _ e)), ⟨_, by rw [eM]⟩, ?_⟩
    · exact Nat.lt_irrefl _ (List.mem_singleton.mp z ▸ Heap.lt_size e)
    · have : maxD d ns = maxL ns := by
        unfold maxD
        rw [if_neg (by simpa using he)]
      rw [this] at q; exact q
end
noncomputable def rMaxD (K : PySem.W.Frag) : R2 := fun x y H Q => ∃ p ns d, x = .ref p ∧ y = .int d ∧ SqL K H p (ns.map V.int) ∧ Q (.int (maxD d ns)) H
theorem o_maxD {K : PySem.W.Frag} {σ : L2.St} {H : Hp} {Q : VK} {x y : V} (h : ∃ t1 t2, trV K σ [t1, t2] [x, y] (gMaxD t1 t2) H Q) : rMaxD K x y H Q := by
  obtain ⟨t1, t2, H₀, Z, ρ, τ, C, t, C', R, r, e, k⟩ := h
  obtain ⟨_, _, z, r1, r⟩ := r.cons_inv
  cases z
  obtain ⟨_, _, z, r2, r⟩ := r.cons_inv
  cases z
  unfold gMaxD at e
  split at e
  · obtain ⟨us, e1, e⟩ := Option.bind_eq_some_iff.mp e
    obtain ⟨ns, e2, e⟩ := Option.map_eq_some_iff.mp e
    cases e
    obtain ⟨a, vs, ea, qa, ra⟩ := R.li r1 e1
    have := ints?_inv ra e2
    subst this
    exact ⟨a, ns, _, ea, r2.int_inv, qa, k _ H ρ R .int .refl⟩
  · cases e
section
variable {X : Cx} {p pos kp : Pos} {e de : Expr} {ta tb : TE} {fa fb : FE}
theorem pe_maxD (hm : X.mg "max" = none) (hc : X.calm = true) (ha : PE X e ta) (hb : PE X de tb) (hg : Gl X "max" := by rfl)
    (he : backTo pos (starEach [e] X.env) = (false, eval e X.env) :: backTo pos (starEach [] X.env) := by rfl) (hpl : (backTo pos (starEach [e] X.env)).any (·.1) = false := by rfl)
    (hse : starEach [e] X.env = (false, eval e X.env) :: starEach [] X.env := by rfl) :
    PE X (.Call (.Name "max" p) [e] [⟨some "default", de, kp⟩] pos) (tOp (rMaxD X.K) ta tb) := by
  intro pins s σ H Q I h
  refine wpAny_Call_Name_kw (ld_blt I hg hm boot_max ?_ (by decide) (by decide))
  refine PyProof.Rows.callWith_kw (thn ((pa_cons ha pa_nil hse) pos pins s σ H (fun vs H1 => match vs with
    | [x] => tb σ H1 fun y H2 => rMaxD X.K x y H2 Q
    | _ => False) I h) fun us s1 ⟨vs, H1, I1, r1, q1⟩ => ?_) he hpl rfl rfl
  match vs, r1, q1 with
  | [x], r1, q1 =>
    obtain ⟨u, rfl, ru⟩ := vals1 r1
    refine thn ((pk_cons hb pk_nil) pos pins s1 σ H1 (fun vs H2 => match vs with
      | [y] => rMaxD X.K x y H2 Q
      | _ => False) I1 q1) fun ws s2 ⟨zs, H2, I2, r2, q2⟩ => ?_
    match zs, r2, q2 with
    | [y], r2, q2 =>
      obtain ⟨u2, rfl, ru2⟩ := vals1 r2
      obtain ⟨p, ns, d, rfl, rfl, hq, q⟩ := q2
      cases ru
      obtain ⟨t, rfl⟩ := ru2
      exact call_maxD hc I2 hq q
    | [], _, q2 => exact q2.elim
    | _ :: _ :: _, _, q2 => exact q2.elim
  | [], _, q1 => exact q1.elim
  | _ :: _ :: _, _, q1 => exact q1.elim
theorem q_maxD (hm : X.mg "max" = none) (hc : X.calm = true) (ha : QE X e fa) (hb : QE X de fb) (hg : Gl X "max" := by rfl)
    (he : backTo pos (starEach [e] X.env) = (false, eval e X.env) :: backTo pos (starEach [] X.env) := by rfl) (hpl : (backTo pos (starEach [e] X.env)).any (·.1) = false := by rfl)
    (hse : starEach [e] X.env = (false, eval e X.env) :: starEach [] X.env := by rfl) :
    QE X (.Call (.Name "max" p) [e] [⟨some "default", de, kp⟩] pos) (fMaxD fa fb) := (pe_maxD hm hc ha hb hg he hpl hse).imp fun _ _ _ => i_op (fun _ _ _ _ _ => o_maxD)
end
end TL
/-! ModelH -/
set_option linter.all false
set_option maxRecDepth 100000
namespace TL
open PySem PySem.Spec PyProof.Rows L2

/-! ### zip walked by one name: the tuples are held -/
section
variable {P : Program} {w : World} {A : Around} {E : Value → Shared → Prop} {s : Shared} {z TI TO i1 i2 l1 l2 : Addr} {k1 k2 : Nat} {xs ys : Array Value} {x y a b f0 f1 : Value}
end
section
variable {X : Cx} {a b e : Expr} {fa fb : FE} {pos p p2 : Pos}
variable {own frs : List Str} {is : List Nat} {scope : Scope} {cl : List (Str × Addr)} {x : Str} {tpos : Pos} {elt : Expr} {ifs : List Expr} {fe : FE} {g : FG} {gt : FB}
end

/-! ### xs[::-1] -/
section
variable {X : Cx} {a e : Expr} {te : TE} {fa : FE} {pos p2 p3 p4 : Pos}
end
end TL
/-! ModelI -/
set_option linter.all false
set_option maxRecDepth 100000
namespace TL
open PySem PySem.Spec PyProof.Rows L2
/-! ### xs.index(k) -/
section
variable {X : Cx} {a b : Expr} {fa fb : FE}
end

/-! ### for x in reversed(xs) -/
section
variable {X : Cx} {a e tg : Expr} {fa : FE} {pos p p2 : Pos} {sts : List Stmt} {F : FS} {g : FG}
end
end TL
/-! ModelJ -/
set_option linter.all false
set_option maxRecDepth 100000
namespace TL
open PySem PySem.Spec PyProof.Rows L2
section
variable {X : Cx} {st : Stmt} {sts : List Stmt} {F G : FS}
end
end TL
/-! TreeL -/
set_option linter.all false
set_option maxRecDepth 100000
namespace TL
open PySem L2
noncomputable abbrev XF := TSt → Sto → Option (String × Sto)
noncomputable def fX (x : XF) (F : FS) : FS := fun τ C => match x τ C with
  | some (c, C') => some (.ex c, τ, C')
  | none => F τ C
noncomputable def fRaise (c : String) (fa : FN) : FS := fun τ C => (fa τ C).bind fun p => if p.1.length ≤ 10 then some (.ex c, τ, p.2) else none
noncomputable def gX (n : Nat) (G : List T → Option String) (ts : List T) (C : Sto) : Option String := if ts.length = n then (if CFs ts = true then G ts else (mapO (dr 3 C) ts).bind G) else none
noncomputable def xCall (n : Nat) (G : List T → Option String) (fa : FN) : XF := fun τ C => (fa τ C).bind fun p => (gX n G p.1 p.2).map fun c => (c, p.2)
noncomputable def runX (B : FS) (m : Nat) (ts : List T) : Option String := match B (st0 m ts) [] with
  | some (.ex c, _, _) => some c
  | _ => none
noncomputable def fTry (tab : String → List String) (d : String) (i : Nat) (F G : FS) : FS := fun τ C => (F τ C).bind fun r => match r with
  | (.ex c, τ1, C1) => if (tab c).contains d = true then (G (τ1.set i (some (.exc c))) C1).bind fun q => (match q with
      | (.ex _, _, _) => none
      | (fl, τ2, C2) => some (fl, τ2.set i none, C2)) else none
  | r => some r
noncomputable def isxT (tab : String → List String) (ds : List String) : T → Option Bool
  | .non => some false
  | .exc c => if tab c = [] then none else some (ds.any fun d => (tab c).contains d)
  | _ => none
noncomputable def fIsx (tab : String → List String) (ds : List String) (a : FE) : FE := fUn a fun t C => (isxT tab ds t).map fun b => (.bl b, C)
noncomputable def xApp (fo : FE) (x : XF) : XF := fun τ C => (fo τ C).bind fun p => match p.1 with
  | .cell c => (p.2[c]?).bind fun _ => x τ p.2
  | _ => none
section
variable {K : PySem.W.Frag} {σ : L2.St} {H : Hp} {Q : VK}
end
end TL
/-! ModelY -/
set_option linter.all false
set_option maxRecDepth 100000
namespace TL
open PySem PySem.Spec PyProof.Rows L2

noncomputable def trX (K : PySem.W.Frag) (W : XW) (x : XF) (σ : L2.St) (H : Hp) : Prop := ∃ H₀ Z ρ τ C c C', Rel K H₀ Z ρ τ C σ H ∧ x τ C = some (c, C') ∧
  ∀ H' ρ', Rel K H₀ Z ρ' τ C' σ H' → Step H H' ρ ρ' → W c σ H'
noncomputable abbrev XE (X : Cx) (e : Expr) (x : XF) : Prop := PE X e fun σ H _ => trX X.K (wish X) x σ H
noncomputable abbrev XA (X : Cx) (es : List Expr) (x : XF) : Prop := PA X es fun σ H _ => trX X.K (wish X) x σ H
noncomputable abbrev XS (X : Cx) (st : Stmt) (x : XF) : Prop := PS X st fun _ σ H => trX X.K (wish X) x σ H
noncomputable def spR (K : PySem.W.Frag) (n : Nat) (G : List T → Option String) (vs : List V) (H : Hp) (E : XK) : Prop := ∃ Z ts c, ts.length = n ∧ (∀ a, Z a → H a ≠ none) ∧ RTs K (mask H Z []) [] ts vs ∧ G ts = some c ∧ ∀ H', Same H H' → E (.type c) none H'
noncomputable def spX (sp : Sp) (K : PySem.W.Frag) (n : Nat) (G : List T → Option String) : Sp := fun vs H Q E => sp vs H Q E ∨ spR K n G vs H E

section
variable {K : PySem.W.Frag} {W : XW} {σ : L2.St} {H : Hp} {x : XF}
theorem spX_len {sp : Sp} {n m : Nat} {G : List T → Option String} (h : ∀ vs H Q E, sp vs H Q E → vs.length = n) : ∀ vs H Q E, spX sp K n G vs H Q E → vs.length = n := fun vs H Q E z => by
  rcases z with z | ⟨Z, ts, c, hn, _, r, _⟩
  · exact h vs H Q E z
  · rw [r.length, hn]
theorem i_fX {F : FS} {D : Ends} (h : trS K W (fX x F) D σ H) : trX K W x σ H ∨ trS K W F D σ H := by
  obtain ⟨H₀, Z, ρ, τ, C, fl, τ', C', R, e, k⟩ := h
  unfold fX at e
  split at e
  · rename_i c C1 hx
    cases e
    exact .inl ⟨H₀, Z, ρ, τ, C, c, _, R, hx, fun H' ρ' R' s' => k σ H' ρ' R' s'.ss⟩
  · exact .inr ⟨H₀, Z, ρ, τ, C, fl, τ', C', R, e, k⟩
theorem i_xCall {fa : FN} {n : Nat} {G : List T → Option String} (h : trX K W (xCall n G fa) σ H) : trA K fa σ H fun vs H1 => spR K n G vs H1 fun v _ H' => ∃ c, v = .type c ∧ W c σ H' := by
  obtain ⟨H₀, Z, ρ, τ, C, c, C', R, e, k⟩ := h
  obtain ⟨⟨ts, C1⟩, e1, e⟩ := Option.bind_eq_some_iff.mp e
  obtain ⟨c', e2, e⟩ := Option.map_eq_some_iff.mp e
  cases e
  refine ⟨H₀, Z, ρ, τ, C, ts, _, R, e1, fun vs H1 ρ1 R1 r s1 => ?_⟩
  dsimp only at e2 R1 r
  unfold gX at e2
  split at e2
  · rename_i hn
    split at e2
    · rename_i hc
      refine ⟨fun a => Z a ∨ a ∈ ρ1, ts, _, hn, fun a z => ?_, by rw [mask_in]; exact r.cf hc, e2, fun H' sm => ⟨_, rfl, ?_⟩⟩
      · rcases z with z | z
        · exact R1.zd a z
        · exact R1.cel_some z
      · obtain ⟨R', st⟩ := R1.same sm
        exact k H' ρ1 R' (s1.trans st)
    · obtain ⟨us, e3, e2⟩ := Option.bind_eq_some_iff.mp e2
      refine ⟨Z, us, _, (mapO_len e3).trans hn, R1.zd, r.mapO (fun t v t' h e => R1.dr _ _ _ _ h e) e3, e2, fun H' sm => ⟨_, rfl, ?_⟩⟩
      obtain ⟨R', st⟩ := R1.same sm
      exact k H' ρ1 R' (s1.trans st)
  · cases e2
theorem body_R {n m : Nat} {B : FS} {vs : List V} {E : XK} {D : Ends} (hW : ∀ c σ H', E (.type c) none H' → W c σ H') (h : spR K n (runX B m) vs H E) :
    trS K W B D (vs.map some ++ List.replicate (m - vs.length) none) H := by
  obtain ⟨Z, ts, c, hn, hz, r, e, k⟩ := h
  unfold runX at e
  split at e
  · rename_i hB
    cases e
    exact ⟨H, Z, [], st0 m ts, [], _, _, _, Rel.start hz r, hB, fun σ' H' ρ' R' _ => hW _ _ _ (k H' R'.old)⟩
  · cases e
end

section
variable {X : Cx} {pins : List (Addr × Obj)} {σ : L2.St} {H : Hp} {s : Shared} {k : Nat} {f : Addr} {fd : FuncData} {ps : List Str} {sp : Sp} {e a b : Expr} {es : List Expr} {pos p : Pos} {x : XF} {fa fb : FE} {fr : FN} {st : Stmt} {F : FS}
theorem run_fnX {Q : VK} {us : List Value} {vs : List V} (F : FnOk X.prog X.w X.K X.mg X.base (CX1 X.prog X.w X.K) k f fd ps sp) (hr : Room k X.A) (hb : Binds X.K fd ps [])
    (I : Inv X pins σ H s) (r : Vals vs us) (h : sp vs H Q fun v _ H' => ∃ c, v = .type c ∧ wish X c σ H') : wpAny (model X.prog X.w) X.A (call (.ref f) us) (EP X pins σ Q) X.xe s := by
  have hl : (us ++ []).length = ps.length := by rw [List.append_nil, ← r.length]; exact F.len _ _ _ _ h
  have hb' := hb s us I.kIn hl
  rw [List.append_nil] at hb' hl
  refine wpAny_call (codeAny_mono (F.run X.A X.stack s H ⟨us, []⟩ us vs Q _ hr I.env0 hb' r h) fun r s' hq => ?_)
  cases r with
  | error e =>
    obtain ⟨c, a, C, B, H', rfl, al, fl, c', hc, hw⟩ := hq
    cases hc
    exact hw pins H s a C B s' I al (.inr fl)
  | ok fl =>
    cases fl with
    | ret u => exact I.after hq
    | next => exact False.elim hq
    | brk => exact False.elim hq
    | cont => exact False.elim hq
noncomputable def tCallX (sp : Sp) (W : XW) (t : TA) : TE := fun σ H Q => t σ H fun vs H1 => sp vs H1 Q fun v _ H' => ∃ c, v = .type c ∧ W c σ H'
theorem pe_callX {x : Str} {t : TA} (F : FnOk X.prog X.w X.K X.mg X.base (CX1 X.prog X.w X.K) k f fd ps sp) (hr : Room k X.A) (hg : Gl X x) (hm : X.mg x = some (.ref f)) (hk : PySem.W.keepIn X.K (.ref f) = true) (hb : Binds X.K fd ps [])
    (ha : PA X (e :: es) t) (hdb : (x == ("__debug__" : Str)) = false := by decide) (he : starEach (e :: es) X.env = (false, eval e X.env) :: starEach es X.env := by rfl) (hpl : (backTo pos (starEach es X.env)).any (·.1) = false := by rfl) :
    PE X (.Call (.Name x p) (e :: es) [] pos) (tCallX sp (wish X) t) := by
  intro pins s σ H Q I h
  refine wpAny_Call_Name_kw (ld_glob I hg hm ?_ hdb)
  refine PySem.W.callWith_K (h₀ := X.base) I.ok.mod.kin hk (thn (ha pos pins s σ H _ I h) fun us s1 ⟨vs, H1, I1, r, q⟩ => ⟨I1.kIn, ?_⟩) he hpl
  exact run_fnX F hr hb I1 r q
structure DefX (P : Program) (w : World) (K : PySem.W.Frag) (mg : Str → Option Value) (base : Heap) (k : Nat) (x : Str) (n : Nat) (sp : Sp) (G : List T → Option String) : Prop where
  ex : ∃ f fd ps, FnOk P w K mg base (CX1 P w K) k f fd ps (spX sp K n G) ∧ mg x = some (.ref f) ∧ PySem.W.keepIn K (.ref f) = true ∧ Binds K fd ps []
theorem x_call {n : Nat} {x : Str} {G : List T → Option String} (D : DefX X.prog X.w X.K X.mg X.base k x n sp G) (hr : Room k X.A) (ha : QA X (e :: es) fr) (hg : Gl X x := by rfl) (hdb : (x == ("__debug__" : Str)) = false := by decide)
    (he : starEach (e :: es) X.env = (false, eval e X.env) :: starEach es X.env := by rfl) (hpl : (backTo pos (starEach es X.env)).any (·.1) = false := by rfl) : XE X (.Call (.Name x p) (e :: es) [] pos) (xCall n G fr) := by
  obtain ⟨f, fd, ps, F, hm, hk, hb⟩ := D.ex
  exact (pe_callX F hr hg hm hk hb ha hdb he hpl).imp fun σ H Q h => trA_mono (i_xCall h) fun vs H1 q => .inr q
theorem q_callX {n : Nat} {x : Str} {R : List T → Option T} {G : List T → Option String} (D : DefX X.prog X.w X.K X.mg X.base k x n (spT X.K n R) G) (hr : Room k X.A) (ha : QA X (e :: es) fr) (hg : Gl X x := by rfl) (hdb : (x == ("__debug__" : Str)) = false := by decide)
    (he : starEach (e :: es) X.env = (false, eval e X.env) :: starEach es X.env := by rfl) (hpl : (backTo pos (starEach es X.env)).any (·.1) = false := by rfl) : QE X (.Call (.Name x p) (e :: es) [] pos) (fCall n R fr) := by
  obtain ⟨f, fd, ps, F, hm, hk, hb⟩ := D.ex
  refine (pe_callX F hr hg hm hk hb ha hdb he hpl).imp fun σ H Q h => ?_
  refine trA_mono (i_call (E := fun v _ H' => ∃ c, v = .type c ∧ wish X c σ H') h) fun vs H1 q => .inl ?_
  rw [List.append_nil] at q; exact q
theorem qs_x (hx : XS X st x) (h : QS X st F) : QS X st (fX x F) := fun pins s σ H D I q => by
  rcases i_fX q with q | q
  · exact hx pins s σ H D I q
  · exact h pins s σ H D I q
theorem xs_expr (h : XE X a x) (hs : swapsWith a none pos.line X.env = pure false := by rfl) : XS X (.Expr a pos) x := ps_expr h hs
theorem xs_ret (h : XE X a x) : XS X (.Return (some a) pos) x := ps_ret h
theorem xa_hd (h : XE X e x) (hr : PA X es t) (hs : starEach (e :: es) X.env = (false, eval e X.env) :: starEach es X.env := by rfl) : XA X (e :: es) x := pa_cons h hr hs
theorem x_argT {n : Nat} {y : Str} {R : List T → Option T} (D : DefT X.prog X.w X.K X.mg X.base k y n R) (hr : Room k X.A) (ha : XA X (e :: es) x) (hg : Gl X y := by rfl) (hdb : (y == ("__debug__" : Str)) = false := by decide)
    (he : starEach (e :: es) X.env = (false, eval e X.env) :: starEach es X.env := by rfl) (hpl : (backTo pos (starEach es X.env)).any (·.1) = false := by rfl) : XE X (.Call (.Name y p) (e :: es) [] pos) x := by
  obtain ⟨f, fd, ps, G, hm, hk, hb⟩ := D.ex
  exact pe_call (E := fun _ _ _ => False) G hr hg hm hk hb .nil (fun _ _ _ _ _ _ _ h => h.elim) ha hdb he hpl
end
end TL
/-! ModelZ -/
set_option linter.all false
set_option maxRecDepth 100000
namespace TL
open PySem PySem.Spec PyProof.Rows L2

abbrev mroVE : List Value := [.type "ValueError", .type "Exception", .type "BaseException", .type "object"]
structure ExAt (h : Heap) (C : Addr) (nid : String) (up : List Value) : Prop where
  ex : ∃ N nm q bs hdct sn sub ab col dd k0 k1 k2 k3 k5 mN, h.get? C = some (excClassObj nm q C N bs up hdct sn sub ab col dd k0 k1 k2 k3 k5 nid) ∧ h.Ns N mN ∧ mN "__init__" = none ∧ OwnTail h mroVE up
theorem exAt_of {K : PySem.W.Frag} {h : Heap} {C : Addr} {nid : String} (X : K.In h) (q : PySem.W.excIn K C mroVE nid = true) : ∃ up, ExAt h C nid up ∧ (∀ v b, PySem.W.mroIn K C v = some b → (Value.ref C :: up).contains v = b) ∧ (PySem.W.clsIn K C).isSome = true := by
  unfold PySem.W.excIn at q
  split at q
  · rename_i dd cd sl ho
    split at q
    · rename_i C' bm k0 k1 k2 k3 n k5 hmr hs
      simp only [Bool.and_eq_true, beq_iff_eq, Bool.not_eq_true'] at q
      obtain ⟨⟨⟨⟨⟨rfl, rfl⟩, hdel⟩, ht⟩, hok⟩, hni⟩ := q
      have hcl : PySem.W.clsIn K C' = some cd := by unfold PySem.W.clsIn; rw [ho]
      refine ⟨bm, ?_, fun v b e => ?_, by rw [hcl]; rfl⟩
      · obtain ⟨nm, bs, mro, ns, qn, hd, sn, sub, ab, col, del⟩ := cd
        dsimp only at hmr hdel hok hni
        subst hmr hdel
        have hsl : sl = #[k0, k1, k2, k3, some (.builtin n), k5] := by
          obtain ⟨l⟩ := sl
          simp only at hs
          rw [hs]
        subst hsl
        exact ⟨ns, nm, qn, bs, hd, sn, sub, ab, col, dd, k0, k1, k2, k3, k5, _, X _ _ ho, .of_isNs (PySem.W.isNs_of_in X hok), PySem.W.nsMap_none_of_in X hok hni, PySem.W.tail_of_in X ht⟩
      · unfold PySem.W.mroIn at e
        rw [hcl, Option.bind_some, hmr] at e
        simpa using e
    · cases q
  · cases q
structure ExC (K : PySem.W.Frag) (mg : Str → Option Value) (c : String) (C : Addr) : Prop where
  nm : Named K c C
  mg : mg (Str.ofString c) = some (.ref C)
  ok : PySem.W.excIn K C mroVE "ValueError.__new__" = true

section
variable {X : Cx} {pins : List (Addr × Obj)} {σ : L2.St} {H : Hp} {s : Shared} {c : String} {C : Addr} {e₀ : Expr} {rest : List Expr} {np cpos pos : Pos} {fa : FN}
theorem aloft_made {h' : Heap} {a : Addr} {vs : List Value} (I : Inv X pins σ H s) (hn : Named X.K c C) (hm : Heap.MadeExcOf s.heap h' a (.ref C) vs) :
    ∃ B, Aloft X.prog X.w X.K X.stack H s c H C B { s with heap := h' } ∧ Made B X.stack a C { s with heap := h' } := by
  refine ⟨PySem.W.hideAll s.heap (frs X.stack), ⟨hn, rfl, I.bare, Un.kept hm.keeps, I.hok.kept hm.keeps, fun b o e _ n => PySem.W.hideAll_get _ e n, fun b u o e q => ?_, fun b o e n => ⟨o, PySem.W.hideAll_get _ e n⟩⟩, s.heap, vs, fun b o q => PySem.W.of_hideAll _ q, ?_, hm⟩
  · obtain ⟨ob, eo⟩ := obj_there (I.hok b u e)
    have q2 := (hm.keeps b ob eo).symm.trans q
    cases q2
    exact PySem.W.hideAll_get _ eo fun z => by
      rw [I.stkFree b z] at e; cases e
  · exact PySem.W.funFrames_hide I.stack fun env he a' ha => List.mem_filterMap.mpr ⟨env, he, ha⟩
theorem qs_raise (D : ExC X.K X.mg c C) (hc : X.calm = true) (ha : QA X (e₀ :: rest) fa) (hg : Gl X (Str.ofString c) := by rfl) (hd : (Str.ofString c == ("__debug__" : Str)) = false := by decide)
    (he : starEach (e₀ :: rest) X.env = (false, eval e₀ X.env) :: starEach rest X.env := by rfl) (hpl : (backTo cpos (starEach rest X.env)).any (·.1) = false := by rfl) :
    QS X (.Raise (some (.Call (.Name (Str.ofString c) np) (e₀ :: rest) [] cpos)) none pos) (fRaise c fa) := by
  intro pins s σ H Dn I h
  obtain ⟨up, hup, _, _⟩ := exAt_of I.ok.mod.kin D.ok
  obtain ⟨N, nm, q, bs, hdct, sn, sub, ab, col, dd, k0, k1, k2, k3, k5, mN, hC, hN, hni, T⟩ := hup.ex
  refine wpAny_Raise_call_subT (C := C) (nm := nm) (q := q) (N := N) (bs := bs) (bm := up) (hdct := hdct) (sn := sn) (sub := sub) (ab := ab) (col := col) (dd := dd) (k0 := k0) (k1 := k1) (k2 := k2) (k3 := k3) (k5 := k5)
    PySem.F.excBase_ValueError (mN := mN) (T.hasType PySem.F.excBase_ValueError.hasBase) (I.ok.hd hc) (by rw [he]; show (false || (backTo cpos (starEach rest X.env)).any (·.1)) = false; rw [hpl]; rfl) hni (ld_glob I hg D.mg ⟨rfl, ?_⟩ hd)
  have h2 : trA X.K fa σ H fun vs H1 => vs.length ≤ 10 ∧ wish X c σ H1 := by
    obtain ⟨H₀, Z, ρ, τ, C0, fl, τ', C', R, e, k⟩ := h
    unfold fRaise at e
    obtain ⟨⟨ts, C1⟩, e1, e⟩ := Option.bind_eq_some_iff.mp e
    split at e
    · rename_i hl
      cases e
      exact ⟨H₀, Z, ρ, _, C0, ts, _, R, e1, fun vs H1 ρ1 R1 r s1 => ⟨by rw [r.length]; exact hl, k σ H1 ρ1 R1 s1.ss⟩⟩
    · cases e
  have ha' := ha cpos pins s σ H _ I h2
  rw [he] at ha' ⊢
  refine Calls.evalArgs_plain (thn ha' fun us s2 ⟨vs, H2, I2, r, hl, hw⟩ => ⟨rfl, ?_, ?_, ?_, ?_, fun h' e hm => ?_⟩)
  · show us.length ≤ _
    rw [← r.length]
    exact Nat.le_trans hl (by decide)
  · exact I2.bk _ _ hC
  · exact hN.keeps I2.bk
  · exact T.keeps I2.bk
  · obtain ⟨B, al, md⟩ := aloft_made I2 D.nm hm
    exact hw pins H2 s2 e C B _ I2 al (.inl md)
end

/-! ### a def that may raise -/
section
variable {P : Program} {w : World} {K : PySem.W.Frag} {mg : Str → Option Value} {base : Heap}
noncomputable abbrev cx1 (P : Program) (w : World) (K : PySem.W.Frag) (mg : Str → Option Value) (base : Heap) (N : List Str) (qual : Str) (scope : Scope) (f : Addr) (cd : Value) (A : Around) (outer : List Env) (s : Shared) (H : Hp) (E : XK) : Cx := cxOf (CX1 P w K) P w K mg base N qual scope f cd A outer s H E
theorem okX {x qual : Str} {st : Stmt} {f : Addr} {fd : FuncData} {N ps : List Str} {k n : Nat} {sp : Sp} {B : FS} (F : Fun K x qual st f fd) (S : FnScope N ps (defScope st)) (hn : ps.length = n) (len : ∀ vs H Q E, sp vs H Q E → vs.length = n)
    (hB : ∀ (W : XW) vs H Q E, sp vs H Q E → trS K W B { nx := fun _ H' => Q .non H', rt := Q } (start N vs) H)
    (hbody : ∀ (cdv : Value) (A : Around) (outer : List Env) (s : Shared) (H : Hp) (E : XK), Room k (A.deeper (envOfC qual (defScope st) s.heap.objs.size f cdv)) →
      QSs (cx1 P w K mg base N qual (defScope st) f cdv A outer s H E) (defBody st) B) : FnOk P w K mg base (CX1 P w K) (k + 1) f fd ps (spX sp K n (runX B N.length)) := by
  obtain ⟨oc, od, kV, doc, pm, an, cdv, ct, osl, rfl, lk, hcd⟩ := F.ex
  refine fn_of lk hcd S (fun vs H Q E h => (spX_len (m := 0) len vs H Q E h).trans hn.symm) fun A outer s H vs Q E hr hsp => ⟨_, hbody cdv A outer s H E hr, ?_⟩
  rcases hsp with h | h
  · exact hB _ vs H Q E h
  · exact body_R (fun c σ H' z => wish_fn z) h
end
end TL
/-! ModelN -/
set_option linter.all false
set_option maxRecDepth 100000
namespace PySem
theorem looks_made {M : Model} {A : Around} {E : Value → Shared → Prop} {s : Shared} {B h : Heap} {env : Env} {outer : List Env} {L e : Addr} {cls : Value} {args : List Value} {Q : Unit → Shared → Prop}
    (hfr : A.frames = some (env :: outer)) (hf : env.frame = some L) (hkb : B.StaysIn h) (hl : h.FunFrames B (env :: outer)) (hx : Heap.MadeExcOf h s.heap e cls args)
    (hQ : ∀ h' t, Heap.HeldW B (env :: outer) e cls (.ref t) L h' → s.heap.UpToSlots h' → Q () { s with heap := h' }) : wpAny M A (noteFrame (.ref e) env) Q E s := by
  obtain ⟨t, he, htn, ht⟩ := hx.there
  have fresh : ∀ b, h.get? b = none → B.get? b = none := fun b hb => by
    cases hq : B.get? b with
    | none => rfl
    | some o' => have := hkb b o' hq; rw [hb] at this; cases this
  unfold noteFrame
  simp only [hf]
  refine wpAny_bind (wpAny_field (x := .none) he rfl rfl ?_)
  rw [if_neg (show ¬ ((Value.none != Value.none) = true) from by simp)]
  exact wpAny_entryW (a0 := .ref t) hfr (hl.of_keeps fun b o hb _ => ⟨o, hx.keeps b o hb, rfl⟩) hf he (fun b o hb => hx.keeps b o (hkb b o hb)) (fresh e hx.new) rfl (by simp) rfl fun h' ⟨k1, k2, k3, k4⟩ => hQ h' t ⟨k1, fresh e hx.new, k2, k3⟩ k4
end PySem
namespace TL
open PySem PySem.Spec PyProof.Rows L2
section
variable {X : Cx} {pins : List (Addr × Obj)} {σ : L2.St} {H H' : Hp} {s s' : Shared} {c : String} {C a : Addr} {B : Heap}
theorem Aloft.stay {h' : Heap} (I : Inv X pins σ H s) (A : Aloft X.prog X.w X.K X.stack H s c H' C B s') (st : B.StaysIn h') (sm : s'.heap.UpToSlots h') :
    Aloft X.prog X.w X.K X.stack H s c H' C B { s' with heap := h' } := by
  have stay : ∀ b u o, H' b = some u → s'.heap.get? b = some o → h'.get? b = some o := fun b u o e q => st b o (A.trkB b u o e q)
  have frm : ∀ b ∈ frs X.stack, ∃ o, s.heap.get? b = some o ∧ ∀ vs, o.data ≠ .fields vs := fun b hb => (I.stack.mem hb).2
  have slot : ∀ b o, s.heap.get? b = some o → H b = none → b ∈ frs X.stack → ∃ sl, h'.get? b = some { o with slots := sl } := fun b o e n hb => by
    obtain ⟨sl2, e2⟩ := A.un.any e n (by simp)
    obtain ⟨o', e', nd⟩ := frm b hb
    rw [e] at e'; cases e'
    obtain ⟨sl3, e3⟩ := sm b _ e2 nd
    exact ⟨sl3, e3⟩
  refine ⟨A.nm, A.os, A.bare, ⟨fun b o e n nf _ => st b o (A.keepB b o e n nf), fun b o e n hb _ => slot b o e n hb, A.un.free, fun b o e _ => ?_, A.un.tups, A.un.frzs, A.un.tbls⟩, hok_trk A.hok stay, A.keepB, fun b u o e q => ?_, A.thereB⟩
  · by_cases hb : b ∈ frs X.stack
    · obtain ⟨sl, e'⟩ := slot b o e (I.stkFree b hb) hb
      exact ⟨_, e'⟩
    · obtain ⟨o', e'⟩ := A.thereB b o e hb
      exact ⟨o', st b o' e'⟩
  · obtain ⟨ob, eo⟩ := obj_there (A.hok b u e)
    have q2 := (stay b u ob e eo).symm.trans q
    cases q2
    exact A.trkB b u _ e eo
theorem Aloft.inv (I : Inv X pins σ H s) (A : Aloft X.prog X.w X.K X.stack H s c H' C B s') : Inv X pins σ H' s' := I.call' A.os A.un A.hok A.bare (fun b z => absurd z (by simp))
theorem Aloft.held {t : Addr} (I : Inv X pins σ H s) (A : Aloft X.prog X.w X.K X.stack H s c H' C B s') (F : Heap.FlyingW B X.stack a (.ref C) (.ref t) s'.heap) : H' a = none ∧ Inv X pins σ (upd H' a (exO a C)) s' := by
  obtain ⟨oe, vs, he, hcl, hdt, _⟩ := F.first
  have hn : H' a = none := by
    cases q : H' a with
    | none => rfl
    | some u =>
      have := A.trkB a u oe q he
      rw [F.2.1] at this; cases this
  have new : ∀ o, s.heap.get? a ≠ some o := fun o e => by
    by_cases hb : a ∈ frs X.stack
    · obtain ⟨o', e', nd⟩ := (I.stack.mem hb).2
      obtain ⟨sl, e2⟩ := A.un.any e' (I.stkFree a hb) (by simp)
      rw [he] at e2
      have := Option.some.inj e2
      exact nd vs (by rw [this] at hdt; exact hdt)
    · obtain ⟨o', e'⟩ := A.thereB a o e hb
      rw [F.2.1] at e'; cases e'
  refine ⟨hn, I.call' A.os ⟨A.un.keep, A.un.slot, fun b o e n hx => ?_, A.un.there, fun b xs e => ?_, fun b o u e => ?_, fun b ps e => ?_⟩ ?_ A.bare (fun b z => absurd z (by simp))⟩
  · rw [upd_ne (fun z => new o (by rw [← z]; exact e))]
    exact A.un.free b o e n hx
  · have := A.un.tups b xs e
    rw [upd_ne (ne_of_none this hn)]; exact this
  · have := A.un.frzs b o u e
    rw [upd_ne (ne_of_none this hn)]; exact this
  · obtain ⟨m, this⟩ := A.un.tbls b ps e
    exact ⟨m, by rw [upd_ne (ne_of_none this hn)]; exact this⟩
  · intro b u e
    by_cases hb : b = a
    · subst hb
      rw [upd_same] at e; cases e
      refine ⟨⟨oe, he, hcl⟩, ⟨oe, he⟩, fun h1 h2 ⟨ob, e1, e2⟩ k => ⟨ob, k ob e1, e2⟩⟩
    · rw [upd_ne hb] at e
      exact (A.hok b u e).stay (fun _ _ _ q => q) (fun d q => by rw [upd_ne (ne_of_none q hn)]; exact q) fun d xs q => by rw [upd_ne (ne_of_none q hn)]; exact q
noncomputable abbrev Cx.at (X : Cx) (A : Around) (calm : Bool) (pn : List (Addr × Obj)) (xe : Value → Shared → Prop) : Cx := { X with A := A, calm := calm, pn := pn, xe := xe }
theorem inv_at {A : Around} {calm : Bool} {pn pins' : List (Addr × Obj)} {xe : Value → Shared → Prop} (I : Inv X pins σ H s) (hA : A.frames = some X.stack) (hh : calm = true → A.handled = none) (hp : ∀ p ∈ pn ++ pins', p ∈ X.pn ++ pins) :
    Inv (Cx.at X A calm pn xe) pins' σ H s :=
  ⟨⟨I.ok.mod, I.ok.kind, I.ok.glob, I.ok.blt, I.ok.above, I.ok.inj, I.ok.has, I.ok.cab, hh, hA, I.ok.stk, I.ok.exf, I.ok.bs, I.ok.bsz, I.ok.noex, I.ok.exfs, I.ok.funs, I.ok.frf⟩,
    I.os, I.bare, I.base, I.loc, I.cell, I.free, I.freeC, fun p z => I.pin p (hp p z), I.hok, I.len⟩
theorem inv_back {A : Around} {calm : Bool} {pn pins' : List (Addr × Obj)} {xe : Value → Shared → Prop} (I : Inv (Cx.at X A calm pn xe) pins' σ H s) (ok : X.Ok) (hp : ∀ p ∈ X.pn ++ pins, p ∈ pn ++ pins') : Inv X pins σ H s :=
  ⟨ok, I.os, I.bare, I.base, I.loc, I.cell, I.free, I.freeC, fun p z => I.pin p (hp p z), I.hok, I.len⟩
theorem unset_ok {M : Model} {A : Around} {E : Value → Shared → Prop} {i : Nat} {x : Str} {pos : Pos} {Q : Unit → Shared → Prop} (I : Inv X pins σ H s) (hN : X.N.Nodup) (hi : X.N[i]? = some x) (hk : X.env.kindOf x = some .local)
    (h : ∀ s', Inv X pins (σ.set i none) H s' → Q () s') : wpAny M A (do bindName X.env x .none; unbindBehindTheSuite X.env x pos) Q E s := by
  have hcls : (X.env.scope.kind == .class || (X.env.scope.kind == .module && X.env.locals != X.env.globals)) = false := by rw [I.ok.kind]; rfl
  refine wpAny_bind (wpAny_bindName (store_ok I hN hi (.inl hk) (v := .non) rfl (fun s1 I1 => ?_) (.inr hk)))
  unfold unbindBehindTheSuite
  refine wpAny_onRaise ?_
  obtain ⟨m, hn, hl⟩ := id I1.loc
  have hiσ : i < σ.length := by rw [I.len]; exact (List.getElem?_eq_some_iff.mp hi).1
  have hv : m x = some .none := by
    obtain ⟨u, r, q⟩ := hl i x .non hi (by rw [List.getElem?_set_self hiσ]) (.inl hk)
    cases r
    rcases q with ⟨_, q⟩ | ⟨k, _⟩
    · exact q
    · rw [hk] at k; rcases k with k | k <;> cases k
  refine wpAny_unbindName_local hk hn hv hcls fun h' u hn' hs => h _ ?_
  have cne := I1.cne
  have tracked : HOk X.prog X.w H h' := fun b ob e => by
    refine (I1.hok b ob e).stay (fun c w' hc q => (hs.2 c ?_).trans q) (fun _ q => q) fun _ _ q => q
    rintro rfl
    rcases hc with rfl | hc
    · rw [I1.free] at e; cases e
    · rw [I1.free] at hc; cases hc
  refine ⟨I1.ok, I1.os, I1.bare, ⟨fun b o e n hb hx => ?_, fun b o e n hb hx => ?_, I1.base.free, fun b o e hx => ?_, I1.base.tups, I1.base.frzs, I1.base.tbls⟩, ⟨_, hn', fun j y v' e1 e2 e3 => ?_⟩, fun y c e => ?_, I1.free, I1.freeC, fun p hp => ?_, tracked, by simpa using I.len⟩
  · exact (hs.2 b (Nat.ne_of_lt (Nat.lt_of_lt_of_le (Heap.lt_size e) I.ok.above))).trans (I1.base.keep b o e n hb hx)
  · obtain ⟨sl, e1⟩ := I1.base.slot b o e n hb hx
    exact ⟨sl, (hs.2 b (Nat.ne_of_lt (Nat.lt_of_lt_of_le (Heap.lt_size e) I.ok.above))).trans e1⟩
  · obtain ⟨o', e1⟩ := I1.base.there b o e hx
    exact ⟨o', (hs.2 b (Nat.ne_of_lt (Nat.lt_of_lt_of_le (Heap.lt_size e) I.ok.above))).trans e1⟩
  · by_cases hj : j = i
    · subst hj
      rw [List.getElem?_set_self hiσ] at e2
      cases e2
    · rw [List.getElem?_set_ne (Ne.symm hj)] at e2
      obtain ⟨u', r', q⟩ := hl j y v' e1 (by rw [List.getElem?_set_ne (Ne.symm hj)]; exact e2) e3
      refine ⟨u', r', ?_⟩
      rcases q with ⟨k, e⟩ | ⟨k, c, e, z⟩
      · refine .inl ⟨k, ?_⟩
        have : y ≠ x := fun e => hj (nodup_ix hN e1 (e ▸ hi))
        simp [this, e]
      · exact .inr ⟨k, c, e, z.sameBut hs (cne y c e)⟩
  · obtain ⟨w', z⟩ := I1.cell y c e
    exact ⟨w', z.sameBut hs (cne y c e)⟩
  · obtain ⟨e, n, ne, nf, d⟩ := I1.pin p hp
    exact ⟨(hs.2 p.1 ne).trans e, n, ne, nf, d⟩
end
theorem Rel.unset {K : PySem.W.Frag} {H₀ H : Hp} {Z : Addr → Prop} {ρ : Rho} {τ : TSt} {C : Sto} {σ : L2.St} (R : Rel K H₀ Z ρ τ C σ H) (i : Nat) : Rel K H₀ Z ρ (τ.set i none) C (σ.set i none) H := by
  refine ⟨R.old, R.frs, R.nd, R.zd, fun j u e => ?_, R.cel, R.len, by simp [R.lnt]⟩
  by_cases hj : j = i
  · subst hj
    have hτ : j < τ.length := by
      have := (List.getElem?_eq_some_iff.mp e).1
      simpa using this
    rw [List.getElem?_set_self hτ] at e
    cases e
  · rw [List.getElem?_set_ne (Ne.symm hj)] at e
    obtain ⟨w, h1, h2⟩ := R.loc j u e
    exact ⟨w, by rw [List.getElem?_set_ne (Ne.symm hj)]; exact h1, h2⟩
end TL
/-! ModelO -/
set_option linter.all false
set_option maxRecDepth 100000
namespace TL
open PySem PySem.Spec PyProof.Rows L2
structure Tab (K : PySem.W.Frag) (mg : Str → Option Value) (tab : String → List String) (rs ds : List String) : Prop where
  dom : ∀ c, tab c ≠ [] → c ∈ rs
  own : ∀ d ∈ ds, ∃ D, ExC K mg d D ∧ PySem.W.typeIn K (.ref D) = some (.type "type")
  cls : ∀ c C, c ∈ rs → Named K c C → PySem.W.excIn K C mroVE "ValueError.__new__" = true ∧ PySem.W.findIn K (.ref C) "__getattribute__" = some (some (.builtin "BaseException.__getattribute__")) ∧ PySem.W.findIn K (.ref C) "__getattr__" = some none ∧ PySem.W.mroIn K C (.type "BaseException") = some true ∧ PySem.W.findIn K (.ref C) "__class__" = some (some (.builtin "object.__class__")) ∧ PySem.W.mroIn K C (.type "object") = some true
  ve : ∀ c C, c ∈ rs → Named K c C → PySem.W.subIn K (.ref C) (.type "ValueError") = some ((tab c).contains "ValueError")
  sub : ∀ c C d D, c ∈ rs → d ∈ ds → Named K c C → Named K d D → PySem.W.mroIn K C (.ref D) = some ((tab c).contains d)

section
variable {X : Cx} {tab : String → List String} {rs ds : List String} {d : String} {i : Nat} {n : Str} {F G : FS} {body suite : List Stmt} {b₀ : Stmt} {np hpos pos : Pos}
theorem qs_try (T : Tab X.K X.mg tab rs ds) (hd : d ∈ ds) (hN : X.N.Nodup) (i : Nat) (hc : X.calm = true) (hb : ∀ pn E, QSs (Cx.at X X.A X.calm pn E) body F) (hs : ∀ A, QSs (Cx.at X A false X.pn fun _ _ => False) (b₀ :: suite) G)
    (hi : X.N[i]? = some n := by rfl) (hk : X.env.kindOf n = some .local := by rfl) (hg : Gl X (Str.ofString d) := by rfl) (hdb : (Str.ofString d == ("__debug__" : Str)) = false := by decide)
    (hst : X.stack = X.env :: X.outer := by rfl) (hf : X.env.frame = some X.env.locals := by rfl) :
    QS X (.Try body [.ExceptHandler (some (.Name (Str.ofString d) np)) (some n) (b₀ :: suite) hpos] [] [] pos) (fTry tab d i F G) := by
  intro pins s σ H Dn I h
  obtain ⟨H₀, Z, ρ, τ, C, fl, τ', C', R, e, k⟩ := h
  unfold fTry at e
  obtain ⟨⟨f1, τ1, C1⟩, eF, e⟩ := Option.bind_eq_some_iff.mp e
  refine wpAny_Try_except ?_
  refine wpAny_mono (hb (X.pn ++ pins) (fun e s₁ => wpAny (model X.prog X.w) X.A (noteFrame e X.env) (fun _ s₂ => wpAny (model X.prog X.w) X.A (setFlight e none) (fun _ s₃ => wpAny (model X.prog X.w) X.A (handleBy e X.env [.ExceptHandler (some (.Name (Str.ofString d) np)) (some n) (b₀ :: suite) hpos]) (SP X pins Dn) X.xe s₃) X.xe s₂) X.xe s₁)
    [] s σ H Dn (inv_at I I.ok.frames I.ok.hd fun p z => by simpa using z) ⟨H₀, Z, ρ, τ, C, f1, τ1, C1, R, eF, fun σ1 H1 ρ1 R1 s1 => ?_⟩) (fun fl1 s1 h1 => ?_) fun e s1 h1 => h1
  · cases f1 with
    | nx => cases e; exact k σ1 H1 ρ1 R1 s1
    | bk => cases e; exact k σ1 H1 ρ1 R1 s1
    | ct => cases e; exact k σ1 H1 ρ1 R1 s1
    | rt t => cases e; exact k σ1 H1 ρ1 R1 s1
    | ex c =>
      dsimp only at e
      split at e
      · rename_i hsub
        obtain ⟨⟨f2, τ2, C2⟩, eG, e⟩ := Option.bind_eq_some_iff.mp e
        intro pins2 H2 s2 a Cl B s3 I2 al way
        have I2X : Inv X pins σ1 H2 s2 := inv_back I2 I.ok fun p z => List.mem_append_left _ z
        have al' : Aloft X.prog X.w X.K X.stack H2 s2 c H1 Cl B s3 := al
        -- the exception is looked at: it flies over this frame, all else as it was
        have land : ∀ h5 t, Heap.FlyingW B X.stack a (.ref Cl) (.ref t) h5 → s3.heap.UpToSlots h5 →
            wpAny (model X.prog X.w) X.A (handleBy (.ref a) X.env [.ExceptHandler (some (.Name (Str.ofString d) np)) (some n) (b₀ :: suite) hpos]) (SP X pins Dn) X.xe { s3 with heap := h5 } := by
          intro h5 t F5 sm5
          have al5 := al'.stay I2X F5.1 sm5
          have I5 := al5.inv I2X
          have I5' : Inv (Cx.at X (X.A.mark (some (.ref a))) false X.pn fun _ _ => False) pins σ1 H1 { s3 with heap := h5 } := inv_at I5 (by rw [← I.ok.frames]; rfl) (fun z => by cases z) fun p z => z
          obtain ⟨D, ED, _⟩ := T.own d hd
          have hrs := T.dom c fun z => by rw [z] at hsub; cases hsub
          obtain ⟨up, hup, hmro, _⟩ := exAt_of I5.kIn (T.cls c Cl hrs al.nm).1
          obtain ⟨upD, hupD, _, _⟩ := exAt_of I5.kIn ED.ok
          obtain ⟨N, nm, q, bs, hdct, sn, sub, ab, col, dd, k0, k1, k2, k3, k5, mN, hC, hNs, hni, TL⟩ := hup.ex
          obtain ⟨N', nm', q', bs', hdct', sn', sub', ab', col', dd', k0', k1', k2', k3', k5', mN', hD, hNs', hni', TL'⟩ := hupD.ex
          obtain ⟨oe, vs, he, hcl, hdt, _⟩ := F5.first
          refine wpAny_handleBy_cons (codeAny_handlers_test (ld_glob (X := Cx.at X (X.A.mark (some (.ref a))) false X.pn fun _ _ => False) I5' hg ED.mg ?_ hdb)) (by intro q; cases q)
          refine excMatches_own hC hD he hcl (TL'.hasType PySem.F.excBase_ValueError.hasBase) (hmro _ _ ((T.sub c Cl d D hrs hd al.nm ED.nm).trans (by rw [hsub]))) ?_
          refine codeAny_handlers_suite_as ?_
          refine lands_againW F5 fun h6 F6 sm6 => ?_
          have al6 := al'.stay I2X F6.1 (sm5.trans sm6)
          obtain ⟨hn, I6⟩ := al6.held I2X F6
          refine store_ok I6 hN hi (.inl hk) (v := .ref a) rfl (fun s7 I7x => ?_) (.inr hk)
          have I7 : Inv (Cx.at X (X.A.mark (some (.ref a))) false X.pn fun _ _ => False) pins (σ1.set i (some (.ref a))) (upd H1 a (exO a Cl)) s7 := inv_at I7x (by rw [← I.ok.frames]; rfl) (fun z => by cases z) fun p z => z
          obtain ⟨R6, st6⟩ := R1.alloc (p := a) (o := exO a Cl) hn
          obtain ⟨nz, nr, _⟩ := R1.fresh_not hn
          have rt6 : RT X.K (mask (upd H1 a (exO a Cl)) Z ρ1) ρ1 (.exc c) (.ref a) := by
            unfold RT
            exact ⟨a, Cl, rfl, al.nm, mask_of nz nr upd_same⟩
          have R7 := R6.set (i := i) rt6
          refine wpAny_mono (hs (X.A.mark (some (.ref a))) pins s7 _ _ { nx := fun σ H => Dn.nx (σ.set i none) H, rt := Dn.rt, bk := fun σ H => Dn.bk (σ.set i none) H, ct := fun σ H => Dn.ct (σ.set i none) H } I7
            ⟨H₀, Z, ρ1, _, C1, f2, τ2, C2, R7, eG, fun σ8 H8 ρ8 R8 s8 => ?_⟩) (fun f s8 h8 => ?_) fun _ _ z => z.elim
          · cases f2 with
            | nx => cases e; exact k (σ8.set i none) H8 ρ8 (R8.unset i) (s1.trans (st6.ss.trans s8))
            | bk => cases e; exact k (σ8.set i none) H8 ρ8 (R8.unset i) (s1.trans (st6.ss.trans s8))
            | ct => cases e; exact k (σ8.set i none) H8 ρ8 (R8.unset i) (s1.trans (st6.ss.trans s8))
            | rt t => cases e; exact k (σ8.set i none) H8 ρ8 (R8.unset i) (s1.trans (st6.ss.trans s8))
            | ex c => cases e
          · have back : ∀ {σ8 H8}, Inv (Cx.at X (X.A.mark (some (.ref a))) false X.pn fun _ _ => False) pins σ8 H8 s8 → Inv X pins σ8 H8 s8 := fun z => inv_back z I.ok fun p z => z
            cases f with
            | next =>
              obtain ⟨σ8, H8, I8, q8⟩ := h8
              exact unset_ok (back I8) hN hi hk fun s9 I9 => ⟨_, H8, I9, q8⟩
            | brk =>
              obtain ⟨σ8, H8, I8, q8⟩ := h8
              exact unset_ok (back I8) hN hi hk fun s9 I9 => ⟨_, H8, I9, q8⟩
            | cont =>
              obtain ⟨σ8, H8, I8, q8⟩ := h8
              exact unset_ok (back I8) hN hi hk fun s9 I9 => ⟨_, H8, I9, q8⟩
            | ret u =>
              obtain ⟨v8, σ8, H8, I8, r8, q8⟩ := h8
              exact unset_ok (back I8) hN hi hk fun s9 I9 => ⟨v8, _, H8, I9, r8, q8⟩
        have hfr : X.A.frames = some (X.env :: X.outer) := by rw [I.ok.frames, hst]
        show wpAny (model X.prog X.w) X.A (noteFrame (.ref a) X.env) _ X.xe s3
        have way' : Made B X.stack a Cl s3 ∨ Flies B X.stack a Cl s3 := way
        rw [hst] at way' land
        rcases way' with ⟨h0, vs, st, ff, me⟩ | ⟨t, F⟩
        · refine looks_made hfr hf st ff me fun h4 t F4 sm4 => wpAny_landsW F4 fun h5 F5 sm5 => land h5 t F5 (sm4.trans sm5)
        · refine wpAny_looks_onW hfr hf F fun h4 F4 sm4 => wpAny_landsW F4 fun h5 F5 sm5 => land h5 t F5 (sm4.trans sm5)
      · cases e
  · have back : ∀ {σ8 H8 xe}, Inv (Cx.at X X.A X.calm (X.pn ++ pins) xe) [] σ8 H8 s1 → Inv X pins σ8 H8 s1 := fun z => inv_back z I.ok fun p z => by simpa using z
    cases fl1 with
    | next =>
      obtain ⟨σ8, H8, I8, q8⟩ := h1
      exact wpAny_execs_nil ⟨σ8, H8, back I8, q8⟩
    | brk =>
      obtain ⟨σ8, H8, I8, q8⟩ := h1
      exact ⟨σ8, H8, back I8, q8⟩
    | cont =>
      obtain ⟨σ8, H8, I8, q8⟩ := h1
      exact ⟨σ8, H8, back I8, q8⟩
    | ret u =>
      obtain ⟨v8, σ8, H8, I8, r8, q8⟩ := h1
      exact ⟨v8, σ8, H8, back I8, r8, q8⟩
end
end TL
/-! ModelP -/
set_option linter.all false
set_option maxRecDepth 100000
namespace PySem.W
open PySem PySem.Spec PySem.Calls PyProof.Rows Builtin Builtin.ObjectAttr Builtin.Getset_descriptor
noncomputable def TyAt (x C : Addr) (h : Heap) : Prop := ∃ ob, h.get? x = some ob ∧ ob.cls = .ref C
theorem TyAt.type {M : Model} {h : Heap} {x C : Addr} (I : TyAt x C h) : Looks M h (typeOf (.ref x)) (.ref C) := by
  obtain ⟨ob, e, hc⟩ := I
  exact hc ▸ (Looks.ld e).andThen .now
section
variable {prog : Program} {w : World} {A : Around} {E : Value → Shared → Prop} {s : Shared} {K : Frag} {x C D : Addr} {name : Str} {R : Result → Shared → Prop}
theorem ty_get {tp : Value} (X : K.In s.heap) (I : TyAt x C s.heap) (hm : mroIn K C (.type "object") = some true)
    (h : R (.ok (.ret (.ref C))) s) : codeAny (model prog w) A (.call (.builtin "getset_descriptor.__get__") ⟨[.builtin "object.__class__", .ref x, tp], []⟩) R s := by
  obtain ⟨hh, g, dr, t, os⟩ := s
  have L0 := I.type (M := model prog w)
  have L1 := looks_mroIn (M := model prog w) X hm
  refine codeAny_call_builtin KF.slot_gs.plain KF.entry_gs (KF.slot_gs.check _ _ _ _ _ _ _ _ KF.type_class (KF.args_gs _ _ _) ?_)
  unfold Builtin.«getset_descriptor.__get__» descrGet
  rw [dga_obj]
  refine wpAny_bind (wpAny_pure ?_)
  unfold descrGetter descrCheckInstance descrNameAndClass isInstance
  simp only [KF.owner_class]
  repeat lk
  refine ⟨Code.quiet_builtin _ (by decide +kernel), codeAny_builtin KF.entry_class ?_⟩
  unfold Builtin.«object.__class__» shownTypeOf
  repeat lk
  exact h
end
section
variable {prog : Program} {w : World} {A : Around} {E : Value → Shared → Prop} {K : Frag} {x C : Addr} {R : Result → Shared → Prop} {h : Heap} {g : Array GenState} {d : Drawn} {t : Nat} {os : OsState}
theorem exc_check {M : Model} {nameV : Value} {Q : Unit → Shared → Prop} (X : K.In h) (I : TyAt x C h) (hb : mroIn K C (.type "BaseException") = some true) (hq : Q () ⟨h, g, d, t, os⟩) :
    wpAny M A (checkBuiltinCall "BaseException.__getattribute__" ⟨[.ref x, nameV], []⟩) Q E ⟨h, g, d, t, os⟩ := by
  have hk : builtinKind "BaseException.__getattribute__" = some .slot := by decide +kernel
  have hsplit : splitId "BaseException.__getattribute__" = some ("BaseException", "__getattribute__") := by decide +kernel
  have ha := F.args_bexc_ga (.ref x) nameV
  have L0 := I.type (M := M)
  have L1 : Looks M h (isSubtype (.ref C) (.type "BaseException")) true := looks_mroIn X hb
  obtain ⟨o, hx, hc⟩ := I
  simp only [checkBuiltinCall, hk, hsplit]
  refine wpAny_bind ?_
  · unfold isInstance
    repeat (first | with_reducible refine L0.at ?_ | with_reducible refine L1.at ?_ | (with_reducible refine wpAny_loadPart_at hx ?_; rw [hc]) | wp_step)
    exact hq
theorem exc_entry {tk : Tok} {Q : Fin → Shared → Prop} (X : K.In h) (I : TyAt x C h) (ha : findIn K (.ref C) "__class__" = some (some (.builtin "object.__class__"))) (hm : mroIn K C (.type "object") = some true) (hq : Q (.done (.ret (.ref C))) ⟨h, g, d, t, os⟩) :
    wpAny (model prog w) A (Builtin.«object.__getattribute__» ⟨[.ref x, .str "__class__" tk], []⟩) Q E ⟨h, g, d, t, os⟩ := by
  have hT5 : (⟨h, g, d, t, os⟩ : Shared).TypeIs (.builtin "object.__class__") "getset_descriptor" := F.typeOf_object_class
  have f5 := F.typeOf_object_class
  have f6 := F.slot_gs_get.lookup
  have f7 := F.slot_gs_set.lookup
  have L1 := looks_findIn (M := model prog w) X ha
  have I' := I
  obtain ⟨o, hx, hc⟩ := I
  repeat (any_goals (first | assumption | with_reducible refine L1.at ?_ | (with_reducible refine wpAny_loadPart_at hx ?_; rw [hc]) | wp_step))
  refine ty_get X I' hm ?_
  repeat (any_goals (first | assumption | wp_step))
theorem exc_by {tk : Tok} {Q : Value → Shared → Prop} (X : K.In h) (I : TyAt x C h) (hga : findIn K (.ref C) "__getattribute__" = some (some (.builtin "BaseException.__getattribute__"))) (hgg : findIn K (.ref C) "__getattr__" = some none) (hb : mroIn K C (.type "BaseException") = some true)
    (ha : findIn K (.ref C) "__class__" = some (some (.builtin "object.__class__"))) (hm : mroIn K C (.type "object") = some true) (hq : Q (.ref C) ⟨h, g, d, t, os⟩) :
    wpAny (model prog w) A (getAttrBy (.ref x) (.str "__class__" tk) false) Q E ⟨h, g, d, t, os⟩ := by
  have f3 := F.excAttr_ValueError.ga.bind (.ref x)
  have hx2 : (Value.builtin "BaseException.__getattribute__" == Value.builtin "object.__getattribute__") = false := by decide +kernel
  have hx1 : (onTheHeap (Value.ref C) && Value.builtin "BaseException.__getattribute__" == Value.builtin "object.__getattribute__") = false := by rw [hx2]; rfl
  have L1 := looks_findIn (M := model prog w) X hga
  have L2 := looks_findIn (M := model prog w) X hgg
  have I' := I
  obtain ⟨o, hx, hc⟩ := I
  repeat (any_goals (first | assumption | with_reducible refine L1.at ?_ | with_reducible refine L2.at ?_ | (with_reducible refine wpAny_loadPart_at hx ?_; rw [hc]) | wp_step))
  refine codeAny_call_builtin F.excAttr_ValueError.ga.plain F.entry_bexc_ga (exc_check X I' hb (exc_entry X I' ha hm ?_))
  repeat (any_goals (first | assumption | wp_step))
theorem exc_class {Q : Option Value → Shared → Prop} (X : K.In h) (I : TyAt x C h) (hga : findIn K (.ref C) "__getattribute__" = some (some (.builtin "BaseException.__getattribute__"))) (hgg : findIn K (.ref C) "__getattr__" = some none) (hb : mroIn K C (.type "BaseException") = some true)
    (ha : findIn K (.ref C) "__class__" = some (some (.builtin "object.__class__"))) (hm : mroIn K C (.type "object") = some true) (hq : Q (some (.ref C)) ⟨h, g, d, t + 1, os⟩) : wpAny (model prog w) A (getAttr? (.ref x) "__class__") Q E ⟨h, g, d, t, os⟩ := by
  unfold getAttr? getAttrBy?
  repeat (any_goals (first | assumption | with_reducible apply exc_by X I hga hgg hb ha hm | wp_step))
end
theorem kitx_exc {K : Frag} {x D : Addr} (hga : findIn K (.ref D) "__getattribute__" = some (some (.builtin "BaseException.__getattribute__"))) (hgg : findIn K (.ref D) "__getattr__" = some none) (hb : mroIn K D (.type "BaseException") = some true)
    (ha : findIn K (.ref D) "__class__" = some (some (.builtin "object.__class__"))) (hm : mroIn K D (.type "object") = some true) (hcl : (clsIn K D).isSome = true) :
    KitX K (.ref x) (.ref D) (TyAt x D) where
  ty := fun _ _ _ I => I.type
  it := fun _ _ X _ => by
    obtain ⟨cdD, hcD⟩ := Option.isSome_iff_exists.mp hcl
    unfold clsIn at hcD
    split at hcD
    · rename_i c' d' cd' sl' ho
      intro A' Q' E' s' k q
      unfold isType loadHead
      exact wpAny_bind (wpAny_loadPart (k _ _ (X _ _ ho)) (wpAny_pure q))
    · cases hcD
  ne := fun h tp dd its n sl X htp => by
    obtain ⟨cdD, hcD⟩ := Option.isSome_iff_exists.mp hcl
    refine Bool.eq_false_iff.mpr fun q => ?_
    have e : D = tp := Value.ref.inj (beq_iff_eq.mp q)
    subst e
    unfold clsIn at hcD
    split at hcD
    · rename_i c' d' cd' sl' ho
      have z := (X _ _ ho).symm.trans htp
      cases z
    · cases hcD
  ca := fun {_ _ _ _ _ s} X I k => by
    obtain ⟨h, g, d, t, os⟩ := s
    exact exc_class X I hga hgg hb ha hm k
end PySem.W
/-! ModelQ -/
set_option linter.all false
set_option maxRecDepth 100000
namespace TL
open PySem PySem.Spec PyProof.Rows L2
noncomputable def KitV (K : PySem.W.Frag) (H : Hp) (x : V) (t : Value) : Prop := (x = .non ∧ t = .type "NoneType") ∨ ∃ a C, x = .ref a ∧ t = .ref C ∧ H a = some (exO a C) ∧ PySem.W.findIn K (.ref C) "__getattribute__" = some (some (.builtin "BaseException.__getattribute__")) ∧ PySem.W.findIn K (.ref C) "__getattr__" = some none ∧
  PySem.W.mroIn K C (.type "BaseException") = some true ∧ PySem.W.findIn K (.ref C) "__class__" = some (some (.builtin "object.__class__")) ∧ PySem.W.mroIn K C (.type "object") = some true ∧ (PySem.W.clsIn K C).isSome = true
noncomputable def AskV (K : PySem.W.Frag) (H : Hp) (t : Value) (y : V) (b : Bool) : Prop := (∃ D, y = .ref D ∧ PySem.W.kitOne K t (.ref D) = some b) ∨ (∃ c, y = .ty c ∧ PySem.W.kitOne K t (.type c) = some b) ∨
  ∃ (p : Addr) (Ds : List Addr), y = .ref p ∧ H p = some (.tup (Ds.map V.ref)) ∧ PySem.W.kitAny K t (Ds.map Value.ref) = some b
theorem vals_ref : ∀ {Ds : List Addr} {us : List Value}, Vals (Ds.map V.ref) us → us = Ds.map Value.ref
  | [], us, h => by cases h; rfl
  | D :: Ds, us, h => by
    cases h with
    | cons r t => cases r; rw [vals_ref t]; rfl
section
variable {X : Cx}
theorem call_isx : CallR X (.builtin "isinstance") (fun xs H Q => ∃ x y t b, xs = [x, y] ∧ KitV X.K H x t ∧ AskV X.K H t y b ∧ Q (.bl b) H) := by
  intro pins s σ H xs us Q I r h
  obtain ⟨x, y, t, b, rfl, hx, hy, q⟩ := h
  obtain ⟨u, u2, rfl, ru, ru2⟩ := r.two
  have fin : ∀ tk, EP X pins σ Q (.bool b) { s with toks := tk } := fun tk => ⟨.bl b, H, I.tok tk, rfl, q⟩
  have go : ∀ {P : Heap → Prop}, PySem.W.KitX X.K u t P → P s.heap → u ≠ .builtin "__main__.__loader__#opaque" → wpAny (model X.prog X.w) X.A (call (.builtin "isinstance") [u, u2]) (EP X pins σ Q) X.xe s := by
    intro P Z p hu
    rcases hy with ⟨D, rfl, e⟩ | ⟨c, rfl, e⟩ | ⟨tp, Ds, rfl, hp, e⟩
    · cases ru2; exact PySem.W.kia_one Z I.kIn p e hu fin
    · cases ru2; exact PySem.W.kia_one Z I.kIn p e hu fin
    · cases ru2
      obtain ⟨_, its, rv, o, ho, hcl, n, hdt⟩ := I.hok tp _ hp
      rw [vals_ref rv] at hdt
      obtain ⟨oc, od, odt, osl⟩ := o
      dsimp only at hcl hdt
      subst hcl hdt
      exact PySem.W.kia_tup Z I.kIn p ho e hu fin
  rcases hx with ⟨rfl, rfl⟩ | ⟨a, C, rfl, rfl, ha, g1, g2, g3, g4, g5, g6⟩
  · cases ru; exact go PySem.W.kitx_none True.intro fun z => nomatch z
  · cases ru
    obtain ⟨hφ, _⟩ := I.hok a _ ha
    exact go (PySem.W.kitx_exc g1 g2 g3 g4 g5 g6) hφ fun z => nomatch z

theorem sub_none (D : Addr) (K : PySem.W.Frag) : PySem.W.subIn K (.type "NoneType") (.ref D) = some false := by
  have e : PySem.fastBuiltinMro "NoneType" = some [.type "NoneType", .type "object"] := by kernel_rfl
  show (PySem.fastBuiltinMro "NoneType").map _ = _
  rw [e]; rfl
theorem isCls {K : PySem.W.Frag} {mg : Str → Option Value} {d : String} {D : Addr} {h : Heap} (X : K.In h) (E : ExC K mg d D ∧ PySem.W.typeIn K (.ref D) = some (.type "type")) : ((PySem.W.clsIn K D).isSome && PySem.W.typeIn K (.ref D) == some (.type "type")) = true := by
  obtain ⟨_, _, _, hc⟩ := exAt_of X E.1.ok
  rw [hc, E.2]; rfl
theorem kit_none {K : PySem.W.Frag} {mg : Str → Option Value} {d : String} {D : Addr} {h : Heap} (X : K.In h) (E : ExC K mg d D ∧ PySem.W.typeIn K (.ref D) = some (.type "type")) : PySem.W.kitOne K (.type "NoneType") (.ref D) = some false := by
  unfold PySem.W.kitOne PySem.W.kitCls
  rw [if_neg (by simp)]
  dsimp only
  rw [if_pos (isCls X E)]
  exact sub_none D K
theorem kit_exc {K : PySem.W.Frag} {mg : Str → Option Value} {tab : String → List String} {rs ds0 : List String} (T : Tab K mg tab rs ds0) {c d : String} {C D : Addr} {h : Heap} (X : K.In h) (hc : c ∈ rs) (hd : d ∈ ds0) (nc : Named K c C) (E : ExC K mg d D ∧ PySem.W.typeIn K (.ref D) = some (.type "type")) :
    PySem.W.kitOne K (.ref C) (.ref D) = some ((tab c).contains d) := by
  have s := T.sub c C d D hc hd nc E.1.nm
  unfold PySem.W.kitOne PySem.W.kitCls
  by_cases e : (Value.ref C == Value.ref D) = true
  · rw [if_pos e]
    obtain ⟨up, _, hm, _⟩ := exAt_of X (T.cls c C hc nc).1
    have := hm _ _ s
    rw [List.contains_cons, BEq.comm, e] at this
    rw [← this]; rfl
  · rw [if_neg e]
    dsimp only
    rw [if_pos (isCls X E)]
    exact s
theorem i_isx {K : PySem.W.Frag} {mg : Str → Option Value} {tab : String → List String} {rs ds0 ds : List String} (T : Tab K mg tab rs ds0) {fa : FE} {σ : L2.St} {H : Hp} {Q : VK} (h : trE K (fIsx tab ds fa) σ H Q) :
    trE K fa σ H fun x H1 => ∃ t b, (∀ H2, Same H1 H2 → KitV K H2 x t ∧ Q (.bl b) H2) ∧ ((t = .type "NoneType" ∧ b = false) ∨ ∃ c C, c ∈ rs ∧ Named K c C ∧ t = .ref C ∧ b = ds.any fun d => (tab c).contains d) := by
  refine trE_mono (i_un h) fun x H1 q => ?_
  obtain ⟨t0, H₀, Z, ρ, τ, C, t, C', R, r, e, k⟩ := q
  obtain ⟨_, _, z, r1, r⟩ := r.cons_inv
  cases z
  obtain ⟨b, e1, e⟩ := Option.map_eq_some_iff.mp e
  cases e
  have kk : ∀ H2, Same H1 H2 → Q (.bl b) H2 := fun H2 sm => by
    obtain ⟨R', st⟩ := R.same sm
    exact k _ H2 ρ R' .bl st
  cases t0 with
  | non =>
    cases e1
    exact ⟨_, _, fun H2 sm => ⟨.inl ⟨r1.non_inv, rfl⟩, kk H2 sm⟩, .inl ⟨rfl, rfl⟩⟩
  | exc c =>
    have e2 : (if tab c = [] then none else some (ds.any fun d => (tab c).contains d)) = some b := e1
    clear e1
    split at e2
    · cases e2
    · rename_i hne
      cases e2
      unfold RT at r1
      obtain ⟨a, Cl, ea, hn, hm⟩ := r1
      have hc := T.dom c hne
      obtain ⟨g1, g2, g3, g4, g5, g6⟩ := T.cls c Cl hc hn
      have hcl : (PySem.W.clsIn K Cl).isSome = true := by
        unfold PySem.W.mroIn at g6
        obtain ⟨cd, hcd, _⟩ := Option.bind_eq_some_iff.mp g6
        rw [hcd]; rfl
      exact ⟨.ref Cl, _, fun H2 sm => ⟨.inr ⟨a, Cl, ea, rfl, sm _ _ (mask_some.mp hm).2.2, g2, g3, g4, g5, g6, hcl⟩, kk H2 sm⟩, .inr ⟨c, Cl, hc, hn, rfl, rfl⟩⟩
  | _ => cases e1
variable {tab : String → List String} {rs ds0 : List String} {a : Expr} {fa : FE} {p pos tpos p2 : Pos} {d : String} {ds : List String} {es : List Expr}
theorem q_isx1 (T : Tab X.K X.mg tab rs ds0) (hm : X.mg "isinstance" = none) (ha : QE X a fa) (hd : d ∈ ds0 := by decide) (hg : Gl X "isinstance" := by rfl) (hgd : Gl X (Str.ofString d) := by rfl) (hdb : (Str.ofString d == ("__debug__" : Str)) = false := by decide)
    (h1 : starEach [a, .Name (Str.ofString d) p2] X.env = (false, eval a X.env) :: starEach [.Name (Str.ofString d) p2] X.env := by rfl) (h2 : (backTo pos (starEach [.Name (Str.ofString d) p2] X.env)).any (·.1) = false := by rfl) :
    QE X (.Call (.Name "isinstance" p) [a, .Name (Str.ofString d) p2] [] pos) (fIsx tab [d] fa) := by
  obtain ⟨D, hD⟩ := T.own d hd
  intro pins s σ H Q I h
  refine (pe_callB call_isx hg hm boot_isinstance (pa_cons ha (pa_cons (pe_glob (v := .ref D) hgd hD.1.mg rfl hdb) pa_nil rfl) h1) (by decide) (by decide) h1 h2) pins s σ H Q I ?_
  refine trE_mono (i_isx T h) fun x H1 q => ?_
  obtain ⟨t, b, hk, hb⟩ := q
  refine ⟨x, .ref D, t, b, rfl, (hk H1 (.refl _)).1, .inl ⟨D, rfl, ?_⟩, (hk H1 (.refl _)).2⟩
  rcases hb with ⟨rfl, rfl⟩ | ⟨c, C, hc, hn, rfl, rfl⟩
  · exact kit_none I.kIn hD
  · rw [kit_exc T I.kIn hc hd hn hD]; simp
theorem q_isxV (T : Tab X.K X.mg tab rs ds0) (hm : X.mg "isinstance" = none) (hmv : X.mg "ValueError" = none) (ha : QE X a fa) (hg : Gl X "isinstance" := by rfl) (hgd : Gl X "ValueError" := by rfl)
    (h1 : starEach [a, .Name "ValueError" p2] X.env = (false, eval a X.env) :: starEach [.Name "ValueError" p2] X.env := by rfl) (h2 : (backTo pos (starEach [.Name "ValueError" p2] X.env)).any (·.1) = false := by rfl) :
    QE X (.Call (.Name "isinstance" p) [a, .Name "ValueError" p2] [] pos) (fIsx tab ["ValueError"] fa) := by
  intro pins s σ H Q I h
  refine (pe_callB call_isx hg hm boot_isinstance (pa_cons ha (pa_cons (pe_bltn (v := .ty "ValueError") hgd hmv PyProof.Rows.Boot.«ValueError» rfl (by decide) (by decide)) pa_nil rfl) h1) (by decide) (by decide) h1 h2) pins s σ H Q I ?_
  refine trE_mono (i_isx T h) fun x H1 q => ?_
  obtain ⟨t, b, hk, hb⟩ := q
  refine ⟨x, .ty "ValueError", t, b, rfl, (hk H1 (.refl _)).1, .inr (.inl ⟨"ValueError", rfl, ?_⟩), (hk H1 (.refl _)).2⟩
  have hmeta : PySem.W.kitMeta "ValueError" = true := by kernel_rfl
  rcases hb with ⟨rfl, rfl⟩ | ⟨c, C, hc, hn, rfl, rfl⟩
  · kernel_rfl
  · unfold PySem.W.kitOne PySem.W.kitCls
    rw [if_neg (by simp)]
    dsimp only
    rw [if_pos hmeta, T.ve c C hc hn]
    simp
end
end TL
/-! ModelR -/
set_option linter.all false
set_option maxRecDepth 100000
namespace TL
open PySem PySem.Spec PyProof.Rows L2
theorem i_xApp {K : PySem.W.Frag} {W : XW} {σ : L2.St} {H : Hp} {fo : FE} {x : XF} (h : trX K W (xApp fo x) σ H) : trE K fo σ H fun v H1 => tyV K "list" v H1 ∧ trX K W x σ H1 := by
  obtain ⟨H₀, Z, ρ, τ, C, c, C', R, e, k⟩ := h
  obtain ⟨⟨t, C1⟩, e1, e⟩ := Option.bind_eq_some_iff.mp e
  refine ⟨H₀, Z, ρ, τ, C, t, C1, R, e1, fun v H1 ρ1 R1 h1 s1 => ?_⟩
  dsimp only at e
  split at e
  · obtain ⟨ts, e4, e⟩ := Option.bind_eq_some_iff.mp e
    refine ⟨?_, H₀, Z, ρ1, τ, C1, c, C', R1, e, fun H2 ρ2 R2 s2 => k H2 ρ2 R2 (s1.trans s2)⟩
    unfold RT at h1
    obtain ⟨a, ea, qa⟩ := h1
    obtain ⟨us, vs, c1, c2, c3⟩ := R1.cel _ a qa
    rw [ea]
    exact .inl ⟨rfl, vs, .of c2⟩
  · cases e
section
variable {X : Cx} {a e : Expr} {es : List Expr} {fa : FE} {x : XF} {pos : Pos}
theorem xs_app {apos cpos : Pos} (ho : QE X a fa) (ha : XA X (e :: es) x) (hs : swapsWith (.Call (.Attribute a "append" apos) (e :: es) [] cpos) none pos.line X.env = pure false := by rfl) (hbase : attributeBase a "append" X.env (eval a X.env) = eval a X.env := by rfl)
    (hfew : ((backTo cpos (starEach (e :: es) X.env)).all (fun x => !x.1) && (backToKw cpos (keywordEach [] X.env)).all (fun x => x.1.isSome)
      && decide ((e :: es).length + ([] : List Keyword).length + (if ([] : List Keyword).isEmpty then 0 else 1) < 30)) = true := by rfl)
    (hline : (apos.endLine == cpos.line) = true := by rfl) (hst : starEach (e :: es) X.env = (false, eval e X.env) :: starEach es X.env := by rfl) (hplain : (backTo cpos (starEach es X.env)).any (·.1) = false := by rfl) :
    XS X (.Expr (.Call (.Attribute a "append" apos) (e :: es) [] cpos) pos) (xApp fa x) :=
  (ps_expr (pe_bm PySem.F.plainAttrs_list PySem.F.slot_list_append PySem.F.type_list_append mt_app ho ha hbase hfew hline hst hplain) hs).imp fun _ _ _ => i_xApp
theorem xs_set {y : Str} {pos' : Pos} (hN : X.N.Nodup) (i : Nat) (h : XE X a x) (hi : X.N[i]? = some y := by rfl) (hx : Loc X.env.scope y := by first | exact Or.inl rfl | exact Or.inr rfl) (hs : swapsWith a (some (.Name y pos')) pos.line X.env = pure false := by rfl) (hf : X.fn y = true ∨ X.env.scope.names.lookup y = some .local := by first | exact .inl rfl | exact .inr rfl) :
    XS X (.Assign [.Name y pos'] a pos) x := ps_set hN hi hx h hs hf
theorem qs_raiseE {c : String} {e₀ : Expr} {rest : List Expr} {np cpos : Pos} {fr : FN} (D : ∃ C, ExC X.K X.mg c C) (hc : X.calm = true) (ha : QA X (e₀ :: rest) fr) (hg : Gl X (Str.ofString c) := by rfl) (hd : (Str.ofString c == ("__debug__" : Str)) = false := by decide)
    (he : starEach (e₀ :: rest) X.env = (false, eval e₀ X.env) :: starEach rest X.env := by rfl) (hpl : (backTo cpos (starEach rest X.env)).any (·.1) = false := by rfl) :
    QS X (.Raise (some (.Call (.Name (Str.ofString c) np) (e₀ :: rest) [] cpos)) none pos) (fRaise c fr) := by
  obtain ⟨C, hC⟩ := D
  exact qs_raise hC hc ha hg hd he hpl
end
section
variable {X : Cx} {e : Expr} {es : List Expr} {fr : FN} {p pos : Pos}
end
theorem named_eq {K : PySem.W.Frag} {c : String} {C D : Addr} (h : Named K c C) (h' : Named K c D) : C = D := by
  unfold Named at h h'
  rw [h] at h'
  cases h'; rfl
theorem Tab.of {K : PySem.W.Frag} {mg : Str → Option Value} {tab : String → List String} {rl dl : List (String × Addr)} (hr : ∀ p ∈ rl, Named K p.1 p.2) (dom : ∀ c, tab c ≠ [] → c ∈ rl.map (·.1))
    (own : ∀ p ∈ dl, ExC K mg p.1 p.2 ∧ PySem.W.typeIn K (.ref p.2) = some (.type "type"))
    (cls : ∀ p ∈ rl, PySem.W.excIn K p.2 mroVE "ValueError.__new__" = true ∧ PySem.W.findIn K (.ref p.2) "__getattribute__" = some (some (.builtin "BaseException.__getattribute__")) ∧ PySem.W.findIn K (.ref p.2) "__getattr__" = some none ∧ PySem.W.mroIn K p.2 (.type "BaseException") = some true ∧ PySem.W.findIn K (.ref p.2) "__class__" = some (some (.builtin "object.__class__")) ∧ PySem.W.mroIn K p.2 (.type "object") = some true)
    (ve : ∀ p ∈ rl, PySem.W.subIn K (.ref p.2) (.type "ValueError") = some ((tab p.1).contains "ValueError"))
    (sub : ∀ p ∈ rl, ∀ q ∈ dl, PySem.W.mroIn K p.2 (.ref q.2) = some ((tab p.1).contains q.1)) : Tab K mg tab (rl.map (·.1)) (dl.map (·.1)) := by
  refine ⟨dom, fun d hd => ?_, fun c C hc hn => ?_, fun c C hc hn => ?_, fun c C d D hc hd hn hn' => ?_⟩
  · obtain ⟨p, hp, rfl⟩ := List.mem_map.mp hd
    exact ⟨p.2, own p hp⟩
  · obtain ⟨p, hp, rfl⟩ := List.mem_map.mp hc
    rw [named_eq hn (hr p hp)]
    exact cls p hp
  · obtain ⟨p, hp, rfl⟩ := List.mem_map.mp hc
    rw [named_eq hn (hr p hp)]
    exact ve p hp
  · obtain ⟨p, hp, rfl⟩ := List.mem_map.mp hc
    obtain ⟨q, hq, rfl⟩ := List.mem_map.mp hd
    rw [named_eq hn (hr p hp), named_eq hn' (own q hq).1.nm]
    exact sub p hp q hq
theorem all1 {α : Type} {P : α → Prop} {a : α} {as : List α} (h : P a) (hs : ∀ x ∈ as, P x) : ∀ x ∈ a :: as, P x := List.forall_mem_cons.mpr ⟨h, hs⟩
theorem all0 {α : Type} {P : α → Prop} : ∀ x ∈ ([] : List α), P x := fun _ z => nomatch z
end TL
/-! ModelS -/
set_option linter.all false
set_option maxRecDepth 100000
namespace TL
open PySem PySem.Spec PyProof.Rows L2
section
variable {X : Cx} {a b e de : Expr} {fa fb : FE} {x : XF} {p pos kp : Pos}
theorem x_maxD (hm : X.mg "max" = none) (hc : X.calm = true) (ha : XE X e x) (hb : QE X de fb) (hg : Gl X "max" := by rfl)
    (he : backTo pos (starEach [e] X.env) = (false, eval e X.env) :: backTo pos (starEach [] X.env) := by rfl) (hpl : (backTo pos (starEach [e] X.env)).any (·.1) = false := by rfl)
    (hse : starEach [e] X.env = (false, eval e X.env) :: starEach [] X.env := by rfl) :
    XE X (.Call (.Name "max" p) [e] [⟨some "default", de, kp⟩] pos) x := pe_maxD hm hc ha hb hg he hpl hse
end
end TL
/-! TreeM -/
set_option linter.all false
namespace TL
open PySem L2
noncomputable def fAugI (fo fi fe : FE) : FS := fun τ C => (fo τ C).bind fun q => (fi τ q.2).bind fun r => match q.1, r.1 with
  | .cell c, .int i => (r.2[c]?).bind fun ts => (atI ts i).bind fun old => match old with
    | .int x => (fe τ r.2).bind fun p => match p.1 with
      | .int y => (p.2[c]?).bind fun us => (ixN us.length i).map fun j => (.nx, τ, p.2.set c (us.set j (.int (x + y))))
      | _ => none
    | _ => none
  | _, _ => none
noncomputable def gIs0 (t1 t2 : T) (C : Sto) : Option (T × Sto) := match t2 with
  | .non => match t1 with
    | .non => some (.bl true, C)
    | _ => some (.bl false, C)
  | _ => none
noncomputable abbrev fFdvB (a b : FE) : FE := fBin a b (gIc (fun _ j => decide (0 < j ∧ j < 2 ^ 250)) fun i j => .int (i / j))
noncomputable def fTupD (fa : FN) : FE := fArg fa fun ts C => if ts.length ≤ lim then some (.tup ts, C) else none
noncomputable def gDmB (ts : List T) (C : Sto) : Option (T × Sto) := match ts with
  | [.int i, .int j] => if 0 < j ∧ j < 2 ^ 250 then some (.tup [.int (i / j), .int (i % j)], C) else none
  | _ => none
section
variable {K : PySem.W.Frag} {W : XW} {σ : St} {H : Hp}
theorem i_tupD {fa : FN} {Q : VK} (hz : lim ≤ sizeLine) (h : trE K (fTupD fa) σ H Q) : tTup (trA K fa) σ H Q := by
  obtain ⟨H₀, Z, ρ, τ, C, ts, C', R, e, k⟩ := i_arg h
  refine ⟨H₀, Z, ρ, τ, C, ts, C', R, e, fun vs H1 ρ1 R1 h1 s1 => ?_⟩
  obtain ⟨us, H₀', Z', ρ', τ', C1, t, C2, R', r, e, k⟩ := k vs H1 ρ1 R1 h1 s1
  split at e
  · rename_i hl
    cases e
    exact ⟨by rw [r.length]; exact Nat.le_trans hl hz, fun p hp => k _ _ ρ' (R'.alloc hp).1 (R'.alloc_tup hp r) (R'.alloc hp).2⟩
  · cases e
end
end TL
/-! ModelT -/
set_option linter.all false
set_option maxRecDepth 100000
namespace TL
open PySem PySem.Spec PyProof.Rows L2
section
variable {X : Cx} {a b c e : Expr} {es : List Expr} {fa fb fc : FE} {fr : FN} {p pos : Pos}
theorem q_tupD {k} (h : QA X es fr) : QE X (.Tuple es k pos) (fTupD fr) := (pe_tup h).imp fun _ _ _ => i_tupD lim_line
theorem small300 {j : Int} (h : 0 < j ∧ j < 2 ^ 250) : j.natAbs.log2 < 9000 := by
  have h0 : j.natAbs ≠ 0 := by omega
  have : j.natAbs < 2 ^ 250 := by
    have h2 := h.2
    have : ((j.natAbs : Nat) : Int) < ((2 ^ 250 : Nat) : Int) := by
      rw [Int.natAbs_of_nonneg (by omega)]
      simpa using h2
    exact Int.ofNat_lt.mp this
  have := (Nat.log2_lt h0).mpr this
  omega
theorem op_fdivB : OpR X (binaryOp .FloorDiv) (rI (fun _ j => 0 < j ∧ j < 2 ^ 250) fun i j => .int (i / j)) := opI fun i j _ _ _ _ _ hc q => by
  have h1 : (0 : Int) < j := hc.1
  exact floordiv_int (by omega) (by rw [Int.fdiv_eq_ediv_of_nonneg i (by omega)]; exact q) (.inl (PyProof.noPylong_of_log2 (small300 hc)))
theorem q_fdivB (ha : QE X a fa) (hb : QE X b fb) : QE X (.BinOp a .FloorDiv b pos) (fFdvB fa fb) := (pe_op op_fdivB ha hb).imp fun _ _ _ => i_op fun _ _ _ _ _ h => by
  obtain ⟨i, j, h1, h2, h3, q⟩ := o_Ic (g := fun i j => .int (i / j)) (fun _ _ _ _ => .int) h
  have h4 : 0 < j ∧ j < 2 ^ 250 := of_decide_eq_true h3
  exact ⟨i, j, h1, h2, h4, q⟩
end
end TL
/-! TreeN -/
set_option linter.all false
namespace TL
open PySem L2
end TL
/-! ModelU -/
set_option linter.all false
set_option maxRecDepth 100000
namespace TL
open PySem PySem.Spec PyProof.Rows L2
section
variable {X : Cx} {e : Expr} {es : List Expr} {fr : FN} {p pos : Pos}
theorem vals_ints : ∀ {vs : List Value} {ns : List Int}, IntsAre vs ns → Vals (ns.map V.int) vs
  | _, _, .nil => .nil
  | _, _, .cons n t h => .cons ⟨t, rfl⟩ (vals_ints h)
end
end TL
/-! TreeO -/
set_option linter.all false
namespace TL
open PySem L2
end TL
/-! ModelV -/
set_option linter.all false
set_option maxRecDepth 100000
namespace TL
open PySem PySem.Spec PyProof.Rows L2
section
variable {X : Cx} {a b : Expr} {fa fb : FE} {p pos : Pos}
end
end TL
/-! TreeS -/
set_option linter.all false
namespace TL
open PySem L2
noncomputable def mN (F : List T → Option (Option (List T))) (ts : List T) : Option (List T) := match F ts with
  | some (some us) => some us
  | _ => none
end TL
/-! ModelW -/
set_option linter.all false
set_option maxRecDepth 100000
namespace TL
open PySem PySem.Spec PyProof.Rows L2
section
variable {K : PySem.W.Frag} {σ : L2.St} {H : Hp}
end
section
variable {X : Cx} {a b e : Expr} {es : List Expr} {fa fb : FE} {fr : FN} {p pos : Pos}
end
end TL
/-! ModelK -/
set_option linter.all false
set_option maxRecDepth 100000
namespace TL
open PySem PySem.Spec PyProof.Rows L2

/-! ### comprehensions whose own name is captured by an inner one -/
section
variable {X : Cx} {own fr : List Str} {is : List Nat} {scope : Scope} {cl : List (Str × Addr)} {x : Str}
end

section
variable {X : Cx} {p p2 pos : Pos} {own frs : List Str} {is : List Nat} {scope : Scope} {cl : List (Str × Addr)} {tg iter elt : Expr} {ifs : List Expr} {fi fe : FE} {g : FG} {gt : FB} {cx : Str}
end
end TL
/-! TreeP -/
set_option linter.all false
namespace TL
open PySem L2

/-! ## the pure side: what the bodies make -/
section
variable {τ : TSt} {C : Sto} {a b c f fe fo fi : FE} {fa fr fn : FN} {fb ga gb : FB} {F G : FS}

noncomputable def wpE (f : FE) (τ : TSt) (C : Sto) (Q : T → Sto → Prop) : Prop := ∃ t C', f τ C = some (t, C') ∧ Q t C'
noncomputable def wpA (f : FN) (τ : TSt) (C : Sto) (Q : List T → Sto → Prop) : Prop := ∃ t C', f τ C = some (t, C') ∧ Q t C'
noncomputable def wpB (f : FB) (τ : TSt) (C : Sto) (Q : Bool → Sto → Prop) : Prop := ∃ t C', f τ C = some (t, C') ∧ Q t C'
noncomputable def wpS (F : FS) (τ : TSt) (C : Sto) (Q : Fl → TSt → Sto → Prop) : Prop := ∃ l t C', F τ C = some (l, t, C') ∧ Q l t C'
noncomputable def wpO (o : Option (T × Sto)) (Q : T → Sto → Prop) : Prop := ∃ t C', o = some (t, C') ∧ Q t C'
noncomputable def wpL (o : Option (List T)) (Q : List T → Prop) : Prop := ∃ t, o = some t ∧ Q t
noncomputable def wpC (o : Option (List T × Sto)) (Q : List T → Sto → Prop) : Prop := ∃ t C', o = some (t, C') ∧ Q t C'
noncomputable def wpG (g : FG) (t : T) (C : Sto) (τ : TSt) (Q : TSt → Prop) : Prop := ∃ τ', g t C τ = some τ' ∧ Q τ'
noncomputable def wpR (o : Option T) (Q : T → Prop) : Prop := ∃ t, o = some t ∧ Q t

variable {Q : T → Sto → Prop} {QL : List T → Sto → Prop} {QB : Bool → Sto → Prop} {QS : Fl → TSt → Sto → Prop} {QG : TSt → Prop} {Ql : List T → Prop}

theorem wpE_var {i : Nat} : wpE (fVar i) τ C Q ↔ ∃ t, τ[i]? = some (some t) ∧ Q t C := by
  unfold wpE fVar
  constructor
  · rintro ⟨t, C', e, q⟩
    split at e
    · rename_i t' h; cases e; exact ⟨_, h, q⟩
    · cases e
  · rintro ⟨t, e, q⟩
    exact ⟨t, C, by rw [e], q⟩
theorem wpE_C {t : T} : wpE (fC t) τ C Q ↔ Q t C := by
  unfold wpE fC
  constructor
  · rintro ⟨_, _, e, q⟩; cases e; exact q
  · exact fun q => ⟨_, _, rfl, q⟩
theorem wpE_bin {g : T → T → Sto → Option (T × Sto)} : wpE (fBin a b g) τ C Q ↔ wpE a τ C fun x C1 => wpE b τ C1 fun y C2 => wpO (g x y C2) Q := by
  unfold wpE fBin wpO
  constructor
  · rintro ⟨t, C', e, q⟩
    obtain ⟨⟨x, C1⟩, e1, e⟩ := Option.bind_eq_some_iff.mp e
    obtain ⟨⟨y, C2⟩, e2, e⟩ := Option.bind_eq_some_iff.mp e
    exact ⟨x, C1, e1, y, C2, e2, t, C', e, q⟩
  · rintro ⟨x, C1, e1, y, C2, e2, t, C', e, q⟩
    exact ⟨t, C', by simp [e1, e2, e], q⟩
theorem wpE_un {g : T → Sto → Option (T × Sto)} : wpE (fUn a g) τ C Q ↔ wpE a τ C fun x C1 => wpO (g x C1) Q := by
  unfold wpE fUn wpO
  constructor
  · rintro ⟨t, C', e, q⟩
    obtain ⟨⟨x, C1⟩, e1, e⟩ := Option.bind_eq_some_iff.mp e
    exact ⟨x, C1, e1, t, C', e, q⟩
  · rintro ⟨x, C1, e1, t, C', e, q⟩
    exact ⟨t, C', by simp [e1, e], q⟩
theorem wpA_binN {g : T → T → Sto → Option (List T)} : wpA (fBinN a b g) τ C QL ↔ wpE a τ C fun x C1 => wpE b τ C1 fun y C2 => wpL (g x y C2) fun us => QL us C2 := by
  unfold wpA wpE fBinN wpL
  constructor
  · rintro ⟨t, C', e, q⟩
    obtain ⟨⟨x, C1⟩, e1, e⟩ := Option.bind_eq_some_iff.mp e
    obtain ⟨⟨y, C2⟩, e2, e⟩ := Option.bind_eq_some_iff.mp e
    obtain ⟨us, e3, e⟩ := Option.map_eq_some_iff.mp e
    cases e
    exact ⟨x, C1, e1, y, _, e2, _, e3, q⟩
  · rintro ⟨x, C1, e1, y, C2, e2, t, e, q⟩
    exact ⟨t, C2, by simp [e1, e2, e], q⟩
theorem wpA_nil : wpA fNil τ C QL ↔ QL [] C := by
  unfold wpA fNil
  constructor
  · rintro ⟨_, _, e, q⟩; cases e; exact q
  · exact fun q => ⟨_, _, rfl, q⟩
theorem wpA_cons : wpA (fCons a fr) τ C QL ↔ wpE a τ C fun x C1 => wpA fr τ C1 fun xs C2 => QL (x :: xs) C2 := by
  unfold wpA wpE fCons
  constructor
  · rintro ⟨t, C', e, q⟩
    obtain ⟨⟨x, C1⟩, e1, e⟩ := Option.bind_eq_some_iff.mp e
    obtain ⟨⟨y, C2⟩, e2, e⟩ := Option.map_eq_some_iff.mp e
    cases e
    exact ⟨x, C1, e1, y, _, e2, q⟩
  · rintro ⟨x, C1, e1, y, C2, e2, q⟩
    exact ⟨_, C2, by simp [e1, e2], q⟩
theorem wpE_arg {g : List T → Sto → Option (T × Sto)} : wpE (fArg fa g) τ C Q ↔ wpA fa τ C fun xs C1 => wpO (g xs C1) Q := by
  unfold wpE wpA fArg wpO
  constructor
  · rintro ⟨t, C', e, q⟩
    obtain ⟨⟨x, C1⟩, e1, e⟩ := Option.bind_eq_some_iff.mp e
    exact ⟨x, C1, e1, t, C', e, q⟩
  · rintro ⟨x, C1, e1, t, C', e, q⟩
    exact ⟨t, C', by simp [e1, e], q⟩
theorem wpA_argN {g : List T → Sto → Option (List T)} : wpA (fArgN fa g) τ C QL ↔ wpA fa τ C fun xs C1 => wpL (g xs C1) fun us => QL us C1 := by
  unfold wpA fArgN wpL
  constructor
  · rintro ⟨t, C', e, q⟩
    obtain ⟨⟨x, C1⟩, e1, e⟩ := Option.bind_eq_some_iff.mp e
    obtain ⟨us, e3, e⟩ := Option.map_eq_some_iff.mp e
    cases e
    exact ⟨x, _, e1, _, e3, q⟩
  · rintro ⟨x, C1, e1, t, e, q⟩
    exact ⟨t, C1, by simp [e1, e], q⟩
theorem wpA_disp : wpA (fDisp fa) τ C QL ↔ wpA fa τ C fun xs C1 => xs.length ≤ lim ∧ QL xs C1 := by
  unfold fDisp
  rw [wpA_argN]
  unfold wpA wpL
  constructor
  · rintro ⟨x, C1, e, t, e2, q⟩
    split at e2
    · cases e2; exact ⟨_, _, e, ‹_›, q⟩
    · cases e2
  · rintro ⟨x, C1, e, h, q⟩
    exact ⟨x, C1, e, x, by rw [if_pos h], q⟩
theorem wpE_tree : wpE (fTree fn) τ C Q ↔ wpA fn τ C fun us C1 => Q (.lst us) C1 := by
  unfold wpE wpA fTree
  constructor
  · rintro ⟨t, C', e, q⟩
    obtain ⟨⟨x, C1⟩, e1, e⟩ := Option.map_eq_some_iff.mp e
    cases e
    exact ⟨x, _, e1, q⟩
  · rintro ⟨x, C1, e1, q⟩
    exact ⟨_, C1, by simp [e1], q⟩
theorem wpE_cell : wpE (fCell fn) τ C Q ↔ wpA fn τ C fun us C1 => Q (.cell C1.length) (C1 ++ [us]) := by
  unfold wpE wpA fCell
  constructor
  · rintro ⟨t, C', e, q⟩
    obtain ⟨⟨x, C1⟩, e1, e⟩ := Option.map_eq_some_iff.mp e
    cases e
    exact ⟨x, _, e1, q⟩
  · rintro ⟨x, C1, e1, q⟩
    exact ⟨_, _, by simp [e1], q⟩
/-! operations -/
theorem wpO_I {g : Int → Int → T} {i j : Int} : wpO (gI g (.int i) (.int j) C) Q ↔ Q (g i j) C := by
  unfold wpO gI
  constructor
  · rintro ⟨_, _, e, q⟩; cases e; exact q
  · exact fun q => ⟨_, _, rfl, q⟩
theorem wpO_if {p : Prop} [Decidable p] {o : Option (T × Sto)} : wpO (if p then o else none) Q ↔ p ∧ wpO o Q := by
  by_cases h : p <;> simp [h, wpO]
theorem wpO_some {t : T} : wpO (some (t, C)) Q ↔ Q t C := by
  unfold wpO
  constructor
  · rintro ⟨_, _, e, q⟩; cases e; exact q
  · exact fun q => ⟨_, _, rfl, q⟩
theorem wpO_Ic {k : Int → Int → Bool} {g : Int → Int → T} {i j : Int} : wpO (gIc k g (.int i) (.int j) C) Q ↔ k i j = true ∧ Q (g i j) C := by
  show wpO (if k i j = true then some (g i j, C) else none) Q ↔ _
  rw [wpO_if, wpO_some]
theorem wpO_ix {t : T} {i : Int} : wpO (gIx t (.int i) C) Q ↔ ∃ ts, sqT C t = some ts ∧ ∃ x, atI ts i = some x ∧ Q x C := by
  unfold wpO gIx
  constructor
  · rintro ⟨t, C', e, q⟩
    obtain ⟨ts, e1, e⟩ := Option.bind_eq_some_iff.mp e
    obtain ⟨x, e2, e⟩ := Option.map_eq_some_iff.mp e
    cases e
    exact ⟨ts, e1, _, e2, q⟩
  · rintro ⟨ts, e1, x, e2, q⟩
    exact ⟨_, C, by simp [e1, e2], q⟩
theorem wpO_len {t : T} : wpO (gLen [t] C) Q ↔ ∃ ts, sqT C t = some ts ∧ Q (.int ts.length) C := by
  unfold wpO gLen
  constructor
  · rintro ⟨t, C', e, q⟩
    obtain ⟨ts, e1, e⟩ := Option.map_eq_some_iff.mp e
    cases e
    exact ⟨ts, e1, q⟩
  · rintro ⟨ts, e1, q⟩
    exact ⟨_, C, by simp [e1], q⟩
theorem wpL_list {t : T} : wpL (gList [t] C) Ql ↔ ∃ ts, sqT C t = some ts ∧ Ql ts := Iff.rfl
theorem wpL_cat {t u : T} : wpL (gCat t u C) Ql ↔ ∃ ts, liT C t = some ts ∧ ∃ us, liT C u = some us ∧ ts.length + us.length ≤ lim ∧ Ql (ts ++ us) := by
  unfold wpL gCat
  constructor
  · rintro ⟨t, e, q⟩
    obtain ⟨ts, e1, e⟩ := Option.bind_eq_some_iff.mp e
    obtain ⟨us, e2, e⟩ := Option.bind_eq_some_iff.mp e
    split at e
    · cases e; exact ⟨ts, e1, us, e2, ‹_›, q⟩
    · cases e
  · rintro ⟨ts, e1, us, e2, h, q⟩
    exact ⟨_, by simp [e1, e2, h], q⟩
theorem wpO_ints {k : List Int → Bool} {g : List Int → Int} {t : T} : wpO (gInts k g [t] C) Q ↔ ∃ us, liT C t = some us ∧ ∃ ns, ints? us = some ns ∧ k ns = true ∧ Q (.int (g ns)) C := by
  unfold wpO gInts
  constructor
  · rintro ⟨t, C', e, q⟩
    obtain ⟨ts, e1, e⟩ := Option.bind_eq_some_iff.mp e
    obtain ⟨ns, e2, e⟩ := Option.bind_eq_some_iff.mp e
    split at e
    · cases e; exact ⟨ts, e1, ns, e2, ‹_›, q⟩
    · cases e
  · rintro ⟨ts, e1, us, e2, h, q⟩
    exact ⟨_, _, by simp [e1, e2, h], q⟩
theorem wpO_bls {g : List Bool → Bool} {t : T} : wpO (gBls g [t] C) Q ↔ ∃ us, liT C t = some us ∧ ∃ ns, bls? us = some ns ∧ Q (.bl (g ns)) C := by
  unfold wpO gBls
  constructor
  · rintro ⟨t, C', e, q⟩
    obtain ⟨ts, e1, e⟩ := Option.bind_eq_some_iff.mp e
    obtain ⟨ns, e2, e⟩ := Option.map_eq_some_iff.mp e
    cases e; exact ⟨ts, e1, ns, e2, q⟩
  · rintro ⟨ts, e1, us, e2, q⟩
    exact ⟨_, _, by simp [e1, e2], q⟩
theorem wpO_I2 {g : Int → Int → Int} {i j : Int} : wpO (gI2 g [.int i, .int j] C) Q ↔ Q (.int (g i j)) C := wpO_some
theorem wpO_min2 {i j : Int} : wpO (gI2 (fun i j => if j < i then j else i) [.int i, .int j] C) Q ↔ Q (.int (min i j)) C := by
  rw [wpO_I2, show (if j < i then j else i) = min i j by omega]
theorem wpO_max2 {i j : Int} : wpO (gI2 (fun i j => if j > i then j else i) [.int i, .int j] C) Q ↔ Q (.int (max i j)) C := by
  rw [wpO_I2, show (if j > i then j else i) = max i j by omega]
theorem wpO_dm {i j : Int} : wpO (gDm [.int i, .int j] C) Q ↔ (0 < j ∧ j < 1073741824) ∧ Q (.tup [.int (i / j), .int (i % j)]) C := by
  show wpO (if _ then some _ else none) Q ↔ _
  rw [wpO_if, wpO_some]
theorem wpO_int1 {i : Int} : wpO (gInt1 [.int i] C) Q ↔ Q (.int i) C := wpO_some
theorem wpO_int1b {i : Bool} : wpO (gInt1 [.bl i] C) Q ↔ Q (.int (if i then 1 else 0)) C := wpO_some
theorem wpO_neg {i : Int} : wpO (gNeg (.int i) C) Q ↔ Q (.int (-i)) C := wpO_some
theorem wpO_isB {x y : Bool} : wpO (gIsB (.bl x) (.bl y) C) Q ↔ Q (.bl (x == y)) C := wpO_some
theorem wpE_isi {k : String} : wpE (fIsi k a) τ C Q ↔ wpE a τ C fun t C1 => ∃ x, isiT k t = some x ∧ Q (.bl x) C1 := by
  unfold fIsi
  rw [wpE_un]
  unfold wpE wpO
  constructor
  · rintro ⟨t, C', e, t2, C2, e2, q⟩
    obtain ⟨x, e3, e2⟩ := Option.map_eq_some_iff.mp e2
    cases e2
    exact ⟨t, _, e, x, e3, q⟩
  · rintro ⟨t, C', e, x, e2, q⟩
    exact ⟨t, C', e, _, _, by simp [e2], q⟩
theorem wpO_eq {n : Bool} {t u : T} : wpO (gEq n t u C) Q ↔ ∃ x, dr 3 C t = some x ∧ ∃ y, dr 3 C u = some y ∧ ∃ k, eqT 5 x y = some k ∧ Q (.bl (if n then !k else k)) C := by
  unfold wpO gEq
  constructor
  · rintro ⟨t, C', e, q⟩
    obtain ⟨x, e1, e⟩ := Option.bind_eq_some_iff.mp e
    obtain ⟨y, e2, e⟩ := Option.bind_eq_some_iff.mp e
    obtain ⟨k, e3, e⟩ := Option.map_eq_some_iff.mp e
    cases e
    exact ⟨x, e1, y, e2, k, e3, q⟩
  · rintro ⟨x, e1, y, e2, k, e3, q⟩
    exact ⟨_, _, by simp [e1, e2, e3], q⟩
theorem wpO_in {n : Bool} {t u : T} : wpO (gIn n t u C) Q ↔ ∃ x, dr 3 C t = some x ∧ ∃ ts, liT C u = some ts ∧ ∃ us, mapO (dr 3 C) ts = some us ∧ ∃ k, inL (fun w => eqT 5 w x) us = some k ∧ Q (.bl (if n then !k else k)) C := by
  unfold wpO gIn
  constructor
  · rintro ⟨t, C', e, q⟩
    obtain ⟨x, e1, e⟩ := Option.bind_eq_some_iff.mp e
    obtain ⟨y, e2, e⟩ := Option.bind_eq_some_iff.mp e
    obtain ⟨z, e4, e⟩ := Option.bind_eq_some_iff.mp e
    obtain ⟨k, e3, e⟩ := Option.map_eq_some_iff.mp e
    cases e
    exact ⟨x, e1, y, e2, z, e4, k, e3, q⟩
  · rintro ⟨x, e1, y, e2, z, e4, k, e3, q⟩
    exact ⟨_, _, by simp [e1, e2, e3, e4], q⟩
theorem wpO_call {n : Nat} {R : List T → Option T} {ts : List T} (hl : ts.length = n) (hc : CFs ts = true) : wpO (gCall n R ts C) Q ↔ wpR (R ts) fun t => Q t C := by
  unfold wpO gCall wpR
  rw [if_pos hl, if_pos hc]
  constructor
  · rintro ⟨t, C', e, q⟩
    obtain ⟨x, e1, e⟩ := Option.map_eq_some_iff.mp e
    cases e; exact ⟨_, e1, q⟩
  · rintro ⟨t, e, q⟩
    exact ⟨_, _, by simp [e], q⟩
theorem wpO_callE {n : Nat} {R : List T → Option T} {ts : List T} {t : T} (e : R ts = some t) (hl : ts.length = n) (hc : CFs ts = true) : wpO (gCall n R ts C) Q ↔ Q t C := by
  rw [wpO_call hl hc, e]
  unfold wpR
  constructor
  · rintro ⟨_, e, q⟩; cases e; exact q
  · exact fun q => ⟨_, rfl, q⟩
theorem wpO_callC {n : Nat} {R : List T → Option T} {ts us : List T} (hl : ts.length = n) (hu : mapO (dr 3 C) ts = some us) (h : wpR (R us) fun t => sca t = true ∧ Q t C) : wpO (gCall n R ts C) Q := by
  unfold wpO gCall
  obtain ⟨t, e, hs, q⟩ := h
  rw [if_pos hl]
  split
  · rename_i hc
    have : us = ts := by
      have hi := CFs_iff.mp hc
      clear hl hc e
      induction ts generalizing us with
      | nil => cases hu; rfl
      | cons t ts ih =>
        obtain ⟨u, e1, hu⟩ := Option.bind_eq_some_iff.mp hu
        obtain ⟨r, e2, hu⟩ := Option.map_eq_some_iff.mp hu
        cases hu
        have h1 := hi t List.mem_cons_self
        rw [ih e2 fun t h => hi t (List.mem_cons_of_mem _ h)]
        have : u = t := by
          cases t <;> simp_all [dr, CF]
        rw [this]
    rw [← this, e]
    exact ⟨_, _, rfl, q⟩
  · rw [hu]
    exact ⟨t, C, by simp [e, hs], q⟩
/-! tests -/
theorem wpB_tst : wpB (fTst a) τ C QB ↔ wpE a τ C fun t C1 => ∃ x, t = .bl x ∧ QB x C1 := by
  unfold wpB wpE fTst
  constructor
  · rintro ⟨t, C', e, q⟩
    obtain ⟨⟨x, C1⟩, e1, e⟩ := Option.bind_eq_some_iff.mp e
    dsimp only at e
    split at e
    · cases e; exact ⟨_, _, e1, _, rfl, q⟩
    · cases e
  · rintro ⟨x, C1, e1, y, rfl, q⟩
    exact ⟨y, C1, by simp [e1], q⟩
theorem wpB_tru : wpB (fTru a) τ C QB ↔ wpE a τ C fun t C1 => ∃ x, truT C1 t = some x ∧ QB x C1 := by
  unfold wpB wpE fTru
  constructor
  · rintro ⟨t, C', e, q⟩
    obtain ⟨⟨x, C1⟩, e1, e⟩ := Option.bind_eq_some_iff.mp e
    obtain ⟨y, e2, e⟩ := Option.map_eq_some_iff.mp e
    cases e
    exact ⟨_, _, e1, _, e2, q⟩
  · rintro ⟨x, C1, e1, y, e2, q⟩
    exact ⟨y, C1, by simp [e1, e2], q⟩
theorem wpB_true : wpB fTrueT τ C QB ↔ QB true C := by
  unfold wpB fTrueT
  constructor
  · rintro ⟨_, _, e, q⟩; cases e; exact q
  · exact fun q => ⟨_, _, rfl, q⟩
theorem wpB_and : wpB (fAndT ga gb) τ C QB ↔ wpB ga τ C fun x C1 => if x = true then wpB gb τ C1 QB else QB false C1 := by
  unfold wpB fAndT
  constructor
  · rintro ⟨t, C', e, q⟩
    obtain ⟨⟨x, C1⟩, e1, e⟩ := Option.bind_eq_some_iff.mp e
    refine ⟨x, C1, e1, ?_⟩
    dsimp only at e
    split at e
    · rw [if_pos ‹_›]; exact ⟨t, C', e, q⟩
    · cases e; rw [if_neg ‹_›]; exact q
  · rintro ⟨x, C1, e1, q⟩
    split at q
    · obtain ⟨t, C', e, q⟩ := q
      exact ⟨t, C', by simp_all, q⟩
    · exact ⟨false, C1, by simp_all, q⟩
theorem wpB_or : wpB (fOrT ga gb) τ C QB ↔ wpB ga τ C fun x C1 => if x = true then QB true C1 else wpB gb τ C1 QB := by
  unfold wpB fOrT
  constructor
  · rintro ⟨t, C', e, q⟩
    obtain ⟨⟨x, C1⟩, e1, e⟩ := Option.bind_eq_some_iff.mp e
    refine ⟨x, C1, e1, ?_⟩
    dsimp only at e
    split at e
    · cases e; rw [if_pos ‹_›]; exact q
    · rw [if_neg ‹_›]; exact ⟨t, C', e, q⟩
  · rintro ⟨x, C1, e1, q⟩
    split at q
    · exact ⟨true, C1, by simp_all, q⟩
    · obtain ⟨t, C', e, q⟩ := q
      exact ⟨t, C', by simp_all, q⟩
theorem wpB_not : wpB (fNotT ga) τ C QB ↔ wpB ga τ C fun x C1 => QB (!x) C1 := by
  unfold wpB fNotT
  constructor
  · rintro ⟨t, C', e, q⟩
    obtain ⟨⟨x, C1⟩, e1, e⟩ := Option.map_eq_some_iff.mp e
    cases e
    exact ⟨x, _, e1, q⟩
  · rintro ⟨x, C1, e1, q⟩
    exact ⟨_, C1, by simp [e1], q⟩
theorem wpE_and : wpE (fAndV a b) τ C Q ↔ wpE a τ C fun t C1 => ∃ x, t = .bl x ∧ if x = true then wpE b τ C1 Q else Q (.bl false) C1 := by
  unfold wpE fAndV
  constructor
  · rintro ⟨t, C', e, q⟩
    obtain ⟨⟨x, C1⟩, e1, e⟩ := Option.bind_eq_some_iff.mp e
    refine ⟨x, C1, e1, ?_⟩
    dsimp only at e
    split at e
    · exact ⟨true, rfl, by rw [if_pos rfl]; exact ⟨t, C', e, q⟩⟩
    · cases e; exact ⟨false, rfl, by rw [if_neg (by simp)]; exact q⟩
    · cases e
  · rintro ⟨x, C1, e1, y, rfl, q⟩
    split at q
    · obtain ⟨t, C', e, q⟩ := q
      exact ⟨t, C', by simp_all, q⟩
    · exact ⟨.bl false, C1, by simp_all, q⟩
theorem wpE_or : wpE (fOrV a b) τ C Q ↔ wpE a τ C fun t C1 => ∃ x, t = .bl x ∧ if x = true then Q (.bl true) C1 else wpE b τ C1 Q := by
  unfold wpE fOrV
  constructor
  · rintro ⟨t, C', e, q⟩
    obtain ⟨⟨x, C1⟩, e1, e⟩ := Option.bind_eq_some_iff.mp e
    refine ⟨x, C1, e1, ?_⟩
    dsimp only at e
    split at e
    · exact ⟨false, rfl, by rw [if_neg (by simp)]; exact ⟨t, C', e, q⟩⟩
    · cases e; exact ⟨true, rfl, by rw [if_pos rfl]; exact q⟩
    · cases e
  · rintro ⟨x, C1, e1, y, rfl, q⟩
    split at q
    · exact ⟨.bl true, C1, by simp_all, q⟩
    · obtain ⟨t, C', e, q⟩ := q
      exact ⟨t, C', by simp_all, q⟩
theorem wpE_not : wpE (fNotV a) τ C Q ↔ wpE a τ C fun t C1 => ∃ x, t = .bl x ∧ Q (.bl (!x)) C1 := by
  unfold wpE fNotV
  constructor
  · rintro ⟨t, C', e, q⟩
    obtain ⟨⟨x, C1⟩, e1, e⟩ := Option.bind_eq_some_iff.mp e
    dsimp only at e
    split at e
    · cases e; exact ⟨_, _, e1, _, rfl, q⟩
    · cases e
  · rintro ⟨x, C1, e1, y, rfl, q⟩
    exact ⟨_, C1, by simp [e1], q⟩
theorem wpE_ite : wpE (fIte ga a b) τ C Q ↔ wpB ga τ C fun x C1 => if x = true then wpE a τ C1 Q else wpE b τ C1 Q := by
  unfold wpB wpE fIte
  constructor
  · rintro ⟨t, C', e, q⟩
    obtain ⟨⟨x, C1⟩, e1, e⟩ := Option.bind_eq_some_iff.mp e
    refine ⟨x, C1, e1, ?_⟩
    dsimp only at e
    split at e
    · rw [if_pos ‹_›]; exact ⟨t, C', e, q⟩
    · rw [if_neg ‹_›]; exact ⟨t, C', e, q⟩
  · rintro ⟨x, C1, e1, q⟩
    split at q
    · obtain ⟨t, C', e, q⟩ := q
      exact ⟨t, C', by simp_all, q⟩
    · obtain ⟨t, C', e, q⟩ := q
      exact ⟨t, C', by simp_all, q⟩
theorem wpE_chain {p q : Int → Int → Bool} : wpE (fChain a b c p q) τ C Q ↔ wpE a τ C fun x C1 => wpE b τ C1 fun y C2 => ∃ i j, x = .int i ∧ y = .int j ∧ if p i j = true then wpE c τ C2 (fun z C3 => ∃ l, z = .int l ∧ Q (.bl (q j l)) C3) else Q (.bl false) C2 := by
  unfold wpE fChain
  constructor
  · rintro ⟨t, C', e, q⟩
    obtain ⟨⟨x, C1⟩, e1, e⟩ := Option.bind_eq_some_iff.mp e
    obtain ⟨⟨y, C2⟩, e2, e⟩ := Option.bind_eq_some_iff.mp e
    refine ⟨x, C1, e1, y, C2, e2, ?_⟩
    dsimp only at e
    split at e
    · refine ⟨_, _, rfl, rfl, ?_⟩
      split at e
      · rw [if_pos ‹_›]
        obtain ⟨⟨z, C3⟩, e3, e⟩ := Option.bind_eq_some_iff.mp e
        dsimp only at e
        split at e
        · cases e; exact ⟨_, _, e3, _, rfl, q⟩
        · cases e
      · rw [if_neg ‹_›]; cases e; exact q
    · cases e
  · rintro ⟨x, C1, e1, y, C2, e2, i, j, rfl, rfl, h⟩
    split at h
    · obtain ⟨z, C3, e3, l, rfl, q⟩ := h
      exact ⟨_, C3, by simp_all, q⟩
    · exact ⟨_, C2, by simp_all, h⟩
/-! statements -/
theorem wpS_next : wpS fNext τ C QS ↔ QS .nx τ C := by
  unfold wpS fNext
  constructor
  · rintro ⟨_, _, _, e, q⟩; cases e; exact q
  · exact fun q => ⟨_, _, _, rfl, q⟩
theorem wpS_retN : wpS fRetN τ C QS ↔ QS (.rt .non) τ C := by
  unfold wpS fRetN
  constructor
  · rintro ⟨_, _, _, e, q⟩; cases e; exact q
  · exact fun q => ⟨_, _, _, rfl, q⟩
noncomputable def sq (G : FS) (Q : Fl → TSt → Sto → Prop) (l : Fl) (τ : TSt) (C : Sto) : Prop := match l with
  | .nx => wpS G τ C Q
  | l => Q l τ C
theorem wpS_seq : wpS (fSeq F G) τ C QS ↔ wpS F τ C (sq G QS) := by
  unfold wpS fSeq
  constructor
  · rintro ⟨l, t, C', e, q⟩
    obtain ⟨⟨l1, t1, C1⟩, e1, e⟩ := Option.bind_eq_some_iff.mp e
    refine ⟨l1, t1, C1, e1, ?_⟩
    cases l1 <;> first | (cases e; exact q) | exact ⟨l, t, C', e, q⟩
  · rintro ⟨l1, t1, C1, e1, h⟩
    cases l1 with
    | nx => obtain ⟨l, t, C', e, q⟩ := h; exact ⟨l, t, C', by rw [e1]; exact e, q⟩
    | _ => exact ⟨_, t1, C1, by rw [e1]; rfl, h⟩
theorem sq_nx : sq G QS .nx τ C ↔ wpS G τ C QS := Iff.rfl
theorem sq_rt {t : T} : sq G QS (.rt t) τ C ↔ QS (.rt t) τ C := Iff.rfl
theorem sq_ex {c : String} : sq G QS (.ex c) τ C ↔ QS (.ex c) τ C := Iff.rfl
theorem sq_bk : sq G QS .bk τ C ↔ QS .bk τ C := Iff.rfl
theorem sq_ct : sq G QS .ct τ C ↔ QS .ct τ C := Iff.rfl
theorem wpS_if : wpS (fIf ga F G) τ C QS ↔ wpB ga τ C fun x C1 => if x = true then wpS F τ C1 QS else wpS G τ C1 QS := by
  unfold wpB wpS fIf
  constructor
  · rintro ⟨l, t, C', e, q⟩
    obtain ⟨⟨x, C1⟩, e1, e⟩ := Option.bind_eq_some_iff.mp e
    refine ⟨x, C1, e1, ?_⟩
    dsimp only at e
    split at e
    · rw [if_pos ‹_›]; exact ⟨l, t, C', e, q⟩
    · rw [if_neg ‹_›]; exact ⟨l, t, C', e, q⟩
  · rintro ⟨x, C1, e1, q⟩
    split at q
    · obtain ⟨l, t, C', e, q⟩ := q
      exact ⟨l, t, C', by simp_all, q⟩
    · obtain ⟨l, t, C', e, q⟩ := q
      exact ⟨l, t, C', by simp_all, q⟩
theorem wpS_ret : wpS (fRet a) τ C QS ↔ wpE a τ C fun t C1 => QS (.rt t) τ C1 := by
  unfold wpE wpS fRet
  constructor
  · rintro ⟨l, t, C', e, q⟩
    obtain ⟨⟨x, C1⟩, e1, e⟩ := Option.map_eq_some_iff.mp e
    cases e
    exact ⟨x, _, e1, q⟩
  · rintro ⟨x, C1, e1, q⟩
    exact ⟨_, _, C1, by simp [e1], q⟩
theorem wpS_drop : wpS (fDrop a) τ C QS ↔ wpE a τ C fun t C1 => QS .nx τ C1 := by
  unfold wpE wpS fDrop
  constructor
  · rintro ⟨l, t, C', e, q⟩
    obtain ⟨⟨x, C1⟩, e1, e⟩ := Option.map_eq_some_iff.mp e
    cases e
    exact ⟨x, _, e1, q⟩
  · rintro ⟨x, C1, e1, q⟩
    exact ⟨_, _, C1, by simp [e1], q⟩
theorem wpS_asg {g : FG} : wpS (fAsg a g) τ C QS ↔ wpE a τ C fun t C1 => wpG g t C1 τ fun τ1 => QS .nx τ1 C1 := by
  unfold wpE wpS wpG fAsg
  constructor
  · rintro ⟨l, t, C', e, q⟩
    obtain ⟨⟨x, C1⟩, e1, e⟩ := Option.bind_eq_some_iff.mp e
    obtain ⟨τ1, e2, e⟩ := Option.map_eq_some_iff.mp e
    cases e
    exact ⟨x, _, e1, _, e2, q⟩
  · rintro ⟨x, C1, e1, τ1, e2, q⟩
    exact ⟨_, _, C1, by simp [e1, e2], q⟩
theorem wpG_n {i : Nat} {t : T} : wpG (gN i) t C τ QG ↔ QG (τ.set i (some t)) := by
  unfold wpG gN
  constructor
  · rintro ⟨_, e, q⟩; cases e; exact q
  · exact fun q => ⟨_, rfl, q⟩
theorem wpG_u {is : List Nat} {t : T} : wpG (gU is) t C τ QG ↔ ∃ ts, sqT C t = some ts ∧ ts.length = is.length ∧ QG (setAll is ts τ) := by
  unfold wpG gU
  constructor
  · rintro ⟨_, e, q⟩
    obtain ⟨ts, e1, e⟩ := Option.bind_eq_some_iff.mp e
    split at e
    · cases e; exact ⟨ts, e1, ‹_›, q⟩
    · cases e
  · rintro ⟨ts, e1, h, q⟩
    exact ⟨_, by simp [e1, h], q⟩
theorem wpS_setI : wpS (fSetI fe fo fi) τ C QS ↔ wpE fe τ C fun x C1 => wpE fo τ C1 fun y C2 => wpE fi τ C2 fun z C3 => ∃ k i, y = .cell k ∧ z = .int i ∧ ∃ ts, C3[k]? = some ts ∧ ∃ j, ixN ts.length i = some j ∧ QS .nx τ (C3.set k (ts.set j x)) := by
  unfold wpE wpS fSetI
  constructor
  · rintro ⟨l, t, C', e, q⟩
    obtain ⟨⟨x, C1⟩, e1, e⟩ := Option.bind_eq_some_iff.mp e
    obtain ⟨⟨y, C2⟩, e2, e⟩ := Option.bind_eq_some_iff.mp e
    obtain ⟨⟨z, C3⟩, e3, e⟩ := Option.bind_eq_some_iff.mp e
    refine ⟨x, C1, e1, y, C2, e2, z, C3, e3, ?_⟩
    dsimp only at e
    split at e
    · obtain ⟨ts, e4, e⟩ := Option.bind_eq_some_iff.mp e
      obtain ⟨j, e5, e⟩ := Option.map_eq_some_iff.mp e
      cases e
      exact ⟨_, _, rfl, rfl, ts, e4, j, e5, q⟩
    · cases e
  · rintro ⟨x, C1, e1, y, C2, e2, z, C3, e3, k, i, rfl, rfl, ts, e4, j, e5, q⟩
    exact ⟨_, _, _, by simp [e1, e2, e3, e4, e5], q⟩
theorem wpS_mut {g : List T → List T → Option (List T)} : wpS (fMut a fa g) τ C QS ↔ wpE a τ C fun x C1 => wpA fa τ C1 fun xs C2 => ∃ k, x = .cell k ∧ ∃ ts, C2[k]? = some ts ∧ wpL (g ts xs) fun us => QS .nx τ (C2.set k us) := by
  unfold wpE wpA wpS fMut wpL
  constructor
  · rintro ⟨l, t, C', e, q⟩
    obtain ⟨⟨x, C1⟩, e1, e⟩ := Option.bind_eq_some_iff.mp e
    obtain ⟨⟨y, C2⟩, e2, e⟩ := Option.bind_eq_some_iff.mp e
    refine ⟨x, C1, e1, y, C2, e2, ?_⟩
    dsimp only at e
    split at e
    · obtain ⟨ts, e4, e⟩ := Option.bind_eq_some_iff.mp e
      obtain ⟨j, e5, e⟩ := Option.map_eq_some_iff.mp e
      cases e
      exact ⟨_, rfl, ts, e4, j, e5, q⟩
    · cases e
  · rintro ⟨x, C1, e1, y, C2, e2, k, rfl, ts, e4, j, e5, q⟩
    exact ⟨_, _, _, by simp [e1, e2, e4, e5], q⟩
theorem wpL_app {ts : List T} {y : T} : wpL (gtApp ts [y]) Ql ↔ ts.length < lim ∧ Ql (ts ++ [y]) := by
  unfold wpL gtApp
  by_cases h : ts.length < lim <;> simp [h]
theorem wpL_ins {ts : List T} {y : T} {i : Int} : wpL (gtIns ts [.int i, y]) Ql ↔ (ts.length < lim ∧ -(2 ^ 63) ≤ i ∧ i < 2 ^ 63) ∧ Ql (insAt ts i y) := by
  unfold wpL gtIns
  by_cases h : ts.length < lim ∧ -(2 ^ 63) ≤ i ∧ i < 2 ^ 63
  · simp only [if_pos h, Option.some.injEq, exists_eq_left', and_iff_right h]
  · simp only [if_neg h, reduceCtorEq, false_and, exists_false]
    exact ⟨False.elim, fun (z : _ ∧ _) => h z.1⟩
/-! loops -/
theorem wpS_go {P : Sto → Prop} {g : FG} (I : Nat → TSt → Sto → Prop) {ts : List T} (h0 : I 0 τ C)
    (hs : ∀ i t τ C, ts[i]? = some t → I i τ C → wpG g t C τ fun τ1 => wpS F τ1 C fun l τ2 C2 => match l with
      | .nx => P C2 ∧ I (i + 1) τ2 C2
      | .ct => P C2 ∧ I (i + 1) τ2 C2
      | .bk => QS .nx τ2 C2
      | .rt v => QS (.rt v) τ2 C2
      | .ex v => QS (.ex v) τ2 C2)
    (hq : ∀ τ C, I ts.length τ C → QS .nx τ C) : wpS (forGo P g F ts) τ C QS := by
  induction ts generalizing τ C I with
  | nil => exact ⟨.nx, τ, C, by simp [forGo], hq _ _ h0⟩
  | cons t ts ih =>
    obtain ⟨τ1, e1, l, τ2, C2, e2, h2⟩ := hs 0 t τ C rfl h0
    have go : P C2 ∧ I 1 τ2 C2 → wpS (forGo P g F ts) τ2 C2 QS := fun h => ih (fun i => I (i + 1)) h.2 (fun i t τ C e h => hs (i + 1) t τ C e h) (fun τ C h => hq τ C h)
    cases l with
    | nx =>
      obtain ⟨l, t', C', e, q⟩ := go h2
      exact ⟨l, t', C', by simp [forGo, e1, e2, h2.1, e], q⟩
    | ct =>
      obtain ⟨l, t', C', e, q⟩ := go h2
      exact ⟨l, t', C', by simp [forGo, e1, e2, h2.1, e], q⟩
    | bk => exact ⟨.nx, τ2, C2, by simp [forGo, e1, e2], h2⟩
    | rt v => exact ⟨.rt v, τ2, C2, by simp [forGo, e1, e2], h2⟩
    | ex v => exact ⟨.ex v, τ2, C2, by simp [forGo, e1, e2], h2⟩
theorem wpS_for {g : FG} : wpS (fFor a g F) τ C QS ↔ wpE a τ C fun t C1 => ∃ ts, liT C1 t = some ts ∧ wpS (forGo (stays t ts) g F ts) τ C1 QS := by
  unfold wpE wpS fFor
  constructor
  · rintro ⟨l, t, C', e, q⟩
    obtain ⟨⟨x, C1⟩, e1, e⟩ := Option.bind_eq_some_iff.mp e
    obtain ⟨ts, e2, e⟩ := Option.bind_eq_some_iff.mp e
    exact ⟨x, C1, e1, ts, e2, l, t, C', e, q⟩
  · rintro ⟨x, C1, e1, ts, e2, l, t, C', e, q⟩
    exact ⟨l, t, C', by simp [e1, e2, e], q⟩
theorem wpS_forR1 {g : FG} : wpS (fForR1 a g F) τ C QS ↔ wpE a τ C fun t C1 => ∃ j, t = .int j ∧ (-(2 ^ 62) ≤ j ∧ j < 2 ^ 62) ∧ wpS (forGo (fun _ => True) g F (rngT 0 j.toNat)) τ C1 QS := by
  unfold wpE wpS fForR1
  constructor
  · rintro ⟨l, t, C', e, q⟩
    obtain ⟨⟨x, C1⟩, e1, e⟩ := Option.bind_eq_some_iff.mp e
    dsimp only at e
    split at e
    · split at e
      · exact ⟨_, C1, e1, _, rfl, ‹_›, l, t, C', e, q⟩
      · cases e
    · cases e
  · rintro ⟨x, C1, e1, j, rfl, h, l, t, C', e, q⟩
    exact ⟨l, t, C', by rw [e1]; exact (if_pos h).trans e, q⟩
theorem wpS_forR2 {g : FG} : wpS (fForR2 a b g F) τ C QS ↔ wpE a τ C fun t C1 => wpE b τ C1 fun u C2 => ∃ i j, t = .int i ∧ u = .int j ∧ (-(2 ^ 62) ≤ i ∧ i < 2 ^ 62 ∧ -(2 ^ 62) ≤ j ∧ j < 2 ^ 62) ∧ wpS (forGo (fun _ => True) g F (rngT i (j - i).toNat)) τ C2 QS := by
  unfold wpE wpS fForR2
  constructor
  · rintro ⟨l, t, C', e, q⟩
    obtain ⟨⟨x, C1⟩, e1, e⟩ := Option.bind_eq_some_iff.mp e
    obtain ⟨⟨y, C2⟩, e2, e⟩ := Option.bind_eq_some_iff.mp e
    dsimp only at e
    split at e
    · split at e
      · exact ⟨_, C1, e1, _, C2, e2, _, _, rfl, rfl, ‹_›, l, t, C', e, q⟩
      · cases e
    · cases e
  · rintro ⟨x, C1, e1, y, C2, e2, i, j, rfl, rfl, h, l, t, C', e, q⟩
    exact ⟨l, t, C', by rw [e1]; show ((b τ C1).bind _) = _; rw [e2]; exact (if_pos h).trans e, q⟩
theorem wpS_goX {α : Type} {P : Sto → Prop} {g : FG} {en : α → T} {xs : List α} (I : Nat → TSt → Sto → Prop) (h0 : I 0 τ C)
    (hs : ∀ i x τ C, xs[i]? = some x → I i τ C → wpG g (en x) C τ fun τ1 => wpS F τ1 C fun l τ2 C2 => match l with
      | .nx => P C2 ∧ I (i + 1) τ2 C2
      | .ct => P C2 ∧ I (i + 1) τ2 C2
      | .bk => QS .nx τ2 C2
      | .rt v => QS (.rt v) τ2 C2
      | .ex v => QS (.ex v) τ2 C2)
    (hq : ∀ τ C, I xs.length τ C → QS .nx τ C) : wpS (forGo P g F (xs.map en)) τ C QS := by
  refine wpS_go I h0 (fun i t τ C e h => ?_) (fun τ C h => hq τ C (by simpa using h))
  rw [List.getElem?_map] at e
  obtain ⟨x, ex, rfl⟩ := Option.map_eq_some_iff.mp e
  exact hs i x τ C ex h
theorem wpS_goR {P : Sto → Prop} {g : FG} {lo : Int} {n : Nat} (I : Nat → TSt → Sto → Prop) (h0 : I 0 τ C)
    (hs : ∀ i τ C, i < n → I i τ C → wpG g (.int (lo + (i : Int))) C τ fun τ1 => wpS F τ1 C fun l τ2 C2 => match l with
      | .nx => P C2 ∧ I (i + 1) τ2 C2
      | .ct => P C2 ∧ I (i + 1) τ2 C2
      | .bk => QS .nx τ2 C2
      | .rt v => QS (.rt v) τ2 C2
      | .ex v => QS (.ex v) τ2 C2)
    (hq : ∀ τ C, I n τ C → QS .nx τ C) : wpS (forGo P g F (rngT lo n)) τ C QS := by
  refine wpS_goX I h0 (fun i x τ C e h => ?_) (fun τ C h => hq τ C (by simpa using h))
  obtain ⟨hi, hx⟩ := List.getElem?_eq_some_iff.mp e
  rw [List.getElem_range] at hx
  subst hx
  exact hs _ τ C (by simpa using hi) h
/-! comprehensions -/
theorem wpA_comp {k : Nat} {is : List Nat} {g : FG} : wpA (fComp a k is g fb fe) τ C QL ↔ wpE a τ C fun t C1 => ∃ ts, liT C1 t = some ts ∧ ts.length < lim ∧ wpC (compGo g fb fe (scT k is τ) ts C1) QL := by
  unfold wpE wpA fComp wpC
  constructor
  · rintro ⟨t, C', e, q⟩
    obtain ⟨⟨x, C1⟩, e1, e⟩ := Option.bind_eq_some_iff.mp e
    obtain ⟨ts, e2, e⟩ := Option.bind_eq_some_iff.mp e
    split at e
    · exact ⟨x, C1, e1, ts, e2, ‹_›, t, C', e, q⟩
    · cases e
  · rintro ⟨x, C1, e1, ts, e2, h, t, C', e, q⟩
    exact ⟨t, C', by simp [e1, e2, h, e], q⟩
theorem wpA_compR1 {k : Nat} {is : List Nat} {g : FG} : wpA (fCompR1 a k is g fb fe) τ C QL ↔ wpE a τ C fun t C1 => ∃ j, t = .int j ∧ (j < 50000 ∧ -(2 ^ 62) ≤ j) ∧ wpC (compGo g fb fe (scT k is τ) (rngT 0 j.toNat) C1) QL := by
  unfold wpE wpA fCompR1 wpC
  constructor
  · rintro ⟨t, C', e, q⟩
    obtain ⟨⟨x, C1⟩, e1, e⟩ := Option.bind_eq_some_iff.mp e
    dsimp only at e
    split at e
    · split at e
      · exact ⟨_, C1, e1, _, rfl, ‹_›, t, C', e, q⟩
      · cases e
    · cases e
  · rintro ⟨x, C1, e1, j, rfl, h, t, C', e, q⟩
    exact ⟨t, C', by rw [e1]; exact (if_pos h).trans e, q⟩
theorem wpA_compZ {k : Nat} {is : List Nat} {g : FG} : wpA (fCompZ a b k is g fb fe) τ C QL ↔ wpE a τ C fun t C1 => wpE b τ C1 fun u C2 => ∃ ts, liT C2 t = some ts ∧ ∃ us, liT C2 u = some us ∧ (zipT ts us).length < lim ∧ wpC (compGo g fb fe (scT k is τ) (zipT ts us) C2) QL := by
  unfold wpE wpA fCompZ wpC
  constructor
  · rintro ⟨t, C', e, q⟩
    obtain ⟨⟨x, C1⟩, e1, e⟩ := Option.bind_eq_some_iff.mp e
    obtain ⟨⟨y, C2⟩, e2, e⟩ := Option.bind_eq_some_iff.mp e
    obtain ⟨ts, e3, e⟩ := Option.bind_eq_some_iff.mp e
    obtain ⟨us, e4, e⟩ := Option.bind_eq_some_iff.mp e
    split at e
    · exact ⟨x, C1, e1, y, C2, e2, ts, e3, us, e4, ‹_›, t, C', e, q⟩
    · cases e
  · rintro ⟨x, C1, e1, y, C2, e2, ts, e3, us, e4, h, t, C', e, q⟩
    exact ⟨t, C', by simp [e1, e2, e3, e4, h, e], q⟩
theorem wpC_map {α : Type} {g : FG} {en : α → T} {xs : List α} (p : α → Bool) (u : α → T)
    (h : ∀ x ∈ xs, wpG g (en x) C τ fun τ1 => wpB fb τ1 C fun y C1 => C1 = C ∧ y = p x ∧ (p x = true → wpE fe τ1 C fun t C2 => C2 = C ∧ t = u x))
    (hq : QL ((xs.filter p).map u) C) : wpC (compGo g fb fe τ (xs.map en) C) QL := by
  refine ⟨_, C, ?_, hq⟩
  clear hq
  induction xs with
  | nil => rfl
  | cons x xs ih =>
    obtain ⟨τ1, e1, y, C1, e2, rfl, rfl, h3⟩ := h x List.mem_cons_self
    have ih := ih fun y hy => h y (List.mem_cons_of_mem _ hy)
    rw [List.map_cons]
    unfold compGo
    rw [e1, Option.bind_some, e2, Option.bind_some]
    by_cases hp : p x = true
    · obtain ⟨t, C2, e3, rfl, rfl⟩ := h3 hp
      rw [if_pos hp, e3, Option.bind_some, ih, List.filter_cons_of_pos hp]
      rfl
    · rw [if_neg hp, ih, List.filter_cons_of_neg hp]
theorem wpC_mapA {α : Type} {g : FG} {en : α → T} {xs : List α} (u : α → T)
    (h : ∀ x ∈ xs, wpG g (en x) C τ fun τ1 => wpE fe τ1 C fun t C2 => C2 = C ∧ t = u x)
    (hq : QL (xs.map u) C) : wpC (compGo g fTrueT fe τ (xs.map en) C) QL :=
  wpC_map (fun _ => true) u (fun x hx => let ⟨τ1, e, q⟩ := h x hx; ⟨τ1, e, true, C, rfl, rfl, rfl, fun _ => q⟩) (by rw [List.filter_eq_self.mpr (fun _ _ => rfl)]; exact hq)
theorem rngT_map {lo : Int} {n : Nat} : rngT lo n = (List.range n).map fun (i : Nat) => T.int (lo + (i : Int)) := rfl
/-! a def's value -/
theorem runT_wp {B : FS} {m : Nat} {ts : List T} {t : T} (h : wpS B (st0 m ts) [] fun l τ C => match l with
    | .rt r => dr 3 C r = some t
    | .nx => t = .non
    | _ => False) : runT B m ts = some t := by
  obtain ⟨l, τ, C, e, q⟩ := h
  unfold runT
  rw [e]
  cases l with
  | nx => cases q; rfl
  | rt r => exact q
  | _ => exact q.elim
theorem wpR_some {t : T} {q : T → Prop} : wpR (some t) q ↔ q t := by
  unfold wpR
  constructor
  · rintro ⟨_, e, q⟩; cases e; exact q
  · exact fun q => ⟨_, rfl, q⟩
theorem wpL_some {t : List T} : wpL (some t) Ql ↔ Ql t := by
  unfold wpL
  constructor
  · rintro ⟨_, e, q⟩; cases e; exact q
  · exact fun q => ⟨_, rfl, q⟩
end
theorem ex_some {α : Type} {o : Option α} {y : α} {p : α → Prop} (e : o = some y) : (∃ x, o = some x ∧ p x) ↔ p y := by
  constructor
  · rintro ⟨x, e', h⟩
    rw [e] at e'
    cases e'
    exact h
  · exact fun h => ⟨y, e, h⟩
/-! how big numbers get -/
noncomputable def Bt (k : Nat) (n : Int) : Prop := n.natAbs < 2 ^ k
theorem Bt.bits {n : Int} {k : Nat} (h : Bt k n) : Builtin.Int.intBits n ≤ k := by
  unfold Builtin.Int.intBits
  unfold Bt at h
  by_cases z : n = 0
  · subst z; exact Nat.zero_le _
  · have : (n == 0) = false := by simpa using z
    rw [this]
    have := (Nat.log2_lt (by omega)).mpr h
    simp
    omega
theorem Bt.mono {n : Int} {k m : Nat} (h : Bt k n) (hm : k ≤ m) : Bt m n := Nat.lt_of_lt_of_le h (Nat.pow_le_pow_right (by decide) hm)
theorem Bt.sub {x y : Int} {k : Nat} (h : Bt k x) (h' : Bt k y) : Bt (k + 1) (x - y) := by
  unfold Bt at *
  rw [Nat.pow_succ]
  omega
theorem Bt.of_lt {x : Int} {k : Nat} (h1 : 0 ≤ x) (h2 : x < 2 ^ k) : Bt k x := by
  unfold Bt
  have : ((x.natAbs : Nat) : Int) < ((2 ^ k : Nat) : Int) := by
    rw [Int.natAbs_of_nonneg h1]; simpa using h2
  exact Int.ofNat_lt.mp this
theorem mulOk_l {i j : Int} (h1 : Bt 64 i) : mulOkB i j = true := by
  have := h1.bits
  unfold mulOkB shortFactorBits
  rw [show decide (Builtin.Int.intBits i > 64) = false from decide_eq_false (by omega)]
  simp
theorem mulOk_r {i j : Int} (h1 : Bt 64 j) : mulOkB i j = true := by
  have := h1.bits
  unfold mulOkB shortFactorBits
  rw [show decide (Builtin.Int.intBits j > 64) = false from decide_eq_false (by omega)]
  simp
theorem Bt.mod {x m : Int} {k : Nat} (h1 : 0 < m) (h2 : m ≤ 2 ^ k) : Bt k (x % m) :=
  .of_lt (Int.emod_nonneg _ (by omega)) (Int.lt_of_lt_of_le (Int.emod_lt_of_pos _ h1) h2)

end TL
/-! TreeQ -/
set_option linter.all false
namespace TL
open PySem L2

theorem ixN_of {n : Nat} {i : Int} (h0 : 0 ≤ i) (h : i < n) : ixN n i = some i.toNat := by
  unfold ixN; rw [if_pos h0, if_pos h]
theorem atI_of {α : Type} {xs : List α} {i : Int} (h0 : 0 ≤ i) : atI xs i = xs[i.toNat]? := by
  unfold atI ixN
  rw [if_pos h0]
  by_cases h : i < xs.length
  · rw [if_pos h]; rfl
  · rw [if_neg h, List.getElem?_eq_none (by omega)]; rfl
theorem atI_natE {α : Type} {xs : List α} {j : Nat} : atI xs (j : Int) = xs[j]? := atI_of (by omega)
theorem atI_0 {α : Type} {x : α} {xs : List α} : atI (x :: xs) 0 = some x := by rw [atI_of (by decide)]; rfl
theorem atI_1 {α : Type} {x y : α} {xs : List α} : atI (x :: y :: xs) 1 = some y := by rw [atI_of (by decide)]; rfl
theorem atI_mod2i {x y : Int} {i : Int} : atI [T.int x, T.int y] (i % 2) = some (.int (if i % 2 = 0 then x else y)) := by
  rcases (by omega : i % 2 = 0 ∨ i % 2 = 1) with h | h <;> rw [h] <;> rfl

theorem CFs_nil : CFs [] = true := by unfold CFs; rfl
theorem CFs_cons {t : T} {ts : List T} : CFs (t :: ts) = (CF t && CFs ts) := by rw [CFs]
theorem CF_int {i : Int} : CF (.int i) = true := by unfold CF; rfl
theorem CF_bl {i : Bool} : CF (.bl i) = true := by unfold CF; rfl
theorem CF_lst {ts : List T} : CF (.lst ts) = CFs ts := by rw [CF]
theorem CF_tup {ts : List T} : CF (.tup ts) = CFs ts := by rw [CF]
theorem CF_non : CF .non = true := by unfold CF; rfl
theorem CF_str {s : Str} : CF (.str s) = true := by unfold CF; rfl
theorem CF_cell {c : Nat} : CF (.cell c) = false := by unfold CF; rfl
theorem CFs_map {α : Type} {f : α → T} {xs : List α} (h : ∀ x ∈ xs, CF (f x) = true) : CFs (xs.map f) = true := CFs_iff.mpr fun t ht => by
  obtain ⟨x, hx, rfl⟩ := List.mem_map.mp ht
  exact h x hx
theorem CFs_ints {ns : List Int} : CFs (ns.map T.int) = true := CFs_map fun _ _ => CF_int
theorem dr_cf {t : T} {n : Nat} {C : Sto} (h : CF t = true) : dr n C t = some t := by
  cases n with
  | zero => unfold dr; rw [if_pos h]
  | succ n =>
    cases t with
    | cell c => rw [CF_cell] at h; cases h
    | lst ts => unfold dr; rw [CF_lst] at h; rw [if_pos h]
    | tup ts => unfold dr; rw [CF_tup] at h; rw [if_pos h]
    | _ => unfold dr; rw [if_pos h]
theorem mapO_of {f : T → Option T} {ts : List T} (h : ∀ t ∈ ts, f t = some t) : mapO f ts = some ts := by
  induction ts with
  | nil => rfl
  | cons t ts ih => unfold mapO; rw [h t List.mem_cons_self, Option.bind_some, ih fun u hu => h u (List.mem_cons_of_mem _ hu)]; rfl
theorem mapO_cf {ts : List T} {n : Nat} {C : Sto} (h : CFs ts = true) : mapO (dr n C) ts = some ts := mapO_of fun t ht => dr_cf (CFs_iff.mp h t ht)
theorem dr_cell {n c : Nat} {C : Sto} {ts : List T} (e : C[c]? = some ts) (h : CFs ts = true) : dr (n + 1) C (.cell c) = some (.lst ts) := by
  unfold dr; rw [e, Option.bind_some, mapO_cf h]; rfl
theorem mapO_cons {f : T → Option T} {t u : T} {ts us : List T} (h : f t = some u) (hs : mapO f ts = some us) : mapO f (t :: ts) = some (u :: us) := by
  unfold mapO; rw [h, Option.bind_some, hs]; rfl
/-! == of like things -/
theorem eqL_refl {e : T → T → Option Bool} {ts : List T} (h : ∀ t ∈ ts, e t t = some true) : eqL e ts ts = some true := by
  induction ts with
  | nil => rfl
  | cons t ts ih => unfold eqL; rw [h t List.mem_cons_self, Option.bind_some, ih fun u hu => h u (List.mem_cons_of_mem _ hu)]; rfl
theorem eqT_int {n : Nat} {i j : Int} : eqT n (.int i) (.int j) = some (i == j) := by cases n <;> rfl
theorem eqT_bl {n : Nat} {i j : Bool} : eqT n (.bl i) (.bl j) = some (i == j) := by cases n <;> rfl
theorem eqT_lst_refl {n : Nat} {ts : List T} (h : ∀ t ∈ ts, eqT n t t = some true) : eqT (n + 1) (.lst ts) (.lst ts) = some true := by
  unfold eqT; rw [if_pos rfl]; exact eqL_refl h
theorem bls?_of {α : Type} {xs : List α} {f : α → Bool} : bls? (xs.map fun x => T.bl (f x)) = some (xs.map f) := by
  rw [show (xs.map fun x => T.bl (f x)) = (xs.map f).map T.bl by simp]; exact bls?_map _
theorem set_mapE {α : Type} {f : α → T} {xs : List α} {j : Nat} {x : α} : (xs.map f).set j (f x) = (xs.set j x).map f := by rw [List.map_set]
theorem lim_lt {n : Nat} (h : n ≤ 1000) : n < lim := by unfold lim; omega
end TL
/-! TreeR -/
set_option linter.all false
namespace TL
open PySem L2
section
variable {τ : TSt} {C : Sto} {a b c f fe fo fi : FE} {fa fr fn : FN} {fb ga gb : FB} {F G : FS} {lo hi : FO}
variable {Q : T → Sto → Prop} {QL : List T → Sto → Prop} {QB : Bool → Sto → Prop} {QS : Fl → TSt → Sto → Prop} {QG : TSt → Prop} {Ql : List T → Prop} {QO : Option Int → Sto → Prop}
noncomputable def wpP (f : FO) (τ : TSt) (C : Sto) (Q : Option Int → Sto → Prop) : Prop := ∃ o C', f τ C = some (o, C') ∧ Q o C'
theorem wpP_no : wpP fNoPart τ C QO ↔ QO none C := by
  unfold wpP fNoPart
  constructor
  · rintro ⟨_, _, e, q⟩; cases e; exact q
  · exact fun q => ⟨_, _, rfl, q⟩
theorem wpP_part : wpP (fPart a) τ C QO ↔ wpE a τ C fun t C1 => ∃ i, t = .int i ∧ QO (some i) C1 := by
  unfold wpP wpE fPart
  constructor
  · rintro ⟨t, C', e, q⟩
    obtain ⟨⟨x, C1⟩, e1, e⟩ := Option.bind_eq_some_iff.mp e
    dsimp only at e
    split at e
    · cases e; exact ⟨_, _, e1, _, rfl, q⟩
    · cases e
  · rintro ⟨x, C1, e1, y, rfl, q⟩
    exact ⟨some y, C1, by simp [e1], q⟩
theorem wpA_sl : wpA (fSl a lo hi) τ C QL ↔ wpE a τ C fun t C1 => wpP lo τ C1 fun l C2 => wpP hi τ C2 fun h C3 => ∃ ts, liT C3 t = some ts ∧ QL (cutT ts l h) C3 := by
  unfold wpA wpE wpP fSl
  constructor
  · rintro ⟨t, C', e, q⟩
    obtain ⟨⟨x, C1⟩, e1, e⟩ := Option.bind_eq_some_iff.mp e
    obtain ⟨⟨y, C2⟩, e2, e⟩ := Option.bind_eq_some_iff.mp e
    obtain ⟨⟨z, C3⟩, e3, e⟩ := Option.bind_eq_some_iff.mp e
    obtain ⟨ts, e4, e⟩ := Option.map_eq_some_iff.mp e
    cases e
    exact ⟨x, C1, e1, y, C2, e2, z, _, e3, ts, e4, q⟩
  · rintro ⟨x, C1, e1, y, C2, e2, z, C3, e3, ts, e4, q⟩
    exact ⟨_, C3, by simp [e1, e2, e3, e4], q⟩
theorem wpA_rev : wpA (fRev a) τ C QL ↔ wpE a τ C fun t C1 => ∃ ts, liT C1 t = some ts ∧ QL ts.reverse C1 := by
  unfold wpA wpE fRev
  constructor
  · rintro ⟨t, C', e, q⟩
    obtain ⟨⟨x, C1⟩, e1, e⟩ := Option.bind_eq_some_iff.mp e
    obtain ⟨ts, e4, e⟩ := Option.map_eq_some_iff.mp e
    cases e
    exact ⟨x, _, e1, ts, e4, q⟩
  · rintro ⟨x, C1, e1, ts, e4, q⟩
    exact ⟨_, C1, by simp [e1, e4], q⟩
theorem wpA_rep : wpA (fRep fa b) τ C QL ↔ wpA fa τ C fun us C1 => wpE b τ C1 fun t C2 => ∃ k, t = .int k ∧ (-(2 ^ 63) ≤ k ∧ k < 2 ^ 63 ∧ us.length * k.toNat ≤ lim) ∧ QL (List.replicate k.toNat us).flatten C2 := by
  unfold wpA wpE fRep
  constructor
  · rintro ⟨t, C', e, q⟩
    obtain ⟨⟨x, C1⟩, e1, e⟩ := Option.bind_eq_some_iff.mp e
    obtain ⟨⟨y, C2⟩, e2, e⟩ := Option.bind_eq_some_iff.mp e
    dsimp only at e
    split at e
    · split at e
      · cases e; exact ⟨_, _, e1, _, _, e2, _, rfl, ‹_›, q⟩
      · cases e
    · cases e
  · rintro ⟨x, C1, e1, y, C2, e2, k, rfl, h, q⟩
    exact ⟨_, C2, by rw [e1, Option.bind_some, e2, Option.bind_some]; exact if_pos h, q⟩
/-! slices of encoded lists -/
noncomputable def cutG {α : Type} (xs : List α) (lo hi : Option Int) : List α := (xs.drop (HT.sIx xs.length 0 lo)).take (HT.sIx xs.length xs.length hi - HT.sIx xs.length 0 lo)
theorem cutT_map {α : Type} {f : α → T} {xs : List α} {l h : Option Int} : cutT (xs.map f) l h = (cutG xs l h).map f := by
  unfold cutT cutG
  simp [List.map_drop, List.map_take]
theorem cutG_mem {α : Type} {xs : List α} {l h : Option Int} {x : α} (m : x ∈ cutG xs l h) : x ∈ xs := List.mem_of_mem_drop (List.mem_of_mem_take m)
theorem cutG_len {α : Type} {xs : List α} {l h : Option Int} : (cutG xs l h).length ≤ xs.length := by
  unfold cutG
  simp; omega
theorem cutG_from {α : Type} {xs : List α} {k : Int} (hk : 0 ≤ k) : cutG xs (some k) none = xs.drop k.toNat := by
  unfold cutG
  have e : HT.sIx xs.length 0 (some k) = min k.toNat xs.length := by
    show (if k < 0 then (k + (xs.length : Int)).toNat else min k.toNat xs.length) = _
    rw [if_neg (by omega)]
  rw [e, HT.sIx_none]
  by_cases h : k.toNat ≤ xs.length
  · rw [Nat.min_eq_left h, List.take_of_length_le (by simp)]
  · rw [Nat.min_eq_right (by omega), List.drop_eq_nil_of_le (by omega : xs.length ≤ xs.length), List.drop_eq_nil_of_le (by omega : xs.length ≤ k.toNat)]; simp
theorem cutG_to {α : Type} {xs : List α} {k : Int} (hk : 0 ≤ k) : cutG xs none (some k) = xs.take k.toNat := by
  unfold cutG
  have e : HT.sIx xs.length xs.length (some k) = min k.toNat xs.length := by
    show (if k < 0 then (k + (xs.length : Int)).toNat else min k.toNat xs.length) = _
    rw [if_neg (by omega)]
  rw [e, HT.sIx_none, List.drop_zero, Nat.sub_zero]
  by_cases h : k.toNat ≤ xs.length
  · rw [Nat.min_eq_left h]
  · rw [Nat.min_eq_right (by omega), List.take_of_length_le (Nat.le_refl _), List.take_of_length_le (by omega)]
/-! pairs, triples of ints as trees -/
noncomputable def pT (p : Int × Int) : T := .lst [.int p.1, .int p.2]
noncomputable def w3 (p : Int × Int × Int) : T := .lst [.int p.1, .int p.2.1, .int p.2.2]
noncomputable def iT (ns : List Int) : T := .lst (ns.map T.int)
theorem pT_cf {p : Int × Int} : CF (pT p) = true := by simp [pT, CF_lst, CFs_cons, CFs_nil, CF_int]
theorem w3_cf {p : Int × Int × Int} : CF (w3 p) = true := by simp [w3, CF_lst, CFs_cons, CFs_nil, CF_int]
theorem iT_cf {ns : List Int} : CF (iT ns) = true := by rw [iT, CF_lst]; exact CFs_ints
theorem CFs_pT {ps : List (Int × Int)} : CFs (ps.map pT) = true := CFs_map fun _ _ => pT_cf
theorem CFs_w3 {ps : List (Int × Int × Int)} : CFs (ps.map w3) = true := CFs_map fun _ _ => w3_cf
theorem CFs_iT {ps : List (List Int)} : CFs (ps.map iT) = true := CFs_map fun _ _ => iT_cf
theorem eqL_enc {α : Type} [DecidableEq α] {e : T → T → Option Bool} {f : α → T} (h : ∀ x y, e (f x) (f y) = some (decide (x = y))) : ∀ {xs ys : List α}, xs.length = ys.length → eqL e (xs.map f) (ys.map f) = some (decide (xs = ys))
  | [], [], _ => rfl
  | x :: xs, y :: ys, hl => by
    rw [List.map_cons, List.map_cons]
    unfold eqL
    rw [h, Option.bind_some, eqL_enc h (by simpa using hl)]
    simp only [Option.map_some, List.cons.injEq, Bool.decide_and]
theorem eqT_enc {α : Type} [DecidableEq α] {n : Nat} {f : α → T} (h : ∀ x y, eqT n (f x) (f y) = some (decide (x = y))) {xs ys : List α} : eqT (n + 1) (.lst (xs.map f)) (.lst (ys.map f)) = some (decide (xs = ys)) := by
  unfold eqT
  by_cases hl : xs.length = ys.length
  · rw [if_pos (by simpa using hl), eqL_enc h hl]
  · rw [if_neg (by simpa using hl), decide_eq_false (fun z => hl (by rw [z]))]
theorem eqT_intd {n : Nat} {i j : Int} : eqT n (.int i) (.int j) = some (decide (i = j)) := by rw [eqT_int]; congr 1
theorem eqT_bld {n : Nat} {i j : Bool} : eqT n (.bl i) (.bl j) = some (decide (i = j)) := by rw [eqT_bl]; cases i <;> cases j <;> rfl
theorem eqT_pT {n : Nat} {p q : Int × Int} : eqT (n + 1) (pT p) (pT q) = some (decide (p = q)) := by
  have := eqT_enc (n := n) (f := T.int) (fun x y => eqT_intd) (xs := [p.1, p.2]) (ys := [q.1, q.2])
  obtain ⟨a, b⟩ := p
  obtain ⟨c, d⟩ := q
  simp only [List.map_cons, List.map_nil] at this
  unfold pT
  rw [this]
  simp
theorem eqT_w3 {n : Nat} {p q : Int × Int × Int} : eqT (n + 1) (w3 p) (w3 q) = some (decide (p = q)) := by
  have := eqT_enc (n := n) (f := T.int) (fun x y => eqT_intd) (xs := [p.1, p.2.1, p.2.2]) (ys := [q.1, q.2.1, q.2.2])
  obtain ⟨a, b, e⟩ := p
  obtain ⟨c, d, f⟩ := q
  simp only [List.map_cons, List.map_nil] at this
  unfold w3
  rw [this]
  simp
theorem eqT_iT {n : Nat} {p q : List Int} : eqT (n + 1) (iT p) (iT q) = some (decide (p = q)) := eqT_enc fun x y => eqT_intd
theorem inL_enc {α : Type} [DecidableEq α] {e : T → T → Option Bool} {f : α → T} (h : ∀ x y, e (f x) (f y) = some (decide (x = y))) {y : α} : ∀ {xs : List α}, inL (fun u => e u (f y)) (xs.map f) = some (decide (y ∈ xs))
  | [] => rfl
  | x :: xs => by
    rw [List.map_cons]
    unfold inL
    rw [h, Option.bind_some, inL_enc h]
    simp only [Option.map_some, Option.some.injEq, List.mem_cons, Bool.decide_or]
    congr 1
    by_cases z : x = y
    · simp [z]
    · simp [z, show ¬ y = x from fun q => z q.symm]
theorem wpO_inE {α : Type} [DecidableEq α] {n : Bool} {f : α → T} {y : α} {xs : List α} [Decidable (y ∈ xs)] {t u : T} (h : ∀ x y, eqT 5 (f x) (f y) = some (decide (x = y))) (hc : ∀ x, CF (f x) = true) (ht : dr 3 C t = some (f y)) (hu : liT C u = some (xs.map f)) :
    wpO (gIn n t u C) Q ↔ Q (.bl (if n then !decide (y ∈ xs) else decide (y ∈ xs))) C := by
  rw [wpO_in, ex_some ht, ex_some hu, ex_some (mapO_cf (CFs_map fun x _ => hc x)), ex_some ((inL_enc h).trans (congrArg some (decide_eq_decide.mpr Iff.rfl)))]
theorem wpO_eqE {α : Type} [DecidableEq α] {n : Bool} {f : α → T} {x y : α} {t u : T} (h : ∀ x y, eqT 5 (f x) (f y) = some (decide (x = y))) (ht : dr 3 C t = some (f x)) (hu : dr 3 C u = some (f y)) :
    wpO (gEq n t u C) Q ↔ Q (.bl (if n then !decide (x = y) else decide (x = y))) C := by
  rw [wpO_eq, ex_some ht, ex_some hu, ex_some (h x y)]
theorem wpO_eqI {i j : Int} : wpO (gEq false (.int i) (.int j) C) Q ↔ Q (.bl (decide (i = j))) C := wpO_eqE (f := T.int) (fun _ _ => eqT_intd) (dr_cf CF_int) (dr_cf CF_int)
theorem wpO_neI {i j : Int} : wpO (gEq true (.int i) (.int j) C) Q ↔ Q (.bl (!decide (i = j))) C := wpO_eqE (f := T.int) (fun _ _ => eqT_intd) (dr_cf CF_int) (dr_cf CF_int)
theorem wpO_eqB {i j : Bool} : wpO (gEq false (.bl i) (.bl j) C) Q ↔ Q (.bl (decide (i = j))) C := wpO_eqE (f := T.bl) (fun _ _ => eqT_bld) (dr_cf CF_bl) (dr_cf CF_bl)
theorem wpO_neB {i j : Bool} : wpO (gEq true (.bl i) (.bl j) C) Q ↔ Q (.bl (!decide (i = j))) C := wpO_eqE (f := T.bl) (fun _ _ => eqT_bld) (dr_cf CF_bl) (dr_cf CF_bl)
theorem wpO_inI {n : Bool} {i : Int} {u : T} {ns : List Int} (h : liT C u = some (ns.map T.int)) : wpO (gIn n (.int i) u C) Q ↔ Q (.bl (if n then !decide (i ∈ ns) else decide (i ∈ ns))) C := wpO_inE (f := T.int) (fun _ _ => eqT_intd) (fun _ => CF_int) (dr_cf CF_int) h
theorem wpO_inP {n : Bool} {i j : Int} {u : T} {ns : List (Int × Int)} (h : liT C u = some (ns.map pT)) : wpO (gIn n (.lst [.int i, .int j]) u C) Q ↔ Q (.bl (if n then !decide ((i, j) ∈ ns) else decide ((i, j) ∈ ns))) C :=
  wpO_inE (f := pT) (y := (i, j)) (fun _ _ => eqT_pT) (fun _ => pT_cf) (show dr 3 C (.lst [.int i, .int j]) = some (pT (i, j)) from dr_cf (pT_cf (p := (i, j)))) h
theorem wpO_inIl {n : Bool} {i : Int} {ns : List Int} : wpO (gIn n (.int i) (.lst (ns.map T.int)) C) Q ↔ Q (.bl (if n then !decide (i ∈ ns) else decide (i ∈ ns))) C := wpO_inI rfl
theorem wpO_inPl {n : Bool} {i j : Int} {ns : List (Int × Int)} : wpO (gIn n (.lst [.int i, .int j]) (.lst (ns.map pT)) C) Q ↔ Q (.bl (if n then !decide ((i, j) ∈ ns) else decide ((i, j) ∈ ns))) C := wpO_inP rfl
theorem ifB_f {x y : Bool} : (if false = true then x else y) = y := rfl
theorem ifB_t {x y : Bool} : (if true = true then x else y) = x := rfl
instance {k : Nat} {n : Int} : Decidable (Bt k n) := by unfold Bt; infer_instance
theorem Bt.zero {k : Nat} : Bt k 0 := Nat.two_pow_pos k
theorem Bt.sml {k : Nat} {n : Int} (h0 : 0 ≤ n) (h : n < 1024) (hk : 10 ≤ k) : Bt k n := (Bt.of_lt (k := 10) h0 h).mono hk
theorem wpO_maxD {t : T} {d : Int} : wpO (gMaxD t (.int d) C) Q ↔ ∃ us, liT C t = some us ∧ ∃ ns, ints? us = some ns ∧ Q (.int (maxD d ns)) C := by
  unfold wpO gMaxD
  constructor
  · rintro ⟨t, C', e, q⟩
    obtain ⟨us, e1, e⟩ := Option.bind_eq_some_iff.mp e
    obtain ⟨ns, e2, e⟩ := Option.map_eq_some_iff.mp e
    cases e
    exact ⟨us, e1, ns, e2, q⟩
  · rintro ⟨us, e1, ns, e2, q⟩
    exact ⟨_, C, by simp [e1, e2], q⟩
theorem liT_lst {ts : List T} : liT C (.lst ts) = some ts := rfl
theorem liT_cell {c : Nat} : liT C (.cell c) = C[c]? := rfl
theorem sqT_lst {ts : List T} : sqT C (.lst ts) = some ts := rfl
theorem sqT_cell {c : Nat} : sqT C (.cell c) = C[c]? := rfl
theorem sqT_tup {ts : List T} : sqT C (.tup ts) = some ts := rfl
theorem sqT_pT {p : Int × Int} : sqT C (pT p) = some [.int p.1, .int p.2] := rfl
theorem sqT_w3 {p : Int × Int × Int} : sqT C (w3 p) = some [.int p.1, .int p.2.1, .int p.2.2] := rfl
theorem sqT_iT {p : List Int} : sqT C (iT p) = some (p.map T.int) := rfl
theorem liT_iT {p : List Int} : liT C (iT p) = some (p.map T.int) := rfl
theorem liT_pT {p : Int × Int} : liT C (pT p) = some [.int p.1, .int p.2] := rfl
theorem liT_w3 {p : Int × Int × Int} : liT C (w3 p) = some [.int p.1, .int p.2.1, .int p.2.2] := rfl
theorem wpO_index {t : T} {k : Int} : wpO (gIndex t (.int k) C) Q ↔ ∃ us, liT C t = some us ∧ ∃ ns, ints? us = some ns ∧ k ∈ ns ∧ Q (.int (ns.idxOf k : Nat)) C := by
  unfold wpO gIndex
  constructor
  · rintro ⟨t, C', e, q⟩
    obtain ⟨us, e1, e⟩ := Option.bind_eq_some_iff.mp e
    obtain ⟨ns, e2, e⟩ := Option.bind_eq_some_iff.mp e
    split at e
    · cases e; exact ⟨us, e1, ns, e2, ‹_›, q⟩
    · cases e
  · rintro ⟨us, e1, ns, e2, h, q⟩
    exact ⟨_, C, by simp [e1, e2, h], q⟩
theorem wpS_forRv {g : FG} : wpS (fForRv a g F) τ C QS ↔ wpE a τ C fun t C1 => ∃ ts, liT C1 t = some ts ∧ wpS (forGo (stays t ts) g F ts.reverse) τ C1 QS := by
  unfold wpE wpS fForRv
  constructor
  · rintro ⟨l, t, C', e, q⟩
    obtain ⟨⟨x, C1⟩, e1, e⟩ := Option.bind_eq_some_iff.mp e
    obtain ⟨ts, e2, e⟩ := Option.bind_eq_some_iff.mp e
    exact ⟨x, C1, e1, ts, e2, l, t, C', e, q⟩
  · rintro ⟨x, C1, e1, ts, e2, l, t, C', e, q⟩
    exact ⟨l, t, C', by simp [e1, e2, e], q⟩
noncomputable def frzQ (Q : Fl → TSt → Sto → Prop) (l : Fl) (τ : TSt) (C : Sto) : Prop := match l with
  | .nx => ∃ τ2, frz C τ = some τ2 ∧ Q .nx τ2 []
  | l => Q l τ C
theorem wpS_frz : wpS (fFrz F) τ C QS ↔ wpS F τ C (frzQ QS) := by
  unfold wpS fFrz
  constructor
  · rintro ⟨l, t, C', e, q⟩
    obtain ⟨⟨l1, t1, C1⟩, e1, e⟩ := Option.bind_eq_some_iff.mp e
    refine ⟨l1, t1, C1, e1, ?_⟩
    cases l1 with
    | nx =>
      obtain ⟨u, e2, e⟩ := Option.map_eq_some_iff.mp e
      cases e; exact ⟨_, e2, q⟩
    | _ => cases e; exact q
  · rintro ⟨l1, t1, C1, e1, h⟩
    cases l1 with
    | nx =>
      obtain ⟨τ2, e2, q⟩ := h
      exact ⟨_, _, _, by simp [e1, e2], q⟩
    | _ => exact ⟨_, t1, C1, by rw [e1]; rfl, h⟩
theorem frzQ_nx : frzQ QS .nx τ C ↔ ∃ τ2, frz C τ = some τ2 ∧ QS .nx τ2 [] := Iff.rfl
theorem frzQ_rt {t : T} : frzQ QS (.rt t) τ C ↔ QS (.rt t) τ C := Iff.rfl
theorem tru_bl {b : Bool} : truT C (.bl b) = some b := rfl
end
theorem runT_wpE {B : FS} {m : Nat} {ts : List T} {P : T → Prop} (h : wpS B (st0 m ts) [] fun l τ C => match l with
    | .rt r => ∃ t, dr 3 C r = some t ∧ P t
    | .nx => P .non
    | _ => False) : ∃ t, runT B m ts = some t ∧ P t := by
  obtain ⟨l, τ, C, e, q⟩ := h
  unfold runT
  rw [e]
  cases l with
  | nx => exact ⟨_, rfl, q⟩
  | rt r => exact q
  | _ => exact q.elim
theorem insAt_lenT {α : Type} {xs : List α} {i : Int} {y : α} : (insAt xs i y).length = xs.length + 1 := by
  unfold insAt
  rw [List.length_append, List.length_cons, List.length_take, List.length_drop]
  omega
theorem insAt_map {α β : Type} {f : α → β} {xs : List α} {i : Int} {y : α} : insAt (xs.map f) i (f y) = (insAt xs i y).map f := by
  unfold insAt
  simp [List.map_take, List.map_drop]
theorem insAt_permT {α : Type} {xs : List α} {i : Int} {y : α} : (insAt xs i y).Perm (y :: xs) := by
  unfold insAt
  refine List.perm_middle.trans ?_
  rw [List.take_append_drop]
theorem atI_map {α β : Type} {f : α → β} {xs : List α} {i : Int} : atI (xs.map f) i = (atI xs i).map f := by
  unfold atI
  rw [List.length_map]
  cases ixN xs.length i <;> simp
theorem atI_lt {α : Type} {xs : List α} {i : Int} (h0 : 0 ≤ i) (h : i < xs.length) : atI xs i = some (xs[i.toNat]'(by omega)) := by
  rw [atI_of h0, List.getElem?_eq_getElem (by omega)]
theorem emod_b {x m : Int} (h : 0 < m) : 0 ≤ x % m ∧ x % m < m := ⟨Int.emod_nonneg _ (by omega), Int.emod_lt_of_pos _ h⟩
theorem mulOk_s {x y : Int} (h0 : 0 ≤ x) (h : x < 1024) : mulOkB x y = true := mulOk_l (Bt.sml h0 h (by decide))
theorem mulOk_t {x y : Int} (h0 : 0 ≤ y) (h : y < 1024) : mulOkB x y = true := mulOk_r (Bt.sml h0 h (by decide))
theorem decT {p : Prop} [Decidable p] (h : p) : decide p = true := decide_eq_true h
theorem dr_cellP {n c : Nat} {C : Sto} {ps : List (Int × Int)} (e : C[c]? = some (ps.map pT)) : dr (n + 1) C (.cell c) = some (.lst (ps.map pT)) := dr_cell e CFs_pT
theorem dr_cellI {n c : Nat} {C : Sto} {ps : List Int} (e : C[c]? = some (ps.map T.int)) : dr (n + 1) C (.cell c) = some (.lst (ps.map T.int)) := dr_cell e CFs_ints
theorem atI_i {ns : List Int} {i : Int} (h0 : 0 ≤ i) (h : i < ns.length) : atI (ns.map T.int) i = some (.int (ns[i.toNat]'(by omega))) := by rw [atI_map, atI_lt h0 h]; rfl
theorem snoc_pT {ps : List (Int × Int)} {a b : Int} : ps.map pT ++ [.lst [.int a, .int b]] = (ps ++ [(a, b)]).map pT := by rw [List.map_append]; rfl
theorem snoc_i {ps : List Int} {a : Int} : ps.map T.int ++ [.int a] = (ps ++ [a]).map T.int := by rw [List.map_append]; rfl
theorem dr_i {n : Nat} {C : Sto} {vs : List Int} : dr n C (.lst (vs.map T.int)) = some (.lst (vs.map T.int)) := dr_cf (by rw [CF_lst]; exact CFs_ints)
theorem dr_p {n : Nat} {C : Sto} {vs : List (Int × Int)} : dr n C (.lst (vs.map pT)) = some (.lst (vs.map pT)) := dr_cf (by rw [CF_lst]; exact CFs_pT)
theorem dr_w {n : Nat} {C : Sto} {vs : List (Int × Int × Int)} : dr n C (.lst (vs.map w3)) = some (.lst (vs.map w3)) := dr_cf (by rw [CF_lst]; exact CFs_w3)
theorem wpO_eqIl {n : Bool} {xs ys : List Int} {C : Sto} {Q : T → Sto → Prop} : wpO (gEq n (.lst (xs.map T.int)) (.lst (ys.map T.int)) C) Q ↔ Q (.bl (if n then !decide (xs = ys) else decide (xs = ys))) C := wpO_eqE (f := iT) (fun _ _ => eqT_iT) dr_i dr_i
theorem wpO_eqPl {n : Bool} {xs ys : List (Int × Int)} {C : Sto} {Q : T → Sto → Prop} : wpO (gEq n (.lst (xs.map pT)) (.lst (ys.map pT)) C) Q ↔ Q (.bl (if n then !decide (xs = ys) else decide (xs = ys))) C := wpO_eqE (f := fun xs : List (Int × Int) => T.lst (xs.map pT)) (fun _ _ => eqT_enc fun _ _ => eqT_pT) dr_p dr_p
theorem wpO_eqWl {n : Bool} {xs ys : List (Int × Int × Int)} {C : Sto} {Q : T → Sto → Prop} : wpO (gEq n (.lst (xs.map w3)) (.lst (ys.map w3)) C) Q ↔ Q (.bl (if n then !decide (xs = ys) else decide (xs = ys))) C := wpO_eqE (f := fun xs : List (Int × Int × Int) => T.lst (xs.map w3)) (fun _ _ => eqT_enc fun _ _ => eqT_w3) dr_w dr_w
end TL
/-! BLib -/
set_option linter.all false
set_option maxRecDepth 100000
namespace Lib
open PySem L2 TL
/-! mix1(_law_number, _law_k): 0 _law_number, 1 _law_k -/
/-! cell_at(_law_script, _law_k): 0 _law_script, 1 _law_k -/
noncomputable def B_cell_at : FS :=
  (fSeq (fIf (fTst (fLt (fVar 1) (fLen (fCons (fVar 0) fNil)))) (fRet (fIx (fVar 0) (fVar 1))) fNext)
    (fRet (fC (.int 0))))
noncomputable def R_cell_at : List T → Option T := runT B_cell_at 2
/-! is_work(many, number): 0 many, 1 number -/
noncomputable def B_is_work : FS :=
  (fRet (fLeLt (fC (.int 0)) (fVar 1) (fVar 0)))
noncomputable def R_is_work : List T → Option T := runT B_is_work 2
/-! is_way(many, needs, some): 0 many, 1 needs, 2 some -/
/-! mix2(_law_number, _law_k): 0 _law_number, 1 _law_k, 2 _law_mixed -/
/-! whole(_law_found): 0 _law_found -/
/-! needed_works(many, needs): 0 many, 1 needs, 2 needed, 3 first, 4 second -/
/-! least_ready(needed, told): 0 needed, 1 told, 2 work -/
/-! order_of(many, needs): 0 many, 1 needs, 2 needed, 3 order -/
/-! done_moments(begins, hours): 0 begins, 1 hours -/
noncomputable def B_done_moments : FS :=
  (fRet (fTree (fCompZ (fVar 0) (fVar 1) 2 [] (gU [0, 1]) fTrueT (fAdd (fVar 0) (fVar 1)))))
noncomputable def R_done_moments : List T → Option T := runT B_done_moments 2
/-! earliest(hours, needs): 0 hours, 1 needs, 2 order, 3 needed, 4 begins, 5 work -/
/-! length(hours, needs): 0 hours, 1 needs -/
/-! ranks2(_law_script, _law_many): 0 _law_script, 1 _law_many, 2 _law_left, 3 _law_ranks_here, 4 _law_k, 5 _law_digit -/
/-! needs2(_law_script, _law_ranks_here): 0 _law_script, 1 _law_ranks_here, 2 _law_needs_here, 3 _law_many, 4 _law_other, 5 _law_left, 6 _law_one, 7 _law_bit, 8 _law_cell -/
/-! hours2(_law_script, _law_many): 0 _law_script, 1 _law_many, 2 _law_cell, 3 _law_unit, 4 _law_hours_here, 5 _law_k, 6 _law_at -/
/-! holding_up(candidates, done, moment): 0 candidates, 1 done, 2 moment -/
/-! longest(hours, needs): 0 hours, 1 needs, 2 begins, 3 needed, 4 done, 5 way -/
/-! done_at(row): 0 row -/
/-! row_fits(work, row, end): 0 work, 1 row, 2 end -/
/-! keeps(works, needs, end, plan): 0 works, 1 needs, 2 end, 3 plan -/
/-! needed_worksX(many, needs): 0 many, 1 needs, 2 needed, 3 first, 4 second -/
noncomputable def L_needed_worksX_1 : FS :=
  (fSeq (fIf (fOrT (fNotT (fTru (fCall 2 R_is_work (fCons (fVar 0) (fCons (fVar 3) fNil))))) (fNotT (fTru (fCall 2 R_is_work (fCons (fVar 0) (fCons (fVar 4) fNil)))))) (fRaise "NoOrder" (fCons (fC (.str "a need names a number that is no work")) fNil)) fNext)
    (fIf (fTst (fNin (fVar 3) (fIx (fVar 2) (fVar 4)))) (fApp (fIx (fVar 2) (fVar 4)) (fCons (fVar 3) fNil)) fNext))
noncomputable def B_needed_worksX : FS :=
  (fSeq (fAsg (fCell (fCompR1 (fVar 0) 1 [] (gN 0) fTrueT (fCell (fDisp fNil)))) (gN 2))
    (fSeq (fFor (fVar 1) (gU [3, 4])
      L_needed_worksX_1)
    (fRet (fVar 2))))
noncomputable def R_needed_worksX : List T → Option T := runT B_needed_worksX 5
noncomputable def RX_needed_worksX : List T → Option String := runX B_needed_worksX 5
/-! least_readyX(needed, told): 0 needed, 1 told, 2 work -/
noncomputable def L_least_readyX_1 : FS :=
  (fIf (fAndT (fTst (fNin (fVar 2) (fVar 1))) (fTru (fAll (fCons (fTree (fComp (fIx (fVar 0) (fVar 2)) 1 [1] (gN 0) fTrueT (fIn (fVar 0) (fVar 1)))) fNil)))) (fRet (fVar 2)) fNext)
noncomputable def B_least_readyX : FS :=
  (fSeq (fForR1 (fLen (fCons (fVar 0) fNil)) (gN 2)
      L_least_readyX_1)
    (fRaise "NoOrder" (fCons (fC (.str "a work would have to be done ahead of itself")) fNil)))
noncomputable def R_least_readyX : List T → Option T := runT B_least_readyX 3
noncomputable def RX_least_readyX : List T → Option String := runX B_least_readyX 3
/-! order_ofX(many, needs): 0 many, 1 needs, 2 needed, 3 order -/
noncomputable def L_order_ofX_1 : FS :=
  (fX (xApp (fVar 3) (xCall 2 RX_least_readyX (fCons (fVar 2) (fCons (fVar 3) fNil)))) (fApp (fVar 3) (fCons (fCall 2 R_least_readyX (fCons (fVar 2) (fCons (fVar 3) fNil))) fNil)))
noncomputable def B_order_ofX : FS :=
  (fSeq (fX (xCall 2 RX_needed_worksX (fCons (fVar 0) (fCons (fVar 1) fNil))) (fAsg (fCall 2 R_needed_worksX (fCons (fVar 0) (fCons (fVar 1) fNil))) (gN 2)))
    (fSeq (fAsg (fCell (fDisp fNil)) (gN 3))
    (fSeq (whGo (fTst (fLt (fLen (fCons (fVar 3) fNil)) (fVar 0))) L_order_ofX_1 10)
    (fRet (fVar 3)))))
noncomputable def R_order_ofX : List T → Option T := runT B_order_ofX 4
noncomputable def RX_order_ofX : List T → Option String := runX B_order_ofX 4
/-! earliestX(hours, needs): 0 hours, 1 needs, 2 order, 3 needed, 4 begins, 5 work -/
noncomputable def L_earliestX_1 : FS :=
  (fSetI (fMaxD (fTree (fComp (fIx (fVar 3) (fVar 5)) 1 [4, 0] (gN 0) fTrueT (fAdd (fIx (fVar 1) (fVar 0)) (fIx (fVar 2) (fVar 0))))) (fC (.int 0))) (fVar 4) (fVar 5))
noncomputable def B_earliestX : FS :=
  (fSeq (fX (xCall 2 RX_order_ofX (fCons (fLen (fCons (fVar 0) fNil)) (fCons (fVar 1) fNil))) (fAsg (fCall 2 R_order_ofX (fCons (fLen (fCons (fVar 0) fNil)) (fCons (fVar 1) fNil))) (gN 2)))
    (fSeq (fX (xCall 2 RX_needed_worksX (fCons (fLen (fCons (fVar 0) fNil)) (fCons (fVar 1) fNil))) (fAsg (fCall 2 R_needed_worksX (fCons (fLen (fCons (fVar 0) fNil)) (fCons (fVar 1) fNil))) (gN 3)))
    (fSeq (fAsg (fCell (fComp (fVar 2) 1 [] (gN 0) fTrueT (fC (.int 0)))) (gN 4))
    (fSeq (fFor (fVar 2) (gN 5)
      L_earliestX_1)
    (fRet (fVar 4))))))
noncomputable def R_earliestX : List T → Option T := runT B_earliestX 6
noncomputable def RX_earliestX : List T → Option String := runX B_earliestX 6
/-! lengthX(hours, needs): 0 hours, 1 needs -/
noncomputable def B_lengthX : FS :=
  (fX (xCall 2 RX_earliestX (fCons (fVar 0) (fCons (fVar 1) fNil))) (fRet (fMaxD (fCall 2 R_done_moments (fCons (fCall 2 R_earliestX (fCons (fVar 0) (fCons (fVar 1) fNil))) (fCons (fVar 0) fNil))) (fC (.int 0)))))
noncomputable def R_lengthX : List T → Option T := runT B_lengthX 2
noncomputable def RX_lengthX : List T → Option String := runX B_lengthX 2
/-! latestX(hours, needs, end): 0 hours, 1 needs, 2 end, 3 order, 4 needed, 5 limits, 6 begins, 7 work, 8 first -/
/-! spareX(hours, needs, end): 0 hours, 1 needs, 2 end, 3 late_begins, 4 early_begins -/
/-! longestX(hours, needs): 0 hours, 1 needs, 2 begins, 3 needed, 4 done, 5 way -/
/-! needs2N(_law_script, _law_ranks_here): 0 _law_script, 1 _law_ranks_here, 2 _law_needs_here, 3 _law_many, 4 _law_other, 5 _law_left, 6 _law_one, 7 _law_bit, 8 _law_cell -/
/-! through(many, rows): 0 many, 1 rows, 2 amounts, 3 row, 4 work -/
/-! is_part(many, needs, row): 0 many, 1 needs, 2 row -/
/-! is_stream(many, needs, rows): 0 many, 1 needs, 2 rows -/
/-! work_worth(work, amount): 0 work, 1 amount -/
/-! worth(works, rows, end): 0 works, 1 rows, 2 end, 3 amounts, 4 gained -/
/-! price_of(works, plan): 0 works, 1 plan -/
/-! keepsX(works, needs, end, plan): 0 works, 1 needs, 2 end, 3 plan -/
/-! is_streamX(many, needs, rows): 0 many, 1 needs, 2 rows -/
/-! mixedL(_law_cell, _law_k): 0 _law_cell, 1 _law_k, 2 _law_number -/
noncomputable def B_mixedL : FS :=
  (fSeq (fAsg (fMod (fAdd (fAdd (fMul (fVar 0) (fC (.int 48271))) (fMul (fMul (fVar 1) (fVar 1)) (fC (.int 69621)))) (fC (.int 3))) (fC (.int 2147483647))) (gN 2))
    (fSeq (fAsg (fMod (fMul (fVar 2) (fVar 2)) (fC (.int 2147483629))) (gN 2))
    (fRet (fMod (fMul (fVar 2) (fVar 2)) (fC (.int 2147483587))))))
noncomputable def R_mixedL : List T → Option T := runT B_mixedL 3
/-! numbersL(_law_cells): 0 _law_cells, 1 _law_numbers_here, 2 _law_k, 3 _law_at -/
noncomputable def L_numbersL_1 : FS :=
  (fSeq (fAsg (fMod (fVar 2) (fC (.int 40))) (gN 3))
    (fSetI (fCall 2 R_mixedL (fCons (fAdd (fIx (fVar 1) (fVar 3)) (fIx (fVar 0) (fVar 2))) (fCons (fVar 2) fNil))) (fVar 1) (fVar 3)))
noncomputable def B_numbersL : FS :=
  (fSeq (fAsg (fCell (fCompR1 (fC (.int 40)) 1 [0] (gN 0) fTrueT (fCall 2 R_mixedL (fCons (fCall 2 R_cell_at (fCons (fVar 1) (fCons (fC (.int 0)) fNil))) (fCons (fAdd (fC (.int 90)) (fVar 0)) fNil))))) (gN 1))
    (fSeq (fForR2 (fC (.int 2)) (fMin2 (fCons (fC (.int 63)) (fCons (fLen (fCons (fVar 0) fNil)) fNil))) (gN 2)
      L_numbersL_1)
    (fRet (fVar 1))))
noncomputable def R_numbersL : List T → Option T := runT B_numbersL 4
/-! namesL(_law_cell, _law_many): 0 _law_cell, 1 _law_many, 2 _law_points, 3 _law_k -/
noncomputable def L_namesL_1 : FS :=
  (fIns (fVar 2) (fCons (fMod (fCall 2 R_mixedL (fCons (fVar 0) (fCons (fVar 3) fNil))) (fAdd (fVar 3) (fC (.int 1)))) (fCons (fVar 3) fNil)))
noncomputable def B_namesL : FS :=
  (fSeq (fAsg (fCell (fDisp fNil)) (gN 2))
    (fSeq (fForR1 (fVar 1) (gN 3)
      L_namesL_1)
    (fRet (fVar 2))))
noncomputable def R_namesL : List T → Option T := runT B_namesL 4
/-! lot_free(_law_cells, _law_many, _law_unit): 0 _law_cells, 1 _law_many, 2 _law_unit, 3 _law_base, 4 _law_works, 5 _law_k, 6 _law_left, 7 _law_least, 8 _law_more, 9 _law_order, 10 _law_needs, 11 _law_a -/
noncomputable def L_lot_free_1 : FS :=
  (fSeq (fAsg (fCall 2 R_cell_at (fCons (fVar 0) (fCons (fAdd (fC (.int 3)) (fVar 5)) fNil))) (gN 6))
    (fSeq (fAsg (fMod (fVar 6) (fIx (fTree (fDisp (fCons (fC (.int 5)) (fCons (fVar 3) fNil)))) (fInt1 (fCons (fGt (fVar 3) (fC (.int 1))) fNil)))) (gN 7))
    (fSeq (fAsg (fFdvB (fVar 6) (fIx (fTree (fDisp (fCons (fC (.int 5)) (fCons (fVar 3) fNil)))) (fInt1 (fCons (fGt (fVar 3) (fC (.int 1))) fNil)))) (gN 6))
    (fSeq (fAsg (fMod (fVar 6) (fIx (fTree (fDisp (fCons (fC (.int 6)) (fCons (fVar 3) fNil)))) (fInt1 (fCons (fGt (fVar 3) (fC (.int 1))) fNil)))) (gN 8))
    (fSeq (fAsg (fFdvB (fVar 6) (fIx (fTree (fDisp (fCons (fC (.int 6)) (fCons (fVar 3) fNil)))) (fInt1 (fCons (fGt (fVar 3) (fC (.int 1))) fNil)))) (gN 6))
    (fApp (fVar 4) (fCons (fTree (fDisp (fCons (fAdd (fVar 7) (fVar 8)) (fCons (fVar 7) (fCons (fMod (fVar 6) (fIx (fTree (fDisp (fCons (fC (.int 5)) (fCons (fVar 3) fNil)))) (fInt1 (fCons (fGt (fVar 3) (fC (.int 1))) fNil)))) fNil))))) fNil)))))))
noncomputable def L_lot_free_2 : FS :=
  (fSeq (fIns (fVar 9) (fCons (fMod (fVar 6) (fAdd (fVar 5) (fC (.int 1)))) (fCons (fVar 5) fNil)))
    (fAsg (fFdvB (fVar 6) (fAdd (fVar 5) (fC (.int 1)))) (gN 6)))
noncomputable def L_lot_free_3 : FS :=
  (fSeq (fIf (fTst (fEq (fMod (fVar 6) (fC (.int 2))) (fC (.int 1)))) (fApp (fVar 10) (fCons (fTree (fDisp (fCons (fVar 11) (fCons (fIx (fVar 9) (fVar 5)) fNil)))) fNil)) fNext)
    (fAsg (fFdv (fVar 6) (fC (.int 2))) (gN 6)))
noncomputable def L_lot_free_4 : FS :=
  (fFor (fTree (fSl (fVar 9) fNoPart (fPart (fVar 5)))) (gN 11)
      L_lot_free_3)
noncomputable def B_lot_free : FS :=
  (fSeq (fAsg (fIx (fTree (fDisp (fCons (fC (.int 1)) (fCons (fMul (fVar 2) (fPow (fC (.int 10)) (fC (.int 9)))) fNil)))) (fMod (fFdv (fCall 2 R_cell_at (fCons (fVar 0) (fCons (fC (.int 1)) fNil))) (fC (.int 576))) (fC (.int 2)))) (gN 3))
    (fSeq (fAsg (fCell (fDisp fNil)) (gN 4))
    (fSeq (fForR1 (fVar 1) (gN 5)
      L_lot_free_1)
    (fSeq (fAsg (fCall 2 R_cell_at (fCons (fVar 0) (fCons (fC (.int 2)) fNil))) (gN 6))
    (fSeq (fAsg (fCell (fDisp fNil)) (gN 9))
    (fSeq (fForR1 (fVar 1) (gN 5)
      L_lot_free_2)
    (fSeq (fAsg (fCell (fDisp fNil)) (gN 10))
    (fSeq (fForR1 (fVar 1) (gN 5)
      L_lot_free_4)
    (fRet (fTupD (fCons (fVar 4) (fCons (fVar 10) fNil))))))))))))
noncomputable def R_lot_free : List T → Option T := runT B_lot_free 12
/-! workL(_law_one, _law_two, _law_three, _law_mode, _law_unit): 0 _law_one, 1 _law_two, 2 _law_three, 3 _law_mode, 4 _law_unit, 5 _law_least, 6 _law_more, 7 _law_price -/
noncomputable def B_workL : FS :=
  (fSeq (fAsg (fMod (fVar 0) (fC (.int 5))) (gN 5))
    (fSeq (fAsg (fMod (fVar 1) (fC (.int 6))) (gN 6))
    (fSeq (fAsg (fMod (fVar 2) (fC (.int 5))) (gN 7))
    (fSeq (fIf (fTst (fEq (fVar 3) (fC (.int 1)))) (fSeq (fAsg (fAdd (fMul (fVar 0) (fVar 4)) (fMod (fVar 1) (fC (.int 97)))) (gN 5))
    (fSeq (fAsg (fMul (fMul (fVar 1) (fVar 4)) (fInt1 (fCons (fGt (fMod (fVar 1) (fC (.int 4))) (fC (.int 0))) fNil))) (gN 6))
    (fAsg (fAdd (fMul (fVar 2) (fVar 4)) (fMod (fVar 0) (fC (.int 89)))) (gN 7)))) fNext)
    (fSeq (fIf (fTst (fEq (fVar 3) (fC (.int 2)))) (fSeq (fAsg (fMul (fMod (fVar 1) (fC (.int 3))) (fMod (fFdv (fVar 1) (fC (.int 3))) (fC (.int 50)))) (gN 6))
    (fAsg (fIx (fTree (fDisp (fCons (fC (.int 0)) (fCons (fC (.int 3)) (fCons (fC (.int 3)) (fCons (fAdd (fC (.int 1)) (fMod (fVar 2) (fC (.int 40)))) fNil)))))) (fMod (fFdv (fVar 2) (fC (.int 64))) (fC (.int 4)))) (gN 7))) fNext)
    (fSeq (fIf (fAndT (fTst (fEq (fVar 3) (fC (.int 3)))) (fTst (fEq (fMod (fVar 0) (fC (.int 3))) (fC (.int 0))))) (fAsg (fC (.int 0)) (gN 5)) fNext)
    (fRet (fTree (fDisp (fCons (fAdd (fVar 5) (fVar 6)) (fCons (fVar 5) (fCons (fVar 7) fNil))))))))))))
noncomputable def R_workL : List T → Option T := runT B_workL 8
/-! lot(_law_cells, _law_most, _law_unit): 0 _law_cells, 1 _law_most, 2 _law_unit, 3 _law_numbers_here, 4 _law_first, 5 _law_few, 6 _law_many, 7 _law_cell, 8 _law_works, 9 _law_names_here, 10 _law_needs, 11 _law_k, 12 _law_b, 13 _law_back, 14 _law_a -/
noncomputable def L_lot_1 : FS :=
  (fIf (fTst (fGt (fVar 6) (fC (.int 1)))) (fSeq (fAsg (fAdd (fC (.int 1)) (fMod (fIx (fVar 3) (fVar 11)) (fSub (fVar 6) (fC (.int 1))))) (gN 12))
    (fSeq (fAsg (fMod (fFdv (fIx (fVar 3) (fVar 11)) (fC (.int 16))) (fMin2 (fCons (fVar 12) (fCons (fIx (fTree (fDisp (fCons (fC (.int 1)) (fCons (fC (.int 2)) (fCons (fC (.int 8)) fNil))))) (fMod (fFdv (fVar 7) (fC (.int 16))) (fC (.int 3)))) fNil)))) (gN 13))
    (fSeq (fAsg (fIx (fTree (fDisp (fCons (fSub (fSub (fVar 12) (fC (.int 1))) (fVar 13)) (fCons (fVar 13) fNil)))) (fMod (fFdv (fVar 7) (fC (.int 48))) (fC (.int 2)))) (gN 14))
    (fIns (fVar 10) (fCons (fMod (fFdv (fIx (fVar 3) (fVar 11)) (fC (.int 256))) (fAdd (fLen (fCons (fVar 10) fNil)) (fC (.int 1)))) (fCons (fTree (fDisp (fCons (fIx (fVar 9) (fVar 14)) (fCons (fIx (fVar 9) (fVar 12)) fNil)))) fNil)))))) fNext)
noncomputable def B_lot : FS :=
  (fSeq (fAsg (fCall 1 R_numbersL (fCons (fVar 0) fNil)) (gN 3))
    (fSeq (fAsg (fCall 2 R_cell_at (fCons (fVar 0) (fCons (fC (.int 0)) fNil))) (gN 4))
    (fSeq (fAsg (fMod (fFdv (fVar 4) (fC (.int 4))) (fMin2 (fCons (fC (.int 6)) (fCons (fAdd (fVar 1) (fC (.int 1))) fNil)))) (gN 5))
    (fSeq (fAsg (fIx (fTree (fDisp (fCons (fVar 5) (fCons (fSub (fVar 1) (fIx (fTree (fDisp (fCons (fC (.int 0)) (fCons (fC (.int 0)) (fCons (fC (.int 1)) (fCons (fC (.int 2)) fNil)))))) (fMod (fFdv (fVar 4) (fC (.int 4))) (fC (.int 4))))) (fCons (fVar 5) (fCons (fMin2 (fCons (fVar 1) (fCons (fAdd (fC (.int 3)) (fMod (fFdv (fVar 4) (fC (.int 4))) (fC (.int 3)))) fNil))) fNil)))))) (fMod (fVar 4) (fC (.int 4)))) (gN 6))
    (fSeq (fAsg (fCall 2 R_cell_at (fCons (fVar 0) (fCons (fC (.int 1)) fNil))) (gN 7))
    (fSeq (fIf (fTst (fEq (fMod (fFdv (fVar 7) (fC (.int 288))) (fC (.int 2))) (fC (.int 1)))) (fRet (fCall 3 R_lot_free (fCons (fVar 0) (fCons (fMin2 (fCons (fVar 6) (fCons (fIx (fTree (fDisp (fCons (fC (.int 5)) (fCons (fC (.int 3)) fNil)))) (fInt1 (fCons (fLt (fVar 1) (fC (.int 5))) fNil))) fNil))) (fCons (fVar 2) fNil))))) fNext)
    (fSeq (fAsg (fTree (fCompR1 (fVar 6) 1 [3, 7, 2] (gN 0) fTrueT (fCall 5 R_workL (fCons (fIx (fVar 1) (fVar 0)) (fCons (fIx (fVar 1) (fAdd (fC (.int 8)) (fVar 0))) (fCons (fIx (fVar 1) (fAdd (fC (.int 16)) (fVar 0))) (fCons (fMod (fVar 2) (fC (.int 4))) (fCons (fVar 3) fNil)))))))) (gN 8))
    (fSeq (fAsg (fCall 2 R_namesL (fCons (fIx (fVar 3) (fC (.int 39))) (fCons (fVar 6) fNil))) (gN 9))
    (fSeq (fAsg (fCell (fDisp fNil)) (gN 10))
    (fSeq (fForR2 (fC (.int 24)) (fAdd (fC (.int 24)) (fMin2 (fCons (fC (.int 14)) (fCons (fAdd (fVar 6) (fMod (fFdv (fVar 7) (fC (.int 4))) (fC (.int 4)))) fNil)))) (gN 11)
      L_lot_1)
    (fRet (fTupD (fCons (fVar 8) (fCons (fTree (fSl (fVar 10) (fPart (fMod (fFdv (fVar 7) (fC (.int 96))) (fC (.int 3)))) fNoPart)) fNil))))))))))))))
noncomputable def R_lot : List T → Option T := runT B_lot 15
/-! least_hours(works): 0 works -/
noncomputable def B_least_hours : FS :=
  (fRet (fTree (fComp (fVar 0) 1 [] (gN 0) fTrueT (fIx (fVar 0) (fC (.int 1))))))
noncomputable def R_least_hours : List T → Option T := runT B_least_hours 1
/-! free_hours(work): 0 work -/
/-! least_end(works, needs): 0 works, 1 needs -/
/-! free_end(works, needs): 0 works, 1 needs -/
/-! lengthL(_law_hours, _law_needs): 0 _law_hours, 1 _law_needs, 2 _law_begins, 3 _law_k, 4 _law_a, 5 _law_b -/
/-! endsL(_law_works, _law_needs): 0 _law_works, 1 _law_needs, 2 _law_least -/
/-! bentL(_law_needs, _law_many, _law_script): 0 _law_needs, 1 _law_many, 2 _law_script, 3 _law_number, 4 _law_far, 5 _law_one, 6 _law_ahead, 7 _law_k, 8 _law_bad, 9 _law_pair, 10 _law_at -/
noncomputable def L_bentL_1 : FS :=
  (fAsg (fTree (fCat (fVar 6) (fTree (fComp (fVar 0) 2 [6] (gU [0, 1]) (fAndT (fTst (fIn (fVar 1) (fVar 2))) (fTst (fNin (fVar 0) (fVar 2)))) (fVar 0))))) (gN 6))
noncomputable def B_bentL : FS :=
  (fSeq (fAsg (fCall 2 R_mixedL (fCons (fCall 2 R_cell_at (fCons (fVar 2) (fCons (fC (.int 2)) fNil))) (fCons (fC (.int 98)) fNil))) (gN 3))
    (fSeq (fAsg (fMod (fCall 2 R_cell_at (fCons (fVar 2) (fCons (fC (.int 0)) fNil))) (fPow (fC (.int 10)) (fC (.int 60)))) (gN 4))
    (fSeq (fAsg (fMod (fFdv (fVar 3) (fC (.int 16))) (fMax2 (fCons (fC (.int 1)) (fCons (fVar 1) fNil)))) (gN 5))
    (fSeq (fAsg (fTree (fDisp (fCons (fVar 5) fNil))) (gN 6))
    (fSeq (fForR1 (fVar 1) (gN 7)
      L_bentL_1)
    (fSeq (fAsg (fIx (fTree (fDisp (fCons (fNeg (fC (.int 1))) (fCons (fVar 1) (fCons (fAdd (fVar 1) (fVar 4)) (fCons (fSub (fNeg (fC (.int 1))) (fVar 4)) fNil)))))) (fMod (fFdv (fVar 3) (fC (.int 2))) (fC (.int 4)))) (gN 8))
    (fSeq (fAsg (fIx (fTree (fDisp (fCons (fTree (fDisp (fCons (fVar 5) (fCons (fVar 8) fNil)))) (fCons (fTree (fDisp (fCons (fVar 8) (fCons (fVar 5) fNil)))) (fCons (fTree (fDisp (fCons (fVar 8) (fCons (fVar 8) fNil)))) (fCons (fTree (fDisp (fCons (fVar 5) (fCons (fVar 5) fNil)))) fNil)))))) (fMod (fFdv (fVar 3) (fC (.int 8))) (fC (.int 4)))) (gN 9))
    (fSeq (fIf (fAndT (fTst (fEq (fMod (fVar 3) (fC (.int 2))) (fC (.int 0)))) (fTst (fGt (fLen (fCons (fVar 6) fNil)) (fC (.int 1))))) (fAsg (fTree (fDisp (fCons (fVar 5) (fCons (fIx (fVar 6) (fAdd (fC (.int 1)) (fMod (fFdv (fVar 3) (fC (.int 512))) (fSub (fLen (fCons (fVar 6) fNil)) (fC (.int 1)))))) fNil)))) (gN 9)) fNext)
    (fSeq (fAsg (fMod (fFdv (fVar 3) (fC (.int 4096))) (fAdd (fLen (fCons (fVar 0) fNil)) (fC (.int 1)))) (gN 10))
    (fRet (fTree (fCat (fTree (fCat (fTree (fSl (fVar 0) fNoPart (fPart (fVar 10)))) (fTree (fDisp (fCons (fVar 9) fNil))))) (fTree (fSl (fVar 0) (fPart (fVar 10)) fNoPart))))))))))))))
noncomputable def R_bentL : List T → Option T := runT B_bentL 11
/-! least_endX(works, needs): 0 works, 1 needs -/
noncomputable def B_least_endX : FS :=
  (fX (xCall 2 RX_lengthX (fCons (fCall 1 R_least_hours (fCons (fVar 0) fNil)) (fCons (fVar 1) fNil))) (fRet (fCall 2 R_lengthX (fCons (fCall 1 R_least_hours (fCons (fVar 0) fNil)) (fCons (fVar 1) fNil)))))
noncomputable def R_least_endX : List T → Option T := runT B_least_endX 2
noncomputable def RX_least_endX : List T → Option String := runX B_least_endX 2
/-! free_endX(works, needs): 0 works, 1 needs -/
/-! plan_atX(works, needs, end): 0 works, 1 needs, 2 end, 3 moments -/
/-! stream_atX(works, needs, end): 0 works, 1 needs, 2 end -/
/-! too_longX(works, needs, end): 0 works, 1 needs, 2 end -/
/-! cornersX(works, needs): 0 works, 1 needs, 2 last, 3 end, 4 price, 5 found, 6 net, 7 sooner -/
noncomputable def B_cornersX : FS :=
  (fSeq (fX (xCall 2 RX_least_endX (fCons (fVar 0) (fCons (fVar 1) fNil))) (fAsg (fCall 2 R_least_endX (fCons (fVar 0) (fCons (fVar 1) fNil))) (gN 2)))
    (fSeq fNever
    (fSeq fNever
    (fSeq fNever
    (fSeq fNever
    (fSeq fNever
    fNever))))))
noncomputable def R_cornersX : List T → Option T := runT B_cornersX 8
noncomputable def RX_cornersX : List T → Option String := runX B_cornersX 8
/-! price_atX(works, needs, end): 0 works, 1 needs, 2 end -/
/-! step_atX(works, needs, end): 0 works, 1 needs, 2 end -/
end Lib
section
open PySem L2 TL
local macro_rules
  | `(tactic| simp_arith [$xs,*]) => do
    let xs : Lean.TSyntaxArray [`Lean.Parser.Tactic.simpStar, `Lean.Parser.Tactic.simpErase, `Lean.Parser.Tactic.simpLemma] := xs
    `(tactic| simp (maxSteps := 2000000) (disch := first | assumption | decide) only [↓wpS_frz, ↓frzQ_nx, ↓frzQ_rt, ↓wpO_index, ↓wpS_forRv, ↓sqT_pT, ↓sqT_w3, ↓sqT_iT, ↓liT_iT, ↓liT_pT, ↓liT_w3, ↓wpO_maxD, if_true, if_false, Bool.false_eq_true, ↓wpO_eqIl, ↓wpO_eqPl, ↓wpO_eqWl, ↓wpO_inIl, ↓wpO_inPl, ifB_f, ifB_t, ↓wpP_no, ↓wpP_part, ↓wpA_sl, ↓wpA_rev, ↓wpA_rep, ↓wpO_eqI, ↓wpO_neI, ↓wpO_eqB, ↓wpO_neB, ↓wpE_var, ↓wpE_C, ↓wpE_bin, ↓wpE_un, ↓wpA_binN, ↓wpA_nil, ↓wpA_cons, ↓wpE_arg, ↓wpA_argN, ↓wpA_disp, ↓wpE_tree, ↓wpE_cell, ↓wpO_I, ↓wpO_some, ↓wpO_Ic, ↓wpO_ix, ↓wpO_len, ↓wpL_list, ↓wpL_cat, ↓wpO_ints, ↓wpO_bls, ↓wpO_min2, ↓wpO_max2, ↓wpO_dm, ↓wpO_int1, ↓wpO_int1b, ↓wpO_neg, ↓wpO_isB, ↓wpE_isi, ↓wpB_tst, ↓wpB_tru, ↓wpB_true, ↓wpB_and, ↓wpB_or, ↓wpB_not, ↓wpE_and, ↓wpE_or, ↓wpE_not, ↓wpE_ite, ↓wpE_chain, ↓wpS_next, ↓wpS_retN, ↓wpS_seq, ↓sq_nx, ↓sq_rt, ↓sq_bk, ↓sq_ct, ↓sq_ex, ↓wpS_if, ↓wpS_ret, ↓wpS_drop, ↓wpS_asg, ↓wpG_n, ↓wpG_u, ↓wpS_setI, ↓wpS_mut, ↓wpL_app, ↓wpL_ins, ↓wpS_for, ↓wpS_forR1, ↓wpS_forR2, ↓wpA_comp, ↓wpA_compR1, ↓wpA_compZ, ↓wpR_some, ↓wpL_some, List.getElem?_cons_zero, List.getElem?_cons_succ, List.set_cons_zero, List.set_cons_succ, List.length_cons, List.length_nil, List.nil_append, List.cons_append, Option.some.injEq, T.int.injEq, T.bl.injEq, T.lst.injEq, T.cell.injEq, T.tup.injEq, exists_eq_left, exists_eq_left', exists_and_left, setAll, sqT_lst, sqT_cell, sqT_tup, liT_lst, liT_cell, and_true, true_and, Nat.reduceAdd, $xs,*])
/-! SpecA -/
set_option linter.all false
set_option maxRecDepth 100000
namespace Lib
open PySem L2 TL
noncomputable abbrev Bg (n : Int) : Prop := Bt 1100000 n
theorem Bg.of {n : Int} {k : Nat} (h : Bt k n) (hk : k ≤ 1100000) : Bg n := h.mono hk
noncomputable def cellZ (ns : List Int) (k : Int) : Int := (ns[k.toNat]?).getD 0
theorem cell_eq {ns : List Int} {k : Int} (hk : 0 ≤ k) : R_cell_at [.lst (ns.map T.int), .int k] = some (.int (cellZ ns k)) := by
  apply runT_wp
  unfold B_cell_at
  (simp only [st0, List.map_cons, List.map_nil, List.length_cons, List.length_nil, Nat.reduceAdd, Nat.reduceSub, List.replicate, List.append_nil, List.cons_append, List.nil_append])
  simp_arith [if_true]
  simp only [List.length_map]
  unfold cellZ
  by_cases h : k < ns.length
  · rw [if_pos (by simpa using h)]
    rw [atI_of hk, List.getElem?_map, List.getElem?_eq_getElem (by omega)]
    exact ⟨_, rfl, dr_cf CF_int⟩
  · rw [if_neg (by simpa using h)]
    rw [List.getElem?_eq_none (by omega)]
    exact dr_cf CF_int
theorem wpO_cell {ns : List Int} {k : Int} {C : Sto} {Q : T → Sto → Prop} (hk : 0 ≤ k) : wpO (gCall 2 R_cell_at [.lst (ns.map T.int), .int k] C) Q ↔ Q (.int (cellZ ns k)) C := wpO_callE (cell_eq hk) rfl (by (simp only [CFs_cons, CFs_nil, CF_int, CF_bl, CF_lst, CF_tup, CF_non, CF_str, CFs_ints, Bool.and_true, Bool.and_self]))
noncomputable def isWork (m n : Int) : Bool := decide (0 ≤ n ∧ n < m)
theorem is_work_eq {m n : Int} : R_is_work [.int m, .int n] = some (.bl (isWork m n)) := by
  apply runT_wp
  unfold B_is_work isWork
  (simp only [st0, List.map_cons, List.map_nil, List.length_cons, List.length_nil, Nat.reduceAdd, Nat.reduceSub, List.replicate, List.append_nil, List.cons_append, List.nil_append])
  simp_arith [if_true]
  by_cases h : 0 ≤ n
  · rw [if_pos (by simpa using h)]
    rw [dr_cf CF_bl]
    simp [h]
  · rw [if_neg (by simpa using h), dr_cf CF_bl]
    simp [h]
theorem wpO_is_work {m n : Int} {C : Sto} {Q : T → Sto → Prop} : wpO (gCall 2 R_is_work [.int m, .int n] C) Q ↔ Q (.bl (isWork m n)) C := wpO_callE is_work_eq rfl (by (simp only [CFs_cons, CFs_nil, CF_int, CF_bl, CF_lst, CF_tup, CF_non, CF_str, CFs_ints, Bool.and_true, Bool.and_self]))
end Lib
/-! SpecB -/
set_option linter.all false
set_option maxRecDepth 100000
namespace TL
open PySem L2
section
variable {τ : TSt} {C : Sto} {c : FB} {F : FS} {Q : Fl → TSt → Sto → Prop}
theorem wpS_while {n : Nat} (I : Nat → TSt → Sto → Prop) {k : Nat} (hk : k < n) (h0 : I k τ C)
    (hs : ∀ i τ C, i < n → I i τ C → wpB c τ C fun b C1 => if b = true then wpS F τ C1 (fun l τ2 C2 => match l with
      | .nx => i + 1 < n ∧ I (i + 1) τ2 C2
      | .ct => i + 1 < n ∧ I (i + 1) τ2 C2
      | .bk => Q .nx τ2 C2
      | .rt v => Q (.rt v) τ2 C2
      | .ex v => Q (.ex v) τ2 C2) else Q .nx τ C1) : wpS (whGo c F (n - k)) τ C Q := by
  obtain ⟨d, hd⟩ : ∃ d, n - k = d := ⟨_, rfl⟩
  rw [hd]
  induction d generalizing k τ C with
  | zero => omega
  | succ d ih =>
    obtain ⟨b, C1, e1, h⟩ := hs k τ C hk h0
    cases b with
    | false =>
      rw [if_neg (by simp)] at h
      exact ⟨.nx, τ, C1, by unfold whGo; rw [e1]; rfl, h⟩
    | true =>
      rw [if_pos rfl] at h
      obtain ⟨l, τ2, C2, e2, h⟩ := h
      cases l with
      | nx =>
        obtain ⟨l, τ', C', e, q⟩ := ih h.1 h.2 (by omega)
        exact ⟨l, τ', C', by unfold whGo; rw [e1, Option.bind_some, if_pos rfl, e2, Option.bind_some]; exact e, q⟩
      | ct =>
        obtain ⟨l, τ', C', e, q⟩ := ih h.1 h.2 (by omega)
        exact ⟨l, τ', C', by unfold whGo; rw [e1, Option.bind_some, if_pos rfl, e2, Option.bind_some]; exact e, q⟩
      | bk => exact ⟨.nx, τ2, C2, by unfold whGo; rw [e1, Option.bind_some, if_pos rfl, e2]; rfl, h⟩
      | rt v => exact ⟨.rt v, τ2, C2, by unfold whGo; rw [e1, Option.bind_some, if_pos rfl, e2]; rfl, h⟩
      | ex v => exact ⟨.ex v, τ2, C2, by unfold whGo; rw [e1, Option.bind_some, if_pos rfl, e2]; rfl, h⟩
theorem compGo_cells {g : FG} {ts : List T} (hg : ∀ t ∈ ts, ∀ C, ∃ τ1, g t C τ = some τ1) : ∀ {C : Sto}, compGo g fTrueT (fCell (fDisp fNil)) τ ts C = some ((List.range ts.length).map (fun i => T.cell (C.length + i)), C ++ List.replicate ts.length []) := by
  induction ts with
  | nil => intro C; simp [compGo]
  | cons t ts ih =>
    intro C
    obtain ⟨τ1, e⟩ := hg t List.mem_cons_self C
    unfold compGo
    rw [e, Option.bind_some]
    show (fTrueT τ1 C).bind _ = _
    have e2 : fCell (fDisp fNil) τ1 C = some (.cell C.length, C ++ [[]]) := by
      unfold fCell fDisp fArgN fNil
      simp [lim]
    simp only [fTrueT, Option.bind_some, if_true, e2]
    rw [ih fun u hu => hg u (List.mem_cons_of_mem _ hu)]
    simp only [Option.map_some, List.length_append, List.length_cons, List.length_nil, List.append_assoc]
    congr 2
    · rw [List.range_succ_eq_map, List.map_cons, List.map_map]
      simp only [Nat.add_zero, List.cons.injEq, true_and]
      apply List.map_congr_left
      intro i _
      simp only [Function.comp]
      congr 1; omega
end
end TL
namespace Lib
open PySem L2 TL
noncomputable def Nd (ps : List (Int × Int)) (m : Nat) (nd : List (List Int)) : Prop := nd.length = m ∧ ∀ (b : Nat) (l : List Int), nd[b]? = some l → l.length ≤ ps.length ∧ ∀ a, a ∈ l ↔ (a, (b : Int)) ∈ ps
noncomputable def InW (m : Nat) (ps : List (Int × Int)) : Prop := ∀ p ∈ ps, (0 ≤ p.1 ∧ p.1 < m) ∧ (0 ≤ p.2 ∧ p.2 < m)
theorem isWork_t {m n : Int} (h : 0 ≤ n ∧ n < m) : isWork m n = true := decT h
noncomputable def Rdy (nd : List (List Int)) (told : List Int) (w : Nat) : Prop := (w : Int) ∉ told ∧ ∀ l, nd[w]? = some l → ∀ a ∈ l, a ∈ told
theorem least_of {P : Nat → Prop} (h : ∃ n, P n) : ∃ n, P n ∧ ∀ k < n, ¬ P k := by
  obtain ⟨n, hn⟩ := h
  induction n using Nat.strongRecOn with
  | _ n ih =>
    by_cases hk : ∃ k, k < n ∧ P k
    · obtain ⟨k, h1, h2⟩ := hk
      exact ih k h1 h2
    · exact ⟨n, hn, fun k h1 h2 => hk ⟨k, h1, h2⟩⟩
theorem card_le : ∀ (m : Nat) (l : List Int), l.Nodup → (∀ x ∈ l, 0 ≤ x ∧ x < m) → l.length ≤ m
  | 0, l, _, h => by
    cases l with
    | nil => simp
    | cons x l => have := h x List.mem_cons_self; omega
  | m + 1, l, hn, h => by
    by_cases hm : (m : Int) ∈ l
    · have := card_le m (l.erase m) (hn.erase _) fun x hx => by
        have h1 := h x (List.mem_of_mem_erase hx)
        have h2 : x ≠ m := fun z => by subst z; exact (List.Nodup.mem_erase_iff hn).mp hx |>.1 rfl
        omega
      rw [List.length_erase_of_mem hm] at this
      omega
    · have := card_le m l hn fun x hx => by
        have h1 := h x hx
        have h2 : x ≠ m := fun z => hm (z ▸ hx)
        omega
      omega
noncomputable def RdyP (ps : List (Int × Int)) (told : List Int) (w : Nat) : Prop := (w : Int) ∉ told ∧ ∀ a, (a, (w : Int)) ∈ ps → a ∈ told
theorem Nd.rdy {ps : List (Int × Int)} {m : Nat} {nd : List (List Int)} (h : Nd ps m nd) {told : List Int} {w : Nat} (hw : w < m) : Rdy nd told w ↔ RdyP ps told w := by
  have hw' : w < nd.length := by rw [h.1]; exact hw
  have e := List.getElem?_eq_getElem hw'
  obtain ⟨_, h2⟩ := h.2 w _ e
  constructor
  · rintro ⟨h3, h4⟩
    exact ⟨h3, fun a ha => h4 _ e a ((h2 a).mpr ha)⟩
  · rintro ⟨h3, h4⟩
    refine ⟨h3, fun l e' a ha => ?_⟩
    rw [e] at e'; cases e'
    exact h4 a ((h2 a).mp ha)
noncomputable def OrdP (ps : List (Int × Int)) (m : Nat) (o : List Int) : Prop := ∀ (i : Nat) (x : Int), o[i]? = some x → ∃ w : Nat, x = w ∧ w < m ∧ RdyP ps (o.take i) w ∧ ∀ v < w, ¬ RdyP ps (o.take i) v
theorem OrdP.snoc {ps : List (Int × Int)} {m : Nat} {o : List Int} (h : OrdP ps m o) {w : Nat} (hw : w < m) (hr : RdyP ps o w) (hmin : ∀ v < w, ¬ RdyP ps o v) : OrdP ps m (o ++ [(w : Int)]) := by
  intro i x e
  by_cases hi : i < o.length
  · rw [List.getElem?_append_left hi] at e
    rw [List.take_append_of_le_length (by omega)]
    exact h i x e
  · have hi' : i = o.length := by
      have := (List.getElem?_eq_some_iff.mp e).1
      simp at this; omega
    subst hi'
    simp only [List.getElem?_concat_length, Option.some.injEq] at e
    rw [List.take_left']
    · exact ⟨w, e.symm, hw, hr, hmin⟩
    · rfl
structure Topo (ps : List (Int × Int)) (m : Nat) (o : List Int) : Prop where
  len : o.length = m
  nd : o.Nodup
  rng : ∀ x ∈ o, 0 ≤ x ∧ x < m
  all : ∀ w : Nat, w < m → (w : Int) ∈ o
  top : ∀ (j : Nat) (b : Int), o[j]? = some b → ∀ a, (a, b) ∈ ps → a ∈ o.take j
theorem OrdP.topo {ps : List (Int × Int)} {m : Nat} {o : List Int} (h : OrdP ps m o) (hl : o.length = m) : Topo ps m o := by
  have rng : ∀ x ∈ o, 0 ≤ x ∧ x < m := fun x hx => by
    obtain ⟨i, hi⟩ := List.mem_iff_getElem?.mp hx
    obtain ⟨w, rfl, hw, _⟩ := h i x hi
    omega
  have nd : o.Nodup := by
    refine List.pairwise_iff_getElem.mpr fun i j hi hj hij e => ?_
    have ej := List.getElem?_eq_getElem hj
    obtain ⟨w, e1, _, h2, _⟩ := h j _ ej
    refine h2.1 (List.mem_of_getElem? (i := i) ?_)
    rw [List.getElem?_take_of_lt hij, List.getElem?_eq_getElem hi, e, e1]
  refine ⟨hl, nd, rng, fun w hw => Classical.byContradiction fun hc => ?_, fun j b e a ha => ?_⟩
  · have := card_le m ((w : Int) :: o) (List.nodup_cons.mpr ⟨hc, nd⟩) (fun x hx => by
      rcases List.mem_cons.mp hx with rfl | hx
      · omega
      · exact rng x hx)
    simp at this; omega
  · obtain ⟨w, rfl, _, h2, _⟩ := h j b e
    exact h2.2 a ha
end Lib
/-! SpecX -/
set_option linter.all false
set_option maxRecDepth 100000
namespace TL
open PySem L2
section
variable {τ : TSt} {C : Sto} {fa : FN} {x : XF} {F : FS} {Q : Fl → TSt → Sto → Prop} {c : String}
theorem wpS_raise : wpS (fRaise c fa) τ C Q ↔ wpA fa τ C fun ts C1 => ts.length ≤ 10 ∧ Q (.ex c) τ C1 := by
  unfold wpS wpA fRaise
  constructor
  · rintro ⟨l, t, C', e, q⟩
    obtain ⟨⟨ts, C1⟩, e1, e⟩ := Option.bind_eq_some_iff.mp e
    split at e
    · rename_i h
      cases e
      exact ⟨ts, _, e1, h, q⟩
    · cases e
  · rintro ⟨ts, C1, e1, h, q⟩
    exact ⟨_, _, _, by rw [e1]; exact if_pos h, q⟩
theorem wpS_fXn (h : x τ C = none) : wpS (fX x F) τ C Q ↔ wpS F τ C Q := by
  unfold wpS fX
  rw [h]
theorem wpS_fXs {C' : Sto} (h : x τ C = some (c, C')) : wpS (fX x F) τ C Q ↔ Q (.ex c) τ C' := by
  unfold wpS fX
  rw [h]
  constructor
  · rintro ⟨l, t, C', e, q⟩; cases e; exact q
  · exact fun q => ⟨_, _, _, rfl, q⟩
theorem xCall_of {n : Nat} {G : List T → Option String} {ts : List T} {C' : Sto} (h : fa τ C = some (ts, C')) (hl : ts.length = n) (hc : CFs ts = true) : xCall n G fa τ C = (G ts).map fun c => (c, C') := by
  unfold xCall gX
  rw [h, Option.bind_some]
  dsimp only
  rw [if_pos hl, if_pos hc]
theorem xCall_ofC {n : Nat} {G : List T → Option String} {ts us : List T} {C' : Sto} (h : fa τ C = some (ts, C')) (hl : ts.length = n) (hc : CFs ts = false) (hd : mapO (dr 3 C') ts = some us) : xCall n G fa τ C = (G us).map fun c => (c, C') := by
  unfold xCall gX
  rw [h, Option.bind_some]
  dsimp only
  rw [if_pos hl, if_neg (by rw [hc]; simp), hd]
  rfl
theorem runX_wp {B : FS} {m : Nat} {ts : List T} (h : wpS B (st0 m ts) [] fun l _ _ => l = .ex c) : runX B m ts = some c := by
  obtain ⟨l, t, C', e, q⟩ := h
  subst q
  unfold runX
  rw [e]
theorem runX_none {B : FS} {m : Nat} {ts : List T} {t : T} (h : runT B m ts = some t) : runX B m ts = none := by
  unfold runT at h
  unfold runX
  split at h
  · rename_i e; rw [e]
  · rename_i e; rw [e]
  · cases h
theorem wpS_try {tab : String → List String} {dn : String} {i : Nat} {G : FS} (h : wpS F τ C fun l τ1 C1 => match l with
      | .ex c => (tab c).contains dn = true ∧ wpS G (τ1.set i (some (.exc c))) C1 fun l2 τ2 C2 => (match l2 with
          | .ex _ => False
          | l2 => Q l2 (τ2.set i none) C2)
      | l => Q l τ1 C1) : wpS (fTry tab dn i F G) τ C Q := by
  obtain ⟨l, τ1, C1, e, q⟩ := h
  unfold wpS fTry
  cases l with
  | ex c =>
    obtain ⟨hc, l2, τ2, C2, e2, q2⟩ := q
    cases l2 with
    | ex _ => exact q2.elim
    | nx => exact ⟨.nx, _, _, by rw [e, Option.bind_some]; dsimp only; rw [if_pos hc, e2]; rfl, q2⟩
    | bk => exact ⟨.bk, _, _, by rw [e, Option.bind_some]; dsimp only; rw [if_pos hc, e2]; rfl, q2⟩
    | ct => exact ⟨.ct, _, _, by rw [e, Option.bind_some]; dsimp only; rw [if_pos hc, e2]; rfl, q2⟩
    | rt v => exact ⟨.rt v, _, _, by rw [e, Option.bind_some]; dsimp only; rw [if_pos hc, e2]; rfl, q2⟩
  | nx => exact ⟨.nx, τ1, C1, by rw [e]; rfl, q⟩
  | bk => exact ⟨.bk, τ1, C1, by rw [e]; rfl, q⟩
  | ct => exact ⟨.ct, τ1, C1, by rw [e]; rfl, q⟩
  | rt v => exact ⟨.rt v, τ1, C1, by rw [e]; rfl, q⟩
theorem wpE_isx {tab : String → List String} {ds : List String} {a : FE} {Q : T → Sto → Prop} : wpE (fIsx tab ds a) τ C Q ↔ wpE a τ C fun t C1 => ∃ b, isxT tab ds t = some b ∧ Q (.bl b) C1 := by
  unfold fIsx
  rw [wpE_un]
  unfold wpO wpE
  constructor
  · rintro ⟨t, C1, e, u, C2, e2, q⟩
    obtain ⟨b, e3, e4⟩ := Option.map_eq_some_iff.mp e2
    cases e4
    exact ⟨t, _, e, b, e3, q⟩
  · rintro ⟨t, C1, e, b, e3, q⟩
    exact ⟨t, C1, e, _, _, by rw [e3]; rfl, q⟩
end
end TL
/-! SpecC -/
set_option linter.all false
set_option maxRecDepth 100000
namespace Lib
open PySem L2 TL
structure Rk (m : Nat) (rs : List Int) : Prop where
  len : rs.length = m
  nd : rs.Nodup
  rng : ∀ x ∈ rs, 0 ≤ x ∧ x < m
theorem Rk.ins {m : Nat} {rs : List Int} {q : Int} (h : Rk m rs) : Rk (m + 1) (insAt rs q m) := by
  have p := insAt_permT (xs := rs) (i := q) (y := (m : Int))
  refine ⟨by rw [insAt_lenT, h.len], p.nodup_iff.mpr (List.nodup_cons.mpr ⟨fun z => ?_, h.nd⟩), fun x hx => ?_⟩
  · have := h.rng _ z; omega
  · rcases List.mem_cons.mp (p.mem_iff.mp hx) with rfl | hx
    · omega
    · have := h.rng _ hx; omega
noncomputable def Al (rs : List Int) (p : Int × Int) : Prop := ∃ i j : Nat, i < j ∧ rs[i]? = some p.1 ∧ rs[j]? = some p.2
theorem ints_of {α : Type} {xs : List α} {f : α → Int} : (xs.map fun x => T.int (f x)) = (xs.map f).map T.int := by simp
end Lib
/-! SpecD -/
set_option linter.all false
set_option maxRecDepth 100000
namespace Lib
open PySem L2 TL
noncomputable def Mx (S : Int → Prop) (d : Int) : Prop := 0 ≤ d ∧ (∀ x, S x → x ≤ d) ∧ (d = 0 ∨ S d)
theorem Mx.same {S S' : Int → Prop} {d : Int} (h : Mx S d) (hs : ∀ x, S' x ↔ S x) : Mx S' d := ⟨h.1, fun x hx => h.2.1 x ((hs x).mp hx), h.2.2.imp id (hs d).mpr⟩
theorem Mx.nil {S : Int → Prop} (h : ∀ x, ¬ S x) : Mx S 0 := ⟨Int.le_refl _, fun x hx => (h x hx).elim, .inl rfl⟩
end Lib
/-! SpecE -/
set_option linter.all false
set_option maxRecDepth 100000
namespace Lib
open PySem L2 TL
noncomputable def Chn (ps : List (Int × Int)) (ws : List Int) : Prop := ∀ (j : Nat) (x y : Int), ws[j]? = some x → ws[j + 1]? = some y → (x, y) ∈ ps
theorem Chn.cons {ps : List (Int × Int)} {ws : List Int} {a w : Int} (h : Chn ps (w :: ws)) (ha : (a, w) ∈ ps) : Chn ps (a :: w :: ws) := by
  intro j x y ex ey
  cases j with
  | zero =>
    simp at ex ey
    subst ex ey
    exact ha
  | succ j => exact h j x y (by simpa using ex) (by simpa using ey)
end Lib
/-! SpecF -/
set_option linter.all false
set_option maxRecDepth 100000
set_option maxHeartbeats 4000000
namespace Lib
open PySem L2 TL
end Lib
/-! SpecG -/
set_option linter.all false
set_option maxRecDepth 100000
namespace TL
open PySem L2
section
variable {τ : TSt} {C : Sto} {fo fi fe : FE} {fa : FN} {Q : T → Sto → Prop} {QS : Fl → TSt → Sto → Prop}
theorem wpS_augI : wpS (fAugI fo fi fe) τ C QS ↔ wpE fo τ C fun y C1 => wpE fi τ C1 fun z C2 => ∃ k i, y = .cell k ∧ z = .int i ∧ ∃ ts, C2[k]? = some ts ∧ ∃ x, atI ts i = some (.int x) ∧ wpE fe τ C2 fun w C3 => ∃ v, w = .int v ∧ ∃ us, C3[k]? = some us ∧ ∃ j, ixN us.length i = some j ∧ QS .nx τ (C3.set k (us.set j (.int (x + v)))) := by
  unfold wpE wpS fAugI
  constructor
  · rintro ⟨l, t, C', e, q⟩
    obtain ⟨⟨t1, C1⟩, e1, e⟩ := Option.bind_eq_some_iff.mp e
    obtain ⟨⟨t2, C2⟩, e2, e⟩ := Option.bind_eq_some_iff.mp e
    dsimp only at e
    split at e
    · obtain ⟨ts, e3, e⟩ := Option.bind_eq_some_iff.mp e
      obtain ⟨old, e4, e⟩ := Option.bind_eq_some_iff.mp e
      split at e
      · obtain ⟨⟨t3, C3⟩, e5, e⟩ := Option.bind_eq_some_iff.mp e
        dsimp only at e
        split at e
        · obtain ⟨us, e6, e⟩ := Option.bind_eq_some_iff.mp e
          obtain ⟨j, e7, e⟩ := Option.map_eq_some_iff.mp e
          cases e
          exact ⟨_, _, e1, _, _, e2, _, _, rfl, rfl, ts, e3, _, e4, _, _, e5, _, rfl, us, e6, j, e7, q⟩
        · cases e
      · cases e
    · cases e
  · rintro ⟨_, _, e1, _, _, e2, k, i, rfl, rfl, ts, e3, x, e4, _, _, e5, v, rfl, us, e6, j, e7, q⟩
    exact ⟨_, _, _, by rw [e1, Option.bind_some, e2, Option.bind_some]; dsimp only; rw [e3, Option.bind_some, e4, Option.bind_some]; dsimp only; rw [e5, Option.bind_some]; dsimp only; rw [e6, Option.bind_some, e7]; rfl, q⟩
theorem wpO_is0n : wpO (gIs0 .non .non C) Q ↔ Q (.bl true) C := by
  unfold wpO gIs0
  constructor
  · rintro ⟨_, _, e, q⟩; cases e; exact q
  · exact fun q => ⟨_, _, rfl, q⟩
theorem wpO_is0x {c : String} : wpO (gIs0 (.exc c) .non C) Q ↔ Q (.bl false) C := by
  unfold wpO gIs0
  constructor
  · rintro ⟨_, _, e, q⟩; cases e; exact q
  · exact fun q => ⟨_, _, rfl, q⟩
theorem wpE_tupD : wpE (fTupD fa) τ C Q ↔ wpA fa τ C fun ts C1 => ts.length ≤ lim ∧ Q (.tup ts) C1 := by
  unfold wpE wpA fTupD fArg
  constructor
  · rintro ⟨t, C', e, q⟩
    obtain ⟨⟨ts, C1⟩, e1, e⟩ := Option.bind_eq_some_iff.mp e
    dsimp only at e
    split at e
    · cases e; exact ⟨ts, _, e1, ‹_›, q⟩
    · cases e
  · rintro ⟨ts, C1, e1, h, q⟩
    exact ⟨_, _, by rw [e1]; exact if_pos h, q⟩
theorem wpO_dmB {i j : Int} : wpO (gDmB [.int i, .int j] C) Q ↔ (0 < j ∧ j < 2 ^ 250) ∧ Q (.tup [.int (i / j), .int (i % j)]) C := by
  unfold wpO gDmB
  constructor
  · rintro ⟨t, C', e, q⟩
    dsimp only at e
    split at e
    · cases e; exact ⟨‹_›, q⟩
    · cases e
  · rintro ⟨h, q⟩
    exact ⟨_, _, if_pos h, q⟩
end
end TL
namespace Lib
open PySem L2 TL
end Lib
/-! SpecH -/
set_option linter.all false
set_option maxRecDepth 100000
namespace Lib
open PySem L2 TL
end Lib
/-! SpecI -/
set_option linter.all false
set_option maxRecDepth 100000
namespace Lib
open PySem L2 TL
end Lib
/-! SpecY -/
set_option linter.all false
set_option maxRecDepth 100000
namespace Lib
open PySem L2 TL
theorem needX_eq {ps : List (Int × Int)} {m : Nat} (hm : m ≤ 100) (hl : ps.length ≤ 1000) (hw : InW m ps) : ∃ t, R_needed_worksX [.int m, .lst (ps.map pT)] = some t ∧ ∃ nd, t = .lst (nd.map iT) ∧ Nd ps m nd := by
  apply runT_wpE
  unfold B_needed_worksX
  (simp only [st0, List.map_cons, List.map_nil, List.length_cons, List.length_nil, Nat.reduceAdd, Nat.reduceSub, List.replicate, List.append_nil, List.cons_append, List.nil_append])
  simp_arith [if_true]
  refine ⟨by omega, ?_⟩
  refine ⟨_, _, compGo_cells (g := gN 0) (fun t ht C => ⟨_, rfl⟩), ?_⟩
  simp only [rngT, List.length_map, List.length_range, List.nil_append, List.length_nil, Nat.zero_add, List.length_replicate, Int.toNat_natCast]
  refine wpS_goX (fun i τ C => ∃ a b, τ = [some (.int m), some (.lst (ps.map pT)), some (.cell m), a, b] ∧ ∃ ls : List (List Int), C = ls.map (·.map T.int) ++ [(List.range m).map T.cell] ∧ ls.length = m ∧
    ∀ (b : Nat) (l : List Int), ls[b]? = some l → l.length ≤ i ∧ ∀ a, a ∈ l ↔ (a, (b : Int)) ∈ ps.take i) ?_ ?_ ?_
  · refine ⟨_, _, rfl, List.replicate m [], by simp, by simp, fun b l e => ?_⟩
    rw [List.getElem?_replicate] at e
    split at e
    · cases e; simp
    · cases e
  · rintro i ⟨x, y⟩ τ C hx ⟨a, b, rfl, ls, rfl, hls, hin⟩
    obtain ⟨hx1, hy1⟩ := hw _ (List.mem_of_getElem? hx)
    have hi : i < ps.length := (List.getElem?_eq_some_iff.mp hx).1
    simp only at hx1 hy1
    unfold L_needed_worksX_1
    obtain ⟨y, rfl⟩ : ∃ y' : Nat, y = y' := ⟨_, (Int.toNat_of_nonneg hy1.1).symm⟩
    have hyl : y < ls.length := by omega
    have ec : (ls.map (·.map T.int) ++ [(List.range m).map T.cell])[m]? = some ((List.range m).map T.cell) := by
      rw [List.getElem?_append_right (by simp [hls])]; simp [hls]
    have ey : (ls.map (·.map T.int) ++ [(List.range m).map T.cell])[y]? = some (ls[y].map T.int) := by
      rw [List.getElem?_append_left (by simpa using hyl)]; simp [hyl]
    have ea : atI ((List.range m).map T.cell) (y : Int) = some (.cell y) := by
      rw [atI_natE, List.getElem?_map, List.getElem?_range (by omega)]; rfl
    simp_arith [↓wpO_is_work, tru_bl, isWork_t hx1, isWork_t hy1, ↓ex_some ec, ↓ex_some ea, ↓wpO_inI (show liT _ (T.cell y) = _ from ey), Bool.not_true, Bool.not_false]
    have next : ∀ l, (∀ c, c ∈ l ↔ c ∈ ls[y] ∨ c = x) → l.length ≤ i + 1 → ∀ (b : Nat) (l' : List Int), (ls.set y l)[b]? = some l' → l'.length ≤ i + 1 ∧ ∀ a, a ∈ l' ↔ (a, (b : Int)) ∈ ps.take (i + 1) := by
      intro l hl1 hl2 b l' e
      have et : ∀ a, (a, (b : Int)) ∈ ps.take (i + 1) ↔ (a, (b : Int)) ∈ ps.take i ∨ (a = x ∧ b = y) := fun a => by
        rw [List.take_add_one, hx]
        simp only [Option.toList_some, List.mem_append, List.mem_singleton, Prod.mk.injEq]
        constructor
        · rintro (h | ⟨h1, h2⟩)
          · exact .inl h
          · exact .inr ⟨h1, by omega⟩
        · rintro (h | ⟨h1, h2⟩)
          · exact .inl h
          · exact .inr ⟨h1, by omega⟩
      by_cases hb : b = y
      · subst hb
        rw [List.getElem?_set_self hyl] at e
        cases e
        refine ⟨hl2, fun a => ?_⟩
        rw [hl1, et, (hin b _ (List.getElem?_eq_getElem hyl)).2]
        simp
      · rw [List.getElem?_set_ne (Ne.symm hb)] at e
        obtain ⟨h1, h2⟩ := hin b l' e
        refine ⟨by omega, fun a => ?_⟩
        rw [et, h2]
        simp [hb]
    obtain ⟨hly, _⟩ := hin y _ (List.getElem?_eq_getElem hyl)
    split
    · rw [ex_some ey]
      refine ⟨by (first | exact decT (by omega) | omega | (simp only [List.length_map, List.length_append, List.length_cons, List.length_nil, lim]; omega) | (first | (apply mulOk_s <;> omega) | (apply mulOk_t <;> omega) | (apply mulOk_l; assumption) | (apply mulOk_r; assumption)) | decide), trivial, _, _, rfl, ls.set y (ls[y] ++ [x]), ?_, by simpa using hls, next _ (fun c => by simp) (by simp; omega)⟩
      rw [snoc_i, List.set_append_left _ _ (by simpa using hyl), List.map_set]
    · rename_i hn
      have hxm : x ∈ ls[y] := by simpa using hn
      refine ⟨trivial, _, _, rfl, ls, rfl, hls, fun b l e => ?_⟩
      have := next ls[y] (fun c => ⟨.inl, fun h => h.elim id fun h => by rw [h]; exact hxm⟩) (by omega) b l
      rw [List.set_getElem_self] at this
      exact this e
  · rintro τ C ⟨a, b, rfl, ls, rfl, hls, hin⟩
    simp_arith [if_true]
    refine ⟨.lst (ls.map iT), ?_, ls, rfl, hls, fun b l e => ?_⟩
    · unfold dr
      rw [List.getElem?_append_right (by simp [hls])]
      simp only [List.length_map, hls, Nat.sub_self, List.getElem?_cons_zero, Option.bind_some]
      rw [show mapO (dr 2 (ls.map (·.map T.int) ++ [(List.range m).map T.cell])) ((List.range m).map T.cell) = some (ls.map iT) from ?_]
      · rfl
      · have : ∀ (k : Nat) , k ≤ m → mapO (dr 2 (ls.map (·.map T.int) ++ [(List.range m).map T.cell])) (((List.range m).drop (m - k)).map T.cell) = some ((ls.drop (m - k)).map iT) := by
          intro k
          induction k with
          | zero => intro _; rw [Nat.sub_zero, List.drop_eq_nil_of_le (by simp), List.drop_eq_nil_of_le (by omega)]; rfl
          | succ k ih =>
            intro hk
            have hlt : m - (k + 1) < m := by omega
            rw [List.drop_eq_getElem_cons (by simpa using hlt), List.drop_eq_getElem_cons (by omega : m - (k + 1) < ls.length), show m - (k + 1) + 1 = m - k by omega]
            rw [List.map_cons, List.map_cons]
            refine mapO_cons ?_ (ih (by omega))
            rw [List.getElem_range]
            refine dr_cell ?_ CFs_ints
            rw [List.getElem?_append_left (by simp; omega)]
            simp [hls, hlt]
        have := this m (Nat.le_refl _)
        simpa using this
    · have := hin b l e
      rw [List.take_length] at this
      exact this

theorem needX_no {ps : List (Int × Int)} {m : Nat} (hm : m ≤ 100) (hl : ps.length ≤ 1000) (hw : ¬ InW m ps) : RX_needed_worksX [.int m, .lst (ps.map pT)] = some "NoOrder" := by
  apply runX_wp
  unfold B_needed_worksX
  (simp only [st0, List.map_cons, List.map_nil, List.length_cons, List.length_nil, Nat.reduceAdd, Nat.reduceSub, List.replicate, List.append_nil, List.cons_append, List.nil_append])
  simp_arith [if_true]
  refine ⟨by omega, ?_⟩
  refine ⟨_, _, compGo_cells (g := gN 0) (fun t ht C => ⟨_, rfl⟩), ?_⟩
  simp only [rngT, List.length_map, List.length_range, List.nil_append, List.length_nil, Nat.zero_add, List.length_replicate, Int.toNat_natCast]
  refine wpS_goX (fun i τ C => InW m (ps.take i) ∧ ∃ a b, τ = [some (.int m), some (.lst (ps.map pT)), some (.cell m), a, b] ∧ ∃ ls : List (List Int), C = ls.map (·.map T.int) ++ [(List.range m).map T.cell] ∧ ls.length = m ∧
    ∀ l ∈ ls, l.length ≤ i) ?_ ?_ ?_
  · exact ⟨fun p hp => by simp at hp, _, _, rfl, List.replicate m [], by simp, by simp, fun l h => by rw [List.eq_of_mem_replicate h]; simp⟩
  · rintro i ⟨x, y⟩ τ C hx ⟨hin, a, b, rfl, ls, rfl, hls, hlen⟩
    have hi : i < ps.length := (List.getElem?_eq_some_iff.mp hx).1
    unfold L_needed_worksX_1
    by_cases hx1 : 0 ≤ x ∧ x < m
    · by_cases hy1 : 0 ≤ y ∧ y < m
      · obtain ⟨y, rfl⟩ : ∃ y' : Nat, y = y' := ⟨_, (Int.toNat_of_nonneg hy1.1).symm⟩
        have hyl : y < ls.length := by omega
        have ec : (ls.map (·.map T.int) ++ [(List.range m).map T.cell])[m]? = some ((List.range m).map T.cell) := by
          rw [List.getElem?_append_right (by simp [hls])]; simp [hls]
        have ey : (ls.map (·.map T.int) ++ [(List.range m).map T.cell])[y]? = some (ls[y].map T.int) := by
          rw [List.getElem?_append_left (by simpa using hyl)]; simp [hyl]
        have ea : atI ((List.range m).map T.cell) (y : Int) = some (.cell y) := by
          rw [atI_natE, List.getElem?_map, List.getElem?_range (by omega)]; rfl
        simp_arith [↓wpO_is_work, tru_bl, isWork_t hx1, isWork_t hy1, ↓ex_some ec, ↓ex_some ea, ↓wpO_inI (show liT _ (T.cell y) = _ from ey), Bool.not_true, Bool.not_false]
        have hly := hlen _ (List.getElem_mem hyl)
        have nx : InW m (ps.take (i + 1)) := fun p hp => by
          rw [List.take_add_one, hx] at hp
          simp only [Option.toList_some, List.mem_append, List.mem_singleton] at hp
          rcases hp with hp | rfl
          · exact hin p hp
          · exact ⟨hx1, hy1⟩
        split
        · rw [ex_some ey]
          refine ⟨by (first | exact decT (by omega) | omega | (simp only [List.length_map, List.length_append, List.length_cons, List.length_nil, lim]; omega) | (first | (apply mulOk_s <;> omega) | (apply mulOk_t <;> omega) | (apply mulOk_l; assumption) | (apply mulOk_r; assumption)) | decide), trivial, nx, _, _, rfl, ls.set y (ls[y] ++ [x]), ?_, by simpa using hls, fun l hl' => ?_⟩
          · rw [snoc_i, List.set_append_left _ _ (by simpa using hyl), List.map_set]
          · rcases List.mem_or_eq_of_mem_set hl' with h | rfl
            · have := hlen l h; omega
            · simp; omega
        · exact ⟨trivial, nx, _, _, rfl, ls, rfl, hls, fun l h => by have := hlen l h; omega⟩
      · have fy : isWork m y = false := decide_eq_false hy1
        simp_arith [↓wpO_is_work, tru_bl, isWork_t hx1, fy, Bool.not_true, Bool.not_false, ↓wpS_raise, List.length_cons, List.length_nil]
        omega
    · have fx : isWork m x = false := decide_eq_false hx1
      simp_arith [↓wpO_is_work, tru_bl, fx, Bool.not_true, Bool.not_false, ↓wpS_raise, List.length_cons, List.length_nil]
      omega
  · rintro τ C ⟨hin, _⟩
    rw [List.take_length] at hin
    exact absurd hin hw
theorem lrX_eq {nd : List (List Int)} {told : List Int} {w : Nat} (hn : nd.length ≤ 100) (hl : ∀ l ∈ nd, l.length ≤ 1000) (hw : w < nd.length) (hr : Rdy nd told w) (hmin : ∀ v < w, ¬ Rdy nd told v) :
    R_least_readyX [.lst (nd.map iT), .lst (told.map T.int)] = some (.int w) := by
  apply runT_wp
  unfold B_least_readyX
  (simp only [st0, List.map_cons, List.map_nil, List.length_cons, List.length_nil, Nat.reduceAdd, Nat.reduceSub, List.replicate, List.append_nil, List.cons_append, List.nil_append])
  simp_arith [List.length_map]
  refine ⟨by omega, wpS_goR (fun i τ C => C = [] ∧ ∃ a, τ = [some (.lst (nd.map iT)), some (.lst (told.map T.int)), a] ∧ i ≤ w) ⟨rfl, _, rfl, Nat.zero_le _⟩ ?_ ?_⟩
  · rintro i τ C hi ⟨rfl, a, rfl, hiw⟩
    have hi' : i < nd.length := by omega
    have e1 : atI (nd.map iT) (0 + (i : Int)) = some (iT nd[i]) := by
      rw [Int.zero_add, atI_natE, List.getElem?_map, List.getElem?_eq_getElem hi']; rfl
    have hli := hl _ (List.getElem_mem hi')
    unfold L_least_readyX_1
    simp_arith [↓ex_some e1]
    have fin : ∀ b : Bool, (b = true ↔ Rdy nd told i) → if b = true then dr 3 [] (.int (0 + (i : Int))) = some (T.int w) else ∃ a, [some (T.lst (nd.map iT)), some (T.lst (told.map T.int)), some (T.int (0 + (i : Int)))] = [some (.lst (nd.map iT)), some (.lst (told.map T.int)), a] ∧ i + 1 ≤ w := by
      intro b hb
      have hiw' : i < w ∨ i = w := by omega
      rcases hiw' with h | h
      · rw [if_neg (fun z => hmin i h (hb.mp z))]
        exact ⟨_, rfl, h⟩
      · subst h
        rw [if_pos (hb.mpr hr), Int.zero_add]
        exact dr_cf CF_int
    by_cases ht : (0 + (i : Int)) ∈ told
    · have h0 := fin false (Iff.intro (fun z => nomatch z) (fun z => (z.1 (by simpa using ht)).elim))
      rw [if_neg (by simp)] at h0
      rw [if_neg (by simpa using ht)]
      exact h0
    · rw [if_pos (by simpa using ht)]
      refine ⟨by (first | exact decT (by omega) | omega | (simp only [List.length_map, List.length_append, List.length_cons, List.length_nil, lim]; omega) | (first | (apply mulOk_s <;> omega) | (apply mulOk_t <;> omega) | (apply mulOk_l; assumption) | (apply mulOk_r; assumption)) | decide), wpC_mapA (fun a => T.bl (decide (a ∈ told))) (fun a _ => ?_) ?_⟩
      · simp only [scT, List.replicate, List.map_cons, List.map_nil, List.nil_append, List.cons_append, List.append_nil, List.getElem?_cons_zero, List.getElem?_cons_succ, Option.getD_some]
        simp_arith [if_true]
      rw [bls?_of]
      refine ⟨_, rfl, _, tru_bl, ?_⟩
      have h0 := fin (List.all (nd[i].map fun a => decide (a ∈ told)) id) (by
        rw [List.all_map, List.all_eq_true]
        constructor
        · intro h
          refine ⟨by simpa using ht, fun l e a ha => ?_⟩
          rw [List.getElem?_eq_getElem hi'] at e
          cases e
          simpa using h a ha
        · intro h a ha
          simpa using h.2 _ (List.getElem?_eq_getElem hi') a ha)
      split at h0
      · rename_i hb; rw [if_pos hb]; exact h0
      · rename_i hb; rw [if_neg hb]; exact ⟨rfl, h0⟩
  · rintro τ C ⟨rfl, a, rfl, hiw⟩
    omega

theorem lrX_no {nd : List (List Int)} {told : List Int} (hn : nd.length ≤ 100) (hl : ∀ l ∈ nd, l.length ≤ 1000) (hno : ∀ w < nd.length, ¬ Rdy nd told w) :
    RX_least_readyX [.lst (nd.map iT), .lst (told.map T.int)] = some "NoOrder" := by
  apply runX_wp
  unfold B_least_readyX
  (simp only [st0, List.map_cons, List.map_nil, List.length_cons, List.length_nil, Nat.reduceAdd, Nat.reduceSub, List.replicate, List.append_nil, List.cons_append, List.nil_append])
  simp_arith [List.length_map]
  refine ⟨by omega, wpS_goR (fun i τ C => C = [] ∧ ∃ a, τ = [some (.lst (nd.map iT)), some (.lst (told.map T.int)), a]) ⟨rfl, _, rfl⟩ ?_ ?_⟩
  · rintro i τ C hi ⟨rfl, a, rfl⟩
    have hi' : i < nd.length := by omega
    have e1 : atI (nd.map iT) (0 + (i : Int)) = some (iT nd[i]) := by
      rw [Int.zero_add, atI_natE, List.getElem?_map, List.getElem?_eq_getElem hi']; rfl
    have hli := hl _ (List.getElem_mem hi')
    unfold L_least_readyX_1
    simp_arith [↓ex_some e1]
    by_cases ht : (0 + (i : Int)) ∈ told
    · rw [if_neg (by simpa using ht)]
      exact ⟨_, rfl⟩
    · rw [if_pos (by simpa using ht)]
      refine ⟨by (first | exact decT (by omega) | omega | (simp only [List.length_map, List.length_append, List.length_cons, List.length_nil, lim]; omega) | (first | (apply mulOk_s <;> omega) | (apply mulOk_t <;> omega) | (apply mulOk_l; assumption) | (apply mulOk_r; assumption)) | decide), wpC_mapA (fun a => T.bl (decide (a ∈ told))) (fun a _ => ?_) ?_⟩
      · simp only [scT, List.replicate, List.map_cons, List.map_nil, List.nil_append, List.cons_append, List.append_nil, List.getElem?_cons_zero, List.getElem?_cons_succ, Option.getD_some]
        simp_arith [if_true]
      rw [bls?_of]
      refine ⟨_, rfl, _, tru_bl, ?_⟩
      rw [if_neg (fun hb => hno i hi' ⟨by simpa using ht, fun l e a ha => by
        rw [List.all_map, List.all_eq_true] at hb
        rw [List.getElem?_eq_getElem hi'] at e
        cases e
        simpa using hb a ha⟩)]
      exact ⟨rfl, _, rfl⟩
  · rintro τ C ⟨rfl, a, rfl⟩
    simp_arith [↓wpS_raise, List.length_cons, List.length_nil]
    omega

theorem orderX_wp {ps : List (Int × Int)} {m : Nat} (hm : m ≤ 8) (hl : ps.length ≤ 1000) (hw : InW m ps) :
    wpS B_order_ofX (st0 4 [.int m, .lst (ps.map pT)]) [] fun l τ C => (∃ o, l = .rt (.cell 0) ∧ C = [o.map T.int] ∧ o.length = m ∧ OrdP ps m o) ∨ (l = .ex "NoOrder" ∧ ∃ o : List Int, o.length < m ∧ OrdP ps m o ∧ ∀ w < m, ¬ RdyP ps o w) := by
  obtain ⟨_, e1, nd, rfl, hnd⟩ := needX_eq (by omega) hl hw
  have hnd1 := hnd.1
  have hcf : CFs [.int m, .lst (ps.map pT)] = true := by rw [CFs_cons, CFs_cons, CFs_nil, CF_lst, CF_int, CFs_pT]; rfl
  have w1 : ∀ {C Q}, wpO (gCall 2 R_needed_worksX [.int m, .lst (ps.map pT)] C) Q ↔ Q (.lst (nd.map iT)) C := wpO_callE e1 rfl hcf
  have hll : ∀ l ∈ nd, l.length ≤ 1000 := fun l hl' => by
    obtain ⟨b, hb⟩ := List.mem_iff_getElem?.mp hl'
    have := (hnd.2 b l hb).1
    omega
  unfold B_order_ofX
  (simp only [st0, List.map_cons, List.map_nil, List.length_cons, List.length_nil, Nat.reduceAdd, Nat.reduceSub, List.replicate, List.append_nil, List.cons_append, List.nil_append])
  rw [wpS_seq, wpS_fXn (by rw [xCall_of (n := 2) (ts := [.int m, .lst (ps.map pT)]) rfl rfl hcf, show RX_needed_worksX [.int m, .lst (ps.map pT)] = none from runX_none e1]; rfl)]
  simp_arith [↓w1]
  refine ⟨by (first | exact decT (by omega) | omega | (simp only [List.length_map, List.length_append, List.length_cons, List.length_nil, lim]; omega) | (first | (apply mulOk_s <;> omega) | (apply mulOk_t <;> omega) | (apply mulOk_l; assumption) | (apply mulOk_r; assumption)) | decide), wpS_while (n := 10) (k := 0) (fun i τ C => ∃ o : List Int, τ = [some (.int m), some (.lst (ps.map pT)), some (.lst (nd.map iT)), some (.cell 0)] ∧ C = [o.map T.int] ∧ o.length = i ∧ i ≤ m ∧ OrdP ps m o) (by omega) ⟨[], rfl, rfl, rfl, Nat.zero_le _, fun i x e => by simp at e⟩ ?_⟩
  rintro i τ C hi ⟨o, rfl, rfl, ho, him, hp⟩
  simp_arith [List.length_map]
  by_cases hlt : i < m
  · rw [if_pos (decT (by omega))]
    unfold L_order_ofX_1
    have hx : ∀ r, RX_least_readyX [.lst (nd.map iT), .lst (o.map T.int)] = r → xApp (fVar 3) (xCall 2 RX_least_readyX (fCons (fVar 2) (fCons (fVar 3) fNil))) [some (.int m), some (.lst (ps.map pT)), some (.lst (nd.map iT)), some (.cell 0)] [o.map T.int] = r.map fun c => (c, [o.map T.int]) := fun r hr => by
      unfold xApp
      show (xCall 2 RX_least_readyX (fCons (fVar 2) (fCons (fVar 3) fNil)) [some (.int m), some (.lst (ps.map pT)), some (.lst (nd.map iT)), some (.cell 0)] [o.map T.int]) = _
      rw [xCall_ofC (n := 2) (ts := [.lst (nd.map iT), .cell 0]) rfl rfl (by rw [CFs_cons, CFs_cons]; simp [CF]) (mapO_cons (dr_cf (by rw [CF_lst]; exact CFs_iT)) (mapO_cons (dr_cellI rfl) rfl)), hr]
    by_cases hex : ∃ w, w < m ∧ RdyP ps o w
    · obtain ⟨w, ⟨h1, h2⟩, h3⟩ := least_of hex
      have hmin : ∀ v < w, ¬ RdyP ps o v := fun v hv z => h3 v hv ⟨by omega, z⟩
      have el := lrX_eq (nd := nd) (told := o) (w := w) (by omega) hll (by omega) ((hnd.rdy h1).mpr h2) (fun v hv z => hmin v hv ((hnd.rdy (by omega)).mp z))
      rw [wpS_fXn (hx _ (runX_none el))]
      simp_arith [if_true]
      refine wpO_callC rfl (mapO_cons (dr_cf (by rw [CF_lst]; exact CFs_iT)) (mapO_cons (dr_cellI rfl) rfl)) ?_
      refine ⟨_, el, rfl, ?_⟩
      simp_arith [if_true]
      refine ⟨by (first | exact decT (by omega) | omega | (simp only [List.length_map, List.length_append, List.length_cons, List.length_nil, lim]; omega) | (first | (apply mulOk_s <;> omega) | (apply mulOk_t <;> omega) | (apply mulOk_l; assumption) | (apply mulOk_r; assumption)) | decide), by omega, o ++ [(w : Int)], by rw [snoc_i], by simp [ho], hlt, hp.snoc h1 h2 hmin⟩
    · have hno : ∀ w < m, ¬ RdyP ps o w := fun w hw' hr => hex ⟨w, hw', hr⟩
      rw [wpS_fXs (hx _ (lrX_no (by omega) hll fun w hw' hr => hno w (by omega) ((hnd.rdy (by omega)).mp hr)))]
      exact .inr ⟨rfl, o, by omega, hp, hno⟩
  · rw [if_neg (by simpa using (by omega : m ≤ o.length))]
    exact .inl ⟨o, rfl, by omega, hp⟩
theorem orderX_no {ps : List (Int × Int)} {m : Nat} (hm : m ≤ 8) (hl : ps.length ≤ 1000) (hr : InW m ps → ∀ o, ¬ Topo ps m o) : RX_order_ofX [.int m, .lst (ps.map pT)] = some "NoOrder" := by
  by_cases hw : InW m ps
  · obtain ⟨l, τ', C', e, q⟩ := orderX_wp hm hl hw
    rcases q with ⟨o, rfl, rfl, h1, h2⟩ | ⟨rfl, _⟩
    · exact absurd (h2.topo h1) (hr hw o)
    · unfold RX_order_ofX runX
      rw [e]
  · apply runX_wp
    unfold B_order_ofX
    (simp only [st0, List.map_cons, List.map_nil, List.length_cons, List.length_nil, Nat.reduceAdd, Nat.reduceSub, List.replicate, List.append_nil, List.cons_append, List.nil_append])
    rw [wpS_seq, wpS_fXs (c := "NoOrder") (C' := []) (by rw [xCall_of (n := 2) (ts := [.int m, .lst (ps.map pT)]) rfl rfl (by rw [CFs_cons, CFs_cons, CFs_nil, CF_lst, CF_int, CFs_pT]; rfl), needX_no (by omega) hl hw]; rfl)]
    rfl
end Lib
/-! SpecJ -/
set_option linter.all false
set_option maxRecDepth 100000
namespace Lib
open PySem L2 TL
theorem cf_mp {m : Int} {ps : List (Int × Int)} : CFs [.int m, .lst (ps.map pT)] = true := by rw [CFs_cons, CFs_cons, CFs_nil, CF_lst, CF_int, CFs_pT]; rfl
inductive Rch (ps : List (Int × Int)) (x : Int) : Int → Prop
  | refl : Rch ps x x
  | step {y z : Int} : Rch ps x y → (y, z) ∈ ps → Rch ps x z
noncomputable def BadP (ps : List (Int × Int)) (m : Nat) (q : Int × Int) : Prop := ¬ (0 ≤ q.1 ∧ q.1 < m) ∨ ¬ (0 ≤ q.2 ∧ q.2 < m) ∨ Rch ps q.2 q.1
theorem bad_no {ps ps' : List (Int × Int)} {m : Nat} {q : Int × Int} (hb : BadP ps m q) (hs : ∀ p ∈ ps, p ∈ ps') (hq : q ∈ ps') (hw : InW m ps') (o : List Int) : ¬ Topo ps' m o := fun t => by
  rcases hb with h | h | h
  · exact h (hw q hq).1
  · exact h (hw q hq).2
  · have pos : ∀ p ∈ ps', o.idxOf p.1 < o.idxOf p.2 := fun p hp => by
      have hb := t.all p.2.toNat (by have := (hw p hp).2; omega)
      rw [Int.toNat_of_nonneg (hw p hp).2.1] at hb
      have e : o[o.idxOf p.2]? = some p.2 := by rw [List.getElem?_eq_getElem (List.idxOf_lt_length_of_mem hb), List.getElem_idxOf]
      have ha := t.top _ _ e p.1 (by exact hp)
      obtain ⟨k, hk⟩ := List.mem_iff_getElem?.mp ha
      have hlt : k < o.idxOf p.2 := by
        have := (List.getElem?_eq_some_iff.mp hk).1
        simp at this; omega
      rw [List.getElem?_take_of_lt hlt] at hk
      obtain ⟨hk1, hk2⟩ := List.getElem?_eq_some_iff.mp hk
      have : o.idxOf p.1 = k := by rw [← hk2]; exact t.nd.idxOf_getElem k hk1
      omega
    have le : ∀ {y}, Rch ps q.2 y → o.idxOf q.2 ≤ o.idxOf y := fun h => by
      induction h with
      | refl => exact Nat.le_refl _
      | step _ hz ih => exact Nat.le_trans ih (Nat.le_of_lt (pos _ (hs _ hz)))
    have h1 := le h
    have h2 := pos q hq
    omega
end Lib
/-! SpecL -/
set_option linter.all false
set_option maxRecDepth 100000
set_option maxHeartbeats 1000000
namespace Lib
open PySem L2 TL
theorem atI_mem {α : Type} {xs : List α} {i : Int} (h0 : 0 ≤ i) (h : i < xs.length) : ∃ t ∈ xs, atI xs i = some t :=
  ⟨xs[i.toNat]'(by omega), List.getElem_mem _, by rw [atI_of h0, List.getElem?_eq_getElem (by omega)]⟩
noncomputable def Sm (n : Int) : Prop := 0 ≤ n ∧ n < 2147483587
theorem Sm.bt {n : Int} (h : Sm n) : Bt 31 n := .of_lt h.1 (by have := h.2; omega)
theorem mixedL_ok {a k : Int} (hk : Bt 20 k) : ∃ t, R_mixedL [.int a, .int k] = some t ∧ ∃ r, t = .int r ∧ Sm r := by
  apply runT_wpE
  unfold B_mixedL
  (simp only [st0, List.map_cons, List.map_nil, List.length_cons, List.length_nil, Nat.reduceAdd, Nat.reduceSub, List.replicate, List.append_nil, List.cons_append, List.nil_append])
  simp_arith [↓wpS_augI, ↓wpO_is0n, ↓wpO_is0x, ↓wpE_tupD, ↓wpO_dmB]
  have h1 := emod_b (x := a * 48271 + k * k * 69621 + 3) (m := 2147483647) (by omega)
  generalize (a * 48271 + k * k * 69621 + 3) % 2147483647 = n1 at h1
  have h2 := emod_b (x := n1 * n1) (m := 2147483629) (by omega)
  have b1 : Bt 31 n1 := .of_lt h1.1 (by omega)
  generalize n1 * n1 % 2147483629 = n2 at h2
  have h3 := emod_b (x := n2 * n2) (m := 2147483587) (by omega)
  have b2 : Bt 31 n2 := .of_lt h2.1 (by omega)
  exact ⟨mulOk_r (.of_lt (by decide) (by decide)), mulOk_l (hk.mono (by decide)), mulOk_r (.of_lt (by decide) (by decide)), by decide, mulOk_l (b1.mono (by decide)), by decide, mulOk_l (b2.mono (by decide)), by decide, _, dr_cf CF_int, _, rfl, h3⟩
noncomputable def mixL (a k : Int) : Int := if h : Bt 20 k then Classical.choose (Classical.choose_spec (mixedL_ok (a := a) h)).2 else 0
theorem mixL_eq {a k : Int} (h : Bt 20 k) : R_mixedL [.int a, .int k] = some (.int (mixL a k)) := by
  unfold mixL
  rw [dif_pos h]
  have e := (Classical.choose_spec (mixedL_ok (a := a) h)).1
  have e2 := (Classical.choose_spec (Classical.choose_spec (mixedL_ok (a := a) h)).2).1
  rw [← e2]; exact e
theorem mixL_b {a k : Int} : Sm (mixL a k) := by
  unfold mixL
  split
  · rename_i h
    exact (Classical.choose_spec (Classical.choose_spec (mixedL_ok (a := a) h)).2).2
  · exact ⟨by decide, by decide⟩
theorem wpO_mixL {a k : Int} {C : Sto} {Q : T → Sto → Prop} (h : Bt 20 k) : wpO (gCall 2 R_mixedL [.int a, .int k] C) Q ↔ Q (.int (mixL a k)) C := wpO_callE (mixL_eq h) rfl (by (simp only [CFs_cons, CFs_nil, CF_int, CF_bl, CF_lst, CF_tup, CF_non, CF_str, CFs_ints, Bool.and_true, Bool.and_self]))
theorem numbersL_ok {ns : List Int} (hl : ns.length ≤ 63) : ∃ t, R_numbersL [.lst (ns.map T.int)] = some t ∧ ∃ xs : List Int, t = .lst (xs.map T.int) ∧ xs.length = 40 ∧ ∀ x ∈ xs, Sm x := by
  apply runT_wpE
  unfold B_numbersL
  (simp only [st0, List.map_cons, List.map_nil, List.length_cons, List.length_nil, Nat.reduceAdd, Nat.reduceSub, List.replicate, List.append_nil, List.cons_append, List.nil_append])
  simp_arith [↓wpS_augI, ↓wpO_is0n, ↓wpO_is0x, ↓wpE_tupD, ↓wpO_dmB, List.length_map]
  refine ⟨by omega, ?_⟩
  rw [rngT_map]
  refine wpC_mapA (fun i => T.int (mixL (cellZ ns 0) (90 + (0 + (i : Int))))) (fun i hi => ?_) ?_
  · have hi := List.mem_range.mp hi
    have hb : Bt 20 (90 + (0 + (i : Int))) := .sml (by omega) (by omega) (by decide)
    simp only [scT, List.replicate, List.map_cons, List.map_nil, List.nil_append, List.cons_append, List.append_nil, List.getElem?_cons_zero, List.getElem?_cons_succ, Option.getD_some]
    simp_arith [↓wpS_augI, ↓wpO_is0n, ↓wpO_is0x, ↓wpE_tupD, ↓wpO_dmB, ↓wpO_cell, ↓wpO_mixL]
  rw [show (List.map (fun (i : Nat) => T.int (mixL (cellZ ns 0) (90 + (0 + (i : Int))))) (List.range (Int.toNat 40))) = ((List.range 40).map fun (i : Nat) => mixL (cellZ ns 0) (90 + (0 + (i : Int)))).map T.int by simp]
  obtain ⟨xs0, hx0⟩ : ∃ xs0, ((List.range 40).map fun (i : Nat) => mixL (cellZ ns 0) (90 + (0 + (i : Int)))) = xs0 := ⟨_, rfl⟩
  have hl0 : xs0.length = 40 := by rw [← hx0]; simp
  have hs0 : ∀ x ∈ xs0, Sm x := by
    rw [← hx0]
    intro x hx
    obtain ⟨i, _, rfl⟩ := List.mem_map.mp hx
    exact mixL_b
  rw [hx0]
  refine ⟨by omega, wpS_goR (fun i τ C => ∃ a b : Option T, τ = [some (.lst (ns.map T.int)), some (.cell 0), a, b] ∧ ∃ xs : List Int, C = [xs.map T.int] ∧ xs.length = 40 ∧ ∀ x ∈ xs, Sm x) ⟨_, _, rfl, xs0, rfl, hl0, hs0⟩ ?_ ?_⟩
  · rintro i τ C hi ⟨_, _, rfl, xs, rfl, hxl, hxs⟩
    have hb : Bt 20 (2 + (i : Int)) := .sml (by omega) (by omega) (by decide)
    have hq := emod_b (x := 2 + (i : Int)) (m := 40) (by omega)
    unfold L_numbersL_1
    generalize hqe : (2 + (i : Int)) % 40 = q at hq
    have e1 := atI_i (ns := xs) (i := q) hq.1 (by omega)
    have e2 := atI_i (ns := ns) (i := 2 + (i : Int)) (by omega) (by omega)
    simp_arith [↓wpS_augI, ↓wpO_is0n, ↓wpO_is0x, ↓wpE_tupD, ↓wpO_dmB, hqe, ↓ex_some e1, ↓ex_some e2, ↓wpO_mixL]
    refine ⟨by decide, ?_⟩
    rw [ex_some (ixN_of hq.1 (by simp [hxl]; omega))]
    refine ⟨_, _, rfl, xs.set q.toNat _, by rw [set_mapE (f := T.int)], by simpa using hxl, fun x hx => ?_⟩
    rcases List.mem_or_eq_of_mem_set hx with h | h
    · exact hxs x h
    · rw [h]; exact mixL_b
  · rintro τ C ⟨_, _, rfl, xs, rfl, hxl, hxs⟩
    simp_arith [↓wpS_augI, ↓wpO_is0n, ↓wpO_is0x, ↓wpE_tupD, ↓wpO_dmB]
    exact ⟨_, dr_cellI rfl, xs, rfl, hxl, hxs⟩
theorem namesL_ok {c : Int} {m : Nat} (hm : m ≤ 8) : ∃ t, R_namesL [.int c, .int m] = some t ∧ ∃ rs : List Int, t = .lst (rs.map T.int) ∧ Rk m rs := by
  apply runT_wpE
  unfold B_namesL
  (simp only [st0, List.map_cons, List.map_nil, List.length_cons, List.length_nil, Nat.reduceAdd, Nat.reduceSub, List.replicate, List.append_nil, List.cons_append, List.nil_append])
  simp_arith [↓wpS_augI, ↓wpO_is0n, ↓wpO_is0x, ↓wpE_tupD, ↓wpO_dmB]
  refine ⟨by (first | exact decT (by omega) | omega | (simp only [List.length_map, List.length_append, List.length_cons, List.length_nil, lim]; omega) | (first | (apply mulOk_s <;> omega) | (apply mulOk_t <;> omega) | (apply mulOk_l; assumption) | (apply mulOk_r; assumption)) | decide), by omega, wpS_goR (fun i τ C => ∃ (a : Option T), τ = [some (.int c), some (.int m), some (.cell 0), a] ∧ ∃ rs : List Int, C = [rs.map T.int] ∧ Rk i rs) ⟨_, rfl, [], rfl, ⟨rfl, .nil, by simp⟩⟩ ?_ ?_⟩
  · rintro i τ C hi ⟨a, rfl, rs, rfl, hr⟩
    have hb : Bt 20 (0 + (i : Int)) := .sml (by omega) (by omega) (by decide)
    have hlen := hr.len
    unfold L_namesL_1
    simp_arith [↓wpS_augI, ↓wpO_is0n, ↓wpO_is0x, ↓wpE_tupD, ↓wpO_dmB, ↓wpO_mixL]
    have b2 := emod_b (x := mixL c (0 + (i : Int))) (m := 0 + (i : Int) + 1) (by omega)
    generalize mixL c (0 + (i : Int)) % (0 + (i : Int) + 1) = q at b2
    refine ⟨by (first | exact decT (by omega) | omega | (simp only [List.length_map, List.length_append, List.length_cons, List.length_nil, lim]; omega) | (first | (apply mulOk_s <;> omega) | (apply mulOk_t <;> omega) | (apply mulOk_l; assumption) | (apply mulOk_r; assumption)) | decide), ⟨by (first | exact decT (by omega) | omega | (simp only [List.length_map, List.length_append, List.length_cons, List.length_nil, lim]; omega) | (first | (apply mulOk_s <;> omega) | (apply mulOk_t <;> omega) | (apply mulOk_l; assumption) | (apply mulOk_r; assumption)) | decide), by omega, by omega⟩, _, rfl, insAt rs q (i : Int), by rw [Int.zero_add, ← insAt_map], hr.ins⟩
  · rintro τ C ⟨a, rfl, rs, rfl, hr⟩
    simp_arith [↓wpS_augI, ↓wpO_is0n, ↓wpO_is0x, ↓wpE_tupD, ↓wpO_dmB]
    exact ⟨_, dr_cellI rfl, rs, rfl, by simpa using hr⟩
noncomputable def WOk (w : Int × Int × Int) : Prop := 0 ≤ w.2.1 ∧ w.2.1 ≤ w.1 ∧ 0 ≤ w.2.2
theorem workL_ok {a b c k u : Int} (ha : Sm a) (hb : Sm b) (hc : Sm c) (hu : 0 ≤ u) : ∃ t, R_workL [.int a, .int b, .int c, .int k, .int u] = some t ∧ ∃ w, t = w3 w ∧ WOk w := by
  apply runT_wpE
  unfold B_workL
  have au : 0 ≤ a * u := Int.mul_nonneg ha.1 hu
  have bu : 0 ≤ b * u := Int.mul_nonneg hb.1 hu
  have cu : 0 ≤ c * u := Int.mul_nonneg hc.1 hu
  have h1 : 0 ≤ a % 5 := Int.emod_nonneg _ (by decide)
  have h2 : 0 ≤ a * u + b % 97 := by have := Int.emod_nonneg b (b := 97) (by decide); omega
  have m1 : 0 ≤ b % 6 := Int.emod_nonneg _ (by decide)
  have m2 : 0 ≤ b * u * (if decide (0 < b % 4) = true then 1 else 0) := by split <;> omega
  have m3 : 0 ≤ b % 3 * (b / 3 % 50) := Int.mul_nonneg (Int.emod_nonneg _ (by decide)) (Int.emod_nonneg _ (by decide))
  have p1 : 0 ≤ c % 5 := Int.emod_nonneg _ (by decide)
  have p2 : 0 ≤ c * u + a % 89 := by have := Int.emod_nonneg a (b := 89) (by decide); omega
  have hq := emod_b (x := c / 64) (m := 4) (by omega)
  obtain ⟨z, ez, p3⟩ : ∃ z : Int, atI [T.int 0, T.int 3, T.int 3, T.int (1 + c % 40)] (c / 64 % 4) = some (.int z) ∧ 0 ≤ z := by
    obtain ⟨t, ht, et⟩ := atI_mem (xs := [T.int 0, T.int 3, T.int 3, T.int (1 + c % 40)]) hq.1 (by simpa using hq.2)
    have := Int.emod_nonneg c (b := 40) (by decide)
    simp only [List.mem_cons, List.not_mem_nil, or_false] at ht
    rcases ht with rfl | rfl | rfl | rfl
    · exact ⟨0, et, by decide⟩
    · exact ⟨3, et, by decide⟩
    · exact ⟨3, et, by decide⟩
    · exact ⟨_, et, by omega⟩
  have fin : ∀ {l mq p : Int}, 0 ≤ l → 0 ≤ mq → 0 ≤ p → ∃ t, dr 3 [] (T.lst [.int (l + mq), .int l, .int p]) = some t ∧ ∃ w, t = w3 w ∧ WOk w := fun {l mq p} h1 h2 h3 => ⟨_, dr_cf (by (simp only [CFs_cons, CFs_nil, CF_int, CF_bl, CF_lst, CF_tup, CF_non, CF_str, CFs_ints, Bool.and_true, Bool.and_self])), (l + mq, l, p), rfl, h1, by show l ≤ l + mq; omega, h3⟩
  have k1 : mulOkB a u = true := mulOk_l (ha.bt.mono (by decide))
  have k2 : mulOkB b u = true := mulOk_l (hb.bt.mono (by decide))
  have k3 : mulOkB c u = true := mulOk_l (hc.bt.mono (by decide))
  have k4 : mulOkB (b * u) (if decide (0 < b % 4) = true then 1 else 0) = true := by split <;> (first | exact decT (by omega) | omega | (simp only [List.length_map, List.length_append, List.length_cons, List.length_nil, lim]; omega) | (first | (apply mulOk_s <;> omega) | (apply mulOk_t <;> omega) | (apply mulOk_l; assumption) | (apply mulOk_r; assumption)) | decide)
  have k5 : mulOkB (b % 3) (b / 3 % 50) = true := mulOk_l ((Bt.mod (k := 10) (by decide) (by decide)).mono (by decide))
  generalize hm2 : b * u * (if decide (0 < b % 4) = true then 1 else 0) = mo2 at m2
  (simp only [st0, List.map_cons, List.map_nil, List.length_cons, List.length_nil, Nat.reduceAdd, Nat.reduceSub, List.replicate, List.append_nil, List.cons_append, List.nil_append])
  simp_arith [↓wpS_augI, ↓wpO_is0n, ↓wpO_is0x, ↓wpE_tupD, ↓wpO_dmB, ↓ex_some ez, hm2]
  generalize (if decide (0 < b % 4) = true then 1 else 0 : Int) = i01 at k4
  refine ⟨by (first | exact decT (by omega) | omega | (simp only [List.length_map, List.length_append, List.length_cons, List.length_nil, lim]; omega) | (first | (apply mulOk_s <;> omega) | (apply mulOk_t <;> omega) | (apply mulOk_l; assumption) | (apply mulOk_r; assumption)) | decide), by (first | exact decT (by omega) | omega | (simp only [List.length_map, List.length_append, List.length_cons, List.length_nil, lim]; omega) | (first | (apply mulOk_s <;> omega) | (apply mulOk_t <;> omega) | (apply mulOk_l; assumption) | (apply mulOk_r; assumption)) | decide), by (first | exact decT (by omega) | omega | (simp only [List.length_map, List.length_append, List.length_cons, List.length_nil, lim]; omega) | (first | (apply mulOk_s <;> omega) | (apply mulOk_t <;> omega) | (apply mulOk_l; assumption) | (apply mulOk_r; assumption)) | decide), ?_⟩
  repeat' (first | exact fin h1 m1 p1 | exact fin h2 m1 p1 | exact fin h1 m2 p2 | exact fin h2 m2 p2 | exact fin h1 m3 p3 | exact fin h2 m3 p3 | exact fin (Int.le_refl 0) m1 p1 | exact fin (Int.le_refl 0) m2 p2 | exact fin (Int.le_refl 0) m3 p3 | exact fin h2 m3 p2 | exact fin h2 m2 p3 | (refine ⟨by assumption, ?_⟩) | (refine ⟨by (first | exact decT (by omega) | omega | (simp only [List.length_map, List.length_append, List.length_cons, List.length_nil, lim]; omega) | (first | (apply mulOk_s <;> omega) | (apply mulOk_t <;> omega) | (apply mulOk_l; assumption) | (apply mulOk_r; assumption)) | decide), ?_⟩) | split)
end Lib
/-! SpecM -/
set_option linter.all false
set_option maxRecDepth 100000
set_option maxHeartbeats 1000000
namespace Lib
open PySem L2 TL
noncomputable def LotOk (t : T) : Prop := ∃ (ws : List (Int × Int × Int)) (ps : List (Int × Int)), t = .tup [.lst (ws.map w3), .lst (ps.map pT)] ∧ ws.length ≤ 8 ∧ ps.length ≤ 63 ∧ (∀ w ∈ ws, WOk w) ∧ ∃ rs, Rk ws.length rs ∧ ∀ p ∈ ps, Al rs p
theorem snoc_w3 {ws : List (Int × Int × Int)} {a b c : Int} : ws.map w3 ++ [T.lst [.int a, .int b, .int c]] = (ws ++ [(a, b, c)]).map w3 := by
  rw [List.map_append]; rfl
theorem dr_tup {n : Nat} {C : Sto} {ts us : List T} (h : mapO (dr n C) ts = some us) : dr (n + 1) C (.tup ts) = some (.tup us) := by
  unfold dr
  split
  · rename_i hc; rw [mapO_cf hc] at h; cases h; rfl
  · rw [h]; rfl
theorem lot_free_ok {ns : List Int} {m : Nat} (hm : m ≤ 5) : ∃ t, R_lot_free [.lst (ns.map T.int), .int m, .int (10 ^ 20)] = some t ∧ LotOk t := by
  apply runT_wpE
  unfold B_lot_free
  (simp only [st0, List.map_cons, List.map_nil, List.length_cons, List.length_nil, Nat.reduceAdd, Nat.reduceSub, List.replicate, List.append_nil, List.cons_append, List.nil_append])
  simp_arith [↓wpS_augI, ↓wpO_is0n, ↓wpO_is0x, ↓wpE_tupD, ↓wpO_dmB, ↓wpO_cell]
  rw [atI_mod2i]
  obtain ⟨base, hbe, hb0, hb1⟩ : ∃ base : Int, (if cellZ ns 1 / 576 % 2 = 0 then (1 : Int) else 10 ^ 20 * 10 ^ Int.toNat 9) = base ∧ 0 < base ∧ base < 2 ^ 250 := by
    refine ⟨_, rfl, ?_, ?_⟩ <;> split <;> decide
  have pick : ∀ k : Int, 0 < k → k < 10 → ∃ d : Int, atI [T.int k, T.int base] (if decide (1 < base) = true then 1 else 0) = some (.int d) ∧ 0 < d ∧ d < 2 ^ 250 := by
    intro k h1 h2
    split
    · exact ⟨base, rfl, hb0, hb1⟩
    · exact ⟨k, rfl, h1, by omega⟩
  obtain ⟨d5, e5, h5, h5'⟩ := pick 5 (by decide) (by decide)
  obtain ⟨d6, e6, h6, h6'⟩ := pick 6 (by decide) (by decide)
  rw [hbe]
  refine ⟨by decide, by decide, by (first | exact decT (by omega) | omega | (simp only [List.length_map, List.length_append, List.length_cons, List.length_nil, lim]; omega) | (first | (apply mulOk_s <;> omega) | (apply mulOk_t <;> omega) | (apply mulOk_l; assumption) | (apply mulOk_r; assumption)) | decide), by decide, by (first | exact decT (by omega) | omega | (simp only [List.length_map, List.length_append, List.length_cons, List.length_nil, lim]; omega) | (first | (apply mulOk_s <;> omega) | (apply mulOk_t <;> omega) | (apply mulOk_l; assumption) | (apply mulOk_r; assumption)) | decide), _, rfl, by (first | exact decT (by omega) | omega | (simp only [List.length_map, List.length_append, List.length_cons, List.length_nil, lim]; omega) | (first | (apply mulOk_s <;> omega) | (apply mulOk_t <;> omega) | (apply mulOk_l; assumption) | (apply mulOk_r; assumption)) | decide), by omega, wpS_goR (fun i τ C => ∃ a b d e : Option T, τ = [some (.lst (ns.map T.int)), some (.int m), some (.int (10 ^ 20)), some (.int base), some (.cell 0), a, b, d, e, none, none, none] ∧ ∃ ws : List (Int × Int × Int), C = [ws.map w3] ∧ ws.length = i ∧ ∀ w ∈ ws, WOk w) ⟨_, _, _, _, rfl, [], rfl, rfl, by simp⟩ ?_ ?_⟩
  · rintro i τ C hi ⟨_, _, _, _, rfl, ws, rfl, hws, hwo⟩
    have h3 : 0 ≤ 3 + (0 + (i : Int)) := by omega
    unfold L_lot_free_1
    simp_arith [↓wpS_augI, ↓wpO_is0n, ↓wpO_is0x, ↓wpE_tupD, ↓wpO_dmB, ↓wpO_cell, ↓ex_some e5, ↓ex_some e6]
    generalize cellZ ns (3 + (0 + (i : Int))) = z
    have a1 := emod_b (x := z) h5
    have a2 := emod_b (x := z / d5) h6
    have a3 := emod_b (x := z / d5 / d6) h5
    generalize z % d5 = z1 at a1
    generalize z / d5 % d6 = z2 at a2
    generalize z / d5 / d6 % d5 = z3 at a3
    refine ⟨by (first | exact decT (by omega) | omega | (simp only [List.length_map, List.length_append, List.length_cons, List.length_nil, lim]; omega) | (first | (apply mulOk_s <;> omega) | (apply mulOk_t <;> omega) | (apply mulOk_l; assumption) | (apply mulOk_r; assumption)) | decide), by (first | exact decT (by omega) | omega | (simp only [List.length_map, List.length_append, List.length_cons, List.length_nil, lim]; omega) | (first | (apply mulOk_s <;> omega) | (apply mulOk_t <;> omega) | (apply mulOk_l; assumption) | (apply mulOk_r; assumption)) | decide), by (first | exact decT (by omega) | omega | (simp only [List.length_map, List.length_append, List.length_cons, List.length_nil, lim]; omega) | (first | (apply mulOk_s <;> omega) | (apply mulOk_t <;> omega) | (apply mulOk_l; assumption) | (apply mulOk_r; assumption)) | decide), decT ⟨h5, h5'⟩, by (first | exact decT (by omega) | omega | (simp only [List.length_map, List.length_append, List.length_cons, List.length_nil, lim]; omega) | (first | (apply mulOk_s <;> omega) | (apply mulOk_t <;> omega) | (apply mulOk_l; assumption) | (apply mulOk_r; assumption)) | decide), by (first | exact decT (by omega) | omega | (simp only [List.length_map, List.length_append, List.length_cons, List.length_nil, lim]; omega) | (first | (apply mulOk_s <;> omega) | (apply mulOk_t <;> omega) | (apply mulOk_l; assumption) | (apply mulOk_r; assumption)) | decide), by (first | exact decT (by omega) | omega | (simp only [List.length_map, List.length_append, List.length_cons, List.length_nil, lim]; omega) | (first | (apply mulOk_s <;> omega) | (apply mulOk_t <;> omega) | (apply mulOk_l; assumption) | (apply mulOk_r; assumption)) | decide), decT ⟨h6, h6'⟩, by (first | exact decT (by omega) | omega | (simp only [List.length_map, List.length_append, List.length_cons, List.length_nil, lim]; omega) | (first | (apply mulOk_s <;> omega) | (apply mulOk_t <;> omega) | (apply mulOk_l; assumption) | (apply mulOk_r; assumption)) | decide), by (first | exact decT (by omega) | omega | (simp only [List.length_map, List.length_append, List.length_cons, List.length_nil, lim]; omega) | (first | (apply mulOk_s <;> omega) | (apply mulOk_t <;> omega) | (apply mulOk_l; assumption) | (apply mulOk_r; assumption)) | decide), by (first | exact decT (by omega) | omega | (simp only [List.length_map, List.length_append, List.length_cons, List.length_nil, lim]; omega) | (first | (apply mulOk_s <;> omega) | (apply mulOk_t <;> omega) | (apply mulOk_l; assumption) | (apply mulOk_r; assumption)) | decide), by (first | exact decT (by omega) | omega | (simp only [List.length_map, List.length_append, List.length_cons, List.length_nil, lim]; omega) | (first | (apply mulOk_s <;> omega) | (apply mulOk_t <;> omega) | (apply mulOk_l; assumption) | (apply mulOk_r; assumption)) | decide), _, _, _, _, rfl, ws ++ [(z1 + z2, z1, z3)], by rw [snoc_w3], by simp [hws], fun w hw => ?_⟩
    rcases List.mem_append.mp hw with hw | hw
    · exact hwo w hw
    · rw [List.mem_singleton.mp hw]
      exact ⟨a1.1, by show z1 ≤ z1 + z2; omega, a3.1⟩
  · rintro τ C ⟨_, _, _, _, rfl, ws, rfl, hws, hwo⟩
    simp only [Int.toNat_natCast] at hws
    simp_arith [↓wpS_augI, ↓wpO_is0n, ↓wpO_is0x, ↓wpE_tupD, ↓wpO_dmB, ↓wpO_cell]
    refine ⟨by (first | exact decT (by omega) | omega | (simp only [List.length_map, List.length_append, List.length_cons, List.length_nil, lim]; omega) | (first | (apply mulOk_s <;> omega) | (apply mulOk_t <;> omega) | (apply mulOk_l; assumption) | (apply mulOk_r; assumption)) | decide), by omega, wpS_goR (fun i τ C => ∃ (a b d : Option T) (z : Int), τ = [some (.lst (ns.map T.int)), some (.int m), some (.int (10 ^ 20)), some (.int base), some (.cell 0), a, some (.int z), b, d, some (.cell 1), none, none] ∧ ∃ rs : List Int, C = [ws.map w3, rs.map T.int] ∧ Rk i rs) ⟨_, _, _, _, rfl, [], rfl, ⟨rfl, .nil, by simp⟩⟩ ?_ ?_⟩
    · rintro i τ C hi ⟨_, _, _, z, rfl, rs, rfl, hr⟩
      have hlen := hr.len
      have b2 := emod_b (x := z) (m := 0 + (i : Int) + 1) (by omega)
      unfold L_lot_free_2
      simp_arith [↓wpS_augI, ↓wpO_is0n, ↓wpO_is0x, ↓wpE_tupD, ↓wpO_dmB]
      generalize z % (0 + (i : Int) + 1) = q at b2
      refine ⟨by (first | exact decT (by omega) | omega | (simp only [List.length_map, List.length_append, List.length_cons, List.length_nil, lim]; omega) | (first | (apply mulOk_s <;> omega) | (apply mulOk_t <;> omega) | (apply mulOk_l; assumption) | (apply mulOk_r; assumption)) | decide), ⟨by (first | exact decT (by omega) | omega | (simp only [List.length_map, List.length_append, List.length_cons, List.length_nil, lim]; omega) | (first | (apply mulOk_s <;> omega) | (apply mulOk_t <;> omega) | (apply mulOk_l; assumption) | (apply mulOk_r; assumption)) | decide), by omega, by omega⟩, decT ⟨by omega, by omega⟩, _, _, _, _, rfl, insAt rs q (i : Int), by rw [Int.zero_add, ← insAt_map], hr.ins⟩
    · rintro τ C ⟨_, _, _, z, rfl, rs, rfl, hr⟩
      have hrk : Rk m rs := by simpa using hr
      have hlen := hrk.len
      simp_arith [↓wpS_augI, ↓wpO_is0n, ↓wpO_is0x, ↓wpE_tupD, ↓wpO_dmB]
      refine ⟨by (first | exact decT (by omega) | omega | (simp only [List.length_map, List.length_append, List.length_cons, List.length_nil, lim]; omega) | (first | (apply mulOk_s <;> omega) | (apply mulOk_t <;> omega) | (apply mulOk_l; assumption) | (apply mulOk_r; assumption)) | decide), by omega, wpS_goR (fun i τ C => ∃ (a b d e : Option T) (z : Int), τ = [some (.lst (ns.map T.int)), some (.int m), some (.int (10 ^ 20)), some (.int base), some (.cell 0), a, some (.int z), b, d, some (.cell 1), some (.cell 2), e] ∧ ∃ ps : List (Int × Int), C = [ws.map w3, rs.map T.int, ps.map pT] ∧ ps.length ≤ i * 8 ∧ ∀ p ∈ ps, Al rs p) ⟨_, _, _, _, _, rfl, [], rfl, by simp, by simp⟩ ?_ ?_⟩
      · rintro k τ C hk ⟨_, _, _, _, z, rfl, ps, rfl, hps, hal⟩
        have hk : k < m := by omega
        unfold L_lot_free_4
        simp_arith [↓wpS_augI, ↓wpO_is0n, ↓wpO_is0x, ↓wpE_tupD, ↓wpO_dmB]
        rw [cutT_map]
        refine wpS_goX (fun j τ C => ∃ (b d e : Option T) (z : Int), τ = [some (.lst (ns.map T.int)), some (.int m), some (.int (10 ^ 20)), some (.int base), some (.cell 0), some (.int (0 + (k : Int))), some (.int z), b, d, some (.cell 1), some (.cell 2), e] ∧ ∃ ps : List (Int × Int), C = [ws.map w3, rs.map T.int, ps.map pT] ∧ ps.length ≤ k * 8 + j ∧ ∀ p ∈ ps, Al rs p) ⟨_, _, _, _, rfl, ps, rfl, hps, hal⟩ ?_ ?_
        · rintro j x τ C hj ⟨_, _, _, z, rfl, ps, rfl, hps, hal⟩
          rw [cutG_to (by omega), show (0 + (k : Int)).toNat = k by omega] at hj
          obtain ⟨hj1, hj2⟩ := List.getElem?_eq_some_iff.mp hj
          have hjk : j < k := by simp at hj1; omega
          rw [List.getElem_take] at hj2
          have e1 := atI_i (ns := rs) (i := 0 + (k : Int)) (by omega) (by omega)
          unfold L_lot_free_3
          simp_arith [↓wpS_augI, ↓wpO_is0n, ↓wpO_is0x, ↓wpE_tupD, ↓wpO_dmB, ↓ex_some e1]
          refine ⟨by (first | exact decT (by omega) | omega | (simp only [List.length_map, List.length_append, List.length_cons, List.length_nil, lim]; omega) | (first | (apply mulOk_s <;> omega) | (apply mulOk_t <;> omega) | (apply mulOk_l; assumption) | (apply mulOk_r; assumption)) | decide), ?_⟩
          split
          · refine ⟨by (first | exact decT (by omega) | omega | (simp only [List.length_map, List.length_append, List.length_cons, List.length_nil, lim]; omega) | (first | (apply mulOk_s <;> omega) | (apply mulOk_t <;> omega) | (apply mulOk_l; assumption) | (apply mulOk_r; assumption)) | decide), by (first | exact decT (by omega) | omega | (simp only [List.length_map, List.length_append, List.length_cons, List.length_nil, lim]; omega) | (first | (apply mulOk_s <;> omega) | (apply mulOk_t <;> omega) | (apply mulOk_l; assumption) | (apply mulOk_r; assumption)) | decide), by decide, trivial, _, _, _, _, rfl, _, by rw [snoc_pT], by simp; omega, fun p hp => ?_⟩
            rcases List.mem_append.mp hp with hp | hp
            · exact hal p hp
            · rw [List.mem_singleton.mp hp]
              exact ⟨j, k, hjk, by rw [← hj2]; exact List.getElem?_eq_getElem (by omega), by rw [List.getElem?_eq_getElem (by omega)]; congr 2; omega⟩
          · exact ⟨by decide, trivial, _, _, _, _, rfl, ps, rfl, by omega, hal⟩
        · rintro τ C ⟨_, _, _, z, rfl, ps, rfl, hps, hal⟩
          have : (cutG rs none (some (0 + (k : Int)))).length ≤ 5 := Nat.le_trans cutG_len (by omega)
          exact ⟨_, _, _, _, _, rfl, ps, rfl, by omega, hal⟩
      · rintro τ C ⟨_, _, _, _, z, rfl, ps, rfl, hps, hal⟩
        simp only [Int.toNat_natCast] at hps
        simp_arith [↓wpS_augI, ↓wpO_is0n, ↓wpO_is0x, ↓wpE_tupD, ↓wpO_dmB]
        refine ⟨by (first | exact decT (by omega) | omega | (simp only [List.length_map, List.length_append, List.length_cons, List.length_nil, lim]; omega) | (first | (apply mulOk_s <;> omega) | (apply mulOk_t <;> omega) | (apply mulOk_l; assumption) | (apply mulOk_r; assumption)) | decide), _, dr_tup (us := [.lst (ws.map w3), .lst (ps.map pT)]) (mapO_cons (dr_cell rfl CFs_w3) (mapO_cons (dr_cellP rfl) rfl)), ws, ps, rfl, by omega, by omega, hwo, rs, by rw [hws]; exact hrk, hal⟩
theorem lot_ok {ns : List Int} (hl : ns.length ≤ 63) : ∃ t, R_lot [.lst (ns.map T.int), .int 8, .int (10 ^ 20)] = some t ∧ LotOk t := by
  obtain ⟨_, e1, xs, rfl, hxl, hxs⟩ := numbersL_ok hl
  have w1 : ∀ {C Q}, wpO (gCall 1 R_numbersL [.lst (ns.map T.int)] C) Q ↔ Q (.lst (xs.map T.int)) C := wpO_callE e1 rfl (by (simp only [CFs_cons, CFs_nil, CF_int, CF_bl, CF_lst, CF_tup, CF_non, CF_str, CFs_ints, Bool.and_true, Bool.and_self]))
  have xat : ∀ i : Int, 0 ≤ i → i < 40 → ∃ x, atI (xs.map T.int) i = some (.int x) ∧ Sm x := fun i h1 h2 => ⟨_, atI_i h1 (by omega), hxs _ (List.getElem_mem _)⟩
  apply runT_wpE
  unfold B_lot
  (simp only [st0, List.map_cons, List.map_nil, List.length_cons, List.length_nil, Nat.reduceAdd, Nat.reduceSub, List.replicate, List.append_nil, List.cons_append, List.nil_append])
  generalize hfe : cellZ ns 0 = first
  obtain ⟨z, ez, hz0, hz1⟩ : ∃ z : Int, atI [T.int 0, T.int 0, T.int 1, T.int 2] (first / 4 % 4) = some (.int z) ∧ 0 ≤ z ∧ z ≤ 2 := by
    have hq := emod_b (x := first / 4) (m := 4) (by omega)
    obtain ⟨t, ht, et⟩ := atI_mem (xs := [T.int 0, T.int 0, T.int 1, T.int 2]) hq.1 (by simpa using hq.2)
    simp only [List.mem_cons, List.not_mem_nil, or_false] at ht
    rcases ht with rfl | rfl | rfl | rfl
    · exact ⟨0, et, by decide, by decide⟩
    · exact ⟨0, et, by decide, by decide⟩
    · exact ⟨1, et, by decide, by decide⟩
    · exact ⟨2, et, by decide, by decide⟩
  obtain ⟨m, em, hm⟩ : ∃ m : Nat, atI [T.int (first / 4 % min 6 (8 + 1)), T.int (8 - z), T.int (first / 4 % min 6 (8 + 1)), T.int (min 8 (3 + first / 4 % 3))] (first % 4) = some (.int m) ∧ m ≤ 8 := by
    have hq := emod_b (x := first) (m := 4) (by omega)
    obtain ⟨t, ht, et⟩ := atI_mem (xs := [T.int (first / 4 % min 6 (8 + 1)), T.int (8 - z), T.int (first / 4 % min 6 (8 + 1)), T.int (min 8 (3 + first / 4 % 3))]) hq.1 (by simpa using hq.2)
    have q1 := emod_b (x := first / 4) (m := min 6 (8 + 1)) (by decide)
    have q2 := emod_b (x := first / 4) (m := 3) (by decide)
    have q3 : min 6 (8 + 1 : Int) = 6 := by decide
    rw [q3] at q1 et ht ⊢
    have mk : ∀ x : Int, t = .int x → 0 ≤ x → x ≤ 8 → ∃ m : Nat, atI [T.int (first / 4 % 6), T.int (8 - z), T.int (first / 4 % 6), T.int (min 8 (3 + first / 4 % 3))] (first % 4) = some (.int m) ∧ m ≤ 8 := fun x e h1 h2 => ⟨x.toNat, by rw [et, e, Int.toNat_of_nonneg h1], by omega⟩
    simp only [List.mem_cons, List.not_mem_nil, or_false] at ht
    rcases ht with h | h | h | h
    · exact mk _ h (by omega) (by omega)
    · exact mk _ h (by omega) (by omega)
    · exact mk _ h (by omega) (by omega)
    · exact mk _ h (by omega) (by omega)
  obtain ⟨e3, he3, h3a, h3b⟩ : ∃ z : Int, atI [T.int 1, T.int 2, T.int 8] (cellZ ns 1 / 16 % 3) = some (.int z) ∧ 1 ≤ z ∧ z ≤ 8 := by
    have hq := emod_b (x := cellZ ns 1 / 16) (m := 3) (by omega)
    obtain ⟨t, ht, et⟩ := atI_mem (xs := [T.int 1, T.int 2, T.int 8]) hq.1 (by simpa using hq.2)
    simp only [List.mem_cons, List.not_mem_nil, or_false] at ht
    rcases ht with rfl | rfl | rfl
    · exact ⟨1, et, by decide, by decide⟩
    · exact ⟨2, et, by decide, by decide⟩
    · exact ⟨8, et, by decide, by decide⟩
  simp_arith [↓wpS_augI, ↓wpO_is0n, ↓wpO_is0x, ↓wpE_tupD, ↓wpO_dmB, ↓w1, ↓wpO_cell, hfe, ↓ex_some ez, ↓ex_some em]
  generalize cellZ ns 1 = c at he3
  refine ⟨by decide, by decide, by (first | exact decT (by omega) | omega | (simp only [List.length_map, List.length_append, List.length_cons, List.length_nil, lim]; omega) | (first | (apply mulOk_s <;> omega) | (apply mulOk_t <;> omega) | (apply mulOk_l; assumption) | (apply mulOk_r; assumption)) | decide), by decide, by decide, by decide, by decide, by (first | exact decT (by omega) | omega | (simp only [List.length_map, List.length_append, List.length_cons, List.length_nil, lim]; omega) | (first | (apply mulOk_s <;> omega) | (apply mulOk_t <;> omega) | (apply mulOk_l; assumption) | (apply mulOk_r; assumption)) | decide), by decide, by decide, by decide, ?_⟩
  split
  · refine ⟨by (first | exact decT (by omega) | omega | (simp only [List.length_map, List.length_append, List.length_cons, List.length_nil, lim]; omega) | (first | (apply mulOk_s <;> omega) | (apply mulOk_t <;> omega) | (apply mulOk_l; assumption) | (apply mulOk_r; assumption)) | decide), .int 5, rfl, ?_⟩
    simp_arith [↓wpS_augI, ↓wpO_is0n, ↓wpO_is0x, ↓wpE_tupD, ↓wpO_dmB]
    obtain ⟨k, hk, hk5⟩ : ∃ k : Nat, min (m : Int) 5 = k ∧ k ≤ 5 := ⟨(min (m : Int) 5).toNat, by omega, by omega⟩
    obtain ⟨t, et, ht⟩ := lot_free_ok (ns := ns) (m := k) hk5
    rw [hk, wpO_callE (n := 3) et rfl (by (simp only [CFs_cons, CFs_nil, CF_int, CF_bl, CF_lst, CF_tup, CF_non, CF_str, CFs_ints, Bool.and_true, Bool.and_self]))]
    obtain ⟨ws, ps, rfl, hh⟩ := ht
    exact ⟨_, dr_cf (by rw [CF_tup, CFs_cons, CFs_cons, CFs_nil, CF_lst, CF_lst, CFs_w3, CFs_pT]; rfl), ws, ps, rfl, hh⟩
  · have hex : ∀ i : Nat, ∃ w : Int × Int × Int, i < m → (∃ x y z : Int, atI (xs.map T.int) (0 + (i : Int)) = some (.int x) ∧ atI (xs.map T.int) (8 + (0 + (i : Int))) = some (.int y) ∧ atI (xs.map T.int) (16 + (0 + (i : Int))) = some (.int z) ∧ R_workL [.int x, .int y, .int z, .int (c % 4), .int (10 ^ 20)] = some (w3 w)) ∧ WOk w := by
      intro i
      by_cases hi : i < m
      · obtain ⟨x, ex, sx⟩ := xat (0 + (i : Int)) (by omega) (by omega)
        obtain ⟨y, ey, sy⟩ := xat (8 + (0 + (i : Int))) (by omega) (by omega)
        obtain ⟨z, ez, sz⟩ := xat (16 + (0 + (i : Int))) (by omega) (by omega)
        obtain ⟨_, ew, w, rfl, hw⟩ := workL_ok (k := c % 4) (u := 10 ^ 20) sx sy sz (by decide)
        exact ⟨w, fun _ => ⟨⟨x, y, z, ex, ey, ez, ew⟩, hw⟩⟩
      · exact ⟨(0, 0, 0), fun h => absurd h hi⟩
    obtain ⟨f, hf⟩ := Classical.axiomOfChoice hex
    obtain ⟨x39, ex39, _⟩ := xat 39 (by decide) (by decide)
    obtain ⟨_, en, rs, rfl, hrk⟩ := namesL_ok (c := x39) hm
    have hlen := hrk.len
    refine ⟨by omega, ?_⟩
    rw [rngT_map]
    refine wpC_mapA (fun i => w3 (f i)) (fun i hi => ?_) ?_
    · have hi : i < m := by simpa using hi
      obtain ⟨⟨x, y, z, ex, ey, ez, ew⟩, hw⟩ := hf i hi
      simp only [scT, List.replicate, List.map_cons, List.map_nil, List.nil_append, List.cons_append, List.append_nil, List.getElem?_cons_zero, List.getElem?_cons_succ, Option.getD_some]
      simp_arith [↓wpS_augI, ↓wpO_is0n, ↓wpO_is0x, ↓wpE_tupD, ↓wpO_dmB, ↓ex_some ex, ↓ex_some ey, ↓ex_some ez]
      rw [wpO_callE (n := 5) ew rfl (by (simp only [CFs_cons, CFs_nil, CF_int, CF_bl, CF_lst, CF_tup, CF_non, CF_str, CFs_ints, Bool.and_true, Bool.and_self]))]
      exact ⟨by decide, rfl, rfl⟩
    obtain ⟨ws, hws, hwl, hwo⟩ : ∃ ws : List (Int × Int × Int), (List.map (fun (i : Nat) => w3 (f i)) (List.range (m : Int).toNat)) = ws.map w3 ∧ ws.length = m ∧ ∀ w ∈ ws, WOk w := by
      refine ⟨(List.range m).map f, by simp, by simp, fun w hw => ?_⟩
      obtain ⟨i, hi, rfl⟩ := List.mem_map.mp hw
      exact (hf i (List.mem_range.mp hi)).2
    rw [hws, ex_some ex39, wpO_callE (n := 2) en rfl (by (simp only [CFs_cons, CFs_nil, CF_int, CF_bl, CF_lst, CF_tup, CF_non, CF_str, CFs_ints, Bool.and_true, Bool.and_self]))]
    have q4 := emod_b (x := c / 4) (m := 4) (by decide)
    generalize c / 4 % 4 = c4 at q4
    refine ⟨by (first | exact decT (by omega) | omega | (simp only [List.length_map, List.length_append, List.length_cons, List.length_nil, lim]; omega) | (first | (apply mulOk_s <;> omega) | (apply mulOk_t <;> omega) | (apply mulOk_l; assumption) | (apply mulOk_r; assumption)) | decide), by decide, by decide, by omega, wpS_goR (fun i τ C => ∃ (a b d e : Option T), τ = [some (.lst (ns.map T.int)), some (.int 8), some (.int (10 ^ 20)), some (.lst (xs.map T.int)), some (.int first), some (.int (first / 4 % min 6 (8 + 1))), some (.int m), some (.int c), some (.lst (ws.map w3)), some (.lst (rs.map T.int)), some (.cell 0), a, b, d, e] ∧ ∃ ps : List (Int × Int), C = [ps.map pT] ∧ ps.length ≤ i ∧ ∀ p ∈ ps, Al rs p) ⟨_, _, _, _, rfl, [], rfl, by simp, by simp⟩ ?_ ?_⟩
    · rintro i τ C hi ⟨_, _, _, _, rfl, ps, rfl, hps, hal⟩
      obtain ⟨x, ex, sx⟩ := xat (24 + (i : Int)) (by omega) (by omega)
      unfold L_lot_1
      simp_arith [↓wpS_augI, ↓wpO_is0n, ↓wpO_is0x, ↓wpE_tupD, ↓wpO_dmB, ↓ex_some ex, ↓ex_some he3, atI_mod2i, List.length_map]
      by_cases h1 : (1 : Int) < m
      · rw [if_pos (decT h1)]
        have b1 := emod_b (x := x) (m := (m : Int) - 1) (by omega)
        generalize x % ((m : Int) - 1) = y at b1
        have b2 := emod_b (x := x / 16) (m := min (1 + y) e3) (by omega)
        generalize x / 16 % min (1 + y) e3 = bk at b2
        have b3 := emod_b (x := x / 256) (m := (ps.length : Int) + 1) (by omega)
        generalize x / 256 % ((ps.length : Int) + 1) = at9 at b3
        obtain ⟨ia, hia, h0, hlt⟩ : ∃ ia : Int, (if c / 48 % 2 = 0 then 1 + y - 1 - bk else bk) = ia ∧ 0 ≤ ia ∧ ia < 1 + y := ⟨_, rfl, by split <;> omega, by split <;> omega⟩
        rw [hia, ex_some (atI_i h0 (by omega)), ex_some (atI_i (by omega) (by omega))]
        refine ⟨by (first | exact decT (by omega) | omega | (simp only [List.length_map, List.length_append, List.length_cons, List.length_nil, lim]; omega) | (first | (apply mulOk_s <;> omega) | (apply mulOk_t <;> omega) | (apply mulOk_l; assumption) | (apply mulOk_r; assumption)) | decide), by decide, by (first | exact decT (by omega) | omega | (simp only [List.length_map, List.length_append, List.length_cons, List.length_nil, lim]; omega) | (first | (apply mulOk_s <;> omega) | (apply mulOk_t <;> omega) | (apply mulOk_l; assumption) | (apply mulOk_r; assumption)) | decide), by decide, by decide, by (first | exact decT (by omega) | omega | (simp only [List.length_map, List.length_append, List.length_cons, List.length_nil, lim]; omega) | (first | (apply mulOk_s <;> omega) | (apply mulOk_t <;> omega) | (apply mulOk_l; assumption) | (apply mulOk_r; assumption)) | decide), by (first | exact decT (by omega) | omega | (simp only [List.length_map, List.length_append, List.length_cons, List.length_nil, lim]; omega) | (first | (apply mulOk_s <;> omega) | (apply mulOk_t <;> omega) | (apply mulOk_l; assumption) | (apply mulOk_r; assumption)) | decide), by decide, by decide, by decide, by (first | exact decT (by omega) | omega | (simp only [List.length_map, List.length_append, List.length_cons, List.length_nil, lim]; omega) | (first | (apply mulOk_s <;> omega) | (apply mulOk_t <;> omega) | (apply mulOk_l; assumption) | (apply mulOk_r; assumption)) | decide), by (first | exact decT (by omega) | omega | (simp only [List.length_map, List.length_append, List.length_cons, List.length_nil, lim]; omega) | (first | (apply mulOk_s <;> omega) | (apply mulOk_t <;> omega) | (apply mulOk_l; assumption) | (apply mulOk_r; assumption)) | decide), ⟨by (first | exact decT (by omega) | omega | (simp only [List.length_map, List.length_append, List.length_cons, List.length_nil, lim]; omega) | (first | (apply mulOk_s <;> omega) | (apply mulOk_t <;> omega) | (apply mulOk_l; assumption) | (apply mulOk_r; assumption)) | decide), by omega, by omega⟩, _, _, _, _, rfl, insAt ps at9 (_, _), by rw [← insAt_map]; rfl, by rw [insAt_lenT]; omega, fun p hp => ?_⟩
        rcases List.mem_cons.mp (insAt_permT.mem_iff.mp hp) with hp | hp
        · rw [hp]
          exact ⟨ia.toNat, (1 + y).toNat, by omega, List.getElem?_eq_getElem (by omega), List.getElem?_eq_getElem (by omega)⟩
        · exact hal p hp
      · rw [if_neg (by simpa using h1)]
        exact ⟨_, _, _, _, rfl, ps, rfl, by omega, hal⟩
    · rintro τ C ⟨_, _, _, _, rfl, ps, rfl, hps, hal⟩
      simp_arith [↓wpS_augI, ↓wpO_is0n, ↓wpO_is0x, ↓wpE_tupD, ↓wpO_dmB, cutT_map]
      have hcl : (cutG ps (some (c / 96 % 3)) none).length ≤ 63 := Nat.le_trans cutG_len (by omega)
      refine ⟨by decide, by decide, by (first | exact decT (by omega) | omega | (simp only [List.length_map, List.length_append, List.length_cons, List.length_nil, lim]; omega) | (first | (apply mulOk_s <;> omega) | (apply mulOk_t <;> omega) | (apply mulOk_l; assumption) | (apply mulOk_r; assumption)) | decide), _, dr_cf (by rw [CF_tup, CFs_cons, CFs_cons, CFs_nil, CF_lst, CF_lst, CFs_w3, CFs_pT]; rfl), ws, _, rfl, by omega, hcl, hwo, rs, by rw [hwl]; exact hrk, fun p hp => hal p (cutG_mem hp)⟩
end Lib
/-! SpecN -/
set_option linter.all false
set_option maxRecDepth 100000
set_option maxHeartbeats 1000000
namespace Lib
open PySem L2 TL
theorem len_argI {hs : List Int} {τ : TSt} {i j : Nat} {t : T} (hi : τ[i]? = some (some (.lst (hs.map T.int)))) (hj : τ[j]? = some (some t)) : (fCons (fLen (fCons (fVar i) fNil)) (fCons (fVar j) fNil)) τ [] = some ([.int hs.length, t], []) := by
  have h : wpA (fCons (fLen (fCons (fVar i) fNil)) (fCons (fVar j) fNil)) τ [] (fun ts C => ts = [.int hs.length, t] ∧ C = []) := by
    simp_arith [hi, hj, List.length_map]
  obtain ⟨ts, C, e, rfl, rfl⟩ := h
  exact e
theorem cf_hp {hs : List Int} {ps : List (Int × Int)} : CFs [.lst (hs.map T.int), .lst (ps.map pT)] = true := by rw [CFs_cons, CFs_cons, CFs_nil, CF_lst, CF_lst, CFs_ints, CFs_pT]; rfl
theorem cf_wp {ws : List (Int × Int × Int)} {ps : List (Int × Int)} : CFs [.lst (ws.map w3), .lst (ps.map pT)] = true := by rw [CFs_cons, CFs_cons, CFs_nil, CF_lst, CF_lst, CFs_w3, CFs_pT]; rfl
theorem earlyX_no {hs : List Int} {ps : List (Int × Int)} (h : RX_order_ofX [.int hs.length, .lst (ps.map pT)] = some "NoOrder") : RX_earliestX [.lst (hs.map T.int), .lst (ps.map pT)] = some "NoOrder" := by
  apply runX_wp
  unfold B_earliestX
  have ea := len_argI (hs := hs) (τ := st0 6 [.lst (hs.map T.int), .lst (ps.map pT)]) (i := 0) (j := 1) rfl rfl
  rw [wpS_seq, wpS_fXs (c := "NoOrder") (C' := []) (by rw [xCall_of (n := 2) ea rfl cf_mp, h]; rfl)]
  rfl
theorem lengthX_no {hs : List Int} {ps : List (Int × Int)} (h : RX_order_ofX [.int hs.length, .lst (ps.map pT)] = some "NoOrder") : RX_lengthX [.lst (hs.map T.int), .lst (ps.map pT)] = some "NoOrder" := by
  apply runX_wp
  unfold B_lengthX
  rw [wpS_fXs (c := "NoOrder") (C' := []) (by rw [xCall_of (n := 2) (ts := [.lst (hs.map T.int), .lst (ps.map pT)]) rfl rfl cf_hp, earlyX_no h]; rfl)]
theorem least_hours_eq {ws : List (Int × Int × Int)} (hl : ws.length ≤ 1000) : R_least_hours [.lst (ws.map w3)] = some (.lst ((ws.map (·.2.1)).map T.int)) := by
  apply runT_wp
  unfold B_least_hours
  (simp only [st0, List.map_cons, List.map_nil, List.length_cons, List.length_nil, Nat.reduceAdd, Nat.reduceSub, List.replicate, List.append_nil, List.cons_append, List.nil_append])
  simp_arith [↓wpS_augI, ↓wpO_is0n, ↓wpO_is0x, ↓wpE_tupD, ↓wpO_dmB]
  refine ⟨lim_lt (by simpa using hl), wpC_mapA (fun w => T.int w.2.1) (fun w _ => ?_) ?_⟩
  · simp only [scT, List.replicate, List.map_cons, List.map_nil, List.nil_append, List.cons_append, List.append_nil, List.getElem?_cons_zero, List.getElem?_cons_succ, Option.getD_some]
    simp_arith [↓wpS_augI, ↓wpO_is0n, ↓wpO_is0x, ↓wpE_tupD, ↓wpO_dmB, w3, ↓ex_some (atI_1 (α := T))]
  · rw [ints_of, dr_i]
theorem wpO_least_hours {ws : List (Int × Int × Int)} {C : Sto} {Q : T → Sto → Prop} (hl : ws.length ≤ 1000) : wpO (gCall 1 R_least_hours [.lst (ws.map w3)] C) Q ↔ Q (.lst ((ws.map (·.2.1)).map T.int)) C := wpO_callE (least_hours_eq hl) rfl (by rw [CFs_cons, CFs_nil, CF_lst, CFs_w3]; rfl)
theorem wpA_ev {fa : FN} {τ : TSt} {C C' : Sto} {ts : List T} (h : wpA fa τ C fun us D => us = ts ∧ D = C') : fa τ C = some (ts, C') := by
  obtain ⟨_, _, e, rfl, rfl⟩ := h
  exact e
noncomputable def NoOrd (m : Nat) (ps : List (Int × Int)) : Prop := RX_order_ofX [.int m, .lst (ps.map pT)] = some "NoOrder"
theorem leastX_no {ws : List (Int × Int × Int)} {ps : List (Int × Int)} (hl : ws.length ≤ 1000) (h : NoOrd ws.length ps) : RX_least_endX [.lst (ws.map w3), .lst (ps.map pT)] = some "NoOrder" := by
  apply runX_wp
  unfold B_least_endX
  have ea : (fCons (fCall 1 R_least_hours (fCons (fVar 0) fNil)) (fCons (fVar 1) fNil)) (st0 2 [.lst (ws.map w3), .lst (ps.map pT)]) [] = some ([.lst ((ws.map (·.2.1)).map T.int), .lst (ps.map pT)], []) := by
    apply wpA_ev
    (simp only [st0, List.map_cons, List.map_nil, List.length_cons, List.length_nil, Nat.reduceAdd, Nat.reduceSub, List.replicate, List.append_nil, List.cons_append, List.nil_append])
    simp_arith [↓wpS_augI, ↓wpO_is0n, ↓wpO_is0x, ↓wpE_tupD, ↓wpO_dmB, ↓wpO_least_hours]
  rw [wpS_fXs (c := "NoOrder") (C' := []) (by rw [xCall_of (n := 2) ea rfl cf_hp, lengthX_no (by rw [List.length_map]; exact h)]; rfl)]
theorem xleast {ws : List (Int × Int × Int)} {ps : List (Int × Int)} {τ : TSt} (hl : ws.length ≤ 1000) (h : NoOrd ws.length ps) (h0 : τ[0]? = some (some (.lst (ws.map w3)))) (h1 : τ[1]? = some (some (.lst (ps.map pT)))) : xCall 2 RX_least_endX (fCons (fVar 0) (fCons (fVar 1) fNil)) τ [] = some ("NoOrder", []) := by
  have ea : (fCons (fVar 0) (fCons (fVar 1) fNil)) τ [] = some ([.lst (ws.map w3), .lst (ps.map pT)], []) := by
    apply wpA_ev
    simp_arith [↓wpS_augI, ↓wpO_is0n, ↓wpO_is0x, ↓wpE_tupD, ↓wpO_dmB, h0, h1]
  rw [xCall_of (n := 2) ea rfl cf_wp, leastX_no hl h]; rfl
section
variable {ws : List (Int × Int × Int)} {ps : List (Int × Int)} {e : Int} (hl : ws.length ≤ 1000) (h : NoOrd ws.length ps)
include hl h
theorem cornersX_no : RX_cornersX [.lst (ws.map w3), .lst (ps.map pT)] = some "NoOrder" := by
  apply runX_wp
  unfold B_cornersX
  rw [wpS_seq, wpS_fXs (xleast hl h rfl rfl)]; rfl
end
theorem Rch.pre {ps : List (Int × Int)} {x y z : Int} (h : Rch ps y z) (hx : (x, y) ∈ ps) : Rch ps x z := by
  induction h with
  | refl => exact Rch.refl.step hx
  | step _ hz ih => exact ih.step hz
theorem noOrd_of {ps : List (Int × Int)} {m : Nat} {q : Int × Int} {k : Int} (hm : m ≤ 8) (hl : ps.length ≤ 63) (hk : 0 ≤ k) (hb : BadP ps m q) : ∃ t, dr 3 [] (T.lst ((cutG ps none (some k)).map pT ++ [pT q] ++ (cutG ps (some k) none).map pT)) = some t ∧ ∃ ps2 : List (Int × Int), t = .lst (ps2.map pT) ∧ ps2.length ≤ 64 ∧ NoOrd m ps2 := by
  rw [cutG_to hk, cutG_from hk]
  rw [show (ps.take k.toNat).map pT ++ [pT q] ++ (ps.drop k.toNat).map pT = (ps.take k.toNat ++ [q] ++ ps.drop k.toNat).map pT by simp]
  have hln : (ps.take k.toNat ++ [q] ++ ps.drop k.toNat).length ≤ 64 := by simp; omega
  refine ⟨_, dr_cf (by rw [CF_lst, CFs_pT]), _, rfl, hln, ?_⟩
  refine orderX_no hm (by omega) fun hw o => bad_no hb (fun p hp => ?_) (by simp) hw o
  rw [← List.take_append_drop k.toNat ps] at hp
  simp only [List.mem_append, List.mem_singleton] at hp ⊢
  rcases hp with hp | hp
  · exact .inl (.inl hp)
  · exact .inr hp
theorem bentL_ok {ps : List (Int × Int)} {m : Nat} {ns : List Int} (hm : m ≤ 8) (hl : ps.length ≤ 63) :
    ∃ t, R_bentL [.lst (ps.map pT), .int m, .lst (ns.map T.int)] = some t ∧ ∃ ps2 : List (Int × Int), t = .lst (ps2.map pT) ∧ ps2.length ≤ 64 ∧ NoOrd m ps2 := by
  have h98 : Bt 20 98 := .of_lt (by decide) (by decide)
  apply runT_wpE
  unfold B_bentL
  (simp only [st0, List.map_cons, List.map_nil, List.length_cons, List.length_nil, Nat.reduceAdd, Nat.reduceSub, List.replicate, List.append_nil, List.cons_append, List.nil_append])
  simp_arith [↓wpS_augI, ↓wpO_is0n, ↓wpO_is0x, ↓wpE_tupD, ↓wpO_dmB, ↓wpO_cell, ↓wpO_mixL, List.length_map]
  have hn : Sm (mixL (cellZ ns 2) 98) := mixL_b
  generalize mixL (cellZ ns 2) 98 = n at hn
  have hf : 0 ≤ cellZ ns 0 % 10 ^ Int.toNat 60 := Int.emod_nonneg _ (by decide)
  generalize cellZ ns 0 % 10 ^ Int.toNat 60 = far at hf
  have h1 := emod_b (x := n / 16) (m := max 1 (m : Int)) (by omega)
  generalize n / 16 % max 1 (m : Int) = one at h1
  refine ⟨by decide, by decide, by decide, by (first | exact decT (by omega) | omega | (simp only [List.length_map, List.length_append, List.length_cons, List.length_nil, lim]; omega) | (first | (apply mulOk_s <;> omega) | (apply mulOk_t <;> omega) | (apply mulOk_l; assumption) | (apply mulOk_r; assumption)) | decide), by (first | exact decT (by omega) | omega | (simp only [List.length_map, List.length_append, List.length_cons, List.length_nil, lim]; omega) | (first | (apply mulOk_s <;> omega) | (apply mulOk_t <;> omega) | (apply mulOk_l; assumption) | (apply mulOk_r; assumption)) | decide), by omega, wpS_goR (fun i τ C => C = [] ∧ ∃ a : Option T, ∃ ah : List Int, τ = [some (.lst (ps.map pT)), some (.int m), some (.lst (ns.map T.int)), some (.int n), some (.int far), some (.int one), some (.lst (ah.map T.int)), a, none, none, none] ∧ ah.length ≤ 1 + i * 63 ∧ ∀ x ∈ ah, Rch ps x one) ⟨rfl, _, [one], rfl, by simp, by simp [Rch.refl]⟩ ?_ ?_⟩
  · rintro i τ C hi ⟨rfl, _, ah, rfl, hal, har⟩
    unfold L_bentL_1
    simp_arith [↓wpS_augI, ↓wpO_is0n, ↓wpO_is0x, ↓wpE_tupD, ↓wpO_dmB]
    refine ⟨by (first | exact decT (by omega) | omega | (simp only [List.length_map, List.length_append, List.length_cons, List.length_nil, lim]; omega) | (first | (apply mulOk_s <;> omega) | (apply mulOk_t <;> omega) | (apply mulOk_l; assumption) | (apply mulOk_r; assumption)) | decide), wpC_map (fun p => decide (p.2 ∈ ah) && !decide (p.1 ∈ ah)) (fun p => T.int p.1) (fun p _ => ?_) ?_⟩
    · simp only [scT, List.replicate, List.map_cons, List.map_nil, List.nil_append, List.cons_append, List.append_nil, List.getElem?_cons_zero, List.getElem?_cons_succ, Option.getD_some]
      simp_arith [↓wpS_augI, ↓wpO_is0n, ↓wpO_is0x, ↓wpE_tupD, ↓wpO_dmB, pT]
      by_cases g : p.2 ∈ ah
      · rw [if_pos (by simpa using g)]
        simp [g]
      · rw [if_neg (by simpa using g)]
        simp [g]
    · have hfl : (ps.filter fun p => decide (p.2 ∈ ah) && !decide (p.1 ∈ ah)).length ≤ 63 := Nat.le_trans (List.length_filter_le _ _) hl
      rw [show ((ps.filter fun p => decide (p.2 ∈ ah) && !decide (p.1 ∈ ah)).map fun p => T.int p.1) = ((ps.filter fun p => decide (p.2 ∈ ah) && !decide (p.1 ∈ ah)).map (·.1)).map T.int by simp]
      simp_arith [↓wpS_augI, ↓wpO_is0n, ↓wpO_is0x, ↓wpE_tupD, ↓wpO_dmB, List.length_map]
      refine ⟨by (first | exact decT (by omega) | omega | (simp only [List.length_map, List.length_append, List.length_cons, List.length_nil, lim]; omega) | (first | (apply mulOk_s <;> omega) | (apply mulOk_t <;> omega) | (apply mulOk_l; assumption) | (apply mulOk_r; assumption)) | decide), _, ah ++ ((ps.filter fun p => decide (p.2 ∈ ah) && !decide (p.1 ∈ ah)).map (·.1)), ⟨by rw [List.map_append], by simp; omega, fun x hx => ?_⟩⟩
      rcases List.mem_append.mp hx with hx | hx
      · exact har x hx
      · obtain ⟨p, hp, rfl⟩ := List.mem_map.mp hx
        simp only [List.mem_filter, Bool.and_eq_true, decide_eq_true_eq] at hp
        exact (har _ hp.2.1).pre hp.1
  · rintro τ C ⟨rfl, _, ah, rfl, hal, har⟩
    simp_arith [↓wpS_augI, ↓wpO_is0n, ↓wpO_is0x, ↓wpE_tupD, ↓wpO_dmB, List.length_map, cutT_map, List.length_append]
    have k0 : 0 ≤ n / 4096 % ((ps.length : Int) + 1) := Int.emod_nonneg _ (by omega)
    generalize n / 4096 % ((ps.length : Int) + 1) = k at k0
    have q2 := emod_b (x := n / 2) (m := 4) (by decide)
    have q8 := emod_b (x := n / 8) (m := 4) (by decide)
    obtain ⟨bad, eb, hbad⟩ : ∃ b : Int, atI [T.int (-1), T.int (m : Int), T.int ((m : Int) + far), T.int (-1 - far)] (n / 2 % 4) = some (.int b) ∧ ¬ (0 ≤ b ∧ b < m) := by
      obtain ⟨t, ht, et⟩ := atI_mem (xs := [T.int (-1), T.int (m : Int), T.int ((m : Int) + far), T.int (-1 - far)]) q2.1 (by simpa using q2.2)
      simp only [List.mem_cons, List.not_mem_nil, or_false] at ht
      rcases ht with rfl | rfl | rfl | rfl
      · exact ⟨_, et, by omega⟩
      · exact ⟨_, et, by omega⟩
      · exact ⟨_, et, by omega⟩
      · exact ⟨_, et, by omega⟩
    obtain ⟨q, eq, hq⟩ : ∃ q : Int × Int, atI [T.lst [T.int one, T.int bad], T.lst [T.int bad, T.int one], T.lst [T.int bad, T.int bad], T.lst [T.int one, T.int one]] (n / 8 % 4) = some (pT q) ∧ BadP ps m q := by
      obtain ⟨t, ht, et⟩ := atI_mem (xs := [T.lst [T.int one, T.int bad], T.lst [T.int bad, T.int one], T.lst [T.int bad, T.int bad], T.lst [T.int one, T.int one]]) q8.1 (by simpa using q8.2)
      simp only [List.mem_cons, List.not_mem_nil, or_false] at ht
      rcases ht with rfl | rfl | rfl | rfl
      · exact ⟨(one, bad), et, .inr (.inl hbad)⟩
      · exact ⟨(bad, one), et, .inl hbad⟩
      · exact ⟨(bad, bad), et, .inl hbad⟩
      · exact ⟨(one, one), et, .inr (.inr .refl)⟩
    rw [ex_some eb, ex_some eq]
    have c1 : (cutG ps none (some k)).length ≤ 63 := Nat.le_trans cutG_len hl
    have c2 : (cutG ps (some k) none).length ≤ 63 := Nat.le_trans cutG_len hl
    refine ⟨by (first | exact decT (by omega) | omega | (simp only [List.length_map, List.length_append, List.length_cons, List.length_nil, lim]; omega) | (first | (apply mulOk_s <;> omega) | (apply mulOk_t <;> omega) | (apply mulOk_l; assumption) | (apply mulOk_r; assumption)) | decide), by decide, by decide, by (first | exact decT (by omega) | omega | (simp only [List.length_map, List.length_append, List.length_cons, List.length_nil, lim]; omega) | (first | (apply mulOk_s <;> omega) | (apply mulOk_t <;> omega) | (apply mulOk_l; assumption) | (apply mulOk_r; assumption)) | decide), by (first | exact decT (by omega) | omega | (simp only [List.length_map, List.length_append, List.length_cons, List.length_nil, lim]; omega) | (first | (apply mulOk_s <;> omega) | (apply mulOk_t <;> omega) | (apply mulOk_l; assumption) | (apply mulOk_r; assumption)) | decide), by (first | exact decT (by omega) | omega | (simp only [List.length_map, List.length_append, List.length_cons, List.length_nil, lim]; omega) | (first | (apply mulOk_s <;> omega) | (apply mulOk_t <;> omega) | (apply mulOk_l; assumption) | (apply mulOk_r; assumption)) | decide), by (first | exact decT (by omega) | omega | (simp only [List.length_map, List.length_append, List.length_cons, List.length_nil, lim]; omega) | (first | (apply mulOk_s <;> omega) | (apply mulOk_t <;> omega) | (apply mulOk_l; assumption) | (apply mulOk_r; assumption)) | decide), by (first | exact decT (by omega) | omega | (simp only [List.length_map, List.length_append, List.length_cons, List.length_nil, lim]; omega) | (first | (apply mulOk_s <;> omega) | (apply mulOk_t <;> omega) | (apply mulOk_l; assumption) | (apply mulOk_r; assumption)) | decide), by decide, by decide, by decide, ?_⟩
    split
    · split
      · rename_i h2
        have h2 : (1 : Int) < ah.length := by simpa using h2
        have q5 := emod_b (x := n / 512) (m := (ah.length : Int) - 1) (by omega)
        generalize n / 512 % ((ah.length : Int) - 1) = j at q5
        rw [ex_some (atI_i (by omega) (by omega))]
        exact ⟨by decide, by (first | exact decT (by omega) | omega | (simp only [List.length_map, List.length_append, List.length_cons, List.length_nil, lim]; omega) | (first | (apply mulOk_s <;> omega) | (apply mulOk_t <;> omega) | (apply mulOk_l; assumption) | (apply mulOk_r; assumption)) | decide), by (first | exact decT (by omega) | omega | (simp only [List.length_map, List.length_append, List.length_cons, List.length_nil, lim]; omega) | (first | (apply mulOk_s <;> omega) | (apply mulOk_t <;> omega) | (apply mulOk_l; assumption) | (apply mulOk_r; assumption)) | decide), by decide, by (first | exact decT (by omega) | omega | (simp only [List.length_map, List.length_append, List.length_cons, List.length_nil, lim]; omega) | (first | (apply mulOk_s <;> omega) | (apply mulOk_t <;> omega) | (apply mulOk_l; assumption) | (apply mulOk_r; assumption)) | decide), by (first | exact decT (by omega) | omega | (simp only [List.length_map, List.length_append, List.length_cons, List.length_nil, lim]; omega) | (first | (apply mulOk_s <;> omega) | (apply mulOk_t <;> omega) | (apply mulOk_l; assumption) | (apply mulOk_r; assumption)) | decide), by (first | exact decT (by omega) | omega | (simp only [List.length_map, List.length_append, List.length_cons, List.length_nil, lim]; omega) | (first | (apply mulOk_s <;> omega) | (apply mulOk_t <;> omega) | (apply mulOk_l; assumption) | (apply mulOk_r; assumption)) | decide), by (first | exact decT (by omega) | omega | (simp only [List.length_map, List.length_append, List.length_cons, List.length_nil, lim]; omega) | (first | (apply mulOk_s <;> omega) | (apply mulOk_t <;> omega) | (apply mulOk_l; assumption) | (apply mulOk_r; assumption)) | decide), noOrd_of (q := (one, _)) hm hl k0 (.inr (.inr (har _ (List.getElem_mem _))))⟩
      · exact ⟨by decide, by (first | exact decT (by omega) | omega | (simp only [List.length_map, List.length_append, List.length_cons, List.length_nil, lim]; omega) | (first | (apply mulOk_s <;> omega) | (apply mulOk_t <;> omega) | (apply mulOk_l; assumption) | (apply mulOk_r; assumption)) | decide), by (first | exact decT (by omega) | omega | (simp only [List.length_map, List.length_append, List.length_cons, List.length_nil, lim]; omega) | (first | (apply mulOk_s <;> omega) | (apply mulOk_t <;> omega) | (apply mulOk_l; assumption) | (apply mulOk_r; assumption)) | decide), by (first | exact decT (by omega) | omega | (simp only [List.length_map, List.length_append, List.length_cons, List.length_nil, lim]; omega) | (first | (apply mulOk_s <;> omega) | (apply mulOk_t <;> omega) | (apply mulOk_l; assumption) | (apply mulOk_r; assumption)) | decide), by (first | exact decT (by omega) | omega | (simp only [List.length_map, List.length_append, List.length_cons, List.length_nil, lim]; omega) | (first | (apply mulOk_s <;> omega) | (apply mulOk_t <;> omega) | (apply mulOk_l; assumption) | (apply mulOk_r; assumption)) | decide), noOrd_of hm hl k0 hq⟩
    · exact ⟨by decide, by (first | exact decT (by omega) | omega | (simp only [List.length_map, List.length_append, List.length_cons, List.length_nil, lim]; omega) | (first | (apply mulOk_s <;> omega) | (apply mulOk_t <;> omega) | (apply mulOk_l; assumption) | (apply mulOk_r; assumption)) | decide), by (first | exact decT (by omega) | omega | (simp only [List.length_map, List.length_append, List.length_cons, List.length_nil, lim]; omega) | (first | (apply mulOk_s <;> omega) | (apply mulOk_t <;> omega) | (apply mulOk_l; assumption) | (apply mulOk_r; assumption)) | decide), by (first | exact decT (by omega) | omega | (simp only [List.length_map, List.length_append, List.length_cons, List.length_nil, lim]; omega) | (first | (apply mulOk_s <;> omega) | (apply mulOk_t <;> omega) | (apply mulOk_l; assumption) | (apply mulOk_r; assumption)) | decide), by (first | exact decT (by omega) | omega | (simp only [List.length_map, List.length_append, List.length_cons, List.length_nil, lim]; omega) | (first | (apply mulOk_s <;> omega) | (apply mulOk_t <;> omega) | (apply mulOk_l; assumption) | (apply mulOk_r; assumption)) | decide), noOrd_of hm hl k0 hq⟩
end Lib
/-! BK59 -/
set_option linter.all false
set_option maxRecDepth 100000
namespace K59
open PySem L2 TL Lib
noncomputable def xtab (c : String) : List String := if c = "NoOrder" then ["NoOrder", "BookError", "ValueError"] else []
theorem xtab_dom (c : String) (h : xtab c ≠ []) : c ∈ ["NoOrder"] := by
  unfold xtab at h
  repeat (split at h; · subst c; decide)
  exact absurd rfl h
/-! end_forX(works, needs, budget): 0 works, 1 needs, 2 budget, 3 told, 4 ahead, 5 behind -/
noncomputable def B_end_forX : FS :=
  (fSeq (fX (xCall 2 RX_cornersX (fCons (fVar 0) (fCons (fVar 1) fNil))) (fAsg (fCall 2 R_cornersX (fCons (fVar 0) (fCons (fVar 1) fNil))) (gN 3)))
    (fSeq fNever
    fNever))
noncomputable def R_end_forX : List T → Option T := runT B_end_forX 6
noncomputable def RX_end_forX : List T → Option String := runX B_end_forX 6
/-! best_endX(works, needs, bonus): 0 works, 1 needs, 2 bonus, 3 told, 4 best -/
noncomputable def B_best_endX : FS :=
  (fSeq (fX (xCall 2 RX_cornersX (fCons (fVar 0) (fCons (fVar 1) fNil))) (fAsg (fCall 2 R_cornersX (fCons (fVar 0) (fCons (fVar 1) fNil))) (gN 3)))
    (fSeq fNever
    fNever))
noncomputable def R_best_endX : List T → Option T := runT B_best_endX 5
noncomputable def RX_best_endX : List T → Option String := runX B_best_endX 5
/-! least_sum(told, bonus): 0 told, 1 bonus -/
noncomputable def B_least_sum : FS :=
  fNever
noncomputable def R_least_sum : List T → Option T := runT B_least_sum 2
/-! best_sumX(works, needs, bonus): 0 works, 1 needs, 2 bonus -/
noncomputable def B_best_sumX : FS :=
  (fX (xCall 2 RX_cornersX (fCons (fVar 0) (fCons (fVar 1) fNil))) (fRet (fCall 2 R_least_sum (fCons (fCall 2 R_cornersX (fCons (fVar 0) (fCons (fVar 1) fNil))) (fCons (fVar 2) fNil)))))
noncomputable def R_best_sumX : List T → Option T := runT B_best_sumX 3
noncomputable def RX_best_sumX : List T → Option String := runX B_best_sumX 3
/-! bonus_streamX(works, needs, bonus): 0 works, 1 needs, 2 bonus, 3 net -/
noncomputable def B_bonus_streamX : FS :=
  (fSeq (fX (xCall 2 RX_order_ofX (fCons (fLen (fCons (fVar 0) fNil)) (fCons (fVar 1) fNil))) (fDrop (fCall 2 R_order_ofX (fCons (fLen (fCons (fVar 0) fNil)) (fCons (fVar 1) fNil)))))
    (fSeq fNever
    (fSeq fNever
    (fSeq fNever
    fNever))))
noncomputable def R_bonus_streamX : List T → Option T := runT B_bonus_streamX 4
noncomputable def RX_bonus_streamX : List T → Option String := runX B_bonus_streamX 4
/-! rest_ofX(works, needs, plan, moment): 0 works, 1 needs, 2 plan, 3 moment, 4 left_works, 5 left_needs -/
noncomputable def B_rest_ofX : FS :=
  (fSeq (fX (xCall 2 RX_order_ofX (fCons (fLen (fCons (fVar 0) fNil)) (fCons (fVar 1) fNil))) (fDrop (fCall 2 R_order_ofX (fCons (fLen (fCons (fVar 0) fNil)) (fCons (fVar 1) fNil)))))
    (fSeq fNever
    (fSeq fNever
    fNever)))
noncomputable def R_rest_ofX : List T → Option T := runT B_rest_ofX 6
noncomputable def RX_rest_ofX : List T → Option String := runX B_rest_ofX 6
/-! l_askedX(_law_k, _law_works, _law_needs, _law_far): 0 _law_k, 1 _law_works, 2 _law_needs, 3 _law_far -/
noncomputable def B_l_askedX : FS :=
  (fSeq (fIf (fTst (fEq (fVar 0) (fC (.int 0)))) (fX (xCall 3 RX_end_forX (fCons (fVar 1) (fCons (fVar 2) (fCons (fVar 3) fNil)))) (fDrop (fCall 3 R_end_forX (fCons (fVar 1) (fCons (fVar 2) (fCons (fVar 3) fNil)))))) fNext)
    (fSeq (fIf (fTst (fEq (fVar 0) (fC (.int 1)))) (fX (xCall 3 RX_best_endX (fCons (fVar 1) (fCons (fVar 2) (fCons (fVar 3) fNil)))) (fDrop (fCall 3 R_best_endX (fCons (fVar 1) (fCons (fVar 2) (fCons (fVar 3) fNil)))))) fNext)
    (fSeq (fIf (fTst (fEq (fVar 0) (fC (.int 2)))) (fX (xCall 3 RX_best_sumX (fCons (fVar 1) (fCons (fVar 2) (fCons (fVar 3) fNil)))) (fDrop (fCall 3 R_best_sumX (fCons (fVar 1) (fCons (fVar 2) (fCons (fVar 3) fNil)))))) fNext)
    (fSeq (fIf (fTst (fEq (fVar 0) (fC (.int 3)))) (fX (xCall 3 RX_bonus_streamX (fCons (fVar 1) (fCons (fVar 2) (fCons (fVar 3) fNil)))) (fDrop (fCall 3 R_bonus_streamX (fCons (fVar 1) (fCons (fVar 2) (fCons (fVar 3) fNil)))))) fNext)
    (fIf (fTst (fEq (fVar 0) (fC (.int 4)))) (fX (xCall 4 RX_rest_ofX (fCons (fVar 1) (fCons (fVar 2) (fCons (fTree (fComp (fVar 1) 1 [] (gN 0) fTrueT (fTree (fDisp (fCons (fMul (fC (.int 7)) (fIx (fVar 0) (fC (.int 0)))) (fCons (fIx (fVar 0) (fC (.int 0))) fNil)))))) (fCons (fVar 3) fNil))))) (fDrop (fCall 4 R_rest_ofX (fCons (fVar 1) (fCons (fVar 2) (fCons (fTree (fComp (fVar 1) 1 [] (gN 0) fTrueT (fTree (fDisp (fCons (fMul (fC (.int 7)) (fIx (fVar 0) (fC (.int 0)))) (fCons (fIx (fVar 0) (fC (.int 0))) fNil)))))) (fCons (fVar 3) fNil))))))) fNext)))))
noncomputable def R_l_askedX : List T → Option T := runT B_l_askedX 4
noncomputable def RX_l_askedX : List T → Option String := runX B_l_askedX 4
/-! l_refused(_law_k, _law_works, _law_needs, _law_end): 0 _law_k, 1 _law_works, 2 _law_needs, 3 _law_end, 4 _law_caught, 5 e -/
noncomputable def B_l_refused : FS :=
  (fSeq (fAsg (fC .non) (gN 4))
    (fSeq (fTry xtab "BookError" 5 (fX (xCall 4 RX_l_askedX (fCons (fVar 0) (fCons (fVar 1) (fCons (fVar 2) (fCons (fVar 3) fNil))))) (fDrop (fCall 4 R_l_askedX (fCons (fVar 0) (fCons (fVar 1) (fCons (fVar 2) (fCons (fVar 3) fNil))))))) (fAsg (fVar 5) (gN 4)))
    (fSeq (fIf (fOrT (fTru (fIsx xtab ["NoRoom"] (fVar 4))) (fOrT (fTru (fIsx xtab ["NoRow"] (fVar 4))) (fTru (fIsx xtab ["NoName"] (fVar 4))))) (fRet (fC (.bl false))) fNext)
    (fRet (fAndV (fIsx xtab ["NoOrder"] (fVar 4)) (fAndV (fIsx xtab ["ValueError"] (fVar 4)) (fNotV (fIsx xtab ["NoText"] (fVar 4)))))))))
noncomputable def R_l_refused : List T → Option T := runT B_l_refused 6
/-! law(_law_script): 0 _law_script, 1 _law_works, 2 _law_needs, 3 _law_far, 4 _law_handed, 5 _law_k -/
noncomputable def L_law_1 : FS :=
  (fIf (fOrT (fNotT (fTru (fCall 4 R_l_refused (fCons (fVar 5) (fCons (fIx (fVar 4) (fC (.int 0))) (fCons (fIx (fVar 4) (fC (.int 1))) (fCons (fVar 3) fNil))))))) (fTst (fNe (fVar 4) (fTree (fDisp (fCons (fVar 1) (fCons (fVar 2) fNil))))))) (fRet (fC (.bl false))) fNext)
noncomputable def B_law : FS :=
  (fSeq (fAsg (fCall 3 R_lot (fCons (fVar 0) (fCons (fC (.int 8)) (fCons (fPow (fC (.int 10)) (fC (.int 20))) fNil)))) (gU [1, 2]))
    (fSeq (fAsg (fCall 3 R_bentL (fCons (fVar 2) (fCons (fLen (fCons (fVar 1) fNil)) (fCons (fVar 0) fNil)))) (gN 2))
    (fSeq (fAsg (fMod (fCall 2 R_cell_at (fCons (fVar 0) (fCons (fC (.int 3)) fNil))) (fIx (fTree (fDisp (fCons (fPow (fC (.int 10)) (fC (.int 60))) (fCons (fC (.int 3)) fNil)))) (fMod (fCall 2 R_cell_at (fCons (fVar 0) (fCons (fC (.int 1)) fNil))) (fC (.int 2))))) (gN 3))
    (fSeq (fAsg (fTree (fDisp (fCons (fTree (fComp (fVar 1) 1 [] (gN 0) fTrueT (fTree (fList (fCons (fVar 0) fNil))))) (fCons (fTree (fComp (fVar 2) 1 [] (gN 0) fTrueT (fTree (fList (fCons (fVar 0) fNil))))) fNil)))) (gN 4))
    (fSeq (fForR1 (fC (.int 5)) (gN 5)
      L_law_1)
    (fRet (fC (.bl true))))))))
noncomputable def R_law : List T → Option T := runT B_law 6
end K59
/-! MK59 -/
set_option linter.all false
set_option maxRecDepth 100000
set_option maxHeartbeats 1000000
namespace K59
open PySem L2 TL Lib
theorem cf_wpe {ws : List (Int × Int × Int)} {ps : List (Int × Int)} {e : Int} : CFs [.lst (ws.map w3), .lst (ps.map pT), .int e] = true := by rw [CFs_cons, CFs_cons, CFs_cons, CFs_nil, CF_lst, CF_lst, CF_int, CFs_w3, CFs_pT]; rfl
theorem cf_kwpe {k : Int} {ws : List (Int × Int × Int)} {ps : List (Int × Int)} {e : Int} : CFs [.int k, .lst (ws.map w3), .lst (ps.map pT), .int e] = true := by rw [CFs_cons, CF_int, cf_wpe]; rfl
theorem cf_mpl {m : Int} {ps : List (Int × Int)} : CFs [.int m, .lst (ps.map pT)] = true := by rw [CFs_cons, CFs_cons, CFs_nil, CF_lst, CF_int, CFs_pT]; rfl
theorem cf_wppe {ws : List (Int × Int × Int)} {ps qs : List (Int × Int)} {e : Int} : CFs [.lst (ws.map w3), .lst (ps.map pT), .lst (qs.map pT), .int e] = true := by rw [CFs_cons, CFs_cons, CFs_cons, CFs_cons, CFs_nil, CF_lst, CF_lst, CF_lst, CF_int, CFs_w3, CFs_pT, CFs_pT]; rfl
theorem xcorners {ws : List (Int × Int × Int)} {ps : List (Int × Int)} {τ : TSt} (hl : ws.length ≤ 1000) (h : NoOrd ws.length ps) (h0 : τ[0]? = some (some (.lst (ws.map w3)))) (h1 : τ[1]? = some (some (.lst (ps.map pT)))) : xCall 2 RX_cornersX (fCons (fVar 0) (fCons (fVar 1) fNil)) τ [] = some ("NoOrder", []) := by
  have ea : (fCons (fVar 0) (fCons (fVar 1) fNil)) τ [] = some ([.lst (ws.map w3), .lst (ps.map pT)], []) := by
    apply wpA_ev
    simp_arith [↓wpS_augI, ↓wpO_is0n, ↓wpO_is0x, ↓wpE_tupD, ↓wpO_dmB, h0, h1]
  rw [xCall_of (n := 2) ea rfl cf_wp, cornersX_no hl h]; rfl
theorem xorder {ws : List (Int × Int × Int)} {ps : List (Int × Int)} {τ : TSt} (h : NoOrd ws.length ps) (h0 : τ[0]? = some (some (.lst (ws.map w3)))) (h1 : τ[1]? = some (some (.lst (ps.map pT)))) : xCall 2 RX_order_ofX (fCons (fLen (fCons (fVar 0) fNil)) (fCons (fVar 1) fNil)) τ [] = some ("NoOrder", []) := by
  have ea : (fCons (fLen (fCons (fVar 0) fNil)) (fCons (fVar 1) fNil)) τ [] = some ([.int ws.length, .lst (ps.map pT)], []) := by
    apply wpA_ev
    simp_arith [h0, h1, List.length_map]
  rw [xCall_of (n := 2) ea rfl cf_mpl, show RX_order_ofX [.int ws.length, .lst (ps.map pT)] = some "NoOrder" from h]; rfl
section
variable {ws : List (Int × Int × Int)} {ps qs : List (Int × Int)} {e : Int} (hl : ws.length ≤ 1000) (h : NoOrd ws.length ps)
include hl h
theorem endX_no : RX_end_forX [.lst (ws.map w3), .lst (ps.map pT), .int e] = some "NoOrder" := by
  apply runX_wp
  unfold B_end_forX
  rw [wpS_seq, wpS_fXs (xcorners hl h rfl rfl)]; rfl
theorem bestX_no : RX_best_endX [.lst (ws.map w3), .lst (ps.map pT), .int e] = some "NoOrder" := by
  apply runX_wp
  unfold B_best_endX
  rw [wpS_seq, wpS_fXs (xcorners hl h rfl rfl)]; rfl
theorem sumX_no : RX_best_sumX [.lst (ws.map w3), .lst (ps.map pT), .int e] = some "NoOrder" := by
  apply runX_wp
  unfold B_best_sumX
  rw [wpS_fXs (xcorners hl h rfl rfl)]
theorem bonusX_no : RX_bonus_streamX [.lst (ws.map w3), .lst (ps.map pT), .int e] = some "NoOrder" := by
  apply runX_wp
  unfold B_bonus_streamX
  rw [wpS_seq, wpS_fXs (xorder h rfl rfl)]; rfl
theorem restX_no : RX_rest_ofX [.lst (ws.map w3), .lst (ps.map pT), .lst (qs.map pT), .int e] = some "NoOrder" := by
  apply runX_wp
  unfold B_rest_ofX
  rw [wpS_seq, wpS_fXs (xorder h rfl rfl)]; rfl
end
theorem asked_no {k e : Int} {ws : List (Int × Int × Int)} {ps : List (Int × Int)} (hk : k = 0 ∨ k = 1 ∨ k = 2 ∨ k = 3 ∨ k = 4) (hl : ws.length ≤ 1000) (h : NoOrd ws.length ps) : RX_l_askedX [.int k, .lst (ws.map w3), .lst (ps.map pT), .int e] = some "NoOrder" := by
  apply runX_wp
  unfold B_l_askedX
  (simp only [st0, List.map_cons, List.map_nil, List.length_cons, List.length_nil, Nat.reduceAdd, Nat.reduceSub, List.replicate, List.append_nil, List.cons_append, List.nil_append])
  rcases hk with rfl | rfl | rfl | rfl | rfl
  · simp_arith [if_true]
    rw [if_pos (by decide), wpS_fXs (c := "NoOrder") (C' := []) (by rw [xCall_of (n := 3) (ts := [.lst (ws.map w3), .lst (ps.map pT), .int e]) rfl rfl cf_wpe, endX_no hl h]; rfl)]
    simp_arith [if_true]
  · simp_arith [if_true]
    rw [if_neg (by decide), if_pos (by decide), wpS_fXs (c := "NoOrder") (C' := []) (by rw [xCall_of (n := 3) (ts := [.lst (ws.map w3), .lst (ps.map pT), .int e]) rfl rfl cf_wpe, bestX_no hl h]; rfl)]
    simp_arith [if_true]
  · simp_arith [if_true]
    rw [if_neg (by decide), if_neg (by decide), if_pos (by decide), wpS_fXs (c := "NoOrder") (C' := []) (by rw [xCall_of (n := 3) (ts := [.lst (ws.map w3), .lst (ps.map pT), .int e]) rfl rfl cf_wpe, sumX_no hl h]; rfl)]
    simp_arith [if_true]
  · simp_arith [if_true]
    rw [if_neg (by decide), if_neg (by decide), if_neg (by decide), if_pos (by decide), wpS_fXs (c := "NoOrder") (C' := []) (by rw [xCall_of (n := 3) (ts := [.lst (ws.map w3), .lst (ps.map pT), .int e]) rfl rfl cf_wpe, bonusX_no hl h]; rfl)]
    simp_arith [if_true]
  · have ea : (fCons (fVar 1) (fCons (fVar 2) (fCons (fTree (fComp (fVar 1) 1 [] (gN 0) fTrueT (fTree (fDisp (fCons (fMul (fC (.int 7)) (fIx (fVar 0) (fC (.int 0)))) (fCons (fIx (fVar 0) (fC (.int 0))) fNil)))))) (fCons (fVar 3) fNil)))) [some (.int 4), some (.lst (ws.map w3)), some (.lst (ps.map pT)), some (.int e)] [] = some ([.lst (ws.map w3), .lst (ps.map pT), .lst ((ws.map fun w => (7 * w.1, w.1)).map pT), .int e], []) := by
      apply wpA_ev
      simp_arith [↓wpS_augI, ↓wpO_is0n, ↓wpO_is0x, ↓wpE_tupD, ↓wpO_dmB]
      refine ⟨lim_lt (by simpa using hl), wpC_mapA (fun w => pT (7 * w.1, w.1)) (fun w _ => ?_) ?_⟩
      · simp only [scT, List.replicate, List.map_cons, List.map_nil, List.nil_append, List.cons_append, List.append_nil, List.getElem?_cons_zero, List.getElem?_cons_succ, Option.getD_some]
        simp_arith [↓wpS_augI, ↓wpO_is0n, ↓wpO_is0x, ↓wpE_tupD, ↓wpO_dmB, w3, pT, ↓ex_some (atI_0 (α := T))]
        refine ⟨mulOk_l (.of_lt (by decide) (by decide)), by (first | exact decT (by omega) | omega | (simp only [List.length_map, List.length_append, List.length_cons, List.length_nil, lim]; omega) | (first | (apply mulOk_s <;> omega) | (apply mulOk_t <;> omega) | (apply mulOk_l; assumption) | (apply mulOk_r; assumption)) | decide)⟩
      · simp_arith [↓wpS_augI, ↓wpO_is0n, ↓wpO_is0x, ↓wpE_tupD, ↓wpO_dmB]
        rw [List.map_map]; rfl
    simp_arith [if_true]
    rw [if_neg (by decide), if_neg (by decide), if_neg (by decide), if_neg (by decide), if_pos (by decide), wpS_fXs (c := "NoOrder") (C' := []) (by rw [xCall_of (n := 4) ea rfl cf_wppe, restX_no hl h]; rfl)]
theorem refused_no {k e : Int} {ws : List (Int × Int × Int)} {ps : List (Int × Int)} (hk : k = 0 ∨ k = 1 ∨ k = 2 ∨ k = 3 ∨ k = 4) (hl : ws.length ≤ 1000) (h : NoOrd ws.length ps) : R_l_refused [.int k, .lst (ws.map w3), .lst (ps.map pT), .int e] = some (.bl true) := by
  apply runT_wp
  unfold B_l_refused
  (simp only [st0, List.map_cons, List.map_nil, List.length_cons, List.length_nil, Nat.reduceAdd, Nat.reduceSub, List.replicate, List.append_nil, List.cons_append, List.nil_append])
  rw [wpS_seq]
  simp_arith [↓wpS_augI, ↓wpO_is0n, ↓wpO_is0x, ↓wpE_tupD, ↓wpO_dmB]
  refine wpS_try ?_
  rw [wpS_fXs (c := "NoOrder") (C' := []) (by rw [xCall_of (n := 4) (ts := [.int k, .lst (ws.map w3), .lst (ps.map pT), .int e]) rfl rfl cf_kwpe, asked_no hk hl h]; rfl)]
  refine ⟨by decide, ?_⟩
  simp_arith [↓wpS_augI, ↓wpO_is0n, ↓wpO_is0x, ↓wpE_tupD, ↓wpO_dmB, ↓wpE_isx, List.set]
  have t1 : ∀ ds, isxT xtab ds (.exc "NoOrder") = some (ds.any fun d => ["NoOrder", "BookError", "ValueError"].contains d) := fun ds => rfl
  simp only [t1]
  refine ⟨false, by decide, false, tru_bl, ?_⟩
  rw [if_neg (by simp)]
  refine ⟨false, by decide, false, tru_bl, ?_⟩
  rw [if_neg (by simp)]
  refine ⟨false, by decide, false, tru_bl, ?_⟩
  rw [if_neg (by simp)]
  refine ⟨true, by decide, ?_⟩
  rw [if_pos rfl]
  refine ⟨true, by decide, ?_⟩
  rw [if_pos rfl]
  exact ⟨false, by decide, dr_cf CF_bl⟩
theorem self2 {ws : List (Int × Int × Int)} {ps : List (Int × Int)} {C : Sto} {Q : T → Sto → Prop} : wpO (gEq true (.lst [.lst (ws.map w3), .lst (ps.map pT)]) (.lst [.lst (ws.map w3), .lst (ps.map pT)]) C) Q ↔ Q (.bl false) C := by
  have he : eqT 5 (.lst [.lst (ws.map w3), .lst (ps.map pT)]) (.lst [.lst (ws.map w3), .lst (ps.map pT)]) = some true := by
    apply eqT_lst_refl
    intro t ht
    simp only [List.mem_cons, List.not_mem_nil, or_false] at ht
    rcases ht with rfl | rfl
    · rw [eqT_enc (fun _ _ => eqT_w3)]; simp
    · rw [eqT_enc (fun _ _ => eqT_pT)]; simp
  have hc : CF (.lst [.lst (ws.map w3), .lst (ps.map pT)]) = true := by rw [CF_lst]; exact cf_wp
  rw [wpO_eq, ex_some (dr_cf hc), ex_some (dr_cf hc), ex_some he]; rfl
theorem law_true : ∀ ns : List Int, ns.length ≤ 63 → (∀ n ∈ ns, Builtin.Int.intBits n ≤ 2 ^ 20) → R_law [.lst (ns.map T.int)] = some (.bl true) := by
  intro ns hl hb
  obtain ⟨_, e1, ws, ps, rfl, hwl, hpl, hwo, rs, hrk, hal⟩ := lot_ok hl
  obtain ⟨_, e2, ps2, rfl, hp2, hno⟩ := bentL_ok (ps := ps) (m := ws.length) (ns := ns) hwl hpl
  have w1 : ∀ {C Q}, wpO (gCall 3 R_lot [.lst (ns.map T.int), .int 8, .int (10 ^ Int.toNat 20)] C) Q ↔ Q (.tup [.lst (ws.map w3), .lst (ps.map pT)]) C := wpO_callE e1 rfl (by (simp only [CFs_cons, CFs_nil, CF_int, CF_bl, CF_lst, CF_tup, CF_non, CF_str, CFs_ints, Bool.and_true, Bool.and_self]))
  have w2 : ∀ {C Q}, wpO (gCall 3 R_bentL [.lst (ps.map pT), .int ws.length, .lst (ns.map T.int)] C) Q ↔ Q (.lst (ps2.map pT)) C := wpO_callE e2 rfl (by rw [CFs_cons, CF_lst, CFs_pT]; (simp only [CFs_cons, CFs_nil, CF_int, CF_bl, CF_lst, CF_tup, CF_non, CF_str, CFs_ints, Bool.and_true, Bool.and_self]))
  apply runT_wp
  unfold B_law
  (simp only [st0, List.map_cons, List.map_nil, List.length_cons, List.length_nil, Nat.reduceAdd, Nat.reduceSub, List.replicate, List.append_nil, List.cons_append, List.nil_append])
  simp_arith [↓wpS_augI, ↓wpO_is0n, ↓wpO_is0x, ↓wpE_tupD, ↓wpO_dmB, ↓w1, ↓w2, List.length_map, ↓wpO_cell, atI_mod2i]
  have hp : decide (0 < if cellZ ns 1 % 2 = 0 then 10 ^ Int.toNat 60 else (3 : Int)) = true := by split <;> decide
  generalize (cellZ ns 3 % if cellZ ns 1 % 2 = 0 then 10 ^ Int.toNat 60 else 3 : Int) = e
  refine ⟨by decide, by decide, by (first | exact decT (by omega) | omega | (simp only [List.length_map, List.length_append, List.length_cons, List.length_nil, lim]; omega) | (first | (apply mulOk_s <;> omega) | (apply mulOk_t <;> omega) | (apply mulOk_l; assumption) | (apply mulOk_r; assumption)) | decide), by decide, hp, by (first | exact decT (by omega) | omega | (simp only [List.length_map, List.length_append, List.length_cons, List.length_nil, lim]; omega) | (first | (apply mulOk_s <;> omega) | (apply mulOk_t <;> omega) | (apply mulOk_l; assumption) | (apply mulOk_r; assumption)) | decide), wpC_mapA w3 (fun w _ => ?_) ?_⟩
  · simp only [scT, List.replicate, List.map_cons, List.map_nil, List.nil_append, List.cons_append, List.append_nil, List.getElem?_cons_zero, List.getElem?_cons_succ, Option.getD_some]
    simp_arith [↓wpS_augI, ↓wpO_is0n, ↓wpO_is0x, ↓wpE_tupD, ↓wpO_dmB, w3]
  refine ⟨by (first | exact decT (by omega) | omega | (simp only [List.length_map, List.length_append, List.length_cons, List.length_nil, lim]; omega) | (first | (apply mulOk_s <;> omega) | (apply mulOk_t <;> omega) | (apply mulOk_l; assumption) | (apply mulOk_r; assumption)) | decide), wpC_mapA pT (fun w _ => ?_) ?_⟩
  · simp only [scT, List.replicate, List.map_cons, List.map_nil, List.nil_append, List.cons_append, List.append_nil, List.getElem?_cons_zero, List.getElem?_cons_succ, Option.getD_some]
    simp_arith [↓wpS_augI, ↓wpO_is0n, ↓wpO_is0x, ↓wpE_tupD, ↓wpO_dmB, pT]
  refine ⟨by (first | exact decT (by omega) | omega | (simp only [List.length_map, List.length_append, List.length_cons, List.length_nil, lim]; omega) | (first | (apply mulOk_s <;> omega) | (apply mulOk_t <;> omega) | (apply mulOk_l; assumption) | (apply mulOk_r; assumption)) | decide), by decide, wpS_goR (fun i τ C => C = [] ∧ ∃ a : Option T, τ = [some (T.lst (List.map T.int ns)), some (T.lst (List.map w3 ws)), some (T.lst (List.map pT ps2)), some (.int e), some (T.lst [T.lst (ws.map w3), T.lst (ps2.map pT)]), a]) ⟨rfl, _, rfl⟩ ?_ ?_⟩
  · rintro i τ C hi ⟨rfl, _, rfl⟩
    have hi : i < 5 := hi
    have w3' : ∀ {C Q}, wpO (gCall 4 R_l_refused [.int (0 + (i : Int)), .lst (ws.map w3), .lst (ps2.map pT), .int e] C) Q ↔ Q (.bl true) C := wpO_callE (refused_no (by omega) (by omega) hno) rfl cf_kwpe
    unfold L_law_1
    simp_arith [↓wpS_augI, ↓wpO_is0n, ↓wpO_is0x, ↓wpE_tupD, ↓wpO_dmB, ↓ex_some (atI_0 (α := T)), ↓ex_some (atI_1 (α := T)), ↓w3', ↓self2, tru_bl]
    rw [if_neg (by decide)]
    exact ⟨by (first | exact decT (by omega) | omega | (simp only [List.length_map, List.length_append, List.length_cons, List.length_nil, lim]; omega) | (first | (apply mulOk_s <;> omega) | (apply mulOk_t <;> omega) | (apply mulOk_l; assumption) | (apply mulOk_r; assumption)) | decide), _, rfl⟩
  · rintro τ C ⟨rfl, _, rfl⟩
    simp_arith [↓wpS_augI, ↓wpO_is0n, ↓wpO_is0x, ↓wpE_tupD, ↓wpO_dmB]
    exact dr_cf CF_bl
end K59
end
/-! WG59 -/
set_option linter.all false
set_option maxRecDepth 100000
namespace K59
open PySem L2 TL Lib
open HT (top)
section
variable {P : Program} {w : World} {K : PySem.W.Frag} {mg : Str → Option Value} {base : Heap} {f : Addr} {fd : FuncData}
noncomputable abbrev s_mixedL : Stmt := top 57
theorem sc_mixedL : FnScope ["_law_cell", "_law_k", "_law_number"] ["_law_cell", "_law_k"] (defScope s_mixedL) := ⟨rfl, rfl, rfl, by decide +kernel, rfl, by decide +kernel, by decide +kernel⟩
set_option maxHeartbeats 0 in
theorem ok_mixedL (F : Fun K "_law_mixed" "_law_mixed" s_mixedL f fd)  :
    FnOk P w K mg base CX0 1 f fd ["_law_cell", "_law_k"] (spT K 2 R_mixedL) := by
  have nd := sc_mixedL.nd
  refine F.ok sc_mixedL spT_len (fun cdv A outer s H vs Q E hr h => ⟨trS K (wish (Cx.nox (cxOf CX0 P w K mg base ["_law_cell", "_law_k", "_law_number"] "_law_mixed" (defScope s_mixedL) f cdv A outer s H E))) B_mixedL, ?_, body_T (m := 3) runT_ok h⟩)
  exact (qss_cons (qs_set nd 2 (q_mod (q_add (q_add (q_mul (q_var 0) q_int) (q_mul (q_mul (q_var 1) (q_var 1)) q_int)) q_int) q_int))
    (qss_cons (qs_set nd 2 (q_mod (q_mul (q_var 2) (q_var 2)) q_int))
    (qss_one (qs_ret (q_mod (q_mul (q_var 2) (q_var 2)) q_int)))))
noncomputable abbrev s_cell_at : Stmt := top 56
theorem sc_cell_at : FnScope ["_law_script", "_law_k"] ["_law_script", "_law_k"] (defScope s_cell_at) := ⟨rfl, rfl, rfl, by decide +kernel, rfl, by decide +kernel, by decide +kernel⟩
set_option maxHeartbeats 0 in
theorem ok_cell_at (F : Fun K "_law_cell_at" "_law_cell_at" s_cell_at f fd) (m_len : mg "len" = none) :
    FnOk P w K mg base CX0 1 f fd ["_law_script", "_law_k"] (spT K 2 R_cell_at) := by
  have nd := sc_cell_at.nd
  refine F.ok sc_cell_at spT_len (fun cdv A outer s H vs Q E hr h => ⟨trS K (wish (Cx.nox (cxOf CX0 P w K mg base ["_law_script", "_law_k"] "_law_cell_at" (defScope s_cell_at) f cdv A outer s H E))) B_cell_at, ?_, body_T (m := 2) runT_ok h⟩)
  exact (qss_cons (qs_if (t_lt (q_var 1) (q_len m_len (q_acons (q_var 0) q_anil))) (qss_one (qs_ret (q_ix (q_var 0) (q_var 1)))) qss_nil)
    (qss_one (qs_ret q_int)))
noncomputable abbrev s_numbersL : Stmt := top 59
theorem sc_numbersL : FnScope ["_law_cells", "_law_numbers_here", "_law_k", "_law_at"] ["_law_cells"] (defScope s_numbersL) := ⟨rfl, rfl, rfl, by decide +kernel, rfl, by decide +kernel, by decide +kernel⟩
set_option maxHeartbeats 0 in
theorem ok_numbersL (F : Fun K "_law_numbers" "_law_numbers" s_numbersL f fd) (D_mixedL : DefT P w K mg base 1 "_law_mixed" 2 R_mixedL) (D_cell_at : DefT P w K mg base 1 "_law_cell_at" 2 R_cell_at) (m_range : mg "range" = none) (m_min : mg "min" = none) (m_len : mg "len" = none) :
    FnOk P w K mg base CX0 2 f fd ["_law_cells"] (spT K 1 R_numbersL) := by
  have nd := sc_numbersL.nd
  refine F.ok sc_numbersL spT_len (fun cdv A outer s H vs Q E hr h => ⟨trS K (wish (Cx.nox (cxOf CX0 P w K mg base ["_law_cells", "_law_numbers_here", "_law_k", "_law_at"] "_law_numbers" (defScope s_numbersL) f cdv A outer s H E))) B_numbersL, ?_, body_T (m := 4) runT_ok h⟩)
  exact (qss_cons (s_compR1C nd 1 m_range rfl (cok ["_law_k"] ["_law_cells"] [0]) q_int (own_gN (by decide)) (fun _ _ _ _ => (g_nm (show List.Nodup (["_law_k", "_law_cells"] : List Str) by decide) 0)) (fun _ _ _ _ => qts_nil) (fun _ _ _ _ => (q_call D_mixedL (hr.mono (by decide)) (q_acons (q_call D_cell_at (hr.mono (by decide)) (q_acons (q_var 1) (q_acons q_int q_anil))) (q_acons (q_add q_int (q_var 0)) q_anil)))))
    (qss_cons (qs_forR2 m_range rfl q_int (q_min2 m_min rfl (q_acons q_int (q_acons (q_len m_len (q_acons (q_var 0) q_anil)) q_anil))) (g_nm nd 2) (qss_cons (qs_set nd 3 (q_mod (q_var 2) q_int))
    (qss_one (qs_setI (q_call D_mixedL (hr.mono (by decide)) (q_acons (q_add (q_ix (q_var 1) (q_var 3)) (q_ix (q_var 0) (q_var 2))) (q_acons (q_var 2) q_anil))) (q_var 1) (q_var 3)))))
    (qss_one (qs_ret (q_var 1)))))
noncomputable abbrev s_namesL : Stmt := top 58
theorem sc_namesL : FnScope ["_law_cell", "_law_many", "_law_points", "_law_k"] ["_law_cell", "_law_many"] (defScope s_namesL) := ⟨rfl, rfl, rfl, by decide +kernel, rfl, by decide +kernel, by decide +kernel⟩
set_option maxHeartbeats 0 in
theorem ok_namesL (F : Fun K "_law_names" "_law_names" s_namesL f fd) (D_mixedL : DefT P w K mg base 1 "_law_mixed" 2 R_mixedL) (m_range : mg "range" = none) :
    FnOk P w K mg base CX0 2 f fd ["_law_cell", "_law_many"] (spT K 2 R_namesL) := by
  have nd := sc_namesL.nd
  refine F.ok sc_namesL spT_len (fun cdv A outer s H vs Q E hr h => ⟨trS K (wish (Cx.nox (cxOf CX0 P w K mg base ["_law_cell", "_law_many", "_law_points", "_law_k"] "_law_names" (defScope s_namesL) f cdv A outer s H E))) B_namesL, ?_, body_T (m := 4) runT_ok h⟩)
  exact (qss_cons (qs_set nd 2 (q_cell (n_disp q_anil)))
    (qss_cons (qs_forR1 m_range rfl (q_var 1) (g_nm nd 3) (qss_one (qs_ins (q_var 2) (q_acons (q_mod (q_call D_mixedL (hr.mono (by decide)) (q_acons (q_var 0) (q_acons (q_var 3) q_anil))) (q_add (q_var 3) q_int)) (q_acons (q_var 3) q_anil)))))
    (qss_one (qs_ret (q_var 2)))))
noncomputable abbrev s_lot_free : Stmt := top 61
theorem sc_lot_free : FnScope ["_law_cells", "_law_many", "_law_unit", "_law_base", "_law_works", "_law_k", "_law_left", "_law_least", "_law_more", "_law_order", "_law_needs", "_law_a"] ["_law_cells", "_law_many", "_law_unit"] (defScope s_lot_free) := ⟨rfl, rfl, rfl, by decide +kernel, rfl, by decide +kernel, by decide +kernel⟩
set_option maxHeartbeats 0 in
theorem ok_lot_free (F : Fun K "_law_lot_free" "_law_lot_free" s_lot_free f fd) (D_cell_at : DefT P w K mg base 1 "_law_cell_at" 2 R_cell_at) (m_range : mg "range" = none) (m_int : mg "int" = none) :
    FnOk P w K mg base CX0 2 f fd ["_law_cells", "_law_many", "_law_unit"] (spT K 3 R_lot_free) := by
  have nd := sc_lot_free.nd
  refine F.ok sc_lot_free spT_len (fun cdv A outer s H vs Q E hr h => ⟨trS K (wish (Cx.nox (cxOf CX0 P w K mg base ["_law_cells", "_law_many", "_law_unit", "_law_base", "_law_works", "_law_k", "_law_left", "_law_least", "_law_more", "_law_order", "_law_needs", "_law_a"] "_law_lot_free" (defScope s_lot_free) f cdv A outer s H E))) B_lot_free, ?_, body_T (m := 12) runT_ok h⟩)
  exact (qss_cons (qs_set nd 3 (q_ix (q_tree (n_disp (q_acons q_int (q_acons (q_mul (q_var 2) (q_pow q_int q_int)) q_anil)))) (q_mod (q_fdiv (q_call D_cell_at (hr.mono (by decide)) (q_acons (q_var 0) (q_acons q_int q_anil))) q_int) q_int)))
    (qss_cons (qs_set nd 4 (q_cell (n_disp q_anil)))
    (qss_cons (qs_forR1 m_range rfl (q_var 1) (g_nm nd 5) (qss_cons (qs_set nd 6 (q_call D_cell_at (hr.mono (by decide)) (q_acons (q_var 0) (q_acons (q_add q_int (q_var 5)) q_anil))))
    (qss_cons (qs_set nd 7 (q_mod (q_var 6) (q_ix (q_tree (n_disp (q_acons q_int (q_acons (q_var 3) q_anil)))) (q_int1 m_int (q_acons (q_gt (q_var 3) q_int) q_anil)))))
    (qss_cons (qs_set nd 6 (q_fdivB (q_var 6) (q_ix (q_tree (n_disp (q_acons q_int (q_acons (q_var 3) q_anil)))) (q_int1 m_int (q_acons (q_gt (q_var 3) q_int) q_anil)))))
    (qss_cons (qs_set nd 8 (q_mod (q_var 6) (q_ix (q_tree (n_disp (q_acons q_int (q_acons (q_var 3) q_anil)))) (q_int1 m_int (q_acons (q_gt (q_var 3) q_int) q_anil)))))
    (qss_cons (qs_set nd 6 (q_fdivB (q_var 6) (q_ix (q_tree (n_disp (q_acons q_int (q_acons (q_var 3) q_anil)))) (q_int1 m_int (q_acons (q_gt (q_var 3) q_int) q_anil)))))
    (qss_one (qs_app (q_var 4) (q_acons (q_tree (n_disp (q_acons (q_add (q_var 7) (q_var 8)) (q_acons (q_var 7) (q_acons (q_mod (q_var 6) (q_ix (q_tree (n_disp (q_acons q_int (q_acons (q_var 3) q_anil)))) (q_int1 m_int (q_acons (q_gt (q_var 3) q_int) q_anil)))) q_anil))))) q_anil)))))))))
    (qss_cons (qs_set nd 6 (q_call D_cell_at (hr.mono (by decide)) (q_acons (q_var 0) (q_acons q_int q_anil))))
    (qss_cons (qs_set nd 9 (q_cell (n_disp q_anil)))
    (qss_cons (qs_forR1 m_range rfl (q_var 1) (g_nm nd 5) (qss_cons (qs_ins (q_var 9) (q_acons (q_mod (q_var 6) (q_add (q_var 5) q_int)) (q_acons (q_var 5) q_anil)))
    (qss_one (qs_set nd 6 (q_fdivB (q_var 6) (q_add (q_var 5) q_int))))))
    (qss_cons (qs_set nd 10 (q_cell (n_disp q_anil)))
    (qss_cons (qs_forR1 m_range rfl (q_var 1) (g_nm nd 5) (qss_one (qs_for rfl (q_tree (n_slice (q_var 9) q_nopart (q_part (q_var 5)))) (g_nm nd 11) (qss_cons (qs_if (t_eq (hu20 hr) (q_mod (q_var 6) q_int) q_int) (qss_one (qs_app (q_var 10) (q_acons (q_tree (n_disp (q_acons (q_var 11) (q_acons (q_ix (q_var 9) (q_var 5)) q_anil)))) q_anil))) qss_nil)
    (qss_one (qs_set nd 6 (q_fdiv (q_var 6) q_int)))))))
    (qss_one (qs_ret (q_tupD (q_acons (q_var 4) (q_acons (q_var 10) q_anil)))))))))))))
noncomputable abbrev s_workL : Stmt := top 60
theorem sc_workL : FnScope ["_law_one", "_law_two", "_law_three", "_law_mode", "_law_unit", "_law_least", "_law_more", "_law_price"] ["_law_one", "_law_two", "_law_three", "_law_mode", "_law_unit"] (defScope s_workL) := ⟨rfl, rfl, rfl, by decide +kernel, rfl, by decide +kernel, by decide +kernel⟩
set_option maxHeartbeats 0 in
theorem ok_workL (F : Fun K "_law_work" "_law_work" s_workL f fd) (m_int : mg "int" = none) :
    FnOk P w K mg base CX0 1 f fd ["_law_one", "_law_two", "_law_three", "_law_mode", "_law_unit"] (spT K 5 R_workL) := by
  have nd := sc_workL.nd
  refine F.ok sc_workL spT_len (fun cdv A outer s H vs Q E hr h => ⟨trS K (wish (Cx.nox (cxOf CX0 P w K mg base ["_law_one", "_law_two", "_law_three", "_law_mode", "_law_unit", "_law_least", "_law_more", "_law_price"] "_law_work" (defScope s_workL) f cdv A outer s H E))) B_workL, ?_, body_T (m := 8) runT_ok h⟩)
  exact (qss_cons (qs_set nd 5 (q_mod (q_var 0) q_int))
    (qss_cons (qs_set nd 6 (q_mod (q_var 1) q_int))
    (qss_cons (qs_set nd 7 (q_mod (q_var 2) q_int))
    (qss_cons (qs_if (t_eq (hu20 hr) (q_var 3) q_int) (qss_cons (qs_set nd 5 (q_add (q_mul (q_var 0) (q_var 4)) (q_mod (q_var 1) q_int)))
    (qss_cons (qs_set nd 6 (q_mul (q_mul (q_var 1) (q_var 4)) (q_int1 m_int (q_acons (q_gt (q_mod (q_var 1) q_int) q_int) q_anil))))
    (qss_one (qs_set nd 7 (q_add (q_mul (q_var 2) (q_var 4)) (q_mod (q_var 0) q_int)))))) qss_nil)
    (qss_cons (qs_if (t_eq (hu20 hr) (q_var 3) q_int) (qss_cons (qs_set nd 6 (q_mul (q_mod (q_var 1) q_int) (q_mod (q_fdiv (q_var 1) q_int) q_int)))
    (qss_one (qs_set nd 7 (q_ix (q_tree (n_disp (q_acons q_int (q_acons q_int (q_acons q_int (q_acons (q_add q_int (q_mod (q_var 2) q_int)) q_anil)))))) (q_mod (q_fdiv (q_var 2) q_int) q_int))))) qss_nil)
    (qss_cons (qs_if (t_w (t_and (t_eq (hu20 hr) (q_var 3) q_int) (t_and1 (t_eq (hu20 hr) (q_mod (q_var 0) q_int) q_int)))) (qss_one (qs_set nd 5 q_int)) qss_nil)
    (qss_one (qs_ret (q_tree (n_disp (q_acons (q_add (q_var 5) (q_var 6)) (q_acons (q_var 5) (q_acons (q_var 7) q_anil)))))))))))))
noncomputable abbrev s_lot : Stmt := top 62
theorem sc_lot : FnScope ["_law_cells", "_law_most", "_law_unit", "_law_numbers_here", "_law_first", "_law_few", "_law_many", "_law_cell", "_law_works", "_law_names_here", "_law_needs", "_law_k", "_law_b", "_law_back", "_law_a"] ["_law_cells", "_law_most", "_law_unit"] (defScope s_lot) := ⟨rfl, rfl, rfl, by decide +kernel, rfl, by decide +kernel, by decide +kernel⟩
set_option maxHeartbeats 0 in
theorem ok_lot (F : Fun K "_law_lot" "_law_lot" s_lot f fd) (D_numbersL : DefT P w K mg base 2 "_law_numbers" 1 R_numbersL) (D_cell_at : DefT P w K mg base 1 "_law_cell_at" 2 R_cell_at) (D_namesL : DefT P w K mg base 2 "_law_names" 2 R_namesL) (D_lot_free : DefT P w K mg base 2 "_law_lot_free" 3 R_lot_free) (D_workL : DefT P w K mg base 1 "_law_work" 5 R_workL) (m_range : mg "range" = none) (m_min : mg "min" = none) (m_int : mg "int" = none) (m_len : mg "len" = none) :
    FnOk P w K mg base CX0 3 f fd ["_law_cells", "_law_most", "_law_unit"] (spT K 3 R_lot) := by
  have nd := sc_lot.nd
  refine F.ok sc_lot spT_len (fun cdv A outer s H vs Q E hr h => ⟨trS K (wish (Cx.nox (cxOf CX0 P w K mg base ["_law_cells", "_law_most", "_law_unit", "_law_numbers_here", "_law_first", "_law_few", "_law_many", "_law_cell", "_law_works", "_law_names_here", "_law_needs", "_law_k", "_law_b", "_law_back", "_law_a"] "_law_lot" (defScope s_lot) f cdv A outer s H E))) B_lot, ?_, body_T (m := 15) runT_ok h⟩)
  exact (qss_cons (qs_set nd 3 (q_call D_numbersL (hr.mono (by decide)) (q_acons (q_var 0) q_anil)))
    (qss_cons (qs_set nd 4 (q_call D_cell_at (hr.mono (by decide)) (q_acons (q_var 0) (q_acons q_int q_anil))))
    (qss_cons (qs_set nd 5 (q_mod (q_fdiv (q_var 4) q_int) (q_min2 m_min rfl (q_acons q_int (q_acons (q_add (q_var 1) q_int) q_anil)))))
    (qss_cons (qs_set nd 6 (q_ix (q_tree (n_disp (q_acons (q_var 5) (q_acons (q_sub (q_var 1) (q_ix (q_tree (n_disp (q_acons q_int (q_acons q_int (q_acons q_int (q_acons q_int q_anil)))))) (q_mod (q_fdiv (q_var 4) q_int) q_int))) (q_acons (q_var 5) (q_acons (q_min2 m_min rfl (q_acons (q_var 1) (q_acons (q_add q_int (q_mod (q_fdiv (q_var 4) q_int) q_int)) q_anil))) q_anil)))))) (q_mod (q_var 4) q_int)))
    (qss_cons (qs_set nd 7 (q_call D_cell_at (hr.mono (by decide)) (q_acons (q_var 0) (q_acons q_int q_anil))))
    (qss_cons (qs_if (t_eq (hu20 hr) (q_mod (q_fdiv (q_var 7) q_int) q_int) q_int) (qss_one (qs_ret (q_call D_lot_free (hr.mono (by decide)) (q_acons (q_var 0) (q_acons (q_min2 m_min rfl (q_acons (q_var 6) (q_acons (q_ix (q_tree (n_disp (q_acons q_int (q_acons q_int q_anil)))) (q_int1 m_int (q_acons (q_lt (q_var 1) q_int) q_anil))) q_anil))) (q_acons (q_var 2) q_anil)))))) qss_nil)
    (qss_cons (s_compR1T nd 8 m_range rfl (cok ["_law_k"] ["_law_numbers_here", "_law_cell", "_law_unit"] [3, 7, 2]) (q_var 6) (own_gN (by decide)) (fun _ _ _ _ => (g_nm (show List.Nodup (["_law_k", "_law_numbers_here", "_law_cell", "_law_unit"] : List Str) by decide) 0)) (fun _ _ _ _ => qts_nil) (fun _ _ _ _ => (q_call D_workL (hr.mono (by decide)) (q_acons (q_ix (q_var 1) (q_var 0)) (q_acons (q_ix (q_var 1) (q_add q_int (q_var 0))) (q_acons (q_ix (q_var 1) (q_add q_int (q_var 0))) (q_acons (q_mod (q_var 2) q_int) (q_acons (q_var 3) q_anil))))))))
    (qss_cons (qs_set nd 9 (q_call D_namesL (hr.mono (by decide)) (q_acons (q_ix (q_var 3) q_int) (q_acons (q_var 6) q_anil))))
    (qss_cons (qs_set nd 10 (q_cell (n_disp q_anil)))
    (qss_cons (qs_forR2 m_range rfl q_int (q_add q_int (q_min2 m_min rfl (q_acons q_int (q_acons (q_add (q_var 6) (q_mod (q_fdiv (q_var 7) q_int) q_int)) q_anil)))) (g_nm nd 11) (qss_one (qs_if (t_gt (q_var 6) q_int) (qss_cons (qs_set nd 12 (q_add q_int (q_mod (q_ix (q_var 3) (q_var 11)) (q_sub (q_var 6) q_int))))
    (qss_cons (qs_set nd 13 (q_mod (q_fdiv (q_ix (q_var 3) (q_var 11)) q_int) (q_min2 m_min rfl (q_acons (q_var 12) (q_acons (q_ix (q_tree (n_disp (q_acons q_int (q_acons q_int (q_acons q_int q_anil))))) (q_mod (q_fdiv (q_var 7) q_int) q_int)) q_anil)))))
    (qss_cons (qs_set nd 14 (q_ix (q_tree (n_disp (q_acons (q_sub (q_sub (q_var 12) q_int) (q_var 13)) (q_acons (q_var 13) q_anil)))) (q_mod (q_fdiv (q_var 7) q_int) q_int)))
    (qss_one (qs_ins (q_var 10) (q_acons (q_mod (q_fdiv (q_ix (q_var 3) (q_var 11)) q_int) (q_add (q_len m_len (q_acons (q_var 10) q_anil)) q_int)) (q_acons (q_tree (n_disp (q_acons (q_ix (q_var 9) (q_var 14)) (q_acons (q_ix (q_var 9) (q_var 12)) q_anil)))) q_anil))))))) qss_nil)))
    (qss_one (qs_ret (q_tupD (q_acons (q_var 8) (q_acons (q_tree (n_slice (q_var 10) (q_part (q_mod (q_fdiv (q_var 7) q_int) q_int)) q_nopart)) q_anil)))))))))))))))
noncomputable abbrev s_bentL : Stmt := top 64
theorem sc_bentL : FnScope ["_law_needs", "_law_many", "_law_script", "_law_number", "_law_far", "_law_one", "_law_ahead", "_law_k", "_law_bad", "_law_pair", "_law_at"] ["_law_needs", "_law_many", "_law_script"] (defScope s_bentL) := ⟨rfl, rfl, rfl, by decide +kernel, rfl, by decide +kernel, by decide +kernel⟩
set_option maxHeartbeats 0 in
theorem ok_bentL (F : Fun K "_law_bent" "_law_bent" s_bentL f fd) (D_mixedL : DefT P w K mg base 1 "_law_mixed" 2 R_mixedL) (D_cell_at : DefT P w K mg base 1 "_law_cell_at" 2 R_cell_at) (m_range : mg "range" = none) (m_max : mg "max" = none) (m_len : mg "len" = none) :
    FnOk P w K mg base CX0 2 f fd ["_law_needs", "_law_many", "_law_script"] (spT K 3 R_bentL) := by
  have nd := sc_bentL.nd
  refine F.ok sc_bentL spT_len (fun cdv A outer s H vs Q E hr h => ⟨trS K (wish (Cx.nox (cxOf CX0 P w K mg base ["_law_needs", "_law_many", "_law_script", "_law_number", "_law_far", "_law_one", "_law_ahead", "_law_k", "_law_bad", "_law_pair", "_law_at"] "_law_bent" (defScope s_bentL) f cdv A outer s H E))) B_bentL, ?_, body_T (m := 11) runT_ok h⟩)
  exact (qss_cons (qs_set nd 3 (q_call D_mixedL (hr.mono (by decide)) (q_acons (q_call D_cell_at (hr.mono (by decide)) (q_acons (q_var 2) (q_acons q_int q_anil))) (q_acons q_int q_anil))))
    (qss_cons (qs_set nd 4 (q_mod (q_call D_cell_at (hr.mono (by decide)) (q_acons (q_var 2) (q_acons q_int q_anil))) (q_pow q_int q_int)))
    (qss_cons (qs_set nd 5 (q_mod (q_fdiv (q_var 3) q_int) (q_max2 m_max rfl (q_acons q_int (q_acons (q_var 1) q_anil)))))
    (qss_cons (qs_set nd 6 (q_tree (n_disp (q_acons (q_var 5) q_anil))))
    (qss_cons (qs_forR1 m_range rfl (q_var 1) (g_nm nd 7) (qss_one (qs_set nd 6 (q_tree (n_cat (q_var 6) (q_tree (n_comp rfl (cok ["_law_a", "_law_b"] ["_law_ahead"] [6]) (q_var 0) (own_gU (by decide)) (fun _ _ _ _ => (g_tup rfl (g_cons (show List.Nodup (["_law_a", "_law_b", "_law_ahead"] : List Str) by decide) 0 (g_cons (show List.Nodup (["_law_a", "_law_b", "_law_ahead"] : List Str) by decide) 1 g_nil)))) (fun _ _ _ _ => (qts_one (t_w (t_and (t_in (hu20 hr) (q_var 1) (q_var 2)) (t_and1 (t_nin (hu20 hr) (q_var 0) (q_var 2))))))) (fun _ _ _ _ => (q_var 0)))))))))
    (qss_cons (qs_set nd 8 (q_ix (q_tree (n_disp (q_acons (q_neg q_int) (q_acons (q_var 1) (q_acons (q_add (q_var 1) (q_var 4)) (q_acons (q_sub (q_neg q_int) (q_var 4)) q_anil)))))) (q_mod (q_fdiv (q_var 3) q_int) q_int)))
    (qss_cons (qs_set nd 9 (q_ix (q_tree (n_disp (q_acons (q_tree (n_disp (q_acons (q_var 5) (q_acons (q_var 8) q_anil)))) (q_acons (q_tree (n_disp (q_acons (q_var 8) (q_acons (q_var 5) q_anil)))) (q_acons (q_tree (n_disp (q_acons (q_var 8) (q_acons (q_var 8) q_anil)))) (q_acons (q_tree (n_disp (q_acons (q_var 5) (q_acons (q_var 5) q_anil)))) q_anil)))))) (q_mod (q_fdiv (q_var 3) q_int) q_int)))
    (qss_cons (qs_if (t_w (t_and (t_eq (hu20 hr) (q_mod (q_var 3) q_int) q_int) (t_and1 (t_gt (q_len m_len (q_acons (q_var 6) q_anil)) q_int)))) (qss_one (qs_set nd 9 (q_tree (n_disp (q_acons (q_var 5) (q_acons (q_ix (q_var 6) (q_add q_int (q_mod (q_fdiv (q_var 3) q_int) (q_sub (q_len m_len (q_acons (q_var 6) q_anil)) q_int)))) q_anil)))))) qss_nil)
    (qss_cons (qs_set nd 10 (q_mod (q_fdiv (q_var 3) q_int) (q_add (q_len m_len (q_acons (q_var 0) q_anil)) q_int)))
    (qss_one (qs_ret (q_tree (n_cat (q_tree (n_cat (q_tree (n_slice (q_var 0) q_nopart (q_part (q_var 10)))) (q_tree (n_disp (q_acons (q_var 9) q_anil))))) (q_tree (n_slice (q_var 0) (q_part (q_var 10)) q_nopart)))))))))))))))
noncomputable abbrev s_done_moments : Stmt := top 15
theorem sc_done_moments : FnScope ["begins", "hours"] ["begins", "hours"] (defScope s_done_moments) := ⟨rfl, rfl, rfl, by decide +kernel, rfl, by decide +kernel, by decide +kernel⟩
set_option maxHeartbeats 0 in
theorem ok_done_moments (F : Fun K "done_moments" "done_moments" s_done_moments f fd) (m_zip : mg "zip" = none) :
    FnOk P w K mg base CX0 1 f fd ["begins", "hours"] (spT K 2 R_done_moments) := by
  have nd := sc_done_moments.nd
  refine F.ok sc_done_moments spT_len (fun cdv A outer s H vs Q E hr h => ⟨trS K (wish (Cx.nox (cxOf CX0 P w K mg base ["begins", "hours"] "done_moments" (defScope s_done_moments) f cdv A outer s H E))) B_done_moments, ?_, body_T (m := 2) runT_ok h⟩)
  exact (qss_one (qs_ret (q_tree (n_compZ m_zip rfl (cok ["begin", "took"] [] []) (q_var 0) (q_var 1) (own_gU (by decide)) (fun _ _ _ _ => (g_tup rfl (g_cons (show List.Nodup (["begin", "took"] : List Str) by decide) 0 (g_cons (show List.Nodup (["begin", "took"] : List Str) by decide) 1 g_nil)))) (fun _ _ _ _ => qts_nil) (fun _ _ _ _ => (q_add (q_var 0) (q_var 1)))))))
noncomputable abbrev s_is_work : Stmt := top 9
theorem sc_is_work : FnScope ["many", "number"] ["many", "number"] (defScope s_is_work) := ⟨rfl, rfl, rfl, by decide +kernel, rfl, by decide +kernel, by decide +kernel⟩
set_option maxHeartbeats 0 in
theorem ok_is_work (F : Fun K "is_work" "is_work" s_is_work f fd)  :
    FnOk P w K mg base CX0 1 f fd ["many", "number"] (spT K 2 R_is_work) := by
  have nd := sc_is_work.nd
  refine F.ok sc_is_work spT_len (fun cdv A outer s H vs Q E hr h => ⟨trS K (wish (Cx.nox (cxOf CX0 P w K mg base ["many", "number"] "is_work" (defScope s_is_work) f cdv A outer s H E))) B_is_work, ?_, body_T (m := 2) runT_ok h⟩)
  exact (qss_one (qs_ret (q_chain_le_lt q_int (q_var 1) (q_var 0))))
noncomputable abbrev s_needed_worksX : Stmt := top 10
theorem sc_needed_worksX : FnScope ["many", "needs", "needed", "first", "second"] ["many", "needs"] (defScope s_needed_worksX) := ⟨rfl, rfl, rfl, by decide +kernel, rfl, by decide +kernel, by decide +kernel⟩
set_option maxHeartbeats 0 in
theorem ok_needed_worksX (F : Fun K "needed_works" "needed_works" s_needed_worksX f fd) (D_is_work : DefT P w K mg base 1 "is_work" 2 R_is_work) (m_range : mg "range" = none) (E_NoOrder : ∃ C, ExC K mg "NoOrder" C) :
    FnOk P w K mg base (CX1 P w K) 2 f fd ["many", "needs"] (spX (spT K 2 R_needed_worksX) K 2 RX_needed_worksX) := by
  have nd := sc_needed_worksX.nd
  refine okX (B := B_needed_worksX) F sc_needed_worksX rfl spT_len (fun W vs H Q E h => body_T (m := 5) runT_ok h) (fun cdv A outer s H E hr => ?_)
  exact (qss_cons (s_compR1C nd 2 m_range rfl (cok ["work"] [] []) (q_var 0) (own_gN (by decide)) (fun _ _ _ _ => (g_nm (show List.Nodup (["work"] : List Str) by decide) 0)) (fun _ _ _ _ => qts_nil) (fun _ _ _ _ => (q_cell (n_disp q_anil))))
    (qss_cons (qs_for rfl (q_var 1) (g_tup rfl (g_cons nd 3 (g_cons nd 4 g_nil))) (qss_cons (qs_if (t_w (t_or (t_not (t_tru (q_call D_is_work (hr.mono (by decide)) (q_acons (q_var 0) (q_acons (q_var 3) q_anil))))) (t_or1 (t_not (t_tru (q_call D_is_work (hr.mono (by decide)) (q_acons (q_var 0) (q_acons (q_var 4) q_anil)))))))) (qss_one (qs_raiseE (c := "NoOrder") E_NoOrder rfl (q_acons q_str q_anil))) qss_nil)
    (qss_one (qs_if (t_nin (hu20 hr) (q_var 3) (q_ix (q_var 2) (q_var 4))) (qss_one (qs_app (q_ix (q_var 2) (q_var 4)) (q_acons (q_var 3) q_anil))) qss_nil))))
    (qss_one (qs_ret (q_var 2)))))
noncomputable abbrev s_least_readyX : Stmt := top 11
theorem sc_least_readyX : FnScope ["needed", "told", "work"] ["needed", "told"] (defScope s_least_readyX) := ⟨rfl, rfl, rfl, by decide +kernel, rfl, by decide +kernel, by decide +kernel⟩
set_option maxHeartbeats 0 in
theorem ok_least_readyX (F : Fun K "least_ready" "least_ready" s_least_readyX f fd) (m_range : mg "range" = none) (m_len : mg "len" = none) (m_all : mg "all" = none) (E_NoOrder : ∃ C, ExC K mg "NoOrder" C) :
    FnOk P w K mg base (CX1 P w K) 1 f fd ["needed", "told"] (spX (spT K 2 R_least_readyX) K 2 RX_least_readyX) := by
  have nd := sc_least_readyX.nd
  refine okX (B := B_least_readyX) F sc_least_readyX rfl spT_len (fun W vs H Q E h => body_T (m := 3) runT_ok h) (fun cdv A outer s H E hr => ?_)
  exact (qss_cons (qs_forR1 m_range rfl (q_len m_len (q_acons (q_var 0) q_anil)) (g_nm nd 2) (qss_one (qs_if (t_w (t_and (t_nin (hu20 hr) (q_var 2) (q_var 1)) (t_and1 (t_tru (q_all m_all rfl (q_acons (q_tree (n_comp rfl (cok ["first"] ["told"] [1]) (q_ix (q_var 0) (q_var 2)) (own_gN (by decide)) (fun _ _ _ _ => (g_nm (show List.Nodup (["first", "told"] : List Str) by decide) 0)) (fun _ _ _ _ => qts_nil) (fun _ _ _ _ => (q_in (hu20 hr) (q_var 0) (q_var 1))))) q_anil)))))) (qss_one (qs_ret (q_var 2))) qss_nil)))
    (qss_one (qs_raiseE (c := "NoOrder") E_NoOrder rfl (q_acons q_str q_anil))))
noncomputable abbrev s_order_ofX : Stmt := top 8
theorem sc_order_ofX : FnScope ["many", "needs", "needed", "order"] ["many", "needs"] (defScope s_order_ofX) := ⟨rfl, rfl, rfl, by decide +kernel, rfl, by decide +kernel, by decide +kernel⟩
set_option maxHeartbeats 0 in
theorem ok_order_ofX (F : Fun K "order_of" "order_of" s_order_ofX f fd) (D_needed_worksX : DefX P w K mg base 2 "needed_works" 2 (spT K 2 R_needed_worksX) RX_needed_worksX) (D_least_readyX : DefX P w K mg base 1 "least_ready" 2 (spT K 2 R_least_readyX) RX_least_readyX) (m_len : mg "len" = none) :
    FnOk P w K mg base (CX1 P w K) 3 f fd ["many", "needs"] (spX (spT K 2 R_order_ofX) K 2 RX_order_ofX) := by
  have nd := sc_order_ofX.nd
  refine okX (B := B_order_ofX) F sc_order_ofX rfl spT_len (fun W vs H Q E h => body_T (m := 4) runT_ok h) (fun cdv A outer s H E hr => ?_)
  exact (qss_cons (qs_x (xs_set nd 2 (x_call D_needed_worksX (hr.mono (by decide)) (q_acons (q_var 0) (q_acons (q_var 1) q_anil)))) (qs_set nd 2 (q_callX D_needed_worksX (hr.mono (by decide)) (q_acons (q_var 0) (q_acons (q_var 1) q_anil)))))
    (qss_cons (qs_set nd 3 (q_cell (n_disp q_anil)))
    (qss_cons (qs_while 10 (t_lt (q_len m_len (q_acons (q_var 3) q_anil)) (q_var 0)) (qss_one (qs_x (xs_app (q_var 3) (xa_hd (x_call D_least_readyX (hr.mono (by decide)) (q_acons (q_var 2) (q_acons (q_var 3) q_anil))) q_anil)) (qs_app (q_var 3) (q_acons (q_callX D_least_readyX (hr.mono (by decide)) (q_acons (q_var 2) (q_acons (q_var 3) q_anil))) q_anil)))))
    (qss_one (qs_ret (q_var 3))))))
noncomputable abbrev s_earliestX : Stmt := top 13
theorem sc_earliestX : FnScope ["hours", "needs", "order", "needed", "begins", "work"] ["hours", "needs"] (defScope s_earliestX) := ⟨rfl, rfl, rfl, by decide +kernel, rfl, by decide +kernel, by decide +kernel⟩
set_option maxHeartbeats 0 in
theorem ok_earliestX (F : Fun K "earliest" "earliest" s_earliestX f fd) (D_order_ofX : DefX P w K mg base 3 "order_of" 2 (spT K 2 R_order_ofX) RX_order_ofX) (D_needed_worksX : DefX P w K mg base 2 "needed_works" 2 (spT K 2 R_needed_worksX) RX_needed_worksX) (m_len : mg "len" = none) (m_max : mg "max" = none) :
    FnOk P w K mg base (CX1 P w K) 4 f fd ["hours", "needs"] (spX (spT K 2 R_earliestX) K 2 RX_earliestX) := by
  have nd := sc_earliestX.nd
  refine okX (B := B_earliestX) F sc_earliestX rfl spT_len (fun W vs H Q E h => body_T (m := 6) runT_ok h) (fun cdv A outer s H E hr => ?_)
  exact (qss_cons (qs_x (xs_set nd 2 (x_call D_order_ofX (hr.mono (by decide)) (q_acons (q_len m_len (q_acons (q_var 0) q_anil)) (q_acons (q_var 1) q_anil)))) (qs_set nd 2 (q_callX D_order_ofX (hr.mono (by decide)) (q_acons (q_len m_len (q_acons (q_var 0) q_anil)) (q_acons (q_var 1) q_anil)))))
    (qss_cons (qs_x (xs_set nd 3 (x_call D_needed_worksX (hr.mono (by decide)) (q_acons (q_len m_len (q_acons (q_var 0) q_anil)) (q_acons (q_var 1) q_anil)))) (qs_set nd 3 (q_callX D_needed_worksX (hr.mono (by decide)) (q_acons (q_len m_len (q_acons (q_var 0) q_anil)) (q_acons (q_var 1) q_anil)))))
    (qss_cons (qs_set nd 4 (q_cell (n_comp rfl (cok ["work"] [] []) (q_var 2) (own_gN (by decide)) (fun _ _ _ _ => (g_nm (show List.Nodup (["work"] : List Str) by decide) 0)) (fun _ _ _ _ => qts_nil) (fun _ _ _ _ => q_int))))
    (qss_cons (qs_for rfl (q_var 2) (g_nm nd 5) (qss_one (qs_setI (q_maxD m_max rfl (q_tree (n_comp rfl (cok ["first"] ["begins", "hours"] [4, 0]) (q_ix (q_var 3) (q_var 5)) (own_gN (by decide)) (fun _ _ _ _ => (g_nm (show List.Nodup (["first", "begins", "hours"] : List Str) by decide) 0)) (fun _ _ _ _ => qts_nil) (fun _ _ _ _ => (q_add (q_ix (q_var 1) (q_var 0)) (q_ix (q_var 2) (q_var 0)))))) q_int) (q_var 4) (q_var 5))))
    (qss_one (qs_ret (q_var 4)))))))
noncomputable abbrev s_lengthX : Stmt := top 14
theorem sc_lengthX : FnScope ["hours", "needs"] ["hours", "needs"] (defScope s_lengthX) := ⟨rfl, rfl, rfl, by decide +kernel, rfl, by decide +kernel, by decide +kernel⟩
set_option maxHeartbeats 0 in
theorem ok_lengthX (F : Fun K "length" "length" s_lengthX f fd) (D_done_moments : DefT P w K mg base 1 "done_moments" 2 R_done_moments) (D_earliestX : DefX P w K mg base 4 "earliest" 2 (spT K 2 R_earliestX) RX_earliestX) (m_max : mg "max" = none) :
    FnOk P w K mg base (CX1 P w K) 5 f fd ["hours", "needs"] (spX (spT K 2 R_lengthX) K 2 RX_lengthX) := by
  have nd := sc_lengthX.nd
  refine okX (B := B_lengthX) F sc_lengthX rfl spT_len (fun W vs H Q E h => body_T (m := 2) runT_ok h) (fun cdv A outer s H E hr => ?_)
  exact (qss_one (qs_x (xs_ret (x_maxD m_max rfl (x_argT D_done_moments (hr.mono (by decide)) (xa_hd (x_call D_earliestX (hr.mono (by decide)) (q_acons (q_var 0) (q_acons (q_var 1) q_anil))) (q_acons (q_var 0) q_anil))) q_int)) (qs_ret (q_maxD m_max rfl (q_call D_done_moments (hr.mono (by decide)) (q_acons (q_callX D_earliestX (hr.mono (by decide)) (q_acons (q_var 0) (q_acons (q_var 1) q_anil))) (q_acons (q_var 0) q_anil))) q_int))))
noncomputable abbrev s_least_hours : Stmt := top 36
theorem sc_least_hours : FnScope ["works"] ["works"] (defScope s_least_hours) := ⟨rfl, rfl, rfl, by decide +kernel, rfl, by decide +kernel, by decide +kernel⟩
set_option maxHeartbeats 0 in
theorem ok_least_hours (F : Fun K "least_hours" "least_hours" s_least_hours f fd)  :
    FnOk P w K mg base CX0 1 f fd ["works"] (spT K 1 R_least_hours) := by
  have nd := sc_least_hours.nd
  refine F.ok sc_least_hours spT_len (fun cdv A outer s H vs Q E hr h => ⟨trS K (wish (Cx.nox (cxOf CX0 P w K mg base ["works"] "least_hours" (defScope s_least_hours) f cdv A outer s H E))) B_least_hours, ?_, body_T (m := 1) runT_ok h⟩)
  exact (qss_one (qs_ret (q_tree (n_comp rfl (cok ["work"] [] []) (q_var 0) (own_gN (by decide)) (fun _ _ _ _ => (g_nm (show List.Nodup (["work"] : List Str) by decide) 0)) (fun _ _ _ _ => qts_nil) (fun _ _ _ _ => (q_ix (q_var 0) q_int))))))
noncomputable abbrev s_least_endX : Stmt := top 34
theorem sc_least_endX : FnScope ["works", "needs"] ["works", "needs"] (defScope s_least_endX) := ⟨rfl, rfl, rfl, by decide +kernel, rfl, by decide +kernel, by decide +kernel⟩
set_option maxHeartbeats 0 in
theorem ok_least_endX (F : Fun K "least_end" "least_end" s_least_endX f fd) (D_lengthX : DefX P w K mg base 5 "length" 2 (spT K 2 R_lengthX) RX_lengthX) (D_least_hours : DefT P w K mg base 1 "least_hours" 1 R_least_hours) :
    FnOk P w K mg base (CX1 P w K) 6 f fd ["works", "needs"] (spX (spT K 2 R_least_endX) K 2 RX_least_endX) := by
  have nd := sc_least_endX.nd
  refine okX (B := B_least_endX) F sc_least_endX rfl spT_len (fun W vs H Q E h => body_T (m := 2) runT_ok h) (fun cdv A outer s H E hr => ?_)
  exact (qss_one (qs_x (xs_ret (x_call D_lengthX (hr.mono (by decide)) (q_acons (q_call D_least_hours (hr.mono (by decide)) (q_acons (q_var 0) q_anil)) (q_acons (q_var 1) q_anil)))) (qs_ret (q_callX D_lengthX (hr.mono (by decide)) (q_acons (q_call D_least_hours (hr.mono (by decide)) (q_acons (q_var 0) q_anil)) (q_acons (q_var 1) q_anil))))))
noncomputable abbrev s_cornersX : Stmt := top 39
theorem sc_cornersX : FnScope ["works", "needs", "last", "end", "price", "found", "net", "sooner"] ["works", "needs"] (defScope s_cornersX) := ⟨rfl, rfl, rfl, by decide +kernel, rfl, by decide +kernel, by decide +kernel⟩
set_option maxHeartbeats 0 in
theorem ok_cornersX (F : Fun K "corners" "corners" s_cornersX f fd) (D_least_endX : DefX P w K mg base 6 "least_end" 2 (spT K 2 R_least_endX) RX_least_endX) :
    FnOk P w K mg base (CX1 P w K) 7 f fd ["works", "needs"] (spX (spT K 2 R_cornersX) K 2 RX_cornersX) := by
  have nd := sc_cornersX.nd
  refine okX (B := B_cornersX) F sc_cornersX rfl spT_len (fun W vs H Q E h => body_T (m := 8) runT_ok h) (fun cdv A outer s H E hr => ?_)
  exact (qss_cons (qs_x (xs_set nd 2 (x_call D_least_endX (hr.mono (by decide)) (q_acons (q_var 0) (q_acons (q_var 1) q_anil)))) (qs_set nd 2 (q_callX D_least_endX (hr.mono (by decide)) (q_acons (q_var 0) (q_acons (q_var 1) q_anil)))))
    (qss_cons qs_never
    (qss_cons qs_never
    (qss_cons qs_never
    (qss_cons qs_never
    (qss_cons qs_never
    (qss_one qs_never)))))))
noncomputable abbrev s_end_forX : Stmt := top 41
theorem sc_end_forX : FnScope ["works", "needs", "budget", "told", "ahead", "behind"] ["works", "needs", "budget"] (defScope s_end_forX) := ⟨rfl, rfl, rfl, by decide +kernel, rfl, by decide +kernel, by decide +kernel⟩
set_option maxHeartbeats 0 in
theorem ok_end_forX (F : Fun K "end_for" "end_for" s_end_forX f fd) (D_cornersX : DefX P w K mg base 7 "corners" 2 (spT K 2 R_cornersX) RX_cornersX) :
    FnOk P w K mg base (CX1 P w K) 8 f fd ["works", "needs", "budget"] (spX (spT K 3 R_end_forX) K 3 RX_end_forX) := by
  have nd := sc_end_forX.nd
  refine okX (B := B_end_forX) F sc_end_forX rfl spT_len (fun W vs H Q E h => body_T (m := 6) runT_ok h) (fun cdv A outer s H E hr => ?_)
  exact (qss_cons (qs_x (xs_set nd 3 (x_call D_cornersX (hr.mono (by decide)) (q_acons (q_var 0) (q_acons (q_var 1) q_anil)))) (qs_set nd 3 (q_callX D_cornersX (hr.mono (by decide)) (q_acons (q_var 0) (q_acons (q_var 1) q_anil)))))
    (qss_cons qs_never
    (qss_one qs_never)))
noncomputable abbrev s_best_endX : Stmt := top 42
theorem sc_best_endX : FnScope ["works", "needs", "bonus", "told", "best"] ["works", "needs", "bonus"] (defScope s_best_endX) := ⟨rfl, rfl, rfl, by decide +kernel, rfl, by decide +kernel, by decide +kernel⟩
set_option maxHeartbeats 0 in
theorem ok_best_endX (F : Fun K "best_end" "best_end" s_best_endX f fd) (D_cornersX : DefX P w K mg base 7 "corners" 2 (spT K 2 R_cornersX) RX_cornersX) :
    FnOk P w K mg base (CX1 P w K) 8 f fd ["works", "needs", "bonus"] (spX (spT K 3 R_best_endX) K 3 RX_best_endX) := by
  have nd := sc_best_endX.nd
  refine okX (B := B_best_endX) F sc_best_endX rfl spT_len (fun W vs H Q E h => body_T (m := 5) runT_ok h) (fun cdv A outer s H E hr => ?_)
  exact (qss_cons (qs_x (xs_set nd 3 (x_call D_cornersX (hr.mono (by decide)) (q_acons (q_var 0) (q_acons (q_var 1) q_anil)))) (qs_set nd 3 (q_callX D_cornersX (hr.mono (by decide)) (q_acons (q_var 0) (q_acons (q_var 1) q_anil)))))
    (qss_cons qs_never
    (qss_one qs_never)))
noncomputable abbrev s_least_sum : Stmt := top 46
theorem sc_least_sum : FnScope ["told", "bonus"] ["told", "bonus"] (defScope s_least_sum) := ⟨rfl, rfl, rfl, by decide +kernel, rfl, by decide +kernel, by decide +kernel⟩
set_option maxHeartbeats 0 in
theorem ok_least_sum (F : Fun K "least_sum" "least_sum" s_least_sum f fd)  :
    FnOk P w K mg base CX0 1 f fd ["told", "bonus"] (spT K 2 R_least_sum) := by
  have nd := sc_least_sum.nd
  refine F.ok sc_least_sum spT_len (fun cdv A outer s H vs Q E hr h => ⟨trS K (wish (Cx.nox (cxOf CX0 P w K mg base ["told", "bonus"] "least_sum" (defScope s_least_sum) f cdv A outer s H E))) B_least_sum, ?_, body_T (m := 2) runT_ok h⟩)
  exact (qss_one qs_never)
noncomputable abbrev s_best_sumX : Stmt := top 43
theorem sc_best_sumX : FnScope ["works", "needs", "bonus"] ["works", "needs", "bonus"] (defScope s_best_sumX) := ⟨rfl, rfl, rfl, by decide +kernel, rfl, by decide +kernel, by decide +kernel⟩
set_option maxHeartbeats 0 in
theorem ok_best_sumX (F : Fun K "best_sum" "best_sum" s_best_sumX f fd) (D_least_sum : DefT P w K mg base 1 "least_sum" 2 R_least_sum) (D_cornersX : DefX P w K mg base 7 "corners" 2 (spT K 2 R_cornersX) RX_cornersX) :
    FnOk P w K mg base (CX1 P w K) 8 f fd ["works", "needs", "bonus"] (spX (spT K 3 R_best_sumX) K 3 RX_best_sumX) := by
  have nd := sc_best_sumX.nd
  refine okX (B := B_best_sumX) F sc_best_sumX rfl spT_len (fun W vs H Q E h => body_T (m := 3) runT_ok h) (fun cdv A outer s H E hr => ?_)
  exact (qss_one (qs_x (xs_ret (x_argT D_least_sum (hr.mono (by decide)) (xa_hd (x_call D_cornersX (hr.mono (by decide)) (q_acons (q_var 0) (q_acons (q_var 1) q_anil))) (q_acons (q_var 2) q_anil)))) (qs_ret (q_call D_least_sum (hr.mono (by decide)) (q_acons (q_callX D_cornersX (hr.mono (by decide)) (q_acons (q_var 0) (q_acons (q_var 1) q_anil))) (q_acons (q_var 2) q_anil))))))
noncomputable abbrev s_bonus_streamX : Stmt := top 44
theorem sc_bonus_streamX : FnScope ["works", "needs", "bonus", "net"] ["works", "needs", "bonus"] (defScope s_bonus_streamX) := ⟨rfl, rfl, rfl, by decide +kernel, rfl, by decide +kernel, by decide +kernel⟩
set_option maxHeartbeats 0 in
theorem ok_bonus_streamX (F : Fun K "bonus_stream" "bonus_stream" s_bonus_streamX f fd) (D_order_ofX : DefX P w K mg base 3 "order_of" 2 (spT K 2 R_order_ofX) RX_order_ofX) (m_len : mg "len" = none) :
    FnOk P w K mg base (CX1 P w K) 4 f fd ["works", "needs", "bonus"] (spX (spT K 3 R_bonus_streamX) K 3 RX_bonus_streamX) := by
  have nd := sc_bonus_streamX.nd
  refine okX (B := B_bonus_streamX) F sc_bonus_streamX rfl spT_len (fun W vs H Q E h => body_T (m := 4) runT_ok h) (fun cdv A outer s H E hr => ?_)
  exact (qss_cons (qs_x (xs_expr (x_call D_order_ofX (hr.mono (by decide)) (q_acons (q_len m_len (q_acons (q_var 0) q_anil)) (q_acons (q_var 1) q_anil)))) (qs_expr (q_callX D_order_ofX (hr.mono (by decide)) (q_acons (q_len m_len (q_acons (q_var 0) q_anil)) (q_acons (q_var 1) q_anil)))))
    (qss_cons qs_never
    (qss_cons qs_never
    (qss_cons qs_never
    (qss_one qs_never)))))
noncomputable abbrev s_rest_ofX : Stmt := top 51
theorem sc_rest_ofX : FnScope ["works", "needs", "plan", "moment", "left_works", "left_needs"] ["works", "needs", "plan", "moment"] (defScope s_rest_ofX) := ⟨rfl, rfl, rfl, by decide +kernel, rfl, by decide +kernel, by decide +kernel⟩
set_option maxHeartbeats 0 in
theorem ok_rest_ofX (F : Fun K "rest_of" "rest_of" s_rest_ofX f fd) (D_order_ofX : DefX P w K mg base 3 "order_of" 2 (spT K 2 R_order_ofX) RX_order_ofX) (m_len : mg "len" = none) :
    FnOk P w K mg base (CX1 P w K) 4 f fd ["works", "needs", "plan", "moment"] (spX (spT K 4 R_rest_ofX) K 4 RX_rest_ofX) := by
  have nd := sc_rest_ofX.nd
  refine okX (B := B_rest_ofX) F sc_rest_ofX rfl spT_len (fun W vs H Q E h => body_T (m := 6) runT_ok h) (fun cdv A outer s H E hr => ?_)
  exact (qss_cons (qs_x (xs_expr (x_call D_order_ofX (hr.mono (by decide)) (q_acons (q_len m_len (q_acons (q_var 0) q_anil)) (q_acons (q_var 1) q_anil)))) (qs_expr (q_callX D_order_ofX (hr.mono (by decide)) (q_acons (q_len m_len (q_acons (q_var 0) q_anil)) (q_acons (q_var 1) q_anil)))))
    (qss_cons qs_never
    (qss_cons qs_never
    (qss_one qs_never))))
noncomputable abbrev s_l_askedX : Stmt := top 63
theorem sc_l_askedX : FnScope ["_law_k", "_law_works", "_law_needs", "_law_far"] ["_law_k", "_law_works", "_law_needs", "_law_far"] (defScope s_l_askedX) := ⟨rfl, rfl, rfl, by decide +kernel, rfl, by decide +kernel, by decide +kernel⟩
set_option maxHeartbeats 0 in
theorem ok_l_askedX (F : Fun K "_law_asked" "_law_asked" s_l_askedX f fd) (D_end_forX : DefX P w K mg base 8 "end_for" 3 (spT K 3 R_end_forX) RX_end_forX) (D_best_endX : DefX P w K mg base 8 "best_end" 3 (spT K 3 R_best_endX) RX_best_endX) (D_best_sumX : DefX P w K mg base 8 "best_sum" 3 (spT K 3 R_best_sumX) RX_best_sumX) (D_bonus_streamX : DefX P w K mg base 4 "bonus_stream" 3 (spT K 3 R_bonus_streamX) RX_bonus_streamX) (D_rest_ofX : DefX P w K mg base 4 "rest_of" 4 (spT K 4 R_rest_ofX) RX_rest_ofX) :
    FnOk P w K mg base (CX1 P w K) 9 f fd ["_law_k", "_law_works", "_law_needs", "_law_far"] (spX (spT K 4 R_l_askedX) K 4 RX_l_askedX) := by
  have nd := sc_l_askedX.nd
  refine okX (B := B_l_askedX) F sc_l_askedX rfl spT_len (fun W vs H Q E h => body_T (m := 4) runT_ok h) (fun cdv A outer s H E hr => ?_)
  exact (qss_cons (qs_if (t_eq (hu20 hr) (q_var 0) q_int) (qss_one (qs_x (xs_expr (x_call D_end_forX (hr.mono (by decide)) (q_acons (q_var 1) (q_acons (q_var 2) (q_acons (q_var 3) q_anil))))) (qs_expr (q_callX D_end_forX (hr.mono (by decide)) (q_acons (q_var 1) (q_acons (q_var 2) (q_acons (q_var 3) q_anil))))))) qss_nil)
    (qss_cons (qs_if (t_eq (hu20 hr) (q_var 0) q_int) (qss_one (qs_x (xs_expr (x_call D_best_endX (hr.mono (by decide)) (q_acons (q_var 1) (q_acons (q_var 2) (q_acons (q_var 3) q_anil))))) (qs_expr (q_callX D_best_endX (hr.mono (by decide)) (q_acons (q_var 1) (q_acons (q_var 2) (q_acons (q_var 3) q_anil))))))) qss_nil)
    (qss_cons (qs_if (t_eq (hu20 hr) (q_var 0) q_int) (qss_one (qs_x (xs_expr (x_call D_best_sumX (hr.mono (by decide)) (q_acons (q_var 1) (q_acons (q_var 2) (q_acons (q_var 3) q_anil))))) (qs_expr (q_callX D_best_sumX (hr.mono (by decide)) (q_acons (q_var 1) (q_acons (q_var 2) (q_acons (q_var 3) q_anil))))))) qss_nil)
    (qss_cons (qs_if (t_eq (hu20 hr) (q_var 0) q_int) (qss_one (qs_x (xs_expr (x_call D_bonus_streamX (hr.mono (by decide)) (q_acons (q_var 1) (q_acons (q_var 2) (q_acons (q_var 3) q_anil))))) (qs_expr (q_callX D_bonus_streamX (hr.mono (by decide)) (q_acons (q_var 1) (q_acons (q_var 2) (q_acons (q_var 3) q_anil))))))) qss_nil)
    (qss_one (qs_if (t_eq (hu20 hr) (q_var 0) q_int) (qss_one (qs_x (xs_expr (x_call D_rest_ofX (hr.mono (by decide)) (q_acons (q_var 1) (q_acons (q_var 2) (q_acons (q_tree (n_comp rfl (cok ["_law_work_here"] [] []) (q_var 1) (own_gN (by decide)) (fun _ _ _ _ => (g_nm (show List.Nodup (["_law_work_here"] : List Str) by decide) 0)) (fun _ _ _ _ => qts_nil) (fun _ _ _ _ => (q_tree (n_disp (q_acons (q_mul q_int (q_ix (q_var 0) q_int)) (q_acons (q_ix (q_var 0) q_int) q_anil))))))) (q_acons (q_var 3) q_anil)))))) (qs_expr (q_callX D_rest_ofX (hr.mono (by decide)) (q_acons (q_var 1) (q_acons (q_var 2) (q_acons (q_tree (n_comp rfl (cok ["_law_work_here"] [] []) (q_var 1) (own_gN (by decide)) (fun _ _ _ _ => (g_nm (show List.Nodup (["_law_work_here"] : List Str) by decide) 0)) (fun _ _ _ _ => qts_nil) (fun _ _ _ _ => (q_tree (n_disp (q_acons (q_mul q_int (q_ix (q_var 0) q_int)) (q_acons (q_ix (q_var 0) q_int) q_anil))))))) (q_acons (q_var 3) q_anil)))))))) qss_nil))))))
noncomputable abbrev s_l_refused : Stmt := top 65
theorem sc_l_refused : FnScope ["_law_k", "_law_works", "_law_needs", "_law_end", "_law_caught", "e"] ["_law_k", "_law_works", "_law_needs", "_law_end"] (defScope s_l_refused) := ⟨rfl, rfl, rfl, by decide +kernel, rfl, by decide +kernel, by decide +kernel⟩
set_option maxHeartbeats 0 in
theorem ok_l_refused (F : Fun K "_law_refused" "_law_refused" s_l_refused f fd) (D_l_askedX : DefX P w K mg base 9 "_law_asked" 4 (spT K 4 R_l_askedX) RX_l_askedX) (m_isinstance : mg "isinstance" = none) (m_ValueError : mg "ValueError" = none) (TT : Tab K mg xtab ["NoOrder"] ["BookError", "NoRoom", "NoRow", "NoName", "NoOrder", "NoText"]) :
    FnOk P w K mg base CX0 10 f fd ["_law_k", "_law_works", "_law_needs", "_law_end"] (spT K 4 R_l_refused) := by
  have nd := sc_l_refused.nd
  refine F.ok sc_l_refused spT_len (fun cdv A outer s H vs Q E hr h => ⟨trS K (wish (Cx.nox (cxOf CX0 P w K mg base ["_law_k", "_law_works", "_law_needs", "_law_end", "_law_caught", "e"] "_law_refused" (defScope s_l_refused) f cdv A outer s H E))) B_l_refused, ?_, body_T (m := 6) runT_ok h⟩)
  exact (qss_cons (qs_set nd 4 q_non)
    (qss_cons (qs_try (d := "BookError") TT (by decide) nd 5 rfl (fun _ _ => (qss_one (qs_x (xs_expr (x_call D_l_askedX (hr.mono (by decide)) (q_acons (q_var 0) (q_acons (q_var 1) (q_acons (q_var 2) (q_acons (q_var 3) q_anil)))))) (qs_expr (q_callX D_l_askedX (hr.mono (by decide)) (q_acons (q_var 0) (q_acons (q_var 1) (q_acons (q_var 2) (q_acons (q_var 3) q_anil))))))))) (fun _ => (qss_one (qs_set nd 4 (q_var 5)))))
    (qss_cons (qs_if (t_w (t_or (t_tru (q_isx1 (d := "NoRoom") TT m_isinstance (q_var 4))) (t_or (t_tru (q_isx1 (d := "NoRow") TT m_isinstance (q_var 4))) (t_or1 (t_tru (q_isx1 (d := "NoName") TT m_isinstance (q_var 4))))))) (qss_one (qs_ret q_bl)) qss_nil)
    (qss_one (qs_ret (q_and (q_isx1 (d := "NoOrder") TT m_isinstance (q_var 4)) (q_and (q_isxV TT m_isinstance m_ValueError (q_var 4)) (q_one (q_not (q_isx1 (d := "NoText") TT m_isinstance (q_var 4)))))))))))
noncomputable abbrev s_law : Stmt := top 66
theorem sc_law : FnScope ["_law_script", "_law_works", "_law_needs", "_law_far", "_law_handed", "_law_k"] ["_law_script"] (defScope s_law) := ⟨rfl, rfl, rfl, by decide +kernel, rfl, by decide +kernel, by decide +kernel⟩
set_option maxHeartbeats 0 in
theorem ok_law (F : Fun K "law" "law" s_law f fd) (D_lot : DefT P w K mg base 3 "_law_lot" 3 R_lot) (D_bentL : DefT P w K mg base 2 "_law_bent" 3 R_bentL) (D_cell_at : DefT P w K mg base 1 "_law_cell_at" 2 R_cell_at) (D_l_refused : DefT P w K mg base 10 "_law_refused" 4 R_l_refused) (m_range : mg "range" = none) (m_len : mg "len" = none) (m_list : mg "list" = none) :
    FnOk P w K mg base CX0 11 f fd ["_law_script"] (spT K 1 R_law) := by
  have nd := sc_law.nd
  refine F.ok sc_law spT_len (fun cdv A outer s H vs Q E hr h => ⟨trS K (wish (Cx.nox (cxOf CX0 P w K mg base ["_law_script", "_law_works", "_law_needs", "_law_far", "_law_handed", "_law_k"] "law" (defScope s_law) f cdv A outer s H E))) B_law, ?_, body_T (m := 6) runT_ok h⟩)
  exact (qss_cons (qs_asg (q_call D_lot (hr.mono (by decide)) (q_acons (q_var 0) (q_acons q_int (q_acons (q_pow q_int q_int) q_anil)))) (g_tup rfl (g_cons nd 1 (g_cons nd 2 g_nil))))
    (qss_cons (qs_set nd 2 (q_call D_bentL (hr.mono (by decide)) (q_acons (q_var 2) (q_acons (q_len m_len (q_acons (q_var 1) q_anil)) (q_acons (q_var 0) q_anil)))))
    (qss_cons (qs_set nd 3 (q_mod (q_call D_cell_at (hr.mono (by decide)) (q_acons (q_var 0) (q_acons q_int q_anil))) (q_ix (q_tree (n_disp (q_acons (q_pow q_int q_int) (q_acons q_int q_anil)))) (q_mod (q_call D_cell_at (hr.mono (by decide)) (q_acons (q_var 0) (q_acons q_int q_anil))) q_int))))
    (qss_cons (qs_set nd 4 (q_tree (n_disp (q_acons (q_tree (n_comp rfl (cok ["_law_work_here"] [] []) (q_var 1) (own_gN (by decide)) (fun _ _ _ _ => (g_nm (show List.Nodup (["_law_work_here"] : List Str) by decide) 0)) (fun _ _ _ _ => qts_nil) (fun _ _ _ _ => (q_tree (n_list m_list (q_acons (q_var 0) q_anil)))))) (q_acons (q_tree (n_comp rfl (cok ["_law_pair"] [] []) (q_var 2) (own_gN (by decide)) (fun _ _ _ _ => (g_nm (show List.Nodup (["_law_pair"] : List Str) by decide) 0)) (fun _ _ _ _ => qts_nil) (fun _ _ _ _ => (q_tree (n_list m_list (q_acons (q_var 0) q_anil)))))) q_anil)))))
    (qss_cons (qs_forR1 m_range rfl q_int (g_nm nd 5) (qss_one (qs_if (t_w (t_or (t_not (t_tru (q_call D_l_refused (hr.mono (by decide)) (q_acons (q_var 5) (q_acons (q_ix (q_var 4) q_int) (q_acons (q_ix (q_var 4) q_int) (q_acons (q_var 3) q_anil))))))) (t_or1 (t_ne (hu20 hr) (q_var 4) (q_tree (n_disp (q_acons (q_var 1) (q_acons (q_var 2) q_anil)))))))) (qss_one (qs_ret q_bl)) qss_nil)))
    (qss_one (qs_ret q_bl)))))))
end
theorem all_mk {l : PySem.W.OpenLaw} {w : World} {K : PySem.W.Frag} {h : Heap} {mg : Str → Option Value} {fa : Addr} (X : K.In h) (G : h.Ns mainGlobals mg) (hfa : mg "law" = some (.ref fa))
    {f1 : Addr} {od1 an1 : Option Addr} {sl1 : Array (Option Value)} {oc1 kV1 dc1 pm1 cd1 ct1 : Value}
    (a1 : PySem.W.nsIn K mainGlobals "_law_mixed" = some (some (.ref f1))) (l1 : K.lookup f1 = some ⟨oc1, od1, .func (PySem.W.fnOf "_law_mixed" "_law_mixed" (defArgs s_mixedL) (defBody s_mixedL) (defScope s_mixedL) .none kV1 dc1 pm1 an1 cd1 ct1), sl1⟩) (c1 : PySem.W.codeIn K cd1 "_law_mixed" = true) (k1 : PySem.W.keepIn K (.ref f1) = true)
    {f2 : Addr} {od2 an2 : Option Addr} {sl2 : Array (Option Value)} {oc2 kV2 dc2 pm2 cd2 ct2 : Value}
    (a2 : PySem.W.nsIn K mainGlobals "_law_cell_at" = some (some (.ref f2))) (l2 : K.lookup f2 = some ⟨oc2, od2, .func (PySem.W.fnOf "_law_cell_at" "_law_cell_at" (defArgs s_cell_at) (defBody s_cell_at) (defScope s_cell_at) .none kV2 dc2 pm2 an2 cd2 ct2), sl2⟩) (c2 : PySem.W.codeIn K cd2 "_law_cell_at" = true) (k2 : PySem.W.keepIn K (.ref f2) = true)
    {f3 : Addr} {od3 an3 : Option Addr} {sl3 : Array (Option Value)} {oc3 kV3 dc3 pm3 cd3 ct3 : Value}
    (a3 : PySem.W.nsIn K mainGlobals "_law_numbers" = some (some (.ref f3))) (l3 : K.lookup f3 = some ⟨oc3, od3, .func (PySem.W.fnOf "_law_numbers" "_law_numbers" (defArgs s_numbersL) (defBody s_numbersL) (defScope s_numbersL) .none kV3 dc3 pm3 an3 cd3 ct3), sl3⟩) (c3 : PySem.W.codeIn K cd3 "_law_numbers" = true) (k3 : PySem.W.keepIn K (.ref f3) = true)
    {f4 : Addr} {od4 an4 : Option Addr} {sl4 : Array (Option Value)} {oc4 kV4 dc4 pm4 cd4 ct4 : Value}
    (a4 : PySem.W.nsIn K mainGlobals "_law_names" = some (some (.ref f4))) (l4 : K.lookup f4 = some ⟨oc4, od4, .func (PySem.W.fnOf "_law_names" "_law_names" (defArgs s_namesL) (defBody s_namesL) (defScope s_namesL) .none kV4 dc4 pm4 an4 cd4 ct4), sl4⟩) (c4 : PySem.W.codeIn K cd4 "_law_names" = true) (k4 : PySem.W.keepIn K (.ref f4) = true)
    {f5 : Addr} {od5 an5 : Option Addr} {sl5 : Array (Option Value)} {oc5 kV5 dc5 pm5 cd5 ct5 : Value}
    (a5 : PySem.W.nsIn K mainGlobals "_law_lot_free" = some (some (.ref f5))) (l5 : K.lookup f5 = some ⟨oc5, od5, .func (PySem.W.fnOf "_law_lot_free" "_law_lot_free" (defArgs s_lot_free) (defBody s_lot_free) (defScope s_lot_free) .none kV5 dc5 pm5 an5 cd5 ct5), sl5⟩) (c5 : PySem.W.codeIn K cd5 "_law_lot_free" = true) (k5 : PySem.W.keepIn K (.ref f5) = true)
    {f6 : Addr} {od6 an6 : Option Addr} {sl6 : Array (Option Value)} {oc6 kV6 dc6 pm6 cd6 ct6 : Value}
    (a6 : PySem.W.nsIn K mainGlobals "_law_work" = some (some (.ref f6))) (l6 : K.lookup f6 = some ⟨oc6, od6, .func (PySem.W.fnOf "_law_work" "_law_work" (defArgs s_workL) (defBody s_workL) (defScope s_workL) .none kV6 dc6 pm6 an6 cd6 ct6), sl6⟩) (c6 : PySem.W.codeIn K cd6 "_law_work" = true) (k6 : PySem.W.keepIn K (.ref f6) = true)
    {f7 : Addr} {od7 an7 : Option Addr} {sl7 : Array (Option Value)} {oc7 kV7 dc7 pm7 cd7 ct7 : Value}
    (a7 : PySem.W.nsIn K mainGlobals "_law_lot" = some (some (.ref f7))) (l7 : K.lookup f7 = some ⟨oc7, od7, .func (PySem.W.fnOf "_law_lot" "_law_lot" (defArgs s_lot) (defBody s_lot) (defScope s_lot) .none kV7 dc7 pm7 an7 cd7 ct7), sl7⟩) (c7 : PySem.W.codeIn K cd7 "_law_lot" = true) (k7 : PySem.W.keepIn K (.ref f7) = true)
    {f8 : Addr} {od8 an8 : Option Addr} {sl8 : Array (Option Value)} {oc8 kV8 dc8 pm8 cd8 ct8 : Value}
    (a8 : PySem.W.nsIn K mainGlobals "_law_bent" = some (some (.ref f8))) (l8 : K.lookup f8 = some ⟨oc8, od8, .func (PySem.W.fnOf "_law_bent" "_law_bent" (defArgs s_bentL) (defBody s_bentL) (defScope s_bentL) .none kV8 dc8 pm8 an8 cd8 ct8), sl8⟩) (c8 : PySem.W.codeIn K cd8 "_law_bent" = true) (k8 : PySem.W.keepIn K (.ref f8) = true)
    {f9 : Addr} {od9 an9 : Option Addr} {sl9 : Array (Option Value)} {oc9 kV9 dc9 pm9 cd9 ct9 : Value}
    (a9 : PySem.W.nsIn K mainGlobals "done_moments" = some (some (.ref f9))) (l9 : K.lookup f9 = some ⟨oc9, od9, .func (PySem.W.fnOf "done_moments" "done_moments" (defArgs s_done_moments) (defBody s_done_moments) (defScope s_done_moments) .none kV9 dc9 pm9 an9 cd9 ct9), sl9⟩) (c9 : PySem.W.codeIn K cd9 "done_moments" = true) (k9 : PySem.W.keepIn K (.ref f9) = true)
    {f10 : Addr} {od10 an10 : Option Addr} {sl10 : Array (Option Value)} {oc10 kV10 dc10 pm10 cd10 ct10 : Value}
    (a10 : PySem.W.nsIn K mainGlobals "is_work" = some (some (.ref f10))) (l10 : K.lookup f10 = some ⟨oc10, od10, .func (PySem.W.fnOf "is_work" "is_work" (defArgs s_is_work) (defBody s_is_work) (defScope s_is_work) .none kV10 dc10 pm10 an10 cd10 ct10), sl10⟩) (c10 : PySem.W.codeIn K cd10 "is_work" = true) (k10 : PySem.W.keepIn K (.ref f10) = true)
    {f11 : Addr} {od11 an11 : Option Addr} {sl11 : Array (Option Value)} {oc11 kV11 dc11 pm11 cd11 ct11 : Value}
    (a11 : PySem.W.nsIn K mainGlobals "needed_works" = some (some (.ref f11))) (l11 : K.lookup f11 = some ⟨oc11, od11, .func (PySem.W.fnOf "needed_works" "needed_works" (defArgs s_needed_worksX) (defBody s_needed_worksX) (defScope s_needed_worksX) .none kV11 dc11 pm11 an11 cd11 ct11), sl11⟩) (c11 : PySem.W.codeIn K cd11 "needed_works" = true) (k11 : PySem.W.keepIn K (.ref f11) = true)
    {f12 : Addr} {od12 an12 : Option Addr} {sl12 : Array (Option Value)} {oc12 kV12 dc12 pm12 cd12 ct12 : Value}
    (a12 : PySem.W.nsIn K mainGlobals "least_ready" = some (some (.ref f12))) (l12 : K.lookup f12 = some ⟨oc12, od12, .func (PySem.W.fnOf "least_ready" "least_ready" (defArgs s_least_readyX) (defBody s_least_readyX) (defScope s_least_readyX) .none kV12 dc12 pm12 an12 cd12 ct12), sl12⟩) (c12 : PySem.W.codeIn K cd12 "least_ready" = true) (k12 : PySem.W.keepIn K (.ref f12) = true)
    {f13 : Addr} {od13 an13 : Option Addr} {sl13 : Array (Option Value)} {oc13 kV13 dc13 pm13 cd13 ct13 : Value}
    (a13 : PySem.W.nsIn K mainGlobals "order_of" = some (some (.ref f13))) (l13 : K.lookup f13 = some ⟨oc13, od13, .func (PySem.W.fnOf "order_of" "order_of" (defArgs s_order_ofX) (defBody s_order_ofX) (defScope s_order_ofX) .none kV13 dc13 pm13 an13 cd13 ct13), sl13⟩) (c13 : PySem.W.codeIn K cd13 "order_of" = true) (k13 : PySem.W.keepIn K (.ref f13) = true)
    {f14 : Addr} {od14 an14 : Option Addr} {sl14 : Array (Option Value)} {oc14 kV14 dc14 pm14 cd14 ct14 : Value}
    (a14 : PySem.W.nsIn K mainGlobals "earliest" = some (some (.ref f14))) (l14 : K.lookup f14 = some ⟨oc14, od14, .func (PySem.W.fnOf "earliest" "earliest" (defArgs s_earliestX) (defBody s_earliestX) (defScope s_earliestX) .none kV14 dc14 pm14 an14 cd14 ct14), sl14⟩) (c14 : PySem.W.codeIn K cd14 "earliest" = true) (k14 : PySem.W.keepIn K (.ref f14) = true)
    {f15 : Addr} {od15 an15 : Option Addr} {sl15 : Array (Option Value)} {oc15 kV15 dc15 pm15 cd15 ct15 : Value}
    (a15 : PySem.W.nsIn K mainGlobals "length" = some (some (.ref f15))) (l15 : K.lookup f15 = some ⟨oc15, od15, .func (PySem.W.fnOf "length" "length" (defArgs s_lengthX) (defBody s_lengthX) (defScope s_lengthX) .none kV15 dc15 pm15 an15 cd15 ct15), sl15⟩) (c15 : PySem.W.codeIn K cd15 "length" = true) (k15 : PySem.W.keepIn K (.ref f15) = true)
    {f16 : Addr} {od16 an16 : Option Addr} {sl16 : Array (Option Value)} {oc16 kV16 dc16 pm16 cd16 ct16 : Value}
    (a16 : PySem.W.nsIn K mainGlobals "least_hours" = some (some (.ref f16))) (l16 : K.lookup f16 = some ⟨oc16, od16, .func (PySem.W.fnOf "least_hours" "least_hours" (defArgs s_least_hours) (defBody s_least_hours) (defScope s_least_hours) .none kV16 dc16 pm16 an16 cd16 ct16), sl16⟩) (c16 : PySem.W.codeIn K cd16 "least_hours" = true) (k16 : PySem.W.keepIn K (.ref f16) = true)
    {f17 : Addr} {od17 an17 : Option Addr} {sl17 : Array (Option Value)} {oc17 kV17 dc17 pm17 cd17 ct17 : Value}
    (a17 : PySem.W.nsIn K mainGlobals "least_end" = some (some (.ref f17))) (l17 : K.lookup f17 = some ⟨oc17, od17, .func (PySem.W.fnOf "least_end" "least_end" (defArgs s_least_endX) (defBody s_least_endX) (defScope s_least_endX) .none kV17 dc17 pm17 an17 cd17 ct17), sl17⟩) (c17 : PySem.W.codeIn K cd17 "least_end" = true) (k17 : PySem.W.keepIn K (.ref f17) = true)
    {f18 : Addr} {od18 an18 : Option Addr} {sl18 : Array (Option Value)} {oc18 kV18 dc18 pm18 cd18 ct18 : Value}
    (a18 : PySem.W.nsIn K mainGlobals "corners" = some (some (.ref f18))) (l18 : K.lookup f18 = some ⟨oc18, od18, .func (PySem.W.fnOf "corners" "corners" (defArgs s_cornersX) (defBody s_cornersX) (defScope s_cornersX) .none kV18 dc18 pm18 an18 cd18 ct18), sl18⟩) (c18 : PySem.W.codeIn K cd18 "corners" = true) (k18 : PySem.W.keepIn K (.ref f18) = true)
    {f19 : Addr} {od19 an19 : Option Addr} {sl19 : Array (Option Value)} {oc19 kV19 dc19 pm19 cd19 ct19 : Value}
    (a19 : PySem.W.nsIn K mainGlobals "end_for" = some (some (.ref f19))) (l19 : K.lookup f19 = some ⟨oc19, od19, .func (PySem.W.fnOf "end_for" "end_for" (defArgs s_end_forX) (defBody s_end_forX) (defScope s_end_forX) .none kV19 dc19 pm19 an19 cd19 ct19), sl19⟩) (c19 : PySem.W.codeIn K cd19 "end_for" = true) (k19 : PySem.W.keepIn K (.ref f19) = true)
    {f20 : Addr} {od20 an20 : Option Addr} {sl20 : Array (Option Value)} {oc20 kV20 dc20 pm20 cd20 ct20 : Value}
    (a20 : PySem.W.nsIn K mainGlobals "best_end" = some (some (.ref f20))) (l20 : K.lookup f20 = some ⟨oc20, od20, .func (PySem.W.fnOf "best_end" "best_end" (defArgs s_best_endX) (defBody s_best_endX) (defScope s_best_endX) .none kV20 dc20 pm20 an20 cd20 ct20), sl20⟩) (c20 : PySem.W.codeIn K cd20 "best_end" = true) (k20 : PySem.W.keepIn K (.ref f20) = true)
    {f21 : Addr} {od21 an21 : Option Addr} {sl21 : Array (Option Value)} {oc21 kV21 dc21 pm21 cd21 ct21 : Value}
    (a21 : PySem.W.nsIn K mainGlobals "least_sum" = some (some (.ref f21))) (l21 : K.lookup f21 = some ⟨oc21, od21, .func (PySem.W.fnOf "least_sum" "least_sum" (defArgs s_least_sum) (defBody s_least_sum) (defScope s_least_sum) .none kV21 dc21 pm21 an21 cd21 ct21), sl21⟩) (c21 : PySem.W.codeIn K cd21 "least_sum" = true) (k21 : PySem.W.keepIn K (.ref f21) = true)
    {f22 : Addr} {od22 an22 : Option Addr} {sl22 : Array (Option Value)} {oc22 kV22 dc22 pm22 cd22 ct22 : Value}
    (a22 : PySem.W.nsIn K mainGlobals "best_sum" = some (some (.ref f22))) (l22 : K.lookup f22 = some ⟨oc22, od22, .func (PySem.W.fnOf "best_sum" "best_sum" (defArgs s_best_sumX) (defBody s_best_sumX) (defScope s_best_sumX) .none kV22 dc22 pm22 an22 cd22 ct22), sl22⟩) (c22 : PySem.W.codeIn K cd22 "best_sum" = true) (k22 : PySem.W.keepIn K (.ref f22) = true)
    {f23 : Addr} {od23 an23 : Option Addr} {sl23 : Array (Option Value)} {oc23 kV23 dc23 pm23 cd23 ct23 : Value}
    (a23 : PySem.W.nsIn K mainGlobals "bonus_stream" = some (some (.ref f23))) (l23 : K.lookup f23 = some ⟨oc23, od23, .func (PySem.W.fnOf "bonus_stream" "bonus_stream" (defArgs s_bonus_streamX) (defBody s_bonus_streamX) (defScope s_bonus_streamX) .none kV23 dc23 pm23 an23 cd23 ct23), sl23⟩) (c23 : PySem.W.codeIn K cd23 "bonus_stream" = true) (k23 : PySem.W.keepIn K (.ref f23) = true)
    {f24 : Addr} {od24 an24 : Option Addr} {sl24 : Array (Option Value)} {oc24 kV24 dc24 pm24 cd24 ct24 : Value}
    (a24 : PySem.W.nsIn K mainGlobals "rest_of" = some (some (.ref f24))) (l24 : K.lookup f24 = some ⟨oc24, od24, .func (PySem.W.fnOf "rest_of" "rest_of" (defArgs s_rest_ofX) (defBody s_rest_ofX) (defScope s_rest_ofX) .none kV24 dc24 pm24 an24 cd24 ct24), sl24⟩) (c24 : PySem.W.codeIn K cd24 "rest_of" = true) (k24 : PySem.W.keepIn K (.ref f24) = true)
    {f25 : Addr} {od25 an25 : Option Addr} {sl25 : Array (Option Value)} {oc25 kV25 dc25 pm25 cd25 ct25 : Value}
    (a25 : PySem.W.nsIn K mainGlobals "_law_asked" = some (some (.ref f25))) (l25 : K.lookup f25 = some ⟨oc25, od25, .func (PySem.W.fnOf "_law_asked" "_law_asked" (defArgs s_l_askedX) (defBody s_l_askedX) (defScope s_l_askedX) .none kV25 dc25 pm25 an25 cd25 ct25), sl25⟩) (c25 : PySem.W.codeIn K cd25 "_law_asked" = true) (k25 : PySem.W.keepIn K (.ref f25) = true)
    {f26 : Addr} {od26 an26 : Option Addr} {sl26 : Array (Option Value)} {oc26 kV26 dc26 pm26 cd26 ct26 : Value}
    (a26 : PySem.W.nsIn K mainGlobals "_law_refused" = some (some (.ref f26))) (l26 : K.lookup f26 = some ⟨oc26, od26, .func (PySem.W.fnOf "_law_refused" "_law_refused" (defArgs s_l_refused) (defBody s_l_refused) (defScope s_l_refused) .none kV26 dc26 pm26 an26 cd26 ct26), sl26⟩) (c26 : PySem.W.codeIn K cd26 "_law_refused" = true) (k26 : PySem.W.keepIn K (.ref f26) = true)
    {f27 : Addr} {od27 an27 : Option Addr} {sl27 : Array (Option Value)} {oc27 kV27 dc27 pm27 cd27 ct27 : Value}
    (a27 : PySem.W.nsIn K mainGlobals "law" = some (some (.ref f27))) (l27 : K.lookup f27 = some ⟨oc27, od27, .func (PySem.W.fnOf "law" "law" (defArgs s_law) (defBody s_law) (defScope s_law) .none kV27 dc27 pm27 an27 cd27 ct27), sl27⟩) (c27 : PySem.W.codeIn K cd27 "law" = true) (k27 : PySem.W.keepIn K (.ref f27) = true)
    (z_len : PySem.W.nsIn K mainGlobals "len" = some none)
    (z_range : PySem.W.nsIn K mainGlobals "range" = some none)
    (z_min : PySem.W.nsIn K mainGlobals "min" = some none)
    (z_int : PySem.W.nsIn K mainGlobals "int" = some none)
    (z_max : PySem.W.nsIn K mainGlobals "max" = some none)
    (z_zip : PySem.W.nsIn K mainGlobals "zip" = some none)
    (z_all : PySem.W.nsIn K mainGlobals "all" = some none)
    (z_isinstance : PySem.W.nsIn K mainGlobals "isinstance" = some none)
    (z_ValueError : PySem.W.nsIn K mainGlobals "ValueError" = some none)
    (z_list : PySem.W.nsIn K mainGlobals "list" = some none)
    {C_BookError : Addr} (e_BookError : PySem.W.nsIn K mainGlobals "BookError" = some (some (.ref C_BookError))) (x_BookError : PySem.W.excIn K C_BookError mroVE "ValueError.__new__" = true)
    {C_NoRoom : Addr} (e_NoRoom : PySem.W.nsIn K mainGlobals "NoRoom" = some (some (.ref C_NoRoom))) (x_NoRoom : PySem.W.excIn K C_NoRoom mroVE "ValueError.__new__" = true)
    {C_NoRow : Addr} (e_NoRow : PySem.W.nsIn K mainGlobals "NoRow" = some (some (.ref C_NoRow))) (x_NoRow : PySem.W.excIn K C_NoRow mroVE "ValueError.__new__" = true)
    {C_NoName : Addr} (e_NoName : PySem.W.nsIn K mainGlobals "NoName" = some (some (.ref C_NoName))) (x_NoName : PySem.W.excIn K C_NoName mroVE "ValueError.__new__" = true)
    {C_NoOrder : Addr} (e_NoOrder : PySem.W.nsIn K mainGlobals "NoOrder" = some (some (.ref C_NoOrder))) (x_NoOrder : PySem.W.excIn K C_NoOrder mroVE "ValueError.__new__" = true)
    {C_NoText : Addr} (e_NoText : PySem.W.nsIn K mainGlobals "NoText" = some (some (.ref C_NoText))) (x_NoText : PySem.W.excIn K C_NoText mroVE "ValueError.__new__" = true)
    (t_BookError : PySem.W.typeIn K (.ref C_BookError) = some (.type "type"))
    (t_NoRoom : PySem.W.typeIn K (.ref C_NoRoom) = some (.type "type"))
    (t_NoRow : PySem.W.typeIn K (.ref C_NoRow) = some (.type "type"))
    (t_NoName : PySem.W.typeIn K (.ref C_NoName) = some (.type "type"))
    (t_NoOrder : PySem.W.typeIn K (.ref C_NoOrder) = some (.type "type"))
    (t_NoText : PySem.W.typeIn K (.ref C_NoText) = some (.type "type"))
    (g_NoOrder : PySem.W.findIn K (.ref C_NoOrder) "__getattribute__" = some (some (.builtin "BaseException.__getattribute__"))) (r_NoOrder : PySem.W.findIn K (.ref C_NoOrder) "__getattr__" = some none) (b_NoOrder : PySem.W.mroIn K C_NoOrder (.type "BaseException") = some true) (h_NoOrder : PySem.W.findIn K (.ref C_NoOrder) "__class__" = some (some (.builtin "object.__class__"))) (o_NoOrder : PySem.W.mroIn K C_NoOrder (.type "object") = some true) (v_NoOrder : PySem.W.subIn K (.ref C_NoOrder) (.type "ValueError") = some true)
    (p_NoOrder_BookError : PySem.W.mroIn K C_NoOrder (.ref C_BookError) = some true)
    (p_NoOrder_NoRoom : PySem.W.mroIn K C_NoOrder (.ref C_NoRoom) = some false)
    (p_NoOrder_NoRow : PySem.W.mroIn K C_NoOrder (.ref C_NoRow) = some false)
    (p_NoOrder_NoName : PySem.W.mroIn K C_NoOrder (.ref C_NoName) = some false)
    (p_NoOrder_NoOrder : PySem.W.mroIn K C_NoOrder (.ref C_NoOrder) = some true)
    (p_NoOrder_NoText : PySem.W.mroIn K C_NoOrder (.ref C_NoText) = some false) :
    ∃ fd : FuncData, (∀ (s : Shared) (v : Value), BindsTo s fd ⟨[v], []⟩ [("_law_script", v)]) ∧ ∀ base : Heap, K.In base → base.Ns mainGlobals mg → FnOk l.prog w K mg base CX0 11 fa fd ["_law_script"] (spT K 1 R_law) := by
  have e := hfa.symm.trans (PySem.W.mg_of X G a27)
  cases e
  have F1 := fun_mk (st := s_mixedL) l1 c1 k1
  have b1 := F1.binds (ps := ["_law_cell", "_law_k"]) fun _ _ _ _ _ _ us hl => match us, hl with | [_, _], _ => rfl
  have F2 := fun_mk (st := s_cell_at) l2 c2 k2
  have b2 := F2.binds (ps := ["_law_script", "_law_k"]) fun _ _ _ _ _ _ us hl => match us, hl with | [_, _], _ => rfl
  have F3 := fun_mk (st := s_numbersL) l3 c3 k3
  have b3 := F3.binds (ps := ["_law_cells"]) fun _ _ _ _ _ _ us hl => match us, hl with | [_], _ => rfl
  have F4 := fun_mk (st := s_namesL) l4 c4 k4
  have b4 := F4.binds (ps := ["_law_cell", "_law_many"]) fun _ _ _ _ _ _ us hl => match us, hl with | [_, _], _ => rfl
  have F5 := fun_mk (st := s_lot_free) l5 c5 k5
  have b5 := F5.binds (ps := ["_law_cells", "_law_many", "_law_unit"]) fun _ _ _ _ _ _ us hl => match us, hl with | [_, _, _], _ => rfl
  have F6 := fun_mk (st := s_workL) l6 c6 k6
  have b6 := F6.binds (ps := ["_law_one", "_law_two", "_law_three", "_law_mode", "_law_unit"]) fun _ _ _ _ _ _ us hl => match us, hl with | [_, _, _, _, _], _ => rfl
  have F7 := fun_mk (st := s_lot) l7 c7 k7
  have b7 := F7.binds (ps := ["_law_cells", "_law_most", "_law_unit"]) fun _ _ _ _ _ _ us hl => match us, hl with | [_, _, _], _ => rfl
  have F8 := fun_mk (st := s_bentL) l8 c8 k8
  have b8 := F8.binds (ps := ["_law_needs", "_law_many", "_law_script"]) fun _ _ _ _ _ _ us hl => match us, hl with | [_, _, _], _ => rfl
  have F9 := fun_mk (st := s_done_moments) l9 c9 k9
  have b9 := F9.binds (ps := ["begins", "hours"]) fun _ _ _ _ _ _ us hl => match us, hl with | [_, _], _ => rfl
  have F10 := fun_mk (st := s_is_work) l10 c10 k10
  have b10 := F10.binds (ps := ["many", "number"]) fun _ _ _ _ _ _ us hl => match us, hl with | [_, _], _ => rfl
  have F11 := fun_mk (st := s_needed_worksX) l11 c11 k11
  have b11 := F11.binds (ps := ["many", "needs"]) fun _ _ _ _ _ _ us hl => match us, hl with | [_, _], _ => rfl
  have F12 := fun_mk (st := s_least_readyX) l12 c12 k12
  have b12 := F12.binds (ps := ["needed", "told"]) fun _ _ _ _ _ _ us hl => match us, hl with | [_, _], _ => rfl
  have F13 := fun_mk (st := s_order_ofX) l13 c13 k13
  have b13 := F13.binds (ps := ["many", "needs"]) fun _ _ _ _ _ _ us hl => match us, hl with | [_, _], _ => rfl
  have F14 := fun_mk (st := s_earliestX) l14 c14 k14
  have b14 := F14.binds (ps := ["hours", "needs"]) fun _ _ _ _ _ _ us hl => match us, hl with | [_, _], _ => rfl
  have F15 := fun_mk (st := s_lengthX) l15 c15 k15
  have b15 := F15.binds (ps := ["hours", "needs"]) fun _ _ _ _ _ _ us hl => match us, hl with | [_, _], _ => rfl
  have F16 := fun_mk (st := s_least_hours) l16 c16 k16
  have b16 := F16.binds (ps := ["works"]) fun _ _ _ _ _ _ us hl => match us, hl with | [_], _ => rfl
  have F17 := fun_mk (st := s_least_endX) l17 c17 k17
  have b17 := F17.binds (ps := ["works", "needs"]) fun _ _ _ _ _ _ us hl => match us, hl with | [_, _], _ => rfl
  have F18 := fun_mk (st := s_cornersX) l18 c18 k18
  have b18 := F18.binds (ps := ["works", "needs"]) fun _ _ _ _ _ _ us hl => match us, hl with | [_, _], _ => rfl
  have F19 := fun_mk (st := s_end_forX) l19 c19 k19
  have b19 := F19.binds (ps := ["works", "needs", "budget"]) fun _ _ _ _ _ _ us hl => match us, hl with | [_, _, _], _ => rfl
  have F20 := fun_mk (st := s_best_endX) l20 c20 k20
  have b20 := F20.binds (ps := ["works", "needs", "bonus"]) fun _ _ _ _ _ _ us hl => match us, hl with | [_, _, _], _ => rfl
  have F21 := fun_mk (st := s_least_sum) l21 c21 k21
  have b21 := F21.binds (ps := ["told", "bonus"]) fun _ _ _ _ _ _ us hl => match us, hl with | [_, _], _ => rfl
  have F22 := fun_mk (st := s_best_sumX) l22 c22 k22
  have b22 := F22.binds (ps := ["works", "needs", "bonus"]) fun _ _ _ _ _ _ us hl => match us, hl with | [_, _, _], _ => rfl
  have F23 := fun_mk (st := s_bonus_streamX) l23 c23 k23
  have b23 := F23.binds (ps := ["works", "needs", "bonus"]) fun _ _ _ _ _ _ us hl => match us, hl with | [_, _, _], _ => rfl
  have F24 := fun_mk (st := s_rest_ofX) l24 c24 k24
  have b24 := F24.binds (ps := ["works", "needs", "plan", "moment"]) fun _ _ _ _ _ _ us hl => match us, hl with | [_, _, _, _], _ => rfl
  have F25 := fun_mk (st := s_l_askedX) l25 c25 k25
  have b25 := F25.binds (ps := ["_law_k", "_law_works", "_law_needs", "_law_far"]) fun _ _ _ _ _ _ us hl => match us, hl with | [_, _, _, _], _ => rfl
  have F26 := fun_mk (st := s_l_refused) l26 c26 k26
  have b26 := F26.binds (ps := ["_law_k", "_law_works", "_law_needs", "_law_end"]) fun _ _ _ _ _ _ us hl => match us, hl with | [_, _, _, _], _ => rfl
  have F27 := fun_mk (st := s_law) l27 c27 k27
  have b27 := F27.binds (ps := ["_law_script"]) fun _ _ _ _ _ _ us hl => match us, hl with | [_], _ => rfl
  have m_len := PySem.W.mg_none_of X G z_len
  have m_range := PySem.W.mg_none_of X G z_range
  have m_min := PySem.W.mg_none_of X G z_min
  have m_int := PySem.W.mg_none_of X G z_int
  have m_max := PySem.W.mg_none_of X G z_max
  have m_zip := PySem.W.mg_none_of X G z_zip
  have m_all := PySem.W.mg_none_of X G z_all
  have m_isinstance := PySem.W.mg_none_of X G z_isinstance
  have m_ValueError := PySem.W.mg_none_of X G z_ValueError
  have m_list := PySem.W.mg_none_of X G z_list
  have E_BookError : ∃ C, ExC K mg "BookError" C := ⟨C_BookError, e_BookError, PySem.W.mg_of X G e_BookError, x_BookError⟩
  have E_NoRoom : ∃ C, ExC K mg "NoRoom" C := ⟨C_NoRoom, e_NoRoom, PySem.W.mg_of X G e_NoRoom, x_NoRoom⟩
  have E_NoRow : ∃ C, ExC K mg "NoRow" C := ⟨C_NoRow, e_NoRow, PySem.W.mg_of X G e_NoRow, x_NoRow⟩
  have E_NoName : ∃ C, ExC K mg "NoName" C := ⟨C_NoName, e_NoName, PySem.W.mg_of X G e_NoName, x_NoName⟩
  have E_NoOrder : ∃ C, ExC K mg "NoOrder" C := ⟨C_NoOrder, e_NoOrder, PySem.W.mg_of X G e_NoOrder, x_NoOrder⟩
  have E_NoText : ∃ C, ExC K mg "NoText" C := ⟨C_NoText, e_NoText, PySem.W.mg_of X G e_NoText, x_NoText⟩
  have TT : Tab K mg xtab ["NoOrder"] ["BookError", "NoRoom", "NoRow", "NoName", "NoOrder", "NoText"] := Tab.of (rl := [("NoOrder", C_NoOrder)]) (dl := [("BookError", C_BookError), ("NoRoom", C_NoRoom), ("NoRow", C_NoRow), ("NoName", C_NoName), ("NoOrder", C_NoOrder), ("NoText", C_NoText)]) (all1 e_NoOrder all0) xtab_dom (all1 ⟨⟨e_BookError, PySem.W.mg_of X G e_BookError, x_BookError⟩, t_BookError⟩ (all1 ⟨⟨e_NoRoom, PySem.W.mg_of X G e_NoRoom, x_NoRoom⟩, t_NoRoom⟩ (all1 ⟨⟨e_NoRow, PySem.W.mg_of X G e_NoRow, x_NoRow⟩, t_NoRow⟩ (all1 ⟨⟨e_NoName, PySem.W.mg_of X G e_NoName, x_NoName⟩, t_NoName⟩ (all1 ⟨⟨e_NoOrder, PySem.W.mg_of X G e_NoOrder, x_NoOrder⟩, t_NoOrder⟩ (all1 ⟨⟨e_NoText, PySem.W.mg_of X G e_NoText, x_NoText⟩, t_NoText⟩ all0)))))) (all1 ⟨x_NoOrder, g_NoOrder, r_NoOrder, b_NoOrder, h_NoOrder, o_NoOrder⟩ all0) (all1 v_NoOrder all0) (all1 (all1 p_NoOrder_BookError (all1 p_NoOrder_NoRoom (all1 p_NoOrder_NoRow (all1 p_NoOrder_NoName (all1 p_NoOrder_NoOrder (all1 p_NoOrder_NoText all0)))))) all0)
  refine ⟨PySem.W.fnOf "law" "law" (defArgs s_law) (defBody s_law) (defScope s_law) .none kV27 dc27 pm27 an27 cd27 ct27, fun s v => .of_eq rfl, fun base _ _ => ?_⟩
  have D_mixedL : DefT l.prog w K mg base 1 "_law_mixed" 2 R_mixedL := ⟨f1, _, ["_law_cell", "_law_k"], ok_mixedL F1 , PySem.W.mg_of X G a1, k1, b1⟩
  have D_cell_at : DefT l.prog w K mg base 1 "_law_cell_at" 2 R_cell_at := ⟨f2, _, ["_law_script", "_law_k"], ok_cell_at F2 m_len, PySem.W.mg_of X G a2, k2, b2⟩
  have D_numbersL : DefT l.prog w K mg base 2 "_law_numbers" 1 R_numbersL := ⟨f3, _, ["_law_cells"], ok_numbersL F3 D_mixedL D_cell_at m_range m_min m_len, PySem.W.mg_of X G a3, k3, b3⟩
  have D_namesL : DefT l.prog w K mg base 2 "_law_names" 2 R_namesL := ⟨f4, _, ["_law_cell", "_law_many"], ok_namesL F4 D_mixedL m_range, PySem.W.mg_of X G a4, k4, b4⟩
  have D_lot_free : DefT l.prog w K mg base 2 "_law_lot_free" 3 R_lot_free := ⟨f5, _, ["_law_cells", "_law_many", "_law_unit"], ok_lot_free F5 D_cell_at m_range m_int, PySem.W.mg_of X G a5, k5, b5⟩
  have D_workL : DefT l.prog w K mg base 1 "_law_work" 5 R_workL := ⟨f6, _, ["_law_one", "_law_two", "_law_three", "_law_mode", "_law_unit"], ok_workL F6 m_int, PySem.W.mg_of X G a6, k6, b6⟩
  have D_lot : DefT l.prog w K mg base 3 "_law_lot" 3 R_lot := ⟨f7, _, ["_law_cells", "_law_most", "_law_unit"], ok_lot F7 D_numbersL D_cell_at D_namesL D_lot_free D_workL m_range m_min m_int m_len, PySem.W.mg_of X G a7, k7, b7⟩
  have D_bentL : DefT l.prog w K mg base 2 "_law_bent" 3 R_bentL := ⟨f8, _, ["_law_needs", "_law_many", "_law_script"], ok_bentL F8 D_mixedL D_cell_at m_range m_max m_len, PySem.W.mg_of X G a8, k8, b8⟩
  have D_done_moments : DefT l.prog w K mg base 1 "done_moments" 2 R_done_moments := ⟨f9, _, ["begins", "hours"], ok_done_moments F9 m_zip, PySem.W.mg_of X G a9, k9, b9⟩
  have D_is_work : DefT l.prog w K mg base 1 "is_work" 2 R_is_work := ⟨f10, _, ["many", "number"], ok_is_work F10 , PySem.W.mg_of X G a10, k10, b10⟩
  have D_needed_worksX : DefX l.prog w K mg base 2 "needed_works" 2 (spT K 2 R_needed_worksX) RX_needed_worksX := ⟨f11, _, ["many", "needs"], ok_needed_worksX F11 D_is_work m_range E_NoOrder, PySem.W.mg_of X G a11, k11, b11⟩
  have D_least_readyX : DefX l.prog w K mg base 1 "least_ready" 2 (spT K 2 R_least_readyX) RX_least_readyX := ⟨f12, _, ["needed", "told"], ok_least_readyX F12 m_range m_len m_all E_NoOrder, PySem.W.mg_of X G a12, k12, b12⟩
  have D_order_ofX : DefX l.prog w K mg base 3 "order_of" 2 (spT K 2 R_order_ofX) RX_order_ofX := ⟨f13, _, ["many", "needs"], ok_order_ofX F13 D_needed_worksX D_least_readyX m_len, PySem.W.mg_of X G a13, k13, b13⟩
  have D_earliestX : DefX l.prog w K mg base 4 "earliest" 2 (spT K 2 R_earliestX) RX_earliestX := ⟨f14, _, ["hours", "needs"], ok_earliestX F14 D_order_ofX D_needed_worksX m_len m_max, PySem.W.mg_of X G a14, k14, b14⟩
  have D_lengthX : DefX l.prog w K mg base 5 "length" 2 (spT K 2 R_lengthX) RX_lengthX := ⟨f15, _, ["hours", "needs"], ok_lengthX F15 D_done_moments D_earliestX m_max, PySem.W.mg_of X G a15, k15, b15⟩
  have D_least_hours : DefT l.prog w K mg base 1 "least_hours" 1 R_least_hours := ⟨f16, _, ["works"], ok_least_hours F16 , PySem.W.mg_of X G a16, k16, b16⟩
  have D_least_endX : DefX l.prog w K mg base 6 "least_end" 2 (spT K 2 R_least_endX) RX_least_endX := ⟨f17, _, ["works", "needs"], ok_least_endX F17 D_lengthX D_least_hours, PySem.W.mg_of X G a17, k17, b17⟩
  have D_cornersX : DefX l.prog w K mg base 7 "corners" 2 (spT K 2 R_cornersX) RX_cornersX := ⟨f18, _, ["works", "needs"], ok_cornersX F18 D_least_endX, PySem.W.mg_of X G a18, k18, b18⟩
  have D_end_forX : DefX l.prog w K mg base 8 "end_for" 3 (spT K 3 R_end_forX) RX_end_forX := ⟨f19, _, ["works", "needs", "budget"], ok_end_forX F19 D_cornersX, PySem.W.mg_of X G a19, k19, b19⟩
  have D_best_endX : DefX l.prog w K mg base 8 "best_end" 3 (spT K 3 R_best_endX) RX_best_endX := ⟨f20, _, ["works", "needs", "bonus"], ok_best_endX F20 D_cornersX, PySem.W.mg_of X G a20, k20, b20⟩
  have D_least_sum : DefT l.prog w K mg base 1 "least_sum" 2 R_least_sum := ⟨f21, _, ["told", "bonus"], ok_least_sum F21 , PySem.W.mg_of X G a21, k21, b21⟩
  have D_best_sumX : DefX l.prog w K mg base 8 "best_sum" 3 (spT K 3 R_best_sumX) RX_best_sumX := ⟨f22, _, ["works", "needs", "bonus"], ok_best_sumX F22 D_least_sum D_cornersX, PySem.W.mg_of X G a22, k22, b22⟩
  have D_bonus_streamX : DefX l.prog w K mg base 4 "bonus_stream" 3 (spT K 3 R_bonus_streamX) RX_bonus_streamX := ⟨f23, _, ["works", "needs", "bonus"], ok_bonus_streamX F23 D_order_ofX m_len, PySem.W.mg_of X G a23, k23, b23⟩
  have D_rest_ofX : DefX l.prog w K mg base 4 "rest_of" 4 (spT K 4 R_rest_ofX) RX_rest_ofX := ⟨f24, _, ["works", "needs", "plan", "moment"], ok_rest_ofX F24 D_order_ofX m_len, PySem.W.mg_of X G a24, k24, b24⟩
  have D_l_askedX : DefX l.prog w K mg base 9 "_law_asked" 4 (spT K 4 R_l_askedX) RX_l_askedX := ⟨f25, _, ["_law_k", "_law_works", "_law_needs", "_law_far"], ok_l_askedX F25 D_end_forX D_best_endX D_best_sumX D_bonus_streamX D_rest_ofX, PySem.W.mg_of X G a25, k25, b25⟩
  have D_l_refused : DefT l.prog w K mg base 10 "_law_refused" 4 R_l_refused := ⟨f26, _, ["_law_k", "_law_works", "_law_needs", "_law_end"], ok_l_refused F26 D_l_askedX m_isinstance m_ValueError TT, PySem.W.mg_of X G a26, k26, b26⟩
  exact ok_law F27 D_lot D_bentL D_cell_at D_l_refused m_range m_len m_list
end K59
open PySem PySem.W PyProof.Rows
set_option maxRecDepth 100000 in
set_option maxHeartbeats 0 in
theorem PySem.Challenge.cw_hastebook_k59_wishes_and_rests_refused_holds : PySem.Challenge.rw_hastebook_k59_wishes_and_rests_refused.Holds := by
  w_on; o_law; refine holds_open (q := HT.vw) (YP := Hook.says (kHook HT.KH HT.KA HT.ka)) (N := 3780) HT.left (Hook.of (kHook HT.KH HT.KA HT.ka)) (Hook.keeps _) HT.xs XL.keeps rfl rfl rfl HT.rs rfl (by first | assumption | decide +kernel) (by decide +kernel) ⟨rfl, rfl, rfl, rfl, rfl, by decide +kernel⟩ ?hw ?hc; (case hw => w_witness2)
  k_fill
  refine TL.walk_tree (l := PySem.Challenge.rw_hastebook_k59_wishes_and_rests_refused) (x := "_law_script") (R := K59.R_law) (k := 11) rfl rfl ⟨rfl, by decide, by decide⟩ (fun w h Y => PySem.W.kIn_of Y) K59.law_true ?F
  case F =>
    intro w mg fa h KX G hmg
    refine' K59.all_mk KX G hmg ?a1 ?l1 ?c1 ?k1 ?a2 ?l2 ?c2 ?k2 ?a3 ?l3 ?c3 ?k3 ?a4 ?l4 ?c4 ?k4 ?a5 ?l5 ?c5 ?k5 ?a6 ?l6 ?c6 ?k6 ?a7 ?l7 ?c7 ?k7 ?a8 ?l8 ?c8 ?k8 ?a9 ?l9 ?c9 ?k9 ?a10 ?l10 ?c10 ?k10 ?a11 ?l11 ?c11 ?k11 ?a12 ?l12 ?c12 ?k12 ?a13 ?l13 ?c13 ?k13 ?a14 ?l14 ?c14 ?k14 ?a15 ?l15 ?c15 ?k15 ?a16 ?l16 ?c16 ?k16 ?a17 ?l17 ?c17 ?k17 ?a18 ?l18 ?c18 ?k18 ?a19 ?l19 ?c19 ?k19 ?a20 ?l20 ?c20 ?k20 ?a21 ?l21 ?c21 ?k21 ?a22 ?l22 ?c22 ?k22 ?a23 ?l23 ?c23 ?k23 ?a24 ?l24 ?c24 ?k24 ?a25 ?l25 ?c25 ?k25 ?a26 ?l26 ?c26 ?k26 ?a27 ?l27 ?c27 ?k27 ?z_len ?z_range ?z_min ?z_int ?z_max ?z_zip ?z_all ?z_isinstance ?z_ValueError ?z_list ?e_BookError ?x_BookError ?e_NoRoom ?x_NoRoom ?e_NoRow ?x_NoRow ?e_NoName ?x_NoName ?e_NoOrder ?x_NoOrder ?e_NoText ?x_NoText ?t_BookError ?t_NoRoom ?t_NoRow ?t_NoName ?t_NoOrder ?t_NoText ?g_NoOrder ?r_NoOrder ?b_NoOrder ?h_NoOrder ?o_NoOrder ?v_NoOrder ?p_NoOrder_BookError ?p_NoOrder_NoRoom ?p_NoOrder_NoRow ?p_NoOrder_NoName ?p_NoOrder_NoOrder ?p_NoOrder_NoText
    (case a1 => k_is); (case l1 => k_is); (case c1 => k_is); (case k1 => k_is)
    (case a2 => k_is); (case l2 => k_is); (case c2 => k_is); (case k2 => k_is)
    (case a3 => k_is); (case l3 => k_is); (case c3 => k_is); (case k3 => k_is)
    (case a4 => k_is); (case l4 => k_is); (case c4 => k_is); (case k4 => k_is)
    (case a5 => k_is); (case l5 => k_is); (case c5 => k_is); (case k5 => k_is)
    (case a6 => k_is); (case l6 => k_is); (case c6 => k_is); (case k6 => k_is)
    (case a7 => k_is); (case l7 => k_is); (case c7 => k_is); (case k7 => k_is)
    (case a8 => k_is); (case l8 => k_is); (case c8 => k_is); (case k8 => k_is)
    (case a9 => k_is); (case l9 => k_is); (case c9 => k_is); (case k9 => k_is)
    (case a10 => k_is); (case l10 => k_is); (case c10 => k_is); (case k10 => k_is)
    (case a11 => k_is); (case l11 => k_is); (case c11 => k_is); (case k11 => k_is)
    (case a12 => k_is); (case l12 => k_is); (case c12 => k_is); (case k12 => k_is)
    (case a13 => k_is); (case l13 => k_is); (case c13 => k_is); (case k13 => k_is)
    (case a14 => k_is); (case l14 => k_is); (case c14 => k_is); (case k14 => k_is)
    (case a15 => k_is); (case l15 => k_is); (case c15 => k_is); (case k15 => k_is)
    (case a16 => k_is); (case l16 => k_is); (case c16 => k_is); (case k16 => k_is)
    (case a17 => k_is); (case l17 => k_is); (case c17 => k_is); (case k17 => k_is)
    (case a18 => k_is); (case l18 => k_is); (case c18 => k_is); (case k18 => k_is)
    (case a19 => k_is); (case l19 => k_is); (case c19 => k_is); (case k19 => k_is)
    (case a20 => k_is); (case l20 => k_is); (case c20 => k_is); (case k20 => k_is)
    (case a21 => k_is); (case l21 => k_is); (case c21 => k_is); (case k21 => k_is)
    (case a22 => k_is); (case l22 => k_is); (case c22 => k_is); (case k22 => k_is)
    (case a23 => k_is); (case l23 => k_is); (case c23 => k_is); (case k23 => k_is)
    (case a24 => k_is); (case l24 => k_is); (case c24 => k_is); (case k24 => k_is)
    (case a25 => k_is); (case l25 => k_is); (case c25 => k_is); (case k25 => k_is)
    (case a26 => k_is); (case l26 => k_is); (case c26 => k_is); (case k26 => k_is)
    (case a27 => k_is); (case l27 => k_is); (case c27 => k_is); (case k27 => k_is)
    (case z_len => k_is)
    (case z_range => k_is)
    (case z_min => k_is)
    (case z_int => k_is)
    (case z_max => k_is)
    (case z_zip => k_is)
    (case z_all => k_is)
    (case z_isinstance => k_is)
    (case z_ValueError => k_is)
    (case z_list => k_is)
    (case e_BookError => k_is); (case x_BookError => k_exc)
    (case e_NoRoom => k_is); (case x_NoRoom => k_exc)
    (case e_NoRow => k_is); (case x_NoRow => k_exc)
    (case e_NoName => k_is); (case x_NoName => k_exc)
    (case e_NoOrder => k_is); (case x_NoOrder => k_exc)
    (case e_NoText => k_is); (case x_NoText => k_exc)
    (case t_BookError => k_is)
    (case t_NoRoom => k_is)
    (case t_NoRow => k_is)
    (case t_NoName => k_is)
    (case t_NoOrder => k_is)
    (case t_NoText => k_is)
    (case g_NoOrder => k_is); (case r_NoOrder => k_is); (case b_NoOrder => k_is); (case h_NoOrder => k_is); (case o_NoOrder => k_is); (case v_NoOrder => k_is)
    (case p_NoOrder_BookError => k_is)
    (case p_NoOrder_NoRoom => k_is)
    (case p_NoOrder_NoRow => k_is)
    (case p_NoOrder_NoName => k_is)
    (case p_NoOrder_NoOrder => k_is)
    (case p_NoOrder_NoText => k_is)

