import PyProof.Rows.All
import Wide.All
import Wide.FinOn
import OpenK.KLine
import KE.KIsAll
import KE.RegKIsAll
import KE.RegKTryMore
import OpenK.KOwn
import KE.KRevIter
import KE.KRevSl
import KE.KItem
import KE.KxBytes
import Lean
import PyProof.EqAt
import PyProof.EqKinds
import PyProof.TupleCall
import PySem.Challenge.RW_thirstwise_k10_refused
set_option Elab.async false
set_option linter.all false
set_option maxRecDepth 1000000
set_option maxHeartbeats 0
namespace L2
open PySem
/-- the j-th statement of a class's body -/
def inClass (s : Stmt) (j : Nat) : Stmt := match s with
  | .ClassDef _ _ _ body _ _ _ _ _ _ _ => body.getD j (.Pass ⟨0, 0, 0, 0⟩)
  | _ => .Pass ⟨0, 0, 0, 0⟩
def defArgs (s : Stmt) : Arguments := match s with
  | .FunctionDef _ a _ _ _ _ _ _ _ _ => a
  | _ => { posonlyargs := [], args := [], vararg := none, kwonlyargs := [], kw_defaults := [], kwarg := none, defaults := [] }
def defBody (s : Stmt) : List Stmt := match s with
  | .FunctionDef _ _ b _ _ _ _ _ _ _ => b
  | _ => []
def defScope (s : Stmt) : Scope := match s with
  | .FunctionDef _ _ _ _ _ _ sc _ _ _ => sc
  | _ => { kind := .function, names := [], isGenerator := false, isCoroutine := false }
end L2
namespace Tw
open PySem L2
def top (i : Nat) : Stmt := PySem.Challenge.pw_thirstwise_k10_refused.main.body.getD i (.Pass ⟨0, 0, 0, 0⟩)
/-- the part of the heap behind the top that is looked at -/
noncomputable def KK : Params → PySem.W.Frag := fun P =>
  (nat_lit 2, { cls := Value.none, data := Data.dict #[] }) ::
  (nat_lit 3, { cls := Value.type "dict", data := Data.dict #[{ hash := PyData.keyHash P (Str.ofString "__name__"), key := Value.str (Str.ofString "__name__") 165, val := Value.str (Str.ofString "law_thirstwise_k10_refused") 625 }, { hash := PyData.keyHash P (Str.ofString "__doc__"), key := Value.str (Str.ofString "__doc__") 166, val := Value.none }, { hash := PyData.keyHash P (Str.ofString "__package__"), key := Value.str (Str.ofString "__package__") 167, val := Value.none }, { hash := PyData.keyHash P (Str.ofString "__loader__"), key := Value.str (Str.ofString "__loader__") 168, val := Value.builtin "__main__.__loader__#opaque" }, { hash := PyData.keyHash P (Str.ofString "__spec__"), key := Value.str (Str.ofString "__spec__") 169, val := Value.none }, { hash := PyData.keyHash P (Str.ofString "__annotations__"), key := Value.str (Str.ofString "__annotations__") 170, val := Value.ref 6 }, { hash := PyData.keyHash P (Str.ofString "__builtins__"), key := Value.str (Str.ofString "__builtins__") 171, val := Value.ref 4 }, { hash := PyData.keyHash P (Str.ofString "__file__"), key := Value.str (Str.ofString "__file__") 173, val := Value.str (Str.ofString "/claim/cut.py") 172 }, { hash := PyData.keyHash P (Str.ofString "__cached__"), key := Value.str (Str.ofString "__cached__") 174, val := Value.none }, { hash := PyData.keyHash P (Str.ofString "_wall"), key := Value.str (Str.ofString "_wall") 193, val := Value.ref 21 }, { hash := PyData.keyHash P (Str.ofString "is_whole"), key := Value.str (Str.ofString "is_whole") 204, val := Value.ref 28 }, { hash := PyData.keyHash P (Str.ofString "GardenError"), key := Value.str (Str.ofString "GardenError") 224, val := Value.ref 38 }, { hash := PyData.keyHash P (Str.ofString "BadPot"), key := Value.str (Str.ofString "BadPot") 240, val := Value.ref 51 }, { hash := PyData.keyHash P (Str.ofString "BadRow"), key := Value.str (Str.ofString "BadRow") 265, val := Value.ref 70 }, { hash := PyData.keyHash P (Str.ofString "TooMany"), key := Value.str (Str.ofString "TooMany") 281, val := Value.ref 82 }, { hash := PyData.keyHash P (Str.ofString "NoState"), key := Value.str (Str.ofString "NoState") 297, val := Value.ref 94 }, { hash := PyData.keyHash P (Str.ofString "NoPot"), key := Value.str (Str.ofString "NoPot") 313, val := Value.ref 106 }, { hash := PyData.keyHash P (Str.ofString "BadDay"), key := Value.str (Str.ofString "BadDay") 338, val := Value.ref 125 }, { hash := PyData.keyHash P (Str.ofString "LONGEST_NAME"), key := Value.str (Str.ofString "LONGEST_NAME") 342, val := Value.int 12 341 }, { hash := PyData.keyHash P (Str.ofString "MOST_GAP"), key := Value.str (Str.ofString "MOST_GAP") 344, val := Value.int 60 343 }, { hash := PyData.keyHash P (Str.ofString "is_name"), key := Value.str (Str.ofString "is_name") 350, val := Value.ref 132 }, { hash := PyData.keyHash P (Str.ofString "Pot"), key := Value.str (Str.ofString "Pot") 411, val := Value.ref 177 }, { hash := PyData.keyHash P (Str.ofString "Cactus"), key := Value.str (Str.ofString "Cactus") 468, val := Value.ref 226 }, { hash := PyData.keyHash P (Str.ofString "MOST_POTS"), key := Value.str (Str.ofString "MOST_POTS") 472, val := Value.int 8 471 }, { hash := PyData.keyHash P (Str.ofString "MOST_CANS"), key := Value.str (Str.ofString "MOST_CANS") 474, val := Value.int 8 473 }, { hash := PyData.keyHash P (Str.ofString "MOST_WEEK"), key := Value.str (Str.ofString "MOST_WEEK") 476, val := Value.int 14 475 }, { hash := PyData.keyHash P (Str.ofString "MOST_STATES"), key := Value.str (Str.ofString "MOST_STATES") 478, val := Value.int 20000 477 }, { hash := PyData.keyHash P (Str.ofString "own_pots"), key := Value.str (Str.ofString "own_pots") 484, val := Value.ref 233 }, { hash := PyData.keyHash P (Str.ofString "refuse_bad_counts"), key := Value.str (Str.ofString "refuse_bad_counts") 494, val := Value.ref 240 }, { hash := PyData.keyHash P (Str.ofString "refuse_name_twice"), key := Value.str (Str.ofString "refuse_name_twice") 500, val := Value.ref 245 }, { hash := PyData.keyHash P (Str.ofString "is_state"), key := Value.str (Str.ofString "is_state") 506, val := Value.ref 250 }, { hash := PyData.keyHash P (Str.ofString "refuse_no_state"), key := Value.str (Str.ofString "refuse_no_state") 514, val := Value.ref 257 }, { hash := PyData.keyHash P (Str.ofString "Garden"), key := Value.str (Str.ofString "Garden") 591, val := Value.ref 303 }, { hash := PyData.keyHash P (Str.ofString "with_cans"), key := Value.str (Str.ofString "with_cans") 599, val := Value.ref 314 }, { hash := PyData.keyHash P (Str.ofString "place_of"), key := Value.str (Str.ofString "place_of") 605, val := Value.ref 319 }, { hash := PyData.keyHash P (Str.ofString "with_gap"), key := Value.str (Str.ofString "with_gap") 616, val := Value.ref 326 }, { hash := PyData.keyHash P (Str.ofString "joined"), key := Value.str (Str.ofString "joined") 624, val := Value.ref 333 }, { hash := PyData.keyHash P (Str.ofString "_law_cell_at"), key := Value.str (Str.ofString "_law_cell_at") 634, val := Value.ref 340 }, { hash := PyData.keyHash P (Str.ofString "_law_draw"), key := Value.str (Str.ofString "_law_draw") 645, val := Value.ref 347 }, { hash := PyData.keyHash P (Str.ofString "_law_sorts"), key := Value.str (Str.ofString "_law_sorts") 653, val := Value.ref 354 }, { hash := PyData.keyHash P (Str.ofString "_law_kind"), key := Value.str (Str.ofString "_law_kind") 661, val := Value.ref 361 }, { hash := PyData.keyHash P (Str.ofString "_law_pot"), key := Value.str (Str.ofString "_law_pot") 672, val := Value.ref 368 }, { hash := PyData.keyHash P (Str.ofString "_law_garden"), key := Value.str (Str.ofString "_law_garden") 685, val := Value.ref 375 }, { hash := PyData.keyHash P (Str.ofString "_law_pots_right"), key := Value.str (Str.ofString "_law_pots_right") 695, val := Value.ref 382 }, { hash := PyData.keyHash P (Str.ofString "_law_changed"), key := Value.str (Str.ofString "_law_changed") 704, val := Value.ref 389 }, { hash := PyData.keyHash P (Str.ofString "law"), key := Value.str (Str.ofString "law") 710, val := Value.ref 394 }] 46 }) ::
  (nat_lit 15, { cls := Value.type "tuple", data := Data.seq #[] }) ::
  (nat_lit 17, { cls := Value.type "tuple", data := Data.seq #[Value.str (Str.ofString "k") 190] }) ::
  (nat_lit 18, { cls := Value.type "tuple", data := Data.seq #[] }) ::
  (nat_lit 20, { cls := Value.type "code", data := Data.fields #[Value.str (Str.ofString "_wall") 187, Value.str (Str.ofString "_wall") 188, Value.str (Str.ofString "/claim/cut.py") 189, Value.int 1 0, Value.int 1 0, Value.int 0 0, Value.int 0 0, Value.int 3 0, Value.ref 15, Value.bool true, Value.int 181 0, Value.ref 16, Value.none, Value.ref 17, Value.ref 18, Value.ref 19, Value.int 191 0, Value.int 1 0, Value.str (Str.ofString "/claim/cut.py") 192] }) ::
  (nat_lit 22, { cls := Value.type "tuple", data := Data.seq #[] }) ::
  (nat_lit 24, { cls := Value.type "tuple", data := Data.seq #[Value.str (Str.ofString "value") 199, Value.str (Str.ofString "least") 200, Value.str (Str.ofString "most") 201] }) ::
  (nat_lit 25, { cls := Value.type "tuple", data := Data.seq #[] }) ::
  (nat_lit 27, { cls := Value.type "code", data := Data.fields #[Value.str (Str.ofString "is_whole") 196, Value.str (Str.ofString "is_whole") 197, Value.str (Str.ofString "/claim/cut.py") 198, Value.int 5 0, Value.int 3 0, Value.int 0 0, Value.int 0 0, Value.int 3 0, Value.ref 22, Value.bool true, Value.int 181 0, Value.ref 23, Value.none, Value.ref 24, Value.ref 25, Value.ref 26, Value.int 202 0, Value.int 5 0, Value.str (Str.ofString "/claim/cut.py") 203] }) ::
  (nat_lit 28, { cls := Value.type "function", data := Data.func { name := Str.ofString "is_whole", qualname := Str.ofString "is_whole", params := defArgs (top 2), body := FuncBody.stmts (defBody (top 2)), scope := defScope (top 2), globals := 3, closure := [], defaults := Value.none, kwdefaults := Value.none, pyModule := Value.str (Str.ofString "thirstwise.checks") 194, code := Value.ref 27 } }) ::
  (nat_lit 29, { cls := Value.type "tuple", data := Data.seq #[Value.type "ValueError"] }) ::
  (nat_lit 36, { cls := Value.type "tuple", data := Data.seq #[] }) ::
  (nat_lit 37, { cls := Value.type "dict", data := Data.dict #[{ hash := PyData.keyHash P (Str.ofString "__module__"), key := Value.str (Str.ofString "__module__") 214, val := Value.str (Str.ofString "thirstwise.errors") 205 }, { hash := PyData.keyHash P (Str.ofString "__firstlineno__"), key := Value.str (Str.ofString "__firstlineno__") 218, val := Value.int 10 217 }, { hash := PyData.keyHash P (Str.ofString "__static_attributes__"), key := Value.str (Str.ofString "__static_attributes__") 219, val := Value.ref 36 }, { hash := PyData.keyHash P (Str.ofString "__weakref__"), key := Value.str (Str.ofString "__weakref__") 221, val := Value.ref 39 }, { hash := PyData.keyHash P (Str.ofString "__doc__"), key := Value.str (Str.ofString "__doc__") 222, val := Value.none }] 3 }) ::
  (nat_lit 38, { cls := Value.type "type", data := Data.cls { name := Str.ofString "GardenError", bases := [Value.type "ValueError"], mro := [Value.ref 38, Value.type "ValueError", Value.type "Exception", Value.type "BaseException", Value.type "object"], ns := 37, qualname := Str.ofString "GardenError", subclasses := [Value.ref 51, Value.ref 70, Value.ref 82, Value.ref 94, Value.ref 106, Value.ref 125] }, slots := #[some (Value.ref 29), none, some (Value.str (Str.ofString "GardenError") 207), some (Value.str (Str.ofString "GardenError") 215), some (Value.builtin "ValueError.__new__"), some (Value.bool true)] }) ::
  (nat_lit 39, { cls := Value.type "getset_descriptor", data := Data.fields #[Value.str (Str.ofString "__weakref__") 220, Value.ref 38, Value.builtin "ExceptionGroup.__weakref__", Value.none] }) ::
  (nat_lit 42, { cls := Value.type "tuple", data := Data.seq #[Value.ref 38] }) ::
  (nat_lit 49, { cls := Value.type "tuple", data := Data.seq #[] }) ::
  (nat_lit 50, { cls := Value.type "dict", data := Data.dict #[{ hash := PyData.keyHash P (Str.ofString "__module__"), key := Value.str (Str.ofString "__module__") 232, val := Value.str (Str.ofString "thirstwise.errors") 205 }, { hash := PyData.keyHash P (Str.ofString "__firstlineno__"), key := Value.str (Str.ofString "__firstlineno__") 236, val := Value.int 12 235 }, { hash := PyData.keyHash P (Str.ofString "__static_attributes__"), key := Value.str (Str.ofString "__static_attributes__") 237, val := Value.ref 49 }, { hash := PyData.keyHash P (Str.ofString "__doc__"), key := Value.str (Str.ofString "__doc__") 238, val := Value.none }] 2 }) ::
  (nat_lit 51, { cls := Value.type "type", data := Data.cls { name := Str.ofString "BadPot", bases := [Value.ref 38], mro := [Value.ref 51, Value.ref 38, Value.type "ValueError", Value.type "Exception", Value.type "BaseException", Value.type "object"], ns := 50, qualname := Str.ofString "BadPot" }, slots := #[some (Value.ref 42), none, some (Value.str (Str.ofString "BadPot") 225), some (Value.str (Str.ofString "BadPot") 233), some (Value.builtin "ValueError.__new__"), some (Value.bool true)] }) ::
  (nat_lit 54, { cls := Value.type "tuple", data := Data.seq #[Value.ref 38] }) ::
  (nat_lit 61, { cls := Value.type "tuple", data := Data.seq #[] }) ::
  (nat_lit 63, { cls := Value.type "tuple", data := Data.seq #[Value.str (Str.ofString "self") 256, Value.str (Str.ofString "row") 257] }) ::
  (nat_lit 64, { cls := Value.type "tuple", data := Data.seq #[] }) ::
  (nat_lit 66, { cls := Value.type "code", data := Data.fields #[Value.str (Str.ofString "__init__") 253, Value.str (Str.ofString "BadRow.__init__") 254, Value.str (Str.ofString "/claim/cut.py") 255, Value.int 16 0, Value.int 2 0, Value.int 0 0, Value.int 0 0, Value.int 3 0, Value.ref 61, Value.bool true, Value.int 181 0, Value.ref 62, Value.none, Value.ref 63, Value.ref 64, Value.ref 65, Value.int 258 0, Value.int 16 0, Value.str (Str.ofString "/claim/cut.py") 259] }) ::
  (nat_lit 68, { cls := Value.type "tuple", data := Data.seq #[Value.str (Str.ofString "row") 261] }) ::
  (nat_lit 69, { cls := Value.type "dict", data := Data.dict #[{ hash := PyData.keyHash P (Str.ofString "__module__"), key := Value.str (Str.ofString "__module__") 248, val := Value.str (Str.ofString "thirstwise.errors") 205 }, { hash := PyData.keyHash P (Str.ofString "__firstlineno__"), key := Value.str (Str.ofString "__firstlineno__") 252, val := Value.int 14 251 }, { hash := PyData.keyHash P (Str.ofString "__init__"), key := Value.str (Str.ofString "__init__") 260, val := Value.ref 67 }, { hash := PyData.keyHash P (Str.ofString "__static_attributes__"), key := Value.str (Str.ofString "__static_attributes__") 262, val := Value.ref 68 }, { hash := PyData.keyHash P (Str.ofString "__doc__"), key := Value.str (Str.ofString "__doc__") 263, val := Value.none }] 2 }) ::
  (nat_lit 70, { cls := Value.type "type", data := Data.cls { name := Str.ofString "BadRow", bases := [Value.ref 38], mro := [Value.ref 70, Value.ref 38, Value.type "ValueError", Value.type "Exception", Value.type "BaseException", Value.type "object"], ns := 69, qualname := Str.ofString "BadRow" }, slots := #[some (Value.ref 54), none, some (Value.str (Str.ofString "BadRow") 241), some (Value.str (Str.ofString "BadRow") 249), some (Value.builtin "ValueError.__new__"), some (Value.bool true)] }) ::
  (nat_lit 73, { cls := Value.type "tuple", data := Data.seq #[Value.ref 38] }) ::
  (nat_lit 80, { cls := Value.type "tuple", data := Data.seq #[] }) ::
  (nat_lit 81, { cls := Value.type "dict", data := Data.dict #[{ hash := PyData.keyHash P (Str.ofString "__module__"), key := Value.str (Str.ofString "__module__") 273, val := Value.str (Str.ofString "thirstwise.errors") 205 }, { hash := PyData.keyHash P (Str.ofString "__firstlineno__"), key := Value.str (Str.ofString "__firstlineno__") 277, val := Value.int 19 276 }, { hash := PyData.keyHash P (Str.ofString "__static_attributes__"), key := Value.str (Str.ofString "__static_attributes__") 278, val := Value.ref 80 }, { hash := PyData.keyHash P (Str.ofString "__doc__"), key := Value.str (Str.ofString "__doc__") 279, val := Value.none }] 2 }) ::
  (nat_lit 82, { cls := Value.type "type", data := Data.cls { name := Str.ofString "TooMany", bases := [Value.ref 38], mro := [Value.ref 82, Value.ref 38, Value.type "ValueError", Value.type "Exception", Value.type "BaseException", Value.type "object"], ns := 81, qualname := Str.ofString "TooMany" }, slots := #[some (Value.ref 73), none, some (Value.str (Str.ofString "TooMany") 266), some (Value.str (Str.ofString "TooMany") 274), some (Value.builtin "ValueError.__new__"), some (Value.bool true)] }) ::
  (nat_lit 85, { cls := Value.type "tuple", data := Data.seq #[Value.ref 38] }) ::
  (nat_lit 92, { cls := Value.type "tuple", data := Data.seq #[] }) ::
  (nat_lit 93, { cls := Value.type "dict", data := Data.dict #[{ hash := PyData.keyHash P (Str.ofString "__module__"), key := Value.str (Str.ofString "__module__") 289, val := Value.str (Str.ofString "thirstwise.errors") 205 }, { hash := PyData.keyHash P (Str.ofString "__firstlineno__"), key := Value.str (Str.ofString "__firstlineno__") 293, val := Value.int 21 292 }, { hash := PyData.keyHash P (Str.ofString "__static_attributes__"), key := Value.str (Str.ofString "__static_attributes__") 294, val := Value.ref 92 }, { hash := PyData.keyHash P (Str.ofString "__doc__"), key := Value.str (Str.ofString "__doc__") 295, val := Value.none }] 2 }) ::
  (nat_lit 94, { cls := Value.type "type", data := Data.cls { name := Str.ofString "NoState", bases := [Value.ref 38], mro := [Value.ref 94, Value.ref 38, Value.type "ValueError", Value.type "Exception", Value.type "BaseException", Value.type "object"], ns := 93, qualname := Str.ofString "NoState" }, slots := #[some (Value.ref 85), none, some (Value.str (Str.ofString "NoState") 282), some (Value.str (Str.ofString "NoState") 290), some (Value.builtin "ValueError.__new__"), some (Value.bool true)] }) ::
  (nat_lit 97, { cls := Value.type "tuple", data := Data.seq #[Value.ref 38] }) ::
  (nat_lit 104, { cls := Value.type "tuple", data := Data.seq #[] }) ::
  (nat_lit 105, { cls := Value.type "dict", data := Data.dict #[{ hash := PyData.keyHash P (Str.ofString "__module__"), key := Value.str (Str.ofString "__module__") 305, val := Value.str (Str.ofString "thirstwise.errors") 205 }, { hash := PyData.keyHash P (Str.ofString "__firstlineno__"), key := Value.str (Str.ofString "__firstlineno__") 309, val := Value.int 23 308 }, { hash := PyData.keyHash P (Str.ofString "__static_attributes__"), key := Value.str (Str.ofString "__static_attributes__") 310, val := Value.ref 104 }, { hash := PyData.keyHash P (Str.ofString "__doc__"), key := Value.str (Str.ofString "__doc__") 311, val := Value.none }] 2 }) ::
  (nat_lit 106, { cls := Value.type "type", data := Data.cls { name := Str.ofString "NoPot", bases := [Value.ref 38], mro := [Value.ref 106, Value.ref 38, Value.type "ValueError", Value.type "Exception", Value.type "BaseException", Value.type "object"], ns := 105, qualname := Str.ofString "NoPot" }, slots := #[some (Value.ref 97), none, some (Value.str (Str.ofString "NoPot") 298), some (Value.str (Str.ofString "NoPot") 306), some (Value.builtin "ValueError.__new__"), some (Value.bool true)] }) ::
  (nat_lit 109, { cls := Value.type "tuple", data := Data.seq #[Value.ref 38] }) ::
  (nat_lit 116, { cls := Value.type "tuple", data := Data.seq #[] }) ::
  (nat_lit 118, { cls := Value.type "tuple", data := Data.seq #[Value.str (Str.ofString "self") 329, Value.str (Str.ofString "day") 330] }) ::
  (nat_lit 119, { cls := Value.type "tuple", data := Data.seq #[] }) ::
  (nat_lit 121, { cls := Value.type "code", data := Data.fields #[Value.str (Str.ofString "__init__") 326, Value.str (Str.ofString "BadDay.__init__") 327, Value.str (Str.ofString "/claim/cut.py") 328, Value.int 27 0, Value.int 2 0, Value.int 0 0, Value.int 0 0, Value.int 3 0, Value.ref 116, Value.bool true, Value.int 181 0, Value.ref 117, Value.none, Value.ref 118, Value.ref 119, Value.ref 120, Value.int 331 0, Value.int 27 0, Value.str (Str.ofString "/claim/cut.py") 332] }) ::
  (nat_lit 123, { cls := Value.type "tuple", data := Data.seq #[Value.str (Str.ofString "day") 334] }) ::
  (nat_lit 124, { cls := Value.type "dict", data := Data.dict #[{ hash := PyData.keyHash P (Str.ofString "__module__"), key := Value.str (Str.ofString "__module__") 321, val := Value.str (Str.ofString "thirstwise.errors") 205 }, { hash := PyData.keyHash P (Str.ofString "__firstlineno__"), key := Value.str (Str.ofString "__firstlineno__") 325, val := Value.int 25 324 }, { hash := PyData.keyHash P (Str.ofString "__init__"), key := Value.str (Str.ofString "__init__") 333, val := Value.ref 122 }, { hash := PyData.keyHash P (Str.ofString "__static_attributes__"), key := Value.str (Str.ofString "__static_attributes__") 335, val := Value.ref 123 }, { hash := PyData.keyHash P (Str.ofString "__doc__"), key := Value.str (Str.ofString "__doc__") 336, val := Value.none }] 2 }) ::
  (nat_lit 125, { cls := Value.type "type", data := Data.cls { name := Str.ofString "BadDay", bases := [Value.ref 38], mro := [Value.ref 125, Value.ref 38, Value.type "ValueError", Value.type "Exception", Value.type "BaseException", Value.type "object"], ns := 124, qualname := Str.ofString "BadDay" }, slots := #[some (Value.ref 109), none, some (Value.str (Str.ofString "BadDay") 314), some (Value.str (Str.ofString "BadDay") 322), some (Value.builtin "ValueError.__new__"), some (Value.bool true)] }) ::
  (nat_lit 128, { cls := Value.type "tuple", data := Data.seq #[] }) ::
  (nat_lit 131, { cls := Value.type "code", data := Data.fields #[Value.str (Str.ofString "is_name") 345, Value.str (Str.ofString "is_name") 346, Value.str (Str.ofString "/claim/cut.py") 347, Value.int 33 0, Value.int 1 0, Value.int 0 0, Value.int 0 0, Value.int 3 0, Value.ref 128, Value.bool true, Value.int 181 0, Value.ref 129, Value.none, Value.none, Value.none, Value.ref 130, Value.int 348 0, Value.int 33 0, Value.str (Str.ofString "/claim/cut.py") 349] }) ::
  (nat_lit 132, { cls := Value.type "function", data := Data.func { name := Str.ofString "is_name", qualname := Str.ofString "is_name", params := defArgs (top 14), body := FuncBody.stmts (defBody (top 14)), scope := defScope (top 14), globals := 3, closure := [], defaults := Value.none, kwdefaults := Value.none, pyModule := Value.str (Str.ofString "thirstwise.pots") 339, code := Value.ref 131 } }) ::
  (nat_lit 140, { cls := Value.type "tuple", data := Data.seq #[] }) ::
  (nat_lit 142, { cls := Value.type "tuple", data := Data.seq #[Value.str (Str.ofString "self") 366, Value.str (Str.ofString "name") 367, Value.str (Str.ofString "gap") 368] }) ::
  (nat_lit 143, { cls := Value.type "tuple", data := Data.seq #[] }) ::
  (nat_lit 145, { cls := Value.type "code", data := Data.fields #[Value.str (Str.ofString "__init__") 363, Value.str (Str.ofString "Pot.__init__") 364, Value.str (Str.ofString "/claim/cut.py") 365, Value.int 39 0, Value.int 3 0, Value.int 0 0, Value.int 0 0, Value.int 3 0, Value.ref 140, Value.bool true, Value.int 181 0, Value.ref 141, Value.none, Value.ref 142, Value.ref 143, Value.ref 144, Value.int 369 0, Value.int 39 0, Value.str (Str.ofString "/claim/cut.py") 370] }) ::
  (nat_lit 146, { cls := Value.type "function", data := Data.func { name := Str.ofString "__init__", qualname := Str.ofString "Pot.__init__", params := defArgs (inClass (top 15) 0), body := FuncBody.stmts (defBody (inClass (top 15) 0)), scope := defScope (inClass (top 15) 0), globals := 3, closure := [], defaults := Value.none, kwdefaults := Value.none, pyModule := Value.str (Str.ofString "thirstwise.pots") 339, code := Value.ref 145 } }) ::
  (nat_lit 147, { cls := Value.type "tuple", data := Data.seq #[] }) ::
  (nat_lit 149, { cls := Value.type "tuple", data := Data.seq #[Value.str (Str.ofString "self") 375, Value.str (Str.ofString "since") 376] }) ::
  (nat_lit 150, { cls := Value.type "tuple", data := Data.seq #[] }) ::
  (nat_lit 152, { cls := Value.type "code", data := Data.fields #[Value.str (Str.ofString "may") 372, Value.str (Str.ofString "Pot.may") 373, Value.str (Str.ofString "/claim/cut.py") 374, Value.int 47 0, Value.int 2 0, Value.int 0 0, Value.int 0 0, Value.int 3 0, Value.ref 147, Value.bool true, Value.int 181 0, Value.ref 148, Value.none, Value.ref 149, Value.ref 150, Value.ref 151, Value.int 377 0, Value.int 47 0, Value.str (Str.ofString "/claim/cut.py") 378] }) ::
  (nat_lit 153, { cls := Value.type "function", data := Data.func { name := Str.ofString "may", qualname := Str.ofString "Pot.may", params := defArgs (inClass (top 15) 1), body := FuncBody.stmts (defBody (inClass (top 15) 1)), scope := defScope (inClass (top 15) 1), globals := 3, closure := [], defaults := Value.none, kwdefaults := Value.none, pyModule := Value.str (Str.ofString "thirstwise.pots") 339, code := Value.ref 152 } }) ::
  (nat_lit 154, { cls := Value.type "tuple", data := Data.seq #[] }) ::
  (nat_lit 156, { cls := Value.type "tuple", data := Data.seq #[Value.str (Str.ofString "self") 383] }) ::
  (nat_lit 157, { cls := Value.type "tuple", data := Data.seq #[] }) ::
  (nat_lit 159, { cls := Value.type "code", data := Data.fields #[Value.str (Str.ofString "words") 380, Value.str (Str.ofString "Pot.words") 381, Value.str (Str.ofString "/claim/cut.py") 382, Value.int 50 0, Value.int 1 0, Value.int 0 0, Value.int 0 0, Value.int 3 0, Value.ref 154, Value.bool true, Value.int 181 0, Value.ref 155, Value.none, Value.ref 156, Value.ref 157, Value.ref 158, Value.int 384 0, Value.int 50 0, Value.str (Str.ofString "/claim/cut.py") 385] }) ::
  (nat_lit 160, { cls := Value.type "function", data := Data.func { name := Str.ofString "words", qualname := Str.ofString "Pot.words", params := defArgs (inClass (top 15) 2), body := FuncBody.stmts (defBody (inClass (top 15) 2)), scope := defScope (inClass (top 15) 2), globals := 3, closure := [], defaults := Value.none, kwdefaults := Value.none, pyModule := Value.str (Str.ofString "thirstwise.pots") 339, code := Value.ref 159 } }) ::
  (nat_lit 161, { cls := Value.type "tuple", data := Data.seq #[] }) ::
  (nat_lit 163, { cls := Value.type "tuple", data := Data.seq #[Value.str (Str.ofString "self") 390, Value.str (Str.ofString "gap") 391] }) ::
  (nat_lit 164, { cls := Value.type "tuple", data := Data.seq #[] }) ::
  (nat_lit 166, { cls := Value.type "code", data := Data.fields #[Value.str (Str.ofString "with_gap") 387, Value.str (Str.ofString "Pot.with_gap") 388, Value.str (Str.ofString "/claim/cut.py") 389, Value.int 53 0, Value.int 2 0, Value.int 0 0, Value.int 0 0, Value.int 3 0, Value.ref 161, Value.bool true, Value.int 181 0, Value.ref 162, Value.none, Value.ref 163, Value.ref 164, Value.ref 165, Value.int 392 0, Value.int 53 0, Value.str (Str.ofString "/claim/cut.py") 393] }) ::
  (nat_lit 167, { cls := Value.type "function", data := Data.func { name := Str.ofString "with_gap", qualname := Str.ofString "Pot.with_gap", params := defArgs (inClass (top 15) 3), body := FuncBody.stmts (defBody (inClass (top 15) 3)), scope := defScope (inClass (top 15) 3), globals := 3, closure := [], defaults := Value.none, kwdefaults := Value.none, pyModule := Value.str (Str.ofString "thirstwise.pots") 339, code := Value.ref 166 } }) ::
  (nat_lit 168, { cls := Value.type "tuple", data := Data.seq #[] }) ::
  (nat_lit 170, { cls := Value.type "tuple", data := Data.seq #[Value.str (Str.ofString "self") 398] }) ::
  (nat_lit 171, { cls := Value.type "tuple", data := Data.seq #[] }) ::
  (nat_lit 173, { cls := Value.type "code", data := Data.fields #[Value.str (Str.ofString "shortest") 395, Value.str (Str.ofString "Pot.shortest") 396, Value.str (Str.ofString "/claim/cut.py") 397, Value.int 56 0, Value.int 1 0, Value.int 0 0, Value.int 0 0, Value.int 3 0, Value.ref 168, Value.bool true, Value.int 181 0, Value.ref 169, Value.none, Value.ref 170, Value.ref 171, Value.ref 172, Value.int 399 0, Value.int 56 0, Value.str (Str.ofString "/claim/cut.py") 400] }) ::
  (nat_lit 174, { cls := Value.type "function", data := Data.func { name := Str.ofString "shortest", qualname := Str.ofString "Pot.shortest", params := defArgs (inClass (top 15) 4), body := FuncBody.stmts (defBody (inClass (top 15) 4)), scope := defScope (inClass (top 15) 4), globals := 3, closure := [], defaults := Value.none, kwdefaults := Value.none, pyModule := Value.str (Str.ofString "thirstwise.pots") 339, code := Value.ref 173 } }) ::
  (nat_lit 175, { cls := Value.type "tuple", data := Data.seq #[Value.str (Str.ofString "gap") 402, Value.str (Str.ofString "name") 403] }) ::
  (nat_lit 176, { cls := Value.type "dict", data := Data.dict #[{ hash := PyData.keyHash P (Str.ofString "__module__"), key := Value.str (Str.ofString "__module__") 358, val := Value.str (Str.ofString "thirstwise.pots") 339 }, { hash := PyData.keyHash P (Str.ofString "__firstlineno__"), key := Value.str (Str.ofString "__firstlineno__") 362, val := Value.int 37 361 }, { hash := PyData.keyHash P (Str.ofString "__init__"), key := Value.str (Str.ofString "__init__") 371, val := Value.ref 146 }, { hash := PyData.keyHash P (Str.ofString "may"), key := Value.str (Str.ofString "may") 379, val := Value.ref 153 }, { hash := PyData.keyHash P (Str.ofString "words"), key := Value.str (Str.ofString "words") 386, val := Value.ref 160 }, { hash := PyData.keyHash P (Str.ofString "with_gap"), key := Value.str (Str.ofString "with_gap") 394, val := Value.ref 167 }, { hash := PyData.keyHash P (Str.ofString "shortest"), key := Value.str (Str.ofString "shortest") 401, val := Value.ref 174 }, { hash := PyData.keyHash P (Str.ofString "__static_attributes__"), key := Value.str (Str.ofString "__static_attributes__") 404, val := Value.ref 175 }, { hash := PyData.keyHash P (Str.ofString "__dict__"), key := Value.str (Str.ofString "__dict__") 406, val := Value.ref 178 }, { hash := PyData.keyHash P (Str.ofString "__weakref__"), key := Value.str (Str.ofString "__weakref__") 408, val := Value.ref 179 }, { hash := PyData.keyHash P (Str.ofString "__doc__"), key := Value.str (Str.ofString "__doc__") 409, val := Value.none }] 4 }) ::
  (nat_lit 177, { cls := Value.type "type", data := Data.cls { name := Str.ofString "Pot", bases := [Value.type "object"], mro := [Value.ref 177, Value.type "object"], ns := 176, qualname := Str.ofString "Pot", subclasses := [Value.ref 226] }, slots := #[none, none, some (Value.str (Str.ofString "Pot") 351), some (Value.str (Str.ofString "Pot") 359), some (Value.builtin "object.__new__"), some (Value.bool true)] }) ::
  (nat_lit 178, { cls := Value.type "getset_descriptor", data := Data.fields #[Value.str (Str.ofString "__dict__") 405, Value.ref 177, Value.builtin "function.__dict__", Value.builtin "function.__dict__#set"] }) ::
  (nat_lit 179, { cls := Value.type "getset_descriptor", data := Data.fields #[Value.str (Str.ofString "__weakref__") 407, Value.ref 177, Value.builtin "ExceptionGroup.__weakref__", Value.none] }) ::
  (nat_lit 182, { cls := Value.type "tuple", data := Data.seq #[Value.ref 177] }) ::
  (nat_lit 189, { cls := Value.type "tuple", data := Data.seq #[] }) ::
  (nat_lit 191, { cls := Value.type "tuple", data := Data.seq #[Value.str (Str.ofString "self") 427, Value.str (Str.ofString "name") 428, Value.str (Str.ofString "gap") 429, Value.str (Str.ofString "rest") 430] }) ::
  (nat_lit 192, { cls := Value.type "tuple", data := Data.seq #[] }) ::
  (nat_lit 194, { cls := Value.type "code", data := Data.fields #[Value.str (Str.ofString "__init__") 424, Value.str (Str.ofString "Cactus.__init__") 425, Value.str (Str.ofString "/claim/cut.py") 426, Value.int 60 0, Value.int 4 0, Value.int 0 0, Value.int 0 0, Value.int 3 0, Value.ref 189, Value.bool true, Value.int 181 0, Value.ref 190, Value.none, Value.ref 191, Value.ref 192, Value.ref 193, Value.int 431 0, Value.int 60 0, Value.str (Str.ofString "/claim/cut.py") 432] }) ::
  (nat_lit 195, { cls := Value.type "function", data := Data.func { name := Str.ofString "__init__", qualname := Str.ofString "Cactus.__init__", params := defArgs (inClass (top 16) 0), body := FuncBody.stmts (defBody (inClass (top 16) 0)), scope := defScope (inClass (top 16) 0), globals := 3, closure := [], defaults := Value.none, kwdefaults := Value.none, pyModule := Value.str (Str.ofString "thirstwise.pots") 339, code := Value.ref 194 } }) ::
  (nat_lit 196, { cls := Value.type "tuple", data := Data.seq #[] }) ::
  (nat_lit 198, { cls := Value.type "tuple", data := Data.seq #[Value.str (Str.ofString "self") 437, Value.str (Str.ofString "since") 438] }) ::
  (nat_lit 199, { cls := Value.type "tuple", data := Data.seq #[] }) ::
  (nat_lit 201, { cls := Value.type "code", data := Data.fields #[Value.str (Str.ofString "may") 434, Value.str (Str.ofString "Cactus.may") 435, Value.str (Str.ofString "/claim/cut.py") 436, Value.int 66 0, Value.int 2 0, Value.int 0 0, Value.int 0 0, Value.int 3 0, Value.ref 196, Value.bool true, Value.int 181 0, Value.ref 197, Value.none, Value.ref 198, Value.ref 199, Value.ref 200, Value.int 439 0, Value.int 66 0, Value.str (Str.ofString "/claim/cut.py") 440] }) ::
  (nat_lit 202, { cls := Value.type "function", data := Data.func { name := Str.ofString "may", qualname := Str.ofString "Cactus.may", params := defArgs (inClass (top 16) 1), body := FuncBody.stmts (defBody (inClass (top 16) 1)), scope := defScope (inClass (top 16) 1), globals := 3, closure := [], defaults := Value.none, kwdefaults := Value.none, pyModule := Value.str (Str.ofString "thirstwise.pots") 339, code := Value.ref 201 } }) ::
  (nat_lit 203, { cls := Value.type "tuple", data := Data.seq #[] }) ::
  (nat_lit 205, { cls := Value.type "tuple", data := Data.seq #[Value.str (Str.ofString "self") 445] }) ::
  (nat_lit 206, { cls := Value.type "tuple", data := Data.seq #[] }) ::
  (nat_lit 208, { cls := Value.type "code", data := Data.fields #[Value.str (Str.ofString "words") 442, Value.str (Str.ofString "Cactus.words") 443, Value.str (Str.ofString "/claim/cut.py") 444, Value.int 69 0, Value.int 1 0, Value.int 0 0, Value.int 0 0, Value.int 3 0, Value.ref 203, Value.bool true, Value.int 181 0, Value.ref 204, Value.none, Value.ref 205, Value.ref 206, Value.ref 207, Value.int 446 0, Value.int 69 0, Value.str (Str.ofString "/claim/cut.py") 447] }) ::
  (nat_lit 209, { cls := Value.type "function", data := Data.func { name := Str.ofString "words", qualname := Str.ofString "Cactus.words", params := defArgs (inClass (top 16) 2), body := FuncBody.stmts (defBody (inClass (top 16) 2)), scope := defScope (inClass (top 16) 2), globals := 3, closure := [], defaults := Value.none, kwdefaults := Value.none, pyModule := Value.str (Str.ofString "thirstwise.pots") 339, code := Value.ref 208 } }) ::
  (nat_lit 210, { cls := Value.type "tuple", data := Data.seq #[] }) ::
  (nat_lit 212, { cls := Value.type "tuple", data := Data.seq #[Value.str (Str.ofString "self") 452, Value.str (Str.ofString "gap") 453] }) ::
  (nat_lit 213, { cls := Value.type "tuple", data := Data.seq #[] }) ::
  (nat_lit 215, { cls := Value.type "code", data := Data.fields #[Value.str (Str.ofString "with_gap") 449, Value.str (Str.ofString "Cactus.with_gap") 450, Value.str (Str.ofString "/claim/cut.py") 451, Value.int 72 0, Value.int 2 0, Value.int 0 0, Value.int 0 0, Value.int 3 0, Value.ref 210, Value.bool true, Value.int 181 0, Value.ref 211, Value.none, Value.ref 212, Value.ref 213, Value.ref 214, Value.int 454 0, Value.int 72 0, Value.str (Str.ofString "/claim/cut.py") 455] }) ::
  (nat_lit 216, { cls := Value.type "function", data := Data.func { name := Str.ofString "with_gap", qualname := Str.ofString "Cactus.with_gap", params := defArgs (inClass (top 16) 3), body := FuncBody.stmts (defBody (inClass (top 16) 3)), scope := defScope (inClass (top 16) 3), globals := 3, closure := [], defaults := Value.none, kwdefaults := Value.none, pyModule := Value.str (Str.ofString "thirstwise.pots") 339, code := Value.ref 215 } }) ::
  (nat_lit 217, { cls := Value.type "tuple", data := Data.seq #[] }) ::
  (nat_lit 219, { cls := Value.type "tuple", data := Data.seq #[Value.str (Str.ofString "self") 460] }) ::
  (nat_lit 220, { cls := Value.type "tuple", data := Data.seq #[] }) ::
  (nat_lit 222, { cls := Value.type "code", data := Data.fields #[Value.str (Str.ofString "shortest") 457, Value.str (Str.ofString "Cactus.shortest") 458, Value.str (Str.ofString "/claim/cut.py") 459, Value.int 75 0, Value.int 1 0, Value.int 0 0, Value.int 0 0, Value.int 3 0, Value.ref 217, Value.bool true, Value.int 181 0, Value.ref 218, Value.none, Value.ref 219, Value.ref 220, Value.ref 221, Value.int 461 0, Value.int 75 0, Value.str (Str.ofString "/claim/cut.py") 462] }) ::
  (nat_lit 223, { cls := Value.type "function", data := Data.func { name := Str.ofString "shortest", qualname := Str.ofString "Cactus.shortest", params := defArgs (inClass (top 16) 4), body := FuncBody.stmts (defBody (inClass (top 16) 4)), scope := defScope (inClass (top 16) 4), globals := 3, closure := [], defaults := Value.none, kwdefaults := Value.none, pyModule := Value.str (Str.ofString "thirstwise.pots") 339, code := Value.ref 222 } }) ::
  (nat_lit 224, { cls := Value.type "tuple", data := Data.seq #[Value.str (Str.ofString "rest") 464] }) ::
  (nat_lit 225, { cls := Value.type "dict", data := Data.dict #[{ hash := PyData.keyHash P (Str.ofString "__module__"), key := Value.str (Str.ofString "__module__") 419, val := Value.str (Str.ofString "thirstwise.pots") 339 }, { hash := PyData.keyHash P (Str.ofString "__firstlineno__"), key := Value.str (Str.ofString "__firstlineno__") 423, val := Value.int 58 422 }, { hash := PyData.keyHash P (Str.ofString "__init__"), key := Value.str (Str.ofString "__init__") 433, val := Value.ref 195 }, { hash := PyData.keyHash P (Str.ofString "may"), key := Value.str (Str.ofString "may") 441, val := Value.ref 202 }, { hash := PyData.keyHash P (Str.ofString "words"), key := Value.str (Str.ofString "words") 448, val := Value.ref 209 }, { hash := PyData.keyHash P (Str.ofString "with_gap"), key := Value.str (Str.ofString "with_gap") 456, val := Value.ref 216 }, { hash := PyData.keyHash P (Str.ofString "shortest"), key := Value.str (Str.ofString "shortest") 463, val := Value.ref 223 }, { hash := PyData.keyHash P (Str.ofString "__static_attributes__"), key := Value.str (Str.ofString "__static_attributes__") 465, val := Value.ref 224 }, { hash := PyData.keyHash P (Str.ofString "__doc__"), key := Value.str (Str.ofString "__doc__") 466, val := Value.none }] 2 }) ::
  (nat_lit 226, { cls := Value.type "type", data := Data.cls { name := Str.ofString "Cactus", bases := [Value.ref 177], mro := [Value.ref 226, Value.ref 177, Value.type "object"], ns := 225, qualname := Str.ofString "Cactus" }, slots := #[some (Value.ref 182), none, some (Value.str (Str.ofString "Cactus") 412), some (Value.str (Str.ofString "Cactus") 420), some (Value.builtin "object.__new__"), some (Value.bool true)] }) ::
  (nat_lit 229, { cls := Value.type "tuple", data := Data.seq #[] }) ::
  (nat_lit 232, { cls := Value.type "code", data := Data.fields #[Value.str (Str.ofString "own_pots") 479, Value.str (Str.ofString "own_pots") 480, Value.str (Str.ofString "/claim/cut.py") 481, Value.int 82 0, Value.int 1 0, Value.int 0 0, Value.int 0 0, Value.int 3 0, Value.ref 229, Value.bool true, Value.int 181 0, Value.ref 230, Value.none, Value.none, Value.none, Value.ref 231, Value.int 482 0, Value.int 82 0, Value.str (Str.ofString "/claim/cut.py") 483] }) ::
  (nat_lit 233, { cls := Value.type "function", data := Data.func { name := Str.ofString "own_pots", qualname := Str.ofString "own_pots", params := defArgs (top 22), body := FuncBody.stmts (defBody (top 22)), scope := defScope (top 22), globals := 3, closure := [], defaults := Value.none, kwdefaults := Value.none, pyModule := Value.str (Str.ofString "thirstwise.gardens") 469, code := Value.ref 232 } }) ::
  (nat_lit 234, { cls := Value.type "tuple", data := Data.seq #[] }) ::
  (nat_lit 236, { cls := Value.type "tuple", data := Data.seq #[Value.str (Str.ofString "pots") 488, Value.str (Str.ofString "cans") 489, Value.str (Str.ofString "week") 490, Value.str (Str.ofString "closed") 491] }) ::
  (nat_lit 237, { cls := Value.type "tuple", data := Data.seq #[] }) ::
  (nat_lit 239, { cls := Value.type "code", data := Data.fields #[Value.str (Str.ofString "refuse_bad_counts") 485, Value.str (Str.ofString "refuse_bad_counts") 486, Value.str (Str.ofString "/claim/cut.py") 487, Value.int 89 0, Value.int 4 0, Value.int 0 0, Value.int 0 0, Value.int 3 0, Value.ref 234, Value.bool true, Value.int 181 0, Value.ref 235, Value.none, Value.ref 236, Value.ref 237, Value.ref 238, Value.int 492 0, Value.int 89 0, Value.str (Str.ofString "/claim/cut.py") 493] }) ::
  (nat_lit 240, { cls := Value.type "function", data := Data.func { name := Str.ofString "refuse_bad_counts", qualname := Str.ofString "refuse_bad_counts", params := defArgs (top 23), body := FuncBody.stmts (defBody (top 23)), scope := defScope (top 23), globals := 3, closure := [], defaults := Value.none, kwdefaults := Value.none, pyModule := Value.str (Str.ofString "thirstwise.gardens") 469, code := Value.ref 239 } }) ::
  (nat_lit 241, { cls := Value.type "tuple", data := Data.seq #[] }) ::
  (nat_lit 244, { cls := Value.type "code", data := Data.fields #[Value.str (Str.ofString "refuse_name_twice") 495, Value.str (Str.ofString "refuse_name_twice") 496, Value.str (Str.ofString "/claim/cut.py") 497, Value.int 98 0, Value.int 1 0, Value.int 0 0, Value.int 0 0, Value.int 3 0, Value.ref 241, Value.bool true, Value.int 181 0, Value.ref 242, Value.none, Value.none, Value.none, Value.ref 243, Value.int 498 0, Value.int 98 0, Value.str (Str.ofString "/claim/cut.py") 499] }) ::
  (nat_lit 245, { cls := Value.type "function", data := Data.func { name := Str.ofString "refuse_name_twice", qualname := Str.ofString "refuse_name_twice", params := defArgs (top 24), body := FuncBody.stmts (defBody (top 24)), scope := defScope (top 24), globals := 3, closure := [], defaults := Value.none, kwdefaults := Value.none, pyModule := Value.str (Str.ofString "thirstwise.gardens") 469, code := Value.ref 244 } }) ::
  (nat_lit 246, { cls := Value.type "tuple", data := Data.seq #[] }) ::
  (nat_lit 249, { cls := Value.type "code", data := Data.fields #[Value.str (Str.ofString "is_state") 501, Value.str (Str.ofString "is_state") 502, Value.str (Str.ofString "/claim/cut.py") 503, Value.int 101 0, Value.int 2 0, Value.int 0 0, Value.int 0 0, Value.int 3 0, Value.ref 246, Value.bool true, Value.int 181 0, Value.ref 247, Value.none, Value.none, Value.none, Value.ref 248, Value.int 504 0, Value.int 101 0, Value.str (Str.ofString "/claim/cut.py") 505] }) ::
  (nat_lit 250, { cls := Value.type "function", data := Data.func { name := Str.ofString "is_state", qualname := Str.ofString "is_state", params := defArgs (top 25), body := FuncBody.stmts (defBody (top 25)), scope := defScope (top 25), globals := 3, closure := [], defaults := Value.none, kwdefaults := Value.none, pyModule := Value.str (Str.ofString "thirstwise.gardens") 469, code := Value.ref 249 } }) ::
  (nat_lit 251, { cls := Value.type "tuple", data := Data.seq #[] }) ::
  (nat_lit 253, { cls := Value.type "tuple", data := Data.seq #[Value.str (Str.ofString "garden") 510, Value.str (Str.ofString "value") 511] }) ::
  (nat_lit 254, { cls := Value.type "tuple", data := Data.seq #[] }) ::
  (nat_lit 256, { cls := Value.type "code", data := Data.fields #[Value.str (Str.ofString "refuse_no_state") 507, Value.str (Str.ofString "refuse_no_state") 508, Value.str (Str.ofString "/claim/cut.py") 509, Value.int 111 0, Value.int 2 0, Value.int 0 0, Value.int 0 0, Value.int 3 0, Value.ref 251, Value.bool true, Value.int 181 0, Value.ref 252, Value.none, Value.ref 253, Value.ref 254, Value.ref 255, Value.int 512 0, Value.int 111 0, Value.str (Str.ofString "/claim/cut.py") 513] }) ::
  (nat_lit 257, { cls := Value.type "function", data := Data.func { name := Str.ofString "refuse_no_state", qualname := Str.ofString "refuse_no_state", params := defArgs (top 26), body := FuncBody.stmts (defBody (top 26)), scope := defScope (top 26), globals := 3, closure := [], defaults := Value.none, kwdefaults := Value.none, pyModule := Value.str (Str.ofString "thirstwise.gardens") 469, code := Value.ref 256 } }) ::
  (nat_lit 265, { cls := Value.type "tuple", data := Data.seq #[Value.int 1 527, Value.int 1 528, Value.int 0 529] }) ::
  (nat_lit 266, { cls := Value.type "tuple", data := Data.seq #[] }) ::
  (nat_lit 268, { cls := Value.type "tuple", data := Data.seq #[Value.str (Str.ofString "self") 533, Value.str (Str.ofString "pots") 534, Value.str (Str.ofString "cans") 535, Value.str (Str.ofString "week") 536, Value.str (Str.ofString "closed") 537, Value.str (Str.ofString "copies") 538] }) ::
  (nat_lit 269, { cls := Value.type "tuple", data := Data.seq #[] }) ::
  (nat_lit 271, { cls := Value.type "code", data := Data.fields #[Value.str (Str.ofString "__init__") 530, Value.str (Str.ofString "Garden.__init__") 531, Value.str (Str.ofString "/claim/cut.py") 532, Value.int 116 0, Value.int 5 0, Value.int 0 0, Value.int 0 0, Value.int 3 0, Value.ref 266, Value.bool true, Value.int 181 0, Value.ref 267, Value.none, Value.ref 268, Value.ref 269, Value.ref 270, Value.int 539 0, Value.int 116 0, Value.str (Str.ofString "/claim/cut.py") 540] }) ::
  (nat_lit 272, { cls := Value.type "function", data := Data.func { name := Str.ofString "__init__", qualname := Str.ofString "Garden.__init__", params := defArgs (inClass (top 27) 0), body := FuncBody.stmts (defBody (inClass (top 27) 0)), scope := defScope (inClass (top 27) 0), globals := 3, closure := [], defaults := Value.ref 265, kwdefaults := Value.none, pyModule := Value.str (Str.ofString "thirstwise.gardens") 469, code := Value.ref 271 } }) ::
  (nat_lit 273, { cls := Value.type "tuple", data := Data.seq #[] }) ::
  (nat_lit 275, { cls := Value.type "tuple", data := Data.seq #[Value.str (Str.ofString "self") 545, Value.str (Str.ofString "states") 546, Value.str (Str.ofString "pot") 547] }) ::
  (nat_lit 276, { cls := Value.type "tuple", data := Data.seq #[] }) ::
  (nat_lit 278, { cls := Value.type "code", data := Data.fields #[Value.str (Str.ofString "size") 542, Value.str (Str.ofString "Garden.size") 543, Value.str (Str.ofString "/claim/cut.py") 544, Value.int 127 0, Value.int 1 0, Value.int 0 0, Value.int 0 0, Value.int 3 0, Value.ref 273, Value.bool true, Value.int 181 0, Value.ref 274, Value.none, Value.ref 275, Value.ref 276, Value.ref 277, Value.int 548 0, Value.int 127 0, Value.str (Str.ofString "/claim/cut.py") 549] }) ::
  (nat_lit 279, { cls := Value.type "function", data := Data.func { name := Str.ofString "size", qualname := Str.ofString "Garden.size", params := defArgs (inClass (top 27) 1), body := FuncBody.stmts (defBody (inClass (top 27) 1)), scope := defScope (inClass (top 27) 1), globals := 3, closure := [], defaults := Value.none, kwdefaults := Value.none, pyModule := Value.str (Str.ofString "thirstwise.gardens") 469, code := Value.ref 278 } }) ::
  (nat_lit 280, { cls := Value.type "tuple", data := Data.seq #[] }) ::
  (nat_lit 282, { cls := Value.type "tuple", data := Data.seq #[Value.str (Str.ofString "self") 554, Value.str (Str.ofString "state") 555, Value.str (Str.ofString "count") 556, Value.str (Str.ofString "days") 557, Value.str (Str.ofString "pot") 558] }) ::
  (nat_lit 283, { cls := Value.type "tuple", data := Data.seq #[] }) ::
  (nat_lit 285, { cls := Value.type "code", data := Data.fields #[Value.str (Str.ofString "number") 551, Value.str (Str.ofString "Garden.number") 552, Value.str (Str.ofString "/claim/cut.py") 553, Value.int 133 0, Value.int 2 0, Value.int 0 0, Value.int 0 0, Value.int 3 0, Value.ref 280, Value.bool true, Value.int 181 0, Value.ref 281, Value.none, Value.ref 282, Value.ref 283, Value.ref 284, Value.int 559 0, Value.int 133 0, Value.str (Str.ofString "/claim/cut.py") 560] }) ::
  (nat_lit 286, { cls := Value.type "function", data := Data.func { name := Str.ofString "number", qualname := Str.ofString "Garden.number", params := defArgs (inClass (top 27) 2), body := FuncBody.stmts (defBody (inClass (top 27) 2)), scope := defScope (inClass (top 27) 2), globals := 3, closure := [], defaults := Value.none, kwdefaults := Value.none, pyModule := Value.str (Str.ofString "thirstwise.gardens") 469, code := Value.ref 285 } }) ::
  (nat_lit 287, { cls := Value.type "tuple", data := Data.seq #[] }) ::
  (nat_lit 289, { cls := Value.type "tuple", data := Data.seq #[Value.str (Str.ofString "self") 565, Value.str (Str.ofString "number") 566, Value.str (Str.ofString "left") 567, Value.str (Str.ofString "since") 568, Value.str (Str.ofString "pot") 569] }) ::
  (nat_lit 290, { cls := Value.type "tuple", data := Data.seq #[] }) ::
  (nat_lit 292, { cls := Value.type "code", data := Data.fields #[Value.str (Str.ofString "state") 562, Value.str (Str.ofString "Garden.state") 563, Value.str (Str.ofString "/claim/cut.py") 564, Value.int 140 0, Value.int 2 0, Value.int 0 0, Value.int 0 0, Value.int 3 0, Value.ref 287, Value.bool true, Value.int 181 0, Value.ref 288, Value.none, Value.ref 289, Value.ref 290, Value.ref 291, Value.int 570 0, Value.int 140 0, Value.str (Str.ofString "/claim/cut.py") 571] }) ::
  (nat_lit 293, { cls := Value.type "function", data := Data.func { name := Str.ofString "state", qualname := Str.ofString "Garden.state", params := defArgs (inClass (top 27) 3), body := FuncBody.stmts (defBody (inClass (top 27) 3)), scope := defScope (inClass (top 27) 3), globals := 3, closure := [], defaults := Value.none, kwdefaults := Value.none, pyModule := Value.str (Str.ofString "thirstwise.gardens") 469, code := Value.ref 292 } }) ::
  (nat_lit 294, { cls := Value.type "tuple", data := Data.seq #[] }) ::
  (nat_lit 296, { cls := Value.type "tuple", data := Data.seq #[Value.str (Str.ofString "self") 576] }) ::
  (nat_lit 297, { cls := Value.type "tuple", data := Data.seq #[] }) ::
  (nat_lit 299, { cls := Value.type "code", data := Data.fields #[Value.str (Str.ofString "fresh") 573, Value.str (Str.ofString "Garden.fresh") 574, Value.str (Str.ofString "/claim/cut.py") 575, Value.int 150 0, Value.int 1 0, Value.int 0 0, Value.int 0 0, Value.int 3 0, Value.ref 294, Value.bool true, Value.int 181 0, Value.ref 295, Value.none, Value.ref 296, Value.ref 297, Value.ref 298, Value.int 577 0, Value.int 150 0, Value.str (Str.ofString "/claim/cut.py") 578] }) ::
  (nat_lit 300, { cls := Value.type "function", data := Data.func { name := Str.ofString "fresh", qualname := Str.ofString "Garden.fresh", params := defArgs (inClass (top 27) 4), body := FuncBody.stmts (defBody (inClass (top 27) 4)), scope := defScope (inClass (top 27) 4), globals := 3, closure := [], defaults := Value.none, kwdefaults := Value.none, pyModule := Value.str (Str.ofString "thirstwise.gardens") 469, code := Value.ref 299 } }) ::
  (nat_lit 301, { cls := Value.type "tuple", data := Data.seq #[Value.str (Str.ofString "cans") 580, Value.str (Str.ofString "closed") 581, Value.str (Str.ofString "pots") 582, Value.str (Str.ofString "week") 583] }) ::
  (nat_lit 302, { cls := Value.type "dict", data := Data.dict #[{ hash := PyData.keyHash P (Str.ofString "__module__"), key := Value.str (Str.ofString "__module__") 522, val := Value.str (Str.ofString "thirstwise.gardens") 469 }, { hash := PyData.keyHash P (Str.ofString "__firstlineno__"), key := Value.str (Str.ofString "__firstlineno__") 526, val := Value.int 114 525 }, { hash := PyData.keyHash P (Str.ofString "__init__"), key := Value.str (Str.ofString "__init__") 541, val := Value.ref 272 }, { hash := PyData.keyHash P (Str.ofString "size"), key := Value.str (Str.ofString "size") 550, val := Value.ref 279 }, { hash := PyData.keyHash P (Str.ofString "number"), key := Value.str (Str.ofString "number") 561, val := Value.ref 286 }, { hash := PyData.keyHash P (Str.ofString "state"), key := Value.str (Str.ofString "state") 572, val := Value.ref 293 }, { hash := PyData.keyHash P (Str.ofString "fresh"), key := Value.str (Str.ofString "fresh") 579, val := Value.ref 300 }, { hash := PyData.keyHash P (Str.ofString "__static_attributes__"), key := Value.str (Str.ofString "__static_attributes__") 584, val := Value.ref 301 }, { hash := PyData.keyHash P (Str.ofString "__dict__"), key := Value.str (Str.ofString "__dict__") 586, val := Value.ref 304 }, { hash := PyData.keyHash P (Str.ofString "__weakref__"), key := Value.str (Str.ofString "__weakref__") 588, val := Value.ref 305 }, { hash := PyData.keyHash P (Str.ofString "__doc__"), key := Value.str (Str.ofString "__doc__") 589, val := Value.none }] 4 }) ::
  (nat_lit 303, { cls := Value.type "type", data := Data.cls { name := Str.ofString "Garden", bases := [Value.type "object"], mro := [Value.ref 303, Value.type "object"], ns := 302, qualname := Str.ofString "Garden" }, slots := #[none, none, some (Value.str (Str.ofString "Garden") 515), some (Value.str (Str.ofString "Garden") 523), some (Value.builtin "object.__new__"), some (Value.bool true)] }) ::
  (nat_lit 304, { cls := Value.type "getset_descriptor", data := Data.fields #[Value.str (Str.ofString "__dict__") 585, Value.ref 303, Value.builtin "function.__dict__", Value.builtin "function.__dict__#set"] }) ::
  (nat_lit 305, { cls := Value.type "getset_descriptor", data := Data.fields #[Value.str (Str.ofString "__weakref__") 587, Value.ref 303, Value.builtin "ExceptionGroup.__weakref__", Value.none] }) ::
  (nat_lit 308, { cls := Value.type "tuple", data := Data.seq #[] }) ::
  (nat_lit 310, { cls := Value.type "tuple", data := Data.seq #[Value.str (Str.ofString "garden") 595, Value.str (Str.ofString "cans") 596] }) ::
  (nat_lit 311, { cls := Value.type "tuple", data := Data.seq #[] }) ::
  (nat_lit 313, { cls := Value.type "code", data := Data.fields #[Value.str (Str.ofString "with_cans") 592, Value.str (Str.ofString "with_cans") 593, Value.str (Str.ofString "/claim/cut.py") 594, Value.int 152 0, Value.int 2 0, Value.int 0 0, Value.int 0 0, Value.int 3 0, Value.ref 308, Value.bool true, Value.int 181 0, Value.ref 309, Value.none, Value.ref 310, Value.ref 311, Value.ref 312, Value.int 597 0, Value.int 152 0, Value.str (Str.ofString "/claim/cut.py") 598] }) ::
  (nat_lit 314, { cls := Value.type "function", data := Data.func { name := Str.ofString "with_cans", qualname := Str.ofString "with_cans", params := defArgs (top 28), body := FuncBody.stmts (defBody (top 28)), scope := defScope (top 28), globals := 3, closure := [], defaults := Value.none, kwdefaults := Value.none, pyModule := Value.str (Str.ofString "thirstwise.gardens") 469, code := Value.ref 313 } }) ::
  (nat_lit 315, { cls := Value.type "tuple", data := Data.seq #[] }) ::
  (nat_lit 318, { cls := Value.type "code", data := Data.fields #[Value.str (Str.ofString "place_of") 600, Value.str (Str.ofString "place_of") 601, Value.str (Str.ofString "/claim/cut.py") 602, Value.int 154 0, Value.int 2 0, Value.int 0 0, Value.int 0 0, Value.int 3 0, Value.ref 315, Value.bool true, Value.int 181 0, Value.ref 316, Value.none, Value.none, Value.none, Value.ref 317, Value.int 603 0, Value.int 154 0, Value.str (Str.ofString "/claim/cut.py") 604] }) ::
  (nat_lit 319, { cls := Value.type "function", data := Data.func { name := Str.ofString "place_of", qualname := Str.ofString "place_of", params := defArgs (top 29), body := FuncBody.stmts (defBody (top 29)), scope := defScope (top 29), globals := 3, closure := [], defaults := Value.none, kwdefaults := Value.none, pyModule := Value.str (Str.ofString "thirstwise.gardens") 469, code := Value.ref 318 } }) ::
  (nat_lit 320, { cls := Value.type "tuple", data := Data.seq #[] }) ::
  (nat_lit 322, { cls := Value.type "tuple", data := Data.seq #[Value.str (Str.ofString "garden") 609, Value.str (Str.ofString "name") 610, Value.str (Str.ofString "gap") 611, Value.str (Str.ofString "place") 612, Value.str (Str.ofString "pots") 613] }) ::
  (nat_lit 323, { cls := Value.type "tuple", data := Data.seq #[] }) ::
  (nat_lit 325, { cls := Value.type "code", data := Data.fields #[Value.str (Str.ofString "with_gap") 606, Value.str (Str.ofString "with_gap") 607, Value.str (Str.ofString "/claim/cut.py") 608, Value.int 159 0, Value.int 3 0, Value.int 0 0, Value.int 0 0, Value.int 3 0, Value.ref 320, Value.bool true, Value.int 181 0, Value.ref 321, Value.none, Value.ref 322, Value.ref 323, Value.ref 324, Value.int 614 0, Value.int 159 0, Value.str (Str.ofString "/claim/cut.py") 615] }) ::
  (nat_lit 326, { cls := Value.type "function", data := Data.func { name := Str.ofString "with_gap", qualname := Str.ofString "with_gap", params := defArgs (top 30), body := FuncBody.stmts (defBody (top 30)), scope := defScope (top 30), globals := 3, closure := [], defaults := Value.none, kwdefaults := Value.none, pyModule := Value.str (Str.ofString "thirstwise.gardens") 469, code := Value.ref 325 } }) ::
  (nat_lit 327, { cls := Value.type "tuple", data := Data.seq #[] }) ::
  (nat_lit 329, { cls := Value.type "tuple", data := Data.seq #[Value.str (Str.ofString "one") 620, Value.str (Str.ofString "other") 621] }) ::
  (nat_lit 330, { cls := Value.type "tuple", data := Data.seq #[] }) ::
  (nat_lit 332, { cls := Value.type "code", data := Data.fields #[Value.str (Str.ofString "joined") 617, Value.str (Str.ofString "joined") 618, Value.str (Str.ofString "/claim/cut.py") 619, Value.int 164 0, Value.int 2 0, Value.int 0 0, Value.int 0 0, Value.int 3 0, Value.ref 327, Value.bool true, Value.int 181 0, Value.ref 328, Value.none, Value.ref 329, Value.ref 330, Value.ref 331, Value.int 622 0, Value.int 164 0, Value.str (Str.ofString "/claim/cut.py") 623] }) ::
  (nat_lit 333, { cls := Value.type "function", data := Data.func { name := Str.ofString "joined", qualname := Str.ofString "joined", params := defArgs (top 31), body := FuncBody.stmts (defBody (top 31)), scope := defScope (top 31), globals := 3, closure := [], defaults := Value.none, kwdefaults := Value.none, pyModule := Value.str (Str.ofString "thirstwise.gardens") 469, code := Value.ref 332 } }) ::
  (nat_lit 334, { cls := Value.type "tuple", data := Data.seq #[] }) ::
  (nat_lit 336, { cls := Value.type "tuple", data := Data.seq #[Value.str (Str.ofString "_law_script") 630, Value.str (Str.ofString "_law_k") 631] }) ::
  (nat_lit 337, { cls := Value.type "tuple", data := Data.seq #[] }) ::
  (nat_lit 339, { cls := Value.type "code", data := Data.fields #[Value.str (Str.ofString "_law_cell_at") 627, Value.str (Str.ofString "_law_cell_at") 628, Value.str (Str.ofString "/claim/cut.py") 629, Value.int 167 0, Value.int 2 0, Value.int 0 0, Value.int 0 0, Value.int 3 0, Value.ref 334, Value.bool true, Value.int 181 0, Value.ref 335, Value.none, Value.ref 336, Value.ref 337, Value.ref 338, Value.int 632 0, Value.int 167 0, Value.str (Str.ofString "/claim/cut.py") 633] }) ::
  (nat_lit 340, { cls := Value.type "function", data := Data.func { name := Str.ofString "_law_cell_at", qualname := Str.ofString "_law_cell_at", params := defArgs (top 33), body := FuncBody.stmts (defBody (top 33)), scope := defScope (top 33), globals := 3, closure := [], defaults := Value.none, kwdefaults := Value.none, pyModule := Value.str (Str.ofString "law_thirstwise_k10_refused") 625, code := Value.ref 339 } }) ::
  (nat_lit 348, { cls := Value.type "tuple", data := Data.seq #[] }) ::
  (nat_lit 350, { cls := Value.type "tuple", data := Data.seq #[Value.str (Str.ofString "_law_error") 649, Value.str (Str.ofString "_law_found") 650] }) ::
  (nat_lit 351, { cls := Value.type "tuple", data := Data.seq #[] }) ::
  (nat_lit 353, { cls := Value.type "code", data := Data.fields #[Value.str (Str.ofString "_law_sorts") 646, Value.str (Str.ofString "_law_sorts") 647, Value.str (Str.ofString "/claim/cut.py") 648, Value.int 175 0, Value.int 1 0, Value.int 0 0, Value.int 0 0, Value.int 3 0, Value.ref 348, Value.bool true, Value.int 181 0, Value.ref 349, Value.none, Value.ref 350, Value.ref 351, Value.ref 352, Value.int 651 0, Value.int 175 0, Value.str (Str.ofString "/claim/cut.py") 652] }) ::
  (nat_lit 354, { cls := Value.type "function", data := Data.func { name := Str.ofString "_law_sorts", qualname := Str.ofString "_law_sorts", params := defArgs (top 35), body := FuncBody.stmts (defBody (top 35)), scope := defScope (top 35), globals := 3, closure := [], defaults := Value.none, kwdefaults := Value.none, pyModule := Value.str (Str.ofString "law_thirstwise_k10_refused") 625, code := Value.ref 353 } }) ::
  (nat_lit 355, { cls := Value.type "tuple", data := Data.seq #[] }) ::
  (nat_lit 357, { cls := Value.type "tuple", data := Data.seq #[Value.str (Str.ofString "_law_error") 657, Value.str (Str.ofString "_law_kinds") 658] }) ::
  (nat_lit 358, { cls := Value.type "tuple", data := Data.seq #[] }) ::
  (nat_lit 360, { cls := Value.type "code", data := Data.fields #[Value.str (Str.ofString "_law_kind") 654, Value.str (Str.ofString "_law_kind") 655, Value.str (Str.ofString "/claim/cut.py") 656, Value.int 178 0, Value.int 1 0, Value.int 0 0, Value.int 0 0, Value.int 3 0, Value.ref 355, Value.bool true, Value.int 181 0, Value.ref 356, Value.none, Value.ref 357, Value.ref 358, Value.ref 359, Value.int 659 0, Value.int 178 0, Value.str (Str.ofString "/claim/cut.py") 660] }) ::
  (nat_lit 361, { cls := Value.type "function", data := Data.func { name := Str.ofString "_law_kind", qualname := Str.ofString "_law_kind", params := defArgs (top 36), body := FuncBody.stmts (defBody (top 36)), scope := defScope (top 36), globals := 3, closure := [], defaults := Value.none, kwdefaults := Value.none, pyModule := Value.str (Str.ofString "law_thirstwise_k10_refused") 625, code := Value.ref 360 } }) ::
  (nat_lit 362, { cls := Value.type "tuple", data := Data.seq #[] }) ::
  (nat_lit 364, { cls := Value.type "tuple", data := Data.seq #[Value.str (Str.ofString "_law_name") 665, Value.str (Str.ofString "_law_gap") 666, Value.str (Str.ofString "_law_rest") 667, Value.str (Str.ofString "_law_made") 668, Value.str (Str.ofString "_law_error") 669] }) ::
  (nat_lit 365, { cls := Value.type "tuple", data := Data.seq #[] }) ::
  (nat_lit 367, { cls := Value.type "code", data := Data.fields #[Value.str (Str.ofString "_law_pot") 662, Value.str (Str.ofString "_law_pot") 663, Value.str (Str.ofString "/claim/cut.py") 664, Value.int 183 0, Value.int 3 0, Value.int 0 0, Value.int 0 0, Value.int 3 0, Value.ref 362, Value.bool true, Value.int 181 0, Value.ref 363, Value.none, Value.ref 364, Value.ref 365, Value.ref 366, Value.int 670 0, Value.int 183 0, Value.str (Str.ofString "/claim/cut.py") 671] }) ::
  (nat_lit 368, { cls := Value.type "function", data := Data.func { name := Str.ofString "_law_pot", qualname := Str.ofString "_law_pot", params := defArgs (top 37), body := FuncBody.stmts (defBody (top 37)), scope := defScope (top 37), globals := 3, closure := [], defaults := Value.none, kwdefaults := Value.none, pyModule := Value.str (Str.ofString "law_thirstwise_k10_refused") 625, code := Value.ref 367 } }) ::
  (nat_lit 369, { cls := Value.type "tuple", data := Data.seq #[] }) ::
  (nat_lit 371, { cls := Value.type "tuple", data := Data.seq #[Value.str (Str.ofString "_law_pots") 676, Value.str (Str.ofString "_law_cans") 677, Value.str (Str.ofString "_law_week") 678, Value.str (Str.ofString "_law_closed") 679, Value.str (Str.ofString "_law_handed") 680, Value.str (Str.ofString "_law_made") 681, Value.str (Str.ofString "_law_error") 682] }) ::
  (nat_lit 372, { cls := Value.type "tuple", data := Data.seq #[] }) ::
  (nat_lit 374, { cls := Value.type "code", data := Data.fields #[Value.str (Str.ofString "_law_garden") 673, Value.str (Str.ofString "_law_garden") 674, Value.str (Str.ofString "/claim/cut.py") 675, Value.int 189 0, Value.int 4 0, Value.int 0 0, Value.int 0 0, Value.int 3 0, Value.ref 369, Value.bool true, Value.int 181 0, Value.ref 370, Value.none, Value.ref 371, Value.ref 372, Value.ref 373, Value.int 683 0, Value.int 189 0, Value.str (Str.ofString "/claim/cut.py") 684] }) ::
  (nat_lit 375, { cls := Value.type "function", data := Data.func { name := Str.ofString "_law_garden", qualname := Str.ofString "_law_garden", params := defArgs (top 38), body := FuncBody.stmts (defBody (top 38)), scope := defScope (top 38), globals := 3, closure := [], defaults := Value.none, kwdefaults := Value.none, pyModule := Value.str (Str.ofString "law_thirstwise_k10_refused") 625, code := Value.ref 374 } }) ::
  (nat_lit 376, { cls := Value.type "tuple", data := Data.seq #[] }) ::
  (nat_lit 378, { cls := Value.type "tuple", data := Data.seq #[Value.str (Str.ofString "_law_far") 689, Value.str (Str.ofString "_law_name") 690, Value.str (Str.ofString "_law_gap") 691, Value.str (Str.ofString "_law_rest") 692] }) ::
  (nat_lit 379, { cls := Value.type "tuple", data := Data.seq #[] }) ::
  (nat_lit 381, { cls := Value.type "code", data := Data.fields #[Value.str (Str.ofString "_law_pots_right") 686, Value.str (Str.ofString "_law_pots_right") 687, Value.str (Str.ofString "/claim/cut.py") 688, Value.int 196 0, Value.int 1 0, Value.int 0 0, Value.int 0 0, Value.int 3 0, Value.ref 376, Value.bool true, Value.int 181 0, Value.ref 377, Value.none, Value.ref 378, Value.ref 379, Value.ref 380, Value.int 693 0, Value.int 196 0, Value.str (Str.ofString "/claim/cut.py") 694] }) ::
  (nat_lit 382, { cls := Value.type "function", data := Data.func { name := Str.ofString "_law_pots_right", qualname := Str.ofString "_law_pots_right", params := defArgs (top 39), body := FuncBody.stmts (defBody (top 39)), scope := defScope (top 39), globals := 3, closure := [], defaults := Value.none, kwdefaults := Value.none, pyModule := Value.str (Str.ofString "law_thirstwise_k10_refused") 625, code := Value.ref 381 } }) ::
  (nat_lit 383, { cls := Value.type "tuple", data := Data.seq #[] }) ::
  (nat_lit 385, { cls := Value.type "tuple", data := Data.seq #[Value.str (Str.ofString "_law_garden_here") 699, Value.str (Str.ofString "_law_way") 700, Value.str (Str.ofString "_law_error") 701] }) ::
  (nat_lit 386, { cls := Value.type "tuple", data := Data.seq #[] }) ::
  (nat_lit 388, { cls := Value.type "code", data := Data.fields #[Value.str (Str.ofString "_law_changed") 696, Value.str (Str.ofString "_law_changed") 697, Value.str (Str.ofString "/claim/cut.py") 698, Value.int 207 0, Value.int 2 0, Value.int 0 0, Value.int 0 0, Value.int 3 0, Value.ref 383, Value.bool true, Value.int 181 0, Value.ref 384, Value.none, Value.ref 385, Value.ref 386, Value.ref 387, Value.int 702 0, Value.int 207 0, Value.str (Str.ofString "/claim/cut.py") 703] }) ::
  (nat_lit 389, { cls := Value.type "function", data := Data.func { name := Str.ofString "_law_changed", qualname := Str.ofString "_law_changed", params := defArgs (top 40), body := FuncBody.stmts (defBody (top 40)), scope := defScope (top 40), globals := 3, closure := [], defaults := Value.none, kwdefaults := Value.none, pyModule := Value.str (Str.ofString "law_thirstwise_k10_refused") 625, code := Value.ref 388 } }) ::
  (nat_lit 390, { cls := Value.type "tuple", data := Data.seq #[] }) ::
  (nat_lit 393, { cls := Value.type "code", data := Data.fields #[Value.str (Str.ofString "law") 705, Value.str (Str.ofString "law") 706, Value.str (Str.ofString "/claim/cut.py") 707, Value.int 230 0, Value.int 1 0, Value.int 0 0, Value.int 0 0, Value.int 3 0, Value.ref 390, Value.bool true, Value.int 181 0, Value.ref 391, Value.none, Value.none, Value.none, Value.ref 392, Value.int 708 0, Value.int 230 0, Value.str (Str.ofString "/claim/cut.py") 709] }) ::
  (nat_lit 394, { cls := Value.type "function", data := Data.func { name := Str.ofString "law", qualname := Str.ofString "law", params := defArgs (top 41), body := FuncBody.stmts (defBody (top 41)), scope := defScope (top 41), globals := 3, closure := [], defaults := Value.none, kwdefaults := Value.none, pyModule := Value.str (Str.ofString "law_thirstwise_k10_refused") 625, code := Value.ref 393 } }) :: []
def addrs : List Addr := [2, 3, 15, 17, 18, 20, 22, 24, 25, 27, 28, 29, 36, 37, 38, 39, 42, 49, 50, 51, 54, 61, 63, 64, 66, 68, 69, 70, 73, 80, 81, 82, 85, 92, 93, 94, 97, 104, 105, 106, 109, 116, 118, 119, 121, 123, 124, 125, 128, 131, 132, 140, 142, 143, 145, 146, 147, 149, 150, 152, 153, 154, 156, 157, 159, 160, 161, 163, 164, 166, 167, 168, 170, 171, 173, 174, 175, 176, 177, 178, 179, 182, 189, 191, 192, 194, 195, 196, 198, 199, 201, 202, 203, 205, 206, 208, 209, 210, 212, 213, 215, 216, 217, 219, 220, 222, 223, 224, 225, 226, 229, 232, 233, 234, 236, 237, 239, 240, 241, 244, 245, 246, 249, 250, 251, 253, 254, 256, 257, 265, 266, 268, 269, 271, 272, 273, 275, 276, 278, 279, 280, 282, 283, 285, 286, 287, 289, 290, 292, 293, 294, 296, 297, 299, 300, 301, 302, 303, 304, 305, 308, 310, 311, 313, 314, 315, 318, 319, 320, 322, 323, 325, 326, 327, 329, 330, 332, 333, 334, 336, 337, 339, 340, 348, 350, 351, 353, 354, 355, 357, 358, 360, 361, 362, 364, 365, 367, 368, 369, 371, 372, 374, 375, 376, 378, 379, 381, 382, 383, 385, 386, 388, 389, 390, 393, 394]
noncomputable def view : Program := { PySem.Challenge.pw_thirstwise_k10_refused with main := { PySem.Challenge.pw_thirstwise_k10_refused.main with body := [top 0, top 2, top 4, top 5, top 6, top 7, top 8, top 9, top 10, top 12, top 13, top 14, top 15, top 16, top 18, top 19, top 20, top 21, top 22, top 23, top 24, top 25, top 26, top 27, top 28, top 29, top 30, top 31, top 33, top 34, top 35, top 36, top 37, top 38, top 39, top 40, top 41] } }
end Tw
section
open PySem PySem.W
theorem Tw.hl1 : ∀ w, (openEnds treeTable PySem.Challenge.rw_thirstwise_k10_refused.row.prog w 6810).map (fun s => openSeen Tw.view [] (importedModules PySem.Challenge.rw_thirstwise_k10_refused.row.prog.main.body) (fun s => xlAt Tw.view [] s && recOk (RowW.records (OpenRow.toRowW (OpenLaw.row PySem.Challenge.rw_thirstwise_k10_refused))) s) true s) = some (openGood Tw.view []) := by
  intro w; kernel_rfl
theorem Tw.hl2 : ∀ w, (openEnds treeTable PySem.Challenge.rw_thirstwise_k10_refused.row.prog w 6810).map (Hook.obs (PySem.W.kHook Tw.KK Tw.addrs (fun _ => by kernel_rfl))) = some (Hook.val (PySem.W.kHook Tw.KK Tw.addrs (fun _ => by kernel_rfl)) w) := by
  intro w; kernel_rfl
theorem Tw.hl : LeftO PySem.Challenge.rw_thirstwise_k10_refused.row.prog Tw.view [] (fun s => xlAt Tw.view [] s && recOk (RowW.records (OpenRow.toRowW (OpenLaw.row PySem.Challenge.rw_thirstwise_k10_refused))) s) (Hook.obs (PySem.W.kHook Tw.KK Tw.addrs (fun _ => by kernel_rfl))) (Hook.val (PySem.W.kHook Tw.KK Tw.addrs (fun _ => by kernel_rfl))) 6810 := by
  intro w
  have h1 := Tw.hl1 w
  have h2 := Tw.hl2 w
  generalize openEnds treeTable PySem.Challenge.rw_thirstwise_k10_refused.row.prog w 6810 = o at h1 h2 ⊢
  cases o with
  | none => cases h1
  | some s =>
    have e1 := Option.some.inj h1
    have e2 := Option.some.inj h2
    exact congrArg some (Prod.ext e1 e2)
end
set_option maxHeartbeats 200000
set_option Elab.async false
set_option linter.all false
set_option maxRecDepth 100000
/-! THE HAND LAYER, for ints, bools, texts, own classes, LISTS and tuples (index, slices, in, append, pop ..), calls, loops. Paste it whole ahead of your own text; what your proof does not reach may be deleted. -/
namespace L2
open PySem PySem.Spec PyProof.Rows

/-- a key: an int or a str -/
abbrev Key := Sum Int Str
def keyIs : Key → Value → Bool
  | .inl k, v => Value.isInt k v
  | .inr x, v => Value.isStrOf x v
def keyH (w : World) : Key → Int
  | .inl k => hashInt k
  | .inr x => hashStr w x
theorem keyIs_shape : ∀ {k : Key} {v : Value}, keyIs k v = true → (∃ i t, k = Sum.inl i ∧ v = Value.int i t) ∨ (∃ x t, k = Sum.inr x ∧ v = Value.str x t)
  | .inl i, v, h => by
    obtain ⟨t, e⟩ := Value.isInt_shape (k := i) (v := v) h
    exact .inl ⟨i, t, rfl, e⟩
  | .inr x, v, h => by
    obtain ⟨t, e⟩ := Value.isStrOf_shape (x := x) (v := v) h
    exact .inr ⟨x, t, rfl, e⟩
theorem keyIs_int (i : Int) (t : Tok) : keyIs (.inl i) (.int i t) = true := by simp [keyIs, Value.isInt]
theorem keyIs_str (x : Str) (t : Tok) : keyIs (.inr x) (.str x t) = true := by simp [keyIs, Value.isStrOf]
theorem key_ll (a b : Int) : decide ((Sum.inl a : Key) = Sum.inl b) = (a == b) := by
  by_cases e : a = b
  · subst e; simp
  · have h : ¬ (Sum.inl a : Key) = Sum.inl b := fun q => e (Sum.inl.inj q)
    rw [decide_eq_false h]
    exact (beq_eq_false_iff_ne.mpr e).symm
theorem key_rr (a b : Str) : decide ((Sum.inr a : Key) = Sum.inr b) = decide (a = b) := by
  by_cases e : a = b
  · subst e; simp
  · have h : ¬ (Sum.inr a : Key) = Sum.inr b := fun q => e (Sum.inr.inj q)
    rw [decide_eq_false h, decide_eq_false e]
theorem key_lr (a : Int) (b : Str) : decide ((Sum.inl a : Key) = Sum.inr b) = false := decide_eq_false (fun q => nomatch q)
theorem key_rl (a : Str) (b : Int) : decide ((Sum.inr a : Key) = Sum.inl b) = false := decide_eq_false (fun q => nomatch q)

def mixKind (prog : Program) (w : World) : PySem.KeyKind prog w Key where
  is := keyIs
  hash := keyH w
  inj := fun v a b ha hb => by
    rcases keyIs_shape ha with ⟨i, t, rfl, rfl⟩ | ⟨x, t, rfl, rfl⟩
    · rcases keyIs_shape hb with ⟨j, u, rfl, e⟩ | ⟨y, u, rfl, e⟩
      · injection e with e1 _; rw [e1]
      · exact nomatch e
    · rcases keyIs_shape hb with ⟨j, u, rfl, e⟩ | ⟨y, u, rfl, e⟩
      · exact nomatch e
      · injection e with e1 _; rw [e1]
  byValue := fun k v h => by
    rcases keyIs_shape h with ⟨i, t, rfl, rfl⟩ | ⟨x, t, rfl, rfl⟩ <;> rfl
  pyHash := fun hv h => by
    rcases keyIs_shape hv with ⟨i, t, rfl, rfl⟩ | ⟨x, t, rfl, rfl⟩
    · exact wpAny_pyHash_int h
    · exact wpAny_pyHash_str h
  eqBool := fun hu hv h => by
    rcases keyIs_shape hu with ⟨i, t, rfl, rfl⟩ | ⟨x, t, rfl, rfl⟩
    · rcases keyIs_shape hv with ⟨j, u, rfl, rfl⟩ | ⟨y, u, rfl, rfl⟩
      · rw [key_ll] at h; exact wpAny_eqBool_int h
      · rw [key_lr] at h; exact SeqAt.EqAt.int_str i t y u _ _ _ _ h
    · rcases keyIs_shape hv with ⟨j, u, rfl, rfl⟩ | ⟨y, u, rfl, rfl⟩
      · rw [key_rl] at h; exact SeqAt.EqAt.str_int x t j u _ _ _ _ h
      · rw [key_rr] at h; exact wpAny_eqBool_str h
  «strs» := fun k x t v h => by
    rcases keyIs_shape h with ⟨i, u, rfl, e⟩ | ⟨y, u, rfl, e⟩
    · exact nomatch e
    · injection e with e1 _
      subst e1
      cases v <;> rfl

theorem mixKind_is (prog : Program) (w : World) (k : Key) (v : Value) : (mixKind prog w).is k v = keyIs k v := rfl
theorem mixKind_int (prog : Program) (w : World) (i : Int) (t : Tok) : (mixKind prog w).is (.inl i) (.int i t) = true := keyIs_int i t
theorem mixKind_str (prog : Program) (w : World) (x : Str) (t : Tok) : (mixKind prog w).is (.inr x) (.str x t) = true := keyIs_str x t
end L2

namespace L2
open PySem PySem.Spec PyProof.Rows

/-- a value, without the heap -/
inductive V where
  | non | bl (b : Bool) | int (i : Int) | str (x : Str) | byt (b : Array UInt8) | flt (b : UInt64) | ref (a : Addr) | ty (n : String)
  deriving DecidableEq

def RelV : V → Value → Prop
  | .non, u => u = Value.none
  | .bl b, u => u = Value.bool b
  | .int i, u => ∃ t, u = Value.int i t
  | .str x, u => ∃ t, u = Value.str x t
  | .byt b, u => ∃ t, u = Value.bytes b t
  | .flt b, u => ∃ t, u = Value.float b t
  | .ref a, u => u = Value.ref a
  | .ty n, u => u = Value.type n

abbrev Vals : List V → List Value → Prop := Paired RelV
theorem Vals.length {xs : List V} {us : List Value} (r : Vals xs us) : xs.length = us.length := Paired.length r
theorem Vals.get : ∀ {xs : List V} {us : List Value} {i : Nat} {x : V}, Vals xs us → xs[i]? = some x → ∃ u, us[i]? = some u ∧ RelV x u
  | _, _, _, _, .nil, e => by simp at e
  | _, _, 0, _, .cons r _, e => by simp at e; subst e; exact ⟨_, rfl, r⟩
  | _, _, i + 1, x, .cons _ t, e => by
    obtain ⟨u, h1, h2⟩ := Vals.get (i := i) (x := x) t (by simpa using e)
    exact ⟨u, by simpa using h1, h2⟩
theorem Vals.set {x : V} {u : Value} (r : RelV x u) : ∀ {xs : List V} {us : List Value} (i : Nat), Vals xs us → Vals (xs.set i x) (us.set i u)
  | _, _, _, .nil => .nil
  | _, _, 0, .cons _ t => .cons r t
  | _, _, i + 1, .cons q t => .cons q (Vals.set r i t)
theorem Vals.append : ∀ {xs ys : List V} {us ws : List Value}, Vals xs us → Vals ys ws → Vals (xs ++ ys) (us ++ ws)
  | _, _, _, _, .nil, s => s
  | _, _, _, _, .cons r t, s => .cons r (Vals.append t s)
theorem Vals.take : ∀ {xs : List V} {us : List Value} (n : Nat), Vals xs us → Vals (xs.take n) (us.take n)
  | _, _, 0, _ => .nil
  | _, _, _ + 1, .nil => .nil
  | _, _, n + 1, .cons r t => .cons r (Vals.take n t)
theorem Vals.drop : ∀ {xs : List V} {us : List Value} (n : Nat), Vals xs us → Vals (xs.drop n) (us.drop n)
  | _, _, 0, r => r
  | _, _, _ + 1, .nil => .nil
  | _, _, n + 1, .cons _ t => Vals.drop n t
theorem Vals.none_of : ∀ {xs : List V} {us : List Value} {i : Nat}, Vals xs us → xs[i]? = none → us[i]? = none := fun {xs us i} r e => by
  have h1 := r.length
  have h2 : xs.length ≤ i := List.getElem?_eq_none_iff.mp e
  exact List.getElem?_eq_none_iff.mpr (by omega)

def RelO : Option V → Option Value → Prop
  | some v, some u => RelV v u
  | none, none => True
  | _, _ => False
def KV {κ : Type} : List (κ × V) → List (κ × Value) → Prop := Paired fun (p : κ × V) (q : κ × Value) => p.1 = q.1 ∧ RelV p.2 q.2

/-- a key of a dict (00_mix): an int or a text -/
def kV : Key → V
  | .inl i => .int i
  | .inr x => .str x

/-- what stands at a tracked address -/
inductive HO where
  /-- a list -/
  | lst (xs : List V)
  /-- a tuple (never changes) -/
  | tup (xs : List V)
  /-- a dict whose keys are ints and texts; one whose keys are tuples of ints and texts (the empty one is both) -/
  | dK (kvs : List (Key × V)) | dT (kvs : List (List Key × V))
  /-- a set of ints: its members, its size -/
  | set (S : Int → Bool) (n : Nat)
  /-- an instance of the class at C, its dict at dx, its attributes -/
  | ins (C dx : Addr) (fs : List (Str × V))
  /-- the dict of the instance at x -/
  | own (x : Addr)
  /-- the dict of an exception -/
  | xd (fs : List (Str × V))
  /-- a bound method, f of x -/
  | met (f x : Addr)
  /-- a range object lo, lo + 1, .. below hi -/
  | rng (lo hi : Int)
  /-- a thing that is known to the object (the script; a dict while a loop walks it): read, never written while it is so -/
  | frz (o : Obj) (u : HO)
  /-- a code object's table -/
  | tbl (ps : Array Value)
  /-- any other thing, by what is true of its one object (a def of one's own: SetO a S n := HO.ext fun h => ..) -/
  | ext (φ : Heap → Prop)

abbrev Hp := Addr → Option HO
def upd (H : Hp) (a : Addr) (o : HO) : Hp := fun b => if b = a then some o else H b
theorem upd_same {H : Hp} {a : Addr} {o : HO} : upd H a o a = some o := by unfold upd; rw [if_pos rfl]
theorem upd_ne {H : Hp} {a b : Addr} {o : HO} (h : b ≠ a) : upd H a o b = H b := by unfold upd; rw [if_neg h]
theorem upd_upd {H : Hp} {a : Addr} {o u : HO} : upd (upd H a o) a u = upd H a u := by
  funext b; unfold upd; split <;> rfl
/-- two objects of different content stand apart -/
theorem ne_of {H : Hp} {a b : Addr} {o u : HO} (h : H a = some o) (h' : H b = some u) (d : o ≠ u) : a ≠ b := by
  intro e; subst e; rw [h] at h'; exact d (Option.some.inj h')
theorem ne_of_none {H : Hp} {a b : Addr} {o : HO} (h : H a = some o) (h' : H b = none) : a ≠ b := by
  intro e; subst e; rw [h] at h'; cases h'

section
variable (P : Program) (w : World)
def ObjOk (H : Hp) (h : Heap) (a : Addr) : HO → Prop
  | .lst xs => xs.length ≤ sizeLine ∧ ∃ (its : List Value) (n : Nat), Vals xs its ∧ h.get? a = some { cls := .type "list", data := .seq its.toArray n }
  | .tup xs => xs.length ≤ sizeLine ∧ ∃ its : List Value, Vals xs its ∧ IsTup h a its.toArray
  | .dK kvs => kvs.length ≤ sizeLine ∧ (a == sysModules) = false ∧ ∃ vs, KV kvs vs ∧ h.DictOf (mixKind P w) a vs
  | .dT kvs => kvs.length ≤ sizeLine ∧ (a == sysModules) = false ∧ ∃ xs : List (List Key × Addr × Value),
      Paired (fun (p : List Key × V) (q : List Key × Addr × Value) => p.1 = q.1 ∧ H q.2.1 = some (.tup (p.1.map kV)) ∧ RelV p.2 q.2.2) kvs xs ∧
      ∃ o es ep, h.get? a = some o ∧ o.ExactDict ∧ o.data = .dict es ep ∧ es.toList = xs.map (entryOfKey (tupleKind (mixKind P w))) ∧ (xs.map (·.1)).Nodup
  | .set S n => h.SetOf (intKind P w) a S n
  | .ins C dx fs => H dx = some (.own a) ∧ fs.length ≤ 1000 ∧ dx ≠ a ∧ h.get? a = some (PySem.W.instObj C dx) ∧
      ∃ mA, h.Ns1 dx mA ∧ (∀ f, RelO (fs.lookup f) (mA f)) ∧ PySem.Within mA (fs.map (·.1))
  | .own _ => ∃ o, h.get? a = some o
  | .xd fs => ∃ mA, h.Ns1 a mA ∧ ∀ f, RelO (fs.lookup f) (mA f)
  | .rng lo hi => ∃ t u v, h.get? a = some { cls := .type "range", data := .fields #[.int lo t, .int hi u, .int 1 v] }
  | .frz o u => h.get? a = some o ∧ ObjOk H h a u
  | .tbl ps => h.get? a = some { cls := .none, data := .fields ps }
  | .met f x => h.get? a = some (PySem.W.methodObj (.ref f) (.ref x))
  | .ext φ => φ h ∧ (∃ o, h.get? a = some o) ∧ ∀ h1 h2 : Heap, φ h1 → (∀ o, h1.get? a = some o → h2.get? a = some o) → φ h2
/-- the abstract heap is held -/
def HOk (H : Hp) (h : Heap) : Prop := ∀ a o, H a = some o → ObjOk P w H h a o
end

section
variable {P : Program} {w : World} {H H' : Hp} {h h' : Heap} {a : Addr} {o : HO}
theorem ObjOk.lt (x : ObjOk P w H h a o) : a < h.objs.size := by
  cases o with
  | lst xs => obtain ⟨_, _, _, _, e⟩ := x; exact Heap.lt_size e
  | tup xs => obtain ⟨_, _, _, p⟩ := x; exact p.lt
  | dK kvs => obtain ⟨_, _, _, _, o, _, _, e, _⟩ := x; exact Heap.lt_size e
  | dT kvs => obtain ⟨_, _, _, _, o, _, _, e, _⟩ := x; exact Heap.lt_size e
  | set S n => obtain ⟨o, _, _, _, e, _⟩ := x; exact Heap.lt_size e
  | ins C dx fs => obtain ⟨_, _, _, e, _⟩ := x; exact Heap.lt_size e
  | own y => obtain ⟨_, e⟩ := x; exact Heap.lt_size e
  | xd fs => obtain ⟨_, ⟨_, _, _, e, _⟩, _⟩ := x; exact Heap.lt_size e
  | rng lo hi => obtain ⟨_, _, _, e⟩ := x; exact Heap.lt_size e
  | frz ob u => obtain ⟨e, _⟩ := x; exact Heap.lt_size e
  | tbl ps => exact Heap.lt_size (show h.get? a = some _ from x)
  | met f y => exact Heap.lt_size (show h.get? a = some _ from x)
  | ext φ => obtain ⟨_, ⟨_, e⟩, _⟩ := x; exact Heap.lt_size e
theorem Paired.mapP {α β : Type} {F G : α → β → Prop} : ∀ {l₁ : List α} {l₂ : List β}, Paired F l₁ l₂ → (∀ a b, F a b → G a b) → Paired G l₁ l₂
  | _, _, .nil, _ => .nil
  | _, _, .cons r t, f => .cons (f _ _ r) (Paired.mapP t f)
theorem Paired.imp' {α β : Type} {F G : α → β → Prop} (f : ∀ a b, F a b → G a b) {l₁ : List α} {l₂ : List β} (r : Paired F l₁ l₂) : Paired G l₁ l₂ := Paired.mapP r f
/-- what an object's description leans on: its own object, its own dict, the tuples -/
theorem ObjOk.stay (x : ObjOk P w H h a o) (k : ∀ b u, (b = a ∨ H b = some (.own a)) → h.get? b = some u → h'.get? b = some u)
    (ho : ∀ b, H b = some (.own a) → H' b = some (.own a)) (ht : ∀ b xs, H b = some (.tup xs) → H' b = some (.tup xs)) : ObjOk P w H' h' a o := by
  induction o with
  | lst xs => obtain ⟨z, its, n, r, e⟩ := x; exact ⟨z, its, n, r, k _ _ (.inl rfl) e⟩
  | tup xs => obtain ⟨z, its, r, ob, e, c⟩ := x; exact ⟨z, its, r, ob, k _ _ (.inl rfl) e, c⟩
  | dK kvs => obtain ⟨z, y, vs, r, ob, es, ep, e, c⟩ := x; exact ⟨z, y, vs, r, ob, es, ep, k _ _ (.inl rfl) e, c⟩
  | dT kvs =>
    obtain ⟨z, y, xs, r, ob, es, ep, e, c⟩ := x
    exact ⟨z, y, xs, Paired.mapP r fun p q z => ⟨z.1, ht _ _ z.2.1, z.2.2⟩, ob, es, ep, k _ _ (.inl rfl) e, c⟩
  | set S n => obtain ⟨ob, es, ep, t, e, c⟩ := x; exact ⟨ob, es, ep, t, k _ _ (.inl rfl) e, c⟩
  | ins C dx fs =>
    obtain ⟨d, z, ne, e, mA, ⟨od, es, ep, e2, c⟩, r⟩ := x
    exact ⟨ho _ d, z, ne, k _ _ (.inl rfl) e, mA, ⟨od, es, ep, k _ _ (.inr d) e2, c⟩, r⟩
  | own y => obtain ⟨ob, e⟩ := x; exact ⟨ob, k _ _ (.inl rfl) e⟩
  | xd fs => obtain ⟨mA, ⟨od, es, ep, e, c⟩, r⟩ := x; exact ⟨mA, ⟨od, es, ep, k _ _ (.inl rfl) e, c⟩, r⟩
  | rng lo hi => obtain ⟨t, u, v, e⟩ := x; exact ⟨t, u, v, k _ _ (.inl rfl) e⟩
  | frz ob u ih => obtain ⟨e, q⟩ := x; exact ⟨k _ _ (.inl rfl) e, ih q⟩
  | tbl ps =>
    have e : h.get? a = some { cls := .none, data := .fields ps } := x
    show h'.get? a = some { cls := .none, data := .fields ps }
    exact k a _ (.inl rfl) e
  | met f y =>
    have e : h.get? a = some (PySem.W.methodObj (.ref f) (.ref y)) := x
    show h'.get? a = some (PySem.W.methodObj (.ref f) (.ref y))
    exact k a _ (.inl rfl) e
  | ext φ => obtain ⟨p, ⟨o, e⟩, st⟩ := x; exact ⟨st _ _ p fun o q => k _ _ (.inl rfl) q, ⟨o, k _ _ (.inl rfl) e⟩, st⟩
theorem HOk.lt (x : HOk P w H h) (e : H a = some o) : a < h.objs.size := (x a o e).lt
theorem HOk.fresh (x : HOk P w H h) (e : h.objs.size ≤ a) : H a = none := by
  cases q : H a with
  | none => rfl
  | some u => exact absurd (Nat.lt_of_lt_of_le (x.lt q) e) (Nat.lt_irrefl _)
/-- every object of the heap is kept -/
theorem HOk.kept (x : HOk P w H h) (k : ∀ b u, h.get? b = some u → h'.get? b = some u) : HOk P w H h' := fun a o e =>
  (x a o e).stay (fun b u _ q => k b u q) (fun _ q => q) fun _ _ q => q
/-- a new object is laid and tracked -/
theorem HOk.laid (x : HOk P w H h) (k : ∀ b u, h.get? b = some u → h'.get? b = some u) (hp : h.objs.size ≤ a) (new : ObjOk P w (upd H a o) h' a o) : HOk P w (upd H a o) h' := fun b u e => by
  have hn := x.fresh hp
  by_cases hb : b = a
  · subst hb; rw [upd_same] at e; cases e; exact new
  · rw [upd_ne hb] at e
    exact (x b u e).stay (fun c v _ q => k c v q) (fun c q => by rw [upd_ne (ne_of_none q hn)]; exact q) fun c xs q => by rw [upd_ne (ne_of_none q hn)]; exact q
end

/-- what may be read as u: it is u, or a known u -/
def Rd (H : Hp) (a : Addr) (u : HO) : Prop := H a = some u ∨ ∃ o, H a = some (.frz o u)
theorem Rd.of {H : Hp} {a : Addr} {u : HO} (h : H a = some u) : Rd H a u := .inl h
theorem Rd.ok {P : Program} {w : World} {H : Hp} {h : Heap} {a : Addr} {u : HO} (r : Rd H a u) (x : HOk P w H h) : ObjOk P w H h a u := by
  rcases r with r | ⟨o, r⟩
  · exact x a u r
  · obtain ⟨_, q⟩ := x a _ r
    exact q
/-- what may be written -/
def Mut : Option HO → Prop
  | some (.lst _) => True
  | some (.dK _) => True
  | some (.dT _) => True
  | some (.set _ _) => True
  | some (.ins _ _ _) => True
  | some (.ext _) => True
  | _ => False
section
variable {P : Program} {w : World} {H : Hp} {h h' : Heap} {x e : Addr} {o' : HO}
/-- the object at e is changed: x itself, or the dict of the instance x -/
theorem HOk.write (ok : HOk P w H h) (mu : Mut (H x)) (he : e = x ∨ H e = some (.own x)) (k : ∀ b u, b ≠ e → h.get? b = some u → h'.get? b = some u) (heo : ∃ u, h'.get? e = some u)
    (new : ObjOk P w (upd H x o') h' x o') : HOk P w (upd H x o') h' := fun b u q => by
  have nown : ∀ c y, H c = some (.own y) → c ≠ x := fun c y r z => by subst z; rw [r] at mu; exact mu
  have ntup : ∀ c xs, H c = some (.tup xs) → c ≠ x := fun c xs r z => by subst z; rw [r] at mu; exact mu
  by_cases hb : b = x
  · subst hb; rw [upd_same] at q; cases q; exact new
  · rw [upd_ne hb] at q
    by_cases hbe : b = e
    · have q' : H b = some (.own x) := by
        rcases he with z | z
        · exact absurd (hbe.trans z) hb
        · rw [hbe]; exact z
      rw [q] at q'; cases q'
      obtain ⟨v, hv⟩ := heo
      exact ⟨v, by rw [hbe]; exact hv⟩
    · refine (ok b u q).stay (fun c v hc r => k c v ?_ r) (fun c r => by rw [upd_ne (nown c b r)]; exact r) fun c xs r => by rw [upd_ne (ntup c xs r)]; exact r
      rcases hc with rfl | hc
      · exact hbe
      · rintro rfl
        rcases he with z | z
        · exact nown c b hc z
        · rw [hc] at z; cases z; exact hb rfl
end

/-! ### kept unless tracked; of the frames at fs (the callers') the slots may change (an exception that passes writes there); of the records at ex (iterators) nothing is said -/
structure Un (fs ex : List Addr) (H H' : Hp) (h h' : Heap) : Prop where
  keep : ∀ b o, h.get? b = some o → H b = none → b ∉ fs → b ∉ ex → h'.get? b = some o
  slot : ∀ b o, h.get? b = some o → H b = none → b ∈ fs → b ∉ ex → ∃ sl, h'.get? b = some { o with slots := sl }
  free : ∀ b o, h.get? b = some o → H b = none → b ∉ ex → H' b = none
  there : ∀ b o, h.get? b = some o → b ∉ ex → ∃ o', h'.get? b = some o'
  tups : ∀ b xs, H b = some (.tup xs) → H' b = some (.tup xs)
  frzs : ∀ b o u, H b = some (.frz o u) → H' b = some (.frz o u)
  tbls : ∀ b ps, H b = some (.tbl ps) → ∃ more, H' b = some (.tbl (ps ++ more))
section
variable {fs fs' ex ex' : List Addr} {H H1 H2 : Hp} {h h1 h2 h' : Heap} {a x e : Addr} {o : HO}
theorem Un.any (u : Un fs ex H H1 h h1) {b : Addr} {ob : Obj} (q : h.get? b = some ob) (n : H b = none) (hx : b ∉ ex) : ∃ sl, h1.get? b = some { ob with slots := sl } := by
  by_cases hb : b ∈ fs
  · exact u.slot b ob q n hb hx
  · exact ⟨ob.slots, u.keep b ob q n hb hx⟩
theorem Un.trans (a : Un fs ex H H1 h h1) (b : Un fs ex H1 H2 h1 h2) : Un fs ex H H2 h h2 where
  keep := fun c ob q n hc hx => b.keep c ob (a.keep c ob q n hc hx) (a.free c ob q n hx) hc hx
  slot := fun c ob q n hc hx => by
    obtain ⟨sl, e1⟩ := a.slot c ob q n hc hx
    obtain ⟨sl', e2⟩ := b.slot c _ e1 (a.free c ob q n hx) hc hx
    exact ⟨sl', e2⟩
  free := fun c ob q n hx => by
    obtain ⟨o', e1⟩ := a.there c ob q hx
    exact b.free c o' e1 (a.free c ob q n hx) hx
  there := fun c ob q hx => by
    obtain ⟨o', e1⟩ := a.there c ob q hx
    exact b.there c o' e1 hx
  tups := fun c xs q => b.tups c xs (a.tups c xs q)
  frzs := fun c ob xs q => b.frzs c ob xs (a.frzs c ob xs q)
  tbls := fun c ps q => by
    obtain ⟨m1, e1⟩ := a.tbls c ps q
    obtain ⟨m2, e2⟩ := b.tbls c _ e1
    exact ⟨m1 ++ m2, by rw [e2, Array.append_assoc]⟩
theorem Un.kept (k : ∀ b u, h.get? b = some u → h'.get? b = some u) : Un fs ex H H h h' :=
  ⟨fun b ob q _ _ _ => k b ob q, fun b ob q _ _ _ => ⟨ob.slots, k b ob q⟩, fun _ _ _ n _ => n, fun b ob q _ => ⟨ob, k b ob q⟩, fun _ _ q => q, fun _ _ _ q => q, fun _ ps q => ⟨#[], by rw [q]; simp⟩⟩
theorem Un.refl : Un fs ex H H h h := Un.kept fun _ _ q => q
theorem Un.laid (k : ∀ b u, h.get? b = some u → h'.get? b = some u) (hp : h.objs.size ≤ a) (hn : H a = none) : Un fs ex H (upd H a o) h h' where
  keep := fun b u q _ _ _ => k b u q
  slot := fun b u q _ _ _ => ⟨u.slots, k b u q⟩
  free := fun b u q n _ => by rw [upd_ne (Nat.ne_of_lt (Nat.lt_of_lt_of_le (Heap.lt_size q) hp))]; exact n
  there := fun b u q _ => ⟨u, k b u q⟩
  tups := fun b xs q => by rw [upd_ne (ne_of_none q hn)]; exact q
  frzs := fun b u xs q => by rw [upd_ne (ne_of_none q hn)]; exact q
  tbls := fun b ps q => ⟨#[], by rw [upd_ne (ne_of_none q hn), q]; simp⟩
theorem Un.write (mu : Mut (H x)) (he : e = x ∨ H e = some (.own x)) (k : ∀ b u, b ≠ e → h.get? b = some u → h'.get? b = some u) (heo : ∃ u, h'.get? e = some u) : Un fs ex H (upd H x o) h h' := by
  have hx : ∀ b, H b = none → b ≠ x := fun b n z => by subst z; rw [n] at mu; exact mu
  have hb : ∀ b, H b = none → b ≠ e := fun b n z => by
    subst z
    rcases he with r | r
    · exact hx b n r
    · rw [n] at r; cases r
  have hm : ∀ b u, H b = some u → ¬ Mut (some u) → b ≠ x := fun b u q nm z => by subst z; rw [q] at mu; exact nm mu
  refine ⟨fun b u q n _ _ => k b u (hb b n) q, fun b u q n _ _ => ⟨u.slots, k b u (hb b n) q⟩, fun b u q n _ => by rw [upd_ne (hx b n)]; exact n, fun b u q _ => ?_,
    fun b xs q => by rw [upd_ne (hm b _ q fun z => z)]; exact q, fun b u xs q => by rw [upd_ne (hm b _ q fun z => z)]; exact q, fun b ps q => ⟨#[], by rw [upd_ne (hm b _ q fun z => z), q]; simp⟩⟩
  by_cases hbe : b = e
  · subst hbe; exact heo
  · exact ⟨u, k b u hbe q⟩
theorem Un.mono (u : Un fs ex H H1 h h1) (hs : ∀ b ∈ fs, b ∈ fs') (hx : ∀ b ∈ ex, b ∈ ex') : Un fs' ex' H H1 h h1 :=
  ⟨fun b ob q n hb he => u.keep b ob q n (fun z => hb (hs b z)) fun z => he (hx b z), fun _ _ q n _ he => u.any q n fun z => he (hx _ z), fun b ob q n he => u.free b ob q n fun z => he (hx b z), fun b ob q he => u.there b ob q fun z => he (hx b z), u.tups, u.frzs, u.tbls⟩
end

/-! ### the heap without what is tracked -/
def trk (h : Heap) (H : Hp) : List Addr := (List.range h.objs.size).filter fun a => (H a).isSome
def hidT (h : Heap) (H : Hp) : Heap := PySem.W.hideAll h (trk h H)
theorem hidT_size (h : Heap) (H : Hp) : (hidT h H).objs.size = h.objs.size := PySem.W.hideAll_size _ _
theorem hidT_get {h : Heap} {H : Hp} {b : Addr} {o : Obj} (e : h.get? b = some o) (n : H b = none) : (hidT h H).get? b = some o :=
  PySem.W.hideAll_get _ e fun hm => by
    have q : (H b).isSome = true := (List.mem_filter.mp hm).2
    rw [n] at q; simp at q
theorem of_hidT {h : Heap} {H : Hp} {b : Addr} {o : Obj} (e : (hidT h H).get? b = some o) : h.get? b = some o ∧ H b = none := by
  have e' : h.get? b = some o := PySem.W.of_hideAll (trk h H) e
  refine ⟨e', ?_⟩
  cases q : H b with
  | none => rfl
  | some x =>
    have hm : b ∈ trk h H := List.mem_filter.mpr ⟨List.mem_range.mpr (Heap.lt_size e'), by simp [q]⟩
    have z : (hidT h H).get? b = none := PySem.W.hideAll_none (trk h H) hm
    rw [z] at e; cases e

/-! ### OpenK's ledger, filled with every new object but one -/
def allNews (g h : Heap) (L : Addr) : List (Addr × Obj) := (List.range h.objs.size).filterMap fun a => if a = L ∨ (g.get? a).isSome = true then none else (h.get? a).map fun o => (a, o)
theorem mem_allNews {g h : Heap} {L a : Addr} {o : Obj} (h1 : a ≠ L) (h2 : g.get? a = none) (h3 : h.get? a = some o) : (a, o) ∈ allNews g h L :=
  List.mem_filterMap.mpr ⟨a, List.mem_range.mpr (Heap.lt_size h3), by simp [h1, h2, h3]⟩
theorem of_mem_allNews {g h : Heap} {L : Addr} {p : Addr × Obj} (hp : p ∈ allNews g h L) : p.1 ≠ L ∧ g.get? p.1 = none ∧ h.get? p.1 = some p.2 := by
  obtain ⟨b, _, e⟩ := List.mem_filterMap.mp hp
  split at e
  · cases e
  · rename_i hn
    cases q : h.get? b with
    | none => rw [q] at e; simp at e
    | some u =>
      rw [q] at e
      simp only [Option.map_some, Option.some.injEq] at e
      subst e
      refine ⟨fun z => hn (.inl z), ?_, q⟩
      show g.get? b = none
      cases r : g.get? b with
      | none => rfl
      | some v => exact (hn (.inr (by simp [r]))).elim
def rest (g h : Heap) (L d : Addr) : List (Addr × Obj) := (allNews g h L).filter fun p => decide (p.1 ≠ d)
theorem rest_ne {g h : Heap} {L d : Addr} : ∀ p ∈ rest g h L d, p.1 ≠ d := fun p hp => of_decide_eq_true (List.mem_filter.mp hp).2
theorem mem_rest {g h : Heap} {L d a : Addr} {o : Obj} (h1 : a ≠ L) (h2 : g.get? a = none) (h3 : h.get? a = some o) (h4 : a ≠ d) : (a, o) ∈ rest g h L d :=
  List.mem_filter.mpr ⟨mem_allNews h1 h2 h3, decide_eq_true h4⟩
theorem news_all {g h : Heap} {L : Addr} : News g L h (allNews g h L) := fun p hp => let ⟨a, b, c⟩ := of_mem_allNews hp; ⟨c, a, b⟩
theorem news_at {g h : Heap} {L d : Addr} {o : Obj} (h1 : d ≠ L) (h2 : g.get? d = none) (h3 : h.get? d = some o) : News g L h ((d, o) :: rest g h L d) := fun p hp => by
  rcases List.mem_cons.mp hp with rfl | hp
  · exact ⟨h3, h1, h2⟩
  · exact news_all p (List.mem_filter.mp hp).1
/-- behind a rule that changed d alone: all else but the frame is kept -/
theorem kept_of_news {g h h' : Heap} {L d : Addr} {m : Str → Option Value} (k : ∀ b o, g.get? b = some o → h.get? b = some o) (F : Fr g L h' m) (N : News g L h' (rest g h L d)) :
    ∀ b o, b ≠ L → b ≠ d → h.get? b = some o → h'.get? b = some o := fun b o h1 h2 e => by
  cases q : g.get? b with
  | some u =>
    have := k b u q
    rw [e] at this; cases this
    exact F.keep b _ q
  | none => exact (N (b, o) (mem_rest h1 q e h2)).1
end L2

namespace L2
open PySem PySem.Spec PyProof.Rows

/-- the module's facts, over the base: the heap at the law's entry without what is tracked there -/
structure Mod (K : PySem.W.Frag) (mg : Str → Option Value) (base : Heap) : Prop where
  kin : K.In base
  glob : base.Ns mainGlobals mg
  blt : ∃ mb, base.Ns builtinsNs mb ∧ ∀ x : Str, x ≠ "__name__" → mb x = bootBuiltins x
  nolimit : base.NoLimit

/-- the context: a def's body (or a comprehension's block) running. base: fixed through the whole law; s₀, H₀: the entry; outer: the frames whose slots others may change (a def's callers); stack: all frames that run;
   ex: iterators that were made ahead of the entry and are walked here (a comprehension's); fn: the names whose cells were made at the entry (a def: all; a comprehension's block: its own); calm: not within an except suite; pn: pins that every state bears; xe: what is wanted of an exception that leaves the code -/
structure Cx where
  prog : Program
  w : World
  K : PySem.W.Frag
  mg : Str → Option Value
  base : Heap
  A : Around
  N : List Str
  s₀ : Shared
  H₀ : Hp
  env : Env
  outer : List Env
  stack : List Env
  ex : List Addr
  fn : Str → Bool
  calm : Bool
  pn : List (Addr × Obj)
  xe : Value → Shared → Prop
/-- the callers' frames -/
def frs (l : List Env) : List Addr := l.filterMap (·.frame)
abbrev Cx.fs (X : Cx) : List Addr := frs X.outer

def Vis (sc : Scope) (x : Str) : Prop := sc.names.lookup x = some .local ∨ sc.names.lookup x = some .cell ∨ sc.names.lookup x = some .free
def Loc (sc : Scope) (x : Str) : Prop := sc.names.lookup x = some .local ∨ sc.names.lookup x = some .cell
def Look (env : Env) (h : Heap) (m : Str → Option Value) (x : Str) (u : Value) : Prop :=
  (env.kindOf x = some .local ∧ m x = some u) ∨ ((env.kindOf x = some .cell ∨ env.kindOf x = some .free) ∧ ∃ c, env.cells.lookup x = some c ∧ h.IsCell c (some u))

structure Cx.Ok (X : Cx) : Prop where
  mod : Mod X.K X.mg X.base
  kind : X.env.scope.kind = .function
  glob : X.env.globals = mainGlobals
  blt : X.env.builtins = builtinsNs
  above : X.s₀.heap.objs.size ≤ X.env.locals
  inj : ∀ x y c, X.env.cells.lookup x = some c → X.env.cells.lookup y = some c → x = y
  has : ∀ x, (X.env.kindOf x = some .cell ∨ X.env.kindOf x = some .free) → ∃ c, X.env.cells.lookup x = some c
  cab : ∀ x c, X.fn x = true → X.env.cells.lookup x = some c → X.s₀.heap.objs.size ≤ c
  hd : X.calm = true → X.A.handled = none
  frames : X.A.frames = some X.stack
  stk : X.stack = X.outer ∨ (X.stack = X.env :: X.outer ∧ X.env.frame = some X.env.locals)
  exf : ∀ b ∈ X.ex, b ≠ X.env.locals ∧ ∀ x c, X.env.cells.lookup x = some c → c ≠ b
  bs : ∀ b o, X.base.get? b = some o → X.s₀.heap.get? b = some o ∧ X.H₀ b = none
  bsz : X.base.objs.size ≤ X.s₀.heap.objs.size
  noex : ∀ b o, X.base.get? b = some o → b ∉ X.ex
  exfs : ∀ b ∈ X.ex, b ∉ X.fs
  funs : X.s₀.heap.FunFrames X.base X.outer
  frf : ∀ b ∈ X.fs, X.H₀ b = none

structure Inv (X : Cx) (pins : List (Addr × Obj)) (σ : List (Option V)) (H : Hp) (s : Shared) : Prop where
  ok : X.Ok
  os : s.os = X.s₀.os
  bare : AllBare s.gens
  base : Un X.fs X.ex X.H₀ H X.s₀.heap s.heap
  loc : ∃ m, s.heap.Ns X.env.locals m ∧ ∀ (i : Nat) (x : Str) (v : V), X.N[i]? = some x → σ[i]? = some (some v) → Vis X.env.scope x → ∃ u, RelV v u ∧ Look X.env s.heap m x u
  cell : ∀ x c, X.env.cells.lookup x = some c → ∃ v, s.heap.IsCell c v
  free : H X.env.locals = none
  freeC : ∀ x c, X.env.cells.lookup x = some c → H c = none
  pin : ∀ p ∈ X.pn ++ pins, s.heap.get? p.1 = some p.2 ∧ H p.1 = none ∧ p.1 ≠ X.env.locals ∧ p.1 ∉ X.fs ∧ ∀ v, p.2.data ≠ .cell v
  hok : HOk X.prog X.w H s.heap
  len : σ.length = X.N.length

section
variable {X : Cx} {pins : List (Addr × Obj)} {σ : List (Option V)} {H H' : Hp} {s : Shared} {h' : Heap}

theorem Cx.Ok.nofr (ok : X.Ok) {b : Addr} {o : Obj} (e : X.base.get? b = some o) : b ∉ X.fs := fun hb => by
  have := (ok.funs.mem hb).1
  rw [e] at this; cases this
theorem Inv.bs (I : Inv X pins σ H s) : ∀ b o, X.base.get? b = some o → s.heap.get? b = some o ∧ H b = none := fun b o e =>
  ⟨I.base.keep b o (I.ok.bs b o e).1 (I.ok.bs b o e).2 (I.ok.nofr e) (I.ok.noex b o e), I.base.free b o (I.ok.bs b o e).1 (I.ok.bs b o e).2 (I.ok.noex b o e)⟩
theorem Inv.bk (I : Inv X pins σ H s) : ∀ b o, X.base.get? b = some o → s.heap.get? b = some o := fun b o e => (I.bs b o e).1
theorem Inv.mod (I : Inv X pins σ H s) : Mod X.K X.mg X.base := I.ok.mod
theorem Inv.kIn (I : Inv X pins σ H s) : X.K.In s.heap := I.ok.mod.kin.keeps I.bk
theorem Inv.nolimit (I : Inv X pins σ H s) : s.heap.NoLimit := I.ok.mod.nolimit.keeps I.bk
/-- the frame over the base: for OpenK's rules (K.In X.base is I.mod.kin) -/
theorem Inv.fr (I : Inv X pins σ H s) : ∃ m, Fr X.base X.env.locals s.heap m :=
  let ⟨m, hn, _⟩ := I.loc
  ⟨m, hn, I.bk, Nat.le_trans I.ok.bsz I.ok.above⟩
theorem Inv.lt (I : Inv X pins σ H s) : X.env.locals < s.heap.objs.size := let ⟨_, hn, _⟩ := I.loc; hn.lt
theorem Inv.sz (I : Inv X pins σ H s) : X.s₀.heap.objs.size ≤ s.heap.objs.size := Nat.le_trans I.ok.above (Nat.le_of_lt I.lt)
theorem Inv.nofs (I : Inv X pins σ H s) {a : Addr} (h : s.heap.objs.size ≤ a) : a ∉ X.fs := fun hb => by
  obtain ⟨_, o, ho, _⟩ := I.ok.funs.mem hb
  exact absurd (Nat.lt_of_lt_of_le (Heap.lt_size ho) (Nat.le_trans I.sz h)) (Nat.lt_irrefl _)
theorem Inv.cne (I : Inv X pins σ H s) : ∀ x c, X.env.cells.lookup x = some c → c ≠ X.env.locals := fun x c e z => by
  obtain ⟨v, o, ho, hd⟩ := I.cell x c e
  obtain ⟨m, ⟨o', es, ep, ho', hd', _⟩, _⟩ := I.loc
  rw [z, ho'] at ho; cases ho; rw [hd'] at hd; cases hd
theorem Inv.funs (I : Inv X pins σ H s) : s.heap.FunFrames X.base X.outer := by
  have all : ∀ (l : List Env), (∀ b ∈ frs l, b ∈ X.fs) → X.s₀.heap.FunFrames X.base l → s.heap.FunFrames X.base l := by
    intro l
    induction l with
    | nil => intro _ _; trivial
    | cons env r ih =>
      intro hs hl
      obtain ⟨hk, ⟨L, o, hf, hn, ho, hd⟩, hr⟩ := hl
      have hL : L ∈ X.fs := hs L (by unfold frs; rw [List.filterMap_cons, hf]; exact List.mem_cons_self)
      obtain ⟨sl, e⟩ := I.base.slot L o ho (I.ok.frf L hL) hL fun z => I.ok.exfs L z hL
      exact ⟨hk, ⟨L, _, hf, hn, e, hd⟩, ih (fun b hb => hs b (by unfold frs; rw [List.filterMap_cons, hf]; exact List.mem_cons_of_mem _ hb)) hr⟩
  exact all X.outer (fun _ hb => hb) I.ok.funs

/-- the frames that run, for a call -/
theorem Inv.stack (I : Inv X pins σ H s) : s.heap.FunFrames X.base X.stack := by
  rcases I.ok.stk with e | ⟨e, hf⟩
  · rw [e]; exact I.funs
  · rw [e]
    obtain ⟨m, hn, _⟩ := I.loc
    refine .cons (by rw [I.ok.kind]; decide) hf hn ?_ I.funs
    exact Heap.get?_none_of_le (Nat.le_trans I.ok.bsz I.ok.above)
theorem Inv.stkSub (I : Inv X pins σ H s) : ∀ b ∈ frs X.stack, b ∈ X.env.locals :: X.fs := fun b hb => by
  rcases I.ok.stk with e | ⟨e, hf⟩
  · rw [e] at hb; exact List.mem_cons_of_mem _ hb
  · rw [e] at hb
    unfold frs at hb
    rw [List.filterMap_cons, hf] at hb
    exact hb
theorem Inv.stkFree (I : Inv X pins σ H s) : ∀ b ∈ frs X.stack, H b = none := fun b hb => by
  rcases List.mem_cons.mp (I.stkSub b hb) with e | hb
  · rw [e]; exact I.free
  · obtain ⟨_, o, ho, _⟩ := I.ok.funs.mem hb
    exact I.base.free b o ho (I.ok.frf b hb) fun z => I.ok.exfs b z hb

/-- THE STEP: the untracked objects but the frame and the records at ch are kept (the callers' frames up to slots), the frame's map is kept, the new abstract heap is held -/
theorem Inv.step {g' : Array GenState} {t' : Nat} {d' : Drawn} {ch : List Addr} (I : Inv X pins σ H s)
    (hch : ∀ b ∈ ch, (b ∈ X.ex ∨ X.s₀.heap.objs.size ≤ b) ∧ b ≠ X.env.locals ∧ (∀ x c, X.env.cells.lookup x = some c → c ≠ b) ∧ ∀ p ∈ X.pn ++ pins, p.1 ≠ b)
    (keep : ∀ b o, b ≠ X.env.locals → b ∉ X.fs → b ∉ ch → s.heap.get? b = some o → H b = none → h'.get? b = some o)
    (slot : ∀ b o, b ≠ X.env.locals → b ∈ X.fs → b ∉ ch → s.heap.get? b = some o → H b = none → ∃ sl, h'.get? b = some { o with slots := sl }) (free : ∀ b o, b ∉ ch → s.heap.get? b = some o → H b = none → H' b = none)
    (there : ∀ b o, b ∉ ch → s.heap.get? b = some o → ∃ o', h'.get? b = some o')
    (tups : ∀ b xs, H b = some (.tup xs) → H' b = some (.tup xs)) (frzs : ∀ b o u, H b = some (.frz o u) → H' b = some (.frz o u)) (tbls : ∀ b ps, H b = some (.tbl ps) → ∃ more, H' b = some (.tbl (ps ++ more)))
    (ns : ∀ m, s.heap.Ns X.env.locals m → h'.Ns X.env.locals m) (hok : HOk X.prog X.w H' h') (hg : AllBare g') :
    Inv X pins σ H' { s with heap := h', gens := g', drawn := d', toks := t' } := by
  have neL : ∀ b o, X.s₀.heap.get? b = some o → b ≠ X.env.locals := fun b o e => Nat.ne_of_lt (Nat.lt_of_lt_of_le (Heap.lt_size e) I.ok.above)
  have neC : ∀ b o, X.s₀.heap.get? b = some o → b ∉ X.ex → b ∉ ch := fun b o e hx hb => by
    rcases (hch b hb).1 with z | z
    · exact hx z
    · exact absurd (Nat.lt_of_lt_of_le (Heap.lt_size e) z) (Nat.lt_irrefl _)
  have cellK : ∀ x c, X.env.cells.lookup x = some c → ∀ v, s.heap.IsCell c v → h'.IsCell c v := fun x c e v ⟨o, ho, hd⟩ => by
    have nch : c ∉ ch := fun z => (hch c z).2.2.1 x c e rfl
    by_cases hc : c ∈ X.fs
    · obtain ⟨sl, q⟩ := slot c o (I.cne x c e) hc nch ho (I.freeC x c e)
      exact ⟨_, q, hd⟩
    · exact ⟨o, keep c o (I.cne x c e) hc nch ho (I.freeC x c e), hd⟩
  refine ⟨I.ok, I.os, hg, ⟨fun b o e n hb hx => ?_, fun b o e n hb hx => ?_, fun b o e n hx => ?_, fun b o e hx => ?_, fun b xs e => tups b xs (I.base.tups b xs e), fun b o xs e => frzs b o xs (I.base.frzs b o xs e), fun b ps e => ?_⟩, ?_, fun x c e => ?_, ?_, fun x c e => ?_, fun p hp => ?_, hok, I.len⟩
  · exact keep b o (neL b o e) hb (neC b o e hx) (I.base.keep b o e n hb hx) (I.base.free b o e n hx)
  · obtain ⟨sl, e1⟩ := I.base.slot b o e n hb hx
    obtain ⟨sl', e2⟩ := slot b _ (neL b o e) hb (neC b o e hx) e1 (I.base.free b o e n hx)
    exact ⟨sl', e2⟩
  · obtain ⟨o', e1⟩ := I.base.there b o e hx
    exact free b o' (neC b o e hx) e1 (I.base.free b o e n hx)
  · obtain ⟨o', e1⟩ := I.base.there b o e hx
    exact there b o' (neC b o e hx) e1
  · obtain ⟨m1, e1⟩ := I.base.tbls b ps e
    obtain ⟨m2, e2⟩ := tbls b _ e1
    exact ⟨m1 ++ m2, by rw [e2, Array.append_assoc]⟩
  · obtain ⟨m, hn, hl⟩ := I.loc
    refine ⟨m, ns m hn, fun i x v e1 e2 e3 => ?_⟩
    obtain ⟨u, r, l⟩ := hl i x v e1 e2 e3
    refine ⟨u, r, ?_⟩
    rcases l with l | ⟨k, c, e, z⟩
    · exact .inl l
    · exact .inr ⟨k, c, e, cellK x c e _ z⟩
  · obtain ⟨v, z⟩ := I.cell x c e
    exact ⟨v, cellK x c e v z⟩
  · obtain ⟨m, ⟨o, _, _, ho, _⟩, _⟩ := I.loc
    exact free _ o (fun z => (hch _ z).2.1 rfl) ho I.free
  · obtain ⟨v, o, ho, hd⟩ := I.cell x c e
    exact free c o (fun z => (hch c z).2.2.1 x c e rfl) ho (I.freeC x c e)
  · obtain ⟨e, n, ne, nf, d⟩ := I.pin p hp
    have nch : p.1 ∉ ch := fun z => (hch p.1 z).2.2.2 p hp rfl
    exact ⟨keep p.1 p.2 ne nf nch e n, free p.1 p.2 nch e n, ne, nf, d⟩
/-- .. where the frame's own object is kept too -/
theorem Inv.un {t' : Nat} (I : Inv X pins σ H s) (u : Un X.fs [] H H' s.heap h') (hok : HOk X.prog X.w H' h') : Inv X pins σ H' { s with heap := h', toks := t' } := by
  obtain ⟨m, ⟨o, es, ep, ho, r⟩, _⟩ := id I.loc
  obtain ⟨sl, hL⟩ := u.any ho I.free (by simp)
  exact I.step (g' := s.gens) (d' := s.drawn) (ch := []) (fun _ z => nomatch z) (fun b o _ hb _ e n => u.keep b o e n hb (by simp)) (fun b o _ hb _ e n => u.slot b o e n hb (by simp)) (fun b o _ e n => u.free b o e n (by simp)) (fun b o _ e => u.there b o e (by simp)) u.tups u.frzs u.tbls (fun m' hm => by
    obtain ⟨o', es', ep', ho', r'⟩ := hm
    rw [ho] at ho'; cases ho'
    exact ⟨_, es', ep', hL, r'⟩) hok I.bare
/-- behind a call (or a comprehension's block): the slots of this frame may have changed too, the records at ch may have turned -/
theorem Inv.call {g' : Array GenState} {t' : Nat} {d' : Drawn} {ch : List Addr} (I : Inv X pins σ H s) (u : Un (frs X.stack) ch H H' s.heap h') (hok : HOk X.prog X.w H' h') (hg : AllBare g')
    (hch : ∀ b ∈ ch, (b ∈ X.ex ∨ X.s₀.heap.objs.size ≤ b) ∧ b ≠ X.env.locals ∧ (∀ x c, X.env.cells.lookup x = some c → c ≠ b) ∧ ∀ p ∈ X.pn ++ pins, p.1 ≠ b) :
    Inv X pins σ H' { s with heap := h', gens := g', drawn := d', toks := t' } := by
  obtain ⟨m, ⟨o, es, ep, ho, r⟩, _⟩ := id I.loc
  obtain ⟨sl, hL⟩ := u.any ho I.free fun z => (hch _ z).2.1 rfl
  exact I.step (ch := ch) hch (fun b o hL hb hc e n => u.keep b o e n (fun z => (List.mem_cons.mp (I.stkSub b z)).elim hL hb) hc) (fun b o _ _ hc e n => u.any e n hc) (fun b o hc e n => u.free b o e n hc) (fun b o hc e => u.there b o e hc) u.tups u.frzs u.tbls (fun m' hm => by
    obtain ⟨o', es', ep', ho', r'⟩ := hm
    rw [ho] at ho'; cases ho'
    exact ⟨_, es', ep', hL, r'⟩) hok hg
/-- an untracked record of ours (an iterator) has turned -/
theorem Inv.turned {t' : Nat} {it : Addr} (I : Inv X pins σ H s) (k : ∀ b o, b ≠ it → s.heap.get? b = some o → h'.get? b = some o) (hn : H it = none) (hL : it ≠ X.env.locals)
    (h1 : it ∈ X.ex ∨ X.s₀.heap.objs.size ≤ it) (h2 : ∀ x c, X.env.cells.lookup x = some c → c ≠ it) (h3 : ∀ p ∈ X.pn ++ pins, p.1 ≠ it) : Inv X pins σ H { s with heap := h', toks := t' } := by
  have nit : ∀ b u, H b = some u → b ≠ it := fun b u e z => by rw [z, hn] at e; cases e
  refine I.step (g' := s.gens) (d' := s.drawn) (ch := [it]) (fun b hb => ?_) (fun b o _ _ hc e _ => k b o (fun z => hc (by simp [z])) e) (fun b o _ _ hc e _ => ⟨o.slots, k b o (fun z => hc (by simp [z])) e⟩) (fun _ _ _ _ n => n)
    (fun b o hc e => ⟨o, k b o (fun z => hc (by simp [z])) e⟩) (fun _ _ e => e) (fun _ _ _ e => e) (fun b ps e => ⟨#[], by rw [e]; simp⟩) (fun m hm => ?_) (fun b u e => ?_) I.bare
  · have e : b = it := by simpa using hb
    subst e
    exact ⟨h1, hL, h2, h3⟩
  · obtain ⟨o, es, ep, ho, r⟩ := hm
    exact ⟨o, es, ep, k _ o (Ne.symm hL) ho, r⟩
  · refine (I.hok b u e).stay (fun c v hc q => k c v ?_ q) (fun _ q => q) fun _ _ q => q
    rcases hc with z | z
    · rw [z]; exact nit b u e
    · exact nit c _ z
theorem Inv.tok (I : Inv X pins σ H s) (t : Nat) : Inv X pins σ H { s with toks := t } := I.un (h' := s.heap) (t' := t) Un.refl I.hok
/-- all objects kept -/
theorem Inv.kept {t' : Nat} (I : Inv X pins σ H s) (k : ∀ b u, s.heap.get? b = some u → h'.get? b = some u) : Inv X pins σ H { s with heap := h', toks := t' } := I.un (Un.kept k) (I.hok.kept k)
/-- a new object laid and tracked -/
theorem Inv.laid {a : Addr} {o : HO} {t' : Nat} (I : Inv X pins σ H s) (k : ∀ b u, s.heap.get? b = some u → h'.get? b = some u) (hp : s.heap.objs.size ≤ a) (new : ObjOk X.prog X.w (upd H a o) h' a o) :
    Inv X pins σ (upd H a o) { s with heap := h', toks := t' } := I.un (Un.laid k hp (I.hok.fresh hp)) (I.hok.laid k hp new)
/-- an object written -/
theorem Inv.write {x e : Addr} {o : HO} {t' : Nat} (I : Inv X pins σ H s) (mu : Mut (H x)) (he : e = x ∨ H e = some (.own x)) (k : ∀ b u, b ≠ e → s.heap.get? b = some u → h'.get? b = some u) (heo : ∃ u, h'.get? e = some u)
    (new : ObjOk X.prog X.w (upd H x o) h' x o) : Inv X pins σ (upd H x o) { s with heap := h', toks := t' } := I.un (Un.write mu he k heo) (I.hok.write mu he k heo new)
/-- forgetting slots, pins -/
theorem Inv.weak {σ' : List (Option V)} (I : Inv X pins σ H s) (hl : σ'.length = σ.length) (w : ∀ (i : Nat) v, σ'[i]? = some (some v) → σ[i]? = some (some v)) : Inv X pins σ' H s :=
  ⟨I.ok, I.os, I.bare, I.base, let ⟨m, hn, hl'⟩ := I.loc; ⟨m, hn, fun i x v e1 e2 e3 => hl' i x v e1 (w i v e2) e3⟩, I.cell, I.free, I.freeC, I.pin, I.hok, hl.trans I.len⟩
theorem Inv.pins_of {pins' : List (Addr × Obj)} (I : Inv X pins σ H s) (h : ∀ p ∈ pins', s.heap.get? p.1 = some p.2 ∧ H p.1 = none ∧ p.1 ≠ X.env.locals ∧ p.1 ∉ X.fs ∧ ∀ v, p.2.data ≠ .cell v) : Inv X pins' σ H s :=
  ⟨I.ok, I.os, I.bare, I.base, I.loc, I.cell, I.free, I.freeC, fun p hp => (List.mem_append.mp hp).elim (fun z => I.pin p (List.mem_append_left _ z)) (h p), I.hok, I.len⟩

theorem nodup_ix {N : List Str} (hN : N.Nodup) {i j : Nat} {x : Str} (a : N[i]? = some x) (b : N[j]? = some x) : i = j := by
  obtain ⟨h1, e1⟩ := List.getElem?_eq_some_iff.mp a
  obtain ⟨h2, e2⟩ := List.getElem?_eq_some_iff.mp b
  exact (List.getElem_inj hN).mp (e1.trans e2.symm)

/-- a name is stored; what changed -/
theorem store_ok2 {M : Model} {A : Around} {E : Value → Shared → Prop} {i : Nat} {x : Str} {v : V} {u : Value} {Q : Unit → Shared → Prop} (I : Inv X pins σ H s) (hN : X.N.Nodup) (hi : X.N[i]? = some x) (hx : Loc X.env.scope x) (r : RelV v u)
    (h : ∀ s', Inv X pins (σ.set i (some v)) H s' → (∃ a, Heap.SameBut a s.heap s'.heap ∧ (a = X.env.locals ∨ X.env.cells.lookup x = some a)) → Q () s') (hf : X.fn x = true ∨ X.env.scope.names.lookup x = some .local := by first | exact .inl rfl | exact .inr rfl | assumption) : wpAny M A (storeName X.env x u) Q E s := by
  obtain ⟨m, hn, hl⟩ := id I.loc
  have hcls : (X.env.scope.kind == .class || (X.env.scope.kind == .module && X.env.locals != X.env.globals)) = false := by rw [I.ok.kind]; rfl
  have hiσ : i < σ.length := by rw [I.len]; exact (List.getElem?_eq_some_iff.mp hi).1
  have cne := I.cne
  have tracked : ∀ {a : Addr} {h' : Heap}, (∃ o, s.heap.get? a = some o ∧ H a = none) → Heap.SameBut a s.heap h' → HOk X.prog X.w H h' := fun {a h'} ha hs b ob e => by
    obtain ⟨_, _, hfree⟩ := ha
    refine (I.hok b ob e).stay (fun c w' hc q => (hs.2 c ?_).trans q) (fun _ q => q) fun _ _ q => q
    rintro rfl
    rcases hc with rfl | hc
    · rw [hfree] at e; cases e
    · rw [hfree] at hc; cases hc
  rcases hx with hk | hk
  · refine wpAny_storeName_local hk hn (fun h' hn' hs => ?_) hcls
    obtain ⟨oL, _, _, hoL, _⟩ := id hn
    refine h _ ⟨I.ok, I.os, I.bare, ⟨fun b o e n hb hx => ?_, fun b o e n hb hx => ?_, I.base.free, fun b o e hx => ?_, I.base.tups, I.base.frzs, I.base.tbls⟩, ⟨_, hn', fun j y v' e1 e2 e3 => ?_⟩, fun y c e => ?_, I.free, I.freeC, fun p hp => ?_, tracked ⟨oL, hoL, I.free⟩ hs, by simpa using I.len⟩ ⟨_, hs, .inl rfl⟩
    · exact (hs.2 b (Nat.ne_of_lt (Nat.lt_of_lt_of_le (Heap.lt_size e) I.ok.above))).trans (I.base.keep b o e n hb hx)
    · obtain ⟨sl, e1⟩ := I.base.slot b o e n hb hx
      exact ⟨sl, (hs.2 b (Nat.ne_of_lt (Nat.lt_of_lt_of_le (Heap.lt_size e) I.ok.above))).trans e1⟩
    · obtain ⟨o', e1⟩ := I.base.there b o e hx
      exact ⟨o', (hs.2 b (Nat.ne_of_lt (Nat.lt_of_lt_of_le (Heap.lt_size e) I.ok.above))).trans e1⟩
    · by_cases hj : j = i
      · subst hj
        rw [hi] at e1; cases e1
        rw [List.getElem?_set_self hiσ] at e2
        cases e2
        exact ⟨u, r, .inl ⟨hk, by simp⟩⟩
      · rw [List.getElem?_set_ne (Ne.symm hj)] at e2
        obtain ⟨u', r', q⟩ := hl j y v' e1 e2 e3
        refine ⟨u', r', ?_⟩
        rcases q with ⟨k, e⟩ | ⟨k, c, e, z⟩
        · refine .inl ⟨k, ?_⟩
          have : y ≠ x := fun e => hj (nodup_ix hN e1 (e ▸ hi))
          simp [this, e]
        · exact .inr ⟨k, c, e, z.sameBut hs (cne y c e)⟩
    · obtain ⟨w', z⟩ := I.cell y c e
      exact ⟨w', z.sameBut hs (cne y c e)⟩
    · obtain ⟨e, n, ne, nf, d⟩ := I.pin p hp
      exact ⟨(hs.2 p.1 ne).trans e, n, ne, nf, d⟩
  · have hfn : X.fn x = true := by
      rcases hf with z | z
      · exact z
      · rw [z] at hk; cases hk
    obtain ⟨c, hc⟩ := I.ok.has x (.inl hk)
    obtain ⟨w', z⟩ := I.cell x c hc
    refine wpAny_storeName_cell I.ok.kind hk hc z (fun h' hc' hs => ?_)
    obtain ⟨oc, hoc, hocd⟩ := id z
    refine h { s with heap := h' } ⟨I.ok, I.os, I.bare, ⟨fun b o e n hb hx => ?_, fun b o e n hb hx => ?_, I.base.free, fun b o e hx => ?_, I.base.tups, I.base.frzs, I.base.tbls⟩, ⟨m, hn.sameBut hs (Ne.symm (cne x c hc)), fun j y v' e1 e2 e3 => ?_⟩, fun y c' e => ?_, I.free, I.freeC, fun p hp => ?_, tracked ⟨oc, hoc, I.freeC x c hc⟩ hs, by simpa using I.len⟩ ⟨c, hs, .inr hc⟩
    · exact (hs.2 b (Nat.ne_of_lt (Nat.lt_of_lt_of_le (Heap.lt_size e) (I.ok.cab x c hfn hc)))).trans (I.base.keep b o e n hb hx)
    · obtain ⟨sl, e1⟩ := I.base.slot b o e n hb hx
      exact ⟨sl, (hs.2 b (Nat.ne_of_lt (Nat.lt_of_lt_of_le (Heap.lt_size e) (I.ok.cab x c hfn hc)))).trans e1⟩
    · obtain ⟨o', e1⟩ := I.base.there b o e hx
      exact ⟨o', (hs.2 b (Nat.ne_of_lt (Nat.lt_of_lt_of_le (Heap.lt_size e) (I.ok.cab x c hfn hc)))).trans e1⟩
    · by_cases hj : j = i
      · subst hj
        rw [hi] at e1; cases e1
        rw [List.getElem?_set_self hiσ] at e2
        cases e2
        exact ⟨u, r, .inr ⟨.inl hk, c, hc, hc'⟩⟩
      · rw [List.getElem?_set_ne (Ne.symm hj)] at e2
        obtain ⟨u', r', q⟩ := hl j y v' e1 e2 e3
        refine ⟨u', r', ?_⟩
        rcases q with q | ⟨k, c', e, z'⟩
        · exact .inl q
        · refine .inr ⟨k, c', e, z'.sameBut hs ?_⟩
          rintro rfl
          exact hj (nodup_ix hN e1 (I.ok.inj _ _ _ e hc ▸ hi))
    · by_cases hcc : c' = c
      · subst hcc; exact ⟨_, hc'⟩
      · obtain ⟨w2, z2⟩ := I.cell y c' e
        exact ⟨w2, z2.sameBut hs hcc⟩
    · obtain ⟨e, n, ne, nf, d⟩ := I.pin p hp
      refine ⟨(hs.2 p.1 ?_).trans e, n, ne, nf, d⟩
      intro q
      rw [q, hoc] at e
      have q' : oc = p.2 := Option.some.inj e
      exact d w' (by rw [← q']; exact hocd)
theorem store_ok {M : Model} {A : Around} {E : Value → Shared → Prop} {i : Nat} {x : Str} {v : V} {u : Value} {Q : Unit → Shared → Prop} (I : Inv X pins σ H s) (hN : X.N.Nodup) (hi : X.N[i]? = some x) (hx : Loc X.env.scope x) (r : RelV v u)
    (h : ∀ s', Inv X pins (σ.set i (some v)) H s' → Q () s') (hf : X.fn x = true ∨ X.env.scope.names.lookup x = some .local := by first | exact .inl rfl | exact .inr rfl | assumption) : wpAny M A (storeName X.env x u) Q E s :=
  store_ok2 I hN hi hx r (fun s' I' _ => h s' I') hf
/-- behind a call or a block, the state as it is -/
theorem Inv.call' {s' : Shared} {ch : List Addr} (I : Inv X pins σ H s) (ho : s'.os = s.os) (u : Un (frs X.stack) ch H H' s.heap s'.heap) (hok : HOk X.prog X.w H' s'.heap) (hg : AllBare s'.gens)
    (hch : ∀ b ∈ ch, (b ∈ X.ex ∨ X.s₀.heap.objs.size ≤ b) ∧ b ≠ X.env.locals ∧ (∀ x c, X.env.cells.lookup x = some c → c ≠ b) ∧ ∀ p ∈ X.pn ++ pins, p.1 ≠ b) : Inv X pins σ H' s' := by
  obtain ⟨h', g', d', t', o'⟩ := s'
  have e : o' = s.os := ho
  subst e
  exact I.call (g' := g') (t' := t') (d' := d') u hok hg hch
end

/-! ### the judgements -/
/-- an exception: its class, its own dict's address (where it has one), the abstract heap behind it -/
abbrev XK := Value → Option Addr → Hp → Prop
abbrev St := List (Option V)
abbrev VK := V → Hp → Prop
/-- an expression's reading; a test's; an argument list's -/
abbrev TE := St → Hp → VK → Prop
abbrev TT := St → Hp → (Bool → Hp → Prop) → Prop
abbrev TA := St → Hp → (List V → Hp → Prop) → Prop
/-- what is wanted behind a statement -/
structure Ends where
  nx : St → Hp → Prop
  rt : VK
  bk : St → Hp → Prop := fun _ _ => False
  ct : St → Hp → Prop := fun _ _ => False
abbrev TS := Ends → St → Hp → Prop

def EP (X : Cx) (pins : List (Addr × Obj)) (σ : St) (Q : VK) (u : Value) (s' : Shared) : Prop := ∃ v H', Inv X pins σ H' s' ∧ RelV v u ∧ Q v H'
def TP (X : Cx) (pins : List (Addr × Obj)) (σ : St) (Q : Bool → Hp → Prop) (b : Bool) (s' : Shared) : Prop := ∃ H', Inv X pins σ H' s' ∧ Q b H'
def AP (X : Cx) (pins : List (Addr × Obj)) (σ : St) (Q : List V → Hp → Prop) (us : List Value) (s' : Shared) : Prop := ∃ vs H', Inv X pins σ H' s' ∧ Vals vs us ∧ Q vs H'
def SP (X : Cx) (pins : List (Addr × Obj)) (D : Ends) (f : Flow) (s' : Shared) : Prop :=
  match f with
  | .next => ∃ σ' H', Inv X pins σ' H' s' ∧ D.nx σ' H'
  | .brk => ∃ σ' H', Inv X pins σ' H' s' ∧ D.bk σ' H'
  | .cont => ∃ σ' H', Inv X pins σ' H' s' ∧ D.ct σ' H'
  | .ret u => ∃ v σ' H', Inv X pins σ' H' s' ∧ RelV v u ∧ D.rt v H'

def PE (X : Cx) (e : Expr) (t : TE) : Prop :=
  ∀ (pins : List (Addr × Obj)) (s : Shared) (σ : St) (H : Hp) (Q : VK), Inv X pins σ H s → t σ H Q → wpAny (model X.prog X.w) X.A (eval e X.env) (EP X pins σ Q) X.xe s
def PT (X : Cx) (e : Expr) (t : TT) : Prop :=
  ∀ (pins : List (Addr × Obj)) (s : Shared) (σ : St) (H : Hp) (Q : Bool → Hp → Prop), Inv X pins σ H s → t σ H Q → wpAny (model X.prog X.w) X.A (isTrue e X.env (eval e X.env)) (TP X pins σ Q) X.xe s
/-- a test whatever its 'whole' is (and, or) -/
def PW (X : Cx) (e : Expr) (t : TT) : Prop :=
  ∀ (whole : Sem Value) (pins : List (Addr × Obj)) (s : Shared) (σ : St) (H : Hp) (Q : Bool → Hp → Prop), Inv X pins σ H s → t σ H Q → wpAny (model X.prog X.w) X.A (isTrue e X.env whole) (TP X pins σ Q) X.xe s
theorem PW.pt {X : Cx} {e : Expr} {t : TT} (h : PW X e t) : PT X e t := h _
/-- an argument list (no star), from the left -/
def PA (X : Cx) (es : List Expr) (t : TA) : Prop :=
  ∀ (pos : Pos) (pins : List (Addr × Obj)) (s : Shared) (σ : St) (H : Hp) (Q : List V → Hp → Prop), Inv X pins σ H s → t σ H Q → wpAny (model X.prog X.w) X.A (spliced (backTo pos (starEach es X.env))) (AP X pins σ Q) X.xe s
def PS (X : Cx) (st : Stmt) (t : TS) : Prop :=
  ∀ (pins : List (Addr × Obj)) (s : Shared) (σ : St) (H : Hp) (D : Ends), Inv X pins σ H s → t D σ H → wpAny (model X.prog X.w) X.A (exec st X.env) (SP X pins D) X.xe s
def PSs (X : Cx) (st : List Stmt) (t : TS) : Prop :=
  ∀ (pins : List (Addr × Obj)) (s : Shared) (σ : St) (H : Hp) (D : Ends), Inv X pins σ H s → t D σ H → wpAny (model X.prog X.w) X.A (execs st X.env) (SP X pins D) X.xe s
/-- weaken the end -/
theorem thn {α : Type} {t : Sem α} {Q Q' : α → Shared → Prop} {M : Model} {A : Around} {E : Value → Shared → Prop} {s : Shared} (h : wpAny M A t Q E s) (hQ : ∀ a s, Q a s → Q' a s) : wpAny M A t Q' E s := wpAny_mono h hQ fun _ _ x => x
end L2

namespace L2
open PySem PySem.Spec PyProof.Rows
section
variable {X : Cx}

/-- two expressions in a row -/
theorem bin {a b : Expr} {ta tb : TE} (ha : PE X a ta) (hb : PE X b tb) {pins : List (Addr × Obj)} {s : Shared} {σ : St} {H : Hp} {R : V → V → Hp → Prop} (I : Inv X pins σ H s) (h : ta σ H fun x H1 => tb σ H1 fun y H2 => R x y H2)
    {α : Type} {Q : α → Shared → Prop} {f : Value → Value → Sem α}
    (hf : ∀ v u s2 x y H2, Inv X pins σ H2 s2 → RelV x v → RelV y u → R x y H2 → wpAny (model X.prog X.w) X.A (f v u) Q X.xe s2) :
    wpAny (model X.prog X.w) X.A (eval a X.env) (fun v s₁ => wpAny (model X.prog X.w) X.A (eval b X.env) (fun u s₂ => wpAny (model X.prog X.w) X.A (f v u) Q X.xe s₂) X.xe s₁) X.xe s := by
  refine thn (ha pins s σ H _ I h) fun v s1 ⟨x, H1, I1, r1, q1⟩ => ?_
  refine thn (hb pins s1 σ H1 _ I1 q1) fun u s2 ⟨y, H2, I2, r2, q2⟩ => ?_
  exact hf v u s2 x y H2 I2 r1 r2 q2

/-! ### names and constants -/
def tVar (i : Nat) : TE := fun σ H Q => ∃ v, σ[i]? = some (some v) ∧ Q v H
def tC (v : V) : TE := fun _ H Q => Q v H
theorem pe_var {i : Nat} {x : Str} {pos : Pos} (hN : X.N[i]? = some x) (hv : Vis X.env.scope x) (hd : (x == ("__debug__" : Str)) = false := by decide) (hcd : (x == ("__classdict__" : Str)) = false := by decide) : PE X (.Name x pos) (tVar i) := by
  intro pins s σ H Q I h
  obtain ⟨v, e, h⟩ := h
  obtain ⟨m, hn, hl⟩ := I.loc
  obtain ⟨u, r, l⟩ := hl i x v hN e hv
  have fin : EP X pins σ Q u s := ⟨v, H, I, r, h⟩
  rcases l with ⟨hk, hm⟩ | ⟨hk, c, hc, hcell⟩
  · exact wpAny_Name (wpAny_loadName_local I.ok.kind hk hn hm fin) hd
  · rcases hk with hk | hk
    · exact wpAny_Name (wpAny_loadName_cell I.ok.kind hk hc hcell fin) hd
    · exact wpAny_Name (wpAny_loadName_free I.ok.kind hk hc hcell fin hcd) hd
theorem pe_int {i j pos} : PE X (.Constant (.int i) j pos) (tC (.int i)) := fun _ _ _ H _ I h => wpAny_Constant_int ⟨.int i, H, I.tok _, ⟨_, rfl⟩, h⟩
theorem pe_bl {b j pos} : PE X (.Constant (.bool b) j pos) (tC (.bl b)) := fun _ _ _ H _ I h => Constant_bool ⟨.bl b, H, I, rfl, h⟩
theorem pe_non {j pos} : PE X (.Constant .none j pos) (tC .non) := fun _ _ _ H _ I h => Constant_none ⟨.non, H, I, rfl, h⟩
theorem pe_str {x j pos} : PE X (.Constant (.str x) j pos) (tC (.str x)) := fun _ _ _ H _ I h => Calls.Constant_str ⟨.str x, H, I.tok _, ⟨_, rfl⟩, h⟩

/-- a global name of the def -/
def Gl (X : Cx) (x : Str) : Prop := X.env.kindOf x = some .globalImplicit
theorem ld_glob {E : Value → Shared → Prop} {pins : List (Addr × Obj)} {s : Shared} {σ : St} {H : Hp} {x : Str} {u : Value} {pos : Pos} {Q : Value → Shared → Prop} (I : Inv X pins σ H s) (hg : Gl X x) (hm : X.mg x = some u) (h : Q u s)
    (hd : (x == ("__debug__" : Str)) = false := by decide) : wpAny (model X.prog X.w) X.A (eval (.Name x pos) X.env) Q E s :=
  Calls.Name_function_global I.ok.kind hg (Calls.loadGlobal_global (by rw [I.ok.glob]; exact I.mod.glob.keeps I.bk) hm h) hd
theorem ld_blt {E : Value → Shared → Prop} {pins : List (Addr × Obj)} {s : Shared} {σ : St} {H : Hp} {x : Str} {u : Value} {pos : Pos} {Q : Value → Shared → Prop} (I : Inv X pins σ H s) (hg : Gl X x) (hm : X.mg x = none) (hv : bootBuiltins x = some u) (h : Q u s)
    (hn : x ≠ "__name__" := by decide) (hd : (x == ("__debug__" : Str)) = false := by decide) : wpAny (model X.prog X.w) X.A (eval (.Name x pos) X.env) Q E s := by
  obtain ⟨mb, h1, h2⟩ := I.mod.blt
  exact Calls.Name_function_global I.ok.kind hg (Calls.loadGlobal_builtin (by rw [I.ok.glob]; exact I.mod.glob.keeps I.bk) hm (by rw [I.ok.blt]; exact h1.keeps I.bk) ((h2 x hn).trans hv) h) hd
/-- a module's constant, a class, a function, as a value -/
theorem pe_glob {x : Str} {v : V} {u : Value} {pos : Pos} (hg : Gl X x) (hm : X.mg x = some u) (r : RelV v u) (hd : (x == ("__debug__" : Str)) = false := by decide) : PE X (.Name x pos) (tC v) :=
  fun _ _ _ H _ I h => ld_glob I hg hm ⟨v, H, I, r, h⟩ hd
theorem pe_bltn {x : Str} {v : V} {u : Value} {pos : Pos} (hg : Gl X x) (hm : X.mg x = none) (hv : bootBuiltins x = some u) (r : RelV v u) (hn : x ≠ "__name__" := by decide) (hd : (x == ("__debug__" : Str)) = false := by decide) : PE X (.Name x pos) (tC v) :=
  fun _ _ _ H _ I h => ld_blt I hg hm hv ⟨v, H, I, r, h⟩ hn hd

/-! ### arithmetic -/
/-- two ints -/
def t2I (ta tb : TE) (k : Int → Int → Hp → Prop) : St → Hp → Prop := fun σ H => ta σ H fun x H1 => tb σ H1 fun y H2 => ∃ i j, x = .int i ∧ y = .int j ∧ k i j H2
def tAdd (ta tb : TE) : TE := fun σ H Q => t2I ta tb (fun i j H2 => Q (.int (i + j)) H2) σ H
def tSub (ta tb : TE) : TE := fun σ H Q => t2I ta tb (fun i j H2 => Q (.int (i - j)) H2) σ H
/-- the left factor below 2^64 -/
def tMul (ta tb : TE) : TE := fun σ H Q => t2I ta tb (fun i j H2 => (-(2 ^ 64) < i ∧ i < 2 ^ 64) ∧ Q (.int (i * j)) H2) σ H
variable {a b : Expr} {ta tb : TE} {pos : Pos}
theorem pe_add (ha : PE X a ta) (hb : PE X b tb) : PE X (.BinOp a .Add b pos) (tAdd ta tb) := by
  intro pins s σ H Q I h
  refine wpAny_BinOp (bin ha hb I h fun v u s2 x y H2 I2 rx ry q => ?_)
  obtain ⟨i, j, rfl, rfl, q⟩ := q
  obtain ⟨t, rfl⟩ := rx
  obtain ⟨t', rfl⟩ := ry
  exact add_int ⟨.int _, H2, I2.tok _, ⟨_, rfl⟩, q⟩
theorem pe_sub (ha : PE X a ta) (hb : PE X b tb) : PE X (.BinOp a .Sub b pos) (tSub ta tb) := by
  intro pins s σ H Q I h
  refine wpAny_BinOp (bin ha hb I h fun v u s2 x y H2 I2 rx ry q => ?_)
  obtain ⟨i, j, rfl, rfl, q⟩ := q
  obtain ⟨t, rfl⟩ := rx
  obtain ⟨t', rfl⟩ := ry
  exact sub_int ⟨.int _, H2, I2.tok _, ⟨_, rfl⟩, q⟩
theorem pe_mul (ha : PE X a ta) (hb : PE X b tb) : PE X (.BinOp a .Mult b pos) (tMul ta tb) := by
  intro pins s σ H Q I h
  refine wpAny_BinOp (bin ha hb I h fun v u s2 x y H2 I2 rx ry q => ?_)
  obtain ⟨i, j, rfl, rfl, ⟨q1, q2⟩, q⟩ := q
  obtain ⟨t, rfl⟩ := rx
  obtain ⟨t', rfl⟩ := ry
  exact mul_int ⟨.int _, H2, I2.tok _, ⟨_, rfl⟩, q⟩ (.of_left (intBits_le_64 q1 q2))

/-! ### comparisons -/
def PC (X : Cx) (op : CmpOp) (a b : Expr) (t : TE) : Prop :=
  ∀ (pins : List (Addr × Obj)) (s : Shared) (σ : St) (H : Hp) (Q : VK), Inv X pins σ H s → t σ H Q →
    wpAny (model X.prog X.w) X.A (eval a X.env) (fun v s₁ => wpAny (model X.prog X.w) X.A (eval b X.env) (fun u s₂ => wpAny (model X.prog X.w) X.A (compareOp op v u) (EP X pins σ Q) X.xe s₂) X.xe s₁) X.xe s
theorem nobehind (b : Expr) {op : CmpOp} (h : op ≠ .In) (h2 : op ≠ .NotIn) : behindInMarks op b = false := by
  have e1 : (op == CmpOp.In) = false := by cases op <;> first | rfl | exact absurd rfl h
  have e2 : (op == CmpOp.NotIn) = false := by cases op <;> first | rfl | exact absurd rfl h2
  cases b <;> simp [behindInMarks, e1, e2]
def tCmp (p : Int → Int → Bool) (ta tb : TE) : TE := fun σ H Q => t2I ta tb (fun i j H2 => Q (.bl (p i j)) H2) σ H
abbrev tLt : TE → TE → TE := tCmp fun i j => decide (i < j)
abbrev tLe : TE → TE → TE := tCmp fun i j => decide (i ≤ j)
abbrev tGt : TE → TE → TE := tCmp fun i j => decide (j < i)
abbrev tGe : TE → TE → TE := tCmp fun i j => decide (j ≤ i)
abbrev tEqI : TE → TE → TE := tCmp fun i j => decide (i = j)
abbrev tNeI : TE → TE → TE := tCmp fun i j => !decide (i = j)
/-- a comparison of two ints, by its rule -/
theorem pc_int {op : CmpOp} {p : Int → Int → Bool} (ha : PE X a ta) (hb : PE X b tb)
    (rule : ∀ (i j : Int) (t u : Tok) (Q : Value → Shared → Prop) (s : Shared), Q (.bool (p i j)) s → wpAny (model X.prog X.w) X.A (compareOp op (.int i t) (.int j u)) Q X.xe s) : PC X op a b (tCmp p ta tb) := by
  intro pins s σ H Q I h
  refine bin ha hb I h fun v u s2 x y H2 I2 rx ry q => ?_
  obtain ⟨i, j, rfl, rfl, q⟩ := q
  obtain ⟨t, rfl⟩ := rx
  obtain ⟨t', rfl⟩ := ry
  exact rule i j t t' _ s2 ⟨.bl _, H2, I2, rfl, q⟩
theorem pc_lt (ha : PE X a ta) (hb : PE X b tb) : PC X .Lt a b (tLt ta tb) := pc_int ha hb fun _ _ _ _ _ _ h => lt_int h
theorem pc_le (ha : PE X a ta) (hb : PE X b tb) : PC X .LtE a b (tLe ta tb) := pc_int ha hb fun _ _ _ _ _ _ h => le_int h
theorem pc_gt (ha : PE X a ta) (hb : PE X b tb) : PC X .Gt a b (tGt ta tb) := pc_int ha hb fun _ _ _ _ _ _ h => gt_int h
theorem pc_ge (ha : PE X a ta) (hb : PE X b tb) : PC X .GtE a b (tGe ta tb) := pc_int ha hb fun _ _ _ _ _ _ h => ge_int h
theorem pc_eqI (ha : PE X a ta) (hb : PE X b tb) : PC X .Eq a b (tEqI ta tb) := pc_int ha hb fun _ _ _ _ _ _ h => eq_int (by rw [Bool.beq_eq_decide_eq]; exact h)
theorem pc_neI (ha : PE X a ta) (hb : PE X b tb) : PC X .NotEq a b (tNeI ta tb) := pc_int ha hb fun _ _ _ _ _ _ h => ne_int (by rw [bne, Bool.beq_eq_decide_eq]; exact h)
/-- is None -/
def tIsN (ta : TE) : TE := fun σ H Q => ta σ H fun x H1 => Q (.bl (decide (x = .non))) H1
def tNotN (ta : TE) : TE := fun σ H Q => ta σ H fun x H1 => Q (.bl (!decide (x = .non))) H1
theorem RelV.none_iff {x : V} {v : Value} (r : RelV x v) : (v == Value.none) = decide (x = .non) := by
  cases x with
  | non => cases r; rfl
  | bl _ => cases r; rfl
  | int _ => obtain ⟨t, rfl⟩ := r; rfl
  | str _ => obtain ⟨t, rfl⟩ := r; rfl
  | byt _ => obtain ⟨t, rfl⟩ := r; rfl
  | flt _ => obtain ⟨t, rfl⟩ := r; rfl
  | ref _ => cases r; rfl
  | ty _ => cases r; rfl
theorem pc_isN {j pos'} (ha : PE X a ta) : PC X .Is a (.Constant .none j pos') (tIsN ta) := by
  intro pins s σ H Q I h
  refine thn (ha pins s σ H _ I h) fun v s1 ⟨x, H1, I1, r1, q1⟩ => ?_
  exact Constant_none (is_none_gen ⟨.bl _, H1, I1, by rw [r1.none_iff]; rfl, q1⟩)
theorem pc_notN {j pos'} (ha : PE X a ta) : PC X .IsNot a (.Constant .none j pos') (tNotN ta) := by
  intro pins s σ H Q I h
  refine thn (ha pins s σ H _ I h) fun v s1 ⟨x, H1, I1, r1, q1⟩ => ?_
  exact Constant_none (isnot_none_gen ⟨.bl _, H1, I1, by rw [r1.none_iff]; rfl, q1⟩)
/-- a comparison as a value, as a test -/
def tB (t : TE) : TT := fun σ H Q => t σ H fun x H1 => ∃ c, x = .bl c ∧ Q c H1
theorem pe_cmp {op : CmpOp} {t : TE} (h : PC X op a b t) (h1 : behindInMarks op b = false := by first | exact nobehind _ (by decide) (by decide) | rfl) : PE X (.Compare a [op] [b] pos) t := fun pins s σ H Q I hw => wpAny_Compare1 (h pins s σ H Q I hw) h1
theorem pt_cmp {op : CmpOp} {t : TE} (h : PC X op a b t) (h1 : behindInMarks op b = false := by first | exact nobehind _ (by decide) (by decide) | rfl) : PT X (.Compare a [op] [b] pos) (tB t) := by
  intro pins s σ H Q I hw
  refine wpAny_isTrue_Compare1 (thn (h pins s σ H _ I hw) fun v s1 h1 => thn h1 fun u s2 h2 => thn h2 fun c s3 ⟨x, H1, I1, r1, q1⟩ => ?_) h1
  obtain ⟨d, rfl, q⟩ := q1
  cases r1
  exact wpAny_truthy_bool ⟨H1, I1, q⟩
/-- an expression whose value is a bool, as a test -/
theorem pt_val {e : Expr} {t : TE} (h : PE X e t) (he : ∀ whole, isTrue e X.env whole = (do let v ← whole; standAt e.pos; holding [v] (truthy v)) := by intro _; rfl) : PT X e (tB t) := by
  intro pins s σ H Q I hw
  refine isTrue_plain (thn (h pins s σ H _ I hw) fun v s1 ⟨x, H1, I1, r1, q1⟩ => ?_) (he _)
  obtain ⟨d, rfl, q⟩ := q1
  cases r1
  exact wpAny_truthy_bool ⟨H1, I1, q⟩

/-! ### and, or, not -/
variable {tA tB' : TT} {rest : List Expr}
def tAnd (t u : TT) : TT := fun σ H Q => t σ H fun c H1 => if c = true then u σ H1 Q else Q false H1
def tOr (t u : TT) : TT := fun σ H Q => t σ H fun c H1 => if c = true then Q true H1 else u σ H1 Q
def tNot (t : TT) : TT := fun σ H Q => t σ H fun c H1 => Q (!c) H1
theorem pw_and1 (ha : PT X a tA) : PW X (.BoolOp .And [a] pos) tA := by
  intro wh pins s σ H Q I h
  refine isTrue_and (thn (ha pins s σ H Q I h) fun c s1 e => ?_)
  cases c with
  | true => exact isTrue_and_nil e
  | false => exact e
theorem pw_or1 (ha : PT X a tA) : PW X (.BoolOp .Or [a] pos) tA := by
  intro wh pins s σ H Q I h
  refine isTrue_or (thn (ha pins s σ H Q I h) fun c s1 e => ?_)
  cases c with
  | false => exact isTrue_or_nil e
  | true => exact e
theorem pw_and (ha : PT X a tA) (hb : PW X (.BoolOp .And (b :: rest) pos) tB') : PW X (.BoolOp .And (a :: b :: rest) pos) (tAnd tA tB') := by
  intro wh pins s σ H Q I h
  refine isTrue_and (thn (ha pins s σ H _ I h) fun c s1 ⟨H1, I1, q1⟩ => ?_)
  cases c with
  | true => exact hb wh pins s1 σ H1 Q I1 q1
  | false => exact ⟨H1, I1, q1⟩
theorem pw_or (ha : PT X a tA) (hb : PW X (.BoolOp .Or (b :: rest) pos) tB') : PW X (.BoolOp .Or (a :: b :: rest) pos) (tOr tA tB') := by
  intro wh pins s σ H Q I h
  refine isTrue_or (thn (ha pins s σ H _ I h) fun c s1 ⟨H1, I1, q1⟩ => ?_)
  cases c with
  | true => exact ⟨H1, I1, q1⟩
  | false => exact hb wh pins s1 σ H1 Q I1 q1
theorem pt_not (ha : PT X a tA) : PT X (.UnaryOp .Not a pos) (tNot tA) := by
  intro pins s σ H Q I h
  exact isTrue_not (ha pins s σ H (fun c H1 => Q (!c) H1) I h)
/-- .. as values (bools) -/
def tAndV (ta tb : TE) : TE := fun σ H Q => ta σ H fun x H1 => ∃ c, x = .bl c ∧ if c = true then tb σ H1 Q else Q (.bl false) H1
def tOrV (ta tb : TE) : TE := fun σ H Q => ta σ H fun x H1 => ∃ c, x = .bl c ∧ if c = true then Q (.bl true) H1 else tb σ H1 Q
def tNotV (ta : TE) : TE := fun σ H Q => ta σ H fun x H1 => ∃ c, x = .bl c ∧ Q (.bl (!c)) H1
theorem pe_one {op} {t : TE} (h : PE X a t) : PE X (.BoolOp op [a] pos) t := fun pins s σ H Q I hw => BoolOp_one (h pins s σ H Q I hw)
theorem pe_and (ha : PE X a ta) (hb : PE X (.BoolOp .And (b :: rest) pos) tb) : PE X (.BoolOp .And (a :: b :: rest) pos) (tAndV ta tb) := by
  intro pins s σ H Q I h
  refine BoolOp_and (thn (ha pins s σ H _ I h) fun v s1 ⟨x, H1, I1, r1, q1⟩ => ?_)
  obtain ⟨c, rfl, q1⟩ := q1
  cases r1
  refine wpAny_truthy_bool ?_
  cases c with
  | true => exact hb pins s1 σ H1 Q I1 q1
  | false => exact ⟨.bl false, H1, I1, rfl, q1⟩
theorem pe_or (ha : PE X a ta) (hb : PE X (.BoolOp .Or (b :: rest) pos) tb) : PE X (.BoolOp .Or (a :: b :: rest) pos) (tOrV ta tb) := by
  intro pins s σ H Q I h
  refine BoolOp_or (thn (ha pins s σ H _ I h) fun v s1 ⟨x, H1, I1, r1, q1⟩ => ?_)
  obtain ⟨c, rfl, q1⟩ := q1
  cases r1
  refine wpAny_truthy_bool ?_
  cases c with
  | false => exact hb pins s1 σ H1 Q I1 q1
  | true => exact ⟨.bl true, H1, I1, rfl, q1⟩
theorem pe_not (ha : PE X a ta) : PE X (.UnaryOp .Not a pos) (tNotV ta) := by
  intro pins s σ H Q I h
  refine UnaryOp_ (thn (ha pins s σ H _ I h) fun v s1 ⟨x, H1, I1, r1, q1⟩ => ?_)
  obtain ⟨c, rfl, q1⟩ := q1
  cases r1
  exact not_of (wpAny_truthy_bool ⟨.bl (!c), H1, I1, rfl, q1⟩)
/-- a if t else b -/
def tIf (t : TT) (ta tb : TE) : TE := fun σ H Q => t σ H fun c H1 => if c = true then ta σ H1 Q else tb σ H1 Q
theorem pe_ifExp {c : Expr} (hc : PT X c tA) (ha : PE X a ta) (hb : PE X b tb) : PE X (.IfExp c a b pos) (tIf tA ta tb) := by
  intro pins s σ H Q I h
  refine wpAny_IfExp (thn (hc pins s σ H _ I h) fun d s1 ⟨H1, I1, q1⟩ => ?_)
  cases d with
  | true => exact ha pins s1 σ H1 Q I1 q1
  | false => exact hb pins s1 σ H1 Q I1 q1
end
end L2

namespace L2
open PySem PySem.Spec PyProof.Rows

/-! ### a list, a tuple that is read: tracked, frozen, or an object of the module -/
def SqL (K : PySem.W.Frag) (H : Hp) (a : Addr) (xs : List V) : Prop :=
  Rd H a (.lst xs) ∨
    ∃ (o : Obj) (its : Array Value) (n : Nat), K.lookup a = some o ∧ o.cls = .type "list" ∧ o.dict = none ∧ o.data = .seq its n ∧ its.size ≤ sizeLine ∧ Vals xs its.toList
def SqT (K : PySem.W.Frag) (H : Hp) (a : Addr) (xs : List V) : Prop :=
  Rd H a (.tup xs) ∨
    ∃ (o : Obj) (its : Array Value) (n : Nat), K.lookup a = some o ∧ o.cls = .type "tuple" ∧ o.data = .seq its n ∧ its.size ≤ sizeLine ∧ Vals xs its.toList
def absV : Value → Option V
  | .none => some .non
  | .bool b => some (.bl b)
  | .int i _ => some (.int i)
  | .str x _ => some (.str x)
  | .bytes b _ => some (.byt b)
  | .float b _ => some (.flt b)
  | .ref a => some (.ref a)
  | .type n => some (.ty n)
  | _ => none
theorem RelV.abs {x : V} {u : Value} (r : RelV x u) : absV u = some x := by
  cases x with
  | non => cases r; rfl
  | bl _ => cases r; rfl
  | int _ => obtain ⟨t, rfl⟩ := r; rfl
  | str _ => obtain ⟨t, rfl⟩ := r; rfl
  | byt _ => obtain ⟨t, rfl⟩ := r; rfl
  | flt _ => obtain ⟨t, rfl⟩ := r; rfl
  | ref _ => cases r; rfl
  | ty _ => cases r; rfl
theorem RelV.inj {x y : V} {u : Value} (r : RelV x u) (q : RelV y u) : x = y := Option.some.inj (r.abs.symm.trans q.abs)
theorem Vals.inj : ∀ {xs ys : List V} {us : List Value}, Vals xs us → Vals ys us → xs = ys
  | _, _, _, .nil, .nil => rfl
  | _, _, _, .cons r t, .cons r' t' => by rw [r.inj r', Vals.inj t t']
section
variable {X : Cx} {pins : List (Addr × Obj)} {σ : St} {H : Hp} {s : Shared} {a : Addr} {xs ys : List V}
theorem SqL.of {K : PySem.W.Frag} (h : H a = some (.lst xs)) : SqL K H a xs := .inl (.inl h)
theorem SqT.of {K : PySem.W.Frag} (h : H a = some (.tup xs)) : SqT K H a xs := .inl (.inl h)
theorem Inv.list (I : Inv X pins σ H s) (h : SqL X.K H a xs) : ∃ its : List Value, Vals xs its ∧ PlainL s.heap a its.toArray ∧ xs.length ≤ sizeLine := by
  rcases h with h | ⟨o, its, n, hk, hc, hd, hs, hz, r⟩
  · obtain ⟨z, its, n, r, e⟩ := h.ok I.hok
    exact ⟨its, r, ⟨_, n, e, rfl, rfl, rfl⟩, z⟩
  · refine ⟨its.toList, r, ⟨o, n, I.kIn a o hk, hc, hd, by simpa using hs⟩, ?_⟩
    have e := r.length
    simp only [Array.length_toList] at e
    omega
theorem Inv.tuple (I : Inv X pins σ H s) (h : SqT X.K H a xs) : ∃ its : List Value, Vals xs its ∧ IsTup s.heap a its.toArray ∧ xs.length ≤ sizeLine := by
  rcases h with h | ⟨o, its, n, hk, hc, hs, hz, r⟩
  · obtain ⟨z, its, r, p⟩ := h.ok I.hok
    exact ⟨its, r, p, z⟩
  · refine ⟨its.toList, r, ⟨o, I.kIn a o hk, hc, n, by simpa using hs⟩, ?_⟩
    have e := r.length
    simp only [Array.length_toList] at e
    omega
theorem Inv.list_inj (I : Inv X pins σ H s) (h : SqL X.K H a xs) (h' : SqL X.K H a ys) : xs = ys := by
  obtain ⟨its, r, ⟨o, n, e, _, _, d⟩, _⟩ := I.list h
  obtain ⟨its', r', ⟨o', n', e', _, _, d'⟩, _⟩ := I.list h'
  rw [e] at e'; cases e'
  rw [d] at d'
  injection d' with d1 _
  have : its = its' := by simpa using congrArg Array.toList d1
  subst this
  exact r.inj r'
theorem Inv.tuple_inj (I : Inv X pins σ H s) (h : SqT X.K H a xs) (h' : SqT X.K H a ys) : xs = ys := by
  obtain ⟨its, r, ⟨o, e, _, n, d⟩, _⟩ := I.tuple h
  obtain ⟨its', r', ⟨o', e', _, n', d'⟩, _⟩ := I.tuple h'
  rw [e] at e'; cases e'
  rw [d] at d'
  injection d' with d1 _
  have : its = its' := by simpa using congrArg Array.toList d1
  subst this
  exact r.inj r'
end

/-! ### another wish about exceptions -/
abbrev Cx.wish (X : Cx) (E : Value → Shared → Prop) : Cx := { X with xe := E }
/-- no exception leaves -/
abbrev Cx.nox (X : Cx) : Cx := X.wish fun _ _ => False
theorem Cx.Ok.wish {X : Cx} (ok : X.Ok) (E : Value → Shared → Prop) : (X.wish E).Ok :=
  ⟨ok.mod, ok.kind, ok.glob, ok.blt, ok.above, ok.inj, ok.has, ok.cab, ok.hd, ok.frames, ok.stk, ok.exf, ok.bs, ok.bsz, ok.noex, ok.exfs, ok.funs, ok.frf⟩
theorem Cx.Ok.unwish {X : Cx} {E : Value → Shared → Prop} (ok : (X.wish E).Ok) : X.Ok :=
  ⟨ok.mod, ok.kind, ok.glob, ok.blt, ok.above, ok.inj, ok.has, ok.cab, ok.hd, ok.frames, ok.stk, ok.exf, ok.bs, ok.bsz, ok.noex, ok.exfs, ok.funs, ok.frf⟩
section
variable {X : Cx} {pins : List (Addr × Obj)} {σ : St} {H : Hp} {s : Shared} {E : Value → Shared → Prop}
theorem Inv.wish (I : Inv X pins σ H s) (E : Value → Shared → Prop) : Inv (X.wish E) pins σ H s := ⟨I.ok.wish E, I.os, I.bare, I.base, I.loc, I.cell, I.free, I.freeC, I.pin, I.hok, I.len⟩
theorem Inv.unwish (I : Inv (X.wish E) pins σ H s) : Inv X pins σ H s := ⟨I.ok.unwish, I.os, I.bare, I.base, I.loc, I.cell, I.free, I.freeC, I.pin, I.hok, I.len⟩
theorem SP.unwish {D : Ends} {f : Flow} {s' : Shared} (h : SP (X.wish E) pins D f s') : SP X pins D f s' := by
  cases f with
  | next => obtain ⟨σ', H', I, q⟩ := h; exact ⟨σ', H', I.unwish, q⟩
  | brk => obtain ⟨σ', H', I, q⟩ := h; exact ⟨σ', H', I.unwish, q⟩
  | cont => obtain ⟨σ', H', I, q⟩ := h; exact ⟨σ', H', I.unwish, q⟩
  | ret u => obtain ⟨v, σ', H', I, r, q⟩ := h; exact ⟨v, σ', H', I.unwish, r, q⟩
theorem PE.nox {e : Expr} {t : TE} (h : PE X.nox e t) : PE X e t := fun pins s σ H Q I hw =>
  wpAny_mono (h pins s σ H Q (I.wish _) hw) (fun _ _ ⟨v, H', I', r, q⟩ => ⟨v, H', I'.unwish, r, q⟩) fun _ _ z => False.elim z
theorem PT.nox {e : Expr} {t : TT} (h : PT X.nox e t) : PT X e t := fun pins s σ H Q I hw =>
  wpAny_mono (h pins s σ H Q (I.wish _) hw) (fun _ _ ⟨H', I', q⟩ => ⟨H', I'.unwish, q⟩) fun _ _ z => False.elim z
theorem PSs.nox {st : List Stmt} {t : TS} (h : PSs X.nox st t) : PSs X st t := fun pins s σ H D I hw =>
  wpAny_mono (h pins s σ H D (I.wish _) hw) (fun _ _ q => q.unwish) fun _ _ z => False.elim z
end

/-! ### blocks and small statements -/
section
variable {X : Cx} {st : Stmt} {rest : List Stmt} {t u : TS} {e : Expr} {te : TE} {pos : Pos}
def tNext : TS := fun D σ H => D.nx σ H
def tSeq (t u : TS) : TS := fun D σ H => t { D with nx := u D } σ H
theorem pss_nil : PSs X [] tNext := fun _ _ σ H _ I h => wpAny_execs_nil ⟨σ, H, I, h⟩
theorem pss_cons (h1 : PS X st t) (h2 : PSs X rest u) : PSs X (st :: rest) (tSeq t u) := by
  intro pins s σ H D I h
  refine wpAny_execs_cons (thn (h1 pins s σ H { D with nx := u D } I h) fun f s1 q => ?_)
  cases f with
  | next =>
    obtain ⟨σ', H', I', q⟩ := q
    exact h2 pins s1 σ' H' D I' q
  | ret v => exact q
  | brk => exact q
  | cont => exact q
theorem pss_one (h1 : PS X st t) : PSs X [st] t := by
  intro pins s σ H D I h
  refine wpAny_execs_cons (thn (h1 pins s σ H D I h) fun f s1 q => ?_)
  cases f with
  | next => exact wpAny_execs_nil q
  | ret v => exact q
  | brk => exact q
  | cont => exact q
def tBreak : TS := fun D σ H => D.bk σ H
def tCont : TS := fun D σ H => D.ct σ H
theorem ps_pass : PS X (.Pass pos) tNext := fun _ _ σ H _ I h => wpAny_Pass ⟨σ, H, I, h⟩
theorem ps_break : PS X (.Break pos) tBreak := fun _ _ σ H _ I h => wpAny_Break ⟨σ, H, I, h⟩
theorem ps_continue : PS X (.Continue pos) tCont := fun _ _ σ H _ I h => wpAny_Continue ⟨σ, H, I, h⟩
/-- in a def's body nothing is shown -/
theorem Inv.quiet {pins : List (Addr × Obj)} {σ : St} {H : Hp} {s : Shared} (I : Inv X pins σ H s) : interactive X.env = false := by simp [interactive, I.ok.kind]
/-- a docstring -/
theorem ps_doc {x j pos pos'} : PS X (.Expr (.Constant (.str x) j pos) pos') tNext := fun _ s σ H _ I h => wpAny_Expr (Calls.Constant_str (show SP X _ _ .next { s with toks := s.toks + 1 } from ⟨σ, H, I.tok _, h⟩)) I.quiet
/-- an expression whose value is dropped -/
def tDrop (te : TE) : TS := fun D σ H => te σ H fun _ H1 => D.nx σ H1
theorem ps_expr (he : PE X e te) (hs : swapsWith e none pos.line X.env = pure false := by rfl) : PS X (.Expr e pos) (tDrop te) := by
  intro pins s σ H D I h
  exact wpAny_Expr_any (thn (he pins s σ H _ I h) fun v s1 ⟨x, H1, I1, r1, q1⟩ => ⟨σ, H1, I1, q1⟩) I.quiet hs
def tRet (te : TE) : TS := fun D σ H => te σ H D.rt
theorem ps_ret (he : PE X e te) : PS X (.Return (some e) pos) (tRet te) := by
  intro pins s σ H D I h
  exact wpAny_Return_some (thn (he pins s σ H _ I h) fun v s1 ⟨x, H1, I1, r1, q1⟩ => ⟨x, σ, H1, I1, r1, q1⟩)
def tRetN : TS := fun D _ H => D.rt .non H
theorem ps_retN : PS X (.Return none pos) tRetN := fun _ _ σ H _ I h => wpAny_Return_none ⟨.non, σ, H, I, rfl, h⟩
def tIfS (c : TT) (t u : TS) : TS := fun D σ H => c σ H fun b H1 => if b = true then t D σ H1 else u D σ H1
theorem ps_if {c : Expr} {a b : List Stmt} {tc : TT} (hc : PT X c tc) (ha : PSs X a t) (hb : PSs X b u) : PS X (.If c a b pos) (tIfS tc t u) := by
  intro pins s σ H D I h
  refine wpAny_If (thn (hc pins s σ H _ I h) fun d s1 ⟨H1, I1, q1⟩ => ?_)
  cases d with
  | true => exact ha pins s1 σ H1 D I1 q1
  | false => exact hb pins s1 σ H1 D I1 q1
/-- code that the proof never comes to -/
def tNever : TS := fun _ _ _ => False
theorem ps_never : PS X st tNever := fun _ _ _ _ _ _ h => h.elim
theorem pss_never {sts : List Stmt} : PSs X sts tNever := fun _ _ _ _ _ _ h => h.elim
end

/-! ### targets -/
abbrev TG := V → St → Hp → (St → Hp → Prop) → Prop
abbrev TGs := List V → St → Hp → (St → Hp → Prop) → Prop
def PG (X : Cx) (target : Expr) (t : TG) : Prop :=
  ∀ (pins : List (Addr × Obj)) (s : Shared) (σ : St) (H : Hp) (v : V) (u : Value) (Q : St → Hp → Prop), Inv X pins σ H s → RelV v u → t v σ H Q →
    wpAny (model X.prog X.w) X.A (assign target X.env u) (fun _ s' => ∃ σ' H', Inv X pins σ' H' s' ∧ Q σ' H') X.xe s
/-- several targets, one after another -/
def PGs (X : Cx) (ts : List Expr) (t : TGs) : Prop :=
  ∀ (pins : List (Addr × Obj)) (s : Shared) (σ : St) (H : Hp) (vs : List V) (us : List Value) (Q : St → Hp → Prop), Inv X pins σ H s → Vals vs us → t vs σ H Q →
    wpAny (model X.prog X.w) X.A (assignInOrder ((assignEach ts X.env).map (·.2)) us) (fun _ s' => ∃ σ' H', Inv X pins σ' H' s' ∧ Q σ' H') X.xe s
/-- o[i] = v, by values -/
abbrev TSet := V → V → V → Hp → (Hp → Prop) → Prop
def PSet (X : Cx) (t : TSet) : Prop :=
  ∀ (pins : List (Addr × Obj)) (s : Shared) (σ : St) (H : Hp) (o i v : V) (ov iv u : Value) (Q : Hp → Prop), Inv X pins σ H s → RelV o ov → RelV i iv → RelV v u → t o i v H Q →
    wpAny (model X.prog X.w) X.A (setItem ov iv u) (fun _ s' => ∃ H', Inv X pins σ H' s' ∧ Q H') X.xe s
/-- a op= b, by values -/
abbrev TIp := V → V → Hp → VK → Prop
def PIp (X : Cx) (op : Operator) (t : TIp) : Prop :=
  ∀ (pins : List (Addr × Obj)) (s : Shared) (σ : St) (H : Hp) (x y : V) (v u : Value) (Q : VK), Inv X pins σ H s → RelV x v → RelV y u → t x y H Q →
    wpAny (model X.prog X.w) X.A (inplaceOp op v u) (EP X pins σ Q) X.xe s
section
variable {X : Cx} {pos : Pos}
def gName (i : Nat) : TG := fun v σ H Q => Q (σ.set i (some v)) H
theorem pg_name {i : Nat} {x : Str} (hN : X.N.Nodup) (hi : X.N[i]? = some x) (hx : Loc X.env.scope x) (hf : X.fn x = true ∨ X.env.scope.names.lookup x = some .local := by first | exact .inl rfl | exact .inr rfl | assumption) : PG X (.Name x pos) (gName i) := by
  intro pins s σ H v u Q I r h
  exact wpAny_assign_Name (store_ok I hN hi hx r (fun s' I' => ⟨_, H, I', h⟩) hf)
def gNil : TGs := fun vs σ H Q => vs = [] ∧ Q σ H
def gCons (t : TG) (u : TGs) : TGs := fun vs σ H Q => ∃ v r, vs = v :: r ∧ t v σ H fun σ' H' => u r σ' H' Q
theorem pgs_nil : PGs X [] gNil := by
  intro pins s σ H vs us Q I r h
  obtain ⟨e, h⟩ := h
  subst e
  cases r
  exact assignInOrder_nil ⟨σ, H, I, h⟩
theorem pgs_cons {e : Expr} {es : List Expr} {t : TG} {u : TGs} (h1 : PG X e t) (h2 : PGs X es u)
    (hs : (assignEach (e :: es) X.env).map (·.2) = assign e X.env :: (assignEach es X.env).map (·.2) := by rfl) : PGs X (e :: es) (gCons t u) := by
  intro pins s σ H vs us Q I r h
  obtain ⟨v, vr, e1, h⟩ := h
  subst e1
  cases r with
  | cons r rr =>
    rw [hs]
    refine assignInOrder_cons (thn (h1 pins s σ H _ _ _ I r h) fun _ s1 ⟨σ1, H1, I1, q1⟩ => ?_)
    exact h2 pins s1 σ1 H1 _ _ Q I1 rr q1
/-- (a, b, ..) = a tuple of that length -/
def gTup (K : PySem.W.Frag) (n : Nat) (t : TGs) : TG := fun v σ H Q => ∃ a xs, v = .ref a ∧ SqT K H a xs ∧ xs.length = n ∧ t xs σ H Q
theorem pg_tup {es : List Expr} {k : Nat} {t : TGs} {n : Nat} (hc : X.calm = true) (h : PGs X es t)
    (hn : (assignEach es X.env).length = n := by rfl) (hst : (assignEach es X.env).findIdx? (·.1) = none := by rfl) : PG X (.Tuple es k pos) (gTup X.K n t) := by
  intro pins s σ H v u Q I r hw
  obtain ⟨a, xs, e1, hq, hl, hw⟩ := hw
  subst e1
  cases r
  obtain ⟨its, rv, ht, hz⟩ := I.tuple hq
  refine assign_Tuple_tuple (I.ok.hd hc) ht (by simp [hn, ← hl, rv.length]) hst fun h' hx => ?_
  have I1 : Inv X pins σ H { s with heap := h' } := I.kept (t' := s.toks) fun b o e => hx b o (Nat.ne_of_lt (Heap.lt_size e)) e
  exact h pins _ σ H xs _ Q I1 (by simpa using rv) hw
/-- o[i] = .. -/
def gSub (to ti : TE) (t : TSet) : TG := fun v σ H Q => to σ H fun o H1 => ti σ H1 fun i H2 => t o i v H2 fun H3 => Q σ H3
theorem pg_sub {o i : Expr} {to ti : TE} {t : TSet} (ho : PE X o to) (hi : PE X i ti) (hs : PSet X t)
    (ha : ∀ v, assign (.Subscript o i pos) X.env v = (do
      let ov ← holding [v] (eval o X.env)
      let iv ← holding [v, ov] (eval i X.env)
      standAt pos
      holding [v, ov, iv] (setItem ov iv v)
      release [v, ov, iv] []) := by intro _; rfl) : PG X (.Subscript o i pos) (gSub to ti t) := by
  intro pins s σ H v u Q I r h
  rw [ha]
  refine wpAny_bind (wpAny_holding (thn (ho pins s σ H _ I h) fun ov s1 ⟨x, H1, I1, r1, q1⟩ => ?_))
  refine wpAny_bind (wpAny_holding (thn (hi pins s1 σ H1 _ I1 q1) fun iv s2 ⟨y, H2, I2, r2, q2⟩ => ?_))
  refine wpAny_bind (wpAny_standAt (wpAny_bind (wpAny_holding (thn (hs pins s2 σ H2 x y v ov iv u _ I2 r1 r2 r q2) fun _ s3 ⟨H3, I3, q3⟩ => ?_))))
  exact wpAny_release ⟨σ, H3, I3, q3⟩
/-- target = value -/
def tAsg (te : TE) (g : TG) : TS := fun D σ H => te σ H fun x H1 => g x σ H1 D.nx
theorem ps_asg {tg e : Expr} {te : TE} {g : TG} (he : PE X e te) (hg : PG X tg g) (hs : swapsWithSole [tg] e pos.line X.env = pure false := by rfl) (hw : swappedStores [tg] e X.env = pure none := by rfl)
    (h1 : (assignEach [tg] X.env).map (·.2) = [assign tg X.env] := by rfl) : PS X (.Assign [tg] e pos) (tAsg te g) := by
  intro pins s σ H D I h
  refine wpAny_Assign_stores (thn (he pins s σ H _ I h) fun v s1 ⟨x, H1, I1, r1, q1⟩ => ?_) hs hw
  rw [h1]
  exact thn (hg pins s1 σ H1 x v _ I1 r1 q1) fun _ s2 q => q
/-- name = value -/
theorem ps_set {i : Nat} {x : Str} {e : Expr} {te : TE} {pos' : Pos} (hN : X.N.Nodup) (hi : X.N[i]? = some x) (hx : Loc X.env.scope x) (he : PE X e te) (hs : swapsWith e (some (.Name x pos')) pos.line X.env = pure false := by rfl) (hf : X.fn x = true ∨ X.env.scope.names.lookup x = some .local := by first | exact .inl rfl | exact .inr rfl | assumption) :
    PS X (.Assign [.Name x pos'] e pos) (tAsg te (gName i)) := by
  intro pins s σ H D I h
  refine wpAny_Assign_Name (thn (he pins s σ H _ I h) fun v s1 ⟨y, H1, I1, r1, q1⟩ => ?_) hs
  exact store_ok I1 hN hi hx r1 (fun s2 I2 => ⟨_, H1, I2, q1⟩) hf
/-- a, b = x, y with plain local names: stored from the right; the pair itself is not tracked (the opening rows as in PyProof/Rows/TupAssign.lean:23) -/
def tPar (i j : Nat) (ta : TA) : TS := fun D σ H => ta σ H fun vs H1 => ∃ v w, vs = [v, w] ∧ D.nx ((σ.set i (some v)).set j (some w)) H1
theorem ps_par {i j : Nat} {x y : Str} {a b : Expr} {ta : TA} {px py pt : Pos} {kt k2 pt2} (hc : X.calm = true) (hN : X.N.Nodup) (hi : X.N[i]? = some x) (hj : X.N[j]? = some y) (hij : i ≠ j)
    (hx : X.env.scope.names.lookup x = some .local) (hy : X.env.scope.names.lookup y = some .local) (ha : PA X [a, b] ta)
    (hw : swappedStores [.Tuple [.Name x px, .Name y py] kt pt] (.Tuple [a, b] k2 pt2) X.env = pure (some [x, y]))
    (hs : swapsWithSole [.Tuple [.Name x px, .Name y py] kt pt] (.Tuple [a, b] k2 pt2) pos.line X.env = pure false := by rfl) :
    PS X (.Assign [.Tuple [.Name x px, .Name y py] kt pt] (.Tuple [a, b] k2 pt2) pos) (tPar i j ta) := by
  intro pins s σ H D I h
  rw [exec_Assign_arm]
  refine wpAny_bind (wpAny_standAt ?_)
  rw [hs]
  refine wpAny_bind (wpAny_pure ?_)
  rw [if_neg (by decide)]
  refine wpAny_bind (Tuple_ (thn (ha _ pins s σ H _ I h) fun us s1 ⟨vs, H1, I1, r1, q1⟩ => ?_))
  obtain ⟨v, w, e1, q1⟩ := q1
  subst e1
  obtain ⟨u1, u2, rfl, rv, rw'⟩ : ∃ u1 u2, us = [u1, u2] ∧ RelV v u1 ∧ RelV w u2 := by
    cases r1 with
    | cons p q =>
      cases q with
      | cons p' q' =>
        cases q'
        exact ⟨_, _, rfl, p, p'⟩
  refine wpAny_newObj_type ?_ (by show 2 ≤ sizeLine; decide)
  have I2 : Inv X pins σ H1 { s1 with heap := s1.heap.push { cls := .type "tuple", data := .seq [u1, u2].toArray } } := I1.kept (t' := s1.toks) fun b o e => Heap.get?_push_of_some _ e
  rw [hw]
  refine wpAny_bind (wpAny_pure ?_)
  show wpAny (model X.prog X.w) X.A (do rule "assign.swapped-stores"; let items ← unpackItems (.ref s1.heap.objs.size) 2 none; assignInOrder [fun v => bindName X.env y v, fun v => bindName X.env x v] items.reverse; pure Flow.next) _ _ _
  refine wpAny_bind (wpAny_rule (wpAny_bind (unpackItems_tuple (items := #[u1, u2]) (I.ok.hd hc) (IsTup.new s1.heap _) fun h' hx' => ?_)))
  have I3 := I2.kept (h' := h') (t' := s1.toks) fun b o e => hx' b o (Nat.ne_of_lt (Heap.lt_size e)) e
  show wpAny _ _ (assignInOrder [fun v => bindName X.env y v, fun v => bindName X.env x v] [u2, u1] >>= fun _ => pure Flow.next) _ _ _
  refine wpAny_bind (assignInOrder_cons (wpAny_bindName (store_ok I3 hN hj (.inl hy) rw' (fun s2 I4 => ?_) (.inr hy))))
  refine assignInOrder_cons (wpAny_bindName (store_ok I4 hN hi (.inl hx) rv (fun s3 I5 => assignInOrder_nil (wpAny_pure ?_)) (.inr hx)))
  rw [List.set_comm _ _ (Ne.symm hij)] at I5
  exact ⟨_, H1, I5, q1⟩
/-- name op= e -/
def tAug (i : Nat) (te : TE) (ti : TIp) : TS := fun D σ H => ∃ x, σ[i]? = some (some x) ∧ te σ H fun y H1 => ti x y H1 fun z H2 => D.nx (σ.set i (some z)) H2
theorem ps_aug {i : Nat} {x : Str} {e : Expr} {te : TE} {op : Operator} {ti : TIp} {pos' : Pos} (hN : X.N.Nodup) (hi : X.N[i]? = some x) (hx : Loc X.env.scope x) (he : PE X e te) (ho : PIp X op ti) (hf : X.fn x = true ∨ X.env.scope.names.lookup x = some .local := by first | exact .inl rfl | exact .inr rfl | assumption) :
    PS X (.AugAssign (.Name x pos') op e pos) (tAug i te ti) := by
  intro pins s σ H D I h
  obtain ⟨v, e1, h⟩ := h
  obtain ⟨m, hn, hl⟩ := I.loc
  have vis : Vis X.env.scope x := by rcases hx with k | k; exact .inl k; exact .inr (.inl k)
  obtain ⟨u, r, l⟩ := hl i x v hi e1 vis
  refine wpAny_AugAssign_Name ?_
  have go : wpAny (model X.prog X.w) X.A (eval e X.env) (fun w s₂ => wpAny (model X.prog X.w) X.A (inplaceOp op u w) (fun r s₃ => wpAny (model X.prog X.w) X.A (storeName X.env x r) (fun _ => SP X pins D .next) X.xe s₃) X.xe s₂) X.xe s := by
    refine thn (he pins s σ H _ I h) fun w s1 ⟨y, H1, I1, r1, q1⟩ => ?_
    refine thn (ho pins s1 σ H1 v y u w _ I1 r r1 q1) fun z s2 ⟨zv, H2, I2, r2, q2⟩ => ?_
    exact store_ok I2 hN hi hx r2 (fun s3 I3 => ⟨_, H2, I3, q2⟩) hf
  rcases l with ⟨hk, hm⟩ | ⟨hk, c, hc, hcell⟩
  · exact wpAny_loadName_local I.ok.kind hk hn hm go
  · rcases hk with hk | hk
    · exact wpAny_loadName_cell I.ok.kind hk hc hcell go
    · rcases hx with k | k
      · have : X.env.scope.names.lookup x = some .free := hk
        rw [k] at this; cases this
      · have : X.env.scope.names.lookup x = some .free := hk
        rw [k] at this; cases this
/-- o[i] op= e -/
def tAugS (to ti te : TE) (tget : V → V → Hp → VK → Prop) (tip : TIp) (tset : TSet) : TS := fun D σ H => to σ H fun o H1 => ti σ H1 fun i H2 => tget o i H2 fun x H3 => te σ H3 fun y H4 => tip x y H4 fun z H5 => tset o i z H5 fun H6 => D.nx σ H6
/-- o[i], by values -/
def PGet (X : Cx) (t : V → V → Hp → VK → Prop) : Prop :=
  ∀ (pins : List (Addr × Obj)) (s : Shared) (σ : St) (H : Hp) (o i : V) (ov iv : Value) (Q : VK), Inv X pins σ H s → RelV o ov → RelV i iv → t o i H Q →
    wpAny (model X.prog X.w) X.A (getItem ov iv) (EP X pins σ Q) X.xe s
theorem ps_augS {o i e : Expr} {to ti te : TE} {tget : V → V → Hp → VK → Prop} {tip : TIp} {tset : TSet} {op : Operator} {tpos : Pos} (ho : PE X o to) (hi : PE X i ti) (hg : PGet X tget) (he : PE X e te) (hp : PIp X op tip) (hs : PSet X tset)
    (ha : ∀ ov iv new, augStore i ov iv new = (do holding [new, ov, iv] (setItem ov iv new); release [new, ov, iv] []; pure .next) := by intros; rfl) : PS X (.AugAssign (.Subscript o i tpos) op e pos) (tAugS to ti te tget tip tset) := by
  intro pins s σ H D I h
  refine wpAny_AugAssign_SubscriptAny (thn (ho pins s σ H _ I h) fun ov s1 ⟨x1, H1, I1, r1, q1⟩ => ?_) ha
  refine thn (hi pins s1 σ H1 _ I1 q1) fun iv s2 ⟨x2, H2, I2, r2, q2⟩ => ?_
  refine thn (hg pins s2 σ H2 x1 x2 ov iv _ I2 r1 r2 q2) fun old s3 ⟨x3, H3, I3, r3, q3⟩ => ?_
  refine thn (he pins s3 σ H3 _ I3 q3) fun v s4 ⟨x4, H4, I4, r4, q4⟩ => ?_
  refine thn (hp pins s4 σ H4 x3 x4 old v _ I4 r3 r4 q4) fun new s5 ⟨x5, H5, I5, r5, q5⟩ => ?_
  exact thn (hs pins s5 σ H5 x1 x2 x5 ov iv new _ I5 r1 r2 r5 q5) fun _ s6 ⟨H6, I6, q6⟩ => ⟨σ, H6, I6, q6⟩
/-- ints -/
def ipI (f : Int → Int → Int) : TIp := fun x y H Q => ∃ i j, x = .int i ∧ y = .int j ∧ Q (.int (f i j)) H
theorem ip_add : PIp X .Add (ipI fun i j => i + j) := by
  intro pins s σ H x y v u Q I r1 r2 h
  obtain ⟨i, j, e1, e2, q⟩ := h
  subst e1; subst e2
  obtain ⟨t, rfl⟩ := r1
  obtain ⟨t', rfl⟩ := r2
  exact iadd_int ⟨.int _, H, I.tok _, ⟨_, rfl⟩, q⟩
theorem ip_sub : PIp X .Sub (ipI fun i j => i - j) := by
  intro pins s σ H x y v u Q I r1 r2 h
  obtain ⟨i, j, e1, e2, q⟩ := h
  subst e1; subst e2
  obtain ⟨t, rfl⟩ := r1
  obtain ⟨t', rfl⟩ := r2
  exact isub_int ⟨.int _, H, I.tok _, ⟨_, rfl⟩, q⟩
end

/-! ### while -/
section
variable {X : Cx} {pos : Pos}
/-- the invariant W with its measure -/
def tWhile (c : TT) (tb : TS) : TS := fun D σ H => ∃ W : Nat → St → Hp → Prop, (∃ m, W m σ H) ∧ ∀ m σ H, W m σ H →
  c σ H fun b H1 => if b = true then ∃ N : St → Hp → Prop, (∀ σ' H', N σ' H' → ∃ m', m' < m ∧ W m' σ' H') ∧ tb { D with nx := N, ct := N, bk := D.nx } σ H1 else D.nx σ H1
theorem ps_while {c : Expr} {body : List Stmt} {tc : TT} {tb : TS} (hp : PassesOwn (model X.prog X.w) X.A X.env X.xe) (hc : PT X c tc) (hb : PSs X body tb) : PS X (.While c body [] pos) (tWhile tc tb) := by
  intro pins s σ H D I h
  obtain ⟨W, ⟨m0, w0⟩, turn⟩ := h
  refine wpAny_While (codeAny_whileLoop (fun n s' => ∃ σ' H', Inv X pins σ' H' s' ∧ W n σ' H') ?_ m0 ⟨σ, H, I, w0⟩)
  rintro n s1 ⟨σ1, H1, I1, w1⟩
  refine wpAny_passesOwn hp (thn (hc pins s1 σ1 H1 _ I1 (turn n σ1 H1 w1)) fun b s2 ⟨H2, I2, q2⟩ => ?_)
  cases b with
  | true =>
    obtain ⟨N, hN, q2⟩ := q2
    rw [if_pos rfl]
    refine wpAny_passesOwn hp (thn (hb pins s2 σ1 H2 _ I2 q2) fun f s3 q3 => ?_)
    cases f with
    | next =>
      obtain ⟨σ3, H3, I3, n3⟩ := q3
      obtain ⟨m', hm, w3⟩ := hN σ3 H3 n3
      exact ⟨m', hm, σ3, H3, I3, w3⟩
    | cont =>
      obtain ⟨σ3, H3, I3, n3⟩ := q3
      obtain ⟨m', hm, w3⟩ := hN σ3 H3 n3
      exact ⟨m', hm, σ3, H3, I3, w3⟩
    | brk => exact q3
    | ret v => exact q3
  | false =>
    rw [if_neg Bool.false_ne_true]
    exact wpAny_execs_nil ⟨σ1, H2, I2, q2⟩
end

/-! ### what a loop or a comprehension walks -/
/-- at turn i: it yields x (the heap may grow), or it stops -/
structure It where
  go : Nat → Hp → Prop
  yld : Nat → Hp → V → Hp → Prop
  stop : Nat → Hp → Prop
/-- the iterator's own objects may turn: they are not the frame's, not pinned, younger than the entry (or a comprehension's own) -/
def FpOk (X : Cx) (pins : List (Addr × Obj)) (H : Hp) (b : Addr) : Prop :=
  H b = none ∧ b ≠ X.env.locals ∧ b ∉ X.fs ∧ (b ∈ X.ex ∨ X.s₀.heap.objs.size ≤ b) ∧ (∀ x c, X.env.cells.lookup x = some c → c ≠ b) ∧ ∀ p ∈ X.pn ++ pins, p.1 ≠ b
theorem Inv.fpOk {X : Cx} {pins : List (Addr × Obj)} {σ : St} {H H' : Hp} {s : Shared} {b : Addr} (I : Inv X pins σ H s) (hb : s.heap.objs.size ≤ b) (hn : H' b = none) : FpOk X pins H' b := by
  refine ⟨hn, Nat.ne_of_gt (Nat.lt_of_lt_of_le I.lt hb), I.nofs hb, .inr (Nat.le_trans I.sz hb), fun x c e z => ?_, fun p hp z => ?_⟩
  · obtain ⟨v, q⟩ := I.cell x c e
    exact absurd (Nat.lt_of_lt_of_le q.lt (by rw [z]; exact hb)) (Nat.lt_irrefl _)
  · exact absurd (Nat.lt_of_lt_of_le (Heap.lt_size (I.pin p hp).1) (by rw [z]; exact hb)) (Nat.lt_irrefl _)
structure Turn (P : Program) (w : World) (K : PySem.W.Frag) (tg : Expr) (J : It) (fp : List Addr) (it : Addr) (tn : Nat → Heap → Prop) : Prop where
  mem : it ∈ fp
  obj : ∀ i h, tn i h → ∀ b ∈ fp, ∃ o, h.get? b = some o ∧ ∀ v, o.data ≠ .cell v
  keep : ∀ i h h', tn i h → (∀ b ∈ fp, ∀ o, h.get? b = some o → h'.get? b = some o) → tn i h'
  item : ∀ (X : Cx), X.prog = P → X.w = w → X.K = K → X.calm = true → ∀ (i : Nat) (pins : List (Addr × Obj)) (s : Shared) (σ : St) (H : Hp) (E : Value → Shared → Prop), Inv X pins σ H s → (∀ b ∈ fp, FpOk X pins H b) → tn i s.heap → J.go i H →
    wpAny (model P w) X.A (pyNext (.ref it)) (fun r s1 => ∃ u, r = some u ∧
      wpAny (model P w) X.A (letOwnedTupleGo tg (.ref it) u) (fun _ s2 => ∃ x H', Inv X pins σ H' s2 ∧ RelV x u ∧ J.yld i H x H' ∧ tn (i + 1) s2.heap ∧ ∀ b ∈ fp, H' b = none) E s1) E s
  done : ∀ (X : Cx), X.prog = P → X.w = w → X.K = K → X.calm = true → ∀ (i : Nat) (pins : List (Addr × Obj)) (s : Shared) (σ : St) (H : Hp) (E : Value → Shared → Prop), Inv X pins σ H s → (∀ b ∈ fp, FpOk X pins H b) → tn i s.heap → J.stop i H →
    wpAny (model P w) X.A (pyNext (.ref it)) (fun r s1 => r = none ∧ Inv X pins σ H s1) E s
  self : ∀ (A : Around) (i : Nat) (s : Shared) (Q : Value → Shared → Prop) (E : Value → Shared → Prop), tn i s.heap → Q (.ref it) s → wpAny (model P w) A (pyIter (.ref it)) Q E s
abbrev TI := St → Hp → (It → Hp → Prop) → Prop
/-- an iterator has come -/
def PIE (X : Cx) (pins : List (Addr × Obj)) (σ : St) (tg : Expr) (R : It → Hp → Prop) (itv : Value) (s2 : Shared) : Prop :=
  ∃ (it : Addr) (fp : List Addr) (tn : Nat → Heap → Prop) (J : It) (H' : Hp), itv = .ref it ∧ Inv X pins σ H' s2 ∧ Turn X.prog X.w X.K tg J fp it tn ∧ tn 0 s2.heap ∧ (∀ b ∈ fp, FpOk X pins H' b) ∧ R J H'
def PI (X : Cx) (tg iter : Expr) (wi : TI) : Prop :=
  ∀ (pins : List (Addr × Obj)) (s : Shared) (σ : St) (H : Hp) (R : It → Hp → Prop), Inv X pins σ H s → wi σ H R →
    wpAny (model X.prog X.w) X.A (eval iter X.env) (fun v s1 => wpAny (model X.prog X.w) X.A (pyIter v) (PIE X pins σ tg R) X.xe s1) X.xe s

/-- the step ahead of the store is nothing for an iterator that keeps no tuple -/
theorem go_of {M : Model} {A : Around} {E : Value → Shared → Prop} {s : Shared} {tg : Expr} {it : Addr} {u : Value} {o : Obj} {n : String} {vs : Array Value} {Q : Unit → Shared → Prop} (ho : s.heap.get? it = some o) (hc : o.cls = .type n) (hd : o.data = .fields vs)
    (hn : ["enumerate", "zip", "dict_itemiterator", "dict_reverseitemiterator", "odict_iterator", "itertools.zip_longest", "itertools.pairwise"].contains n = false) (hQ : Q () s) : wpAny M A (letOwnedTupleGo tg (.ref it) u) Q E s := by
  unfold letOwnedTupleGo
  cases tg <;> first
    | exact wpAny_pure hQ
    | (cases u <;> first
        | exact wpAny_pure hQ
        | (refine wpAny_bind (wpAny_load ho ?_)
           rw [hc, hd]
           show wpAny M A (if (["enumerate", "zip", "dict_itemiterator", "dict_reverseitemiterator", "odict_iterator", "itertools.zip_longest", "itertools.pairwise"].contains n && vs[0]? == some (rawInt _)) = true then _ else _) Q E s
           rw [if_neg (by intro h; rw [hn, Bool.false_and] at h; cases h)]
           exact wpAny_pure hQ))

/-- the list at a, as it stands at each turn (a loop may append to it) -/
def Itl (K : PySem.W.Frag) (a : Addr) : It :=
  ⟨fun i H => ∃ xs x, SqL K H a xs ∧ xs[i]? = some x, fun i H x H' => H' = H ∧ ∀ xs, SqL K H a xs → xs[i]? = some x, fun i H => ∃ xs, SqL K H a xs ∧ xs.length ≤ i⟩
def Itt (K : PySem.W.Frag) (a : Addr) : It :=
  ⟨fun i H => ∃ xs x, SqT K H a xs ∧ xs[i]? = some x, fun i H x H' => H' = H ∧ ∀ xs, SqT K H a xs → xs[i]? = some x, fun i H => ∃ xs, SqT K H a xs ∧ xs.length ≤ i⟩
/-- lo, lo + 1, .. (n of them) -/
def Itr (lo : Int) (n : Nat) : It := ⟨fun i _ => i < n, fun i H x H' => H' = H ∧ x = .int (lo + i), fun i _ => n ≤ i⟩
theorem turn_list {P : Program} {w : World} {K : PySem.W.Frag} {tg : Expr} (a it : Addr) : Turn P w K tg (Itl K a) [it] it (fun i h => h.IsListIter it a i) where
  mem := by simp
  obj := fun i h st b hb => by
    have e : b = it := by simpa using hb
    subst e
    obtain ⟨o, e, c, d⟩ := st
    exact ⟨o, e, fun v z => by rw [d] at z; cases z⟩
  keep := fun i h h' st k => st.at fun o e => k it (by simp) o e
  item := by
    intro X hP hw hK hc i pins s σ H E I hf st hg
    subst hP hw hK
    obtain ⟨xs, x, hq, hx⟩ := hg
    obtain ⟨its, rv, p, hz⟩ := I.list hq
    obtain ⟨u, hu, ru⟩ := rv.get hx
    obtain ⟨f0, f1, f2, f3, f4, f5⟩ := hf it (by simp)
    refine wpAny_pyNext_list_item st p.isList (x := u) (by simpa using hu) fun h' st' sb => ?_
    have I1 : Inv X pins σ H { s with heap := h' } := I.turned (t' := s.toks) (fun b o hb e => (sb.2 b hb).trans e) f0 f1 f3 f4 f5
    obtain ⟨o, e, c, d⟩ := id st'
    exact ⟨u, rfl, go_of (s := { s with heap := h' }) e c d (by decide) ⟨x, H, I1, ru, ⟨rfl, fun ys hy => by rw [I.list_inj hy hq]; exact hx⟩, st', fun b hb => (hf b hb).1⟩⟩
  done := by
    intro X hP hw hK hc i pins s σ H E I hf st hg
    subst hP hw hK
    obtain ⟨xs, hq, hx⟩ := hg
    obtain ⟨its, rv, p, hz⟩ := I.list hq
    obtain ⟨f0, f1, f2, f3, f4, f5⟩ := hf it (by simp)
    have hl := rv.length
    exact wpAny_pyNext_list_end (I.ok.hd hc) st p.isList (by simp; omega) fun h' eb => ⟨rfl, I.turned (t' := s.toks) (fun b o hb e => eb b o hb e) f0 f1 f3 f4 f5⟩
  self := fun _ _ _ _ _ st h => wpAny_pyIter_listiter st h
theorem turn_tuple {P : Program} {w : World} {K : PySem.W.Frag} {tg : Expr} (a it : Addr) : Turn P w K tg (Itt K a) [it] it (fun i h => h.IsTupleIter it a i) where
  mem := by simp
  obj := fun i h st b hb => by
    have e : b = it := by simpa using hb
    subst e
    obtain ⟨o, e, c, d⟩ := st
    exact ⟨o, e, fun v z => by rw [d] at z; cases z⟩
  keep := fun i h h' st k => st.at fun o e => k it (by simp) o e
  item := by
    intro X hP hw hK hc i pins s σ H E I hf st hg
    subst hP hw hK
    obtain ⟨xs, x, hq, hx⟩ := hg
    obtain ⟨its, rv, p, hz⟩ := I.tuple hq
    obtain ⟨u, hu, ru⟩ := rv.get hx
    obtain ⟨f0, f1, f2, f3, f4, f5⟩ := hf it (by simp)
    refine wpAny_pyNext_tuple_item st (show s.heap.IsTuple a its.toArray from p) (x := u) (by simpa using hu) fun h' st' sb => ?_
    have I1 : Inv X pins σ H { s with heap := h' } := I.turned (t' := s.toks) (fun b o hb e => (sb.2 b hb).trans e) f0 f1 f3 f4 f5
    obtain ⟨o, e, c, d⟩ := id st'
    exact ⟨u, rfl, go_of (s := { s with heap := h' }) e c d (by decide) ⟨x, H, I1, ru, ⟨rfl, fun ys hy => by rw [I.tuple_inj hy hq]; exact hx⟩, st', fun b hb => (hf b hb).1⟩⟩
  done := by
    intro X hP hw hK hc i pins s σ H E I hf st hg
    subst hP hw hK
    obtain ⟨xs, hq, hx⟩ := hg
    obtain ⟨its, rv, p, hz⟩ := I.tuple hq
    obtain ⟨f0, f1, f2, f3, f4, f5⟩ := hf it (by simp)
    have hl := rv.length
    exact wpAny_pyNext_tuple_end (I.ok.hd hc) st (show s.heap.IsTuple a its.toArray from p) (by simp; omega) fun h' eb => ⟨rfl, I.turned (t' := s.toks) (fun b o hb e => eb b o hb e) f0 f1 f3 f4 f5⟩
  self := fun _ _ _ _ _ st h => wpAny_pyIter_tupleiter st h
theorem turn_range {P : Program} {w : World} {K : PySem.W.Frag} {tg : Expr} (it : Addr) (lo : Int) (n : Nat) : Turn P w K tg (Itr lo n) [it] it (fun i h => IsRangeIter h it (lo + (i : Nat) * 1) ((n : Int) - (i : Nat)) 1) where
  mem := by simp
  obj := fun i h st b hb => by
    have e : b = it := by simpa using hb
    subst e
    exact ⟨_, st, fun v z => by
      have z' : Data.fields _ = Data.cell v := z
      cases z'⟩
  keep := fun i h h' st k => k it (by simp) _ st
  item := by
    intro X hP hw hK hc i pins s σ H E I hf st hg
    subst hP hw hK
    obtain ⟨f0, f1, f2, f3, f4, f5⟩ := hf it (by simp)
    have W := Walks.range (prog := X.prog) (w := X.w) (I.ok.hd hc) it lo 1 n
    refine W.item i s _ _ hg st fun v h' tk hv st' kk => ?_
    obtain ⟨t, rfl⟩ := hv
    have I1 : Inv X pins σ H { s with heap := h', toks := tk } := I.turned (fun b o hb e => kk b o (by simpa using hb) e) f0 f1 f3 f4 f5
    refine ⟨_, rfl, go_of (s := { s with heap := h', toks := tk }) (n := "range_iterator") st' rfl rfl (by decide) ⟨.int (lo + i), H, I1, ⟨t, ?_⟩, ⟨rfl, rfl⟩, st', fun b hb => (hf b hb).1⟩⟩
    rw [Int.mul_one]
  done := by
    intro X hP hw hK hc i pins s σ H E I hf st hg
    subst hP hw hK
    obtain ⟨f0, f1, f2, f3, f4, f5⟩ := hf it (by simp)
    exact wpAny_pyNext_range_end (I.ok.hd hc) st (by have : n ≤ i := hg; omega) fun h' eb => ⟨rfl, I.turned (t' := s.toks) (fun b o hb e => eb b o hb e) f0 f1 f3 f4 f5⟩
  self := fun _ _ _ _ _ st h => wpAny_pyIter_rangeiter st h
end L2

namespace L2
open PySem PySem.Spec PyProof.Rows
section
variable {X : Cx} {tg : Expr}
def iList (K : PySem.W.Frag) (tl : TE) : TI := fun σ H R => tl σ H fun x H1 => ∃ a, x = .ref a ∧ (∃ xs, SqL K H1 a xs) ∧ R (Itl K a) H1
def iTup (K : PySem.W.Frag) (tl : TE) : TI := fun σ H R => tl σ H fun x H1 => ∃ a, x = .ref a ∧ (∃ xs, SqT K H1 a xs) ∧ R (Itt K a) H1
theorem pi_list {l : Expr} {tl : TE} (hl : PE X l tl) : PI X tg l (iList X.K tl) := by
  intro pins s σ H R I h
  refine thn (hl pins s σ H _ I h) fun v s1 ⟨x, H1, I1, r1, q1⟩ => ?_
  obtain ⟨a, e, ⟨xs, hq⟩, q⟩ := q1
  subst e
  cases r1
  obtain ⟨its, rv, p, hz⟩ := I1.list hq
  refine wpAny_pyIter_list p.isList ?_
  refine ⟨s1.heap.objs.size, [s1.heap.objs.size], _, _, H1, rfl, I1.kept (t' := s1.toks) fun b o e => Heap.get?_push_of_some _ e, turn_list a _, ⟨_, Heap.get?_push_size _ rfl, rfl, rfl⟩, fun b hb => ?_, q⟩
  have e : b = s1.heap.objs.size := by simpa using hb
  subst e
  exact I1.fpOk (Nat.le_refl _) (I1.hok.fresh (Nat.le_refl _))
theorem pi_tup {l : Expr} {tl : TE} (hl : PE X l tl) : PI X tg l (iTup X.K tl) := by
  intro pins s σ H R I h
  refine thn (hl pins s σ H _ I h) fun v s1 ⟨x, H1, I1, r1, q1⟩ => ?_
  obtain ⟨a, e, ⟨xs, hq⟩, q⟩ := q1
  subst e
  cases r1
  obtain ⟨its, rv, p, hz⟩ := I1.tuple hq
  refine wpAny_pyIter_tuple (show s1.heap.IsTuple a its.toArray from p) ?_
  refine ⟨s1.heap.objs.size, [s1.heap.objs.size], _, _, H1, rfl, I1.kept (t' := s1.toks) fun b o e => Heap.get?_push_of_some _ e, turn_tuple a _, ⟨_, Heap.get?_push_size _ rfl, rfl, rfl⟩, fun b hb => ?_, q⟩
  have e : b = s1.heap.objs.size := by simpa using hb
  subst e
  exact I1.fpOk (Nat.le_refl _) (I1.hok.fresh (Nat.le_refl _))
/-- a range object just made, walked -/
theorem range_it {pins : List (Addr × Obj)} {σ : St} {H : Hp} {s : Shared} {R : It → Hp → Prop} {E : Value → Shared → Prop} {lo hi : Int} {t u v : Tok} {tk : Nat} (I : Inv X pins σ H s) (h1 : -(2 ^ 62) ≤ lo) (h2 : lo < 2 ^ 62) (h3 : -(2 ^ 62) ≤ hi) (h4 : hi < 2 ^ 62)
    (q : R (Itr lo (hi - lo).toNat) H) : wpAny (model X.prog X.w) X.A (pyIter (.ref s.heap.objs.size)) (PIE X pins σ tg R) E { s with heap := s.heap.push { cls := .type "range", data := .fields #[.int lo t, .int hi u, .int 1 v] }, toks := tk } := by
  refine wpAny_pyIter_range (IsRange.new ..) (small_one h1 h2 h3 h4) ?_
  have I1 : Inv X pins σ H { s with heap := s.heap.push { cls := .type "range", data := .fields #[.int lo t, .int hi u, .int 1 v] }, toks := tk } := I.kept fun b o e => Heap.get?_push_of_some _ e
  refine ⟨(s.heap.push { cls := .type "range", data := .fields #[.int lo t, .int hi u, .int 1 v] }).objs.size, [(s.heap.push { cls := .type "range", data := .fields #[.int lo t, .int hi u, .int 1 v] }).objs.size], _, _, H, rfl,
    I1.kept (t' := tk) fun b o e => Heap.get?_push_of_some _ e, turn_range _ lo (hi - lo).toNat, ?_, fun b hb => ?_, q⟩
  · have e1 : lo + ((0 : Nat) : Int) * 1 = lo := by simp
    have e2 : (((hi - lo).toNat : Nat) : Int) - ((0 : Nat) : Int) = Builtin.Range.rangeSize lo hi 1 := by rw [rangeSize_one]; split <;> omega
    show IsRangeIter _ _ (lo + ((0 : Nat) : Int) * 1) ((((hi - lo).toNat : Nat) : Int) - ((0 : Nat) : Int)) 1
    rw [e1, e2]
    exact Heap.get?_push_size _ rfl
  · have e : b = (s.heap.push { cls := .type "range", data := .fields #[.int lo t, .int hi u, .int 1 v] }).objs.size := by simpa using hb
    subst e
    exact I1.fpOk (Nat.le_refl _) (I1.hok.fresh (Nat.le_refl _))
def iRng1 (ta : TA) : TI := fun σ H R => ta σ H fun vs H1 => ∃ j : Int, vs = [.int j] ∧ -(2 ^ 62) ≤ j ∧ j < 2 ^ 62 ∧ R (Itr 0 j.toNat) H1
def iRng2 (ta : TA) : TI := fun σ H R => ta σ H fun vs H1 => ∃ i j : Int, vs = [.int i, .int j] ∧ (-(2 ^ 62) ≤ i ∧ i < 2 ^ 62 ∧ -(2 ^ 62) ≤ j ∧ j < 2 ^ 62) ∧ R (Itr i (j - i).toNat) H1
theorem pi_range1 {a : Expr} {ta : TA} {p pos : Pos} (hg : Gl X "range") (hm : X.mg "range" = none) (ha : PA X [a] ta) (hs : starEach [a] X.env = [(false, eval a X.env)] := by rfl) : PI X tg (.Call (.Name "range" p) [a] [] pos) (iRng1 ta) := by
  intro pins s σ H R I h
  refine Call_ (ld_blt I hg hm boot_range (PyProof.Rows.callWith_type1 (thn (ha pos pins s σ H _ I h) fun us s1 ⟨vs, H1, I1, r1, q1⟩ => ?_) hs rfl))
  obtain ⟨j, e, q1, q2, q⟩ := q1
  subst e
  cases r1 with
  | cons r rr =>
    cases rr
    obtain ⟨t, rfl⟩ := r
    exact call_range_1 (range_it I1 (by omega) (by omega) q1 q2 (by simpa using q))
theorem pi_range2 {a b : Expr} {ta : TA} {p pos : Pos} (hg : Gl X "range") (hm : X.mg "range" = none) (ha : PA X [a, b] ta) (hs : starEach [a, b] X.env = [(false, eval a X.env), (false, eval b X.env)] := by rfl) (hs2 : starEach [b] X.env = [(false, eval b X.env)] := by rfl) :
    PI X tg (.Call (.Name "range" p) [a, b] [] pos) (iRng2 ta) := by
  intro pins s σ H R I h
  refine Call_ (ld_blt I hg hm boot_range (PyProof.Rows.callWith_type1 (thn (ha pos pins s σ H _ I h) fun us s1 ⟨vs, H1, I1, r1, q1⟩ => ?_) (by rw [hs, hs2]) (by rw [hs2]; rfl)))
  obtain ⟨i, j, e, ⟨q1, q2, q3, q4⟩, q⟩ := q1
  subst e
  cases r1 with
  | cons r rr =>
    cases rr with
    | cons r' rr =>
      cases rr
      obtain ⟨t, rfl⟩ := r
      obtain ⟨t', rfl⟩ := r'
      exact call_range_2 (range_it I1 q1 q2 q3 q4 q)

/-! ### for -/
/-- W: the invariant by the turn and a measure; N: what the body is to reach -/
def tFor (wi : TI) (g : TG) (tb : TS) : TS := fun D σ H => wi σ H fun J H1 => ∃ W : Nat → Nat → St → Hp → Prop, (∃ m, W 0 m σ H1) ∧ ∀ i m σ H, W i m σ H →
  (J.stop i H ∧ D.nx σ H) ∨ (J.go i H ∧ ∃ N : St → Hp → Prop, (∀ σ' H', N σ' H' → ∃ m', m' < m ∧ W (i + 1) m' σ' H') ∧ ∀ x H', J.yld i H x H' → g x σ H' fun σ2 H2 => tb { D with nx := N, ct := N, bk := D.nx } σ2 H2)
/-- the records at fp as they stand -/
def pinsAt (fp : List Addr) (h : Heap) : List (Addr × Obj) := fp.filterMap fun b => (h.get? b).map fun o => (b, o)
theorem mem_pinsAt {fp : List Addr} {h : Heap} {b : Addr} {o : Obj} (hb : b ∈ fp) (e : h.get? b = some o) : (b, o) ∈ pinsAt fp h := List.mem_filterMap.mpr ⟨b, hb, by rw [e]; rfl⟩
theorem of_pinsAt {fp : List Addr} {h : Heap} {p : Addr × Obj} (hp : p ∈ pinsAt fp h) : p.1 ∈ fp ∧ h.get? p.1 = some p.2 := by
  obtain ⟨b, hb, e⟩ := List.mem_filterMap.mp hp
  cases q : h.get? b with
  | none => rw [q] at e; cases e
  | some o =>
    rw [q] at e
    have e' : (b, o) = p := Option.some.inj e
    subst e'
    exact ⟨hb, q⟩
theorem Inv.pinned {pins : List (Addr × Obj)} {σ : St} {H : Hp} {s : Shared} {fp : List Addr} (I : Inv X pins σ H s) (hf : ∀ b ∈ fp, FpOk X pins H b) (ho : ∀ b ∈ fp, ∃ o, s.heap.get? b = some o ∧ ∀ v, o.data ≠ .cell v) : Inv X (pins ++ pinsAt fp s.heap) σ H s :=
  I.pins_of fun p hp => (List.mem_append.mp hp).elim (fun z => I.pin p (List.mem_append_right _ z)) fun z => by
    obtain ⟨hb, e⟩ := of_pinsAt z
    obtain ⟨f0, f1, f2, _⟩ := hf p.1 hb
    obtain ⟨o, e', d⟩ := ho p.1 hb
    rw [e] at e'; cases e'
    exact ⟨e, f0, f1, f2, d⟩
theorem Inv.unpinned {pins pl : List (Addr × Obj)} {σ : St} {H : Hp} {s : Shared} (I : Inv X (pins ++ pl) σ H s) : Inv X pins σ H s := I.pins_of fun p hp => I.pin p (List.mem_append_right _ (List.mem_append_left _ hp))
theorem ps_for {iter : Expr} {body : List Stmt} {wi : TI} {g : TG} {tb : TS} {pos : Pos} (hp : PassesOwn (model X.prog X.w) X.A X.env X.xe) (hc : X.calm = true) (hi : PI X tg iter wi) (hg : PG X tg g) (hb : PSs X body tb)
    (hs : ∀ x, foldedSetIterable iter X.env x = pure x := by intro _; rfl) : PS X (.For tg iter body [] pos) (tFor wi g tb) := by
  intro pins s σ H D I h
  refine wpAny_For (thn (hi pins s σ H _ I h) fun v s1 h1 => thn h1 fun itv s2 h2 => ?_) hs
  obtain ⟨it, fp, tn, J, H2, e, I2, T, st2, f2, W, ⟨m0, w0⟩, turn⟩ := h2
  subst e
  -- what stays true of the iterator's objects through the loop
  have stat : ∀ {H' : Hp}, (∀ b ∈ fp, H' b = none) → ∀ b ∈ fp, FpOk X pins H' b := fun hn b hb => ⟨hn b hb, (f2 b hb).2⟩
  refine codeAny_forLoop_any (fun n s' => ∃ i σ' H', Inv X pins σ' H' s' ∧ tn i s'.heap ∧ (∀ b ∈ fp, H' b = none) ∧ W i n σ' H') ?_ m0 ⟨0, σ, H2, I2, st2, fun b hb => (f2 b hb).1, w0⟩
  rintro n s3 ⟨i, σ3, H3, I3, st3, fr3, w3⟩
  rcases turn i n σ3 H3 w3 with ⟨stop, qn⟩ | ⟨go, N, hN, step⟩
  · refine wpAny_passesOwn hp (thn (T.done X rfl rfl rfl hc i pins s3 σ3 H3 X.xe I3 (stat fr3) st3 stop) fun r s4 ⟨hr, I4⟩ => ?_)
    subst hr
    exact wpAny_execs_nil ⟨σ3, H3, I4, qn⟩
  · refine wpAny_passesOwn hp (thn (T.item X rfl rfl rfl hc i pins s3 σ3 H3 X.xe I3 (stat fr3) st3 go) fun r s4 ⟨u, hr, h4⟩ => ?_)
    subst hr
    refine wpAny_passesOwn hp (thn h4 fun _ s5 ⟨x, H5, I5, r5, y5, st5, fr5⟩ => ?_)
    have I5' := I5.pinned (stat fr5) (T.obj _ _ st5)
    refine wpAny_passesOwn hp (thn (hg _ s5 σ3 H5 x u _ I5' r5 (step x H5 y5)) fun _ s6 ⟨σ6, H6, I6, q6⟩ => ?_)
    refine wpAny_passesOwn hp (thn (hb _ s6 σ6 H6 _ I6 q6) fun f s7 q7 => ?_)
    have again : ∀ {σ7 : St} {H7 : Hp}, Inv X (pins ++ pinsAt fp s5.heap) σ7 H7 s7 → N σ7 H7 → ∃ m, m < n ∧ ∃ i σ' H', Inv X pins σ' H' s7 ∧ tn i s7.heap ∧ (∀ b ∈ fp, H' b = none) ∧ W i m σ' H' := fun {σ7 H7} I7 n7 => by
      obtain ⟨m', hm, w7⟩ := hN σ7 H7 n7
      refine ⟨m', hm, i + 1, σ7, H7, I7.unpinned, T.keep _ _ _ st5 fun b hb o e => (I7.pin (b, o) (List.mem_append_right _ (List.mem_append_right _ (mem_pinsAt hb e)))).1, fun b hb => ?_, w7⟩
      obtain ⟨o, e, d⟩ := T.obj _ _ st5 b hb
      exact (I7.pin (b, o) (List.mem_append_right _ (List.mem_append_right _ (mem_pinsAt hb e)))).2.1
    cases f with
    | next => obtain ⟨σ7, H7, I7, n7⟩ := q7; exact again I7 n7
    | cont => obtain ⟨σ7, H7, I7, n7⟩ := q7; exact again I7 n7
    | brk => obtain ⟨σ7, H7, I7, q7⟩ := q7; exact ⟨σ7, H7, I7.unpinned, q7⟩
    | ret v => obtain ⟨x7, σ7, H7, I7, r7, q7⟩ := q7; exact ⟨x7, σ7, H7, I7.unpinned, r7, q7⟩
end

/-! ### the forms one uses -/
/-- over a list that the body leaves as it is -/
theorem for_list {K : PySem.W.Frag} {a : Addr} {xs : List V} {g : TG} {tb : TS} {D : Ends} {σ : St} {H : Hp} (Pv : Nat → St → Hp → Prop) (h0 : Pv 0 σ H) (hl : ∀ i σ H, i ≤ xs.length → Pv i σ H → SqL K H a xs)
    (hs : ∀ i x σ H, xs[i]? = some x → Pv i σ H → g x σ H fun σ2 H2 => tb { D with nx := Pv (i + 1), ct := Pv (i + 1), bk := D.nx } σ2 H2) (hd : ∀ σ H, Pv xs.length σ H → D.nx σ H) :
    ∃ W : Nat → Nat → St → Hp → Prop, (∃ m, W 0 m σ H) ∧ ∀ i m σ H, W i m σ H →
      ((Itl K a).stop i H ∧ D.nx σ H) ∨ ((Itl K a).go i H ∧ ∃ N : St → Hp → Prop, (∀ σ' H', N σ' H' → ∃ m', m' < m ∧ W (i + 1) m' σ' H') ∧ ∀ x H', (Itl K a).yld i H x H' → g x σ H' fun σ2 H2 => tb { D with nx := N, ct := N, bk := D.nx } σ2 H2) := by
  refine ⟨fun i m σ H => m = xs.length - i ∧ i ≤ xs.length ∧ Pv i σ H, ⟨xs.length, by simp, Nat.zero_le _, h0⟩, ?_⟩
  rintro i m σ H ⟨rfl, hi, p⟩
  have q := hl i σ H hi p
  by_cases hlt : i < xs.length
  · refine .inr ⟨⟨xs, xs[i], q, by simp [hlt]⟩, Pv (i + 1), fun σ' H' p' => ⟨xs.length - (i + 1), by omega, rfl, hlt, p'⟩, fun x H' y => ?_⟩
    obtain ⟨e, y⟩ := y
    subst e
    exact hs i x σ _ (y xs q) p
  · have e : i = xs.length := by omega
    subst e
    exact .inl ⟨⟨xs, q, Nat.le_refl _⟩, hd σ H p⟩
theorem for_tup {K : PySem.W.Frag} {a : Addr} {xs : List V} {g : TG} {tb : TS} {D : Ends} {σ : St} {H : Hp} (Pv : Nat → St → Hp → Prop) (h0 : Pv 0 σ H) (hl : ∀ i σ H, i ≤ xs.length → Pv i σ H → SqT K H a xs)
    (hs : ∀ i x σ H, xs[i]? = some x → Pv i σ H → g x σ H fun σ2 H2 => tb { D with nx := Pv (i + 1), ct := Pv (i + 1), bk := D.nx } σ2 H2) (hd : ∀ σ H, Pv xs.length σ H → D.nx σ H) :
    ∃ W : Nat → Nat → St → Hp → Prop, (∃ m, W 0 m σ H) ∧ ∀ i m σ H, W i m σ H →
      ((Itt K a).stop i H ∧ D.nx σ H) ∨ ((Itt K a).go i H ∧ ∃ N : St → Hp → Prop, (∀ σ' H', N σ' H' → ∃ m', m' < m ∧ W (i + 1) m' σ' H') ∧ ∀ x H', (Itt K a).yld i H x H' → g x σ H' fun σ2 H2 => tb { D with nx := N, ct := N, bk := D.nx } σ2 H2) := by
  refine ⟨fun i m σ H => m = xs.length - i ∧ i ≤ xs.length ∧ Pv i σ H, ⟨xs.length, by simp, Nat.zero_le _, h0⟩, ?_⟩
  rintro i m σ H ⟨rfl, hi, p⟩
  have q := hl i σ H hi p
  by_cases hlt : i < xs.length
  · refine .inr ⟨⟨xs, xs[i], q, by simp [hlt]⟩, Pv (i + 1), fun σ' H' p' => ⟨xs.length - (i + 1), by omega, rfl, hlt, p'⟩, fun x H' y => ?_⟩
    obtain ⟨e, y⟩ := y
    subst e
    exact hs i x σ _ (y xs q) p
  · have e : i = xs.length := by omega
    subst e
    exact .inl ⟨⟨xs, q, Nat.le_refl _⟩, hd σ H p⟩
theorem for_range {lo : Int} {n : Nat} {g : TG} {tb : TS} {D : Ends} {σ : St} {H : Hp} (Pv : Nat → St → Hp → Prop) (h0 : Pv 0 σ H)
    (hs : ∀ i σ H, i < n → Pv i σ H → g (.int (lo + i)) σ H fun σ2 H2 => tb { D with nx := Pv (i + 1), ct := Pv (i + 1), bk := D.nx } σ2 H2) (hd : ∀ σ H, Pv n σ H → D.nx σ H) :
    ∃ W : Nat → Nat → St → Hp → Prop, (∃ m, W 0 m σ H) ∧ ∀ i m σ H, W i m σ H →
      ((Itr lo n).stop i H ∧ D.nx σ H) ∨ ((Itr lo n).go i H ∧ ∃ N : St → Hp → Prop, (∀ σ' H', N σ' H' → ∃ m', m' < m ∧ W (i + 1) m' σ' H') ∧ ∀ x H', (Itr lo n).yld i H x H' → g x σ H' fun σ2 H2 => tb { D with nx := N, ct := N, bk := D.nx } σ2 H2) := by
  refine ⟨fun i m σ H => m = n - i ∧ i ≤ n ∧ Pv i σ H, ⟨n, by simp, Nat.zero_le _, h0⟩, ?_⟩
  rintro i m σ H ⟨rfl, hi, p⟩
  by_cases hlt : i < n
  · refine .inr ⟨hlt, Pv (i + 1), fun σ' H' p' => ⟨n - (i + 1), by omega, rfl, hlt, p'⟩, fun x H' y => ?_⟩
    obtain ⟨e, y⟩ := y
    subst e y
    exact hs i σ _ hlt p
  · have e : i = n := by omega
    subst e
    exact .inl ⟨Nat.le_refl _, hd σ H p⟩
/-- while, by a word and a measure of the state -/
theorem while_by {c : TT} {tb : TS} {D : Ends} {σ : St} {H : Hp} (Pv : St → Hp → Prop) (μ : St → Hp → Nat) (h0 : Pv σ H)
    (hs : ∀ σ H, Pv σ H → c σ H fun b H1 => if b = true then tb { D with nx := fun σ' H' => Pv σ' H' ∧ μ σ' H' < μ σ H, ct := fun σ' H' => Pv σ' H' ∧ μ σ' H' < μ σ H, bk := D.nx } σ H1 else D.nx σ H1)
    (mono : ∀ σ H Q Q', (∀ b H1, Q b H1 → Q' b H1) → c σ H Q → c σ H Q') : tWhile c tb D σ H := by
  refine ⟨fun m σ H => m = μ σ H ∧ Pv σ H, ⟨_, rfl, h0⟩, ?_⟩
  rintro m σ H ⟨rfl, p⟩
  refine mono σ H _ _ (fun b H1 q => ?_) (hs σ H p)
  cases b with
  | true => exact ⟨_, fun σ' H' ⟨p', l⟩ => ⟨_, l, rfl, p'⟩, q⟩
  | false => exact q
end L2

namespace L2
open PySem PySem.Spec PyProof.Rows

abbrev R2 := V → V → Hp → VK → Prop
/-- a two-place operation on values: f is binaryOp op, inplaceOp op or compareOp op -/
def OpR (X : Cx) (f : Value → Value → Sem Value) (r : R2) : Prop :=
  ∀ (pins : List (Addr × Obj)) (s : Shared) (σ : St) (H : Hp) (x y : V) (v u : Value) (Q : VK), Inv X pins σ H s → RelV x v → RelV y u → r x y H Q →
    wpAny (model X.prog X.w) X.A (f v u) (EP X pins σ Q) X.xe s
/-- a one-place operation -/
def UnR (X : Cx) (f : Value → Sem Value) (r : V → Hp → VK → Prop) : Prop :=
  ∀ (pins : List (Addr × Obj)) (s : Shared) (σ : St) (H : Hp) (x : V) (v : Value) (Q : VK), Inv X pins σ H s → RelV x v → r x H Q →
    wpAny (model X.prog X.w) X.A (f v) (EP X pins σ Q) X.xe s
/-- a call of a value that is known (a builtin, a type) with values -/
def CallR (X : Cx) (f : Value) (r : List V → Hp → VK → Prop) : Prop :=
  ∀ (pins : List (Addr × Obj)) (s : Shared) (σ : St) (H : Hp) (xs : List V) (us : List Value) (Q : VK), Inv X pins σ H s → Vals xs us → r xs H Q →
    wpAny (model X.prog X.w) X.A (call f us) (EP X pins σ Q) X.xe s
/-- a value's truth -/
def TruR (X : Cx) (r : V → Hp → (Bool → Hp → Prop) → Prop) : Prop :=
  ∀ (pins : List (Addr × Obj)) (s : Shared) (σ : St) (H : Hp) (x : V) (v : Value) (Q : Bool → Hp → Prop), Inv X pins σ H s → RelV x v → r x H Q →
    wpAny (model X.prog X.w) X.A (truthy v) (TP X pins σ Q) X.xe s

def tOp (r : R2) (ta tb : TE) : TE := fun σ H Q => ta σ H fun x H1 => tb σ H1 fun y H2 => r x y H2 Q
def tUn (r : V → Hp → VK → Prop) (ta : TE) : TE := fun σ H Q => ta σ H fun x H1 => r x H1 Q
/-- ints in, under C, and a value out -/
def rI (C : Int → Int → Prop) (g : Int → Int → V) : R2 := fun x y H Q => ∃ i j, x = .int i ∧ y = .int j ∧ C i j ∧ Q (g i j) H
def rI0 (g : Int → Int → V) : R2 := fun x y H Q => ∃ i j, x = .int i ∧ y = .int j ∧ Q (g i j) H
def rU (g : Int → V) : V → Hp → VK → Prop := fun x H Q => ∃ i, x = .int i ∧ Q (g i) H

section
variable {X : Cx} {a b c : Expr} {ta tb tc : TE} {pos : Pos}

theorem binT (ha : PE X a ta) (hb : PE X b tb) {pins : List (Addr × Obj)} {s : Shared} {σ : St} {H : Hp} {R : V → V → Hp → Prop} (I : Inv X pins σ H s)
    (h : ta σ H fun x H1 => tb σ H1 fun y H2 => R x y H2) {Q : Value → Shared → Prop} {f : Value → Value → Sem Value}
    (hf : ∀ v u s2 x y H2, Inv X pins σ H2 s2 → RelV x v → RelV y u → R x y H2 → wpAny (model X.prog X.w) X.A (f v u) Q X.xe s2) :
    wpAny (model X.prog X.w) X.A (eval a X.env) (fun v s₁ => wpAny (model X.prog X.w) X.A (eval b X.env) (fun u s₂ => wpAny (model X.prog X.w) X.A (f v u) Q X.xe s₂) X.xe s₁) X.xe s := by
  refine thn (ha pins s σ H _ I h) fun v s1 ⟨x, H1, I1, r1, q1⟩ => ?_
  refine thn (hb pins s1 σ H1 _ I1 q1) fun u s2 ⟨y, H2, I2, r2, q2⟩ => ?_
  exact hf v u s2 x y H2 I2 r1 r2 q2

theorem pe_op {op : Operator} {r : R2} (ho : OpR X (binaryOp op) r) (ha : PE X a ta) (hb : PE X b tb) : PE X (.BinOp a op b pos) (tOp r ta tb) := by
  intro pins s σ H Q I h
  exact wpAny_BinOp (binT ha hb I h fun v u s2 x y H2 I2 rx ry q => ho pins s2 σ H2 x y v u Q I2 rx ry q)
theorem pe_un {op : UnaryOp} {r : V → Hp → VK → Prop} (ho : UnR X (unaryOp op) r) (ha : PE X a ta) : PE X (.UnaryOp op a pos) (tUn r ta) := by
  intro pins s σ H Q I h
  exact UnaryOp_ (thn (ha pins s σ H _ I h) fun v s1 ⟨x, H1, I1, r1, q1⟩ => ho pins s1 σ H1 x v Q I1 r1 q1)
/-- a op= e at a name: the name's slot i -/
theorem augR {op : Operator} {r : R2} (ho : OpR X (inplaceOp op) r) {pins : List (Addr × Obj)} {s : Shared} {σ : St} {H : Hp} {x y : V} {v u : Value} {Q : VK} (I : Inv X pins σ H s)
    (rx : RelV x v) (ry : RelV y u) (q : r x y H Q) : wpAny (model X.prog X.w) X.A (inplaceOp op v u) (EP X pins σ Q) X.xe s := ho pins s σ H x y v u Q I rx ry q

/-! ### ints -/
theorem opI {f : Value → Value → Sem Value} {C : Int → Int → Prop} {g : Int → Int → Int}
    (rule : ∀ (i j : Int) (t u : Tok) (s : Shared) (Q : Value → Shared → Prop) (E : Value → Shared → Prop), C i j → Q (.int (g i j) s.toks) { s with toks := s.toks + 1 } → wpAny (model X.prog X.w) X.A (f (.int i t) (.int j u)) Q E s) :
    OpR X f (rI C fun i j => .int (g i j)) := by
  intro pins s σ H x y v u Q I rx ry h
  obtain ⟨i, j, rfl, rfl, hc, q⟩ := h
  obtain ⟨t, rfl⟩ := rx
  obtain ⟨t', rfl⟩ := ry
  exact rule i j t t' s _ _ hc ⟨.int (g i j), H, I.tok _, ⟨_, rfl⟩, q⟩
theorem opI0 {f : Value → Value → Sem Value} {g : Int → Int → Int}
    (rule : ∀ (i j : Int) (t u : Tok) (s : Shared) (Q : Value → Shared → Prop) (E : Value → Shared → Prop), Q (.int (g i j) s.toks) { s with toks := s.toks + 1 } → wpAny (model X.prog X.w) X.A (f (.int i t) (.int j u)) Q E s) :
    OpR X f (rI0 fun i j => .int (g i j)) := by
  intro pins s σ H x y v u Q I rx ry h
  obtain ⟨i, j, rfl, rfl, q⟩ := h
  obtain ⟨t, rfl⟩ := rx
  obtain ⟨t', rfl⟩ := ry
  exact rule i j t t' s _ _ ⟨.int (g i j), H, I.tok _, ⟨_, rfl⟩, q⟩
theorem opB0 {f : Value → Value → Sem Value} {g : Int → Int → Bool}
    (rule : ∀ (i j : Int) (t u : Tok) (s : Shared) (Q : Value → Shared → Prop) (E : Value → Shared → Prop), Q (.bool (g i j)) s → wpAny (model X.prog X.w) X.A (f (.int i t) (.int j u)) Q E s) :
    OpR X f (rI0 fun i j => .bl (g i j)) := by
  intro pins s σ H x y v u Q I rx ry h
  obtain ⟨i, j, rfl, rfl, q⟩ := h
  obtain ⟨t, rfl⟩ := rx
  obtain ⟨t', rfl⟩ := ry
  exact rule i j t t' s _ _ ⟨.bl (g i j), H, I, rfl, q⟩

def CDiv (i j : Int) : Prop := 0 < j ∧ j < 1073741824
def CDivN (i j : Int) : Prop := j ≠ 0 ∧ j.natAbs < 1073741824
def CPow (i j : Int) : Prop := 0 ≤ j ∧ j ≤ 1000000 ∧ i.natAbs < 2 ^ 64
def CMul (i j : Int) : Prop := (-(2 ^ 64) < i ∧ i < 2 ^ 64) ∨ (-(2 ^ 64) < j ∧ j < 2 ^ 64)
theorem CMul.ok {i j : Int} (h : CMul i j) : IntMulOk i j := by
  rcases h with ⟨h1, h2⟩ | ⟨h1, h2⟩
  · exact .of_left (intBits_le_64 h1 h2)
  · exact .of_right (intBits_le_64 h1 h2)
theorem two_pow_nn (k : Nat) : (0 : Int) ≤ 2 ^ k := by
  rw [two_pow_cast]
  exact Int.natCast_nonneg _

theorem op_add : OpR X (binaryOp .Add) (rI0 fun i j => .int (i + j)) := opI0 fun _ _ _ _ _ _ _ q => add_int q
theorem op_sub : OpR X (binaryOp .Sub) (rI0 fun i j => .int (i - j)) := opI0 fun _ _ _ _ _ _ _ q => sub_int q
theorem op_mul : OpR X (binaryOp .Mult) (rI CMul fun i j => .int (i * j)) := opI fun _ _ _ _ _ _ _ hc q => mul_int q hc.ok
/-- // by a positive divisor -/
theorem op_fdiv : OpR X (binaryOp .FloorDiv) (rI CDiv fun i j => .int (i / j)) := opI fun i j _ _ _ _ _ hc q => by
  have h1 : (0 : Int) < j := hc.1
  have h2 : j < 1073741824 := hc.2
  exact floordiv_int (by omega) (by rw [Int.fdiv_eq_ediv_of_nonneg i (by omega)]; exact q) (.inl (PyProof.noPylong_small (by omega)))
theorem op_fdivN : OpR X (binaryOp .FloorDiv) (rI CDivN fun i j => .int (i.fdiv j)) := opI fun _ _ _ _ _ _ _ hc q => floordiv_int hc.1 q (.inl (PyProof.noPylong_small hc.2))
/-- % by a positive divisor of any size -/
theorem op_mod : OpR X (binaryOp .Mod) (rI (fun _ j => 0 < j) fun i j => .int (i % j)) := opI fun i j _ _ _ _ _ hc q => by
  have h1 : (0 : Int) < j := hc
  exact mod_int' (by omega) (by rw [Int.fmod_eq_emod_of_nonneg i (by omega)]; exact q)
theorem op_modN : OpR X (binaryOp .Mod) (rI (fun _ j => j ≠ 0) fun i j => .int (i.fmod j)) := opI fun _ _ _ _ _ _ _ hc q => mod_int' hc q
theorem op_pow : OpR X (binaryOp .Pow) (rI CPow fun i j => .int (i ^ j.toNat)) := opI fun _ _ _ _ _ _ _ hc q => pow_int_small hc.1 hc.2.1 hc.2.2 q
theorem op_shl : OpR X (binaryOp .LShift) (rI CPow fun i j => .int (i * 2 ^ j.toNat)) := opI fun _ _ _ _ _ _ _ hc q => lshift_int_small hc.1 hc.2.1 hc.2.2 q
theorem op_shr : OpR X (binaryOp .RShift) (rI (fun _ j => 0 ≤ j) fun i j => .int (i / 2 ^ j.toNat)) := opI fun i j _ _ _ _ _ hc q =>
  rshift_int hc (by rw [Int.fdiv_eq_ediv_of_nonneg i (two_pow_nn _)]; exact q)
theorem op_and : OpR X (binaryOp .BitAnd) (rI0 fun i j => .int (Builtin.bitAnd i j)) := opI0 fun _ _ _ _ _ _ _ q => and_int q
theorem op_or : OpR X (binaryOp .BitOr) (rI0 fun i j => .int (Builtin.bitOr i j)) := opI0 fun _ _ _ _ _ _ _ q => or_int q
theorem op_xor : OpR X (binaryOp .BitXor) (rI0 fun i j => .int (Builtin.bitXor i j)) := opI0 fun _ _ _ _ _ _ _ q => xor_int q

theorem iop_add : OpR X (inplaceOp .Add) (rI0 fun i j => .int (i + j)) := opI0 fun _ _ _ _ _ _ _ q => iadd_int q
theorem iop_sub : OpR X (inplaceOp .Sub) (rI0 fun i j => .int (i - j)) := opI0 fun _ _ _ _ _ _ _ q => isub_int q
theorem iop_mul : OpR X (inplaceOp .Mult) (rI CMul fun i j => .int (i * j)) := opI fun _ _ _ _ _ _ _ hc q => imul_int q hc.ok
theorem iop_fdiv : OpR X (inplaceOp .FloorDiv) (rI CDiv fun i j => .int (i / j)) := opI fun i j _ _ _ _ _ hc q => by
  have h1 : (0 : Int) < j := hc.1
  have h2 : j < 1073741824 := hc.2
  exact ifloordiv_int (by omega) (by rw [Int.fdiv_eq_ediv_of_nonneg i (by omega)]; exact q) (.inl (PyProof.noPylong_small (by omega)))
theorem iop_mod : OpR X (inplaceOp .Mod) (rI (fun _ j => 0 < j) fun i j => .int (i % j)) := opI fun i j _ _ _ _ _ hc q => by
  have h1 : (0 : Int) < j := hc
  exact imod_int (by omega) (by rw [Int.fmod_eq_emod_of_nonneg i (by omega)]; exact q)
theorem iop_shl : OpR X (inplaceOp .LShift) (rI CPow fun i j => .int (i * 2 ^ j.toNat)) := opI fun _ _ _ _ _ _ _ hc q => ilshift_int_small hc.1 hc.2.1 hc.2.2 q
theorem iop_shr : OpR X (inplaceOp .RShift) (rI (fun _ j => 0 ≤ j) fun i j => .int (i / 2 ^ j.toNat)) := opI fun i j _ _ _ _ _ hc q =>
  irshift_int hc (by rw [Int.fdiv_eq_ediv_of_nonneg i (two_pow_nn _)]; exact q)
theorem iop_and : OpR X (inplaceOp .BitAnd) (rI0 fun i j => .int (Builtin.bitAnd i j)) := opI0 fun _ _ _ _ _ _ _ q => iand_int q
theorem iop_or : OpR X (inplaceOp .BitOr) (rI0 fun i j => .int (Builtin.bitOr i j)) := opI0 fun _ _ _ _ _ _ _ q => ior_int q
theorem iop_xor : OpR X (inplaceOp .BitXor) (rI0 fun i j => .int (Builtin.bitXor i j)) := opI0 fun _ _ _ _ _ _ _ q => ixor_int q

theorem unI {f : Value → Sem Value} {g : Int → Int}
    (rule : ∀ (i : Int) (t : Tok) (s : Shared) (Q : Value → Shared → Prop) (E : Value → Shared → Prop), Q (.int (g i) s.toks) { s with toks := s.toks + 1 } → wpAny (model X.prog X.w) X.A (f (.int i t)) Q E s) :
    UnR X f (rU fun i => .int (g i)) := by
  intro pins s σ H x v Q I rx h
  obtain ⟨i, rfl, q⟩ := h
  obtain ⟨t, rfl⟩ := rx
  exact rule i t s _ _ ⟨.int (g i), H, I.tok _, ⟨_, rfl⟩, q⟩
theorem un_neg : UnR X (unaryOp .USub) (rU fun i => .int (-i)) := unI fun _ _ _ _ _ q => neg_int q
theorem un_inv : UnR X (unaryOp .Invert) (rU fun i => .int (Builtin.bitNot i)) := unI fun _ _ _ _ _ q => invert_int q

/-! ### bools among ints: n += (a < b) -/
theorem op_add_ib : OpR X (binaryOp .Add) (fun x y H Q => ∃ i k, x = .int i ∧ y = .bl k ∧ Q (.int (i + b2i k)) H) := by
  intro pins s σ H x y v u Q I rx ry h
  obtain ⟨i, k, rfl, rfl, q⟩ := h
  obtain ⟨t, rfl⟩ := rx
  cases ry
  exact add_int_bool ⟨.int (i + b2i k), H, I.tok _, ⟨_, rfl⟩, q⟩
end

/-! ### comparisons -/
/-- the scalars that == tells apart as data does -/
def scal : V → V → Bool
  | .non, .non => true | .non, .int _ => true | .int _, .non => true | .non, .bl _ => true | .bl _, .non => true | .non, .str _ => true | .str _, .non => true
  | .int _, .int _ => true | .bl _, .bl _ => true | .str _, .str _ => true | .byt _, .byt _ => true
  | .int _, .str _ => true | .str _, .int _ => true | .bl _, .str _ => true | .str _, .bl _ => true
  | _, _ => false
def rEq : R2 := fun x y H Q => scal x y = true ∧ Q (.bl (decide (x = y))) H
def rNe : R2 := fun x y H Q => scal x y = true ∧ Q (.bl (!decide (x = y))) H

theorem dec_int {i j : Int} : decide (V.int i = V.int j) = (i == j) := by
  rw [Bool.eq_iff_iff]
  simp
theorem dec_bl {i j : Bool} : decide (V.bl i = V.bl j) = (i == j) := by
  rw [Bool.eq_iff_iff]
  simp
theorem dec_str {i j : Str} : decide (V.str i = V.str j) = (i == j) := by
  rw [Bool.eq_iff_iff]
  simp
theorem dec_byt {i j : Array UInt8} : decide (V.byt i = V.byt j) = (i.toList == j.toList) := by
  rw [Bool.eq_iff_iff]
  cases i
  cases j
  simp

section
variable {X : Cx} {a b c : Expr} {ta tb tc : TE} {pos : Pos}
theorem fin_bl {pins : List (Addr × Obj)} {σ : St} {H : Hp} {s : Shared} {Q : VK} {k k' : Bool} (I : Inv X pins σ H s) (q : Q (.bl k) H) (e : k = k') : EP X pins σ Q (.bool k') s := by
  subst e
  exact ⟨.bl k, H, I, rfl, q⟩
theorem op_eq : OpR X (compareOp .Eq) rEq := by
  intro pins s σ H x y v u Q I rx ry h
  obtain ⟨hs, q⟩ := h
  cases x with
  | non =>
    cases rx
    cases y with
    | non => cases ry; exact PySem.EqNone.eq_none_none (fin_bl I q (by simp))
    | bl j => cases ry; exact PySem.EqNone.eq_none_bool (fin_bl I q (by simp))
    | int j => obtain ⟨t', rfl⟩ := ry; exact PySem.EqNone.eq_none_int (fin_bl I q (by simp))
    | str j => obtain ⟨t', rfl⟩ := ry; exact PySem.EqNone.eq_none_str (fin_bl I q (by simp))
    | _ => exact absurd (show false = true from hs) Bool.false_ne_true
  | bl i =>
    cases rx
    cases y with
    | non => cases ry; exact PySem.EqNone.eq_bool_none (fin_bl I q (by simp))
    | bl j => cases ry; exact eq_bool (fin_bl I q dec_bl)
    | str j => obtain ⟨t', rfl⟩ := ry; exact PySem.EqMixed.eq_bool_str (fin_bl I q (by simp))
    | _ => exact absurd (show false = true from hs) Bool.false_ne_true
  | int i =>
    obtain ⟨t, rfl⟩ := rx
    cases y with
    | non => cases ry; exact PySem.EqNone.eq_int_none (fin_bl I q (by simp))
    | int j => obtain ⟨t', rfl⟩ := ry; exact eq_int (fin_bl I q dec_int)
    | str j => obtain ⟨t', rfl⟩ := ry; exact PySem.EqMixed.eq_int_str (fin_bl I q (by simp))
    | _ => exact absurd (show false = true from hs) Bool.false_ne_true
  | str i =>
    obtain ⟨t, rfl⟩ := rx
    cases y with
    | non => cases ry; exact PySem.EqNone.eq_str_none (fin_bl I q (by simp))
    | bl j => cases ry; exact PySem.EqMixed.eq_str_bool (fin_bl I q (by simp))
    | int j => obtain ⟨t', rfl⟩ := ry; exact PySem.EqMixed.eq_str_int (fin_bl I q (by simp))
    | str j => obtain ⟨t', rfl⟩ := ry; exact eq_str (fin_bl I q dec_str)
    | _ => exact absurd (show false = true from hs) Bool.false_ne_true
  | byt i =>
    obtain ⟨t, rfl⟩ := rx
    cases y with
    | byt j => obtain ⟨t', rfl⟩ := ry; exact PySem.W.eq_bytes (fin_bl I q dec_byt)
    | _ => exact absurd (show false = true from hs) Bool.false_ne_true
  | _ => cases y <;> exact absurd (show false = true from hs) Bool.false_ne_true
theorem op_ne : OpR X (compareOp .NotEq) rNe := by
  intro pins s σ H x y v u Q I rx ry h
  obtain ⟨hs, q⟩ := h
  cases x with
  | non =>
    cases rx
    cases y with
    | non => cases ry; exact PySem.EqNone.ne_none_none (fin_bl I q (by simp))
    | bl j => cases ry; exact PySem.EqNone.ne_none_bool (fin_bl I q (by simp))
    | int j => obtain ⟨t', rfl⟩ := ry; exact PySem.EqNone.ne_none_int (fin_bl I q (by simp))
    | str j => obtain ⟨t', rfl⟩ := ry; exact PySem.EqNone.ne_none_str (fin_bl I q (by simp))
    | _ => exact absurd (show false = true from hs) Bool.false_ne_true
  | bl i =>
    cases rx
    cases y with
    | non => cases ry; exact PySem.EqNone.ne_bool_none (fin_bl I q (by simp))
    | bl j => cases ry; exact ne_bool (fin_bl I q (congrArg not dec_bl))
    | str j => obtain ⟨t', rfl⟩ := ry; exact PySem.EqMixed.ne_bool_str (fin_bl I q (by simp))
    | _ => exact absurd (show false = true from hs) Bool.false_ne_true
  | int i =>
    obtain ⟨t, rfl⟩ := rx
    cases y with
    | non => cases ry; exact PySem.EqNone.ne_int_none (fin_bl I q (by simp))
    | int j => obtain ⟨t', rfl⟩ := ry; exact ne_int (fin_bl I q (congrArg not dec_int))
    | str j => obtain ⟨t', rfl⟩ := ry; exact PySem.EqMixed.ne_int_str (fin_bl I q (by simp))
    | _ => exact absurd (show false = true from hs) Bool.false_ne_true
  | str i =>
    obtain ⟨t, rfl⟩ := rx
    cases y with
    | non => cases ry; exact PySem.EqNone.ne_str_none (fin_bl I q (by simp))
    | bl j => cases ry; exact PySem.EqMixed.ne_str_bool (fin_bl I q (by simp))
    | int j => obtain ⟨t', rfl⟩ := ry; exact PySem.EqMixed.ne_str_int (fin_bl I q (by simp))
    | str j => obtain ⟨t', rfl⟩ := ry; exact ne_str (fin_bl I q (congrArg not dec_str))
    | _ => exact absurd (show false = true from hs) Bool.false_ne_true
  | byt i =>
    obtain ⟨t, rfl⟩ := rx
    cases y with
    | byt j => obtain ⟨t', rfl⟩ := ry; exact PySem.W.ne_bytes (fin_bl I q (congrArg not dec_byt))
    | _ => exact absurd (show false = true from hs) Bool.false_ne_true
  | _ => cases y <;> exact absurd (show false = true from hs) Bool.false_ne_true

theorem op_lt : OpR X (compareOp .Lt) (rI0 fun i j => .bl (decide (i < j))) := opB0 fun _ _ _ _ _ _ _ q => lt_int q
theorem op_le : OpR X (compareOp .LtE) (rI0 fun i j => .bl (decide (i ≤ j))) := opB0 fun _ _ _ _ _ _ _ q => le_int q
theorem op_gt : OpR X (compareOp .Gt) (rI0 fun i j => .bl (decide (j < i))) := opB0 fun _ _ _ _ _ _ _ q => gt_int q
theorem op_ge : OpR X (compareOp .GtE) (rI0 fun i j => .bl (decide (j ≤ i))) := opB0 fun _ _ _ _ _ _ _ q => ge_int q
theorem op_lt_str : OpR X (compareOp .Lt) (fun x y H Q => ∃ i j, x = .str i ∧ y = .str j ∧ Q (.bl (decide (i.cps.toList < j.cps.toList))) H) := by
  intro pins s σ H x y v u Q I rx ry h
  obtain ⟨i, j, rfl, rfl, q⟩ := h
  obtain ⟨t, rfl⟩ := rx
  obtain ⟨t', rfl⟩ := ry
  exact lt_str (fin_bl I q rfl)
/-- the one string within the other -/
theorem op_in_str : OpR X (compareOp .In) (fun x y H Q => ∃ i j, x = .str i ∧ y = .str j ∧ Q (.bl (!(Builtin.Str.occurrences j i 0 j.length 1).isEmpty)) H) := by
  intro pins s σ H x y v u Q I rx ry h
  obtain ⟨i, j, rfl, rfl, q⟩ := h
  obtain ⟨t, rfl⟩ := rx
  obtain ⟨t', rfl⟩ := ry
  exact in_str (fin_bl I q rfl)

/-- is None, is not None: the right side a value none -/
theorem op_isN : OpR X (compareOp .Is) (fun x y H Q => y = .non ∧ Q (.bl (decide (x = .non))) H) := by
  intro pins s σ H x y v u Q I rx ry h
  obtain ⟨rfl, q⟩ := h
  cases ry
  refine is_none_gen (fin_bl I q ?_)
  cases x <;> first
    | (cases rx; rfl)
    | (obtain ⟨t, rfl⟩ := rx; rfl)
theorem op_notN : OpR X (compareOp .IsNot) (fun x y H Q => y = .non ∧ Q (.bl (!decide (x = .non))) H) := by
  intro pins s σ H x y v u Q I rx ry h
  obtain ⟨rfl, q⟩ := h
  cases ry
  refine isnot_none_gen (fin_bl I q ?_)
  cases x <;> first
    | (cases rx; rfl)
    | (obtain ⟨t, rfl⟩ := rx; rfl)

theorem op_notin_str : OpR X (compareOp .NotIn) (fun x y H Q => ∃ i j, x = .str i ∧ y = .str j ∧ Q (.bl (!(!(Builtin.Str.occurrences j i 0 j.length 1).isEmpty))) H) := by
  intro pins s σ H x y v u Q I rx ry h
  obtain ⟨i, j, rfl, rfl, q⟩ := h
  obtain ⟨t, rfl⟩ := rx
  obtain ⟨t', rfl⟩ := ry
  exact notIn_str (fin_bl I q rfl)
/-- is, is not of two objects that are tracked lists or instances -/
def isObj : HO → Bool
  | .lst _ => true
  | .ins _ _ _ => true
  | _ => false
theorem obj_there {pins : List (Addr × Obj)} {s : Shared} {σ : St} {H : Hp} {a : Addr} {o : HO} (I : Inv X pins σ H s) (h : H a = some o) (p : isObj o = true) : ∃ ob, s.heap.get? a = some ob ∧ ob.cls ≠ .type "tuple" := by
  cases o with
  | lst xs =>
    obtain ⟨_, its, n, _, e⟩ : xs.length ≤ sizeLine ∧ ∃ (its : List Value) (n : Nat), Vals xs its ∧ s.heap.get? a = some { cls := .type "list", data := .seq its.toArray n } := I.hok a _ h
    exact ⟨_, e, (by show Value.type "list" ≠ .type "tuple"; decide +kernel)⟩
  | ins C dx fs =>
    have x := I.hok a _ h
    obtain ⟨_, _, _, e, _⟩ := x
    exact ⟨_, e, (by show Value.ref C ≠ .type "tuple"; exact fun z => by cases z)⟩
  | _ => exact absurd (show false = true from p) Bool.false_ne_true
theorem op_is_ref : OpR X (compareOp .Is) (fun x y H Q => ∃ a b oa ob, x = .ref a ∧ y = .ref b ∧ H a = some oa ∧ isObj oa = true ∧ H b = some ob ∧ isObj ob = true ∧ Q (.bl (decide (a = b))) H) := by
  intro pins s σ H x y v u Q I rx ry h
  obtain ⟨a, b, oa, ob, rfl, rfl, ha, pa, hb, pb, q⟩ := h
  cases rx
  cases ry
  obtain ⟨o1, e1, n1⟩ := obj_there I ha pa
  obtain ⟨o2, e2, _⟩ := obj_there I hb pb
  by_cases z : a = b
  · subst z
    exact wpAny_is_ref_self (fin_bl I q (by simp))
  · exact wpAny_is_ref_other z e1 e2 n1 (fin_bl I q (by simp [z]))
theorem op_isnot_ref : OpR X (compareOp .IsNot) (fun x y H Q => ∃ a b oa ob, x = .ref a ∧ y = .ref b ∧ H a = some oa ∧ isObj oa = true ∧ H b = some ob ∧ isObj ob = true ∧ Q (.bl (!decide (a = b))) H) := by
  intro pins s σ H x y v u Q I rx ry h
  obtain ⟨a, b, oa, ob, rfl, rfl, ha, pa, hb, pb, q⟩ := h
  cases rx
  cases ry
  obtain ⟨o1, e1, n1⟩ := obj_there I ha pa
  obtain ⟨o2, e2, _⟩ := obj_there I hb pb
  by_cases z : a = b
  · subst z
    exact wpAny_isNot_ref_self (fin_bl I q (by simp))
  · exact wpAny_isNot_ref_other z e1 e2 n1 (fin_bl I q (by simp [z]))

/-- two rules for one operation: by cases -/
theorem OpR.or {f : Value → Value → Sem Value} {r r' : R2} (h : OpR X f r) (h' : OpR X f r') : OpR X f (fun x y H Q => r x y H Q ∨ r' x y H Q) := by
  intro pins s σ H x y v u Q I rx ry q
  rcases q with q | q
  · exact h pins s σ H x y v u Q I rx ry q
  · exact h' pins s σ H x y v u Q I rx ry q

theorem nomark (b : Expr) {op : CmpOp} (h : op ≠ .In := by decide) (h2 : op ≠ .NotIn := by decide) : behindInMarks op b = false := by
  have e1 : (op == CmpOp.In) = false := by cases op <;> first | rfl | exact absurd rfl h
  have e2 : (op == CmpOp.NotIn) = false := by cases op <;> first | rfl | exact absurd rfl h2
  cases b <;> simp [behindInMarks, e1, e2]
/-- a comparison as a value; hm: nomark b, or (for in, not in) by with_unfolding_all rfl -/
theorem pe_cmpR {op : CmpOp} {r : R2} (ho : OpR X (compareOp op) r) (ha : PE X a ta) (hb : PE X b tb) (hm : behindInMarks op b = false) : PE X (.Compare a [op] [b] pos) (tOp r ta tb) := by
  intro pins s σ H Q I h
  exact wpAny_Compare1 (binT ha hb I h fun v u s2 x y H2 I2 rx ry q => ho pins s2 σ H2 x y v u Q I2 rx ry q) hm
/-- a reading of a value as a test -/
def tTest (t : TE) : TT := fun σ H Q => t σ H fun x H' => ∃ k, x = .bl k ∧ Q k H'
theorem pt_cmpR {op : CmpOp} {r : R2} (ho : OpR X (compareOp op) r) (ha : PE X a ta) (hb : PE X b tb) (hm : behindInMarks op b = false) : PT X (.Compare a [op] [b] pos) (tTest (tOp r ta tb)) := by
  intro pins s σ H Q I h
  refine wpAny_isTrue_Compare1 (thn (ha pins s σ H _ I h) fun v s1 ⟨x, H1, I1, r1, q1⟩ => thn (hb pins s1 σ H1 _ I1 q1) fun u s2 ⟨y, H2, I2, r2, q2⟩ =>
    thn (ho pins s2 σ H2 x y v u _ I2 r1 r2 q2) fun c s3 ⟨z, H3, I3, r3, k, e, q3⟩ => ?_) hm
  subst e
  cases r3
  exact wpAny_truthy_bool ⟨H3, I3, q3⟩
/-- a op1 b op2 c -/
def tChain (r r' : R2) (ta tb tc : TE) : TE := fun σ H Q => ta σ H fun x H1 => tb σ H1 fun y H2 => r x y H2 fun z H3 => ∃ k, z = .bl k ∧
  (if k = true then tc σ H3 fun w' H4 => r' y w' H4 Q else Q (.bl false) H3)
theorem pe_chain {op op' : CmpOp} {r r' : R2} (ho : OpR X (compareOp op) r) (ho' : OpR X (compareOp op') r') (ha : PE X a ta) (hb : PE X b tb) (hc : PE X c tc)
    (hm : lastMarks [op, op'] [b, c] = false := by with_unfolding_all rfl) : PE X (.Compare a [op, op'] [b, c] pos) (tChain r r' ta tb tc) := by
  intro pins s σ H Q I h
  refine Compare_chain (thn (ha pins s σ H _ I h) fun v s1 ⟨x, H1, I1, r1, q1⟩ => chain_link (thn (hb pins s1 σ H1 _ I1 q1) fun u s2 ⟨y, H2, I2, r2, q2⟩ =>
    thn (ho pins s2 σ H2 x y v u _ I2 r1 r2 q2) fun d s3 ⟨z, H3, I3, r3, k, e, q3⟩ => ?_)) hm
  subst e
  cases r3
  refine wpAny_truthy_bool ?_
  cases k with
  | false => exact ite_ff ⟨.bl false, H3, I3, rfl, q3⟩
  | true => exact ite_tt (chain_last (thn (hc pins s3 σ H3 _ I3 q3) fun w' s4 ⟨z', H4, I4, r4, q4⟩ => ho' pins s4 σ H4 y z' u w' Q I4 r2 r4 q4))
theorem pt_chain {op op' : CmpOp} {r r' : R2} (ho : OpR X (compareOp op) r) (ho' : OpR X (compareOp op') r') (ha : PE X a ta) (hb : PE X b tb) (hc : PE X c tc)
    (hm : lastMarks [op, op'] [b, c] = false := by with_unfolding_all rfl) : PT X (.Compare a [op, op'] [b, c] pos) (tTest (tChain r r' ta tb tc)) := by
  intro pins s σ H Q I h
  refine isTrue_chain (thn (ha pins s σ H _ I h) fun v s1 ⟨x, H1, I1, r1, q1⟩ => test_link (thn (hb pins s1 σ H1 _ I1 q1) fun u s2 ⟨y, H2, I2, r2, q2⟩ =>
    thn (ho pins s2 σ H2 x y v u _ I2 r1 r2 q2) fun d s3 ⟨z, H3, I3, r3, k, e, q3⟩ => ?_)) hm
  subst e
  cases r3
  refine wpAny_truthy_bool ?_
  cases k with
  | false =>
    obtain ⟨k', e', q'⟩ := q3
    cases e'
    exact ite_ff ⟨H3, I3, q'⟩
  | true =>
    refine ite_tt (test_last (thn (hc pins s3 σ H3 _ I3 q3) fun w' s4 ⟨z', H4, I4, r4, q4⟩ => thn (ho' pins s4 σ H4 y z' u w' _ I4 r2 r4 q4) fun d' s5 ⟨z2, H5, I5, r5, k2, e2, q5⟩ => ?_))
    subst e2
    cases r5
    exact wpAny_truthy_bool ⟨H5, I5, q5⟩

/-! ### truth -/
/-- a value's truth by the abstract heap -/
def TruV (K : PySem.W.Frag) (x : V) (H : Hp) (k : Bool) : Prop :=
  match x with
  | .non => k = false
  | .bl b => k = b
  | .int i => k = (i != 0)
  | .str y => y.length ≤ sizeLine ∧ k = ((y.length : Int) != 0)
  | .byt y => y.size ≤ sizeLine ∧ k = ((y.size : Int) != 0)
  | .ref p => (∃ xs, SqL K H p xs ∧ k = !xs.isEmpty) ∨ (∃ xs, SqT K H p xs ∧ k = !xs.isEmpty) ∨ ∃ kvs, H p = some (.dK kvs) ∧ k = !kvs.isEmpty
  | _ => False
theorem isEmpty_kv {κ : Type} {kvs : List (κ × V)} {vs : List (κ × Value)} (r : KV kvs vs) : (!vs.isEmpty) = !kvs.isEmpty := by
  cases r <;> rfl
theorem isEmpty_of {xs : List V} {its : List Value} (r : Vals xs its) : (!its.toArray.isEmpty) = !xs.isEmpty := by
  cases r <;> simp
theorem line63 : (sizeLine : Nat) < 2 ^ 63 := by rw [sizeLine_eq]; decide
theorem tru_ok : TruR X (fun x H Q => ∃ k, TruV X.K x H k ∧ Q k H) := by
  intro pins s σ H x v Q I rx h
  obtain ⟨k, e, q⟩ := h
  have hl := line63
  have hs : sizeLine = 16777216 := sizeLine_eq
  cases x with
  | non =>
    cases rx
    have e' : k = false := e
    subst e'
    exact truthy_none ⟨H, I, q⟩
  | bl b =>
    cases rx
    have e' : k = b := e
    subst e'
    exact wpAny_truthy_bool ⟨H, I, q⟩
  | int i =>
    obtain ⟨t, rfl⟩ := rx
    have e' : k = (i != 0) := e
    subst e'
    exact PySem.P.truthy_int ⟨H, I, q⟩
  | str y =>
    obtain ⟨t, rfl⟩ := rx
    obtain ⟨hy, e'⟩ : y.length ≤ sizeLine ∧ k = ((y.length : Int) != 0) := e
    subst e'
    exact PySem.P.truthy_str (by omega) ⟨H, I.tok _, q⟩
  | byt y =>
    obtain ⟨t, rfl⟩ := rx
    obtain ⟨hy, e'⟩ : y.size ≤ sizeLine ∧ k = ((y.size : Int) != 0) := e
    subst e'
    exact PySem.W.truthy_bytes (by omega) ⟨H, I.tok _, q⟩
  | ref p =>
    cases rx
    have e' : (∃ xs, SqL X.K H p xs ∧ k = !xs.isEmpty) ∨ (∃ xs, SqT X.K H p xs ∧ k = !xs.isEmpty) ∨ ∃ kvs, H p = some (.dK kvs) ∧ k = !kvs.isEmpty := e
    rcases e' with ⟨xs, hx, e'⟩ | ⟨xs, hx, e'⟩ | ⟨kvs, hx, e'⟩
    · subst e'
      obtain ⟨its, r, pl, hz⟩ := I.list hx
      have hlen := r.length
      exact wpAny_truthy_list pl.isList (by simp only [List.size_toArray]; omega) ⟨H, I.tok _, by rw [isEmpty_of r]; exact q⟩
    · subst e'
      obtain ⟨its, r, pl, hz⟩ := I.tuple hx
      have hlen := r.length
      exact truthy_tuple pl (by simp only [List.size_toArray]; omega) ⟨H, I.tok _, by rw [isEmpty_of r]; exact q⟩
    · subst e'
      obtain ⟨hz, hS, vs, r, m⟩ : kvs.length ≤ sizeLine ∧ (p == sysModules) = false ∧ ∃ vs, KV kvs vs ∧ s.heap.DictOf (mixKind X.prog X.w) p vs := I.hok p _ hx
      have hlen : kvs.length = vs.length := Paired.length r
      exact wpAny_truthy_dict hS m (by omega) ⟨H, I.tok _, by rw [isEmpty_kv r]; exact q⟩
  | _ => exact (show False from e).elim
/-- any expression whose test is its value's truth (a name, a call, a subscript, a field ..: he by fun _ => rfl) -/
theorem pt_truth (ha : PE X a ta) (he : ∀ whole, isTrue a X.env whole = (do let v ← whole; standAt a.pos; holding [v] (truthy v))) :
    PT X a (fun σ H Q => ta σ H fun x H' => ∃ k, TruV X.K x H' k ∧ Q k H') := by
  intro pins s σ H Q I h
  exact isTrue_plain (thn (ha pins s σ H _ I h) fun v s1 ⟨x, H1, I1, r1, q1⟩ => tru_ok pins s1 σ H1 x v Q I1 r1 q1) (he _)

/-! ### strs and bytes -/
theorem pe_byt {x : List UInt8} {k : Nat} : PE X (.Constant (.bytes x) k pos) (fun _ H Q => Q (.byt x.toArray) H) := fun _ _ _ H _ I h => PySem.W.Constant_bytes ⟨.byt x.toArray, H, I.tok _, ⟨_, rfl⟩, h⟩
theorem op_add_str : OpR X (binaryOp .Add) (fun x y H Q => ∃ i j, x = .str i ∧ y = .str j ∧ i.length + j.length ≤ sizeLine ∧ Q (.str (i ++ j)) H) := by
  intro pins s σ H x y v u Q I rx ry h
  obtain ⟨i, j, rfl, rfl, hz, q⟩ := h
  obtain ⟨t, rfl⟩ := rx
  obtain ⟨t', rfl⟩ := ry
  exact add_str (fun t' tk => ⟨.str (i ++ j), H, I.tok _, ⟨_, rfl⟩, q⟩) hz
theorem iop_add_str : OpR X (inplaceOp .Add) (fun x y H Q => ∃ i j, x = .str i ∧ y = .str j ∧ i.length + j.length ≤ sizeLine ∧ Q (.str (i ++ j)) H) := by
  intro pins s σ H x y v u Q I rx ry h
  obtain ⟨i, j, rfl, rfl, hz, q⟩ := h
  obtain ⟨t, rfl⟩ := rx
  obtain ⟨t', rfl⟩ := ry
  exact iadd_str (fun t' tk => ⟨.str (i ++ j), H, I.tok _, ⟨_, rfl⟩, q⟩) hz
theorem op_add_byt : OpR X (binaryOp .Add) (fun x y H Q => ∃ i j, x = .byt i ∧ y = .byt j ∧ i.size + j.size ≤ 16777216 ∧ Q (.byt (i ++ j)) H) := by
  intro pins s σ H x y v u Q I rx ry h
  obtain ⟨i, j, rfl, rfl, hz, q⟩ := h
  obtain ⟨t, rfl⟩ := rx
  obtain ⟨t', rfl⟩ := ry
  exact PySem.W.KBy.add_bytes hz (fun t' tk => ⟨.byt (i ++ j), H, I.tok _, ⟨_, rfl⟩, q⟩)

def PlainIxT (b : Expr) : Prop := ∀ o i, subscripted b false o i = operate [o, i] (getItem o i)
/-- s[i], 0 ≤ i < len -/
theorem pe_item_str (ha : PE X a ta) (hb : PE X b tb) (hs : PlainIxT b) :
    PE X (.Subscript a b pos) (tOp (fun x y H Q => ∃ z i c, x = .str z ∧ y = .int i ∧ 0 ≤ i ∧ i < 2 ^ 63 ∧ i < z.length ∧ z.cps[i.toNat]? = some c ∧ Q (.str ⟨#[c]⟩) H) ta tb) := by
  intro pins s σ H Q I h
  refine Subscript_ (binT ha hb I h fun v u s2 x y H2 I2 rx ry q => ?_)
  obtain ⟨z, i, c, rfl, rfl, h0, h63, h1, hc, q⟩ := q
  obtain ⟨t, rfl⟩ := rx
  obtain ⟨t', rfl⟩ := ry
  have e : seqIndex? i z.length = some i.toNat := PySem.StrLaws.seqIndex_nonneg h0 h1
  exact tail_any (typeIs_str s2 z t) slot_str_getitem.lookup (getItem_str (c := c) (by
    have e1 : decide (i < -(2 ^ 63 : Int)) = false := decide_eq_false (by omega)
    have e2 : decide (i ≥ 2 ^ 63) = false := decide_eq_false (by omega)
    rw [e1, e2] <;> rfl) (by rw [e]; exact hc) ⟨.str ⟨#[c]⟩, H2, I2.tok _, ⟨_, rfl⟩, q⟩) (hs _ _)
/-- b[i], 0 ≤ i < len -/
theorem pe_item_byt (ha : PE X a ta) (hb : PE X b tb) (hs : PlainIxT b) :
    PE X (.Subscript a b pos) (tOp (fun x y H Q => ∃ (z : List UInt8) (i : Int), x = .byt z.toArray ∧ y = .int i ∧ z.length ≤ sizeLine ∧ 0 ≤ i ∧ i < z.length ∧ Q (.int ((z.getD i.toNat 0).toNat : Nat)) H) ta tb) := by
  intro pins s σ H Q I h
  refine Subscript_ (binT ha hb I h fun v u s2 x y H2 I2 rx ry q => ?_)
  obtain ⟨z, i, rfl, rfl, hz, h0, h1, q⟩ := q
  obtain ⟨t, rfl⟩ := rx
  obtain ⟨t', rfl⟩ := ry
  have hl : sizeLine = 16777216 := sizeLine_eq
  exact tail_any (PySem.W.typeIs_bytes s2 z.toArray t) PySem.W.FB.slot_bytes_getitem.lookup (PySem.W.getItem_bytes (by omega) h0 h1 ⟨.int ((z.getD i.toNat 0).toNat : Nat), H2, I2.tok _, ⟨_, rfl⟩, q⟩) (hs _ _)

/-! ### scalar builtins, by CallR -/
theorem vals1 {x : V} {us : List Value} (r : Vals [x] us) : ∃ u, us = [u] ∧ RelV x u := by
  cases r with
  | cons r1 r2 => cases r2; exact ⟨_, rfl, r1⟩
theorem vals2 {x y : V} {us : List Value} (r : Vals [x, y] us) : ∃ u w', us = [u, w'] ∧ RelV x u ∧ RelV y w' := by
  cases r with
  | cons r1 r2 =>
    cases r2 with
    | cons r3 r4 => cases r4; exact ⟨_, _, rfl, r1, r3⟩
theorem call_abs : CallR X (.builtin "abs") (fun xs H Q => ∃ i, xs = [.int i] ∧ Q (.int (if i < 0 then -i else i)) H) := by
  intro pins s σ H xs us Q I r h
  obtain ⟨i, rfl, q⟩ := h
  obtain ⟨u, rfl, t, rfl⟩ := vals1 r
  exact call_abs_int fun u tk => ⟨.int (if i < 0 then -i else i), H, I.tok _, ⟨_, rfl⟩, q⟩
theorem call_max2 (hc : X.calm = true) : CallR X (.builtin "max") (fun xs H Q => ∃ i j, xs = [.int i, .int j] ∧ Q (.int (if j > i then j else i)) H) := by
  intro pins s σ H xs us Q I r h
  obtain ⟨i, j, rfl, q⟩ := h
  obtain ⟨u, w', rfl, ⟨t, rfl⟩, ⟨t', rfl⟩⟩ := vals2 r
  refine max_two_ints (I.ok.hd hc) fun h' tk k => ⟨_, H, I.kept k, ?_, q⟩
  by_cases hj : j > i
  · rw [if_pos hj, if_pos hj]; exact ⟨_, rfl⟩
  · rw [if_neg hj, if_neg hj]; exact ⟨_, rfl⟩
theorem call_min2 (hc : X.calm = true) : CallR X (.builtin "min") (fun xs H Q => ∃ i j, xs = [.int i, .int j] ∧ Q (.int (if j < i then j else i)) H) := by
  intro pins s σ H xs us Q I r h
  obtain ⟨i, j, rfl, q⟩ := h
  obtain ⟨u, w', rfl, ⟨t, rfl⟩, ⟨t', rfl⟩⟩ := vals2 r
  refine min_two_ints (I.ok.hd hc) fun h' tk k => ⟨_, H, I.kept k, ?_, q⟩
  by_cases hj : j < i
  · rw [if_pos hj, if_pos hj]; exact ⟨_, rfl⟩
  · rw [if_neg hj, if_neg hj]; exact ⟨_, rfl⟩
theorem call_int1 : CallR X (.type "int") (fun xs H Q => (∃ i, xs = [.int i] ∧ Q (.int i) H) ∨ ∃ k, xs = [.bl k] ∧ Q (.int (if k then 1 else 0)) H) := by
  intro pins s σ H xs us Q I r h
  rcases h with ⟨i, rfl, q⟩ | ⟨k, rfl, q⟩
  · obtain ⟨u, rfl, t, rfl⟩ := vals1 r
    exact call_int_int ⟨.int i, H, I, ⟨_, rfl⟩, q⟩
  · obtain ⟨u, rfl, r1⟩ := vals1 r
    cases r1
    exact call_int_bool ⟨.int (if k then 1 else 0), H, I.tok _, ⟨_, rfl⟩, q⟩
theorem call_bool1 : CallR X (.type "bool") (fun xs H Q => (∃ i, xs = [.int i] ∧ Q (.bl (i != 0)) H) ∨ ∃ k, xs = [.bl k] ∧ Q (.bl k) H) := by
  intro pins s σ H xs us Q I r h
  rcases h with ⟨i, rfl, q⟩ | ⟨k, rfl, q⟩
  · obtain ⟨u, rfl, t, rfl⟩ := vals1 r
    exact call_bool_int ⟨.bl (i != 0), H, I, rfl, q⟩
  · obtain ⟨u, rfl, r1⟩ := vals1 r
    cases r1
    exact call_bool_bool ⟨.bl k, H, I, rfl, q⟩
theorem call_str_int : CallR X (.type "str") (fun xs H Q => ∃ i, xs = [.int i] ∧ i.natAbs.log2 < 1920 ∧ Q (.str (toString i)) H) := by
  intro pins s σ H xs us Q I r h
  obtain ⟨i, rfl, hz, q⟩ := h
  obtain ⟨u, rfl, t, rfl⟩ := vals1 r
  exact PySem.P.str_of_int hz ⟨.str _, H, I.tok _, ⟨_, rfl⟩, q⟩
theorem call_ord : CallR X (.builtin "ord") (fun xs H Q => ∃ x, xs = [.str x] ∧ x.length = 1 ∧ Q (.int (x.cps.getD 0 0 : Nat)) H) := by
  intro pins s σ H xs us Q I r h
  obtain ⟨x, rfl, hz, q⟩ := h
  obtain ⟨u, rfl, t, rfl⟩ := vals1 r
  exact ord_of_one hz ⟨.int _, H, I.tok _, ⟨_, rfl⟩, q⟩
theorem call_chr : CallR X (.builtin "chr") (fun xs H Q => ∃ i, xs = [.int i] ∧ 0 ≤ i ∧ i ≤ 1114111 ∧ Q (.str ⟨#[i.toNat]⟩) H) := by
  intro pins s σ H xs us Q I r h
  obtain ⟨i, rfl, h0, h1, q⟩ := h
  obtain ⟨u, rfl, t, rfl⟩ := vals1 r
  exact chr_of_range h0 h1 ⟨.str _, H, I.tok _, ⟨_, rfl⟩, q⟩
/-- len of a str, a bytes, a list, a tuple -/
def LenV (K : PySem.W.Frag) (x : V) (H : Hp) (n : Nat) : Prop :=
  match x with
  | .str y => y.length ≤ sizeLine ∧ n = y.length
  | .byt y => y.size ≤ sizeLine ∧ n = y.size
  | .ref p => (∃ xs, SqL K H p xs ∧ n = xs.length) ∨ ∃ xs, SqT K H p xs ∧ n = xs.length
  | _ => False
theorem call_len : CallR X (.builtin "len") (fun xs H Q => ∃ x n, xs = [x] ∧ LenV X.K x H n ∧ Q (.int n) H) := by
  intro pins s σ H xs us Q I r h
  obtain ⟨x, n, rfl, e, q⟩ := h
  obtain ⟨u, rfl, rx⟩ := vals1 r
  have hl := line63
  have hs : sizeLine = 16777216 := sizeLine_eq
  cases x with
  | str y =>
    obtain ⟨t, rfl⟩ := rx
    obtain ⟨hy, e'⟩ : y.length ≤ sizeLine ∧ n = y.length := e
    subst e'
    exact len_str (by omega) ⟨.int _, H, I.tok _, ⟨_, rfl⟩, q⟩
  | byt y =>
    obtain ⟨t, rfl⟩ := rx
    obtain ⟨hy, e'⟩ : y.size ≤ sizeLine ∧ n = y.size := e
    subst e'
    exact PySem.W.len_bytes (by omega) ⟨.int _, H, I.tok _, ⟨_, rfl⟩, q⟩
  | ref p =>
    cases rx
    have e' : (∃ xs, SqL X.K H p xs ∧ n = xs.length) ∨ ∃ xs, SqT X.K H p xs ∧ n = xs.length := e
    rcases e' with ⟨xs, hx, e'⟩ | ⟨xs, hx, e'⟩
    · subst e'
      obtain ⟨its, r', pl, hz⟩ := I.list hx
      have hlen := r'.length
      exact Calls.call_len_list pl.isList (by simp only [List.size_toArray]; omega) ⟨.int xs.length, H, I.tok _, ⟨_, by simp only [List.size_toArray]; rw [hlen]⟩, q⟩
    · subst e'
      obtain ⟨its, r', pl, hz⟩ := I.tuple hx
      have hlen := r'.length
      exact len_tuple pl (by simp only [List.size_toArray]; omega) ⟨.int xs.length, H, I.tok _, ⟨_, by simp only [List.size_toArray]; rw [hlen]⟩, q⟩
  | _ => exact (show False from e).elim
/-- divmod: a new tuple -/
theorem call_divmod : CallR X (.builtin "divmod") (fun xs H Q => ∃ i j, xs = [.int i, .int j] ∧ CDiv i j ∧ ∀ p, H p = none → Q (.ref p) (upd H p (.tup [.int (i / j), .int (i % j)]))) := by
  intro pins s σ H xs us Q I r h
  obtain ⟨i, j, rfl, ⟨h1, h2⟩, q⟩ := h
  obtain ⟨u, w', rfl, ⟨t, rfl⟩, ⟨t', rfl⟩⟩ := vals2 r
  refine divmod_int (by omega) ?_ (.inl (PyProof.noPylong_small (by omega)))
  rw [Int.fdiv_eq_ediv_of_nonneg i (by omega), Int.fmod_eq_emod_of_nonneg i (by omega)]
  have hn : H s.heap.objs.size = none := I.hok.fresh (Nat.le_refl _)
  refine ⟨.ref s.heap.objs.size, _, ?_, rfl, q _ hn⟩
  refine I.laid (fun b o e => Heap.get?_push_of_some _ e) (Nat.le_refl _) ⟨by simp only [List.length_cons, List.length_nil]; rw [sizeLine_eq]; decide, [.int (i / j) s.toks, .int (i % j) (s.toks + 1)], .cons ⟨_, rfl⟩ (.cons ⟨_, rfl⟩ .nil), ?_⟩
  exact ⟨_, Heap.get?_push_size s.heap rfl, rfl, 0, rfl⟩
end
end L2

namespace L2
open PySem PySem.Spec PyProof.Rows

/-! ### an instance, its attributes a map -/
structure ObjM (h : Heap) (x dx C : Addr) (mA : Str → Option Value) : Prop where
  obj : h.get? x = some (PySem.W.instObj C dx)
  ns : h.Ns1 dx mA
  ne : dx ≠ x

theorem lookIn_ns {h : Heap} {dx : Addr} {mA : Str → Option Value} (n : h.Ns1 dx mA) : ∃ od, h.get? dx = some od ∧ ∀ name, PySem.W.lookIn name od = some (mA name) := by
  obtain ⟨o, es, ep, ho, hd, hk, _, hm⟩ := n
  refine ⟨o, ho, fun name => ?_⟩
  have e := hm name
  unfold nsFind findBy at e
  rw [← Array.find?_toList] at e
  unfold PySem.W.lookIn
  rw [hd]
  dsimp only
  split
  · rename_i y q
    rw [q] at e
    exact congrArg some e
  · rename_i q
    rw [q] at e
    have a : es.toList.any (·.refKey) = false := by
      rw [List.any_eq_false]
      intro y hy
      obtain ⟨z, t, hkey⟩ := hk y (Array.mem_toList_iff.mp hy)
      simp [DictEntry.refKey, hkey]
    have a' : ¬ es.toList.any (·.refKey) = true := by rw [a]; exact Bool.false_ne_true
    rw [if_neg a']
    exact congrArg some e

theorem ObjM.look {h : Heap} {x dx C : Addr} {mA : Str → Option Value} (I : ObjM h x dx C mA) : ∃ od, PySem.W.InstAt h x (PySem.W.instObj C dx) C (some od) ∧ ∀ name, PySem.W.lookIn name od = some (mA name) :=
  let ⟨od, ho, hl⟩ := lookIn_ns I.ns
  ⟨od, ⟨I.obj, rfl, rfl, ho⟩, hl⟩

section
variable {prog : Program} {w : World} {A : Around} {E : Value → Shared → Prop} {s : Shared} {K : PySem.W.Frag} {x dx C f : Addr} {mA : Str → Option Value} {name : Str} {v : Value}

theorem get_map {expr : Bool} {Q : Value → Shared → Prop} (X : K.In s.heap) (I : ObjM s.heap x dx C mA) (hg : PySem.W.plainGet K C name = true) (hh : PySem.W.hasDictIn K C = true)
    (ha : PySem.W.findIn K (.ref C) name = some none) (hv : mA name = some v) (hv' : PySem.W.handedIn v = true) (h : Q v { s with toks := s.toks + 1 }) :
    wpAny (model prog w) A (getAttr (.ref x) name expr) Q E s := by
  obtain ⟨od, J, hl⟩ := I.look
  exact PySem.W.get_value X J (PySem.W.plainGet_of hg).1 (PySem.W.findObj_own hh ha rfl (by rw [hl, hv])) hv' h

theorem get_const {expr : Bool} {a : Value} {Q : Value → Shared → Prop} (X : K.In s.heap) (I : ObjM s.heap x dx C mA) (hg : PySem.W.plainGet K C name = true) (hh : PySem.W.hasDictIn K C = true)
    (ha : PySem.W.findIn K (.ref C) name = some (some a)) (hn : PySem.W.specialIn K a "__get__" = some none) (hc : PySem.W.copiedNames.contains name = false) (hv : mA name = none) (hv' : PySem.W.handedIn a = true)
    (h : Q a { s with toks := s.toks + 1 }) : wpAny (model prog w) A (getAttr (.ref x) name expr) Q E s := by
  obtain ⟨od, J, hl⟩ := I.look
  exact PySem.W.get_value X J (PySem.W.plainGet_of hg).1 (PySem.W.findObj_cls hh ha hn hv' hc (by rw [hl, hv])) hv' h

theorem get_meth {pl : Sem Bool} {Q : Value × List Value → Shared → Prop} (X : K.In s.heap) (I : ObjM s.heap x dx C mA) (hg : PySem.W.plainGet K C name = true)
    (hf : PySem.W.findIn K (.ref C) name = some (some (.ref f))) (ht : PySem.W.isFn K (.ref f) = true) (hv : mA name = none) (h : Q (.ref f, [.ref x]) s) :
    wpAny (model prog w) A (getMethod (.ref x) name pl) Q E s := by
  obtain ⟨od, J, hl⟩ := I.look
  exact PySem.W.method_fn X J (PySem.W.plainGet_of hg).1 (PySem.W.plainGet_of hg).2 hf (beq_iff_eq.mp ht) (by show (PySem.W.lookIn name od).map (·.isSome) = some false; rw [hl, hv]; rfl) h

theorem set_map {ns : List Str} {Q : Unit → Shared → Prop} (X : K.In s.heap) (I : ObjM s.heap x dx C mA)
    (hs : PySem.W.findIn K (.ref C) "__setattr__" = some (some (.builtin "object.__setattr__"))) (hp : PySem.W.plainOver K C = true) (ht : PySem.W.takerIn K C name = some none) (hh : PySem.W.hasDictIn K C = true)
    (hw : PySem.Within mA ns) (hsz : ns.length ≤ sizeLine)
    (h : ∀ h', ObjM h' x dx C (fun y => if y = name then some v else mA y) → Heap.SameBut dx s.heap h' → Q () { s with heap := h', toks := s.toks + 2 }) :
    wpAny (model prog w) A (setAttr (.ref x) name v) Q E s := by
  obtain ⟨od, J, hl⟩ := I.look
  refine PySem.W.set_plain X J hs (PySem.W.osa_open (s := { s with toks := s.toks + 1 }) (r := none) X J hp ht fun b => ?_)
  obtain ⟨cd, hc, hd'⟩ := PySem.W.any_some hh
  have hx : s.heap.get? x = some ⟨.ref C, some dx, .plain, #[]⟩ := I.obj
  refine wpAny_bind (wpAny_pure (wpAny_bind (wpAny_bind (wpAny_loadPart hx (wpAny_bind (PySem.W.Looks.here (s := { s with toks := s.toks + 1 }) (PySem.W.looks_clsIn X hc) ?_))))))
  rw [hd']
  refine wpAny_pure (a := some dx) (wpAny_bind (wpAny_pure (wpAny_bind ?_)))
  refine wpAny_nsSet1 (s := { s with toks := s.toks + 1 }) I.ns fun h' hn2 hs2 => ?_
  obtain ⟨oD, esD, epD, hoD, hdD, hcD⟩ := hn2.count (PySem.Within.cons name v hw)
  refine wpAny_bind (wpAny_lookBehind hoD (by rw [hdD]; exact pastItsLine_dict (Nat.le_trans hcD (by rw [List.length_cons]; omega))) ?_)
  exact wpAny_pure (h _ ⟨(hs2.2 _ (Ne.symm I.ne)).trans I.obj, hn2, I.ne⟩ hs2)

/-- C(..): the dict at the heap's end, the instance behind it; then its __init__ -/
theorem make_map {R : Result → Shared → Prop} {vs : List Value} {kw : List (Str × Value)} (X : K.In s.heap) (hm : PySem.W.makesIn K C = true)
    (hi : PySem.W.findIn K (.ref C) "__init__" = some (some (.ref f))) (hf : PySem.W.typeIn K (.ref f) = some (.type "function"))
    (h : codeAny (model prog w) (A.under (.builtin "type.__call__" ⟨.ref C :: vs, kw⟩)) (.call (.ref f) ⟨.ref (s.heap.objs.size + 1) :: vs, kw⟩) (PySem.W.InitBack (s.heap.objs.size + 1) R)
      { s with heap := (s.heap.push PySem.W.emptyDict).push (PySem.W.instObj C s.heap.objs.size) }) :
    codeAny (model prog w) A (.call (.ref C) ⟨vs, kw⟩) R s := by
  obtain ⟨hh, g, d, t, os⟩ := s
  exact PySem.W.make_core (PySem.W.makes_of X hm) (PySem.W.looks_findIn X hi) (fun self => PySem.W.bind_fn X self hf) (.inl rfl) h
/-- C() where there is no __init__ but object's -/
theorem make_map0 {R : Result → Shared → Prop} (X : K.In s.heap) (hm : PySem.W.makesIn K C = true)
    (hi : PySem.W.findIn K (.ref C) "__init__" = some (some (.builtin "object.__init__")))
    (hb : ∀ self, PySem.W.Looks (model prog w) s.heap (bindSpecial (.builtin "object.__init__") self) (.builtin "object.__init__", [self]))
    (h : codeAny (model prog w) (A.under (.builtin "type.__call__" ⟨[.ref C], []⟩)) (.call (.builtin "object.__init__") ⟨[.ref (s.heap.objs.size + 1)], []⟩) (PySem.W.InitBack (s.heap.objs.size + 1) R)
      { s with heap := (s.heap.push PySem.W.emptyDict).push (PySem.W.instObj C s.heap.objs.size) }) :
    codeAny (model prog w) A (.call (.ref C) ⟨[], []⟩) R s := by
  obtain ⟨hh, g, d, t, os⟩ := s
  exact PySem.W.make_core (PySem.W.makes_of X hm) (PySem.W.looks_findIn X hi) hb (.inr ⟨rfl, rfl⟩) h
end

/-! ### the attributes as a list of pairs -/
def putF (f : Str) (v : V) : List (Str × V) → List (Str × V)
  | [] => [(f, v)]
  | (g, x) :: r => if g = f then (g, v) :: r else (g, x) :: putF f v r
theorem lookup_putF (f g : Str) (v : V) : ∀ fs : List (Str × V), (putF f v fs).lookup g = if g = f then some v else fs.lookup g
  | [] => by
    show List.lookup g [(f, v)] = _
    by_cases h : g = f
    · have hb : (g == f) = true := beq_iff_eq.mpr h
      simp only [List.lookup, hb, if_pos h]
    · have hb : (g == f) = false := beq_eq_false_iff_ne.mpr h
      simp only [List.lookup, hb, if_neg h]
  | (k, x) :: r => by
    have ih := lookup_putF f g v r
    rw [show putF f v ((k, x) :: r) = (if k = f then (k, v) :: r else (k, x) :: putF f v r) from rfl]
    by_cases hk : k = f
    · rw [if_pos hk]
      by_cases h : g = k
      · have hb : (g == k) = true := beq_iff_eq.mpr h
        simp only [List.lookup, hb, if_pos (h.trans hk)]
      · have hb : (g == k) = false := beq_eq_false_iff_ne.mpr h
        simp only [List.lookup, hb, if_neg (fun e : g = f => h (e.trans hk.symm))]
    · rw [if_neg hk]
      by_cases h : g = k
      · have hb : (g == k) = true := beq_iff_eq.mpr h
        simp only [List.lookup, hb, if_neg (fun e : g = f => hk (h.symm.trans e))]
      · have hb : (g == k) = false := beq_eq_false_iff_ne.mpr h
        simp only [List.lookup, hb]
        exact ih
theorem keys_putF (f : Str) (v : V) : ∀ fs : List (Str × V), f ∈ (putF f v fs).map (·.1) ∧ ∀ g, g ∈ fs.map (·.1) → g ∈ (putF f v fs).map (·.1)
  | [] => ⟨by simp [putF], fun g h => by simp at h⟩
  | (k, x) :: r => by
    obtain ⟨i1, i2⟩ := keys_putF f v r
    rw [show putF f v ((k, x) :: r) = (if k = f then (k, v) :: r else (k, x) :: putF f v r) from rfl]
    by_cases hk : k = f
    · rw [if_pos hk]
      subst hk
      exact ⟨by simp, fun g h => by simpa using h⟩
    · rw [if_neg hk]
      refine ⟨?_, fun g h => ?_⟩
      · rw [List.map_cons]
        exact List.mem_cons_of_mem _ i1
      · rw [List.map_cons] at h ⊢
        rcases List.mem_cons.mp h with e | e
        · exact List.mem_cons.mpr (.inl e)
        · exact List.mem_cons_of_mem _ (i2 g e)
theorem length_putF (f : Str) (v : V) : ∀ fs : List (Str × V), (putF f v fs).length ≤ fs.length + 1
  | [] => by simp [putF]
  | (k, x) :: r => by
    have ih := length_putF f v r
    rw [show putF f v ((k, x) :: r) = (if k = f then (k, v) :: r else (k, x) :: putF f v r) from rfl]
    by_cases hk : k = f
    · rw [if_pos hk, List.length_cons, List.length_cons]; omega
    · rw [if_neg hk, List.length_cons, List.length_cons]; omega

theorem RelO.some_of {v : V} {o : Option Value} (r : RelO (some v) o) : ∃ u, o = some u ∧ RelV v u := by
  cases o with
  | none => exact (show False from r).elim
  | some u => exact ⟨u, rfl, r⟩
theorem RelO.none_of {o : Option Value} (r : RelO none o) : o = none := by
  cases o with
  | none => rfl
  | some u => exact (show False from r).elim
theorem handed_of {v : V} {u : Value} (r : RelV v u) : PySem.W.handedIn u = true := by
  cases v with
  | non => cases (show u = Value.none from r); rfl
  | bl b => cases (show u = Value.bool b from r); rfl
  | int i => obtain ⟨t, e⟩ := (show ∃ t, u = Value.int i t from r); cases e; rfl
  | str x => obtain ⟨t, e⟩ := (show ∃ t, u = Value.str x t from r); cases e; rfl
  | byt b => obtain ⟨t, e⟩ := (show ∃ t, u = Value.bytes b t from r); cases e; rfl
  | flt b => obtain ⟨t, e⟩ := (show ∃ t, u = Value.float b t from r); cases e; rfl
  | ref a => cases (show u = Value.ref a from r); rfl
  | ty n => cases (show u = Value.type n from r); rfl

section
variable {P : Program} {w : World} {H H' : Hp} {h h' : Heap} {a C dx : Addr} {fs fs' : List (Str × V)}
theorem ins_get (hok : HOk P w H h) (e : H a = some (.ins C dx fs)) : ∃ mA, ObjM h a dx C mA ∧ (∀ f, RelO (fs.lookup f) (mA f)) ∧ PySem.Within mA (fs.map (·.1)) ∧ fs.length ≤ 1000 ∧ H dx = some (.own a) := by
  obtain ⟨d, z, ne, ob, mA, n, r, q⟩ := (show ObjOk P w H h a (.ins C dx fs) from hok a _ e)
  exact ⟨mA, ⟨ob, n, ne⟩, r, q, z, d⟩
end

/-! ### what of the text a class must have -/
structure Cls (K : PySem.W.Frag) (C : Addr) : Prop where
  pg : PySem.W.plainGet K C Str.empty = true
  hd : PySem.W.hasDictIn K C = true
  po : PySem.W.plainOver K C = true
  sa : PySem.W.findIn K (.ref C) "__setattr__" = some (some (.builtin "object.__setattr__"))
theorem Cls.get {K : PySem.W.Frag} {C : Addr} (c : Cls K C) (f : Str) : PySem.W.plainGet K C f = true := c.pg
/-- no class of it has the name -/
def NoAttr (K : PySem.W.Frag) (C : Addr) (f : Str) : Prop := PySem.W.findIn K (.ref C) f = some none
theorem NoAttr.taker {K : PySem.W.Frag} {C : Addr} {f : Str} (n : NoAttr K C f) : PySem.W.takerIn K C f = some none := by
  unfold PySem.W.takerIn
  rw [show PySem.W.findIn K (.ref C) f = some none from n]
  rfl
/-- a constant of the class -/
structure Con (K : PySem.W.Frag) (C : Addr) (f : Str) (v : V) (u : Value) : Prop where
  at_ : PySem.W.findIn K (.ref C) f = some (some u)
  rel : RelV v u
  get : PySem.W.specialIn K u "__get__" = some none
  cp : PySem.W.copiedNames.contains f = false
/-- a method: a plain def of the class or of one above it -/
structure Meth (K : PySem.W.Frag) (C : Addr) (m : Str) (f : Addr) : Prop where
  at_ : PySem.W.findIn K (.ref C) m = some (some (.ref f))
  fn : PySem.W.isFn K (.ref f) = true
  kp : PySem.W.keepIn K (.ref f) = true

section
variable {X : Cx} {pins : List (Addr × Obj)} {σ : St} {H : Hp} {s : Shared} {a C dx : Addr} {fs : List (Str × V)} {f : Str} {v : V} {A : Around} {E : Value → Shared → Prop}

theorem getattr_ok {b : Bool} {Q : Value → Shared → Prop} (I : Inv X pins σ H s) (e : H a = some (.ins C dx fs)) (c : Cls X.K C) (n : NoAttr X.K C f) (l : fs.lookup f = some v)
    (h : ∀ u s', Inv X pins σ H s' → RelV v u → Q u s') : wpAny (model X.prog X.w) A (getAttr (.ref a) f b) Q E s := by
  obtain ⟨mA, O, r, _, _, _⟩ := ins_get I.hok e
  obtain ⟨u, hu, ru⟩ := RelO.some_of (v := v) (o := mA f) (by rw [← l]; exact r f)
  exact get_map I.kIn O (c.get f) c.hd n hu (handed_of ru) (h u _ (I.tok _) ru)

theorem getcon_ok {b : Bool} {u : Value} {Q : Value → Shared → Prop} (I : Inv X pins σ H s) (e : H a = some (.ins C dx fs)) (c : Cls X.K C) (k : Con X.K C f v u) (l : fs.lookup f = none)
    (h : ∀ s', Inv X pins σ H s' → Q u s') : wpAny (model X.prog X.w) A (getAttr (.ref a) f b) Q E s := by
  obtain ⟨mA, O, r, _, _, _⟩ := ins_get I.hok e
  have hn : mA f = none := RelO.none_of (by rw [← l]; exact r f)
  exact get_const I.kIn O (c.get f) c.hd k.at_ k.get k.cp hn (handed_of k.rel) (h _ (I.tok _))

theorem getmeth_ok {m : Str} {g : Addr} {pl : Sem Bool} {Q : Value × List Value → Shared → Prop} (I : Inv X pins σ H s) (e : H a = some (.ins C dx fs)) (c : Cls X.K C) (k : Meth X.K C m g) (l : fs.lookup m = none)
    (h : Q (.ref g, [.ref a]) s) : wpAny (model X.prog X.w) A (getMethod (.ref a) m pl) Q E s := by
  obtain ⟨mA, O, r, _, _, _⟩ := ins_get I.hok e
  have hn : mA m = none := RelO.none_of (by rw [← l]; exact r m)
  exact get_meth I.kIn O (c.get m) k.at_ k.fn hn h

theorem setattr_ok {y : V} {u : Value} {Q : Unit → Shared → Prop} (I : Inv X pins σ H s) (e : H a = some (.ins C dx fs)) (c : Cls X.K C) (n : NoAttr X.K C f) (hl : fs.length < 1000) (ry : RelV y u)
    (h : ∀ s', Inv X pins σ (upd H a (.ins C dx (putF f y fs))) s' → Q () s') : wpAny (model X.prog X.w) A (setAttr (.ref a) f u) Q E s := by
  obtain ⟨mA, O, r, wi, _, ho⟩ := ins_get I.hok e
  have hz : (fs.map (·.1)).length ≤ sizeLine := by rw [List.length_map, sizeLine_eq]; omega
  refine set_map I.kIn O c.sa c.po n.taker c.hd wi hz fun h' O' sb => h _ ?_
  have hd : ∃ o, h'.get? dx = some o := let ⟨o, _, _, e', _⟩ := O'.ns; ⟨o, e'⟩
  refine I.write (x := a) (e := dx) (by rw [e]; exact True.intro) (.inr ho) (fun b q hb z => (sb.2 b hb).trans z) hd ?_
  refine ⟨by rw [upd_ne O.ne]; exact ho, ?_, O.ne, O'.obj, _, O'.ns, fun g => ?_, fun g hg => ?_⟩
  · have := length_putF f y fs; omega
  · show RelO ((putF f y fs).lookup g) (if g = f then some u else mA g)
    rw [lookup_putF]
    by_cases q : g = f
    · rw [if_pos q, if_pos q]; exact ry
    · rw [if_neg q, if_neg q]; exact r g
  · by_cases q : g = f
    · rw [q]; exact (keys_putF f y fs).1
    · refine (keys_putF f y fs).2 g (wi g fun z => hg ?_)
      show (if g = f then some u else mA g) = none
      rw [if_neg q]; exact z

/-- a new instance, tracked, without attributes -/
theorem Inv.made (I : Inv X pins σ H s) : Inv X pins σ (upd (upd H s.heap.objs.size (.own (s.heap.objs.size + 1))) (s.heap.objs.size + 1) (.ins C s.heap.objs.size []))
    { s with heap := (s.heap.push PySem.W.emptyDict).push (PySem.W.instObj C s.heap.objs.size) } := by
  have e1 : (s.heap.push PySem.W.emptyDict).get? s.heap.objs.size = some PySem.W.emptyDict := Heap.get?_push_size s.heap rfl
  have e2 : ((s.heap.push PySem.W.emptyDict).push (PySem.W.instObj C s.heap.objs.size)).get? (s.heap.objs.size + 1) = some (PySem.W.instObj C s.heap.objs.size) := by
    have := Heap.get?_push_size (s.heap.push PySem.W.emptyDict) (o := PySem.W.instObj C s.heap.objs.size) rfl
    rwa [Heap.size_push] at this
  have e3 : (s.heap.push PySem.W.emptyDict).Ns s.heap.objs.size (fun _ => none) := ⟨PySem.W.emptyDict, #[], _, e1, rfl, (fun e he => absurd he (by simp)), fun _ => rfl⟩
  have I1 := I.laid (a := s.heap.objs.size) (o := .own (s.heap.objs.size + 1)) (h' := s.heap.push PySem.W.emptyDict) (t' := s.toks) (fun b u q => Heap.get?_push_of_some _ q) (Nat.le_refl _) ⟨_, e1⟩
  refine I1.laid (a := s.heap.objs.size + 1) (o := .ins C s.heap.objs.size []) (t' := s.toks) (fun b u q => Heap.get?_push_of_some _ q) (Nat.le_of_eq (Heap.size_push _ _)) ?_
  have ne : s.heap.objs.size ≠ s.heap.objs.size + 1 := Nat.ne_of_lt (Nat.lt_succ_self _)
  refine ⟨by rw [upd_ne ne, upd_same], Nat.zero_le _, ne, e2, fun _ => none, (Heap.Ns1.of_empty e3).at fun o q => Heap.get?_push_of_some _ q, fun _ => True.intro, fun y hy => absurd rfl hy⟩

/-- e.f where nothing but the object is asked: through attributeBase (super) and the last hold -/
theorem attr_of {prog : Program} {w : World} {env : Env} {e : Expr} {f : Str} {pos : Pos} {s : Shared} {Q : Value → Shared → Prop} (hb : attributeBase e f env (eval e env) = eval e env)
    (h : wpAny (model prog w) A (eval e env) (fun o s₁ => wpAny (model prog w) A (getAttr o f true) Q E s₁) E s) : wpAny (model prog w) A (eval (.Attribute e f pos) env) Q E s :=
  Attribute_any_ h (by rw [arm_eval_Attribute, hb])
end

/-! ### readings and rules -/
/-- e.f, an attribute of the instance -/
def tFld (K : PySem.W.Frag) (ta : TE) (f : Str) : TE := fun σ H Q => ta σ H fun x H1 => ∃ a C dx fs v, x = .ref a ∧ H1 a = some (.ins C dx fs) ∧ Cls K C ∧ NoAttr K C f ∧ fs.lookup f = some v ∧ Q v H1
/-- e.f, a constant of the class -/
def tCon (K : PySem.W.Frag) (ta : TE) (f : Str) : TE := fun σ H Q => ta σ H fun x H1 => ∃ a C dx fs v u, x = .ref a ∧ H1 a = some (.ins C dx fs) ∧ Cls K C ∧ Con K C f v u ∧ fs.lookup f = none ∧ Q v H1
/-- e.f = value -/
def sFld (K : PySem.W.Frag) (ta tv : TE) (f : Str) : TS := fun D σ H => tv σ H fun y H1 => ta σ H1 fun x H2 => ∃ a C dx fs, x = .ref a ∧ H2 a = some (.ins C dx fs) ∧ Cls K C ∧ NoAttr K C f ∧ fs.length < 1000 ∧
  D.nx σ (upd H2 a (.ins C dx (putF f y fs)))
/-- an augmented operator on two values -/
def InOp (X : Cx) (op : Operator) (rd : V → V → Hp → VK → Prop) : Prop :=
  ∀ (pins : List (Addr × Obj)) (s : Shared) (σ : St) (H : Hp) (x y : V) (u v : Value) (Q : VK), Inv X pins σ H s → RelV x u → RelV y v → rd x y H Q → wpAny (model X.prog X.w) X.A (inplaceOp op u v) (EP X pins σ Q) X.xe s
/-- e.f op= value -/
def sFldAug (K : PySem.W.Frag) (ta tv : TE) (rd : V → V → Hp → VK → Prop) (f : Str) : TS := fun D σ H => ta σ H fun x H1 => ∃ a C dx fs v, x = .ref a ∧ H1 a = some (.ins C dx fs) ∧ Cls K C ∧ NoAttr K C f ∧ fs.lookup f = some v ∧
  tv σ H1 fun y H2 => rd v y H2 fun z H3 => ∃ dx' fs', H3 a = some (.ins C dx' fs') ∧ fs'.length < 1000 ∧ D.nx σ (upd H3 a (.ins C dx' (putF f z fs')))

section
variable {X : Cx} {o e value : Expr} {f : Str} {pos pos' tpos : Pos} {ta tv : TE}
theorem pe_fld (he : PE X e ta) (hb : attributeBase e f X.env (eval e X.env) = eval e X.env) : PE X (.Attribute e f pos) (tFld X.K ta f) := by
  intro pins s σ H Q I h
  refine attr_of hb (thn (he pins s σ H _ I h) fun u s1 ⟨x, H1, I1, rx, a, C, dx, fs, v, ex, ea, c, n, l, q⟩ => ?_)
  subst ex
  obtain rfl : u = Value.ref a := rx
  exact getattr_ok I1 ea c n l fun u' s2 I2 ru => ⟨v, H1, I2, ru, q⟩
theorem pe_con (he : PE X e ta) (hb : attributeBase e f X.env (eval e X.env) = eval e X.env) : PE X (.Attribute e f pos) (tCon X.K ta f) := by
  intro pins s σ H Q I h
  refine attr_of hb (thn (he pins s σ H _ I h) fun u s1 ⟨x, H1, I1, rx, a, C, dx, fs, v, u0, ex, ea, c, k, l, q⟩ => ?_)
  subst ex
  obtain rfl : u = Value.ref a := rx
  exact getcon_ok I1 ea c k l fun s2 I2 => ⟨v, H1, I2, k.rel, q⟩
theorem ps_fld (ha : PE X o ta) (hv : PE X value tv) (hs : swapsWith value (some (.Attribute o f pos')) pos.line X.env = pure false) : PS X (.Assign [.Attribute o f pos'] value pos) (sFld X.K ta tv f) := by
  intro pins s σ H D I h
  refine plainObj_wpAny_Assign_Attribute (thn (hv pins s σ H _ I h) fun u s1 ⟨y, H1, I1, ry, q⟩ => thn (ha pins s1 σ H1 _ I1 q) fun ov s2 ⟨x, H2, I2, rx, a, C, dx, fs, ex, ea, c, n, l, q2⟩ => ?_) hs
  subst ex
  obtain rfl : ov = Value.ref a := rx
  exact setattr_ok I2 ea c n l ry fun s3 I3 => ⟨σ, _, I3, q2⟩
theorem ps_fldaug {op : Operator} {rd : V → V → Hp → VK → Prop} (ha : PE X o ta) (hv : PE X value tv) (hop : InOp X op rd) : PS X (.AugAssign (.Attribute o f tpos) op value pos) (sFldAug X.K ta tv rd f) := by
  intro pins s σ H D I h
  refine wpAny_AugAssign_AttributeAny (thn (ha pins s σ H _ I h) fun ov s1 ⟨x, H1, I1, rx, a, C, dx, fs, v, ex, ea, c, n, l, q⟩ => ?_)
  subst ex
  obtain rfl : ov = Value.ref a := rx
  refine getattr_ok I1 ea c n l fun u s2 I2 ru => thn (hv pins s2 σ H1 _ I2 q) fun w3 s3 ⟨y, H2, I3, ry, q3⟩ => thn (hop pins s3 σ H2 v y u w3 _ I3 ru ry q3) fun w4 s4 ⟨z, H3, I4, rz, dx', fs', ea', l', q4⟩ => ?_
  exact setattr_ok I4 ea' c n l' rz fun s5 I5 => ⟨σ, _, I5, q4⟩
def rAdd : V → V → Hp → VK → Prop := fun x y H Q => ∃ i j, x = .int i ∧ y = .int j ∧ Q (.int (i + j)) H
def rSub : V → V → Hp → VK → Prop := fun x y H Q => ∃ i j, x = .int i ∧ y = .int j ∧ Q (.int (i - j)) H
theorem in_add : InOp X .Add rAdd := by
  rintro pins s σ H x y u v Q I rx ry ⟨i, j, rfl, rfl, q⟩
  obtain ⟨t, rfl⟩ := (show ∃ t, u = Value.int i t from rx)
  obtain ⟨t', rfl⟩ := (show ∃ t', v = Value.int j t' from ry)
  exact PyProof.Rows.iadd_int ⟨.int (i + j), H, I.tok _, ⟨_, rfl⟩, q⟩
theorem in_sub : InOp X .Sub rSub := by
  rintro pins s σ H x y u v Q I rx ry ⟨i, j, rfl, rfl, q⟩
  obtain ⟨t, rfl⟩ := (show ∃ t, u = Value.int i t from rx)
  obtain ⟨t', rfl⟩ := (show ∃ t', v = Value.int j t' from ry)
  exact PyProof.Rows.isub_int ⟨.int (i - j), H, I.tok _, ⟨_, rfl⟩, q⟩

/-- what is between an instance and its method: the tree of a method call -/
theorem methcall_of {pl : Sem Bool} {m : Str} {apos : Pos} {args : List Expr} {pins : List (Addr × Obj)} {s : Shared} {σ : St} {H : Hp} {Q : Value → Shared → Prop} {te : TE} (he : PE X e te) (I : Inv X pins σ H s)
    (h : te σ H fun x H1 => ∃ a C dx fs g, x = .ref a ∧ H1 a = some (.ins C dx fs) ∧ Cls X.K C ∧ Meth X.K C m g ∧ fs.lookup m = none ∧
      ∀ s1, Inv X pins σ H1 s1 → wpAny (model X.prog X.w) X.A (callWith pos (.ref g) [.ref a] (backTo pos (starEach args X.env)) (backToKw pos (keywordEach [] X.env))) Q X.xe s1)
    (ht : eval (.Call (.Attribute e m apos) args [] pos) X.env = (do
      let ov ← eval e X.env
      standAt apos.atName
      let (f, first) ← holding [ov] (getMethod ov m pl)
      callWith pos f first (backTo pos (starEach args X.env)) (backToKw pos (keywordEach [] X.env)))) :
    wpAny (model X.prog X.w) X.A (eval (.Call (.Attribute e m apos) args [] pos) X.env) Q X.xe s := by
  refine PySem.W.methodCall_KW (pl := pl) (thn (he pins s σ H _ I h) fun u s1 ⟨x, H1, I1, rx, a, C, dx, fs, g, ex, ea, c, k, l, q⟩ => ?_) ht
  subst ex
  obtain rfl : u = Value.ref a := rx
  exact getmeth_ok I1 ea c k l (q s1 I1)
end

/-! ### isinstance -/
section
variable {X : Cx} {pins : List (Addr × Obj)} {σ : St} {H : Hp} {s : Shared} {A : Around} {E : Value → Shared → Prop} {Q : Value → Shared → Prop} {c : Value} {b : Bool}
/-- the type of a value, as the fragment's deciders take it; for an instance its class -/
inductive TyOf (K : PySem.W.Frag) (H : Hp) : V → Value → Prop where
  | non : TyOf K H .non (.type "NoneType")
  | bl (x : Bool) : TyOf K H (.bl x) (.type "bool")
  | int (i : Int) : TyOf K H (.int i) (.type "int")
  | str (x : Str) : TyOf K H (.str x) (.type "str")
  | flt (x : UInt64) : TyOf K H (.flt x) (.type "float")
  | lst {a : Addr} {xs : List V} (e : H a = some (.lst xs)) : TyOf K H (.ref a) (.type "list")
  | frz {a : Addr} {o : Obj} {xs : List V} (e : H a = some (.frz o (.lst xs))) : TyOf K H (.ref a) (.type "list")
  | tup {a : Addr} {xs : List V} (e : H a = some (.tup xs)) : TyOf K H (.ref a) (.type "tuple")
  | dK {a : Addr} {kvs : List (Key × V)} (e : H a = some (.dK kvs)) : TyOf K H (.ref a) (.type "dict")
  | dT {a : Addr} {kvs : List (List Key × V)} (e : H a = some (.dT kvs)) : TyOf K H (.ref a) (.type "dict")
  | ins {a C dx : Addr} {fs : List (Str × V)} (e : H a = some (.ins C dx fs)) (cl : Cls K C) (ha : PySem.W.findIn K (.ref C) "__class__" = some (some (.builtin "object.__class__")))
      (hn : PySem.W.specialIn K (.builtin "object.__class__") "__get__" = some (some (.builtin "getset_descriptor.__get__"))) (htk : PySem.W.takesIn K (.builtin "object.__class__") = some true)
      (hm : PySem.W.mroIn K C (.type "object") = some true) : TyOf K H (.ref a) (.ref C)
/-- isinstance(x, c) for one class c, a built-in or an own one: kitOne's answer -/
theorem isinst_ok {x : V} {u t : Value} (I : Inv X pins σ H s) (rx : RelV x u) (ty : TyOf X.K H x t) (e : PySem.W.kitOne X.K t c = some b) (h : ∀ tk, Q (.bool b) { s with toks := tk }) :
    wpAny (model X.prog X.w) A (call (.builtin "isinstance") [u, c]) Q E s := by
  cases ty with
  | non => cases (show u = Value.none from rx); exact PySem.W.kia_one PySem.W.kitx_none I.kIn True.intro e (fun z => nomatch z) h
  | bl y => cases (show u = Value.bool y from rx); exact PySem.W.kia_one PySem.W.kitx_bool I.kIn True.intro e (fun z => nomatch z) h
  | int i => obtain ⟨t, q⟩ := (show ∃ t, u = Value.int i t from rx); cases q; exact PySem.W.kia_one PySem.W.kitx_int I.kIn True.intro e (fun z => nomatch z) h
  | str y => obtain ⟨t, q⟩ := (show ∃ t, u = Value.str y t from rx); cases q; exact PySem.W.kia_one PySem.W.kitx_str I.kIn True.intro e (fun z => nomatch z) h
  | flt y => obtain ⟨t, q⟩ := (show ∃ t, u = Value.float y t from rx); cases q; exact PySem.W.kia_one PySem.W.kitx_float I.kIn True.intro e (fun z => nomatch z) h
  | @lst a xs ea =>
    cases (show u = Value.ref a from rx)
    obtain ⟨_, _, n, _, h1⟩ := (show ObjOk X.prog X.w H s.heap a (.lst xs) from I.hok a _ ea)
    exact PySem.W.kia_one PySem.W.kitx_list I.kIn ⟨_, h1, rfl⟩ e (fun z => nomatch z) h
  | @frz a ob xs ea =>
    cases (show u = Value.ref a from rx)
    obtain ⟨_, _, _, n, _, h1⟩ := (show ObjOk X.prog X.w H s.heap a (.frz ob (.lst xs)) from I.hok a _ ea)
    exact PySem.W.kia_one PySem.W.kitx_list I.kIn ⟨_, h1, rfl⟩ e (fun z => nomatch z) h
  | @tup a xs ea =>
    cases (show u = Value.ref a from rx)
    obtain ⟨_, _, _, p⟩ := (show ObjOk X.prog X.w H s.heap a (.tup xs) from I.hok a _ ea)
    obtain ⟨o, h1, h2, _⟩ := p
    exact PySem.W.kia_one PySem.W.kitx_tuple I.kIn ⟨o, h1, h2⟩ e (fun z => nomatch z) h
  | @dK a kvs ea =>
    cases (show u = Value.ref a from rx)
    obtain ⟨_, _, vs, _, p⟩ := (show ObjOk X.prog X.w H s.heap a (.dK kvs) from I.hok a _ ea)
    obtain ⟨o, es, ep, h1, h2, _⟩ := p
    exact PySem.W.kia_one PySem.W.kitx_dict I.kIn ⟨o, h1, h2.1⟩ e (fun z => nomatch z) h
  | @dT a kvs ea =>
    cases (show u = Value.ref a from rx)
    obtain ⟨_, _, xs, _, o, es, ep, h1, h2, _⟩ := (show ObjOk X.prog X.w H s.heap a (.dT kvs) from I.hok a _ ea)
    exact PySem.W.kia_one PySem.W.kitx_dict I.kIn ⟨o, h1, h2.1⟩ e (fun z => nomatch z) h
  | @ins a C dx fs ea cl ha hn htk hm =>
    cases (show u = Value.ref a from rx)
    obtain ⟨mA, O, _⟩ := ins_get I.hok ea
    obtain ⟨od, J, _⟩ := O.look
    exact PySem.W.kia_one (PySem.W.kitx_own (cl.get _) cl.hd ha hn htk hm) I.kIn J e (fun z => nomatch z) h
end
end L2

namespace L2
open PySem PySem.Spec PyProof.Rows

/-! ### room -/
structure Room (k : Nat) (A : Around) : Prop where
  hd : A.handled = none
  dp : A.depth + 3 * k + 5 < recursionLimit
  un : A.units + 16 * k + 200 < cLine
theorem Room.mono {j k : Nat} {A : Around} (r : Room k A) (h : j ≤ k) : Room j A := ⟨r.hd, by have := r.dp; omega, by have := r.un; omega⟩
theorem Room.deeper {k : Nat} {A : Around} (r : Room (k + 1) A) (env : Env) : Room k (A.deeper env) :=
  ⟨r.hd, by have := r.dp; show A.depth + 1 + 3 * k + 5 < _; omega, by have := r.un; show A.units + 3 + 16 * k + 200 < _; omega⟩
theorem Room.in1 {k : Nat} {A : Around} (r : Room (k + 1) A) : Room k A.in1 :=
  ⟨r.hd, by have := r.dp; show A.depth + 3 * k + 5 < _; omega, by have := r.un; show A.units + 1 + 16 * k + 200 < _; omega⟩
theorem make_depth {A : Around} {C : Addr} {us : List Value} {kw : List (Str × Value)} : (A.under (.builtin "type.__call__" ⟨.ref C :: us, kw⟩)).depth = A.depth + 1 := by
  first | rfl | simp [Around.under, Code.weight, Code.isCreation, Code.isGuard, Code.isCaller, Code.frames, Code.isFrame, guardIds]
theorem make_units {A : Around} {C : Addr} {us : List Value} {kw : List (Str × Value)} : (A.under (.builtin "type.__call__" ⟨.ref C :: us, kw⟩)).units = A.units + 1 := by
  first | rfl | simp [Around.under, Code.cUnits, Code.frames, Code.isFrame]
theorem Room.make {k : Nat} {A : Around} (r : Room (k + 1) A) (C : Addr) (us : List Value) (kw : List (Str × Value)) : Room k (A.under (.builtin "type.__call__" ⟨.ref C :: us, kw⟩)) :=
  ⟨r.hd, by have := r.dp; rw [make_depth]; omega, by have := r.un; rw [make_units]; omega⟩
theorem Room.depth {k : Nat} {A : Around} (r : Room k A) : A.depth < recursionLimit := by have := r.dp; omega
theorem Room.units {k : Nat} {A : Around} (r : Room k A) : A.units + 64 < cLine := by have := r.un; omega
theorem Room.units0 {k : Nat} {A : Around} (r : Room k A) : A.units < cLine := by have := r.un; omega

/-! ### argument lists and displays -/
def tNil : TA := fun _ H Q => Q [] H
def tCons (ta : TE) (tr : TA) : TA := fun σ H Q => ta σ H fun x H1 => tr σ H1 fun xs H2 => Q (x :: xs) H2
section
variable {X : Cx} {e : Expr} {es : List Expr} {te : TE} {t : TA} {pos : Pos}
theorem pa_nil : PA X [] tNil := fun _ _ _ _ H Q I h => Calls.spliced_nil ⟨[], H, I, .nil, h⟩
theorem pa_cons (ha : PE X e te) (hr : PA X es t) (hs : starEach (e :: es) X.env = (false, eval e X.env) :: starEach es X.env := by rfl) : PA X (e :: es) (tCons te t) := by
  intro pos pins s σ H Q I h
  rw [hs]
  show wpAny _ _ (spliced ((false, eval e X.env) :: backTo pos (starEach es X.env))) _ _ s
  refine Calls.spliced_cons (thn (ha pins s σ H _ I h) fun u s1 ⟨x, H1, I1, r1, q1⟩ => ?_)
  exact thn (hr pos pins s1 σ H1 _ I1 q1) fun us s2 ⟨xs, H2, I2, r2, q2⟩ => ⟨x :: xs, H2, I2, .cons r1 r2, q2⟩

/-- a tuple, a list of written items -/
def tTup (t : TA) : TE := fun σ H Q => t σ H fun xs H1 => xs.length ≤ sizeLine ∧ ∀ p, H1 p = none → Q (.ref p) (upd H1 p (.tup xs))
def tLst (t : TA) : TE := fun σ H Q => t σ H fun xs H1 => xs.length ≤ sizeLine ∧ ∀ p, H1 p = none → Q (.ref p) (upd H1 p (.lst xs))
theorem pe_tup {x1} (h : PA X es t) : PE X (.Tuple es x1 pos) (tTup t) := by
  intro pins s σ H Q I hq
  refine wpAny_Tuple_spliced (thn (h pos pins s σ H _ I hq) fun us s1 ⟨xs, H1, I1, r, z, q⟩ => ⟨by rw [← r.length]; exact z, ?_⟩)
  have hf : H1 s1.heap.objs.size = none := I1.hok.fresh (Nat.le_refl _)
  refine ⟨.ref s1.heap.objs.size, upd H1 s1.heap.objs.size (.tup xs), I1.laid (t' := s1.toks) (fun b u e => Heap.get?_push_of_some _ e) (Nat.le_refl _) ?_, rfl, q _ hf⟩
  exact ⟨z, us, r, ⟨_, Heap.get?_push_size _ rfl, rfl, _, rfl⟩⟩
theorem pe_lst (h : PA X es t) : PE X (.List es pos) (tLst t) := by
  intro pins s σ H Q I hq
  refine wpAny_List_spliced (thn (h pos pins s σ H _ I hq) fun us s1 ⟨xs, H1, I1, r, z, q⟩ => ⟨by rw [← r.length]; exact z, ?_⟩)
  have hf : H1 s1.heap.objs.size = none := I1.hok.fresh (Nat.le_refl _)
  refine ⟨.ref s1.heap.objs.size, upd H1 s1.heap.objs.size (.lst xs), I1.laid (t' := s1.toks) (fun b u e => Heap.get?_push_of_some _ e) (Nat.le_refl _) ?_, rfl, q _ hf⟩
  exact ⟨z, us, 0, r, Heap.get?_push_size _ rfl⟩
end

/-! ### what a def promises -/
/-- a def's promise: the bound arguments in the parameters' order, the heap, the wanted end, the wanted exception -/
abbrev Sp := List V → Hp → VK → XK → Prop
/-- how an exception lies behind a call (file 08 gives it): the callers' frames, abstract heap and state ahead of the call, the wish, the exception, the state -/
abbrev CXT := List Env → Hp → Shared → XK → Value → Shared → Prop

/-- the state at a call -/
structure Env0 (P : Program) (w : World) (K : PySem.W.Frag) (mg : Str → Option Value) (base : Heap) (A : Around) (outer : List Env) (s : Shared) (H : Hp) : Prop where
  frames : A.frames = some outer
  mod : Mod K mg base
  bs : ∀ b o, base.get? b = some o → s.heap.get? b = some o ∧ H b = none
  bsz : base.objs.size ≤ s.heap.objs.size
  funs : s.heap.FunFrames base outer
  frf : ∀ b ∈ frs outer, H b = none
  hok : HOk P w H s.heap
  bare : AllBare s.gens
/-- a call's end -/
def CE (outer : List Env) (P : Program) (w : World) (H : Hp) (s : Shared) (Q : VK) (u : Value) (s' : Shared) : Prop :=
  ∃ v H', s'.os = s.os ∧ AllBare s'.gens ∧ Un (frs outer) [] H H' s.heap s'.heap ∧ HOk P w H' s'.heap ∧ RelV v u ∧ Q v H'
def CR (CX : CXT) (outer : List Env) (P : Program) (w : World) (H : Hp) (s : Shared) (Q : VK) (E : XK) (r : Result) (s' : Shared) : Prop :=
  match r with
  | .ok (.ret u) => CE outer P w H s Q u s'
  | .ok _ => False
  | .error e => CX outer H s E e s'
structure FnOk (P : Program) (w : World) (K : PySem.W.Frag) (mg : Str → Option Value) (base : Heap) (CX : CXT) (k : Nat) (f : Addr) (fd : FuncData) (ps : List Str) (sp : Sp) : Prop where
  len : ∀ vs H Q E, sp vs H Q E → vs.length = ps.length
  run : ∀ (A : Around) (outer : List Env) (s : Shared) (H : Hp) (args : Args) (us : List Value) (vs : List V) (Q : VK) (E : XK), Room k A → Env0 P w K mg base A outer s H → BindsTo s fd args (ps.zip us) → Vals vs us → sp vs H Q E →
    codeAny (model P w) A (.call (.ref f) args) (CR CX outer P w H s Q E) s
theorem FnOk.mono {P : Program} {w : World} {K : PySem.W.Frag} {mg : Str → Option Value} {base : Heap} {CX : CXT} {j k : Nat} {f : Addr} {fd : FuncData} {ps : List Str} {sp : Sp} (F : FnOk P w K mg base CX j f fd ps sp) (h : j ≤ k) :
    FnOk P w K mg base CX k f fd ps sp := ⟨F.len, fun A outer s H args us vs Q E hr => F.run A outer s H args us vs Q E (hr.mono h)⟩
/-- a weaker promise -/
theorem FnOk.imp {P : Program} {w : World} {K : PySem.W.Frag} {mg : Str → Option Value} {base : Heap} {CX : CXT} {k : Nat} {f : Addr} {fd : FuncData} {ps : List Str} {sp sp' : Sp} (F : FnOk P w K mg base CX k f fd ps sp)
    (h : ∀ vs H Q E, sp' vs H Q E → sp vs H Q E) : FnOk P w K mg base CX k f fd ps sp' :=
  ⟨fun vs H Q E q => F.len vs H Q E (h _ _ _ _ q), fun A outer s H args us vs Q E hr he hb hv hs => F.run A outer s H args us vs Q E hr he hb hv (h _ _ _ _ hs)⟩

theorem Env0.make {P : Program} {w : World} {K : PySem.W.Frag} {mg : Str → Option Value} {base : Heap} {A : Around} {outer : List Env} {s : Shared} {H : Hp} (e : Env0 P w K mg base A outer s H) (C : Addr) (us : List Value) (kw : List (Str × Value)) :
    Env0 P w K mg base (A.under (.builtin "type.__call__" ⟨.ref C :: us, kw⟩)) outer s H := ⟨by first | exact e.frames | (simpa [Around.under, Code.envs, Code.isFrame, pushEnvs] using e.frames), e.mod, e.bs, e.bsz, e.funs, e.frf, e.hok, e.bare⟩
theorem Env0.in1 {P : Program} {w : World} {K : PySem.W.Frag} {mg : Str → Option Value} {base : Heap} {A : Around} {outer : List Env} {s : Shared} {H : Hp} (e : Env0 P w K mg base A outer s H) :
    Env0 P w K mg base A.in1 outer s H := ⟨e.frames, e.mod, e.bs, e.bsz, e.funs, e.frf, e.hok, e.bare⟩

section
variable {X : Cx} {pins : List (Addr × Obj)} {σ : St} {H : Hp} {s s' : Shared}
/-- from a body: what a callee wants -/
theorem Inv.env0 (I : Inv X pins σ H s) : Env0 X.prog X.w X.K X.mg X.base X.A X.stack s H :=
  ⟨I.ok.frames, I.ok.mod, I.bs, Nat.le_trans I.ok.bsz I.sz, I.stack, I.stkFree, I.hok, I.bare⟩
/-- behind a call -/
theorem Inv.after {Q : VK} {u : Value} (I : Inv X pins σ H s) (h : CE X.stack X.prog X.w H s Q u s') : EP X pins σ Q u s' := by
  obtain ⟨v, H', os, bare, un, hok, r, q⟩ := h
  obtain ⟨hh, g, d, t, os'⟩ := s'
  obtain rfl : os' = s.os := os
  exact ⟨v, H', I.call (h' := hh) (g' := g) (d' := d) (t' := t) (ch := []) un hok bare (fun b z => absurd z (by simp)), r, q⟩
end

/-! ### calls -/
/-- f(..): the written arguments, then the defaults dvs; E: what is wanted of an exception -/
def tCall (sp : Sp) (dvs : List V) (E : XK) (t : TA) : TE := fun σ H Q => t σ H fun vs H1 => sp (vs ++ dvs) H1 Q E
/-- o.m(..) of an instance of the class at C -/
def tMeth (C : Addr) (m : Str) (sp : Sp) (dvs : List V) (E : XK) (ta : TE) (t : TA) : TE := fun σ H Q => ta σ H fun x H1 => ∃ a dx fs, x = .ref a ∧ H1 a = some (.ins C dx fs) ∧ fs.lookup m = none ∧
  t σ H1 fun vs H2 => sp (x :: (vs ++ dvs)) H2 Q E
/-- C(..): a new instance and its dict, then __init__ -/
def tMake (C : Addr) (sp : Sp) (dvs : List V) (E : XK) (t : TA) : TE := fun σ H Q => t σ H fun vs H1 => ∀ x dx, H1 x = none → H1 dx = none → dx ≠ x →
  sp (.ref x :: (vs ++ dvs)) (upd (upd H1 dx (.own x)) x (.ins C dx [])) (fun v H2 => v = .non ∧ Q (.ref x) H2) E

/-- how the parameters are bound: us the positional arguments, kw the keywords' values by name, ds the defaults that fill up -/
def Binds (K : PySem.W.Frag) (fd : FuncData) (ps : List Str) (ds : List Value) : Prop :=
  ∀ (s : Shared) (us : List Value), K.In s.heap → (us ++ ds).length = ps.length → BindsTo s fd ⟨us, []⟩ (ps.zip (us ++ ds))
/-- every parameter is given -/
theorem Binds.all {K : PySem.W.Frag} {fd : FuncData} {ps : List Str} (h : ∀ us : List Value, us.length = ps.length → bindArgs fd ⟨us, []⟩ = pure (ps.zip us)) : Binds K fd ps [] := fun s us _ hl => by
  rw [List.append_nil] at hl ⊢
  exact .of_eq (h us hl)

/-- an exception of a callee reaches what this body wants of exceptions -/
def Passes (CX : CXT) (X : Cx) (E : XK) : Prop := ∀ (pins : List (Addr × Obj)) (σ : St) (H : Hp) (s : Shared) (e : Value) (s' : Shared), Inv X pins σ H s → CX X.stack H s E e s' → X.xe e s'

section
variable {X : Cx} {CX : CXT} {k : Nat} {f C : Addr} {fd : FuncData} {ps : List Str} {sp : Sp} {dvs : List V} {ds : List Value} {E : XK} {x m : Str} {p pos apos : Pos} {e o : Expr} {es : List Expr} {ta : TE} {t : TA}

/-- the callee runs -/
theorem run_fn {pins : List (Addr × Obj)} {σ : St} {H : Hp} {s : Shared} {Q : VK} {us : List Value} {vs : List V} (F : FnOk X.prog X.w X.K X.mg X.base CX k f fd ps sp) (hr : Room k X.A) (hb : Binds X.K fd ps ds) (hd : Vals dvs ds) (hx : Passes CX X E)
    (I : Inv X pins σ H s) (r : Vals vs us) (h : sp (vs ++ dvs) H Q E) : wpAny (model X.prog X.w) X.A (call (.ref f) us) (EP X pins σ Q) X.xe s := by
  have r2 : Vals (vs ++ dvs) (us ++ ds) := r.append hd
  have hl : (us ++ ds).length = ps.length := by rw [← r2.length]; exact F.len _ _ _ _ h
  refine wpAny_call (codeAny_mono (F.run X.A X.stack s H ⟨us, []⟩ (us ++ ds) (vs ++ dvs) Q E hr I.env0 (hb s us I.kIn hl) r2 h) fun r s' hq => ?_)
  cases r with
  | error e => exact hx pins σ H s e s' I hq
  | ok fl =>
    cases fl with
    | ret u => exact I.after hq
    | next => exact False.elim hq
    | brk => exact False.elim hq
    | cont => exact False.elim hq

theorem pe_call (F : FnOk X.prog X.w X.K X.mg X.base CX k f fd ps sp) (hr : Room k X.A) (hg : Gl X x) (hm : X.mg x = some (.ref f)) (hk : PySem.W.keepIn X.K (.ref f) = true) (hb : Binds X.K fd ps ds) (hd : Vals dvs ds) (hx : Passes CX X E)
    (ha : PA X (e :: es) t) (hdb : (x == ("__debug__" : Str)) = false := by decide) (he : starEach (e :: es) X.env = (false, eval e X.env) :: starEach es X.env := by rfl) (hpl : (backTo pos (starEach es X.env)).any (·.1) = false := by rfl) :
    PE X (.Call (.Name x p) (e :: es) [] pos) (tCall sp dvs E t) := by
  intro pins s σ H Q I h
  refine wpAny_Call_Name_kw (ld_glob I hg hm ?_ hdb)
  refine PySem.W.callWith_K (h₀ := X.base) I.ok.mod.kin hk (thn (ha pos pins s σ H _ I h) fun us s1 ⟨vs, H1, I1, r, q⟩ => ⟨I1.kIn, ?_⟩) he hpl
  exact run_fn F hr hb hd hx I1 r q
theorem pe_call0 (F : FnOk X.prog X.w X.K X.mg X.base CX k f fd ps sp) (hr : Room k X.A) (hg : Gl X x) (hm : X.mg x = some (.ref f)) (hk : PySem.W.keepIn X.K (.ref f) = true) (hb : Binds X.K fd ps ds) (hd : Vals dvs ds) (hx : Passes CX X E)
    (hdb : (x == ("__debug__" : Str)) = false := by decide) : PE X (.Call (.Name x p) [] [] pos) (tCall sp dvs E tNil) := by
  intro pins s σ H Q I h
  refine wpAny_Call_Name_kw (ld_glob I hg hm ?_ hdb)
  exact PySem.W.callWith_K0 I.kIn hk (run_fn (us := []) F hr hb hd hx I .nil h)

/-- o.m(e, ..) -/
theorem pe_meth {pl : Sem Bool} (he : PE X o ta) (c : Cls X.K C) (hm : Meth X.K C m f) (F : FnOk X.prog X.w X.K X.mg X.base CX k f fd ps sp) (hr : Room k X.A) (hb : Binds X.K fd ps ds) (hd : Vals dvs ds) (hx : Passes CX X E) (ha : PA X (e :: es) t)
    (hst : starEach (e :: es) X.env = (false, eval e X.env) :: starEach es X.env := by rfl) (hpl : (backTo pos (starEach es X.env)).any (·.1) = false := by rfl)
    (ht : eval (.Call (.Attribute o m apos) (e :: es) [] pos) X.env = (do
      let ov ← eval o X.env
      standAt apos.atName
      let (f, first) ← holding [ov] (getMethod ov m pl)
      callWith pos f first (backTo pos (starEach (e :: es) X.env)) (backToKw pos (keywordEach [] X.env))) := by rfl) :
    PE X (.Call (.Attribute o m apos) (e :: es) [] pos) (tMeth C m sp dvs E ta t) := by
  intro pins s σ H Q I h
  refine PySem.W.methodCall_KW (pl := pl) (thn (he pins s σ H _ I h) fun u s1 ⟨x, H1, I1, rx, a, dx, fs, ex, ea, l, q⟩ => ?_) ht
  subst ex
  obtain rfl : u = Value.ref a := rx
  refine getmeth_ok I1 ea c hm l ?_
  refine PySem.W.callWith_K (first := [.ref a]) (h₀ := X.base) I.ok.mod.kin hm.kp (thn (ha pos pins s1 σ H1 _ I1 q) fun us s2 ⟨vs, H2, I2, r, q2⟩ => ⟨I2.kIn, ?_⟩) hst hpl
  exact run_fn (us := .ref a :: us) (vs := .ref a :: vs) F hr hb hd hx I2 (.cons rfl r) q2
/-- o.m() -/
theorem pe_meth0 {pl : Sem Bool} (he : PE X o ta) (c : Cls X.K C) (hm : Meth X.K C m f) (F : FnOk X.prog X.w X.K X.mg X.base CX k f fd ps sp) (hr : Room k X.A) (hb : Binds X.K fd ps ds) (hd : Vals dvs ds) (hx : Passes CX X E)
    (ht : eval (.Call (.Attribute o m apos) [] [] pos) X.env = (do
      let ov ← eval o X.env
      standAt apos.atName
      let (f, first) ← holding [ov] (getMethod ov m pl)
      callWith pos f first (backTo pos (starEach [] X.env)) (backToKw pos (keywordEach [] X.env))) := by rfl) :
    PE X (.Call (.Attribute o m apos) [] [] pos) (tMeth C m sp dvs E ta tNil) := by
  intro pins s σ H Q I h
  refine PySem.W.methodCall_KW (pl := pl) (thn (he pins s σ H _ I h) fun u s1 ⟨x, H1, I1, rx, a, dx, fs, ex, ea, l, q⟩ => ?_) ht
  subst ex
  obtain rfl : u = Value.ref a := rx
  refine getmeth_ok I1 ea c hm l ?_
  exact PySem.W.callWith_K0 (first := [.ref a]) I1.kIn hm.kp (run_fn (us := [.ref a]) (vs := [.ref a]) F hr hb hd hx I1 (.cons rfl .nil) q)

/-- what a class must have to be made -/
structure Mk (K : PySem.W.Frag) (C f : Addr) : Prop where
  makes : PySem.W.makesIn K C = true
  init : PySem.W.findIn K (.ref C) "__init__" = some (some (.ref f))
  fn : PySem.W.isFn K (.ref f) = true
  kp : PySem.W.keepIn K (.ref C) = true

theorem run_make {pins : List (Addr × Obj)} {σ : St} {H : Hp} {s : Shared} {Q : VK} {us : List Value} {vs : List V} (M : Mk X.K C f) (F : FnOk X.prog X.w X.K X.mg X.base CX k f fd ps sp) (hr : Room (k + 1) X.A) (hb : Binds X.K fd ps ds) (hd : Vals dvs ds)
    (hx : Passes CX X E) (I : Inv X pins σ H s) (r : Vals vs us)
    (h : ∀ x dx, H x = none → H dx = none → dx ≠ x → sp (.ref x :: (vs ++ dvs)) (upd (upd H dx (.own x)) x (.ins C dx [])) (fun v H2 => v = .non ∧ Q (.ref x) H2) E) :
    wpAny (model X.prog X.w) X.A (call (.ref C) us) (EP X pins σ Q) X.xe s := by
  have hq := h (s.heap.objs.size + 1) s.heap.objs.size (I.hok.fresh (Nat.le_succ _)) (I.hok.fresh (Nat.le_refl _)) (Nat.ne_of_lt (Nat.lt_succ_self _))
  have I2 := Inv.made (C := C) I
  have r2 : Vals (V.ref (s.heap.objs.size + 1) :: (vs ++ dvs)) (Value.ref (s.heap.objs.size + 1) :: (us ++ ds)) := .cons rfl (r.append hd)
  have hl : (Value.ref (s.heap.objs.size + 1) :: us ++ ds).length = ps.length := by
    have e := r2.length
    rw [F.len _ _ _ _ hq] at e
    exact e.symm
  refine wpAny_call (make_map (f := f) I.kIn M.makes M.init (beq_iff_eq.mp M.fn) (codeAny_mono (F.run _ X.stack _ _ ⟨Value.ref (s.heap.objs.size + 1) :: us, []⟩ (Value.ref (s.heap.objs.size + 1) :: (us ++ ds)) _ _ E (hr.make C us [])
    (I2.env0.make C us []) (hb _ (Value.ref (s.heap.objs.size + 1) :: us) I2.kIn hl) r2 hq) fun r s' hq' => ?_))
  cases r with
  | error e => exact hx pins σ _ _ e s' I2 hq'
  | ok fl =>
    cases fl with
    | ret u =>
      obtain ⟨v, H', I3, rv, ev, q3⟩ := I2.after hq'
      subst ev
      exact ⟨rv, ⟨V.ref (s.heap.objs.size + 1), H', I3, rfl, q3⟩⟩
    | next => exact False.elim hq'
    | brk => exact False.elim hq'
    | cont => exact False.elim hq'
theorem pe_make (M : Mk X.K C f) (F : FnOk X.prog X.w X.K X.mg X.base CX k f fd ps sp) (hr : Room (k + 1) X.A) (hg : Gl X x) (hm : X.mg x = some (.ref C)) (hb : Binds X.K fd ps ds) (hd : Vals dvs ds) (hx : Passes CX X E)
    (ha : PA X (e :: es) t) (hdb : (x == ("__debug__" : Str)) = false := by decide) (he : starEach (e :: es) X.env = (false, eval e X.env) :: starEach es X.env := by rfl) (hpl : (backTo pos (starEach es X.env)).any (·.1) = false := by rfl) :
    PE X (.Call (.Name x p) (e :: es) [] pos) (tMake C sp dvs E t) := by
  intro pins s σ H Q I h
  refine wpAny_Call_Name_kw (ld_glob I hg hm ?_ hdb)
  refine PySem.W.callWith_K (h₀ := X.base) I.ok.mod.kin M.kp (thn (ha pos pins s σ H _ I h) fun us s1 ⟨vs, H1, I1, r, q⟩ => ⟨I1.kIn, ?_⟩) he hpl
  exact run_make M F hr hb hd hx I1 r q
theorem pe_make0 (M : Mk X.K C f) (F : FnOk X.prog X.w X.K X.mg X.base CX k f fd ps sp) (hr : Room (k + 1) X.A) (hg : Gl X x) (hm : X.mg x = some (.ref C)) (hb : Binds X.K fd ps ds) (hd : Vals dvs ds) (hx : Passes CX X E)
    (hdb : (x == ("__debug__" : Str)) = false := by decide) : PE X (.Call (.Name x p) [] [] pos) (tMake C sp dvs E tNil) := by
  intro pins s σ H Q I h
  refine wpAny_Call_Name_kw (ld_glob I hg hm ?_ hdb)
  exact PySem.W.callWith_K0 I.kIn M.kp (run_make (us := []) M F hr hb hd hx I .nil h)
end

/-! ### keywords -/
/-- the values of the keywords, from the left -/
def PK (X : Cx) (kws : List Keyword) (t : TA) : Prop :=
  ∀ (pos : Pos) (pins : List (Addr × Obj)) (s : Shared) (σ : St) (H : Hp) (Q : List V → Hp → Prop), Inv X pins σ H s → t σ H Q → wpAny (model X.prog X.w) X.A (evalAll ((backToKw pos (keywordEach kws X.env)).map (·.2))) (AP X pins σ Q) X.xe s
section
variable {X : Cx} {CX : CXT} {k : Nat} {f C : Addr} {fd : FuncData} {ps ks : List Str} {sp : Sp} {E : XK} {x m : Str} {p pos apos kpos : Pos} {e o : Expr} {es : List Expr} {kws : List Keyword} {te ta : TE} {t tk : TA} {nm : Option Str}
theorem pk_nil : PK X [] tNil := fun _ _ _ _ H Q I h => wpAny_evalAll_nil ⟨[], H, I, .nil, h⟩
theorem pk_cons (ha : PE X e te) (hr : PK X kws t) : PK X (⟨nm, e, kpos⟩ :: kws) (tCons te t) := by
  intro pos pins s σ H Q I h
  show wpAny _ _ (evalAll ((do let v ← eval e X.env; standAt pos; pure v) :: (backToKw pos (keywordEach kws X.env)).map (·.2))) _ _ s
  refine wpAny_evalAll_cons (wpAny_bind (thn (ha pins s σ H _ I h) fun u s1 ⟨x, H1, I1, r1, q1⟩ => wpAny_bind (wpAny_standAt (wpAny_pure ?_))))
  exact thn (hr pos pins s1 σ H1 _ I1 q1) fun us s2 ⟨xs, H2, I2, r2, q2⟩ => ⟨x :: xs, H2, I2, .cons r1 r2, q2⟩

/-- how a call with keywords binds: g puts the positional values us and the keywords' values ws (names ks) in the parameters' order, defaults among them -/
structure KBinds (K : PySem.W.Frag) (fd : FuncData) (ps ks : List Str) (g : List Value → List Value → List Value) (gV : List V → List V → List V) : Prop where
  to : ∀ (s : Shared) (us ws : List Value), K.In s.heap → (g us ws).length = ps.length → BindsTo s fd ⟨us, ks.zip ws⟩ (ps.zip (g us ws))
  rel : ∀ {vs : List V} {us : List Value} {zs : List V} {ws : List Value}, Vals vs us → Vals zs ws → Vals (gV vs zs) (g us ws)
def tCallK (sp : Sp) (gV : List V → List V → List V) (E : XK) (t tk : TA) : TE := fun σ H Q => t σ H fun vs H1 => tk σ H1 fun zs H2 => sp (gV vs zs) H2 Q E
variable {g : List Value → List Value → List Value} {gV : List V → List V → List V}
theorem run_fnk {pins : List (Addr × Obj)} {σ : St} {H : Hp} {s : Shared} {Q : VK} {us ws : List Value} {vs zs : List V} (F : FnOk X.prog X.w X.K X.mg X.base CX k f fd ps sp) (hr : Room k X.A) (hb : KBinds X.K fd ps ks g gV) (hx : Passes CX X E)
    (I : Inv X pins σ H s) (r : Vals vs us) (rz : Vals zs ws) (h : sp (gV vs zs) H Q E) : wpAny (model X.prog X.w) X.A (call (.ref f) us (ks.zip ws)) (EP X pins σ Q) X.xe s := by
  have r2 := hb.rel r rz
  have hl : (g us ws).length = ps.length := by rw [← r2.length]; exact F.len _ _ _ _ h
  refine wpAny_call (codeAny_mono (F.run X.A X.stack s H ⟨us, ks.zip ws⟩ (g us ws) (gV vs zs) Q E hr I.env0 (hb.to s us ws I.kIn hl) r2 h) fun r s' hq => ?_)
  cases r with
  | error e => exact hx pins σ H s e s' I hq
  | ok fl =>
    cases fl with
    | ret u => exact I.after hq
    | next => exact False.elim hq
    | brk => exact False.elim hq
    | cont => exact False.elim hq
/-- f(e, .., k = v, ..) -/
theorem pe_callK (F : FnOk X.prog X.w X.K X.mg X.base CX k f fd ps sp) (hr : Room k X.A) (hg : Gl X x) (hm : X.mg x = some (.ref f)) (hk : PySem.W.keepIn X.K (.ref f) = true) (hb : KBinds X.K fd ps ks g gV) (hx : Passes CX X E)
    (ha : PA X (e :: es) t) (hkw : PK X kws tk) (hall : (backToKw pos (keywordEach kws X.env)).all (·.1.isSome) = true := by rfl) (hks : (backToKw pos (keywordEach kws X.env)).filterMap (·.1) = ks := by rfl)
    (hdb : (x == ("__debug__" : Str)) = false := by decide) (he : starEach (e :: es) X.env = (false, eval e X.env) :: starEach es X.env := by rfl)
    (hpl : ((backTo pos (starEach (e :: es) X.env)).any (·.1) || (backToKw pos (keywordEach kws X.env)).any (·.1.isNone)) = false := by rfl) :
    PE X (.Call (.Name x p) (e :: es) kws pos) (tCallK sp gV E t tk) := by
  intro pins s σ H Q I h
  refine wpAny_Call_Name_kw (ld_glob I hg hm ?_ hdb)
  refine PySem.W.callWith_KW (h₀ := X.base) I.ok.mod.kin hk hall (thn (ha pos pins s σ H _ I h) fun us s1 ⟨vs, H1, I1, r, q⟩ => ?_) hpl he
  refine thn (hkw pos pins s1 σ H1 _ I1 q) fun ws s2 ⟨zs, H2, I2, rz, q2⟩ => ⟨I2.kIn, ?_⟩
  rw [hks]
  exact run_fnk F hr hb hx I2 r rz q2
end

/-! ### a def's body keeps its promise -/
/-- names: the parameters first -/
structure FnScope (N P : List Str) (sc : Scope) : Prop where
  kind : sc.kind = .function
  co : sc.isCoroutine = false
  gen : sc.isGenerator = false
  nd : N.Nodup
  pre : N.take P.length = P
  par : ∀ x ∈ P, sc.names.lookup x = some .local ∨ sc.names.lookup x = some .cell
  nofree : ∀ y ∈ sc.names, y.2 ≠ .free

theorem bindL_out {kindOf : Str → Option NameKind} {x : Str} : ∀ {binds : List (Str × Value)} {m : Str → Option Value}, (∀ v, (x, v) ∉ binds) → bindL kindOf binds m x = m x
  | [], _, _ => rfl
  | (n, v) :: r, m, h => by
    unfold bindL
    rw [bindL_out fun w hw => h w (List.mem_cons_of_mem _ hw)]
    split
    · have : x ≠ n := by rintro rfl; exact h v List.mem_cons_self
      simp [this]
    · rfl
theorem bindC_out {kindOf : Str → Option NameKind} {x : Str} : ∀ {binds : List (Str × Value)} {m : Str → Option Value}, (∀ v, (x, v) ∉ binds) → bindC kindOf binds m x = m x
  | [], _, _ => rfl
  | (n, v) :: r, m, h => by
    unfold bindC
    rw [bindC_out fun w hw => h w (List.mem_cons_of_mem _ hw)]
    split
    · rfl
    · have : x ≠ n := by rintro rfl; exact h v List.mem_cons_self
      simp [this]
theorem bindL_get {kindOf : Str → Option NameKind} {x : Str} {v : Value} : ∀ {P : List Str} {vs : List Value} {i : Nat} {m : Str → Option Value}, P.Nodup → P[i]? = some x → vs[i]? = some v → kindOf x = some .local →
    bindL kindOf (P.zip vs) m x = some v
  | [], _, _, _, _, h, _, _ => by simp at h
  | _ :: _, [], _, _, _, _, h, _ => by simp at h
  | p :: P, w :: vs, 0, m, nd, h1, h2, hk => by
    simp at h1 h2; subst h1; subst h2
    show bindL kindOf ((p, w) :: P.zip vs) m p = _
    unfold bindL
    rw [bindL_out fun v hv => (List.nodup_cons.mp nd).1 (List.of_mem_zip hv).1, if_pos hk]
    simp
  | p :: P, w :: vs, i + 1, m, nd, h1, h2, hk => by
    show bindL kindOf ((p, w) :: P.zip vs) m x = _
    unfold bindL
    exact bindL_get (i := i) (List.nodup_cons.mp nd).2 (by simpa using h1) (by simpa using h2) hk
theorem bindC_get {kindOf : Str → Option NameKind} {x : Str} {v : Value} : ∀ {P : List Str} {vs : List Value} {i : Nat} {m : Str → Option Value}, P.Nodup → P[i]? = some x → vs[i]? = some v → kindOf x ≠ some .local →
    bindC kindOf (P.zip vs) m x = some v
  | [], _, _, _, _, h, _, _ => by simp at h
  | _ :: _, [], _, _, _, _, h, _ => by simp at h
  | p :: P, w :: vs, 0, m, nd, h1, h2, hk => by
    simp at h1 h2; subst h1; subst h2
    show bindC kindOf ((p, w) :: P.zip vs) m p = _
    unfold bindC
    rw [bindC_out fun v hv => (List.nodup_cons.mp nd).1 (List.of_mem_zip hv).1, if_neg hk]
    simp
  | p :: P, w :: vs, i + 1, m, nd, h1, h2, hk => by
    show bindC kindOf ((p, w) :: P.zip vs) m x = _
    unfold bindC
    exact bindC_get (i := i) (List.nodup_cons.mp nd).2 (by simpa using h1) (by simpa using h2) hk

/-- the names' values at the entry -/
def start (N : List Str) (vs : List V) : St := vs.map some ++ List.replicate (N.length - vs.length) none

/-- the context of a def's body, at its entry; an exception leaves the frame, then lies as CX says -/
def cxOf (CX : CXT) (P : Program) (w : World) (K : PySem.W.Frag) (mg : Str → Option Value) (base : Heap) (N : List Str) (qual : Str) (scope : Scope) (f : Addr) (cd : Value) (A : Around) (outer : List Env) (s : Shared) (H : Hp) (E : XK) : Cx where
  prog := P
  w := w
  K := K
  mg := mg
  base := base
  A := A.deeper (envOfC qual scope s.heap.objs.size f cd)
  N := N
  s₀ := s
  H₀ := H
  env := envOfC qual scope s.heap.objs.size f cd
  outer := outer
  stack := envOfC qual scope s.heap.objs.size f cd :: outer
  ex := []
  calm := true
  fn := fun _ => true
  pn := []
  xe := fun e s' => wpAny (model P w) (A.deeper (envOfC qual scope s.heap.objs.size f cd)) (leaving (envOfC qual scope s.heap.objs.size f cd) e) (fun _ s'' => CX outer H s E e s'') (fun e' s'' => CX outer H s E e' s'') s'

theorem cell_has {sc : Scope} {n : Nat} {x : Str} (h : sc.names.lookup x = some .cell) : ∃ c, (cellsFrom n sc.names []).lookup x = some c := by
  have q := PySem.W.cellsFrom_some sc.names n [] (.inl h)
  exact Option.isSome_iff_exists.mp q

theorem inv_start {CX : CXT} {P : Program} {w : World} {K : PySem.W.Frag} {mg : Str → Option Value} {base : Heap} {N ps : List Str} {qual : Str} {scope : Scope} {f : Addr} {cd : Value} {A : Around} {outer : List Env} {s s1 : Shared} {H : Hp} {E : XK} {us : List Value} {vs : List V}
    (S : FnScope N ps scope) (hd : A.handled = none) (e0 : Env0 P w K mg base A outer s H) (hl : vs.length = ps.length) (r : Vals vs us)
    (x : InCallC s s.heap.objs.size (bindL (envOfC qual scope s.heap.objs.size f cd).kindOf (ps.zip us) fun _ => none) (cellsFrom (s.heap.objs.size + 1) scope.names []) (bindC (envOfC qual scope s.heap.objs.size f cd).kindOf (ps.zip us) fun _ => none) s1) :
    Inv (cxOf CX P w K mg base N qual scope f cd A outer s H E) [] (start N vs) H s1 := by
  have hpl : ps.length ≤ N.length := by have := congrArg List.length S.pre; rw [List.length_take] at this; omega
  obtain ⟨h1, tk, rfl, hk⟩ := x.done
  have noA : ∀ b : Addr, b ∉ (cxOf CX P w K mg base N qual scope f cd A outer s H E).ex := fun b z => absurd (show b ∈ ([] : List Addr) from z) (by simp)
  refine ⟨⟨e0.mod, S.kind, rfl, rfl, Nat.le_refl _, fun y z c h1 h2 => ?_, fun y hy => ?_, fun y c _ h => ?_, fun _ => hd, Around.frames_deeper e0.frames, .inr ⟨rfl, rfl⟩, fun b z => absurd z (noA b), e0.bs, e0.bsz, fun b _ _ => noA b, fun b z => absurd z (noA b), e0.funs, e0.frf⟩,
    rfl, e0.bare, Un.kept hk, ⟨_, x.toInCall.ns, fun i y v h1 h2 h3 => ?_⟩, fun y c h => ⟨_, x.cell y c h⟩, e0.hok.fresh (Nat.le_refl _), fun y c h => ?_, fun p hp => absurd (show p ∈ ([] : List (Addr × Obj)) from hp) (by simp), e0.hok.kept hk, ?_⟩
  · exact name_of_addr x.apart (PySem.mem_of_lookup h1) (PySem.mem_of_lookup h2)
  · have hy : scope.names.lookup y = some .cell ∨ scope.names.lookup y = some .free := hy
    rcases hy with hy | hy
    · exact cell_has hy
    · exact absurd rfl (S.nofree _ (PySem.mem_of_lookup hy))
  · exact Nat.le_of_lt (x.above y c (PySem.mem_of_lookup h))
  · have hi : i < vs.length := by
      unfold start at h2
      by_cases hi : i < vs.length
      · exact hi
      · rw [List.getElem?_append_right (by simpa using hi)] at h2
        rw [List.getElem?_replicate] at h2
        split at h2 <;> cases h2
    have ha : vs[i]? = some v := by
      unfold start at h2
      rw [List.getElem?_append_left (by simpa using hi), List.getElem?_map] at h2
      cases e : vs[i]? with
      | none => rw [e] at h2; cases h2
      | some a => rw [e] at h2; cases h2; rfl
    obtain ⟨u, hu, rv⟩ := r.get ha
    have hp : ps[i]? = some y := by
      rw [← S.pre, List.getElem?_take_of_lt (by omega)]; exact h1
    have ndP : ps.Nodup := by rw [← S.pre]; exact S.nd.sublist (List.take_sublist _ _)
    refine ⟨u, rv, ?_⟩
    rcases S.par y (List.mem_of_getElem? hp) with k | k
    · exact .inl ⟨k, bindL_get ndP hp hu k⟩
    · obtain ⟨c, e⟩ := cell_has (n := s.heap.objs.size + 1) k
      refine .inr ⟨.inl k, c, e, ?_⟩
      have q := x.cell y c e
      rw [bindC_get ndP hp hu (by show scope.names.lookup y ≠ _; rw [k]; decide)] at q
      exact q
  · exact e0.hok.fresh (Nat.le_of_lt (x.above y c (PySem.mem_of_lookup h)))
  · unfold start
    show _ = N.length
    rw [List.length_append, List.length_map, List.length_replicate]
    omega

/-- THE RULE: a def (or a method) of the text, by its body. The body's reading t is chosen for each entry; it is run at the parameters' values -/
theorem fn_of {CX : CXT} {P : Program} {w : World} {K : PySem.W.Frag} {mg : Str → Option Value} {base : Heap} {k : Nat} {f : Addr} {name qual : Str} {params : Arguments} {body : List Stmt} {scope : Scope} {dV kV doc pm cdv ct oc : Value} {an od : Option Addr}
    {osl : Array (Option Value)} {N ps : List Str} {sp : Sp} (lk : K.lookup f = some ⟨oc, od, .func (PySem.W.fnOf name qual params body scope dV kV doc pm an cdv ct), osl⟩) (hcd : PySem.W.codeIn K cdv qual = true) (S : FnScope N ps scope)
    (len : ∀ vs H Q E, sp vs H Q E → vs.length = ps.length)
    (hbody : ∀ (A : Around) (outer : List Env) (s : Shared) (H : Hp) (vs : List V) (Q : VK) (E : XK), Room k (A.deeper (envOfC qual scope s.heap.objs.size f cdv)) → sp vs H Q E →
      ∃ t, PSs (cxOf CX P w K mg base N qual scope f cdv A outer s H E) body t ∧ t { nx := fun _ H' => Q .non H', rt := Q } (start N vs) H) :
    FnOk P w K mg base CX (k + 1) f (PySem.W.fnOf name qual params body scope dV kV doc pm an cdv ct) ps sp := by
  refine ⟨len, fun A outer s H args us vs Q E hr e0 hb r hsp => ?_⟩
  have hl := len _ _ _ _ hsp
  have KX : K.In s.heap := e0.mod.kin.keeps fun b o e => (e0.bs b o e).1
  have lim : s.heap.NoLimit := e0.mod.nolimit.keeps fun b o e => (e0.bs b o e).1
  have hkind : ∀ y ∈ ps.zip us, scope.names.lookup y.1 = some .local ∨ (scope.names.lookup y.1 = some .cell ∧ ((cellsFrom (s.heap.objs.size + 1) scope.names []).lookup y.1).isSome = true) := fun ⟨n, v⟩ hy => by
    rcases S.par n (List.of_mem_zip hy).1 with q | q
    · exact .inl q
    · exact .inr ⟨q, PySem.W.cellsFrom_some _ _ _ (.inl q)⟩
  refine codeAny_call_function hr.depth (KX _ _ lk) rfl S.co S.gen rfl (PySem.W.codeRec_of KX hcd) (hb _ _ _ _ ?_)
  refine wpAny_newFunctionEnv_cells S.kind hkind fun env he s1 x => ?_
  subst he
  refine ⟨lim.keeps x.toInCall.keep, codeAny_func ?_⟩
  obtain ⟨t, ht, hq⟩ := hbody A outer s H vs Q E (hr.deeper _) hsp
  have I : Inv (cxOf CX P w K mg base N qual scope f cdv A outer s H E) [] (start N vs) H s1 := inv_start S hr.hd e0 hl r x
  refine wpAny_mono (ht [] s1 (start N vs) H _ I hq) (fun fl s' hs => ?_) fun e s' hs => hs
  have fin : ∀ {σ' : St} {H' : Hp} {v : V} {u : Value}, Inv (cxOf CX P w K mg base N qual scope f cdv A outer s H E) [] σ' H' s' → RelV v u → Q v H' → CE outer P w H s Q u s' :=
    fun {σ' H' v u} J rv q => ⟨v, H', J.os, J.bare, J.base, J.hok, rv, q⟩
  cases fl with
  | ret u =>
    obtain ⟨v, σ', H', J, rv, q⟩ := hs
    exact fin J rv q
  | next =>
    obtain ⟨σ', H', J, q⟩ := hs
    exact fin (v := V.non) (u := Value.none) J rfl q
  | brk =>
    obtain ⟨_, _, _, q⟩ := hs
    exact False.elim q
  | cont =>
    obtain ⟨_, _, _, q⟩ := hs
    exact False.elim q
end L2

namespace L2
open PySem PySem.Spec PyProof.Rows
section
variable {X : Cx} {x : Str} {p pos : Pos} {e : Expr} {es : List Expr} {t : TA} {id T : String} {r : List V → Hp → VK → Prop}

def tCB (r : List V → Hp → VK → Prop) (t : TA) : TE := fun σ H Q => t σ H fun vs H1 => r vs H1 Q
/-- f(e, ..), f a built-in function -/
theorem pe_callB (hc : CallR X (.builtin id) r) (hg : Gl X x) (hm : X.mg x = none) (hv : bootBuiltins x = some (.builtin id)) (ha : PA X (e :: es) t) (hn : x ≠ "__name__" := by decide) (hdb : (x == ("__debug__" : Str)) = false := by decide)
    (he : starEach (e :: es) X.env = (false, eval e X.env) :: starEach es X.env := by rfl) (hpl : (backTo pos (starEach es X.env)).any (·.1) = false := by rfl) : PE X (.Call (.Name x p) (e :: es) [] pos) (tCB r t) := by
  intro pins s σ H Q I h
  refine wpAny_Call_Name_kw (ld_blt I hg hm hv ?_ hn hdb)
  exact PyProof.Rows.callWith_builtin1 (thn (ha pos pins s σ H _ I h) fun us s1 ⟨vs, H1, I1, r1, q1⟩ => hc pins s1 σ H1 vs us Q I1 r1 q1) he hpl
/-- T(e, ..), T a built-in type -/
theorem pe_callTy (hc : CallR X (.type T) r) (hg : Gl X x) (hm : X.mg x = none) (hv : bootBuiltins x = some (.type T)) (ha : PA X (e :: es) t) (hn : x ≠ "__name__" := by decide) (hdb : (x == ("__debug__" : Str)) = false := by decide)
    (he : starEach (e :: es) X.env = (false, eval e X.env) :: starEach es X.env := by rfl) (hpl : (backTo pos (starEach es X.env)).any (·.1) = false := by rfl) : PE X (.Call (.Name x p) (e :: es) [] pos) (tCB r t) := by
  intro pins s σ H Q I h
  refine wpAny_Call_Name_kw (ld_blt I hg hm hv ?_ hn hdb)
  exact PyProof.Rows.callWith_type1 (thn (ha pos pins s σ H _ I h) fun us s1 ⟨vs, H1, I1, r1, q1⟩ => hc pins s1 σ H1 vs us Q I1 r1 q1) he hpl
/-- T() -/
theorem pe_callTy0 (hc : CallR X (.type T) r) (hg : Gl X x) (hm : X.mg x = none) (hv : bootBuiltins x = some (.type T)) (hn : x ≠ "__name__" := by decide) (hdb : (x == ("__debug__" : Str)) = false := by decide) :
    PE X (.Call (.Name x p) [] [] pos) (tCB r tNil) := by
  intro pins s σ H Q I h
  refine wpAny_Call_Name_kw (ld_blt I hg hm hv ?_ hn hdb)
  exact PyProof.Rows.callWith_type0 (hc pins s σ H [] [] Q I .nil h)
end
end L2

namespace HT
open PySem PyProof.Rows

/-- t < u of tuples of ints -/
def lexLt : List Int → List Int → Bool
  | [], [] => false
  | [], _ :: _ => true
  | _ :: _, [] => false
  | x :: xs, y :: ys => if x = y then lexLt xs ys else decide (x < y)
theorem lexLt_cons (x y : Int) (xs ys : List Int) : lexLt (x :: xs) (y :: ys) = if x = y then lexLt xs ys else decide (x < y) := rfl
theorem lexLt_nil_nil : lexLt [] [] = false := rfl
theorem lexLt_nil_cons (y : Int) (ys : List Int) : lexLt [] (y :: ys) = true := rfl
theorem lexLt_cons_nil (x : Int) (xs : List Int) : lexLt (x :: xs) [] = false := rfl

theorem eqAt_int (A : Around) (s : Shared) (a : Int) (t : Tok) (c : Int) (u : Tok) : ∃ e, SeqAt.EqAt A s (.int a t) (.int c u) e ∧ (e = true ↔ a = c) :=
  ⟨(a == c), SeqAt.EqAt.int_int a t c u, by simp⟩
theorem rcLt_int (A : Around) (s : Shared) (a : Int) (t : Tok) (c : Int) (u : Tok) (prog : Program) (w : World) (E : Value → Shared → Prop) (Q : Value → Shared → Prop) (h : Q (.bool (decide (a < c))) s) :
    wpAny (model prog w) A (richCompare .Lt (.int a t) (.int c u)) Q E s :=
  (PyProof.Rows.lt_int h : wpAny (model prog w) A (compareOp .Lt (.int a t) (.int c u)) Q E s)

section
open PySem.SeqAt
open PySem.AutoSeq1 (wpAny_loadPart')
open PySem.MeetsSeq PySem.MeetsSeq2 PySem.MeetsSeq3

theorem tuple_lt_ints (l b : Addr) (items items2 : Array Value) (n n2 : Nat) (dd dd2 : Option Addr) (sl sl2 : Array (Option Value)) (ns ms : List Int) (hi : IntsAre items.toList ns) (hj : IntsAre items2.toList ms) :
    Meets (Builtin.«tuple.__lt__» ⟨[.ref l, .ref b], []⟩)
      (fun _ R s => s.heap.get? l = some { cls := .type "tuple", dict := dd, data := .seq items n, slots := sl } ∧ s.heap.get? b = some { cls := .type "tuple", dict := dd2, data := .seq items2 n2, slots := sl2 } ∧
        R (.ok (.ret (.bool (lexLt ns ms)))) s) :=
  .of_wp fun prog w A R s h => by
    obtain ⟨hp, g, d, tk, os⟩ := s; obtain ⟨hl, hb, h⟩ := h
    have f2 := AutoSeq1.sub_tuple_tuple
    have z1 : items.size = ns.length := by rw [← hi.length]; simp
    have z2 : items2.size = ms.length := by rw [← hj.length]; simp
    wp_walk using wpAny_loadPart' hl, wpAny_loadPart' hb, wpAny_forIn_list _ (fun rest b s' => b.1 = none ∧ s' = ⟨hp, g, d, tk, os⟩ ∧ ∃ (vs ws : List Value) (ns' ms' : List Int), rest = vs.zip ws ∧
      IntsAre vs ns' ∧ IntsAre ws ms' ∧ ns'.length + items2.size = ms'.length + items.size ∧ R (.ok (.ret (.bool (lexLt ns' ms')))) ⟨hp, g, d, tk, os⟩) _
    case turn =>
      rintro ⟨y, x⟩ rest b s' ⟨hb', rfl, vs, ws, ns', ms', hz, hvi, hwi, hlen, hR⟩
      cases hvi with
      | nil => rw [List.zip_nil_left] at hz; cases hz
      | cons a t hvi' =>
        cases hwi with
        | nil => rw [List.zip_nil_right] at hz; cases hz
        | cons c u hwi' =>
          rw [List.zip_cons_cons] at hz
          injection hz with hyx hrest
          injection hyx with hy hx
          subst hy hx
          rw [lexLt_cons] at hR
          simp only [List.length_cons] at hlen
          obtain ⟨e, he, hiff⟩ := eqAt_int A.in1 ⟨hp, g, d, tk, os⟩ a t c u
          refine wpAny_bind (he prog w _ _ ?_)
          cases e with
          | true =>
            rw [if_pos (hiff.mp rfl)] at hR
            wp_walk
            exact ⟨rfl, rfl, _, _, _, _, hrest, hvi', hwi', by omega, hR⟩
          | false =>
            rw [if_neg (fun q => absurd (hiff.mpr q) Bool.false_ne_true)] at hR
            have hri := rcLt_int A.in1 ⟨hp, g, d, tk, os⟩ a t c u prog w
            wp_walk using hri
            exact ⟨_, rfl, by simpa using hR⟩
    case fin =>
      rintro ⟨b1, b2⟩ s' ⟨hb', rfl, vs, ws, ns', ms', hz, hvi, hwi, hlen, hR⟩
      simp only at hb'
      subst hb'
      have hv : lexLt ns' ms' = decide (items.size < items2.size) := by
        cases hvi with
        | nil =>
          cases hwi with
          | nil =>
            simp only [List.length_nil] at hlen
            rw [lexLt_nil_nil]
            exact (decide_eq_false (by omega)).symm
          | cons c u hw =>
            simp only [List.length_nil, List.length_cons] at hlen
            rw [lexLt_nil_cons]
            exact (decide_eq_true (by omega)).symm
        | cons a t hv =>
          cases hwi with
          | nil =>
            simp only [List.length_nil, List.length_cons] at hlen
            rw [lexLt_cons_nil]
            exact (decide_eq_false (by omega)).symm
          | cons c u hw =>
            rw [List.zip_cons_cons] at hz
            cases hz
      rw [hv] at hR
      wp_walk
      exact ⟨_, rfl, by simpa [Builtin.Tuple.tupleCompareSizes] using hR⟩
    case h =>
      exact ⟨rfl, rfl, items.toList, items2.toList, ns, ms, rfl, hi, hj, by omega, h⟩
end

section
variable {prog : Program} {w : World} {A : Around} {E : Value → Shared → Prop} {s : Shared}

theorem lt_tupInts {l b : Addr} {items items2 : Array Value} {ns ms : List Int} {Q : Value → Shared → Prop} (hl : IsTup s.heap l items) (hb : IsTup s.heap b items2) (hi : IntsAre items.toList ns) (hj : IntsAre items2.toList ms)
    (hu : A.units < cLine) (h : Q (.bool (lexLt ns ms)) s) : wpAny (model prog w) A (compareOp .Lt (.ref l) (.ref b)) Q E s := by
  obtain ⟨⟨cls, dd, data, sl⟩, ho, hc, n, hd⟩ := id hl
  obtain ⟨⟨cls2, dd2, data2, sl2⟩, ho2, hc2, n2, hd2⟩ := id hb
  simp only at hc hd hc2 hd2
  subst hc hd hc2 hd2
  exact richCompare_meets_room (op := .Lt) ⟨_, ho, rfl⟩ ⟨_, ho2, rfl⟩ PySem.F.slot_tuple_lt PySem.F.entry_tuple_lt (PySem.F.args_tuple_lt_2 _ _) (tuple_lt_ints l b items items2 n n2 dd dd2 sl sl2 ns ms hi hj)
    ⟨ho, ho2, show Value.bool (lexLt ns ms) ≠ Value.notImplemented ∧ Q (.bool (lexLt ns ms)) s from ⟨(fun x => nomatch x), h⟩⟩ hu

/-- t + u, t not empty -/
theorem cat_tup {t b : Addr} {vs ws : List Value} {Q : Value → Shared → Prop} (ht : IsTup s.heap t vs.toArray) (hb : IsTup s.heap b ws.toArray) (hv : vs ≠ [])
    (h1 : ws = [] → Q (.ref t) s) (h2 : ws ≠ [] → Q (.ref s.heap.objs.size) { s with heap := s.heap.push { cls := .type "tuple", data := .seq (vs ++ ws).toArray } })
    (hsz : vs.length + ws.length ≤ sizeLine) : wpAny (model prog w) A (binaryOp .Add (.ref t) (.ref b)) Q E s := by
  obtain ⟨⟨cls, dd, data, sl⟩, ho, hc, n, hd⟩ := id ht
  obtain ⟨⟨cls2, dd2, data2, sl2⟩, ho2, hc2, n2, hd2⟩ := id hb
  simp only at hc hd hc2 hd2
  subst hc hd hc2 hd2
  have e : vs.toArray ++ ws.toArray = (vs ++ ws).toArray := by simp
  by_cases hw : ws = []
  · exact concat_meets ⟨_, ho, rfl⟩ ⟨_, ho2, rfl⟩ noFill_tuple_add seq_tuple_add PySem.F.slot_tuple_add PySem.F.entry_tuple_add (PySem.F.args_tuple_add_2 _ _)
      (tuple_addW1 t b vs.toArray ws.toArray n n2 dd dd2 sl sl2 (by simpa using hv) (by simp [hw])) ⟨ho, ho2, h1 hw⟩
  · refine concat_meets ⟨_, ho, rfl⟩ ⟨_, ho2, rfl⟩ noFill_tuple_add seq_tuple_add PySem.F.slot_tuple_add PySem.F.entry_tuple_add (PySem.F.args_tuple_add_2 _ _)
      (tuple_addW2 t b vs.toArray ws.toArray n n2 dd dd2 sl sl2 (by simpa using hv) (by simpa using hw) (by rw [List.size_toArray, List.size_toArray]; exact hsz)) ⟨ho, ho2, ?_⟩
    rw [e]
    exact h2 hw

/-! ### t[a:b], not the whole -/
/-- a slice's bound as a place among n (d where it is left out) -/
def sIx (n d : Nat) : Option Int → Nat
  | none => d
  | some v => if v < 0 then (v + (n : Int)).toNat else min v.toNat n
theorem sIx_none (n d : Nat) : sIx n d none = d := rfl
theorem sIx_nat (n d k : Nat) : sIx n d (some (k : Int)) = min k n := by
  show (if (k : Int) < 0 then ((k : Int) + (n : Int)).toNat else min (k : Int).toNat n) = min k n
  rw [if_neg (by omega), Int.toNat_natCast]
theorem sIx_le (n d : Nat) (hd : d ≤ n) (o : Option Int) : sIx n d o ≤ n := by
  cases o with
  | none => exact hd
  | some v =>
    show (if v < 0 then (v + (n : Int)).toNat else min v.toNat n) ≤ n
    by_cases hv : v < 0
    · rw [if_pos hv]; omega
    · rw [if_neg hv]; exact Nat.min_le_right _ _
theorem clip_eq (v : Int) (n d : Nat) : (if v < 0 then max (v + (n : Int)) 0 else min v (n : Int)) = ((sIx n d (some v) : Nat) : Int) := by
  show (if v < 0 then max (v + (n : Int)) 0 else min v (n : Int)) = (((if v < 0 then (v + (n : Int)).toNat else min v.toNat n) : Nat) : Int)
  by_cases hv : v < 0
  · simp only [if_pos hv]; omega
  · simp only [if_neg hv]; omega
theorem adjust_gen (lo hi : Option Int) (n : Nat) : Builtin.Slice.sliceAdjust lo hi 1 (n : Int) = (((sIx n 0 lo : Nat) : Int), ((sIx n n hi : Nat) : Int)) := by
  have h1 : ¬ ((1 : Int) < 0) := by omega
  unfold Builtin.Slice.sliceAdjust
  simp only [h1, if_false]
  refine Prod.ext ?_ ?_
  · cases lo with
    | none => rfl
    | some v => exact clip_eq v n 0
  · cases hi with
    | none => rfl
    | some v => exact clip_eq v n n
theorem places_gen (i j : Nat) : Builtin.Slice.slicePlaces (i : Int) (j : Int) 1 = j - i := by
  unfold Builtin.Slice.slicePlaces
  have h1 : (1 : Int) > 0 := by omega
  simp only [h1, if_true, Int.ediv_one]
  split <;> omega
theorem slicePart_ {v : Value} {o : Option Int} {Q : Option Int → Shared → Prop} (p : IsPart v o) (h : Q o s) : wpAny (model prog w) A (Builtin.Slice.slicePartIndex v) Q E s := by
  cases p with
  | none => exact slicePart_none h
  | int i t => exact slicePart_int h
theorem sliceApplied_gen {sl : Addr} {vl vu : Value} {lo hi : Option Int} {n : Nat} {Q : Int × Int × Nat → Shared → Prop} (hs : s.heap.IsSliceOf sl vl vu .none) (pl : IsPart vl lo) (pu : IsPart vu hi)
    (h : Q (((sIx n 0 lo : Nat) : Int), 1, sIx n n hi - sIx n 0 lo) s) : wpAny (model prog w) A (Builtin.Slice.sliceApplied (.ref sl) (pure (n : Int))) Q E s := by
  obtain ⟨os, hos, hcs, hds⟩ := id hs
  unfold Builtin.Slice.sliceApplied Builtin.Slice.sliceFields
  refine wpAny_bind (wpAny_bind (wpAny_field hos hds (x := vl) rfl (wpAny_bind (wpAny_field hos hds (x := vu) rfl (wpAny_bind (wpAny_field hos hds (x := .none) rfl (wpAny_pure ?_)))))))
  refine wpAny_bind (slicePart_none ?_)
  show wpAny _ _ (if ((1 : Int) == 0) = true then _ else _) _ _ s
  rw [if_neg (by decide)]
  refine wpAny_bind (slicePart_ pl (wpAny_bind (slicePart_ pu (wpAny_bind (wpAny_pure ?_)))))
  show wpAny _ _ (match Builtin.Slice.sliceAdjust lo hi 1 (n : Int) with | (lo, hi) => pure (lo, (1 : Int), Builtin.Slice.slicePlaces lo hi 1)) _ _ s
  rw [adjust_gen lo hi n]
  show wpAny _ _ (pure (((sIx n 0 lo : Nat) : Int), (1 : Int), Builtin.Slice.slicePlaces ((sIx n 0 lo : Nat) : Int) ((sIx n n hi : Nat) : Int) 1)) _ _ s
  rw [places_gen]
  exact wpAny_pure h
theorem pick_gen (xs : Array Value) (i k : Nat) : ((List.range k).filterMap fun (m : Nat) => xs[((i : Int) + (m : Int) * 1).toNat]?).toArray = ((xs.toList.drop i).take k).toArray := by
  have e : (fun (m : Nat) => xs[((i : Int) + (m : Int) * 1).toNat]?) = fun m => xs[i + m]? := by
    funext m
    have : ((i : Int) + (m : Int) * 1).toNat = i + m := by omega
    rw [this]
  rw [e]
  have := pick_run xs i k
  rw [List.filterMap_map] at this
  have e2 : ((fun x => xs[x]?) ∘ fun x => i + x) = fun m => xs[i + m]? := rfl
  rw [e2] at this
  rw [this]

theorem getItem_tuple_cut {t sl : Addr} {items : Array Value} {vl vu : Value} {lo hi : Option Int} {Q : Value → Shared → Prop} (ht : IsTup s.heap t items) (hs : s.heap.IsSliceOf sl vl vu .none) (pl : IsPart vl lo) (pu : IsPart vu hi)
    (hw : ¬ (sIx items.size 0 lo = 0 ∧ sIx items.size items.size hi = items.size))
    (h : Q (.ref s.heap.objs.size) { s with heap := s.heap.push { cls := .type "tuple", data := .seq ((items.toList.drop (sIx items.size 0 lo)).take (sIx items.size items.size hi - sIx items.size 0 lo)).toArray } })
    (hsz : items.size ≤ sizeLine) : wpAny (model prog w) A (getItem (.ref t) (.ref sl)) Q E s := by
  have htake : sizeOk (.seq ((items.toList.drop (sIx items.size 0 lo)).take (sIx items.size items.size hi - sIx items.size 0 lo)).toArray) := by
    show ((items.toList.drop (sIx items.size 0 lo)).take (sIx items.size items.size hi - sIx items.size 0 lo)).toArray.size ≤ sizeLine
    rw [List.size_toArray, List.length_take, List.length_drop, Array.length_toList]
    omega
  have hj : sIx items.size items.size hi ≤ items.size := sIx_le _ _ (Nat.le_refl _) hi
  obtain ⟨os, hos, hcs, hds⟩ := id hs
  have hTs : s.TypeIs (.ref sl) "slice" := ⟨os, hos, hcs⟩
  unfold getItem
  try with_reducible refine wpAny_holding ?_
  first | refine wpAny_bind (wpAny_pure ?_) | skip
  refine wpAny_bind (wpAny_sequenceKey ht.typeIs (by decide) ?_)
  refine wpAny_bind (wpAny_callSpecial?_slot (name := Str.ofString "__getitem__") ht.typeIs PyProof.Rows.slot_tuple_getitem
    (wpAny_call_entry PyProof.Rows.slot_tuple_getitem ht.typeIs entry_tuple_getitem ?_ (args_tuple_getitem _ _)))
  show wpAny _ _ (Builtin.Tuple.tupleItemsOf (.ref t) >>= _) _ _ s
  refine wpAny_bind (tupleItemsOf_ ht ?_)
  refine wpAny_bind (wpAny_typeOf hTs ?_)
  rw [if_pos (by decide)]
  refine wpAny_bind (sliceApplied_gen hs pl pu ?_)
  have hno : ¬ ((((sIx items.size 0 lo : Nat) : Int) == 0 && (1 : Int) == 1 && (sIx items.size items.size hi - sIx items.size 0 lo) == items.size) = true) := by
    intro q
    rw [Bool.and_eq_true, Bool.and_eq_true] at q
    have q1 : ((sIx items.size 0 lo : Nat) : Int) = 0 := eq_of_beq q.1.1
    have q2 : sIx items.size items.size hi - sIx items.size 0 lo = items.size := eq_of_beq q.2
    exact hw ⟨by omega, by omega⟩
  show wpAny _ _ (if (((sIx items.size 0 lo : Nat) : Int) == 0 && (1 : Int) == 1 && (sIx items.size items.size hi - sIx items.size 0 lo) == items.size) = true then _ else _) _ _ s
  rw [if_neg hno, pick_gen]
  first
    | exact wpAny_bind (m := Builtin.Tuple.tupleExact _) (wpAny_newObj_type (wpAny_pure ⟨_, rfl, wpAny_pure h⟩) htake)
    | exact wpAny_bind (m := Builtin.Tuple.tupleExact _) (wpAny_newObj_type (wpAny_bind (wpAny_pure (wpAny_pure ⟨_, rfl, wpAny_pure h⟩))) htake)
    | exact wpAny_bind (wpAny_bind (m := Builtin.Tuple.tupleExact _) (wpAny_newObj_type (wpAny_pure (wpAny_pure ⟨_, rfl, wpAny_pure h⟩)) htake))
    | exact wpAny_bind (wpAny_bind (m := Builtin.Tuple.tupleExact _) (wpAny_newObj_type (wpAny_pure ⟨_, rfl, wpAny_pure h⟩) htake))
end
end HT

namespace L2
open PySem PySem.Spec PyProof.Rows

/-! ### the parts of a slice -/
abbrev TO := St → Hp → (Option Int → Hp → Prop) → Prop
/-- a slice's part (left out, or an int) -/
def PO (X : Cx) (e : Option Expr) (t : TO) : Prop :=
  ∀ (pins : List (Addr × Obj)) (s : Shared) (σ : St) (H : Hp) (Q : Option Int → Hp → Prop), Inv X pins σ H s → t σ H Q →
    wpAny (model X.prog X.w) X.A (evalPart e X.env) (fun u s' => ∃ o H', Inv X pins σ H' s' ∧ IsPart u o ∧ Q o H') X.xe s
def tNoPart : TO := fun _ H Q => Q none H
def tPart (t : TE) : TO := fun σ H Q => t σ H fun x H1 => ∃ i, x = .int i ∧ Q (some i) H1

theorem intsAre_of {ns : List Int} : ∀ {us : List Value}, Vals (ns.map V.int) us → IntsAre us ns := by
  induction ns with
  | nil => intro us r; rw [List.map_nil] at r; cases r; exact .nil
  | cons n ns ih =>
    intro us r
    rw [List.map_cons] at r
    cases r with
    | cons r1 r2 =>
      obtain ⟨t, e⟩ := r1
      subst e
      exact .cons n t (ih r2)

section
variable {X : Cx} {e : Expr} {te : TE} {lo hi : Option Expr} {tl th : TO} {pos p2 : Pos}

theorem po_none : PO X none tNoPart := by
  intro pins s σ H Q I h
  rw [evalPart_none]
  exact wpAny_pure ⟨none, H, I, .none, h⟩
theorem po_some (h : PE X e te) : PO X (some e) (tPart te) := by
  intro pins s σ H Q I hw
  rw [evalPart_some]
  refine thn (h pins s σ H _ I hw) fun u s1 ⟨x, H1, I1, r1, q1⟩ => ?_
  obtain ⟨i, rfl, q⟩ := q1
  obtain ⟨t, rfl⟩ := r1
  exact ⟨some i, H1, I1, .int i t, q⟩

/-- what a slice of a value is, by values: the slice object stands at sl -/
def SlR (X : Cx) (r : V → Option Int → Option Int → Hp → VK → Prop) : Prop :=
  ∀ (pins : List (Addr × Obj)) (s : Shared) (σ : St) (H : Hp) (x : V) (v vl vu : Value) (lo hi : Option Int) (sl : Addr) (Q : VK), Inv X pins σ H s → RelV x v → s.heap.IsSliceOf sl vl vu .none → IsPart vl lo → IsPart vu hi → r x lo hi H Q →
    ∃ T id, typeLookup (.type T) "__getitem__" = pure (some (.builtin id)) ∧ s.TypeIs v T ∧ wpAny (model X.prog X.w) X.A (getItem v (.ref sl)) (EP X pins σ Q) X.xe s
theorem SlR.or {r r' : V → Option Int → Option Int → Hp → VK → Prop} (h : SlR X r) (h' : SlR X r') : SlR X (fun x lo hi H Q => r x lo hi H Q ∨ r' x lo hi H Q) := by
  intro pins s σ H x v vl vu lo hi sl Q I rx hs pl pu q
  rcases q with q | q
  · exact h pins s σ H x v vl vu lo hi sl Q I rx hs pl pu q
  · exact h' pins s σ H x v vl vu lo hi sl Q I rx hs pl pu q
def tSl (r : V → Option Int → Option Int → Hp → VK → Prop) (te : TE) (tl th : TO) : TE := fun σ H Q => te σ H fun x H1 => tl σ H1 fun l H2 => th σ H2 fun u H3 => r x l u H3 Q
/-- a[lo:hi], any a -/
theorem pe_slice {r : V → Option Int → Option Int → Hp → VK → Prop} (hr : SlR X r) (he : PE X e te) (hl : PO X lo tl) (hu : PO X hi th) : PE X (.Subscript e (.Slice lo hi none p2) pos) (tSl r te tl th) := by
  intro pins s σ H Q I h
  refine Subscript_ (thn (he pins s σ H _ I h) fun v s1 ⟨x, H1, I1, r1, q1⟩ => ?_)
  refine wpAny_Slice (thn (hl pins s1 σ H1 _ I1 q1) fun vl s2 ⟨l, H2, I2, pl, q2⟩ => thn (hu pins s2 σ H2 _ I2 q2) fun vu s3 ⟨u, H3, I3, pu, q3⟩ => ?_)
  rw [evalPart_none]
  refine wpAny_pure ?_
  have I4 : Inv X pins σ H3 { s3 with heap := s3.heap.push { cls := .type "slice", data := .fields #[vl, vu, .none] } } := I3.kept (t' := s3.toks) fun b ob q => Heap.get?_push_of_some _ q
  obtain ⟨T, id, hT, ht, hg⟩ := hr pins { s3 with heap := s3.heap.push { cls := .type "slice", data := .fields #[vl, vu, .none] } } σ H3 x v vl vu l u s3.heap.objs.size Q I4 r1 (Heap.IsSliceOf.new ..) pl pu q3
  show wpAny (model X.prog X.w) X.A (subscriptTail e (.Slice lo hi none p2) v (.ref s3.heap.objs.size)) (EP X pins σ Q) X.xe { s3 with heap := s3.heap.push { cls := .type "slice", data := .fields #[vl, vu, .none] } }
  exact tail_any (ops := [.ref s3.heap.objs.size, v]) ht hT hg (by with_unfolding_all rfl)

/-- the items of xs[lo:hi] -/
def cutV (xs : List V) (lo hi : Option Int) : List V := (xs.drop (HT.sIx xs.length 0 lo)).take (HT.sIx xs.length xs.length hi - HT.sIx xs.length 0 lo)
theorem cutV_length (xs : List V) (lo hi : Option Int) : (cutV xs lo hi).length ≤ xs.length := by
  unfold cutV
  rw [List.length_take, List.length_drop]
  omega
/-- t[lo:hi], not the whole of it (the whole would be t itself) -/
def rSlT (K : PySem.W.Frag) : V → Option Int → Option Int → Hp → VK → Prop := fun x lo hi H Q => ∃ a xs, x = .ref a ∧ SqT K H a xs ∧
  ¬ (HT.sIx xs.length 0 lo = 0 ∧ HT.sIx xs.length xs.length hi = xs.length) ∧ ∀ p, H p = none → Q (.ref p) (upd H p (.tup (cutV xs lo hi)))
theorem sl_tup : SlR X (rSlT X.K) := by
  intro pins s σ H x v vl vu lo hi sl Q I rx hs pl pu h
  obtain ⟨a, xs, rfl, hx, hw, q⟩ := h
  cases rx
  obtain ⟨its, r, ht, hz⟩ := I.tuple hx
  have hlen : its.toArray.size = xs.length := by rw [List.size_toArray]; exact r.length.symm
  refine ⟨"tuple", _, PyProof.Rows.slot_tuple_getitem.lookup, ht.typeIs, ?_⟩
  refine HT.getItem_tuple_cut ht hs pl pu (by rw [hlen]; exact hw) ?_ (by rw [hlen]; exact hz)
  rw [hlen]
  refine ⟨.ref s.heap.objs.size, _, I.laid (t' := s.toks) (o := .tup (cutV xs lo hi)) (fun b ob q => Heap.get?_push_of_some _ q) (Nat.le_refl _) ?_, rfl, q _ (I.hok.fresh (Nat.le_refl _))⟩
  exact ⟨Nat.le_trans (cutV_length xs lo hi) hz, _, (r.drop (HT.sIx xs.length 0 lo)).take (HT.sIx xs.length xs.length hi - HT.sIx xs.length 0 lo), IsTup.new _ _⟩

/-! ### t < u, t + u -/
def rLtT (K : PySem.W.Frag) : R2 := fun x y H Q => ∃ a b ns ms, x = .ref a ∧ y = .ref b ∧ SqT K H a (ns.map V.int) ∧ SqT K H b (ms.map V.int) ∧ Q (.bl (HT.lexLt ns ms)) H
theorem op_ltT (hu : X.A.units < cLine) : OpR X (compareOp .Lt) (rLtT X.K) := by
  intro pins s σ H x y v u Q I rx ry h
  obtain ⟨a, b, ns, ms, rfl, rfl, ha, hb, q⟩ := h
  cases rx
  cases ry
  obtain ⟨its, r1, p1, _⟩ := I.tuple ha
  obtain ⟨its2, r2, p2, _⟩ := I.tuple hb
  have i1 : IntsAre its.toArray.toList ns := intsAre_of r1
  have i2 : IntsAre its2.toArray.toList ms := intsAre_of r2
  exact HT.lt_tupInts p1 p2 i1 i2 hu ⟨.bl (HT.lexLt ns ms), H, I, rfl, q⟩
/-- t + u, t not empty: u empty gives t itself -/
def rCatT (K : PySem.W.Frag) : R2 := fun x y H Q => ∃ a b xs ys, x = .ref a ∧ y = .ref b ∧ SqT K H a xs ∧ SqT K H b ys ∧ xs ≠ [] ∧ xs.length + ys.length ≤ sizeLine ∧
  (ys = [] → Q (.ref a) H) ∧ (ys ≠ [] → ∀ p, H p = none → Q (.ref p) (upd H p (.tup (xs ++ ys))))
theorem Vals.nil_iff {xs : List V} {us : List Value} (r : Vals xs us) : us = [] ↔ xs = [] := by
  cases r with
  | nil => simp
  | cons _ _ => simp
theorem op_catT : OpR X (binaryOp .Add) (rCatT X.K) := by
  intro pins s σ H x y v u Q I rx ry h
  obtain ⟨a, b, xs, ys, rfl, rfl, ha, hb, hx, hz, q1, q2⟩ := h
  cases rx
  cases ry
  obtain ⟨its, r1, p1, _⟩ := I.tuple ha
  obtain ⟨its2, r2, p2, _⟩ := I.tuple hb
  refine HT.cat_tup p1 p2 (fun z => hx (r1.nil_iff.mp z)) (fun z => ⟨.ref a, H, I, rfl, q1 (r2.nil_iff.mp z)⟩) (fun z => ?_) (by rw [← r1.length, ← r2.length]; exact hz)
  refine ⟨.ref s.heap.objs.size, _, I.laid (t' := s.toks) (o := .tup (xs ++ ys)) (fun b ob q => Heap.get?_push_of_some _ q) (Nat.le_refl _) ?_, rfl, q2 (fun w => z (r2.nil_iff.mpr w)) _ (I.hok.fresh (Nat.le_refl _))⟩
  exact ⟨by rw [List.length_append]; exact hz, _, r1.append r2, IsTup.new _ _⟩
/-- tuple(t) -/
theorem call_tupleT : CallR X (.type "tuple") (fun xs H Q => ∃ a ys, xs = [.ref a] ∧ SqT X.K H a ys ∧ Q (.ref a) H) := by
  intro pins s σ H xs us Q I r h
  obtain ⟨a, ys, rfl, ha, q⟩ := h
  obtain ⟨u, rfl, ru⟩ := vals1 r
  cases ru
  obtain ⟨its, _, p1, _⟩ := I.tuple ha
  exact call_tuple_same (items := its.toArray) p1 ⟨.ref a, H, I, rfl, q⟩
end
end L2

namespace L2
open PySem PySem.Spec PyProof.Rows

/-! ### places -/
/-- the place that an index of any sign means -/
def ixN (n : Nat) (i : Int) : Option Nat := if 0 ≤ i then (if i < n then some i.toNat else none) else if -(n : Int) ≤ i then some (i + n).toNat else none
def atI {α : Type} (xs : List α) (i : Int) : Option α := (ixN xs.length i).bind fun j => xs[j]?
theorem ixN_seq {n : Nat} {i : Int} {j : Nat} (h : ixN n i = some j) : seqIndex? i n = some j ∧ j < n ∧ -(n : Int) ≤ i ∧ i < n := by
  unfold ixN at h
  by_cases h0 : 0 ≤ i
  · rw [if_pos h0] at h
    by_cases h1 : i < n
    · rw [if_pos h1] at h
      have e : i.toNat = j := Option.some.inj h
      exact ⟨by rw [seqIndex_of h0 h1, e], by omega, by omega, h1⟩
    · rw [if_neg h1] at h; cases h
  · rw [if_neg h0] at h
    by_cases h1 : -(n : Int) ≤ i
    · rw [if_pos h1] at h
      have e : (i + n).toNat = j := Option.some.inj h
      exact ⟨by rw [seqIndex_neg (by omega) h1, e], by omega, h1, by omega⟩
    · rw [if_neg h1] at h; cases h
theorem atI_get {α : Type} {xs : List α} {i : Int} {v : α} (h : atI xs i = some v) : ∃ j, seqIndex? i xs.length = some j ∧ xs[j]? = some v ∧ j < xs.length ∧ -(xs.length : Int) ≤ i ∧ i < xs.length := by
  unfold atI at h
  cases e : ixN xs.length i with
  | none => rw [e] at h; cases h
  | some j =>
    rw [e] at h
    obtain ⟨h1, h2, h3, h4⟩ := ixN_seq e
    exact ⟨j, h1, h, h2, h3, h4⟩
theorem atI_nat {α : Type} {xs : List α} {j : Nat} {v : α} (h : xs[j]? = some v) : atI xs (j : Int) = some v := by
  have hj : j < xs.length := (List.getElem?_eq_some_iff.mp h).1
  have e : ixN xs.length (j : Int) = some j := by
    unfold ixN
    rw [if_pos (by omega), if_pos (by omega)]; simp
  unfold atI; rw [e]; exact h
theorem atI_last {α : Type} (xs : List α) (v : α) : atI (xs ++ [v]) (-1) = some v := by
  have hl : (xs ++ [v]).length = xs.length + 1 := by simp
  have e : ixN (xs ++ [v]).length (-1) = some xs.length := by
    unfold ixN
    rw [hl, if_neg (by decide), if_pos (by omega)]
    congr 1
    omega
  unfold atI
  rw [e]
  show (xs ++ [v])[xs.length]? = some v
  simp

/-! ### what may be subscripted -/
/-- what stands as an index of a plain subscript -/
def PlainIx (b : Expr) : Prop := ∀ o i, subscripted b false o i = operate [o, i] (getItem o i)
/-- a subscript by values -/
def IxR (X : Cx) (r : R2) : Prop :=
  ∀ (value slice : Expr) (pins : List (Addr × Obj)) (s : Shared) (σ : St) (H : Hp) (x y : V) (v u : Value) (Q : VK), Inv X pins σ H s → RelV x v → RelV y u → r x y H Q →
    subscripted slice false v u = operate [v, u] (getItem v u) → wpAny (model X.prog X.w) X.A (subscriptTail value slice v u) (EP X pins σ Q) X.xe s
/-- a call of a builtin's method by values: the receiver, the arguments -/
def MtR (X : Cx) (id : String) (r : V → List V → Hp → VK → Prop) : Prop :=
  ∀ (pins : List (Addr × Obj)) (s : Shared) (σ : St) (H : Hp) (x : V) (xs : List V) (v : Value) (us : List Value) (Q : VK), Inv X pins σ H s → RelV x v → Vals xs us → r x xs H Q →
    wpAny (model X.prog X.w) X.A (call (.builtin id) (v :: us)) (EP X pins σ Q) X.xe s
section
variable {X : Cx} {a b : Expr} {ta tb : TE} {pos : Pos}
theorem IxR.or {r r' : R2} (h : IxR X r) (h' : IxR X r') : IxR X (fun x y H Q => r x y H Q ∨ r' x y H Q) := by
  intro value slice pins s σ H x y v u Q I rx ry q hs
  rcases q with q | q
  · exact h value slice pins s σ H x y v u Q I rx ry q hs
  · exact h' value slice pins s σ H x y v u Q I rx ry q hs
theorem MtR.or {id : String} {r r' : V → List V → Hp → VK → Prop} (h : MtR X id r) (h' : MtR X id r') : MtR X id (fun x xs H Q => r x xs H Q ∨ r' x xs H Q) := by
  intro pins s σ H x xs v us Q I rx rs q
  rcases q with q | q
  · exact h pins s σ H x xs v us Q I rx rs q
  · exact h' pins s σ H x xs v us Q I rx rs q
/-- a[b] -/
theorem pe_ix {r : R2} (hr : IxR X r) (ha : PE X a ta) (hb : PE X b tb) (hs : PlainIx b) : PE X (.Subscript a b pos) (tOp r ta tb) := by
  intro pins s σ H Q I h
  exact Subscript_ (binT ha hb I h fun v u s2 x y H2 I2 rx ry q => hr a b pins s2 σ H2 x y v u Q I2 rx ry q (hs _ _))

def rIxL (K : PySem.W.Frag) : R2 := fun x y H Q => ∃ p xs i v, x = .ref p ∧ y = .int i ∧ SqL K H p xs ∧ atI xs i = some v ∧ Q v H
def rIxT (K : PySem.W.Frag) : R2 := fun x y H Q => ∃ p xs i v, x = .ref p ∧ y = .int i ∧ SqT K H p xs ∧ atI xs i = some v ∧ Q v H
def rIxS : R2 := fun x y H Q => ∃ z i c, x = .str z ∧ y = .int i ∧ z.length ≤ sizeLine ∧ atI z.cps.toList i = some c ∧ Q (.str ⟨#[c]⟩) H
theorem ix_list : IxR X (rIxL X.K) := by
  intro value slice pins s σ H x y v u Q I rx ry h hs
  obtain ⟨p, xs, i, z, rfl, rfl, hq, he, q⟩ := h
  cases rx
  obtain ⟨t, rfl⟩ := ry
  obtain ⟨its, r, pl, hz⟩ := I.list hq
  obtain ⟨j, h1, h2, h3, h4, h5⟩ := atI_get he
  obtain ⟨w, ew, rw'⟩ := r.get h2
  have hl := r.length
  have hn := line63
  have fin : EP X pins σ Q w s := ⟨z, H, I, rw', q⟩
  by_cases h0 : 0 ≤ i
  · have hj : i.toNat = j := by
      rw [seqIndex_of h0 h5] at h1
      exact Option.some.inj h1
    exact item_listR pl.isList h0 (by omega) (by rw [hj]; simpa using ew) fin hs
  · have hj : (i + (its.toArray.size : Int)).toNat = j := by
      rw [seqIndex_neg (by omega) h4] at h1
      rw [List.size_toArray, ← hl]
      exact Option.some.inj h1
    exact subscriptTail_builtinR (x := w) pl.isList.typeIs slot_list_getitem.lookup
      (wpAny_getItem_list_neg (Q := fun r s' => r = w ∧ EP X pins σ Q r s') pl.isList (by omega) (by rw [List.size_toArray] <;> omega) (by omega) (by rw [hj]; simpa using ew) ⟨rfl, fin⟩) hs
theorem ix_tup : IxR X (rIxT X.K) := by
  intro value slice pins s σ H x y v u Q I rx ry h hs
  obtain ⟨p, xs, i, z, rfl, rfl, hq, he, q⟩ := h
  cases rx
  obtain ⟨t, rfl⟩ := ry
  obtain ⟨its, r, pl, hz⟩ := I.tuple hq
  obtain ⟨j, h1, h2, h3, h4, h5⟩ := atI_get he
  obtain ⟨w, ew, rw'⟩ := r.get h2
  have hl := r.length
  have hn := line63
  have fin : EP X pins σ Q w s := ⟨z, H, I, rw', q⟩
  exact subscriptTail_builtinR (x := w) pl.typeIs slot_tuple_getitem.lookup
    (getItem_tuple (j := j) (Q := fun r s' => r = w ∧ EP X pins σ Q r s') pl (by omega) (by omega) (by rw [List.size_toArray, ← hl]; exact h1) (by simpa using ew) ⟨rfl, fin⟩) hs
theorem ix_str : IxR X rIxS := by
  intro value slice pins s σ H x y v u Q I rx ry h hs
  obtain ⟨z, i, c, rfl, rfl, hz, he, q⟩ := h
  obtain ⟨t, rfl⟩ := rx
  obtain ⟨t', rfl⟩ := ry
  obtain ⟨j, h1, h2, h3, h4, h5⟩ := atI_get he
  have hl : z.cps.toList.length = z.length := by simp [Str.length]
  rw [hl] at h1 h4 h5
  have hn := line63
  exact tail_any (typeIs_str s z t) slot_str_getitem.lookup (getItem_str (c := c) (by
    have e1 : decide (i < -(2 ^ 63 : Int)) = false := decide_eq_false (by omega)
    have e2 : decide (i ≥ 2 ^ 63) = false := decide_eq_false (by omega)
    rw [e1, e2, Bool.or_false]) (by rw [h1]; simpa using h2) ⟨.str ⟨#[c]⟩, H, I.tok _, ⟨_, rfl⟩, q⟩) hs
/-- list, tuple or str -/
def rIx (K : PySem.W.Frag) : R2 := fun x y H Q => rIxL K x y H Q ∨ rIxT K x y H Q ∨ rIxS x y H Q
theorem ix_seq : IxR X (rIx X.K) := ix_list.or (ix_tup.or ix_str)

/-! ### xs[i] = v, any sign -/
/-- the list's object behind a store -/
theorem mapSeq_set (its : List Value) (n j : Nat) (u : Value) : Obj.mapSeq (·.setIfInBounds j u) { cls := .type "list", data := .seq its.toArray n } = { cls := .type "list", data := .seq (its.set j u).toArray n } := by
  simp [Obj.mapSeq]
theorem Inv.lst {pins : List (Addr × Obj)} {σ : St} {H : Hp} {s : Shared} {p : Addr} {xs : List V} (I : Inv X pins σ H s) (h : H p = some (.lst xs)) :
    ∃ (its : List Value) (n : Nat), Vals xs its ∧ s.heap.get? p = some { cls := .type "list", data := .seq its.toArray n } ∧ xs.length ≤ sizeLine := by
  obtain ⟨z, its, n, r, e⟩ := I.hok p _ h
  exact ⟨its, n, r, e, z⟩
/-- the list at p is written by an update of its object -/
theorem Inv.lstUpd {pins : List (Addr × Obj)} {σ : St} {H : Hp} {s : Shared} {p : Addr} {xs ys : List V} {its its' : List Value} {n n' : Nat} {f : Obj → Obj} (I : Inv X pins σ H s) (h : H p = some (.lst xs))
    (ho : s.heap.get? p = some { cls := .type "list", data := .seq its.toArray n }) (hf : f { cls := .type "list", data := .seq its.toArray n } = { cls := .type "list", data := .seq its'.toArray n' }) (r : Vals ys its') (hz : ys.length ≤ sizeLine) (t : Nat) :
    Inv X pins σ (upd H p (.lst ys)) { s with heap := s.heap.update p f, toks := t } := by
  have e : (s.heap.update p f).get? p = some { cls := .type "list", data := .seq its'.toArray n' } := by
    rw [Heap.get?_update_self f ho (by rw [hf] <;> rfl), hf]
  refine I.write (x := p) (e := p) (by rw [h]; trivial) (.inl rfl) (fun b u hb q => (Heap.get?_update_other _ _ (Ne.symm hb)).trans q) ⟨_, e⟩ ?_
  exact ⟨hz, its', n', r, e⟩
def rSetL : V → V → V → Hp → (Hp → Prop) → Prop := fun o i v H Q => ∃ p xs k j, o = .ref p ∧ i = .int k ∧ H p = some (.lst xs) ∧ ixN xs.length k = some j ∧ Q (upd H p (.lst (xs.set j v)))
theorem set_list : PSet X rSetL := by
  intro pins s σ H o i v ov iv u Q I ro ri rv h
  obtain ⟨p, xs, k, j, rfl, rfl, hp, hj, q⟩ := h
  cases ro
  obtain ⟨t, rfl⟩ := ri
  obtain ⟨its, n, r, ho, hz⟩ := I.lst hp
  obtain ⟨h1, h2, h3, h4⟩ := ixN_seq hj
  have hl := r.length
  have hn := line63
  have I' : Inv X pins σ (upd H p (.lst (xs.set j v))) { s with heap := s.heap.update p (Obj.mapSeq (·.setIfInBounds j u)) } :=
    I.lstUpd hp ho (mapSeq_set its n j u) (r.set rv j) (by rw [List.length_set]; exact hz) s.toks
  by_cases h0 : 0 ≤ k
  · have hk : k.toNat = j := by
      rw [seqIndex_of h0 h4] at h1
      exact Option.some.inj h1
    exact PySem.W.ki_setAt ho h0 (by omega) (by rw [List.size_toArray, ← hl]; exact h4) (by rw [hk]; exact ⟨_, I', q⟩)
  · have hk : (k + (its.toArray.size : Int)).toNat = j := by
      rw [seqIndex_neg (by omega) h3] at h1
      rw [List.size_toArray, ← hl]
      exact Option.some.inj h1
    exact PySem.W.ki_setBack ho (by omega) (by rw [List.size_toArray, ← hl]; exact h3) (by omega) (by rw [hk]; exact ⟨_, I', q⟩)

/-! ### slices -/
theorem slice_bounds (lo hi : Option Int) (n : Nat) : (sliceBounds lo hi none n).1 = ((HT.sIx n 0 lo : Nat) : Int) ∧ (sliceBounds lo hi none n).2.1 = ((HT.sIx n n hi : Nat) : Int) ∧ (sliceBounds lo hi none n).2.2 = 1 := by
  refine ⟨?_, ?_, rfl⟩
  · cases lo with
    | none => simp [sliceBounds, HT.sIx]
    | some i =>
      simp only [sliceBounds, HT.sIx, Option.getD_none, show (1 : Int) > 0 by decide, if_true]
      by_cases h : i < 0
      · simp only [h, if_true] <;> omega
      · simp only [h, if_false] <;> omega
  · cases hi with
    | none => simp [sliceBounds, HT.sIx]
    | some i =>
      simp only [sliceBounds, HT.sIx, Option.getD_none, show (1 : Int) > 0 by decide, if_true]
      by_cases h : i < 0
      · simp only [h, if_true] <;> omega
      · simp only [h, if_false] <;> omega
theorem slicePick_cut (its : List Value) (lo hi : Option Int) : slicePick its.toArray lo hi none = ((its.drop (HT.sIx its.length 0 lo)).take (HT.sIx its.length its.length hi - HT.sIx its.length 0 lo)).toArray := by
  obtain ⟨h1, h2, h3⟩ := slice_bounds lo hi its.toArray.size
  unfold slicePick
  rw [h1, h2, h3]
  simp only [sliceRange_one, pick_run, List.size_toArray] <;> rfl
/-- xs[lo:hi] of a list: a new list -/
def rSlL (K : PySem.W.Frag) : V → Option Int → Option Int → Hp → VK → Prop := fun x lo hi H Q => ∃ a xs, x = .ref a ∧ SqL K H a xs ∧ ∀ p, H p = none → Q (.ref p) (upd H p (.lst (cutV xs lo hi)))
theorem sl_list : SlR X (rSlL X.K) := by
  intro pins s σ H x v vl vu lo hi sl Q I rx hs pl pu h
  obtain ⟨a, xs, rfl, hx, q⟩ := h
  cases rx
  obtain ⟨its, r, ht, hz⟩ := I.list hx
  have hlen := r.length
  refine ⟨"list", _, slot_list_getitem.lookup, ht.isList.typeIs, ?_⟩
  refine wpAny_getItem_list_slice ht.isList hs pl pu .none (by simp) ?_ (by rw [List.size_toArray] <;> omega)
  rw [slicePick_cut, ← hlen]
  refine ⟨.ref s.heap.objs.size, _, I.laid (t' := s.toks) (o := .lst (cutV xs lo hi)) (fun b ob q => Heap.get?_push_of_some _ q) (Nat.le_refl _) ?_, rfl, q _ (I.hok.fresh (Nat.le_refl _))⟩
  exact ⟨Nat.le_trans (cutV_length xs lo hi) hz, _, 0, (r.drop (HT.sIx xs.length 0 lo)).take (HT.sIx xs.length xs.length hi - HT.sIx xs.length 0 lo), Heap.get?_push_size _ rfl⟩

/-! ### in, not in: flat items -/
def flatV : V → Bool
  | .non => true
  | .bl _ => true
  | .int _ => true
  | .str _ => true
  | _ => false
/-- == of flat values -/
def eqV : V → V → Bool
  | .non, .non => true
  | .bl a, .bl b => a == b
  | .bl a, .int b => (if a then 1 else 0) == b
  | .int a, .bl b => a == (if b then 1 else 0)
  | .int a, .int b => a == b
  | .str a, .str b => a == b
  | _, _ => false
theorem eqAt_V {A : Around} {s : Shared} {y x : V} {u v : Value} (ry : RelV y u) (rx : RelV x v) (fy : flatV y = true) (fx : flatV x = true) : SeqAt.EqAt A s u v (eqV y x) := by
  cases y with
  | non =>
    cases ry
    cases x with
    | non => cases rx; exact SeqAt.EqAt.same _
    | bl b => cases rx; exact SeqAt.EqAt.none_bool b
    | int b => obtain ⟨t, rfl⟩ := rx; exact SeqAt.EqAt.none_int b t
    | str b => obtain ⟨t, rfl⟩ := rx; exact SeqAt.EqAt.none_str b t
    | _ => exact absurd (show false = true from fx) Bool.false_ne_true
  | bl a =>
    cases ry
    cases x with
    | non => cases rx; exact SeqAt.EqAt.bool_none a
    | bl b => cases rx; exact SeqAt.EqAt.bool_bool a b
    | int b => obtain ⟨t, rfl⟩ := rx; exact SeqAt.EqAt.bool_int a b t
    | str b => obtain ⟨t, rfl⟩ := rx; exact SeqAt.EqAt.bool_str a b t
    | _ => exact absurd (show false = true from fx) Bool.false_ne_true
  | int a =>
    obtain ⟨t', rfl⟩ := ry
    cases x with
    | non => cases rx; exact SeqAt.EqAt.int_none a t'
    | bl b => cases rx; exact SeqAt.EqAt.int_bool a t' b
    | int b => obtain ⟨t, rfl⟩ := rx; exact SeqAt.EqAt.int_int a t' b t
    | str b => obtain ⟨t, rfl⟩ := rx; exact SeqAt.EqAt.int_str a t' b t
    | _ => exact absurd (show false = true from fx) Bool.false_ne_true
  | str a =>
    obtain ⟨t', rfl⟩ := ry
    cases x with
    | non => cases rx; exact SeqAt.EqAt.str_none a t'
    | bl b => cases rx; exact SeqAt.EqAt.str_bool a t' b
    | int b => obtain ⟨t, rfl⟩ := rx; exact SeqAt.EqAt.str_int a t' b t
    | str b => obtain ⟨t, rfl⟩ := rx; exact SeqAt.EqAt.str_str a t' b t
    | _ => exact absurd (show false = true from fx) Bool.false_ne_true
  | _ => exact absurd (show false = true from fy) Bool.false_ne_true
/-- the items' answers, read off the values (a value's own answer does not lean on its token) -/
def eqU (x : V) (u : Value) : Bool := match u with
  | .none => eqV .non x
  | .bool b => eqV (.bl b) x
  | .int i _ => eqV (.int i) x
  | .str z _ => eqV (.str z) x
  | _ => false
theorem eqU_of {x y : V} {u : Value} (r : RelV y u) (f : flatV y = true) : eqU x u = eqV y x := by
  cases y with
  | non => cases r; rfl
  | bl b => cases r; rfl
  | int i => obtain ⟨t, rfl⟩ := r; rfl
  | str z => obtain ⟨t, rfl⟩ := r; rfl
  | _ => exact absurd (show false = true from f) Bool.false_ne_true
theorem any_eqU {x : V} : ∀ {xs : List V} {us : List Value}, Vals xs us → xs.all flatV = true → us.any (eqU x) = xs.any fun y => eqV y x
  | _, _, .nil, _ => rfl
  | y :: xs, u :: us, .cons r t, f => by
    rw [List.all_cons, Bool.and_eq_true] at f
    rw [List.any_cons, List.any_cons, eqU_of r f.1, any_eqU t f.2]
theorem mem_eqAt {A : Around} {s : Shared} {x : V} {v : Value} (rx : RelV x v) (fx : flatV x = true) : ∀ {xs : List V} {us : List Value}, Vals xs us → xs.all flatV = true → ∀ u ∈ us, SeqAt.EqAt A s u v (eqU x u)
  | _, _, .nil, _ => fun u hu => by cases hu
  | y :: xs, u :: us, .cons r t, f => fun u' hu => by
    rw [List.all_cons, Bool.and_eq_true] at f
    rcases List.mem_cons.mp hu with rfl | hu
    · rw [eqU_of r f.1]; exact eqAt_V r rx f.1 fx
    · exact mem_eqAt rx fx t f.2 u' hu
def inV (x : V) (xs : List V) : Bool := xs.any fun y => eqV y x
/-- x in a list or tuple of flat items -/
def rIn (K : PySem.W.Frag) (neg : Bool) : R2 := fun x y H Q => ∃ p xs, y = .ref p ∧ (SqL K H p xs ∨ SqT K H p xs) ∧ flatV x = true ∧ xs.all flatV = true ∧ Q (.bl (if neg then !inV x xs else inV x xs)) H
theorem op_in_seq : OpR X (compareOp .In) (rIn X.K false) := by
  intro pins s σ H x y v u Q I rx ry h
  obtain ⟨p, xs, rfl, hq, fx, fs, q⟩ := h
  cases ry
  rcases hq with hq | hq
  · obtain ⟨its, r, pl, hz⟩ := I.list hq
    refine SeqAt.in_listAt (eqU x) pl.isList (fun w hw => mem_eqAt rx fx r fs w (by simpa using hw)) ⟨.bl _, H, I, rfl, ?_⟩
    rw [show its.toArray.any (eqU x) = its.any (eqU x) by simp, any_eqU r fs]
    exact q
  · obtain ⟨its, r, pl, hz⟩ := I.tuple hq
    refine SeqAt.in_tupleAt (eqU x) pl (fun w hw => mem_eqAt rx fx r fs w (by simpa using hw)) ⟨.bl _, H, I, rfl, ?_⟩
    rw [show its.toArray.any (eqU x) = its.any (eqU x) by simp, any_eqU r fs]
    exact q
theorem op_notIn_seq : OpR X (compareOp .NotIn) (rIn X.K true) := by
  intro pins s σ H x y v u Q I rx ry h
  obtain ⟨p, xs, rfl, hq, fx, fs, q⟩ := h
  cases ry
  rcases hq with hq | hq
  · obtain ⟨its, r, pl, hz⟩ := I.list hq
    refine SeqAt.notIn_listAt (eqU x) pl.isList (fun w hw => mem_eqAt rx fx r fs w (by simpa using hw)) ⟨.bl _, H, I, rfl, ?_⟩
    rw [show its.toArray.any (eqU x) = its.any (eqU x) by simp, any_eqU r fs]
    exact q
  · obtain ⟨its, r, pl, hz⟩ := I.tuple hq
    refine SeqAt.notIn_tupleAt (eqU x) pl (fun w hw => mem_eqAt rx fx r fs w (by simpa using hw)) ⟨.bl _, H, I, rfl, ?_⟩
    rw [show its.toArray.any (eqU x) = its.any (eqU x) by simp, any_eqU r fs]
    exact q
theorem op_notIn_str : OpR X (compareOp .NotIn) (fun x y H Q => ∃ i j, x = .str i ∧ y = .str j ∧ Q (.bl (!(!(Builtin.Str.occurrences j i 0 j.length 1).isEmpty))) H) := by
  intro pins s σ H x y v u Q I rx ry h
  obtain ⟨i, j, rfl, rfl, q⟩ := h
  obtain ⟨t, rfl⟩ := rx
  obtain ⟨t', rfl⟩ := ry
  exact notIn_str ⟨.bl _, H, I, rfl, q⟩

/-! ### len, list(x), tuple(x) of any list or tuple that is read -/
theorem call_len_seq : CallR X (.builtin "len") (fun xs H Q => ∃ p ys, xs = [.ref p] ∧ (SqL X.K H p ys ∨ SqT X.K H p ys) ∧ Q (.int ys.length) H) := by
  intro pins s σ H xs us Q I r h
  obtain ⟨p, ys, rfl, hq, q⟩ := h
  obtain ⟨u, rfl, rx⟩ := vals1 r
  cases rx
  have hn := line63
  rcases hq with hq | hq
  · obtain ⟨its, r', pl, hz⟩ := I.list hq
    have hlen := r'.length
    exact Calls.call_len_list pl.isList (by simp only [List.size_toArray] <;> omega) ⟨.int ys.length, H, I.tok _, ⟨s.toks + 1, by rw [List.size_toArray, hlen]⟩, q⟩
  · obtain ⟨its, r', pl, hz⟩ := I.tuple hq
    have hlen := r'.length
    exact len_tuple pl (by simp only [List.size_toArray] <;> omega) ⟨.int ys.length, H, I.tok _, ⟨s.toks + 1, by rw [List.size_toArray, hlen]⟩, q⟩
theorem call_len_str : CallR X (.builtin "len") (fun xs H Q => ∃ z, xs = [.str z] ∧ z.length ≤ sizeLine ∧ Q (.int z.length) H) := by
  intro pins s σ H xs us Q I r h
  obtain ⟨z, rfl, hz, q⟩ := h
  obtain ⟨u, rfl, t, rfl⟩ := vals1 r
  have hn := line63
  exact len_str (by omega) ⟨.int z.length, H, I.tok _, ⟨_, rfl⟩, q⟩
theorem CallR.or {f : Value} {r r' : List V → Hp → VK → Prop} (h : CallR X f r) (h' : CallR X f r') : CallR X f (fun xs H Q => r xs H Q ∨ r' xs H Q) := by
  intro pins s σ H xs us Q I rs q
  rcases q with q | q
  · exact h pins s σ H xs us Q I rs q
  · exact h' pins s σ H xs us Q I rs q
theorem call_list_of : CallR X (.type "list") (fun xs H Q => ∃ p ys, xs = [.ref p] ∧ (SqL X.K H p ys ∨ SqT X.K H p ys) ∧ ∀ l, H l = none → Q (.ref l) (upd H l (.lst ys))) := by
  intro pins s σ H xs us Q I r h
  obtain ⟨p, ys, rfl, hq, q⟩ := h
  obtain ⟨u, rfl, rx⟩ := vals1 r
  cases rx
  have fin : ∀ (its : List Value), Vals ys its → ys.length ≤ sizeLine → ∀ (h' : Heap) (c' : Nat), (∀ b o', s.heap.get? b = some o' → h'.get? b = some o') →
      h'.get? s.heap.objs.size = some { cls := .type "list", dict := none, data := .seq its.toArray c', slots := #[] } → EP X pins σ Q (.ref s.heap.objs.size) { s with heap := h' } := fun its r' hz h' c' kp e =>
    ⟨.ref s.heap.objs.size, _, I.laid (t' := s.toks) kp (Nat.le_refl _) (show ObjOk X.prog X.w _ h' _ (.lst ys) from ⟨hz, its, c', r', e⟩), rfl, q _ (I.hok.fresh (Nat.le_refl _))⟩
  rcases hq with hq | hq
  · obtain ⟨its, r', pl, hz⟩ := I.list hq
    have hlen := r'.length
    obtain ⟨o, ho, hc, n, hd⟩ := pl.isList
    exact call_list_seq p (.inl rfl) ho hc hd (fun h' c' kp e => fin its r' hz h' c' kp e) (by simp only [List.size_toArray] <;> omega)
  · obtain ⟨its, r', pl, hz⟩ := I.tuple hq
    have hlen := r'.length
    obtain ⟨o, ho, hc, n, hd⟩ := pl
    exact call_list_seq p (.inr rfl) ho hc hd (fun h' c' kp e => fin its r' hz h' c' kp e) (by simp only [List.size_toArray] <;> omega)
theorem call_tuple_of : CallR X (.type "tuple") (fun xs H Q => ∃ p ys, xs = [.ref p] ∧ ((SqL X.K H p ys ∧ ∀ l, H l = none → Q (.ref l) (upd H l (.tup ys))) ∨ (SqT X.K H p ys ∧ Q (.ref p) H))) := by
  intro pins s σ H xs us Q I r h
  obtain ⟨p, ys, rfl, h⟩ := h
  obtain ⟨u, rfl, rx⟩ := vals1 r
  cases rx
  rcases h with ⟨hq, q⟩ | ⟨hq, q⟩
  · obtain ⟨its, r', pl, hz⟩ := I.list hq
    have hlen := r'.length
    refine call_tuple_list pl.isList (fun h' kp => ?_) (by simp only [List.size_toArray] <;> omega)
    have I1 : Inv X pins σ H { s with heap := h' } := I.kept (t' := s.toks) kp
    have I2 : Inv X pins σ (upd H h'.objs.size (.tup ys)) { s with heap := h'.push { cls := .type "tuple", data := .seq its.toArray } } :=
      I1.laid (t' := s.toks) (fun b o e => Heap.get?_push_of_some _ e) (Nat.le_refl _) (show ObjOk X.prog X.w _ _ _ (.tup ys) from ⟨hz, its, r', IsTup.new _ _⟩)
    exact ⟨.ref h'.objs.size, _, I2, rfl, q _ (I1.hok.fresh (Nat.le_refl _))⟩
  · obtain ⟨its, r', pl, hz⟩ := I.tuple hq
    exact call_tuple_same pl ⟨.ref p, H, I, rfl, q⟩

/-! ### the call of a builtin's method: o.m(..) -/
/-- the value is of that builtin type -/
def tyV (K : PySem.W.Frag) (T : String) (x : V) (H : Hp) : Prop := match x with
  | .str _ => T = "str"
  | .int _ => T = "int"
  | .ref p => (T = "list" ∧ ∃ xs, SqL K H p xs) ∨ (T = "tuple" ∧ ∃ o, K.lookup p = some o ∧ o.cls = .type "tuple" ∧ o.dict = none) ∨
      (T = "dict" ∧ ((∃ kvs, H p = some (.dK kvs)) ∨ ∃ kvs, H p = some (.dT kvs))) ∨ (T = "set" ∧ ∃ S n, H p = some (.set S n))
  | _ => False
theorem tyV_is {pins : List (Addr × Obj)} {σ : St} {H : Hp} {s : Shared} {T : String} {x : V} {v : Value} (I : Inv X pins σ H s) (r : RelV x v) (ty : tyV X.K T x H) :
    s.TypeIs v T ∧ ∀ a, v = .ref a → ∃ ob, s.heap.get? a = some ob ∧ ob.dict = none := by
  cases x with
  | str z =>
    obtain ⟨t, rfl⟩ := r
    cases (show T = "str" from ty)
    exact ⟨typeIs_str s z t, fun _ e => nomatch e⟩
  | int i =>
    obtain ⟨t, rfl⟩ := r
    cases (show T = "int" from ty)
    exact ⟨typeIs_int s i t, fun _ e => nomatch e⟩
  | ref p =>
    cases r
    rcases ty with ⟨rfl, xs, hq⟩ | ⟨rfl, o, hk, hc, hd⟩ | ⟨rfl, hk⟩ | ⟨rfl, S, n, hk⟩
    · obtain ⟨its, _, pl, _⟩ := I.list hq
      refine ⟨pl.isList.typeIs, fun a e => ?_⟩
      cases e
      obtain ⟨o, n, e, c, hd, _⟩ := pl
      exact ⟨o, e, hd⟩
    · refine ⟨⟨o, I.kIn p o hk, hc⟩, fun a e => ?_⟩
      cases e
      exact ⟨o, I.kIn _ o hk, hd⟩
    · have z : ∃ o, s.heap.get? p = some o ∧ o.ExactDict := by
        rcases hk with ⟨kvs, hk⟩ | ⟨kvs, hk⟩
        · obtain ⟨_, _, _, _, o, _, _, e, ex, _⟩ := I.hok p _ hk
          exact ⟨o, e, ex⟩
        · obtain ⟨_, _, _, _, o, _, _, e, ex, _⟩ := I.hok p _ hk
          exact ⟨o, e, ex⟩
      obtain ⟨o, e, ex⟩ := z
      refine ⟨⟨o, e, ex.1⟩, fun a e2 => ?_⟩
      cases e2
      exact ⟨o, e, ex.2.1⟩
    · obtain ⟨o, _, _, _, e, ex, _⟩ := I.hok p _ hk
      refine ⟨⟨o, e, ex.1⟩, fun a e2 => ?_⟩
      cases e2
      exact ⟨o, e, ex.2.1⟩
  | _ => exact False.elim ty
def tBM0 (K : PySem.W.Frag) (T : String) (r : V → List V → Hp → VK → Prop) (to : TE) : TE := fun σ H Q => to σ H fun x H1 => tyV K T x H1 ∧ r x [] H1 Q
def tBM (K : PySem.W.Frag) (T : String) (r : V → List V → Hp → VK → Prop) (to : TE) (t : TA) : TE := fun σ H Q => to σ H fun x H1 => tyV K T x H1 ∧ t σ H1 fun xs H2 => r x xs H2 Q
variable {o e : Expr} {es : List Expr} {to : TE} {t : TA} {name : Str} {apos cpos : Pos} {T id : String} {r : V → List V → Hp → VK → Prop}
theorem pe_bm0 (pa : PlainAttrs T) (slot : Slot T name id) (hty : typeOf (.builtin id) = pure (.type "method_descriptor")) (hm : MtR X id r) (ho : PE X o to)
    (hbase : attributeBase o name X.env (eval o X.env) = eval o X.env := by rfl) (hline : (apos.endLine == cpos.line) = true := by rfl) : PE X (.Call (.Attribute o name apos) [] [] cpos) (tBM0 X.K T r to) := by
  intro pins s σ H Q I h
  refine wpAny_Call_method0_late hbase hline (thn (ho pins s σ H _ I h) fun v s1 ⟨x, H1, I1, r1, ty, q1⟩ => ?_)
  obtain ⟨h1, h2⟩ := tyV_is I1 r1 ty
  exact ⟨T, id, pa, slot, hty, h1, h2, Calls.callWith_builtin rfl (PySem.evalArgs_none (hm pins s1 σ H1 x [] v [] Q I1 r1 .nil q1))⟩
theorem pe_bm (pa : PlainAttrs T) (slot : Slot T name id) (hty : typeOf (.builtin id) = pure (.type "method_descriptor")) (hm : MtR X id r) (ho : PE X o to) (ha : PA X (e :: es) t)
    (hbase : attributeBase o name X.env (eval o X.env) = eval o X.env := by rfl)
    (hfew : ((backTo cpos (starEach (e :: es) X.env)).all (fun x => !x.1) && (backToKw cpos (keywordEach [] X.env)).all (fun x => x.1.isSome)
      && decide ((e :: es).length + ([] : List Keyword).length + (if ([] : List Keyword).isEmpty then 0 else 1) < 30)) = true := by rfl)
    (hline : (apos.endLine == cpos.line) = true := by rfl) (hs : starEach (e :: es) X.env = (false, eval e X.env) :: starEach es X.env := by rfl) (hplain : (backTo cpos (starEach es X.env)).any (·.1) = false := by rfl) :
    PE X (.Call (.Attribute o name apos) (e :: es) [] cpos) (tBM X.K T r to t) := by
  intro pins s σ H Q I h
  refine wpAny_Call_method_late hbase hfew hline rfl (thn (ho pins s σ H _ I h) fun v s1 ⟨x, H1, I1, r1, ty, q1⟩ => ?_)
  obtain ⟨h1, h2⟩ := tyV_is I1 r1 ty
  refine ⟨T, id, pa, slot, hty, h1, h2, ?_⟩
  have hA := ha cpos pins s1 σ H1 _ I1 q1
  rw [hs] at hA ⊢
  refine Calls.callWith_builtin (by show (false || (backTo cpos (starEach es X.env)).any (·.1)) = false; rw [hplain] <;> rfl) (Calls.evalArgs_plain ?_)
  exact thn hA fun us s2 ⟨vs, H2, I2, r2, q2⟩ => hm pins s2 σ H2 x vs v us Q I2 r1 r2 q2
/- xs.append(e), list.index on a module's tuple .. are MtR facts of 06m -/
end
end L2

namespace L2
open PySem PySem.Spec PyProof.Rows

def MtM (X : Cx) (id : String) (r : V → List V → Hp → VK → Prop) : Prop :=
  ∀ (pins : List (Addr × Obj)) (s : Shared) (σ : St) (H : Hp) (x : V) (xs : List V) (v : Value) (us : List Value) (Q : VK), Inv X pins σ H s → RelV x v → Vals xs us → r x xs H Q →
    wpAny (model X.prog X.w) X.A (call (.builtin id) (v :: us)) (EP X pins σ Q) X.xe s

/-! ### lists of values -/
theorem Vals.one : ∀ {x : V} {us : List Value}, Vals [x] us → ∃ u, us = [u] ∧ RelV x u
  | _, _, .cons r .nil => ⟨_, rfl, r⟩
theorem Vals.two : ∀ {x y : V} {us : List Value}, Vals [x, y] us → ∃ u v, us = [u, v] ∧ RelV x u ∧ RelV y v
  | _, _, _, .cons r (.cons q .nil) => ⟨_, _, rfl, r, q⟩
theorem Vals.zero : ∀ {us : List Value}, Vals [] us → us = []
  | _, .nil => rfl
theorem Vals.dropLast {xs : List V} {us : List Value} (h : Vals xs us) : Vals xs.dropLast us.dropLast := by
  induction h with
  | nil => exact .nil
  | cons r t ih =>
    cases t with
    | nil => exact .nil
    | cons q t' => exact .cons r ih
theorem Vals.eraseIdx : ∀ {xs : List V} {us : List Value} (i : Nat), Vals xs us → Vals (xs.eraseIdx i) (us.eraseIdx i)
  | _, _, _, .nil => .nil
  | _, _, 0, .cons _ t => t
  | _, _, i + 1, .cons r t => .cons r (Vals.eraseIdx i t)
theorem Vals.reverse {xs : List V} {us : List Value} (h : Vals xs us) : Vals xs.reverse us.reverse := by
  induction h with
  | nil => exact .nil
  | cons r t ih => rw [List.reverse_cons, List.reverse_cons]; exact Vals.append ih (.cons r .nil)
theorem Vals.rep {xs : List V} {us : List Value} (h : Vals xs us) : ∀ k : Nat, Vals (List.replicate k xs).flatten (List.replicate k us).flatten
  | 0 => .nil
  | k + 1 => by
    rw [List.replicate_succ, List.replicate_succ, List.flatten_cons, List.flatten_cons]
    exact Vals.append h (Vals.rep h k)
theorem erase_last {α : Type} (l : List α) : l.eraseIdx (l.length - 1) = l.dropLast := by
  induction l with
  | nil => rfl
  | cons a r ih =>
    cases r with
    | nil => rfl
    | cons b r =>
      have e : (a :: b :: r).length - 1 = ((b :: r).length - 1) + 1 := by
        have h1 : (a :: b :: r).length = r.length + 2 := rfl
        have h2 : (b :: r).length = r.length + 1 := rfl
        omega
      rw [e, List.eraseIdx_cons_succ, ih]
      all_goals rfl
theorem len_erase {α : Type} : ∀ (l : List α) (i : Nat), (l.eraseIdx i).length ≤ l.length
  | [], _ => Nat.le_refl _
  | _ :: _, 0 => Nat.le_succ _
  | _ :: r, i + 1 => Nat.succ_le_succ (len_erase r i)
theorem foldl_rep (its : List Value) : ∀ (k : Nat) (acc : List Value),
    List.foldl (fun x1 x2 => x1 ++ x2) acc.toArray (List.replicate k its.toArray) = (acc ++ (List.replicate k its).flatten).toArray
  | 0, acc => by simp
  | k + 1, acc => by
    have e : acc.toArray ++ its.toArray = (acc ++ its).toArray := by simp
    have e2 : (acc ++ its) ++ (List.replicate k its).flatten = acc ++ (List.replicate (k + 1) its).flatten := by
      rw [List.replicate_succ, List.flatten_cons, List.append_assoc]
    rw [← e2, ← foldl_rep its k (acc ++ its), ← e, List.replicate_succ, List.foldl_cons]

section
variable {X : Cx} {pins : List (Addr × Obj)} {σ : St} {H : Hp} {s : Shared} {l b : Addr} {xs ys zs : List V}

/-! ### the two steps: a tracked list is rewritten, a new list is laid -/
theorem Inv.lset {its its' : List Value} {n : Nat} {f : Array Value → Array Value} {t' : Nat} (I : Inv X pins σ H s) (hH : H l = some (.lst xs))
    (e : s.heap.get? l = some { cls := .type "list", data := .seq its.toArray n }) (hf : f its.toArray = its'.toArray) (hv : Vals ys its') (hz : ys.length ≤ sizeLine) :
    Inv X pins σ (upd H l (.lst ys)) { s with heap := s.heap.update l (Obj.mapSeq f), toks := t' } := by
  have q := PySem.IsL.update e f
  rw [hf] at q
  refine I.write (x := l) (e := l) (by rw [hH]; exact trivial) (.inl rfl) (fun b' u hb hu => (Heap.get?_update_other s.heap (Obj.mapSeq f) (Ne.symm hb)).trans hu) ⟨_, q⟩ ?_
  exact ⟨hz, its', _, hv, q⟩
theorem Inv.lnew {its : List Value} {t' : Nat} (I : Inv X pins σ H s) (hv : Vals ys its) (hz : ys.length ≤ sizeLine) :
    Inv X pins σ (upd H s.heap.objs.size (.lst ys)) { s with heap := s.heap.push { cls := .type "list", data := .seq its.toArray }, toks := t' } :=
  I.laid (fun _ _ q => Heap.get?_push_of_some _ q) (Nat.le_refl _) ⟨hz, its, 0, hv, Heap.get?_push_size _ rfl⟩
theorem Inv.fresh (I : Inv X pins σ H s) : H s.heap.objs.size = none := I.hok.fresh (Nat.le_refl _)
theorem Inv.lstM (I : Inv X pins σ H s) (hH : H l = some (.lst xs)) : xs.length ≤ sizeLine ∧ ∃ (its : List Value) (n : Nat), Vals xs its ∧ xs.length = its.length ∧ s.heap.get? l = some { cls := .type "list", data := .seq its.toArray n } := by
  obtain ⟨z, its, n, r, e⟩ := I.hok l _ hH
  exact ⟨z, its, n, r, r.length, e⟩

theorem notLongL {n : Nat} (h : n ≤ sizeLine) : Builtin.List.listTooLong n = false := by
  unfold Builtin.List.listTooLong
  exact decide_eq_false (by omega)
end

section
variable {X : Cx}

/-! ### methods -/
def rAppend : V → List V → Hp → VK → Prop := fun x vs H Q => ∃ l xs y, x = .ref l ∧ vs = [y] ∧ H l = some (.lst xs) ∧ xs.length < sizeLine ∧ Q .non (upd H l (.lst (xs ++ [y])))
theorem mt_append : MtM X "list.append" rAppend := by
  intro pins s σ H x vs v us Q I rx rv h
  obtain ⟨l, xs, y, rfl, rfl, hH, hz, q⟩ := h
  cases rx
  obtain ⟨u, rfl, ru⟩ := rv.one
  obtain ⟨z, its, n, r, hl, e⟩ := I.lstM hH
  refine call_meets F.slot_list_append ⟨_, e, rfl⟩ F.entry_list_append (F.args_list_append_2 _ _) (PySem.list_append l its.toArray n u (by rw [List.size_toArray]; omega)) ⟨e, ?_⟩
  refine ⟨.non, _, I.lset (its' := its ++ [u]) hH e (by simp) (r.append (.cons ru .nil)) ?_, rfl, q⟩
  rw [List.length_append, List.length_singleton]
  omega

def rExtend : V → List V → Hp → VK → Prop := fun x vs H Q => ∃ l b xs zs, x = .ref l ∧ vs = [.ref b] ∧ H l = some (.lst xs) ∧ H b = some (.lst zs) ∧ xs.length + zs.length ≤ sizeLine ∧ Q .non (upd H l (.lst (xs ++ zs)))
theorem mt_extend : MtM X "list.extend" rExtend := by
  intro pins s σ H x vs v us Q I rx rv h
  obtain ⟨l, b, xs, zs, rfl, rfl, hH, hB, hz, q⟩ := h
  cases rx
  obtain ⟨u, rfl, ru⟩ := rv.one
  cases ru
  obtain ⟨z, its, n, r, hl, e⟩ := I.lstM hH
  obtain ⟨z2, its2, n2, r2, hl2, e2⟩ := I.lstM hB
  have hsz : its.toArray.size + its2.toArray.size ≤ sizeLine := by rw [List.size_toArray, List.size_toArray]; omega
  have hlong : ¬ (!its.toArray.isEmpty && Builtin.List.listTooLong (its.toArray.size + its2.toArray.size)) = true := by
    rw [notLongL hsz, Bool.and_false]
    exact Bool.false_ne_true
  refine call_meets F.slot_list_extend ⟨_, e, rfl⟩ F.entry_list_extend (F.args_list_extend_2 _ _)
    (AutoSeq1.list_extend_list_list_0 l its.toArray n b its2.toArray n2 hlong (by rw [List.size_toArray]; omega) (by omega)) ⟨e, e2, ?_⟩
  refine ⟨.non, _, I.lset (its' := its ++ its2) hH e (by simp) (r.append r2) ?_, rfl, q⟩
  rw [List.length_append]
  omega

def rPop : V → List V → Hp → VK → Prop := fun x vs H Q => ∃ l xs y, x = .ref l ∧ vs = [] ∧ H l = some (.lst xs) ∧ xs[xs.length - 1]? = some y ∧ Q y (upd H l (.lst xs.dropLast))
theorem mt_pop : MtM X "list.pop" rPop := by
  intro pins s σ H x vs v us Q I rx rv h
  obtain ⟨l, xs, y, rfl, rfl, hH, hy, q⟩ := h
  cases rx
  have hus := rv.zero
  subst hus
  obtain ⟨z, its, n, r, hl, e⟩ := I.lstM hH
  obtain ⟨u, hu, ru⟩ := r.get hy
  have hy' : its.toArray[its.toArray.size - 1]? = some u := by
    show its.toArray[its.length - 1]? = some u
    rw [← Array.getElem?_toList, ← hl]
    exact hu
  refine call_meets F.slot_list_pop ⟨_, e, rfl⟩ F.entry_list_pop (F.args_list_pop_1 _) (MeetsSeq.list_pop_last l its.toArray n u hy' (by rw [List.size_toArray]; omega)) ⟨e, ?_⟩
  refine ⟨y, _, I.lset (its' := its.dropLast) hH e ?_ r.dropLast ?_, ru, q⟩
  · show its.toArray.eraseIdxIfInBounds (its.toArray.size - 1) = its.dropLast.toArray
    rw [List.size_toArray, List.eraseIdxIfInBounds_toArray, erase_last]
  · rw [List.length_dropLast]
    omega

def rPopAt : V → List V → Hp → VK → Prop := fun x vs H Q => ∃ l xs i k y, x = .ref l ∧ vs = [.int i] ∧ H l = some (.lst xs) ∧ -(2 ^ 63) ≤ i ∧ i < 2 ^ 63 ∧ seqIndex? i xs.length = some k ∧ xs[k]? = some y ∧ Q y (upd H l (.lst (xs.eraseIdx k)))
theorem mt_popAt : MtM X "list.pop" rPopAt := by
  intro pins s σ H x vs v us Q I rx rv h
  obtain ⟨l, xs, i, k, y, rfl, rfl, hH, h1, h2, hk, hy, q⟩ := h
  cases rx
  obtain ⟨u, rfl, ru⟩ := rv.one
  obtain ⟨t, rfl⟩ := ru
  obtain ⟨z, its, n, r, hl, e⟩ := I.lstM hH
  obtain ⟨w, hw, rw'⟩ := r.get hy
  refine call_meets F.slot_list_pop ⟨_, e, rfl⟩ F.entry_list_pop (F.args_list_pop_2 _ _)
    (MeetsSeq.list_pop_at l its.toArray n i t k w (fitsIndex_both h1 h2) (by rw [List.size_toArray, ← hl]; exact hk) (by rw [← Array.getElem?_toList]; exact hw) (by rw [List.size_toArray]; omega)) ⟨e, ?_⟩
  refine ⟨y, _, I.lset (its' := its.eraseIdx k) hH e ?_ (r.eraseIdx k) ?_, rw', q⟩
  · show its.toArray.eraseIdxIfInBounds k = (its.eraseIdx k).toArray
    rw [List.eraseIdxIfInBounds_toArray]
  · have := len_erase xs k
    omega

def rReverse : V → List V → Hp → VK → Prop := fun x vs H Q => ∃ l xs, x = .ref l ∧ vs = [] ∧ H l = some (.lst xs) ∧ Q .non (upd H l (.lst xs.reverse))
theorem mt_reverse : MtM X "list.reverse" rReverse := by
  intro pins s σ H x vs v us Q I rx rv h
  obtain ⟨l, xs, rfl, rfl, hH, q⟩ := h
  cases rx
  have hus := rv.zero
  subst hus
  obtain ⟨z, its, n, r, hl, e⟩ := I.lstM hH
  refine call_meets F.slot_list_reverse ⟨_, e, rfl⟩ F.entry_list_reverse (F.args_list_reverse_1 _) (AutoSeq1.list_reverse_list_0 l its.toArray n (by rw [List.size_toArray]; omega)) ⟨e, ?_⟩
  refine ⟨.non, _, I.lset (its' := its.reverse) hH e (by simp) r.reverse ?_, rfl, q⟩
  rw [List.length_reverse]
  omega

def rClear : V → List V → Hp → VK → Prop := fun x vs H Q => ∃ l xs, x = .ref l ∧ vs = [] ∧ H l = some (.lst xs) ∧ Q .non (upd H l (.lst []))
theorem mt_clear : MtM X "list.clear" rClear := by
  intro pins s σ H x vs v us Q I rx rv h
  obtain ⟨l, xs, rfl, rfl, hH, q⟩ := h
  cases rx
  have hus := rv.zero
  subst hus
  obtain ⟨z, its, n, r, hl, e⟩ := I.lstM hH
  refine call_meets F.slot_list_clear ⟨_, e, rfl⟩ F.entry_list_clear (F.args_list_clear_1 _) (AutoSeq1.list_clear_list_0 l its.toArray n (by rw [List.size_toArray]; omega)) ⟨e, ?_⟩
  exact ⟨.non, _, I.lset (its' := []) (ys := []) hH e rfl .nil (Nat.zero_le _), rfl, q⟩

/-! ### list + list, list += list, list * int -/
def rCat : R2 := fun x y H Q => ∃ l b xs zs, x = .ref l ∧ y = .ref b ∧ H l = some (.lst xs) ∧ H b = some (.lst zs) ∧ xs.length + zs.length ≤ sizeLine ∧ ∀ p, H p = none → Q (.ref p) (upd H p (.lst (xs ++ zs)))
theorem op_cat : OpR X (binaryOp .Add) rCat := by
  intro pins s σ H x y v u Q I rx ry h
  obtain ⟨l, b, xs, zs, rfl, rfl, hH, hB, hz, q⟩ := h
  cases rx
  cases ry
  obtain ⟨z, its, n, r, hl, e⟩ := I.lstM hH
  obtain ⟨z2, its2, n2, r2, hl2, e2⟩ := I.lstM hB
  refine PySem.P.add_list e e2 ?_ (by rw [List.size_toArray, List.size_toArray]; omega)
  have ea : its.toArray ++ its2.toArray = (its ++ its2).toArray := by simp
  rw [ea]
  exact ⟨.ref _, _, I.lnew (t' := s.toks) (r.append r2) (by rw [List.length_append]; omega), rfl, q _ I.fresh⟩
/-- a list times an int (a negative one is nothing) -/
def rRep : R2 := fun x y H Q => ∃ l k xs, x = .ref l ∧ y = .int k ∧ H l = some (.lst xs) ∧ -(2 ^ 63) ≤ k ∧ k < 2 ^ 63 ∧ xs.length * k.toNat ≤ sizeLine ∧
  ∀ p, H p = none → Q (.ref p) (upd H p (.lst (List.replicate k.toNat xs).flatten))
theorem len_rep {α : Type} (xs : List α) (k : Nat) : (List.replicate k xs).flatten.length = k * xs.length := by
  induction k with
  | zero => simp
  | succ k ih => rw [List.replicate_succ, List.flatten_cons, List.length_append, ih, Nat.succ_mul, Nat.add_comm]
theorem op_rep : OpR X (binaryOp .Mult) rRep := by
  intro pins s σ H x y v u Q I rx ry h
  obtain ⟨l, k, xs, rfl, rfl, hH, h1, h2, hz, q⟩ := h
  cases rx
  obtain ⟨t, rfl⟩ := ry
  obtain ⟨z, its, n, r, hl, e⟩ := I.lstM hH
  have hlen : its.toArray.size * k.toNat ≤ sizeLine := by rw [List.size_toArray, ← hl]; exact hz
  have hcap : ¬ its.toArray.size * k.toNat > (2 ^ 63 - 1) / 8 := by
    have : (sizeLine : Nat) ≤ (2 ^ 63 - 1) / 8 := by decide
    omega
  have hfit : ¬ (!Builtin.List.listFitsIndex k) = true := by
    rw [fitsIndex_both h1 h2]
    exact Bool.false_ne_true
  have hlong : ¬ Builtin.List.listTooLong (its.toArray.size * k.toNat) = true := by
    rw [notLongL hlen]
    exact Bool.false_ne_true
  have hnew : List.foldl (fun x1 x2 => x1 ++ x2) #[] (List.replicate (if its.toArray.isEmpty = true then 0 else k.toNat) its.toArray) = (List.replicate k.toNat its).flatten.toArray := by
    have f0 : ∀ m : Nat, List.foldl (fun x1 x2 => x1 ++ x2) #[] (List.replicate m its.toArray) = (List.replicate m its).flatten.toArray := fun m => by
      have := foldl_rep its m []
      rw [List.nil_append] at this
      exact this
    rw [f0]
    cases its with
    | nil => simp
    | cons a r' => rw [if_neg (by simp)]
  refine wpAny_binaryOp_repeat_ref (T := "list") (U := "int") (by decide) ⟨_, e, rfl⟩ (fun s' => typeIs_int s' k t) noFill_list_mul F.fills_int_mul F.slot_int_rmul repeat_list F.slot_int_index.lookup
    (call_meets F.slot_int_rmul (typeIs_int s k t) F.entry_int_rmul (F.args_int_rmul_2 _ _) (int___rmul___int_list k t l its.toArray n)
      ⟨e, rfl, ⟨_, e, rfl⟩, call_meets F.slot_list_mul ⟨_, e, rfl⟩ F.entry_list_mul (F.args_list_mul_2 _ _) (AutoListH.list___mul___list_int_3 l its.toArray n k t hfit hcap hlong) ⟨e, ?_⟩⟩)
  rw [hnew]
  exact ⟨.ref _, _, I.lnew (t' := s.toks) (r.rep k.toNat) (by rw [len_rep, Nat.mul_comm]; exact hz), rfl, q _ I.fresh⟩

/-! ### del xs[i] -/
theorem del_list {pins : List (Addr × Obj)} {s : Shared} {σ : St} {H : Hp} {l : Addr} {xs : List V} {i : Int} {t : Tok} {k : Nat} {Q : Unit → Shared → Prop} (I : Inv X pins σ H s) (hH : H l = some (.lst xs))
    (h1 : -(2 ^ 63) ≤ i) (h2 : i < 2 ^ 63) (hk : seqIndex? i xs.length = some k) (h : ∀ s', Inv X pins σ (upd H l (.lst (xs.eraseIdx k))) s' → Q () s') :
    wpAny (model X.prog X.w) X.A (delItem (.ref l) (.int i t)) Q X.xe s := by
  obtain ⟨z, its, n, r, hl, e⟩ := I.lstM hH
  refine PySem.P.delItem_list (k := k) e (fitsIndex_both h1 h2) (by rw [List.size_toArray, ← hl]; exact hk) (h _ ?_) (by rw [List.size_toArray]; omega)
  refine I.lset (its' := its.eraseIdx k) (t' := s.toks) hH e ?_ (r.eraseIdx k) ?_
  · show its.toArray.eraseIdxIfInBounds k = (its.eraseIdx k).toArray
    rw [List.eraseIdxIfInBounds_toArray]
  · have := len_erase xs k
    omega
end

/-! ### xs[a:b] = ys -/
section
variable {prog : Program} {w : World} {A : Around} {E : Value → Shared → Prop} {s : Shared}
theorem splice_eq (its its2 : List Value) (a c : Nat) : its.toArray.extract 0 a ++ its2.toArray ++ its.toArray.extract c its.toArray.size = (its.take a ++ its2 ++ its.drop c).toArray := by
  apply Array.toList_inj.mp
  first
    | (simp
       exact List.take_of_length_le (by simp))
    | simp [List.take_of_length_le]
    | simp
theorem bounds_run {a c n : Nat} (hac : a ≤ c) (hc : c ≤ n) : sliceBounds (some (a : Int)) (some (c : Int)) none n = ((a : Int), (c : Int), 1) := by
  simp only [sliceBounds, Option.getD_none]
  have h1 : ¬ ((a : Int) < 0) := by omega
  have h2 : ¬ ((c : Int) < 0) := by omega
  simp only [h1, h2, if_false, show (1 : Int) > 0 by decide, if_true]
  congr 1
  · omega
  · congr 1; omega
set_option maxRecDepth 100000 in
/-- list.__setitem__ with a slice of step one and another list -/
theorem setItem_slice {l b sl : Addr} {items new : Array Value} {n n2 : Nat} {vl vu : Value} {a c : Nat} {Q : Unit → Shared → Prop}
    (e : s.heap.get? l = some { cls := .type "list", data := .seq items n }) (e2 : s.heap.get? b = some { cls := .type "list", data := .seq new n2 }) (hne : l ≠ b)
    (hs : s.heap.IsSliceOf sl vl vu .none) (pl : IsPart vl (some (a : Int))) (pu : IsPart vu (some (c : Int))) (hac : a ≤ c) (hc : c ≤ items.size)
    (hsz : items.size + new.size ≤ sizeLine) (h : Q () { s with heap := s.heap.update l (Obj.mapSeq fun xs => xs.extract 0 a ++ new ++ xs.extract c xs.size) }) :
    wpAny (model prog w) A (setItem (.ref l) (.ref sl) (.ref b)) Q E s := by
  have hl : s.heap.IsList l items := PySem.IsL.isList e
  have hb : s.heap.IsList b new := PySem.IsL.isList e2
  obtain ⟨os, hos, hcs, hds⟩ := id hs
  have hTs : s.TypeIs (.ref sl) "slice" := ⟨os, hos, hcs⟩
  have hstep : ¬ ((rawPart none == rawInt 0) = true) := Bool.false_ne_true
  have hsame : Builtin.List.listSameRef (.ref l) (.ref b) = false := by
    unfold Builtin.List.listSameRef
    exact beq_eq_false_iff_ne.mpr hne
  have hmax : (max (a : Int) (c : Int)).toNat = c := by omega
  have hz' : ((fun xs : Array Value => xs.extract 0 a ++ new ++ xs.extract c xs.size) items).size ≤ sizeLine + 1 := by
    simp only [Array.size_append, Array.size_extract]
    omega
  unfold setItem
  try with_reducible refine wpAny_holding ?_
  first | refine wpAny_bind (wpAny_pure ?_) | skip
  refine wpAny_bind (wpAny_sequenceKey hl.typeIs (by decide) ?_)
  refine wpAny_bind (wpAny_callSpecial?_slot (name := Str.ofString "__setitem__") hl.typeIs slot_list_setitem
    (wpAny_call_entry slot_list_setitem hl.typeIs entry_list_setitem ?_ (args_list_setitem _ _ _)))
  show wpAny _ _ (Builtin.List.listSubscript? (.ref sl) >>= _) _ _ s
  refine wpAny_bind ?_
  unfold Builtin.List.listSubscript?
  refine wpAny_bind (wpAny_specialOf hTs slice_no_index ?_)
  simp only [Option.isNone_none, if_true]
  refine wpAny_pure ?_
  show wpAny _ _ (typeOf (.ref sl) >>= _) _ _ s
  refine wpAny_bind (wpAny_typeOf hTs ?_)
  first
    | rw [if_neg (by decide)]
    | refine PySem.W.KFB.if_not (by decide) ?_
  rw [listSliceParts_eq]
  refine wpAny_bind (wpAny_bind (wpAny_field hos hds (x := .none) rfl (wpAny_bind (wpAny_listPart .none ?_))))
  rw [if_neg hstep]
  refine wpAny_bind (wpAny_field hos hds (x := vl) rfl (wpAny_bind (wpAny_listPart pl ?_)))
  refine wpAny_bind (wpAny_field hos hds (x := vu) rfl (wpAny_bind (wpAny_listPart pu (wpAny_pure ?_))))
  first
    | simp only [hsame, Bool.false_eq_true, if_false]
    | refine PySem.W.KFB.if_not hsame ?_
    | (dsimp only
       rw [if_neg (by rw [hsame]; exact Bool.false_ne_true)])
  refine wpAny_bind (m := Builtin.List.listAllItems (.ref b) "must assign iterable to extended slice") ?_
  unfold Builtin.List.listAllItems
  refine wpAny_bind (wpAny_typeOf hb.typeIs ?_)
  first
    | refine PySem.W.KFB.if_so (by decide) ?_
    | rw [if_pos (by decide)]
    | simp only [beq_self_eq_true, Bool.true_or, if_true]
  unfold Builtin.List.listItems
  refine wpAny_bind (wpAny_seqItems e2 rfl (wpAny_pure ?_))
  refine wpAny_bind (wpAny_bind (wpAny_seqItems e rfl (wpAny_pure ?_)))
  refine wpAny_bind (wpAny_of_eq ((sliceIndices_raw (some (a : Int)) (some (c : Int)) none items.size (by simp)).trans (congrArg (pure : Int × Int × Int → Sem (Int × Int × Int)) (bounds_run hac hc))) ?_)
  show wpAny _ _ (if ((1 : Int) == 1) = true then _ else _) _ _ s
  rw [if_pos (by decide)]
  refine wpAny_bind (wpAny_rule ?_)
  first
    | simp only [notLongL hsz, Bool.false_eq_true, if_false]
    | refine PySem.W.KFB.if_not (notLongL hsz) ?_
  first | refine wpAny_bind (wpAny_pure ?_) | skip
  show wpAny _ _ (updateSeq l (fun xs => xs.extract 0 ((a : Int)).toNat ++ new ++ xs.extract (max (a : Int) (c : Int)).toNat xs.size) >>= _) _ _ s
  rw [hmax, Int.toNat_natCast]
  refine wpAny_bind (wpAny_updateSeq (hz := Nat.le_trans (Nat.le_add_right _ _) hsz) (_hz' := hz') e rfl ?_)
  refine wpAny_bind (wpAny_letGo ?_)
  first
    | exact wpAny_bind (wpAny_pure (wpAny_pure ⟨.none, rfl, wpAny_pure h⟩))
    | exact wpAny_pure ⟨.none, rfl, wpAny_pure h⟩
end

section
variable {X : Cx}
/-- xs[a:c] = ys of another list, at the value level: sl is the slice object that was just made -/
theorem set_slice {pins : List (Addr × Obj)} {s : Shared} {σ : St} {H : Hp} {l b sl : Addr} {xs ys : List V} {a c : Int} {vl vu : Value} {Q : Unit → Shared → Prop} (I : Inv X pins σ H s)
    (hH : H l = some (.lst xs)) (hB : H b = some (.lst ys)) (hne : l ≠ b) (hs : s.heap.IsSliceOf sl vl vu .none) (ra : RelV (.int a) vl) (rc : RelV (.int c) vu) (h0 : 0 ≤ a) (hac : a ≤ c) (hc : c ≤ xs.length)
    (hz : xs.length + ys.length ≤ sizeLine) (h : ∀ s', Inv X pins σ (upd H l (.lst (xs.take a.toNat ++ ys ++ xs.drop c.toNat))) s' → Q () s') :
    wpAny (model X.prog X.w) X.A (setItem (.ref l) (.ref sl) (.ref b)) Q X.xe s := by
  obtain ⟨ta, rfl⟩ := ra
  obtain ⟨tc, rfl⟩ := rc
  obtain ⟨z, its, n, r, hl, e⟩ := I.lstM hH
  obtain ⟨z2, its2, n2, r2, hl2, e2⟩ := I.lstM hB
  obtain ⟨a', rfl⟩ := Int.eq_ofNat_of_zero_le h0
  obtain ⟨c', rfl⟩ := Int.eq_ofNat_of_zero_le (Int.le_trans h0 hac)
  simp only [Int.toNat_natCast] at h
  refine setItem_slice (a := a') (c := c') e e2 hne hs (.int _ _) (.int _ _) (by omega) (by rw [List.size_toArray]; omega) (by rw [List.size_toArray, List.size_toArray]; omega) (h _ ?_)
  refine I.lset (its' := its.take a' ++ its2 ++ its.drop c') (t' := s.toks) hH e ?_ (Vals.append (Vals.append (r.take _) r2) (r.drop _)) ?_
  · exact splice_eq its its2 a' c'
  · rw [List.length_append, List.length_append, List.length_take, List.length_drop]
    omega
end
end L2

namespace Att
open PySem PySem.W PySem.Calls PyProof.Rows

/-! ### the script -/
theorem ints_of_wellAll {P : Params} {h : Heap} : ∀ (ns : List Int) (vs : List Value), WellAll P h vs (ns.map WData.int) → IntsAre vs ns := by
  intro ns
  induction ns with
  | nil =>
    intro vs w
    rw [List.map_nil] at w
    cases w
    exact .nil
  | cons n ns ih =>
    intro vs w
    rw [List.map_cons] at w
    cases w with
    | cons a b =>
      cases a
      exact .cons _ _ (ih _ b)

theorem script_of {l : OpenLaw} {n : Nat} (hn : l.most = some n) {P : Params} {h : Heap} {args : List WData} {vals : List Value}
    (hpre : l.row.toRowW.claim.pre args = true) (hwl : WellAll P h vals args) :
    ∃ a vs ns, vals = [Value.ref a] ∧ args = [WData.list (ns.map WData.int)] ∧ h.get? a = some { cls := .type "list", data := .seq vs.toArray } ∧ IntsAre vs ns ∧ ns.length ≤ n := by
  have hsh : WShape.hasAll [] args [.list .int] = true := (pre_splitW hpre).1
  have hc : l.pre.holds [] { args := args } = true := (pre_splitW hpre).2
  obtain ⟨d, r, rfl, h1, h2⟩ := hasAllW_cons hsh
  obtain rfl := hasAllW_nil h2
  obtain ⟨xs, rfl, h3⟩ := hasW_list h1
  obtain ⟨ns, rfl⟩ := items_int h3
  have hlen : ns.length ≤ n := by
    unfold OpenLaw.pre at hc
    have h4 : (WTm.not (.lt (.lit (.int (n : Int))) (.len (.arg 0)))).holds [] { args := [.list (ns.map .int)] } = true := by
      have h4 := (holds_andW hc).1
      rw [hn] at h4
      exact h4
    have h5 := condW_of h4 (w_not (w_lt w_lit (w_len_list (w_arg rfl))))
    rw [List.length_map] at h5
    refine Nat.le_of_not_lt fun q => ?_
    have q' : (n : Int) < ((ns.length : Nat) : Int) := by omega
    first
      | (rw [decide_eq_true q'] at h5; exact absurd h5 (by decide))
      | (simp at h5; omega)
  cases hwl with
  | cons w1 w2 =>
    cases w2
    cases w1 with
    | list ho hall => exact ⟨_, _, ns, rfl, rfl, ho, ints_of_wellAll ns _ hall, hlen⟩

theorem post_true (l : OpenLaw) (args : List WData) : l.row.toRowW.claim.post args (.bool true) args = true :=
  postW_of (r := l.row.toRowW) (X := (true == true))
    (show WShape.has [] (.bool true) .bool = true by first | rfl | decide | simp [WShape.has, WShape.arms, WShape.armsAll])
    (show (WTm.eq .res (.lit (.bool true))).value [] { args := args, res := some (.bool true), after := args } = some (.bool (true == true)) from w_eq_bool (w_res rfl) w_lit) rfl

/-! ### the attachment: holds_open's last premise (the goal 'hc' behind k_head) from a wpAny of the law's body -/
theorem attach {l : OpenLaw} {n : Nat} {q : Program} {loose : List Str} {XP : (Str → Option Value) → Heap → Prop} {YP : World → Heap → Prop} {d : DefRec} {x : Str}
    (hn : l.most = some n) (hdf : d.params.defaults = [])
    (hbind : ∀ pm cd doc v : Value, bindArgs (docDef d.name d.params d.body d.scope pm cd doc) ⟨[v], []⟩ = pure [(x, v)])
    (hx : d.scope.names.lookup x = some .local ∨ d.scope.names.lookup x = some .cell)
    (hk : d.scope.kind = .function) (hco : d.scope.isCoroutine = false) (hgen : d.scope.isGenerator = false)
    (body : ∀ (w : World) (s₀ s₁ s : Shared) (mg mb : Str → Option Value) (fa : Addr) (o : Obj) (pm cd doc : Value) (a : Addr) (vs : List Value) (ns : List Int),
      Ground q loose [] XP w s₀ mg mb s₁.heap → YP w s₁.heap →
      s₁.heap.get? fa = some o → o.data = .func (docDef d.name d.params d.body d.scope pm cd doc) → s₁.heap.CodeRec cd d.name → mg d.name = some (.ref fa) →
      s₁.heap.get? a = some { cls := .type "list", data := .seq vs.toArray } → IntsAre vs ns → ns.length ≤ n →
      s.gens = #[] → s.os = s₁.os →
      Fr s₁.heap s₁.heap.objs.size s.heap (bindL (envOfC d.name d.scope s₁.heap.objs.size fa cd).kindOf [(x, .ref a)] fun _ => none) →
      Cl s₁.heap.objs.size (cellsFrom (s₁.heap.objs.size + 1) d.scope.names []) s.heap (bindC (envOfC d.name d.scope s₁.heap.objs.size fa cd).kindOf [(x, .ref a)] fun _ => none) →
      wpAny (model l.prog w) (callerA.deeper (envOfC d.name d.scope s₁.heap.objs.size fa cd)) (execs d.body (envOfC d.name d.scope s₁.heap.objs.size fa cd))
        (fun f s' => f = .ret (.bool true) ∧ OldK s₁.heap s'.heap ∧ s'.os = s₁.os ∧ AllBare s'.gens) (fun _ _ => False) s) :
    WalkO q loose XP YP l.row.toRowW d [] (fun f vs => PySem.call f vs) := by
  intro w s₀ s₁ mg mb G Y fa o pm cd doc dV kV ho hd hcd hD hmg hg args vals as hpre hlay hrd hwl hlo
  obtain rfl : dV = .none := Dflts.none hD hdf
  obtain rfl : kV = .none := Dflts.noKw hD
  obtain ⟨a, vs, ns, rfl, rfl, hobj, hints, hlen⟩ := script_of hn hpre hwl
  refine enter_call ?_
  refine call_cells_ret (o := o) (by rw [depth_caller]; decide) ho (fd_plain hd) G.T.nolimit hcd (hbind pm cd doc (.ref a)) (fun y hy => ?_) (fun h₁ tk F X => ?_) hco hgen hk
  · obtain rfl : y = (x, Value.ref a) := List.mem_singleton.mp hy
    rcases hx with e | e
    · exact .inl e
    · exact .inr ⟨e, cellsFrom_some _ _ _ (.inl e)⟩
  · refine wpAny_mono (body w s₀ s₁ { s₁ with heap := h₁, toks := tk } mg mb fa o pm cd doc a vs ns G Y ho (fd_plain hd) hcd hmg hobj hints hlen hg rfl F X) (fun f s' hq => ?_) (fun _ _ hq => hq)
    obtain ⟨rfl, h2, h3, h4⟩ := hq
    exact ⟨.inl ⟨.bool true, .bool true, [], rfl, fun _ => rfl, .bool true, post_true l _, fun _ => ⟨List.Pairwise.nil, fun _ hm => (nomatch hm)⟩⟩, h2, h3, h4⟩

/-- the same from a codeAny of the CALL (for a layer whose function contracts speak of calls) -/
theorem attach_call {l : OpenLaw} {n : Nat} {q : Program} {loose : List Str} {XP : (Str → Option Value) → Heap → Prop} {YP : World → Heap → Prop} {d : DefRec}
    (hn : l.most = some n) (hdf : d.params.defaults = [])
    (call : ∀ (w : World) (s₀ s₁ : Shared) (mg mb : Str → Option Value) (fa : Addr) (o : Obj) (pm cd doc : Value) (a : Addr) (vs : List Value) (ns : List Int),
      Ground q loose [] XP w s₀ mg mb s₁.heap → YP w s₁.heap →
      s₁.heap.get? fa = some o → o.data = .func (docDef d.name d.params d.body d.scope pm cd doc) → s₁.heap.CodeRec cd d.name → mg d.name = some (.ref fa) →
      s₁.heap.get? a = some { cls := .type "list", data := .seq vs.toArray } → IntsAre vs ns → ns.length ≤ n → s₁.gens = #[] →
      codeAny (model l.prog w) callerA (.call (.ref fa) ⟨[.ref a], []⟩) (fun r s' => r = .ok (.ret (.bool true)) ∧ OldK s₁.heap s'.heap ∧ s'.os = s₁.os ∧ AllBare s'.gens) s₁) :
    WalkO q loose XP YP l.row.toRowW d [] (fun f vs => PySem.call f vs) := by
  intro w s₀ s₁ mg mb G Y fa o pm cd doc dV kV ho hd hcd hD hmg hg args vals as hpre hlay hrd hwl hlo
  obtain rfl : dV = .none := Dflts.none hD hdf
  obtain rfl : kV = .none := Dflts.noKw hD
  obtain ⟨a, vs, ns, rfl, rfl, hobj, hints, hlen⟩ := script_of hn hpre hwl
  refine enter_call (codeAny_mono (call w s₀ s₁ mg mb fa o pm cd doc a vs ns G Y ho (fd_plain hd) hcd hmg hobj hints hlen hg) fun r s' hq => ?_)
  obtain ⟨rfl, h2, h3, h4⟩ := hq
  exact ⟨.inl ⟨.bool true, .bool true, [], rfl, fun _ => rfl, .bool true, post_true l _, fun _ => ⟨List.Pairwise.nil, fun _ hm => (nomatch hm)⟩⟩, h2, h3, h4⟩

/-- the same where the top left finished generators (o_head chose holds_openN): nothing may have changed at all and no generator may be left -/
theorem attachN {l : OpenLaw} {n : Nat} {q : Program} {loose : List Str} {XP : (Str → Option Value) → Heap → Prop} {YP : World → Heap → Prop} {d : DefRec} {x : Str}
    (hn : l.most = some n) (hdf : d.params.defaults = [])
    (hbind : ∀ pm cd doc v : Value, bindArgs (docDef d.name d.params d.body d.scope pm cd doc) ⟨[v], []⟩ = pure [(x, v)])
    (hx : d.scope.names.lookup x = some .local ∨ d.scope.names.lookup x = some .cell)
    (hk : d.scope.kind = .function) (hco : d.scope.isCoroutine = false) (hgen : d.scope.isGenerator = false)
    (body : ∀ (w : World) (s₀ s₁ s : Shared) (mg mb : Str → Option Value) (fa : Addr) (o : Obj) (pm cd doc : Value) (a : Addr) (vs : List Value) (ns : List Int),
      Ground q loose [] XP w s₀ mg mb s₁.heap → YP w s₁.heap →
      s₁.heap.get? fa = some o → o.data = .func (docDef d.name d.params d.body d.scope pm cd doc) → s₁.heap.CodeRec cd d.name → mg d.name = some (.ref fa) →
      s₁.heap.get? a = some { cls := .type "list", data := .seq vs.toArray } → IntsAre vs ns → ns.length ≤ n →
      s.gens = #[] → s.os = s₁.os →
      Fr s₁.heap s₁.heap.objs.size s.heap (bindL (envOfC d.name d.scope s₁.heap.objs.size fa cd).kindOf [(x, .ref a)] fun _ => none) →
      Cl s₁.heap.objs.size (cellsFrom (s₁.heap.objs.size + 1) d.scope.names []) s.heap (bindC (envOfC d.name d.scope s₁.heap.objs.size fa cd).kindOf [(x, .ref a)] fun _ => none) →
      wpAny (model l.prog w) (callerA.deeper (envOfC d.name d.scope s₁.heap.objs.size fa cd)) (execs d.body (envOfC d.name d.scope s₁.heap.objs.size fa cd))
        (fun f s' => f = .ret (.bool true) ∧ (∀ b o, s₁.heap.get? b = some o → s'.heap.get? b = some o) ∧ s'.os = s₁.os ∧ s'.gens = #[]) (fun _ _ => False) s) :
    WalkN q loose XP YP l.row.toRowW d [] (fun f vs => PySem.call f vs) := by
  intro w s₀ s₁ mg mb G Y fa o pm cd doc dV kV ho hd hcd hD hmg hg args vals as hpre hlay hrd hwl hlo
  obtain rfl : dV = .none := Dflts.none hD hdf
  obtain rfl : kV = .none := Dflts.noKw hD
  obtain ⟨a, vs, ns, rfl, rfl, hobj, hints, hlen⟩ := script_of hn hpre hwl
  refine enter_callW ?_
  refine call_cells_ret (o := o) (by rw [depth_caller]; decide) ho (fd_plain hd) G.T.nolimit hcd (hbind pm cd doc (.ref a)) (fun y hy => ?_) (fun h₁ tk F X => ?_) hco hgen hk
  · obtain rfl : y = (x, Value.ref a) := List.mem_singleton.mp hy
    rcases hx with e | e
    · exact .inl e
    · exact .inr ⟨e, cellsFrom_some _ _ _ (.inl e)⟩
  · refine wpAny_mono (body w s₀ s₁ { s₁ with heap := h₁, toks := tk } mg mb fa o pm cd doc a vs ns G Y ho (fd_plain hd) hcd hmg hobj hints hlen hg rfl F X) (fun f s' hq => ?_) (fun _ _ hq => hq)
    obtain ⟨rfl, h2, h3, h4⟩ := hq
    exact ⟨.inl ⟨.bool true, .bool true, [], rfl, fun _ => rfl, .bool true, post_true l _, fun _ => ⟨List.Pairwise.nil, fun _ hm => (nomatch hm)⟩⟩, h2, h3, h4⟩

/-! ### rules over ANY heap (no ledger) from facts about the written part K: the library's own take a ledger (News) for what they write -/
section
variable {prog : Program} {w : World} {A : Around} {E : Value → Shared → Prop} {s : Shared} {K : Frag}

/-- a def of the module, or a method (qual 'C.m'), entered: the frame is the next address; cells behind it -/
theorem call_fn {R : Result → Shared → Prop} {name qual : Str} {params : Arguments} {body : List Stmt} {scope : Scope} {dV kV doc pm cdv ct oc : Value} {an od : Option Addr} {osl : Array (Option Value)} {f : Addr} {args : Args} {binds : List (Str × Value)}
    (X : K.In s.heap) (hlim : s.heap.NoLimit) (ho : K.lookup f = some ⟨oc, od, .func (fnOf name qual params body scope dV kV doc pm an cdv ct), osl⟩) (hcd : codeIn K cdv qual = true) (hroom : A.depth < recursionLimit)
    (hbind : BindsTo s (fnOf name qual params body scope dV kV doc pm an cdv ct) args binds)
    (hkind : (binds.all fun y => scope.names.lookup y.1 == some .local || scope.names.lookup y.1 == some .cell) = true)
    (h : ∀ s₁, InCallC s s.heap.objs.size (bindL (envOfC qual scope s.heap.objs.size f cdv).kindOf binds fun _ => none) (cellsFrom (s.heap.objs.size + 1) scope.names [])
        (bindC (envOfC qual scope s.heap.objs.size f cdv).kindOf binds fun _ => none) s₁ →
      wpAny (model prog w) (A.deeper (envOfC qual scope s.heap.objs.size f cdv)) (execs body (envOfC qual scope s.heap.objs.size f cdv))
        (fun fl s' => R (.ok (.ret (match fl with | .ret v => v | _ => .none))) s')
        (fun e s' => wpAny (model prog w) (A.deeper (envOfC qual scope s.heap.objs.size f cdv)) (leaving (envOfC qual scope s.heap.objs.size f cdv) e) (fun _ s'' => R (.error e) s'') (fun e' s'' => R (.error e') s'') s') s₁)
    (hco : scope.isCoroutine = false) (hgen : scope.isGenerator = false) (hk : scope.kind = .function) : codeAny (model prog w) A (.call (.ref f) args) R s := by
  refine codeAny_call_function hroom (X _ _ ho) rfl hco hgen rfl (codeRec_of X hcd) (hbind _ _ _ _ ?_)
  refine wpAny_newFunctionEnv_cells hk (kindsX hkind _) fun env he s₁ x => ?_
  subst he
  exact ⟨hlim.keeps x.toInCall.keep, codeAny_func (h s₁ x)⟩

/-- C(..): dict at size, instance at size + 1, then __init__ -/
theorem make_obj {R : Result → Shared → Prop} {C fI : Addr} {rest : List Value} {kw : List (Str × Value)}
    (X : K.In s.heap) (hm : makesIn K C = true) (hi : findIn K (.ref C) "__init__" = some (some (.ref fI))) (hf : isFn K (.ref fI) = true)
    (h : codeAny (model prog w) (A.under (.builtin "type.__call__" ⟨.ref C :: rest, kw⟩)) (.call (.ref fI) ⟨.ref (s.heap.objs.size + 1) :: rest, kw⟩) (InitBack (s.heap.objs.size + 1) R)
      { s with heap := (s.heap.push emptyDict).push (instObj C s.heap.objs.size) }) : codeAny (model prog w) A (.call (.ref C) ⟨rest, kw⟩) R s := by
  obtain ⟨hh, g, d, t, os⟩ := s
  exact make_core (makes_of X hm) (looks_findIn X hi) (fun self => bind_fn X self (beq_iff_eq.mp hf)) (.inl rfl) h

/-- x.name where the instance's dict holds the name and the class does not -/
theorem get_field {x C : Addr} {ox : Obj} {es : List DictEntry} {n : Nat} {name : Str} {expr : Bool} {v : Value} {Q : Value → Shared → Prop}
    (X : K.In s.heap) (I : PySem.W.InstAt s.heap x ox C (some (dictOf es n))) (hg : plainGet K C name = true) (hh : hasDictIn K C = true) (ha : findIn K (.ref C) name = some none)
    (hl : getL name es = some (some v)) (hv : handedIn v = true) (h : Q v { s with toks := s.toks + 1 }) : wpAny (model prog w) A (getAttr (.ref x) name expr) Q E s :=
  get_value X I (plainGet_of hg).1 (findObj_own hh ha rfl hl) hv h

/-- x.m(..): the method found in the class -/
theorem get_method {x C f : Addr} {ox : Obj} {es : List DictEntry} {n : Nat} {name : Str} {pl : Sem Bool} {Q : Value × List Value → Shared → Prop}
    (X : K.In s.heap) (I : PySem.W.InstAt s.heap x ox C (some (dictOf es n))) (hg : plainGet K C name = true) (hf : findIn K (.ref C) name = some (some (.ref f))) (ht : isFn K (.ref f) = true)
    (hl : getL name es = some none) (h : Q (.ref f, [.ref x]) s) : wpAny (model prog w) A (getMethod (.ref x) name pl) Q E s :=
  method_fn X I (plainGet_of hg).1 (plainGet_of hg).2 hf (beq_iff_eq.mp ht) (by show (lookIn name (dictOf es n)).map _ = _; rw [lookIn_dict, hl]; rfl) h

/-! the whole heap as the ledger: makes every rule that writes through a ledger a rule over any heap -/
def noObjs (h : Heap) : Heap := { h with objs := #[] }
theorem noObjs_get (h : Heap) (b : Addr) : (noObjs h).get? b = none := by
  cases e : (noObjs h).get? b with
  | none => rfl
  | some o => exact absurd (Heap.lt_size e) (Nat.not_lt_zero _)
def ledger (h : Heap) (L d : Addr) : List (Addr × Obj) := (List.range h.objs.size).filterMap fun a => if a = L ∨ a = d then none else (h.get? a).map fun o => (a, o)
theorem mem_ledger {h : Heap} {L d a : Addr} {o : Obj} : (a, o) ∈ ledger h L d ↔ a ≠ L ∧ a ≠ d ∧ h.get? a = some o := by
  unfold ledger
  rw [List.mem_filterMap]
  constructor
  · rintro ⟨b, _, e⟩
    split at e
    · cases e
    · rename_i hb
      obtain ⟨o', ho, e'⟩ := Option.map_eq_some_iff.mp e
      cases e'
      exact ⟨fun q => hb (.inl q), fun q => hb (.inr q), ho⟩
  · rintro ⟨n1, n2, ho⟩
    refine ⟨a, List.mem_range.mpr (Heap.lt_size ho), ?_⟩
    rw [if_neg (show ¬ (a = L ∨ a = d) from fun q => q.elim n1 n2), ho] <;> rfl
theorem news_ledger {h : Heap} {L d : Addr} {od : Obj} (hne : d ≠ L) (ho : h.get? d = some od) : News (noObjs h) L h ([] ++ (d, od) :: ledger h L d) := by
  rintro ⟨a, o⟩ hp
  rcases List.mem_cons.mp hp with e | hp
  · cases e
    exact ⟨ho, hne, noObjs_get _ _⟩
  · obtain ⟨n1, n2, e⟩ := mem_ledger.mp hp
    exact ⟨e, n1, noObjs_get _ _⟩
theorem fr_all {h : Heap} {L : Addr} {m : Str → Option Value} (n : h.Ns L m) : Fr (noObjs h) L h m :=
  ⟨n, fun b o e => (by rw [noObjs_get] at e; cases e), Nat.zero_le _⟩
/-- Upd of the head entry (for append_K, setItem_K ..) -/
theorem upd_ledger {h : Heap} {L d : Addr} {o o' : Obj} : Upd d o o' ((d, o) :: ledger h L d) ((d, o') :: ledger h L d) :=
  .head fun ⟨_, _⟩ hp => (mem_ledger.mp hp).2.1

/-- x.name = v over any heap: L is any namespace of the heap (the frame's, say): its map stays, its object is not told; all else but the dict stays -/
theorem set_field {x C dx L : Addr} {ox : Obj} {m : Str → Option Value} {es es' : List DictEntry} {n n' : Nat} {name : Str} {v : Value} {Q : Unit → Shared → Prop}
    (X : K.In s.heap) (I : PySem.W.InstAt s.heap x ox C (some (dictOf es n))) (hd : ox.dict = some dx) (hL : s.heap.Ns L m) (hne : dx ≠ L)
    (hs : findIn K (.ref C) "__setattr__" = some (some (.builtin "object.__setattr__"))) (hp : plainOver K C = true) (ht : takerIn K C name = some none) (hh : hasDictIn K C = true) (hl : (getL name es).isSome = true)
    (e : (putL name (PyData.keyHash w.params name) (.str name (s.toks + 1)) v es, putN name es n) = (es', n')) (hz : es'.length ≤ 1000)
    (h : ∀ h' : Heap, h'.Ns L m → h'.get? dx = some (dictOf es' n') → (∀ b o, b ≠ dx → b ≠ L → s.heap.get? b = some o → h'.get? b = some o) → Q () { s with heap := h', toks := s.toks + 2 }) :
    wpAny (model prog w) A (setAttr (.ref x) name v) Q E s := by
  obtain ⟨e1, e2⟩ := Prod.mk.inj e
  have hdx : s.heap.get? dx = some (dictOf es n) := by
    have := I.dict
    rw [hd] at this
    exact this
  refine set_plain X I hs (osa_dict (s := { s with toks := s.toks + 1 }) (h₀ := noObjs s.heap) (L := L) (m := m) (od := dictOf es n) (od' := dictOf es' n') (es := es') (n := n') (pre := []) (post := ledger s.heap L dx)
    (fr_all hL) (news_ledger hne hdx) X I hd hp ht hh hl (fun _ q => nomatch q) (fun ⟨_, _⟩ q => (mem_ledger.mp q).2.1) (by rw [putName_dict, e1, e2]) rfl hz fun h' F' N' => ?_)
  exact h h' F'.ns (N'.get (List.Mem.head _)) fun b o n1 n2 ho => N'.get (List.Mem.tail _ (mem_ledger.mpr ⟨n2, n1, ho⟩))
end
end Att

namespace L2
open PySem PySem.Spec PyProof.Rows

theorem vals_ints : ∀ {vs : List Value} {ns : List Int}, IntsAre vs ns → Vals (ns.map V.int) vs
  | _, _, .nil => .nil
  | _, _, .cons n t h => .cons ⟨t, rfl⟩ (vals_ints h)

/-- nothing is tracked but the script, known to the object (or it is an object of the module) -/
def Only (H : Hp) : Prop := ∀ b, H b = none ∨ ∃ o xs, H b = some (.frz o (.lst xs))

/-- THE HEAD: the law's promise, at the heap behind the top. F, the promise of the law's def, may use that base is part of the heap (so K.In base, base.Ns mainGlobals mg stand in Mod) -/
theorem law_call {P : Program} {w : World} {K : PySem.W.Frag} {mg mb : Str → Option Value} {CX : CXT} {k : Nat} {fa a : Addr} {fd : FuncData} {x : Str} {sp : Sp} {s₁ : Shared} {vs : List Value} {ns : List Int}
    (KX : K.In s₁.heap) (hns : s₁.heap.Ns mainGlobals mg) (hb : s₁.heap.Ns builtinsNs mb) (hbb : ∀ x : Str, x ≠ "__name__" → mb x = bootBuiltins x) (hlim : s₁.heap.NoLimit) (hg : s₁.gens = #[])
    (ha : s₁.heap.get? a = some { cls := .type "list", data := .seq vs.toArray }) (hi : IntsAre vs ns) (hl : ns.length ≤ sizeLine) (hr : Room k callerA)
    (F : ∀ base : Heap, K.In base → base.Ns mainGlobals mg → FnOk P w K mg base CX k fa fd [x] sp) (hbind : ∀ (s : Shared) (u : Value), BindsTo s fd ⟨[u], []⟩ [(x, u)])
    (hsp : ∀ H : Hp, Only H → SqL K H a (ns.map V.int) → sp [.ref a] H (fun v _ => v = .bl true) fun _ _ _ => False)
    (hCX : ∀ H e s', CX [] H s₁ (fun _ _ _ => False) e s' → False) :
    codeAny (model P w) callerA (.call (.ref fa) ⟨[.ref a], []⟩) (fun r s' => r = .ok (.ret (.bool true)) ∧ OldK s₁.heap s'.heap ∧ s'.os = s₁.os ∧ AllBare s'.gens) s₁ := by
  have rv := vals_ints hi
  have lenV := hi.length
  -- from an abstract heap in which nothing but the script may be tracked
  have core : ∀ H : Hp, Only H → SqL K H a (ns.map V.int) → HOk P w H s₁.heap → (∀ b, H b ≠ none → b = a) → (H a ≠ none → K.lookup a = none) →
      codeAny (model P w) callerA (.call (.ref fa) ⟨[.ref a], []⟩) (fun r s' => r = .ok (.ret (.bool true)) ∧ OldK s₁.heap s'.heap ∧ s'.os = s₁.os ∧ AllBare s'.gens) s₁ := by
    intro H hO hS hok hA hK
    have base_of : ∀ {b : Addr} {o : Obj}, s₁.heap.get? b = some o → H b = none → (hidT s₁.heap H).get? b = some o := fun e n => hidT_get e n
    have noA : ∀ {b : Addr} {o : Obj} {es : Array DictEntry} {ep : Nat}, s₁.heap.get? b = some o → o.data = .dict es ep → H b = none := fun {b o es ep} e d => by
      cases q : H b with
      | none => rfl
      | some u =>
        have e' : b = a := hA b (by rw [q]; simp)
        subst e'
        rw [ha] at e; cases e
        have d' : Data.seq vs.toArray _ = Data.dict es ep := d
        cases d'
    have nsK : ∀ {b : Addr} {m : Str → Option Value}, s₁.heap.Ns b m → (hidT s₁.heap H).Ns b m := fun {b m} ⟨o, es, ep, e, d, r⟩ => ⟨o, es, ep, base_of e (noA e d), d, r⟩
    have hKb : K.In (hidT s₁.heap H) := fun b o e => base_of (KX b o e) (by
      cases q : H b with
      | none => rfl
      | some u =>
        have e' : b = a := hA b (by rw [q]; simp)
        subst e'
        rw [hK (by rw [q]; simp)] at e; cases e)
    have hM : Mod K mg (hidT s₁.heap H) := ⟨hKb, nsK hns, ⟨mb, nsK hb, hbb⟩, let ⟨mc, h1, h2⟩ := hlim; ⟨mc, nsK h1, h2⟩⟩
    have e0 : Env0 P w K mg (hidT s₁.heap H) callerA [] s₁ H := ⟨rfl, hM, fun b o e => of_hidT e, Nat.le_of_eq (hidT_size _ _), trivial, fun b hb => absurd (show b ∈ ([] : List Addr) from hb) (by simp), hok, .of_eq hg⟩
    refine codeAny_mono ((F _ hKb (nsK hns)).run callerA [] s₁ H ⟨[.ref a], []⟩ [.ref a] [.ref a] _ _ hr e0 (hbind s₁ (.ref a)) (.cons rfl .nil) (hsp H hO hS)) fun r s' h => ?_
    cases r with
    | error e => exact (hCX H e s' h).elim
    | ok fl =>
      cases fl with
      | next => exact False.elim h
      | brk => exact False.elim h
      | cont => exact False.elim h
      | ret u =>
        obtain ⟨v, H', os, bare, un, hok', r', q⟩ := h
        have q' : v = .bl true := q
        subst q'
        obtain rfl : u = Value.bool true := r'
        refine ⟨rfl, OldK.of_keep fun b o e => ?_, os, bare⟩
        cases q : H b with
        | none => exact un.keep b o e q (by intro z; exact absurd (show b ∈ ([] : List Addr) from z) (by simp)) (by simp)
        | some u =>
          rcases hO b with z | ⟨ob, xs, z⟩
          · rw [q] at z; cases z
          · have z2 := un.frzs b ob _ z
            obtain ⟨e1, _⟩ := hok b _ z
            obtain ⟨e2, _⟩ := hok' b _ z2
            rw [e] at e1; cases e1
            exact e2
  cases hk : K.lookup a with
  | some o =>
    -- the script is one of the module's own objects
    have e := KX a o hk
    rw [ha] at e
    cases e
    refine core (fun _ => none) (fun _ => .inl rfl) (.inr ⟨_, vs.toArray, _, hk, rfl, rfl, rfl, by rw [List.size_toArray, lenV]; exact hl, by simpa using rv⟩) (fun b u z => by have z' : (none : Option HO) = some u := z; cases z') (fun b z => absurd rfl z) fun z => absurd rfl z
  | none =>
    refine core (fun b => if b = a then some (.frz { cls := .type "list", data := .seq vs.toArray } (.lst (ns.map V.int))) else none) (fun b => ?_) (.inl (.inr ⟨{ cls := .type "list", data := .seq vs.toArray }, if_pos rfl⟩)) (fun b u z => ?_) (fun b z => ?_) fun _ => hk
    · by_cases hb : b = a
      · exact .inr ⟨_, _, if_pos hb⟩
      · exact .inl (if_neg hb)
    · by_cases hb : b = a
      · have z' := (if_pos hb).symm.trans z
        cases z'
        subst hb
        exact ⟨ha, by rw [List.length_map]; exact hl, vs, _, rv, ha⟩
      · have z' := (if_neg hb).symm.trans z
        cases z'
    · by_cases hb : b = a
      · exact hb
      · exact absurd (if_neg hb) z
end L2

namespace L2
open PySem PySem.Spec PyProof.Rows

abbrev KOf {K : PySem.W.Frag} {h : Heap} (_ : K.In h) : PySem.W.Frag := K

/-- the goal that k_head leaves (case hc), from the law's promise. F gives the function object fd (K's own) once, then the promise over every base -/
theorem walk_of {l : PySem.W.OpenLaw} {n k : Nat} {q : Program} {loose : List Str} {XP : (Str → Option Value) → Heap → Prop} {YP : World → Heap → Prop} {d : DefRec} {K : Params → PySem.W.Frag} {CX : World → CXT} {sp : World → Sp} {x : Str}
    (hn : l.most = some n) (hn2 : n ≤ sizeLine) (hdf : d.params.defaults = []) (hr : Room k callerA)
    (hY : ∀ (w : World) (h : Heap), YP w h → (K w.params).In h)
    (F : ∀ (w : World) (mg : Str → Option Value) (fa : Addr) (h : Heap), (K w.params).In h → h.Ns mainGlobals mg → mg d.name = some (.ref fa) →
      ∃ fd : FuncData, (∀ (s : Shared) (u : Value), BindsTo s fd ⟨[u], []⟩ [(x, u)]) ∧
        ∀ base : Heap, (K w.params).In base → base.Ns mainGlobals mg → FnOk l.prog w (K w.params) mg base (CX w) k fa fd [x] (sp w))
    (hsp : ∀ (w : World) (H : Hp) (a : Addr) (ns : List Int), ns.length ≤ n → Only H → SqL (K w.params) H a (ns.map V.int) → sp w [.ref a] H (fun v _ => v = .bl true) fun _ _ _ => False)
    (hCX : ∀ (w : World) (H : Hp) (s : Shared) (e : Value) (s' : Shared), CX w [] H s (fun _ _ _ => False) e s' → False) :
    PySem.W.WalkO q loose XP YP l.row.toRowW d [] (fun f vs => PySem.call f vs) := by
  refine Att.attach_call hn hdf fun w s₀ s₁ mg mb fa o pm cd doc a vs ns G Y ho hd hcd hmg hobj hints hlen hg => ?_
  have KX := hY w _ Y
  obtain ⟨fd, hb, hF⟩ := F w mg fa _ KX G.T.g hmg
  exact law_call KX G.T.g G.T.b G.T.builtins G.T.nolimit hg hobj hints (Nat.le_trans hlen hn2) hr hF hb (fun H hO hS => hsp w H a ns hlen hO hS) fun H e s' => hCX w H s₁ e s'
/-- the same where the promise hangs on the written part alone: (sp := My.sp_law), no hole under a binder -/
theorem walk_ofK {l : PySem.W.OpenLaw} {n k : Nat} {q : Program} {loose : List Str} {XP : (Str → Option Value) → Heap → Prop} {YP : World → Heap → Prop} {d : DefRec} {K : Params → PySem.W.Frag} {CX : CXT} {sp : PySem.W.Frag → Sp} {x : Str}
    (hn : l.most = some n) (hn2 : n ≤ sizeLine) (hdf : d.params.defaults = []) (hr : Room k callerA)
    (hY : ∀ (w : World) (h : Heap), YP w h → (K w.params).In h)
    (F : ∀ (w : World) (mg : Str → Option Value) (fa : Addr) (h : Heap), (K w.params).In h → h.Ns mainGlobals mg → mg d.name = some (.ref fa) →
      ∃ fd : FuncData, (∀ (s : Shared) (u : Value), BindsTo s fd ⟨[u], []⟩ [(x, u)]) ∧
        ∀ base : Heap, (K w.params).In base → base.Ns mainGlobals mg → FnOk l.prog w (K w.params) mg base CX k fa fd [x] (sp (K w.params)))
    (hsp : ∀ (K : PySem.W.Frag) (H : Hp) (a : Addr) (ns : List Int), ns.length ≤ n → Only H → SqL K H a (ns.map V.int) → sp K [.ref a] H (fun v _ => v = .bl true) fun _ _ _ => False)
    (hCX : ∀ (H : Hp) (s : Shared) (e : Value) (s' : Shared), CX [] H s (fun _ _ _ => False) e s' → False) :
    PySem.W.WalkO q loose XP YP l.row.toRowW d [] (fun f vs => PySem.call f vs) :=
  walk_of (K := K) (CX := fun _ => CX) (sp := fun w => sp (K w.params)) hn hn2 hdf hr hY F (fun w H a ns h1 h2 h3 => hsp (K w.params) H a ns h1 h2 h3) fun _ H s e s' => hCX H s e s'
end L2

/- THE LAST THEOREM (shape; LID, My.* are yours):
   My.Adr: a structure of the addresses that your layer names (classes, functions); My.Txt K t: a structure (Prop) of the equations over K;
   My.txt_mk : {K} {implicit addresses ..} (e1 : nsIn K mainGlobals "law" = some (some (.ref f))) (e2 : K.lookup f = some ⟨oc, od, .func (fnOf "law" "law" params body scope dV kV doc pm an cdv ct), sl⟩) (e3 : codeIn K cdv "law" = true) .. : ∃ t, My.Txt K t

set_option maxRecDepth 100000 in
set_option maxHeartbeats 0 in
theorem PySem.Challenge.cw_LID_holds : PySem.Challenge.rw_LID.Holds := by
  w_on; o_law; k_head; (case hw => w_witness2)
  k_fill
  refine L2.walk_of (l := PySem.Challenge.rw_LID) (n := 63) (k := 40) (x := "script") (CX := fun w => ..) (sp := fun _ => My.sp_law) rfl (by decide) rfl ⟨rfl, by decide, by decide⟩ (fun w h Y => PySem.W.kIn_of Y) ?F ?S ?C
  case F =>
    intro w mg fa h KX G hmg
    have T : ∃ t, My.Txt (L2.KOf KX) t := by
      dsimp only [L2.KOf]                          -- K must stand as «<heap const> w.params» for k_is
      refine' My.txt_mk ?e1 ?e2 ?e3 ..
      (case e1 => PySem.W.k_is)                    -- in the order: a name -> its address -> its object -> its parts
      (case e2 => PySem.W.k_is)
      ..
    obtain ⟨t, T⟩ := T
    have e0 := hmg.symm.trans (PySem.W.mg_of KX G T.law)
    cases e0                                       -- fa is the law's own address
    exact ⟨_, fun s u => .of_eq rfl, fun base kb nb => My.law_fn T kb nb⟩     -- if «.of_eq rfl» comes too early: refine' ⟨_, ?b, fun base kb nb => My.law_fn T kb nb⟩; exact fun s u => .of_eq rfl
  case S => exact fun w H a ns hl hO hS => ..
  case C => exact ..
(the tactic k_is has no namespace: write k_is) -/

/-! SHORT WORDS over the layer: a def of the text, its body, what a loop and a test want. -/
namespace L2
open PySem PySem.Spec PyProof.Rows

/-! ### the text by places -/
/-! ### no exception leaves a def -/
abbrev CX0 : CXT := fun _ _ _ _ _ _ => False
abbrev E0 : XK := fun _ _ _ => False
theorem pass0 {X : Cx} : Passes CX0 X E0 := fun _ _ _ _ _ _ _ h => h.elim

/-! ### a def (or method) of the text as it stands behind the top -/
structure Fun (K : PySem.W.Frag) (x qual : Str) (st : Stmt) (f : Addr) (fd : FuncData) : Prop where
  ex : ∃ (oc : Value) (od : Option Addr) (kV doc pm : Value) (an : Option Addr) (cdv ct : Value) (osl : Array (Option Value)),
    fd = PySem.W.fnOf x qual (defArgs st) (defBody st) (defScope st) .none kV doc pm an cdv ct ∧ K.lookup f = some ⟨oc, od, .func fd, osl⟩ ∧ PySem.W.codeIn K cdv qual = true
  kp : PySem.W.keepIn K (.ref f) = true
section
variable {P : Program} {w : World} {K : PySem.W.Frag} {mg : Str → Option Value} {base : Heap}
/-- THE RULE for a def: its body as a term of rules, and the reading of that term -/
theorem Fun.ok {x qual : Str} {st : Stmt} {f : Addr} {fd : FuncData} {N ps : List Str} {k : Nat} {sp : Sp} (F : Fun K x qual st f fd) (S : FnScope N ps (defScope st)) (len : ∀ vs H Q E, sp vs H Q E → vs.length = ps.length)
    (hbody : ∀ (cdv : Value) (A : Around) (outer : List Env) (s : Shared) (H : Hp) (vs : List V) (Q : VK) (E : XK), Room k (A.deeper (envOfC qual (defScope st) s.heap.objs.size f cdv)) → sp vs H Q E →
      ∃ t, PSs (cxOf CX0 P w K mg base N qual (defScope st) f cdv A outer s H E).nox (defBody st) t ∧ t { nx := fun _ H' => Q .non H', rt := Q } (start N vs) H) : FnOk P w K mg base CX0 (k + 1) f fd ps sp := by
  obtain ⟨oc, od, kV, doc, pm, an, cdv, ct, osl, rfl, lk, hcd⟩ := F.ex
  refine fn_of lk hcd S len fun A outer s H vs Q E hr hsp => ?_
  obtain ⟨t, h, q⟩ := hbody cdv A outer s H vs Q E hr hsp
  exact ⟨t, h.nox, q⟩
/-- how its arguments bind (no defaults): h is «fun _ _ _ _ _ _ us hl => match us, hl with | [_, _], _ => rfl», one _ a parameter -/
theorem Fun.binds {x qual : Str} {st : Stmt} {f : Addr} {fd : FuncData} {ps : List Str} (F : Fun K x qual st f fd)
    (h : ∀ (kV doc pm : Value) (an : Option Addr) (cdv ct : Value) (us : List Value), us.length = ps.length → bindArgs (PySem.W.fnOf x qual (defArgs st) (defBody st) (defScope st) .none kV doc pm an cdv ct) ⟨us, []⟩ = pure (ps.zip us)) : Binds K fd ps [] := by
  obtain ⟨oc, od, kV, doc, pm, an, cdv, ct, osl, rfl, lk, hcd⟩ := F.ex
  exact .all (h kV doc pm an cdv ct)
theorem fun_mk {x qual : Str} {st : Stmt} {f : Addr} {oc : Value} {od an : Option Addr} {osl : Array (Option Value)} {kV doc pm cdv ct : Value} (l : K.lookup f = some ⟨oc, od, .func (PySem.W.fnOf x qual (defArgs st) (defBody st) (defScope st) .none kV doc pm an cdv ct), osl⟩)
    (c : PySem.W.codeIn K cdv qual = true) (k : PySem.W.keepIn K (.ref f) = true) : Fun K x qual st f (PySem.W.fnOf x qual (defArgs st) (defBody st) (defScope st) .none kV doc pm an cdv ct) := ⟨⟨oc, od, kV, doc, pm, an, cdv, ct, osl, rfl, l, c⟩, k⟩
end
theorem hu_of {A : Around} {k : Nat} (hr : Room k A) : A.units + 1 < cLine := Nat.lt_of_le_of_lt (Nat.add_le_add_left (by decide : 1 ≤ 64) _) hr.units
theorem small1000 {n : Nat} (h : n ≤ 1000) : n < sizeLine := Nat.lt_of_le_of_lt h (by decide)

/-! ### expressions in short: the name that stands in the i-th slot -/
section
variable {X : Cx}
theorem pv (i : Nat) {x : Str} {pos : Pos} (hN : X.N[i]? = some x := by rfl) (hv : Vis X.env.scope x := by first | exact Or.inl rfl | exact Or.inr (Or.inl rfl) | exact Or.inr (Or.inr rfl)) (hd : (x == ("__debug__" : Str)) = false := by decide)
    (hcd : (x == ("__classdict__" : Str)) = false := by decide) : PE X (.Name x pos) (tVar i) := pe_var hN hv hd hcd
end

/-! ### tests -/
theorem iteF {A B : Prop} (h : B) : if false = true then A else B := by
  rw [if_neg Bool.false_ne_true]
  exact h
theorem iteT {A B : Prop} (h : A) : if true = true then A else B := by
  rw [if_pos rfl]
  exact h
theorem ite2 {c A B : Prop} [Decidable c] (h1 : c → A) (h2 : ¬ c → B) : if c then A else B := by
  by_cases h : c
  · rw [if_pos h]
    exact h1 h
  · rw [if_neg h]
    exact h2 h
theorem iteNS {c A B : Prop} [Decidable c] (hc : c) (h : B) : if (!decide c) = true then A else B := by
  rw [decide_eq_true hc]
  exact iteF h

/-! ### heaps -/
/-- all that was tracked is as it was -/
def Same (H H' : Hp) : Prop := ∀ b o, H b = some o → H' b = some o
theorem Same.refl (H : Hp) : Same H H := fun _ _ h => h
theorem Same.trans {H H1 H2 : Hp} (a : Same H H1) (b : Same H1 H2) : Same H H2 := fun c o h => b c o (a c o h)
theorem Same.free {H H' : Hp} (e : Same H H') {l : Addr} (h : H' l = Option.none) : H l = Option.none := by
  cases q : H l with
  | none => rfl
  | some o =>
    rw [e l o q] at h
    cases h
theorem Same.seq {K : PySem.W.Frag} {H H' : Hp} {a : Addr} {xs : List V} (e : Same H H') (h : SqL K H a xs) : SqL K H' a xs := by
  rcases h with (h | ⟨o, h⟩) | h
  · exact .inl (.inl (e _ _ h))
  · exact .inl (.inr ⟨o, e _ _ h⟩)
  · exact .inr h

end L2
set_option Elab.async false
set_option linter.all false
set_option maxRecDepth 100000
set_option maxHeartbeats 6000000
namespace L2
open PySem PySem.Spec PyProof.Rows

/-! ## A. exceptions -/
theorem dict_mapFields (o : Obj) (f : Array Value → Array Value) : (o.mapFields f).dict = o.dict := by
  obtain ⟨c, d, dt, sl⟩ := o
  cases dt <;> rfl

/-- an exception object: its class, its own dict's address, its newest traceback entry -/
def Exc (h : Heap) (e : Addr) (cls : Value) (dx : Option Addr) (T : Option Addr) : Prop :=
  ∃ oe vs, h.get? e = some oe ∧ oe.cls = cls ∧ oe.dict = dx ∧ oe.data = .fields vs ∧
    match T with
    | none => vs[1]? = some Value.none
    | some t => vs[1]? = some (.ref t) ∧ t ≠ e ∧ ∃ oT ts fl, h.get? t = some oT ∧ oT.data = .fields ts ∧ ts[3]? = some fl
theorem Exc.keeps {h h' : Heap} {e : Addr} {cls : Value} {dx T : Option Addr} (x : Exc h e cls dx T) (k : ∀ b o, (b = e ∨ T = some b) → h.get? b = some o → h'.get? b = some o) : Exc h' e cls dx T := by
  obtain ⟨oe, vs, he, hc, hx, hd, hT⟩ := x
  refine ⟨oe, vs, k _ _ (.inl rfl) he, hc, hx, hd, ?_⟩
  cases T with
  | none => exact hT
  | some t =>
    obtain ⟨h1, hne, oT, ts, fl, h2, h3, h4⟩ := hT
    exact ⟨h1, hne, oT, ts, fl, k _ _ (.inr rfl) h2, h3, h4⟩

/-- a row of a traceback -/
def tbRow (head : Value) (L : Addr) (pl : List Value) : Obj :=
  { cls := .type "traceback", dict := none, data := .fields ([head, .ref L, .none, rawInt L, .none] ++ (if pl.isEmpty then List.replicate 6 Value.none else pl)).toArray }
theorem tbRow_flight (head : Value) (L : Addr) (pl : List Value) : ∃ ts, (tbRow head L pl).data = .fields ts ∧ ts[3]? = some (rawInt L) := ⟨_, rfl, by simp⟩
/-- what a noted exception leaves alone: all but the frames' slots, the exception itself, its traceback's head -/
structure Noted (fr : List Addr) (e : Addr) (T : Option Addr) (h h' : Heap) : Prop where
  same : ∀ b o, b ∉ fr → b ≠ e → T ≠ some b → h.get? b = some o → h'.get? b = some o
  upto : ∀ b o, b ≠ e → T ≠ some b → h.get? b = some o → ∃ sl, h'.get? b = some { o with slots := sl }
abbrev frameAddrs (l : List Env) : List Addr := l.filterMap (·.frame)

section
variable {M : Model} {A : Around} {E : Value → Shared → Prop} {Q : Unit → Shared → Prop}
variable {s : Shared} {base : Heap} {env top : Env} {rest : List Env} {L e : Addr} {cls : Value} {dx : Option Addr}
/-- the frame's record by any environment that runs in it -/
theorem frame_by {Qv : Value → Shared → Prop} (st : A.frames = some (top :: rest)) (fun_ : s.heap.FunFrames base (top :: rest)) (e0 : top.frame = some L) (e1 : env.frame = some L)
    (k : ∀ h', Heap.SlotsOnly (frameAddrs (top :: rest)) s.heap h' → Qv (.ref L) { s with heap := h' }) : wpAny M A (PySem.frameOf env) Qv E s := by
  have swap : PySem.frameOf env = PySem.frameOf top := by unfold PySem.frameOf; rw [e0, e1]
  rw [swap]
  exact wpAny_frameOf_fun st fun_ e0 k
/-- a new head is laid -/
theorem head_laid {oe : Obj} {vs : Array Value} {head : Value} {b₀ : Bool} (st : A.frames = some (top :: rest)) (fun_ : s.heap.FunFrames base (top :: rest)) (e0 : top.frame = some L) (e1 : env.frame = some L)
    (at_ : s.heap.get? e = some oe) (flds : oe.data = .fields vs) (two : 1 < vs.size)
    (k : ∀ h' T, Noted (frameAddrs (top :: rest)) e none s.heap h' → s.heap.get? T = none → Exc h' e oe.cls oe.dict (some T) → Q () { s with heap := h' }) :
    wpAny M A (PySem.frameOf env >>= fun a => entryPlaceOf L b₀ >>= fun pl => EntryCells.newEntry head a .none (rawInt L) .none pl >>= fun r => setField (.ref e) 1 r) Q E s := by
  refine wpAny_bind (frame_by st fun_ e0 e1 fun g sg => wpAny_bind (wpAny_entryPlaceOf fun pl ok => ?_))
  have out : e ∉ frameAddrs (top :: rest) := fun q => (fun_.mem q).2.elim fun o z => z.2 vs (by rw [at_] at z; rw [← Option.some.inj z.1]; exact flds)
  have g_e : g.get? e = some oe := (sg.2.1 e out).trans at_
  have apart : g.objs.size ≠ e := Nat.ne_of_gt (Heap.lt_size g_e)
  let g1 := g.push (tbRow head L pl)
  have g1_e : g1.get? e = some oe := Heap.get?_push_of_some (tbRow head L pl) g_e
  have g1_T : g1.get? g.objs.size = some (tbRow head L pl) := Heap.get?_push_size g rfl
  let turn : Obj → Obj := Obj.mapFields fun xs => xs.setIfInBounds 1 (Value.ref g.objs.size)
  have now : (turn oe).data = .fields (vs.setIfInBounds 1 (.ref g.objs.size)) := Obj.data_mapFields flds _
  have self : (g1.update e turn).get? e = some (turn oe) := Heap.get?_update_self turn g1_e (Obj.isFreed_of_fields now)
  have others : ∀ b, b ≠ e → (g1.update e turn).get? b = g1.get? b := fun b nb => Heap.get?_update_other g1 turn (Ne.symm nb)
  have up : ∀ b o, b ≠ e → g.get? b = some o → (g1.update e turn).get? b = some o := fun b o nb q => (others b nb).trans (Heap.get?_push_of_some (tbRow head L pl) q)
  refine wpAny_bind (wpAny_newObj_type ?_ (ok.sizeOk5 _ _ _ _ _))
  refine wpAny_setField (s := { s with heap := g1 }) g1_e flds two ?_
  refine k (g1.update e turn) g.objs.size ⟨fun b o nf nb _ q => up b o nb ((sg.2.1 b nf).trans q), fun b o nb _ q => ?_⟩ ?_ ?_
  · obtain ⟨sl, z⟩ := sg.2.2 b o q
    exact ⟨sl, up b _ nb z⟩
  · exact Heap.get?_none_of_le (Nat.le_of_eq sg.1.symm)
  · obtain ⟨ts, d, f⟩ := tbRow_flight head L pl
    exact ⟨turn oe, _, self, Obj.cls_mapFields _ _, dict_mapFields _ _, now, by simp [two], apart, _, ts, _, (others _ apart).trans g1_T, d, f⟩
theorem Noted.weaken {fr : List Addr} {T : Option Addr} {h h' : Heap} (n : Noted fr e none h h') : Noted fr e T h h' := ⟨fun b o a c _ q => n.same b o a c (fun z => nomatch z) q, fun b o c _ q => n.upto b o c (fun z => nomatch z) q⟩
/-- an exception is noted at its frame, wherever it comes from -/
theorem note_any {T : Option Addr} (st : A.frames = some (top :: rest)) (fun_ : s.heap.FunFrames base (top :: rest)) (e0 : top.frame = some L) (e1 : env.frame = some L) (x : Exc s.heap e cls dx T)
    (k : ∀ h' T', Noted (frameAddrs (top :: rest)) e T s.heap h' → (s.heap.get? T' = none ∨ T = some T') → Exc h' e cls dx (some T') → Q () { s with heap := h' }) : wpAny M A (noteFrame (.ref e) env) Q E s := by
  obtain ⟨oe, vs, at_, rfl, rfl, flds, more⟩ := id x
  unfold noteFrame
  simp only [e1]
  cases T with
  | none =>
    have nil : vs[1]? = some Value.none := more
    refine wpAny_bind (wpAny_field at_ flds nil ?_)
    rw [if_neg (show ¬ (Value.none != Value.none) = true by decide)]
    exact head_laid st fun_ e0 e1 at_ flds (Array.getElem?_eq_some_iff.mp nil).1 fun h' T' n new y => k h' T' n (.inl new) y
  | some t =>
    obtain ⟨one, apart, oT, ts, fl, tAt, tF, three⟩ := more
    have lt1 := (Array.getElem?_eq_some_iff.mp one).1
    have lt3 := (Array.getElem?_eq_some_iff.mp three).1
    refine wpAny_bind (wpAny_field at_ flds (x := .ref t) one ?_)
    have has : (Value.ref t != Value.none) = true := rfl
    simp only [has, if_true]
    refine wpAny_bind (wpAny_field tAt tF three ?_)
    by_cases here : (fl == rawInt L) = true
    · simp only [here, if_true]
      exact wpAny_pure (k s.heap t ⟨fun _ _ _ _ _ q => q, fun _ o _ _ q => ⟨o.slots, q⟩⟩ (.inr rfl) x)
    · rw [if_neg here]
      let off : Obj → Obj := Obj.mapFields fun xs => xs.setIfInBounds 3 Value.none
      have else_ : ∀ b, b ≠ t → (s.heap.update t off).get? b = s.heap.get? b := fun b nb => Heap.get?_update_other s.heap off (Ne.symm nb)
      have frames' : (s.heap.update t off).FunFrames base (top :: rest) := fun_.of_keeps fun b o q nf => ⟨o, (else_ b fun z => nf ts (by rw [z, tAt] at q; rw [← Option.some.inj q]; exact tF)).trans q, rfl⟩
      refine wpAny_bind (wpAny_setField tAt tF lt3 (head_laid (s := { s with heap := s.heap.update t off }) st frames' e0 e1 ((else_ e (Ne.symm apart)).trans at_) flds lt1 fun h' T' n new y => k h' T' ?_ ?_ y))
      · exact ⟨fun b o a c d q => n.same b o a c (fun z => nomatch z) ((else_ b fun z => d (congrArg some z.symm)).trans q), fun b o c d q => n.upto b o c (fun z => nomatch z) ((else_ b fun z => d (congrArg some z.symm)).trans q)⟩
      · by_cases z : T' = t
        · exact .inr (congrArg some z.symm)
        · exact .inl ((else_ T' z).symm.trans new)
/-- the mark of the frame in which it flies -/
theorem flight_any {t : Addr} {fr : Option Addr} (x : Exc s.heap e cls dx (some t)) (k : ∀ h', (∀ b o, b ≠ t → s.heap.get? b = some o → h'.get? b = some o) → Exc h' e cls dx (some t) → Q () { s with heap := h' }) :
    wpAny M A (setFlight (.ref e) fr) Q E s := by
  obtain ⟨oe, vs, at_, rfl, rfl, flds, one, apart, oT, ts, fl, tAt, tF, three⟩ := x
  have lt3 := (Array.getElem?_eq_some_iff.mp three).1
  have has : (Value.ref t != Value.none) = true := rfl
  unfold setFlight
  refine wpAny_bind (wpAny_field at_ flds one ?_)
  simp only [has, if_true]
  let mark : Value := fr.elim Value.none fun f => rawInt f
  have tF' : (oT.mapFields fun xs => xs.setIfInBounds 3 mark).data = .fields (ts.setIfInBounds 3 mark) := Obj.data_mapFields tF _
  refine wpAny_setField tAt tF lt3 (k _ (fun b o nb q => (Heap.get?_update_other s.heap _ (Ne.symm nb)).trans q) ?_)
  exact ⟨oe, vs, (Heap.get?_update_other s.heap _ apart).trans at_, rfl, rfl, flds, one, apart, _, _, mark, Heap.get?_update_self _ tAt (Obj.isFreed_of_fields tF'), tF', by simp [lt3]⟩
end

/-! ### at the layer's states -/
theorem ObjOk.there {P : Program} {w : World} {H : Hp} {h : Heap} {a : Addr} {o : HO} (x : ObjOk P w H h a o) : ∃ ob, h.get? a = some ob := by
  cases o with
  | lst xs => obtain ⟨_, _, _, _, e⟩ := x; exact ⟨_, e⟩
  | tup xs => obtain ⟨_, _, _, ob, e, _⟩ := x; exact ⟨_, e⟩
  | dK kvs => obtain ⟨_, _, _, _, o, _, _, e, _⟩ := x; exact ⟨_, e⟩
  | dT kvs => obtain ⟨_, _, _, _, o, _, _, e, _⟩ := x; exact ⟨_, e⟩
  | set S n => obtain ⟨o, _, _, _, e, _⟩ := x; exact ⟨_, e⟩
  | ins C dx fs => obtain ⟨_, _, _, e, _⟩ := x; exact ⟨_, e⟩
  | own y => exact x
  | xd fs => obtain ⟨_, ⟨_, _, _, e, _⟩, _⟩ := x; exact ⟨_, e⟩
  | rng lo hi => obtain ⟨_, _, _, e⟩ := x; exact ⟨_, e⟩
  | frz ob u => obtain ⟨e, _⟩ := x; exact ⟨_, e⟩
  | tbl ps => exact ⟨_, (show h.get? a = some _ from x)⟩
  | met f y => exact ⟨_, (show h.get? a = some _ from x)⟩
  | ext φ => obtain ⟨_, e, _⟩ := x; exact e
theorem HOk.none_of {P : Program} {w : World} {H : Hp} {h : Heap} {b : Addr} (x : HOk P w H h) (hb : h.get? b = none) : H b = none := by
  cases q : H b with
  | none => rfl
  | some o =>
    obtain ⟨ob, e⟩ := (x b o q).there
    rw [hb] at e; cases e

/-- an object that is nobody's: not tracked, no frame, no cell, not pinned, younger than the entry -/
def Loose (X : Cx) (pins : List (Addr × Obj)) (H : Hp) (b : Addr) : Prop :=
  H b = none ∧ b ≠ X.env.locals ∧ b ∉ X.fs ∧ (b ∉ X.ex → X.s₀.heap.get? b = none) ∧ (∀ x c, X.env.cells.lookup x = some c → c ≠ b) ∧ ∀ p ∈ X.pn ++ pins, p.1 ≠ b
section
variable {X : Cx} {pins : List (Addr × Obj)} {σ : St} {H : Hp} {s : Shared} {b : Addr}
theorem Inv.looseNew (I : Inv X pins σ H s) (hb : s.heap.get? b = none) : Loose X pins H b := by
  refine ⟨I.hok.none_of hb, fun z => ?_, fun z => ?_, fun z => ?_, fun x c e z => ?_, fun p hp z => ?_⟩
  · obtain ⟨m, ⟨o, _, _, ho, _⟩, _⟩ := I.loc
    rw [← z, hb] at ho; cases ho
  · obtain ⟨_, o, ho, _⟩ := I.funs.mem z
    rw [hb] at ho; cases ho
  · cases q : X.s₀.heap.get? b with
    | none => rfl
    | some o =>
      obtain ⟨o', e⟩ := I.base.there b o q z
      rw [hb] at e; cases e
  · obtain ⟨v, o, ho, _⟩ := I.cell x c e
    rw [z, hb] at ho; cases ho
  · have e := (I.pin p hp).1
    rw [z, hb] at e; cases e
theorem Loose.nostack (I : Inv X pins σ H s) (l : Loose X pins H b) : b ∉ frs X.stack := fun hb =>
  (List.mem_cons.mp (I.stkSub b hb)).elim (fun z => l.2.1 z) fun z => l.2.2.1 z
theorem Inv.loosened {h' : Heap} {t' : Nat} {ch : List Addr} (I : Inv X pins σ H s) (hch : ∀ b ∈ ch, Loose X pins H b)
    (keep : ∀ b o, b ∉ frs X.stack → b ∉ ch → s.heap.get? b = some o → h'.get? b = some o)
    (slot : ∀ b o, b ∉ ch → s.heap.get? b = some o → ∃ sl, h'.get? b = some { o with slots := sl }) : Inv X pins σ H { s with heap := h', toks := t' } := by
  have neL : ∀ b o, X.s₀.heap.get? b = some o → b ≠ X.env.locals := fun b o e => Nat.ne_of_lt (Nat.lt_of_lt_of_le (Heap.lt_size e) I.ok.above)
  have neC : ∀ b o, X.s₀.heap.get? b = some o → b ∉ X.ex → b ∉ ch := fun b o e hx hb => by
    have := (hch b hb).2.2.2.1 hx
    rw [e] at this; cases this
  have stk : ∀ b, b ≠ X.env.locals → b ∉ X.fs → b ∉ frs X.stack := fun b h1 h2 hb => (List.mem_cons.mp (I.stkSub b hb)).elim h1 h2
  have cellK : ∀ x c, X.env.cells.lookup x = some c → ∀ v, s.heap.IsCell c v → h'.IsCell c v := fun x c e v ⟨o, ho, hd⟩ => by
    obtain ⟨sl, q⟩ := slot c o (fun z => (hch c z).2.2.2.2.1 x c e rfl) ho
    exact ⟨_, q, hd⟩
  refine ⟨I.ok, I.os, I.bare, ⟨fun b o e n hb hx => ?_, fun b o e n hb hx => ?_, I.base.free, fun b o e hx => ?_, I.base.tups, I.base.frzs, I.base.tbls⟩, ?_, fun x c e => ?_, I.free, I.freeC, fun p hp => ?_, fun a u e => ?_, I.len⟩
  · exact keep b o (stk b (neL b o e) hb) (neC b o e hx) (I.base.keep b o e n hb hx)
  · obtain ⟨sl, e1⟩ := I.base.slot b o e n hb hx
    obtain ⟨sl', e2⟩ := slot b _ (neC b o e hx) e1
    exact ⟨sl', e2⟩
  · obtain ⟨o', e1⟩ := I.base.there b o e hx
    obtain ⟨sl', e2⟩ := slot b _ (neC b o e hx) e1
    exact ⟨_, e2⟩
  · obtain ⟨m, ⟨o, es, ep, ho, r⟩, hl⟩ := I.loc
    obtain ⟨sl, e⟩ := slot _ o (fun z => (hch _ z).2.1 rfl) ho
    refine ⟨m, ⟨_, es, ep, e, r⟩, fun i x v e1 e2 e3 => ?_⟩
    obtain ⟨u, ru, l⟩ := hl i x v e1 e2 e3
    refine ⟨u, ru, ?_⟩
    rcases l with l | ⟨k, c, e, z⟩
    · exact .inl l
    · exact .inr ⟨k, c, e, cellK x c e _ z⟩
  · obtain ⟨v, z⟩ := I.cell x c e
    exact ⟨v, cellK x c e v z⟩
  · obtain ⟨e, n, ne, nf, d⟩ := I.pin p hp
    exact ⟨keep p.1 p.2 (stk _ ne nf) (fun z => (hch _ z).2.2.2.2.2 p hp rfl) e, n, ne, nf, d⟩
  · refine (I.hok a u e).stay (fun c v hc q => ?_) (fun _ q => q) fun _ _ q => q
    have ht : ∃ z, H c = some z := by
      rcases hc with z | z
      · exact ⟨u, by rw [z]; exact e⟩
      · exact ⟨_, z⟩
    obtain ⟨z, hz⟩ := ht
    refine keep c v (fun y => ?_) (fun y => ?_) q
    · have := I.stkFree c y
      rw [hz] at this; cases this
    · have := (hch c y).1
      rw [hz] at this; cases this
end

/-- an exception in flight; the same with a traceback -/
def Fly (X : Cx) (pins : List (Addr × Obj)) (H : Hp) (s : Shared) (e : Addr) (cls : Value) (dx : Option Addr) : Prop :=
  ∃ T, Exc s.heap e cls dx T ∧ Loose X pins H e ∧ ∀ t, T = some t → Loose X pins H t
def FlyT (X : Cx) (pins : List (Addr × Obj)) (H : Hp) (s : Shared) (e : Addr) (cls : Value) (dx : Option Addr) : Prop :=
  ∃ t, Exc s.heap e cls dx (some t) ∧ Loose X pins H e ∧ Loose X pins H t
theorem FlyT.fly {X : Cx} {pins : List (Addr × Obj)} {H : Hp} {s : Shared} {e : Addr} {cls : Value} {dx : Option Addr} (f : FlyT X pins H s e cls dx) : Fly X pins H s e cls dx := by
  obtain ⟨t, x, l1, l2⟩ := f
  exact ⟨some t, x, l1, fun y z => by cases z; exact l2⟩
/-- the frame at which an exception is noted -/
def FrameOk (X : Cx) (L : Addr) : Prop := ∃ env₀ outer, X.stack = env₀ :: outer ∧ env₀.frame = some L ∧ X.env.frame = some L

section
variable {X : Cx} {pins : List (Addr × Obj)} {σ : St} {H : Hp} {s : Shared} {e L : Addr} {cls : Value} {dx : Option Addr} {M : Model} {A : Around} {E : Value → Shared → Prop} {Q : Unit → Shared → Prop}
theorem note_X (I : Inv X pins σ H s) (hA : A.frames = some X.stack) (F : FrameOk X L) (f : Fly X pins H s e cls dx) (h : ∀ s', Inv X pins σ H s' → FlyT X pins H s' e cls dx → Q () s') :
    wpAny M A (noteFrame (.ref e) X.env) Q E s := by
  obtain ⟨T, x, le, lt⟩ := f
  obtain ⟨env₀, outer, es, hf₀, hf⟩ := F
  refine note_any (base := X.base) (by rw [hA, es]) (by rw [← es]; exact I.stack) hf₀ hf x fun h' T' nt k3 x' => ?_
  have hch : ∀ b ∈ e :: T.toList, Loose X pins H b := fun b hb => by
    rcases List.mem_cons.mp hb with z | z
    · rw [z]; exact le
    · exact lt b (by simpa using z)
  have I' : Inv X pins σ H { s with heap := h', toks := s.toks } := I.loosened (ch := e :: T.toList) hch
    (fun b o hb hc q => nt.same b o (by unfold frs at hb; rw [es] at hb; exact hb) (fun z => hc (by rw [z]; exact List.mem_cons_self)) (fun z => hc (List.mem_cons_of_mem _ (by simp [z]))) q)
    (fun b o hc q => nt.upto b o (fun z => hc (by rw [z]; exact List.mem_cons_self)) (fun z => hc (List.mem_cons_of_mem _ (by simp [z]))) q)
  refine h _ I' ⟨T', x', le, ?_⟩
  rcases k3 with z | z
  · exact I.looseNew z
  · exact lt T' z
theorem flight_X {fr : Option Addr} (I : Inv X pins σ H s) (f : FlyT X pins H s e cls dx) (h : ∀ s', Inv X pins σ H s' → FlyT X pins H s' e cls dx → Q () s') :
    wpAny M A (setFlight (.ref e) fr) Q E s := by
  obtain ⟨t, x, le, lt⟩ := f
  refine flight_any x fun h' k x' => ?_
  have I' : Inv X pins σ H { s with heap := h', toks := s.toks } := I.loosened (ch := [t]) (fun b hb => by rw [List.mem_singleton.mp hb]; exact lt)
    (fun b o _ hc q => k b o (fun z => hc (by rw [z]; exact List.mem_cons_self)) q) (fun b o hc q => ⟨o.slots, k b o (fun z => hc (by rw [z]; exact List.mem_cons_self)) q⟩)
  exact h _ I' ⟨t, x', le, lt⟩
end

/-- how an exception lies behind a call -/
def CXg (P : Program) (w : World) : CXT := fun outer H s E ev s' => ∃ e cls dx H' t, ev = .ref e ∧ s'.os = s.os ∧ AllBare s'.gens ∧ Un (frs outer) [] H H' s.heap s'.heap ∧ HOk P w H' s'.heap ∧
  Exc s'.heap e cls dx (some t) ∧ H' e = none ∧ H' t = none ∧ s.heap.get? e = none ∧ s.heap.get? t = none ∧ E cls dx H'
/-- the code's wish about exceptions is met by those of which E holds -/
def XAcc (X : Cx) (E : XK) : Prop := ∀ pins σ H s e cls dx, Inv X pins σ H s → Fly X pins H s e cls dx → E cls dx H → X.xe (.ref e) s
theorem passes_of {X : Cx} {E : XK} (acc : XAcc X E) : Passes (CXg X.prog X.w) X E := by
  intro pins σ H s ev s' I h
  obtain ⟨e, cls, dx, H', t, rfl, os, bare, un, hok, x, ne, nt, fe, ft, q⟩ := h
  have I' : Inv X pins σ H' s' := I.call' (ch := []) os un hok bare (fun b z => nomatch z)
  refine acc pins σ H' s' e cls dx I' ⟨some t, x, ⟨ne, (I.looseNew fe).2⟩, fun y z => ?_⟩ q
  cases z
  exact ⟨nt, (I.looseNew ft).2⟩
theorem pass_nox {X : Cx} {P : Program} {w : World} : Passes (CXg P w) X (fun _ _ _ => False) := by
  intro pins σ H s ev s' I h
  obtain ⟨_, _, _, _, _, _, _, _, _, _, _, _, _, _, _, q⟩ := h
  exact q.elim
theorem xacc_fn {P : Program} {w : World} {K : PySem.W.Frag} {mg : Str → Option Value} {base : Heap} {N : List Str} {qual : Str} {scope : Scope} {f : Addr} {cd : Value} {A : Around} {outer : List Env} {s : Shared} {H : Hp} {E : XK} :
    XAcc (cxOf (CXg P w) P w K mg base N qual scope f cd A outer s H E) E := by
  intro pins σ H' s' e cls dx I fl q
  show wpAny (model P w) _ (leaving _ (.ref e)) _ _ s'
  unfold leaving
  refine wpAny_bind (note_X I I.ok.frames ⟨_, _, rfl, rfl, rfl⟩ fl fun s1 I1 f1 => ?_)
  refine flight_X I1 f1 fun s2 I2 f2 => ?_
  obtain ⟨t, x2, le, lt⟩ := f2
  exact ⟨e, cls, dx, H', t, rfl, I2.os, I2.bare, I2.base, I2.hok, x2, le.1, lt.1, le.2.2.2.1 (fun z => nomatch z), lt.2.2.2.1 (fun z => nomatch z), q⟩
theorem own_pass {P : Program} {w : World} {K : PySem.W.Frag} {mg : Str → Option Value} {base : Heap} {N : List Str} {qual : Str} {scope : Scope} {f : Addr} {cd : Value} {A : Around} {outer : List Env} {s : Shared} {H : Hp} {E : XK} {CX : CXT} :
    PassesOwn (model P w) (cxOf CX P w K mg base N qual scope f cd A outer s H E).A (cxOf CX P w K mg base N qual scope f cd A outer s H E).env (cxOf CX P w K mg base N qual scope f cd A outer s H E).xe := PassesOwn.leaving

/-! ### raise C(..), C an own class without an __init__ of its own -/
/-- what excIn reads off the written part -/
theorem excIn_shape {K : PySem.W.Frag} {C : Addr} {base : List Value} {new : String} (q : PySem.W.excIn K C base new = true) :
    ∃ dd cd up a b c d f, K.lookup C = some ⟨.type "type", dd, .cls cd, #[a, b, c, d, some (.builtin new), f]⟩ ∧ cd.mro = .ref C :: up ∧ cd.hasDel = false ∧ PySem.W.tailIn K base up = true ∧ PySem.W.nsOkIn K cd.ns = true ∧ PySem.W.nsIn K cd.ns "__init__" = some none := by
  unfold PySem.W.excIn at q
  split at q
  · rename_i dd cd sl look
    split at q
    · rename_i C' up a b c d new' f mro slots
      have q' : ((((C' = C ∧ new' = new) ∧ cd.hasDel = false) ∧ PySem.W.tailIn K base up = true) ∧ PySem.W.nsOkIn K cd.ns = true) ∧ PySem.W.nsIn K cd.ns "__init__" = some none := by simpa using q
      obtain ⟨⟨⟨⟨⟨i1, i2⟩, i3⟩, i4⟩, i5⟩, i6⟩ := q'
      subst i1; subst i2
      have as_array : sl = #[a, b, c, d, some (.builtin new'), f] := Array.toList_inj.mp slots
      exact ⟨dd, cd, up, a, b, c, d, f, as_array ▸ look, mro, i3, i4, i5, i6⟩
    · exact absurd q Bool.false_ne_true
  · exact absurd q Bool.false_ne_true
/-- an own class of exceptions without an __init__, by the written part -/
theorem own_in {K : PySem.W.Frag} {h : Heap} {mg : Str → Option Value} {x : Str} {C : Addr} {base : List Value} {new : String} (k : K.In h) (named : mg x = some (.ref C)) (q : PySem.W.excIn K C base new = true) : OwnCls x C base new mg h := by
  obtain ⟨dd, cd, up, a, b, c, d, f, look, mro, del, tl, ok, ini⟩ := excIn_shape q
  obtain ⟨nm, bs, mro', ns, qn, hd, sn, sub, ab, col, del'⟩ := cd
  cases mro; cases del
  exact ⟨named, up, ns, nm, qn, bs, hd, sn, sub, ab, col, dd, a, b, c, d, f, _, k C _ look, Heap.Ns.of_isNs (PySem.W.isNs_of_in k ok), PySem.W.nsMap_none_of_in k ok ini, PySem.W.tail_of_in k tl⟩
def tRaise (C : Addr) (E : XK) (ta : TA) : TS := fun _ σ H => ta σ H fun vs H1 => vs.length ≤ sizeLine ∧ E (.ref C) none H1
section
variable {X : Cx} {E : XK} {x : Str} {C : Addr} {bmB : List Value} {B newId initId : String} {np cpos pos : Pos} {e₀ : Expr} {rest : List Expr} {ta : TA}
theorem ps_raise (acc : XAcc X E) (hc : X.calm = true) (hg : Gl X x) (hm : X.mg x = some (.ref C)) (q : PySem.W.excIn X.K C bmB newId = true) (FB : ExcBaseFacts B newId initId bmB) (ha : PA X (e₀ :: rest) ta)
    (he : starEach (e₀ :: rest) X.env = (false, eval e₀ X.env) :: starEach rest X.env := by rfl) (hpl : (backTo cpos (starEach rest X.env)).any (·.1) = false := by rfl) (hdb : (x == ("__debug__" : Str)) = false := by decide) :
    PS X (.Raise (some (.Call (.Name x np) (e₀ :: rest) [] cpos)) none pos) (tRaise C E ta) := by
  intro pins s σ H D I h
  obtain ⟨tl, N, nm, qn, bs, hdct, sn, sub, ab, col, dd, k0, k1, k2, k3, k5, mN, hC, hN, hni, T⟩ := (own_in (mg := X.mg) I.mod.kin hm q).obj
  refine wpAny_Raise_call_subT (C := C) (nm := nm) (q := qn) (N := N) (bs := bs) (bm := tl) (hdct := hdct) (sn := sn) (sub := sub) (ab := ab) (col := col) (dd := dd) (k0 := k0) (k1 := k1) (k2 := k2) (k3 := k3) (k5 := k5)
    FB (mN := mN) (T.hasType FB.hasBase) (I.ok.hd hc) (by rw [he]; show (false || (backTo cpos (starEach rest X.env)).any (·.1)) = false; rw [hpl]; rfl) hni (ld_glob I hg hm ⟨rfl, ?_⟩ hdb)
  have hA := ha cpos pins s σ H _ I h
  rw [he] at hA ⊢
  refine Calls.evalArgs_plain (thn hA fun us s2 h2 => ?_)
  obtain ⟨vs, H1, I1, rv, hz, hE⟩ := h2
  refine ⟨rfl, by rw [← rv.length]; exact hz, I1.bk _ _ hC, hN.keeps I1.bk, T.keeps I1.bk, fun h' e hm' => ?_⟩
  have I2 : Inv X pins σ H1 { s2 with heap := h' } := I1.kept (t' := s2.toks) hm'.keeps
  obtain ⟨t, hte, _, _⟩ := hm'.there
  refine acc pins σ H1 _ e (.ref C) none I2 ⟨none, ⟨_, _, hte, rfl, rfl, rfl, rfl⟩, I1.looseNew hm'.new, fun _ z => nomatch z⟩ hE
end

/-! ### try .. except C as n -/
/-- the exception at hand, tracked -/
def ExcO (e : Addr) (cls : Value) (dx : Option Addr) : HO := .ext fun h => ∃ oe vs, h.get? e = some oe ∧ oe.cls = cls ∧ oe.dict = dx ∧ oe.data = .fields vs
/-- the names forgotten -/
def blank (n : Nat) : St := List.replicate n none
theorem blank_no {n i : Nat} {v : V} : ¬ (blank n)[i]? = some (some v) := by
  unfold blank
  rw [List.getElem?_replicate]
  split <;> intro h <;> cases h
section
variable {X : Cx} {pins : List (Addr × Obj)} {σ : St} {H : Hp} {s : Shared}
/-- a loose object becomes tracked -/
theorem Inv.adopt {b : Addr} {o : HO} (I : Inv X pins σ H s) (l : Loose X pins H b) (hx : b ∉ X.ex) (new : ObjOk X.prog X.w (upd H b o) s.heap b o) : Inv X pins σ (upd H b o) s := by
  have h0 := l.2.2.2.1 hx
  have ne : ∀ c u, H c = some u → c ≠ b := fun c u e z => by rw [z, l.1] at e; cases e
  refine ⟨I.ok, I.os, I.bare, ⟨I.base.keep, I.base.slot, fun c u e n hxc => ?_, I.base.there, fun c xs e => ?_, fun c u xs e => ?_, fun c ps e => ?_⟩, I.loc, I.cell, ?_, fun x c e => ?_, fun p hp => ?_, fun c u e => ?_, I.len⟩
  · rw [upd_ne (fun z => by rw [z, h0] at e; cases e)]
    exact I.base.free c u e n hxc
  · have q := I.base.tups c xs e
    rw [upd_ne (ne _ _ q)]; exact q
  · have q := I.base.frzs c u xs e
    rw [upd_ne (ne _ _ q)]; exact q
  · obtain ⟨m, q⟩ := I.base.tbls c ps e
    exact ⟨m, by rw [upd_ne (ne _ _ q)]; exact q⟩
  · rw [upd_ne (Ne.symm l.2.1)]; exact I.free
  · rw [upd_ne (l.2.2.2.2.1 x c e)]; exact I.freeC x c e
  · obtain ⟨e, n, r⟩ := I.pin p hp
    exact ⟨e, by rw [upd_ne (l.2.2.2.2.2 p hp)]; exact n, r⟩
  · by_cases z : c = b
    · subst z
      rw [upd_same] at e; cases e; exact new
    · rw [upd_ne z] at e
      exact (I.hok c u e).stay (fun _ _ _ q => q) (fun d q => by rw [upd_ne (ne _ _ q)]; exact q) fun d xs q => by rw [upd_ne (ne _ _ q)]; exact q
/-- a name of the frame is gone, the others are forgotten -/
theorem Inv.nameGone {h' : Heap} {t' : Nat} {m' : Str → Option Value} (I : Inv X pins σ H s) (hn : h'.Ns X.env.locals m') (sb : Heap.SameBut X.env.locals s.heap h') : Inv X pins (blank X.N.length) H { s with heap := h', toks := t' } := by
  obtain ⟨m, ⟨oL, _, _, hoL, _⟩, _⟩ := id I.loc
  have neL : ∀ b o, X.s₀.heap.get? b = some o → b ≠ X.env.locals := fun b o e => Nat.ne_of_lt (Nat.lt_of_lt_of_le (Heap.lt_size e) I.ok.above)
  have k : ∀ b o, b ≠ X.env.locals → s.heap.get? b = some o → h'.get? b = some o := fun b o ne e => (sb.2 b ne).trans e
  refine ⟨I.ok, I.os, I.bare, ⟨fun b o e n hb hx => ?_, fun b o e n hb hx => ?_, I.base.free, fun b o e hx => ?_, I.base.tups, I.base.frzs, I.base.tbls⟩, ⟨m', hn, fun i x v _ e2 _ => absurd e2 blank_no⟩, fun x c e => ?_, I.free, I.freeC, fun p hp => ?_, fun a u e => ?_, by simp [blank]⟩
  · exact k b o (neL b o e) (I.base.keep b o e n hb hx)
  · obtain ⟨sl, e1⟩ := I.base.slot b o e n hb hx
    exact ⟨sl, k b _ (neL b o e) e1⟩
  · obtain ⟨o', e1⟩ := I.base.there b o e hx
    exact ⟨o', k b _ (neL b o e) e1⟩
  · obtain ⟨v, o, ho, hd⟩ := I.cell x c e
    exact ⟨v, o, k c o (I.cne x c e) ho, hd⟩
  · obtain ⟨e, n, ne, nf, d⟩ := I.pin p hp
    exact ⟨k p.1 p.2 ne e, n, ne, nf, d⟩
  · refine (I.hok a u e).stay (fun c v hc q => k c v (fun z => ?_) q) (fun _ q => q) fun _ _ q => q
    have hf := I.free
    rw [← z] at hf
    rcases hc with y | y
    · rw [y, e] at hf; cases hf
    · rw [y] at hf; cases hf
end
/-- the body's context; the suite's -/
abbrev Cx.tryB (X : Cx) (E' : Value → Shared → Prop) (pn' : List (Addr × Obj)) : Cx := { X with xe := E', pn := pn' }
abbrev Cx.hand (X : Cx) (e : Addr) : Cx := { X with A := X.A.mark (some (.ref e)), calm := false, xe := fun _ _ => False }
section
variable {X : Cx} {pins pn' : List (Addr × Obj)} {σ : St} {H : Hp} {s : Shared} {E' : Value → Shared → Prop}
theorem Inv.tryB (I : Inv X pins σ H s) (E' : Value → Shared → Prop) : Inv (X.tryB E' (X.pn ++ pins)) [] σ H s :=
  ⟨⟨I.ok.mod, I.ok.kind, I.ok.glob, I.ok.blt, I.ok.above, I.ok.inj, I.ok.has, I.ok.cab, I.ok.hd, I.ok.frames, I.ok.stk, I.ok.exf, I.ok.bs, I.ok.bsz, I.ok.noex, I.ok.exfs, I.ok.funs, I.ok.frf⟩,
    I.os, I.bare, I.base, I.loc, I.cell, I.free, I.freeC, fun p hp => I.pin p (by simpa using hp), I.hok, I.len⟩
theorem Inv.untryB {pins' : List (Addr × Obj)} (ok : X.Ok) (I : Inv (X.tryB E' (X.pn ++ pins)) pins' σ H s) : Inv X pins σ H s :=
  ⟨ok, I.os, I.bare, I.base, I.loc, I.cell, I.free, I.freeC, fun p hp => I.pin p (List.mem_append_left _ hp), I.hok, I.len⟩
theorem Inv.hand (I : Inv X pins σ H s) (e : Addr) : Inv (X.hand e) pins σ H s :=
  ⟨⟨I.ok.mod, I.ok.kind, I.ok.glob, I.ok.blt, I.ok.above, I.ok.inj, I.ok.has, I.ok.cab, (fun z => nomatch z), I.ok.frames, I.ok.stk, I.ok.exf, I.ok.bs, I.ok.bsz, I.ok.noex, I.ok.exfs, I.ok.funs, I.ok.frf⟩,
    I.os, I.bare, I.base, I.loc, I.cell, I.free, I.freeC, I.pin, I.hok, I.len⟩
theorem Inv.unhand {e : Addr} (ok : X.Ok) (I : Inv (X.hand e) pins σ H s) : Inv X pins σ H s :=
  ⟨ok, I.os, I.bare, I.base, I.loc, I.cell, I.free, I.freeC, I.pin, I.hok, I.len⟩
end
/-- try: body / except C as n: suite. tb is the body's reading for a wish of exceptions; hit: the classes that are caught -/
def tTryAs (N i : Nat) (hit : Value → Prop) (tb : XK → TS) (ts : TS) : TS := fun D σ H =>
  tb (fun cls dx H' => hit cls ∧ ∀ e, H' e = none → ts { nx := fun _ H2 => D.nx (blank N) H2, rt := D.rt } ((blank N).set i (some (.ref e))) (upd H' e (ExcO e cls dx))) D σ H
section
variable {X : Cx} {x n : Str} {c : Value} {i : Nat} {np hpos pos : Pos} {body suite : List Stmt} {b₀ : Stmt} {tb : XK → TS} {ts : TS} {L : Addr} {hit : Value → Prop}
theorem ps_tryAs (hex : X.ex = []) (F : FrameOk X L) (hN : X.N.Nodup) (hi : X.N[i]? = some n) (hln : X.env.scope.names.lookup n = some .local) (hg : Gl X x) (hm : X.mg x = some c)
    (hhit : ∀ cls, hit cls → PySem.W.exmOne X.K cls c = some true)
    (hb : ∀ (E' : Value → Shared → Prop) (pn' : List (Addr × Obj)) (Eb : XK), XAcc (X.tryB E' pn') Eb → PSs (X.tryB E' pn') body (tb Eb))
    (hs : ∀ e, PSs (X.hand e) (b₀ :: suite) ts) (hdb : (x == ("__debug__" : Str)) = false := by decide) :
    PS X (.Try body [.ExceptHandler (some (.Name x np)) (some n) (b₀ :: suite) hpos] [] [] pos) (tTryAs X.N.length i hit tb ts) := by
  intro pins s σ H D I h
  have hcls : (X.env.scope.kind == .class || (X.env.scope.kind == .module && X.env.locals != X.env.globals)) = false := by rw [I.ok.kind]; rfl
  refine wpAny_Try_except ?_
  let Eb : XK := fun cls dx H' => hit cls ∧ ∀ e, H' e = none → ts { nx := fun _ H2 => D.nx (blank X.N.length) H2, rt := D.rt } ((blank X.N.length).set i (some (.ref e))) (upd H' e (ExcO e cls dx))
  let E' : Value → Shared → Prop := fun ev s₁ => wpAny (model X.prog X.w) X.A (noteFrame ev X.env) (fun _ s₂ => wpAny (model X.prog X.w) X.A (setFlight ev none) (fun _ s₃ =>
      wpAny (model X.prog X.w) X.A (handleBy ev X.env [.ExceptHandler (some (.Name x np)) (some n) (b₀ :: suite) hpos]) (SP X pins D) X.xe s₃) X.xe s₂) X.xe s₁
  suffices acc : XAcc (X.tryB E' (X.pn ++ pins)) Eb by
    refine wpAny_mono (hb E' (X.pn ++ pins) Eb acc [] s σ H D (I.tryB E') h) (fun f s1 h1 => ?_) fun ev s1 h1 => h1
    have un : ∀ {σ' : St} {H' : Hp}, Inv (X.tryB E' (X.pn ++ pins)) [] σ' H' s1 → Inv X pins σ' H' s1 := fun J => J.untryB I.ok
    cases f with
    | next => obtain ⟨σ', H', J, q⟩ := h1; exact wpAny_execs_nil ⟨σ', H', un J, q⟩
    | brk => obtain ⟨σ', H', J, q⟩ := h1; exact ⟨σ', H', un J, q⟩
    | cont => obtain ⟨σ', H', J, q⟩ := h1; exact ⟨σ', H', un J, q⟩
    | ret u => obtain ⟨v, σ', H', J, r, q⟩ := h1; exact ⟨v, σ', H', un J, r, q⟩
  · intro pins' σ' H' s' e cls dx I' fl q
    obtain ⟨hh, q⟩ := q
    refine note_X (X := X.tryB E' (X.pn ++ pins)) I' I'.ok.frames F fl fun s1 I1 f1 => ?_
    refine flight_X I1 f1 fun s2 I2 f2 => ?_
    obtain ⟨t2, x2, le2, lt2⟩ := f2
    have J2 : Inv X pins σ' H' s2 := I2.untryB I.ok
    have J2h := J2.hand e
    refine wpAny_handleBy_cons (codeAny_handlers_test ?_) (by intro z; cases z)
    refine ld_glob (X := X.hand e) J2h hg hm ?_ hdb
    obtain ⟨oe, vs, he, hc, hd, hv, _⟩ := id x2
    have ty : PySem.W.Looks (model X.prog X.w) s2.heap (typeOf (.ref e)) cls := hc ▸ (PySem.W.Looks.ld he).andThen .now
    refine (PySem.W.exm_one J2.kIn ty (hhit cls hh)).here ?_
    refine codeAny_handlers_suite_as (flight_X I2 ⟨t2, x2, le2, lt2⟩ fun s3 I3 f3 => ?_)
    obtain ⟨t3, x3, le3, lt3⟩ := f3
    obtain ⟨oe3, vs3, he3, hc3, hd3, hv3, _⟩ := id x3
    have J3 : Inv X pins σ' H' s3 := I3.untryB I.ok
    have lX : Loose X pins H' e := ⟨le3.1, le3.2.1, le3.2.2.1, le3.2.2.2.1, le3.2.2.2.2.1, fun p hp => le3.2.2.2.2.2 p (List.mem_append_left _ hp)⟩
    have J4 : Inv X pins σ' (upd H' e (ExcO e cls dx)) s3 := J3.adopt lX (by rw [hex]; exact fun z => nomatch z) (by
      refine ⟨⟨oe3, vs3, he3, hc3, hd3, hv3⟩, ⟨oe3, he3⟩, fun h1 h2 p k => ?_⟩
      obtain ⟨o, v, a, b⟩ := p
      exact ⟨o, v, k o a, b⟩)
    have J5 : Inv X pins (blank X.N.length) (upd H' e (ExcO e cls dx)) s3 := J4.weak (by simp [blank, J4.len]) fun i v z => absurd z blank_no
    refine store_ok (X := X.hand e) (J5.hand e) hN hi (.inl hln) (show RelV (.ref e) (.ref e) from rfl) (fun s4 I4 => ?_) (.inr hln)
    refine wpAny_mono (hs e pins s4 _ _ _ I4 (q e le3.1)) (fun f s5 h5 => ?_) fun _ _ z => z.elim
    have gone : ∀ {σ5 : St} {H5 : Hp} (Q : Shared → Prop), Inv (X.hand e) pins σ5 H5 s5 → (∀ s6, Inv X pins (blank X.N.length) H5 s6 → Q s6) →
        wpAny (model X.prog X.w) X.A (do bindName X.env n .none; unbindBehindTheSuite X.env n hpos) (fun _ s6 => Q s6) X.xe s5 := fun {σ5 H5} Q I5 k => by
      obtain ⟨m, hn, _⟩ := I5.loc
      exact wpAny_nameGoes hln hn hcls fun h' m' hn' sb => k _ (Inv.nameGone (I5.unhand I.ok) hn' sb)
    cases f with
    | next =>
      obtain ⟨σ5, H5, I5, q5⟩ := h5
      exact gone (fun s6 => SP X pins D .next s6) I5 fun s6 I6 => ⟨_, H5, I6, q5⟩
    | ret u =>
      obtain ⟨v, σ5, H5, I5, r5, q5⟩ := h5
      exact gone (fun s6 => SP X pins D (.ret u) s6) I5 fun s6 I6 => ⟨v, _, H5, I6, r5, q5⟩
    | brk => obtain ⟨_, _, _, z⟩ := h5; exact z.elim
    | cont => obtain ⟨_, _, _, z⟩ := h5; exact z.elim
end
end L2
set_option Elab.async false
set_option linter.all false
set_option maxRecDepth 100000
set_option maxHeartbeats 6000000
namespace L2
open PySem PySem.Spec PyProof.Rows

/-! ## B. comprehensions -/
def capSt (cap : List (Option Nat)) (σ : St) : St := cap.map fun o => o.bind fun j => (σ[j]?).join
/-- the context of a comprehension's block -/
abbrev cxComp (X : Cx) (scope : Scope) (cl : List (Str × Addr)) (N' : List Str) (s₀ : Shared) (H₀ : Hp) (fp : List Addr) (pn' : List (Addr × Obj)) (E' : Value → Shared → Prop) : Cx :=
  { X with N := N', s₀ := s₀, H₀ := H₀, env := compEnvC scope cl s₀.heap.objs.size X.env, outer := X.stack, ex := fp, fn := fun _ => false, pn := pn', xe := E' }
/-- what the text of a comprehension must have; cap: where a captured name stands in the def's slots -/
structure CompOk (X : Cx) (scope : Scope) (cl : List (Str × Addr)) (N' : List Str) (cap : List (Option Nat)) : Prop where
  kind : scope.kind = .function
  nocell : ∀ y ∈ scope.names, y.2 ≠ .cell
  names : ∀ y ∈ scope.names, y.2 = .local → scope.names.lookup y.1 = some .local
  clos : closureFor scope X.env = pure cl
  sub : ∀ n c, cl.lookup n = some c → X.env.cells.lookup n = some c
  has : ∀ n, ((relabel scope X.env).names.lookup n = some .cell ∨ (relabel scope X.env).names.lookup n = some .free) → ∃ c, cl.lookup n = some c
  len : cap.length = N'.length
  capd : ∀ (i j : Nat) (x : Str), cap[i]? = some (some j) → N'[i]? = some x → X.N[j]? = some x ∧ X.env.scope.names.lookup x = some .cell ∧ (relabel scope X.env).names.lookup x = some .cell
/-- a comprehension that captures nothing -/
theorem CompOk.plain {X : Cx} {scope : Scope} {N' : List Str} (kind : scope.kind = .function) (names : ∀ y ∈ scope.names, y.2 = .local ∨ y.2 = .globalImplicit) (look : ∀ y ∈ scope.names, y.2 = .local → scope.names.lookup y.1 = some .local) :
    CompOk X scope [] N' (List.replicate N'.length none) := by
  have nf : ∀ y ∈ scope.names, y.2 ≠ .free := fun y hy z => by rcases names y hy with q | q <;> rw [q] at z <;> cases z
  have same : (relabel scope X.env).names = scope.names := by
    unfold relabel
    refine map_eq_self fun y hy => ?_
    obtain ⟨n, k⟩ := y
    have : (k == NameKind.free) = false := by simpa using nf _ hy
    simp [this]
  refine ⟨kind, fun y hy z => ?_, look, closureFor_none nf, fun n c h => ?_, fun n h => ?_, by simp, fun i j x h => ?_⟩
  · rcases names y hy with q | q <;> rw [q] at z <;> cases z
  · simp at h
  · rw [same] at h
    rcases h with h | h
    · have := names _ (PySem.mem_of_lookup h)
      simp at this
    · have := names _ (PySem.mem_of_lookup h)
      simp at this
  · rw [List.getElem?_replicate] at h
    split at h <;> simp at h

section
variable {X : Cx} {pins pn' : List (Addr × Obj)} {σ : St} {H : Hp} {s : Shared} {scope : Scope} {cl : List (Str × Addr)} {N' : List Str} {cap : List (Option Nat)} {fp : List Addr} {E' : Value → Shared → Prop}
theorem comp_cx (I : Inv X pins σ H s) (O : CompOk X scope cl N' cap) (hf : ∀ b ∈ fp, FpOk X pins H b) (hlt : ∀ b ∈ fp, b < s.heap.objs.size) : (cxComp X scope cl N' s H fp pn' E').Ok := by
  refine ⟨I.ok.mod, O.kind, I.ok.glob, I.ok.blt, Nat.le_refl _, fun x y c h1 h2 => I.ok.inj x y c (O.sub _ _ h1) (O.sub _ _ h2), fun x hx => O.has x hx, (fun x c h => nomatch h), I.ok.hd, I.ok.frames, .inl rfl, fun b hb => ⟨Nat.ne_of_lt (hlt b hb), fun x c e => (hf b hb).2.2.2.2.1 x c (O.sub _ _ e)⟩,
    I.bs, Nat.le_trans I.ok.bsz I.sz, fun b o e hb => ?_, fun b hb z => ?_, I.stack, I.stkFree⟩
  · rcases (hf b hb).2.2.2.1 with z | z
    · exact I.ok.noex b o e z
    · exact absurd (Nat.lt_of_lt_of_le (Heap.lt_size e) (Nat.le_trans I.ok.bsz z)) (Nat.lt_irrefl _)
  · exact (List.mem_cons.mp (I.stkSub b z)).elim (fun y => (hf b hb).2.1 y) fun y => (hf b hb).2.2.1 y
/-- at the block's entry -/
theorem comp_inv {h' : Heap} {t' : Nat} {m' : Str → Option Value} (I : Inv X pins σ H s) (O : CompOk X scope cl N' cap) (hf : ∀ b ∈ fp, FpOk X pins H b) (hlt : ∀ b ∈ fp, b < s.heap.objs.size)
    (hn : h'.Ns s.heap.objs.size m') (hk : ∀ b o, s.heap.get? b = some o → h'.get? b = some o) :
    Inv (cxComp X scope cl N' s H fp (X.pn ++ pins) E') [] (capSt cap σ) H { s with heap := h', toks := t' } := by
  refine ⟨comp_cx I O hf hlt, rfl, I.bare, Un.kept hk, ⟨m', hn, fun i x v e1 e2 e3 => ?_⟩, fun x c e => ?_, I.hok.fresh (Nat.le_refl _), fun x c e => I.freeC x c (O.sub _ _ e), fun p hp => ?_, I.hok.kept hk, ?_⟩
  · unfold capSt at e2
    rw [List.getElem?_map] at e2
    cases q : cap[i]? with
    | none => rw [q] at e2; cases e2
    | some o =>
      rw [q] at e2
      cases o with
      | none => cases e2
      | some j =>
        have e2' : (σ[j]?).join = some v := by simpa using e2
        have e4 : σ[j]? = some (some v) := by
          cases z : σ[j]? with
          | none => rw [z] at e2'; cases e2'
          | some y => rw [z] at e2'; simp at e2'; rw [e2']
        obtain ⟨h1, h2, h3⟩ := O.capd i j x q e1
        obtain ⟨m, _, hl⟩ := I.loc
        obtain ⟨u, ru, l⟩ := hl j x v h1 e4 (.inr (.inl h2))
        rcases l with ⟨l, _⟩ | ⟨_, c, l, z⟩
        · have l' : X.env.scope.names.lookup x = some .local := l
          rw [h2] at l'; cases l'
        · obtain ⟨c', hc'⟩ := O.has x (.inl h3)
          have := O.sub _ _ hc'
          rw [l] at this; cases this
          exact ⟨u, ru, .inr ⟨.inl h3, c, hc', z.keeps hk⟩⟩
  · obtain ⟨v, z⟩ := I.cell x c (O.sub _ _ e)
    exact ⟨v, z.keeps hk⟩
  · obtain ⟨e, n, ne, nf, d⟩ := I.pin p (by simpa using hp)
    refine ⟨hk _ _ e, n, Nat.ne_of_lt (Heap.lt_size e), fun z => ?_, d⟩
    exact (List.mem_cons.mp (I.stkSub _ z)).elim ne nf
  · simp [capSt, O.len]
/-- behind the block -/
theorem comp_back {pins' : List (Addr × Obj)} {σ' : St} {H' : Hp} {s' : Shared} (I : Inv X pins σ H s) (hf : ∀ b ∈ fp, FpOk X pins H b) (J : Inv (cxComp X scope cl N' s H fp pn' E') pins' σ' H' s') : Inv X pins σ H' s' :=
  I.call' (ch := fp) J.os J.base J.hok J.bare fun b hb => ⟨(hf b hb).2.2.2.1, (hf b hb).2.1, (hf b hb).2.2.2.2.1, (hf b hb).2.2.2.2.2⟩
end

/-- a clause's tests, one after another -/
abbrev testsRun (ifs : List Expr) (env : Env) : Sem Bool :=
  forIn ifs true fun c r => if r = true then do let ok ← isTrue c env (eval c env); pure (ForInStep.yield ok) else pure (ForInStep.yield r)
section
variable {prog : Program} {w : World} {A : Around} {s : Shared} {R : Result → Shared → Prop} {elt target iter : Expr} {ifs : List Expr} {scope : Scope} {pos : Pos} {it acc : Value} {env : Env}
/-- how a comprehension's block ends by an exception -/
abbrev blockX (prog : Program) (w : World) (A : Around) (env : Env) (R : Result → Shared → Prop) : Value → Shared → Prop := notedBy (model prog w) A env fun x s' => R (.error x) s'
/-- one turn: the item, the target, the tests, the element; J again with a smaller measure, or the end -/
abbrev turnOf (prog : Program) (w : World) (A : Around) (env : Env) (R : Result → Shared → Prop) (target elt : Expr) (ifs : List Expr) (it acc : Value) (J : Nat → Shared → Prop) (n : Nat) : Option Value → Shared → Prop
  | none, s₁ => R (.ok .next) s₁
  | some v, s₁ => wpAny (model prog w) A (letOwnedTupleGo target it v) (fun _ a => wpAny (model prog w) A (assign target env v) (fun _ b => wpAny (model prog w) A (testsRun ifs env) (fun ok c =>
      if ok = true then wpAny (model prog w) A (eval elt env) (fun y d => wpAny (model prog w) A (call (.builtin "list.append") [acc, y]) (fun _ z => ∃ m, m < n ∧ J m z) (blockX prog w A env R) d) (blockX prog w A env R) c
      else ∃ m, m < n ∧ J m c) (blockX prog w A env R) b) (blockX prog w A env R) a) (blockX prog w A env R) s₁
/-- a list comprehension of one clause, whatever its target, by J and its measure -/
theorem compLoop_any (J : Nat → Shared → Prop) (go : ∀ n s, J n s → wpAny (model prog w) A (pyNext it) (turnOf prog w A env R target elt ifs it acc J n) (blockX prog w A env R) s) (n : Nat) (h : J n s) :
    codeAny (model prog w) A (.compLoop (.ListComp elt [⟨target, iter, ifs, 0⟩] scope pos) 0 it acc env) R s :=
  codeAny_loop rfl J (fun m a ha => wpAny_noted (by
    rw [compTurn_list]
    refine wpAny_bind (wpAny_standAt (wpAny_bind (thn (go m a ha) fun r b hb => ?_)))
    match r, hb with
    | none, hb => exact wpAny_pure hb
    | some v, hb =>
      refine wpAny_bind (thn hb fun _ c hc => wpAny_bind (thn hc fun _ d hd => wpAny_bind (thn hd fun ok f hf => ?_)))
      match ok, hf with
      | false, hf => exact wpAny_pure ⟨rfl, hf⟩
      | true, hf => exact wpAny_bind (wpAny_bind (thn hf fun y g hg => wpAny_bind (thn hg fun _ z hz => wpAny_pure (wpAny_pure ⟨rfl, hz⟩)))))) n h
end

/-- the tests of a clause -/
def PTs (X : Cx) (ifs : List Expr) (t : TT) : Prop :=
  ∀ (pins : List (Addr × Obj)) (s : Shared) (σ : St) (H : Hp) (Q : Bool → Hp → Prop), Inv X pins σ H s → t σ H Q →
    wpAny (model X.prog X.w) X.A (testsRun ifs X.env) (TP X pins σ Q) X.xe s
def tYes : TT := fun _ H Q => Q true H
theorem pts_nil {X : Cx} : PTs X [] tYes := fun _ _ _ H _ I h => wpAny_tests_nil ⟨H, I, h⟩
theorem pts_one {X : Cx} {c : Expr} {t : TT} (h : PT X c t) : PTs X [c] t := fun pins s σ H Q I hw => wpAny_tests_one (h pins s σ H Q I hw)

/-- the captured names stay -/
def KeepS (σ0 σ2 : St) : Prop := ∀ (j : Nat) v, σ0[j]? = some (some v) → σ2[j]? = some (some v)
theorem capSt_plain {n j : Nat} {σ : St} {v : V} : ¬ (capSt (List.replicate n none) σ)[j]? = some (some v) := by
  unfold capSt
  rw [List.getElem?_map, List.getElem?_replicate]
  split <;> intro h <;> simp at h
theorem keepS_plain {n : Nat} {σ σ2 : St} : KeepS (capSt (List.replicate n none) σ) σ2 := fun _ _ h => absurd h capSt_plain
/-- W: by the turn, a measure, what was gathered -/
def compW (D : Addr) (J : It) (σ0 : St) (g : TG) (tc : TT) (te : TE) (Qe : Hp → Prop) (W : Nat → Nat → List V → Hp → Prop) : Prop :=
  ∀ i m acc H', W i m acc H' → H' D = some (.lst acc) ∧ ((J.stop i H' ∧ Qe H') ∨ (J.go i H' ∧ acc.length < sizeLine ∧
    ∀ x H'', J.yld i H' x H'' → g x σ0 H'' fun σ2 H2 => KeepS σ0 σ2 ∧ tc σ2 H2 fun b H3 => if b = true then te σ2 H3 fun y H4 => H4 D = some (.lst acc) ∧ ∃ m', m' < m ∧ W (i + 1) m' (acc ++ [y]) (upd H4 D (.lst (acc ++ [y])))
      else ∃ m', m' < m ∧ W (i + 1) m' acc H3))
def tComp (cap : List (Option Nat)) (wi : TI) (g : TG) (tc : TT) (te : TE) : TE := fun σ H Q => wi σ H fun J H1 => ∀ D, H1 D = none →
  ∃ W : Nat → Nat → List V → Hp → Prop, (∃ m, W 0 m [] (upd H1 D (.lst []))) ∧ compW D J (capSt cap σ) g tc te (Q (.ref D)) W

section
variable {X : Cx} {scope : Scope} {cl : List (Str × Addr)} {N' : List Str} {cap : List (Option Nat)} {target iter elt : Expr} {ifs : List Expr} {pos : Pos} {wi : TI} {g : TG} {tc : TT} {te : TE} {E : XK} {L : Addr}
/-- the block, up to what is wanted behind it -/
theorem comp_block {pins : List (Addr × Obj)} {σ : St} {H2 : Hp} {s2 : Shared} {it : Addr} {fp : List Addr} {tn : Nat → Heap → Prop} {J : It} {Qe : Addr → Hp → Prop} {E₀ : Value → Shared → Prop} {RR : Value → Addr → Result → Shared → Prop}
    (acc : XAcc X E) (hc : X.calm = true) (F : FrameOk X L) (O : CompOk X scope cl N' cap)
    (hg : ∀ s₀ H₀ fp pn' E', PG (cxComp X scope cl N' s₀ H₀ fp pn' E') target g) (ht : ∀ s₀ H₀ fp pn' E', PTs (cxComp X scope cl N' s₀ H₀ fp pn' E') ifs tc)
    (he : ∀ s₀ H₀ fp pn' E', XAcc (cxComp X scope cl N' s₀ H₀ fp pn' E') E → PE (cxComp X scope cl N' s₀ H₀ fp pn' E') elt te)
    (I2 : Inv X pins σ H2 s2) (T : Turn X.prog X.w X.K target J fp it tn) (st2 : tn 0 s2.heap) (f2 : ∀ b ∈ fp, FpOk X pins H2 b)
    (hq : ∀ D, H2 D = none → ∃ W : Nat → Nat → List V → Hp → Prop, (∃ m, W 0 m [] (upd H2 D (.lst []))) ∧ compW D J (capSt cap σ) g tc te (Qe D) W)
    (hok : ∀ D C s', (∃ m, s'.heap.Ns C m) → Loose X pins (fun _ => none) C → (∃ H', Inv X pins σ H' s' ∧ H' C = none ∧ Qe D H') → RR (.ref D) C (.ok .next) s')
    (herr : ∀ D C x s', (∃ m, s'.heap.Ns C m) → (∀ h', Heap.SameBut C s'.heap h' → ∀ cenv : Env, cenv.locals = C → wpAny (model X.prog X.w) X.A (passOn "comprehension.variables-let-go" x cenv : Sem Value) (fun _ _ => False) X.xe { s' with heap := h' }) → RR (.ref D) C (.error x) s') :
    wpAny (model X.prog X.w) X.A (newList []) (fun accv s₃ => wpAny (model X.prog X.w) X.A (newFunctionEnv scope X.env.globals cl [] X.env.qual none .none (some X.env)) (fun cenv s₄ =>
      codeAny (model X.prog X.w) X.A (.compStart (.ListComp elt [⟨target, iter, ifs, 0⟩] scope pos) 0 (.ref it) accv { cenv with scope := relabel scope X.env }) (RR accv cenv.locals) s₄) E₀ s₃) E₀ s2 := by
  refine wpAny_newObj_type ?_
  obtain ⟨W, ⟨m0, w0⟩, turn⟩ := hq s2.heap.objs.size (I2.hok.fresh (Nat.le_refl _))
  -- the list that gathers
  have I3 : Inv X pins σ (upd H2 s2.heap.objs.size (.lst [])) { s2 with heap := s2.heap.push { cls := .type "list", dict := none, data := .seq ([] : List Value).toArray } } :=
    I2.laid (t' := s2.toks) (fun b u e => Heap.get?_push_of_some _ e) (Nat.le_refl _) ⟨Nat.zero_le _, [], _, .nil, Heap.get?_push_size _ rfl⟩
  have hfD : ∀ b ∈ fp, b ≠ s2.heap.objs.size := fun b hb z => by
    obtain ⟨o, e, _⟩ := T.obj 0 _ st2 b hb
    exact absurd (Heap.lt_size e) (by rw [z]; exact Nat.lt_irrefl _)
  generalize hs3 : ({ s2 with heap := s2.heap.push { cls := .type "list", dict := none, data := .seq ([] : List Value).toArray } } : Shared) = s3 at I3 ⊢
  have k23 : ∀ b o, s2.heap.get? b = some o → s3.heap.get? b = some o := fun b o e => by rw [← hs3]; exact Heap.get?_push_of_some _ e
  have f3 : ∀ b ∈ fp, FpOk X pins (upd H2 s2.heap.objs.size (.lst [])) b := fun b hb => ⟨by rw [upd_ne (hfD b hb)]; exact (f2 b hb).1, (f2 b hb).2⟩
  have hlt : ∀ b ∈ fp, b < s3.heap.objs.size := fun b hb => by
    obtain ⟨o, e, _⟩ := T.obj 0 _ st2 b hb
    exact Heap.lt_size (k23 b o e)
  have st3 : tn 0 s3.heap := T.keep 0 _ _ st2 fun b _ o e => k23 b o e
  refine wpAny_newFunctionEnv O.nocell (fun x hx => nomatch hx) (fun h' hns hsb => ?_) O.kind
  have k34 : ∀ b o, s3.heap.get? b = some o → h'.get? b = some o := fun b o e => (hsb.2 b (Nat.ne_of_lt (Heap.lt_size e))).trans (Heap.get?_push_of_some _ e)
  have lC : Loose X pins (upd H2 s2.heap.objs.size (.lst [])) s3.heap.objs.size := I3.looseNew (Heap.get?_none_of_le (Nat.le_refl _))
  have lC0 : Loose X pins (fun _ => none) s3.heap.objs.size := ⟨rfl, lC.2⟩
  -- the wish of the block
  let NE : Value → Shared → Prop := blockX X.prog X.w X.A (compEnvC scope cl s3.heap.objs.size X.env) (RR (.ref s2.heap.objs.size) s3.heap.objs.size)
  let Y0 : Cx := cxComp X scope cl N' s3 (upd H2 s2.heap.objs.size (.lst [])) fp (X.pn ++ pins) NE
  have I4 : ∀ t', Inv Y0 [] (capSt cap σ) (upd H2 s2.heap.objs.size (.lst [])) { s3 with heap := h', toks := t' } := fun t' => comp_inv I3 O f3 hlt hns k34
  have loop : ∀ s4 : Shared, Inv Y0 [] (capSt cap σ) (upd H2 s2.heap.objs.size (.lst [])) s4 → tn 0 s4.heap →
      codeAny (model X.prog X.w) X.A (.compLoop (.ListComp elt [⟨target, iter, ifs, 0⟩] scope pos) 0 (.ref it) (.ref s2.heap.objs.size) (compEnvC scope cl s3.heap.objs.size X.env)) (RR (.ref s2.heap.objs.size) s3.heap.objs.size) s4 := by
    intro s4 I4 st4
    have stat : ∀ {H' : Hp}, (∀ b ∈ fp, H' b = none) → ∀ b ∈ fp, FpOk Y0 [] H' b := fun {H'} hn b hb =>
      ⟨hn b hb, Nat.ne_of_lt (hlt b hb), fun z => (List.mem_cons.mp (I3.stkSub b z)).elim (fun y => (f3 b hb).2.1 y) fun y => (f3 b hb).2.2.1 y, .inl hb, fun x c e => (f3 b hb).2.2.2.2.1 x c (O.sub _ _ e), fun p hp => (f3 b hb).2.2.2.2.2 p (by have q : p ∈ (X.pn ++ pins) ++ [] := hp; simpa using q)⟩
    refine compLoop_any (fun n s' => ∃ i ac H', Inv Y0 [] (capSt cap σ) H' s' ∧ tn i s'.heap ∧ (∀ b ∈ fp, H' b = none) ∧ W i n ac H') ?_ m0 ⟨0, [], _, I4, st4, fun b hb => (f3 b hb).1, w0⟩
    rintro n s5 ⟨i, ac, H5, I5, st5, fr5, w5⟩
    obtain ⟨hD5, alt⟩ := turn i n ac H5 w5
    rcases alt with ⟨stop, qe⟩ | ⟨go, hsz, step⟩
    · refine thn (T.done Y0 rfl rfl rfl hc i [] s5 _ H5 NE I5 (stat fr5) st5 stop) fun r s6 ⟨hr, I6⟩ => ?_
      subst hr
      obtain ⟨m, hn, _⟩ := I6.loc
      exact hok _ _ s6 ⟨m, hn⟩ lC0 ⟨H5, comp_back I3 f3 I6, I6.free, qe⟩
    · refine thn (T.item Y0 rfl rfl rfl hc i [] s5 _ H5 NE I5 (stat fr5) st5 go) fun r s6 ⟨u, hr, h6⟩ => ?_
      subst hr
      refine thn h6 fun _ s7 ⟨x, H7, I7, r7, y7, st7, fr7⟩ => ?_
      have I7p := I7.pinned (stat fr7) (T.obj _ _ st7)
      have I7t := I7p.tryB NE
      -- the turn's own context: the iterators pinned for good
      let Y1 : Cx := cxComp X scope cl N' s3 (upd H2 s2.heap.objs.size (.lst [])) fp ((X.pn ++ pins) ++ ([] ++ pinsAt fp s7.heap)) NE
      have I7y : Inv Y1 [] (capSt cap σ) H7 s7 := I7t
      have ac1 : XAcc Y1 E := by
        intro pins' σ' H' s' e cls dx I' fl q
        have nfp : e ∉ fp ∧ ∀ t, Loose Y1 pins' H' t → t ∉ fp := by
          have nn : ∀ t, Loose Y1 pins' H' t → t ∉ fp := fun t l hb => by
            obtain ⟨o, eo, _⟩ := T.obj _ _ st7 t hb
            exact l.2.2.2.2.2 (t, o) (List.mem_append_left _ (List.mem_append_right _ (List.mem_append_right _ (mem_pinsAt hb eo)))) rfl
          obtain ⟨_, _, l, _⟩ := fl
          exact ⟨nn e l, nn⟩
        show wpAny (model X.prog X.w) X.A (noteFrame (.ref e) _) _ _ s'
        obtain ⟨env₀, outer, es, hf₀, hf⟩ := F
        refine note_X (X := Y1) I' I'.ok.frames ⟨env₀, outer, es, hf₀, hf⟩ fl fun s8 I8 f8 => ?_
        obtain ⟨t8, x8, le8, lt8⟩ := f8
        obtain ⟨m, hn8, _⟩ := id I8.loc
        refine herr _ _ _ s8 ⟨m, hn8⟩ fun h' sb cenv hcl => ?_
        have J8 : Inv X pins σ H' s8 := comp_back I3 f3 I8
        have lX : ∀ b, Loose Y1 pins' H' b → Loose X pins H' b := fun b l => ⟨l.1, (I3.looseNew (l.2.2.2.1 (nfp.2 b l))).2⟩
        have nC : ∀ b, Loose Y1 pins' H' b → b ≠ s3.heap.objs.size := fun b l => l.2.1
        have J9 : Inv X pins σ H' { s8 with heap := h' } := J8.loosened (t' := s8.toks) (ch := [s3.heap.objs.size]) (fun b hb => by rw [List.mem_singleton.mp hb]; exact ⟨I8.free, lC.2⟩)
          (fun b o _ hc' z => (sb.2 b fun y => hc' (by rw [y]; exact List.mem_cons_self)).trans z) (fun b o hc' z => ⟨o.slots, (sb.2 b fun y => hc' (by rw [y]; exact List.mem_cons_self)).trans z⟩)
        have x9 : Exc h' e cls dx (some t8) := x8.keeps fun b o hb z => (sb.2 b (by
          rcases hb with y | y
          · rw [y]; exact nC e le8
          · cases y; exact nC _ lt8)).trans z
        unfold PySem.passOn
        obtain ⟨oe, vs, he9, hc9, hd9, hv9, h19, _⟩ := id x9
        refine wpAny_bind (wpAny_field he9 hv9 h19 ?_)
        rw [if_neg (by simp)]
        refine wpAny_bind (flight_X (X := X) J9 ⟨t8, x9, lX _ le8, lX _ lt8⟩ fun s10 I10 f10 => ?_)
        exact wpAny_throw (acc pins σ H' s10 e cls dx I10 f10.fly q)
      refine thn (hg s3 _ fp _ NE [] s7 _ H7 x u _ I7y r7 (step x H7 y7)) fun _ s8 ⟨σ8, H8, I8, kp8, q8⟩ => ?_
      refine thn (ht s3 _ fp _ NE [] s8 σ8 H8 _ I8 q8) fun ok s9 ⟨H9, I9, q9⟩ => ?_
      have again : ∀ {H' : Hp} {s' : Shared} {ac' : List V}, Inv Y1 [] σ8 H' s' → (∃ m', m' < n ∧ W (i + 1) m' ac' H') →
          ∃ m, m < n ∧ ∃ i ac H', Inv Y0 [] (capSt cap σ) H' s' ∧ tn i s'.heap ∧ (∀ b ∈ fp, H' b = none) ∧ W i m ac H' := fun {H' s' ac'} I' ⟨m', hm, w'⟩ => by
        have I0 : Inv Y0 ([] ++ pinsAt fp s7.heap) σ8 H' s' := Inv.untryB (X := Y0) (pins := [] ++ pinsAt fp s7.heap) I5.ok I'
        have pin0 : ∀ b ∈ fp, ∀ o, s7.heap.get? b = some o → s'.heap.get? b = some o ∧ H' b = none := fun b hb o e => by
          have z := I0.pin (b, o) (List.mem_append_right _ (List.mem_append_right _ (mem_pinsAt hb e)))
          exact ⟨z.1, z.2.1⟩
        refine ⟨m', hm, i + 1, ac', H', (Inv.unpinned (pins := []) (pl := pinsAt fp s7.heap) I0).weak (by rw [I0.len]; show _ = N'.length; simp [capSt, O.len]) kp8, T.keep _ _ _ st7 fun b hb o e => (pin0 b hb o e).1, fun b hb => ?_, w'⟩
        obtain ⟨o, e, _⟩ := T.obj _ _ st7 b hb
        exact (pin0 b hb o e).2
      cases ok with
      | false =>
        rw [if_neg Bool.false_ne_true] at q9 ⊢
        exact again I9 q9
      | true =>
        rw [if_pos rfl] at q9 ⊢
        refine thn (he s3 _ fp _ NE ac1 [] s9 σ8 H9 _ I9 q9) fun yv s10 ⟨y, H10, I10, r10, hD10, q10⟩ => ?_
        refine thn (mt_append (X := Y1) [] s10 σ8 H10 (.ref s2.heap.objs.size) [y] (.ref s2.heap.objs.size) [yv] (fun _ H' => H' = upd H10 s2.heap.objs.size (.lst (ac ++ [y]))) I10 rfl (.cons r10 .nil) ⟨_, ac, y, rfl, rfl, hD10, hsz, rfl⟩) fun _ s11 ⟨_, H11, I11, _, e11⟩ => ?_
        subst e11
        exact again I11 q10
  have hst4 : tn 0 h' := T.keep 0 _ _ st3 fun b _ o e => k34 b o e
  exact codeAny_compStart_list (loop _ (I4 _) hst4) (T.self _ 0 _ _ _ hst4 (loop _ (I4 _) hst4))

/-- [elt for target in iter if ..], as a value -/
theorem pe_comp (acc : XAcc X E) (hc : X.calm = true) (F : FrameOk X L) (O : CompOk X scope cl N' cap) (hi : PI X target iter wi)
    (hg : ∀ s₀ H₀ fp pn' E', PG (cxComp X scope cl N' s₀ H₀ fp pn' E') target g) (ht : ∀ s₀ H₀ fp pn' E', PTs (cxComp X scope cl N' s₀ H₀ fp pn' E') ifs tc)
    (he : ∀ s₀ H₀ fp pn' E', XAcc (cxComp X scope cl N' s₀ H₀ fp pn' E') E → PE (cxComp X scope cl N' s₀ H₀ fp pn' E') elt te)
    (hs : ∀ x, foldedSetIterable iter X.env x = pure x := by intro _; rfl) : PE X (.ListComp elt [⟨target, iter, ifs, 0⟩] scope pos) (tComp cap wi g tc te) := by
  intro pins s σ H Q I h
  rw [eval_ListComp]
  refine wpAny_comprehension_free (use := none) rfl hs O.clos O.kind O.names (thn (hi pins s σ H _ I h) fun xv s₁ h₁ => thn h₁ fun itv s₂ h₂ => ?_)
  obtain ⟨it, fp, tn, J, H2, e, I2, T, st2, f2, q⟩ := h₂
  subst e
  refine comp_block (RR := fun accv C => compPost (model X.prog X.w) X.A X.xe none (EP X pins σ Q) accv C) (Qe := fun D => Q (.ref D)) acc hc F O hg ht he I2 T st2 f2 q ?_ ?_
  · rintro D C s' ⟨m, hn⟩ lC ⟨H', I', hC, q'⟩
    refine ⟨m, hn, fun h' sb => ⟨.ref D, H', I'.loosened (t' := s'.toks) (ch := [C]) (fun b hb => by rw [List.mem_singleton.mp hb]; exact ⟨hC, lC.2⟩)
      (fun b o _ hc' z => (sb.2 b fun y => hc' (by rw [y]; exact List.mem_cons_self)).trans z) (fun b o hc' z => ⟨o.slots, (sb.2 b fun y => hc' (by rw [y]; exact List.mem_cons_self)).trans z⟩), rfl, q'⟩⟩
  · rintro D C x s' ⟨m, hn⟩ k
    exact ⟨m, hn, k⟩
/-- y = [elt for target in iter if ..] -/
theorem ps_comp {i : Nat} {y : Str} {py spos : Pos} (hN : X.N.Nodup) (hi' : X.N[i]? = some y) (hx : Loc X.env.scope y) (acc : XAcc X E) (hc : X.calm = true) (F : FrameOk X L) (O : CompOk X scope cl N' cap) (hi : PI X target iter wi)
    (hg : ∀ s₀ H₀ fp pn' E', PG (cxComp X scope cl N' s₀ H₀ fp pn' E') target g) (ht : ∀ s₀ H₀ fp pn' E', PTs (cxComp X scope cl N' s₀ H₀ fp pn' E') ifs tc)
    (he : ∀ s₀ H₀ fp pn' E', XAcc (cxComp X scope cl N' s₀ H₀ fp pn' E') E → PE (cxComp X scope cl N' s₀ H₀ fp pn' E') elt te)
    (hsw : swapsWith (.ListComp elt [⟨target, iter, ifs, 0⟩] scope pos) (some (.Name y py)) spos.line X.env = pure true := by rfl)
    (hs : ∀ x, foldedSetIterable iter X.env x = pure x := by intro _; rfl) (hf : X.fn y = true ∨ X.env.scope.names.lookup y = some .local := by first | exact .inl rfl | exact .inr rfl | assumption) :
    PS X (.Assign [.Name y py] (.ListComp elt [⟨target, iter, ifs, 0⟩] scope pos) spos) (tAsg (tComp cap wi g tc te) (gName i)) := by
  intro pins s σ H D I h
  rw [exec_Assign_Name_used y py _ spos hsw]
  refine wpAny_bind (wpAny_standAt ?_)
  refine wpAny_bind ?_
  show wpAny _ X.A (do let _ ← comprehension (.ListComp elt [⟨target, iter, ifs, 0⟩] scope pos) scope X.env _ (newList []) false (eval iter X.env) (some (assign (.Name y py) X.env))) _ _ s
  refine wpAny_bind (wpAny_mono (wpAny_comprehension_free (use := some (assign (.Name y py) X.env)) (Q := fun _ s' => SP X pins D .next s') rfl hs O.clos O.kind O.names
    (thn (hi pins s σ H _ I h) fun xv s₁ h₁ => thn h₁ fun itv s₂ h₂ => ?_)) (fun _ s' hq => wpAny_pure (wpAny_pure hq)) fun _ _ e => e)
  obtain ⟨it, fp, tn, J, H2, e, I2, T, st2, f2, q⟩ := h₂
  subst e
  refine comp_block (RR := fun accv C => compPost (model X.prog X.w) X.A X.xe (some (assign (.Name y py) X.env)) (fun _ s' => SP X pins D .next s') accv C) (Qe := fun Dl H1 => D.nx (σ.set i (some (.ref Dl))) H1) acc hc F O hg ht he I2 T st2 f2 q ?_ ?_
  · rintro Dl C s' ⟨m, hn⟩ lC ⟨H', I', hC, q'⟩
    show wpAny _ X.A (assign (.Name y py) X.env (.ref Dl)) _ _ s'
    refine wpAny_assign_Name (store_ok2 I' hN hi' hx (show RelV (.ref Dl) (.ref Dl) from rfl) (fun s'' I'' hsb => ?_) hf)
    obtain ⟨a, sba, ha⟩ := hsb
    have nCa : C ≠ a := by
      rcases ha with z | z
      · rw [z]; exact lC.2.1
      · exact Ne.symm (lC.2.2.2.2.1 _ _ z)
    refine ⟨m, hn.sameBut sba nCa, fun h' sb => ⟨_, H', I''.loosened (t' := s''.toks) (ch := [C]) (fun b hb => by rw [List.mem_singleton.mp hb]; exact ⟨hC, lC.2⟩)
      (fun b o _ hc' z => (sb.2 b fun y => hc' (by rw [y]; exact List.mem_cons_self)).trans z) (fun b o hc' z => ⟨o.slots, (sb.2 b fun y => hc' (by rw [y]; exact List.mem_cons_self)).trans z⟩), q'⟩⟩
  · rintro D C x s' ⟨m, hn⟩ k
    exact ⟨m, hn, k⟩
end

/-! ## defs that are called where an exception is at hand -/
structure RoomH (k : Nat) (A : Around) : Prop where
  dp : A.depth + 3 * k + 5 < recursionLimit
  un : A.units + 16 * k + 200 < cLine
theorem Room.toH {k : Nat} {A : Around} (r : Room k A) : RoomH k A := ⟨r.dp, r.un⟩
theorem RoomH.deeper {k : Nat} {A : Around} (r : RoomH (k + 1) A) (env : Env) : RoomH k (A.deeper env) :=
  ⟨by have := r.dp; show A.depth + 1 + 3 * k + 5 < _; omega, by have := r.un; show A.units + 3 + 16 * k + 200 < _; omega⟩
structure FnOkH (P : Program) (w : World) (K : PySem.W.Frag) (mg : Str → Option Value) (base : Heap) (CX : CXT) (k : Nat) (f : Addr) (fd : FuncData) (ps : List Str) (sp : Sp) : Prop where
  len : ∀ vs H Q E, sp vs H Q E → vs.length = ps.length
  run : ∀ (A : Around) (outer : List Env) (s : Shared) (H : Hp) (args : Args) (us : List Value) (vs : List V) (Q : VK) (E : XK), RoomH k A → Env0 P w K mg base A outer s H → BindsTo s fd args (ps.zip us) → Vals vs us → sp vs H Q E →
    codeAny (model P w) A (.call (.ref f) args) (CR CX outer P w H s Q E) s
theorem FnOkH.fn {P : Program} {w : World} {K : PySem.W.Frag} {mg : Str → Option Value} {base : Heap} {CX : CXT} {k : Nat} {f : Addr} {fd : FuncData} {ps : List Str} {sp : Sp} (F : FnOkH P w K mg base CX k f fd ps sp) : FnOk P w K mg base CX k f fd ps sp :=
  ⟨F.len, fun A outer s H args us vs Q E hr => F.run A outer s H args us vs Q E hr.toH⟩
abbrev cxOfH (CX : CXT) (P : Program) (w : World) (K : PySem.W.Frag) (mg : Str → Option Value) (base : Heap) (N : List Str) (qual : Str) (scope : Scope) (f : Addr) (cd : Value) (A : Around) (outer : List Env) (s : Shared) (H : Hp) (E : XK) : Cx :=
  { cxOf CX P w K mg base N qual scope f cd A outer s H E with calm := false }
theorem fn_ofH {CX : CXT} {P : Program} {w : World} {K : PySem.W.Frag} {mg : Str → Option Value} {base : Heap} {k : Nat} {f : Addr} {name qual : Str} {params : Arguments} {body : List Stmt} {scope : Scope} {dV kV doc pm cdv ct oc : Value} {an od : Option Addr}
    {osl : Array (Option Value)} {N ps : List Str} {sp : Sp} (lk : K.lookup f = some ⟨oc, od, .func (PySem.W.fnOf name qual params body scope dV kV doc pm an cdv ct), osl⟩) (hcd : PySem.W.codeIn K cdv qual = true) (S : FnScope N ps scope)
    (len : ∀ vs H Q E, sp vs H Q E → vs.length = ps.length)
    (hbody : ∀ (A : Around) (outer : List Env) (s : Shared) (H : Hp) (vs : List V) (Q : VK) (E : XK), RoomH k (A.deeper (envOfC qual scope s.heap.objs.size f cdv)) → sp vs H Q E →
      ∃ t, PSs (cxOfH CX P w K mg base N qual scope f cdv A outer s H E) body t ∧ t { nx := fun _ H' => Q .non H', rt := Q } (start N vs) H) :
    FnOkH P w K mg base CX (k + 1) f (PySem.W.fnOf name qual params body scope dV kV doc pm an cdv ct) ps sp := by
  refine ⟨len, fun A outer s H args us vs Q E hr e0 hb r hsp => ?_⟩
  have hl := len _ _ _ _ hsp
  have KX : K.In s.heap := e0.mod.kin.keeps fun b o e => (e0.bs b o e).1
  have lim : s.heap.NoLimit := e0.mod.nolimit.keeps fun b o e => (e0.bs b o e).1
  have hkind : ∀ y ∈ ps.zip us, scope.names.lookup y.1 = some .local ∨ (scope.names.lookup y.1 = some .cell ∧ ((cellsFrom (s.heap.objs.size + 1) scope.names []).lookup y.1).isSome = true) := fun ⟨n, v⟩ hy => by
    rcases S.par n (List.of_mem_zip hy).1 with q | q
    · exact .inl q
    · exact .inr ⟨q, PySem.W.cellsFrom_some _ _ _ (.inl q)⟩
  have hdep : A.depth < recursionLimit := by have := hr.dp; omega
  refine codeAny_call_function hdep (KX _ _ lk) rfl S.co S.gen rfl (PySem.W.codeRec_of KX hcd) (hb _ _ _ _ ?_)
  refine wpAny_newFunctionEnv_cells S.kind hkind fun env he s1 x => ?_
  subst he
  refine ⟨lim.keeps x.toInCall.keep, codeAny_func ?_⟩
  obtain ⟨t, ht, hq⟩ := hbody A outer s H vs Q E (hr.deeper _) hsp
  have I0 : Inv (cxOf CX P w K mg base N qual scope f cdv { A with handled := none } outer s H E) [] (start N vs) H s1 :=
    inv_start S rfl ⟨e0.frames, e0.mod, e0.bs, e0.bsz, e0.funs, e0.frf, e0.hok, e0.bare⟩ hl r x
  have I : Inv (cxOfH CX P w K mg base N qual scope f cdv A outer s H E) [] (start N vs) H s1 :=
    ⟨⟨I0.ok.mod, I0.ok.kind, I0.ok.glob, I0.ok.blt, I0.ok.above, I0.ok.inj, I0.ok.has, I0.ok.cab, (fun z => nomatch z), Around.frames_deeper e0.frames, I0.ok.stk, I0.ok.exf, I0.ok.bs, I0.ok.bsz, I0.ok.noex, I0.ok.exfs, I0.ok.funs, I0.ok.frf⟩,
      I0.os, I0.bare, I0.base, I0.loc, I0.cell, I0.free, I0.freeC, I0.pin, I0.hok, I0.len⟩
  refine wpAny_mono (ht [] s1 (start N vs) H _ I hq) (fun fl s' hs => ?_) fun e s' hs => hs
  have fin : ∀ {σ' : St} {H' : Hp} {v : V} {u : Value}, Inv (cxOfH CX P w K mg base N qual scope f cdv A outer s H E) [] σ' H' s' → RelV v u → Q v H' → CE outer P w H s Q u s' :=
    fun {σ' H' v u} J rv q => ⟨v, H', J.os, J.bare, J.base, J.hok, rv, q⟩
  cases fl with
  | ret u =>
    obtain ⟨v, σ', H', J, rv, q⟩ := hs
    exact fin J rv q
  | next =>
    obtain ⟨σ', H', J, q⟩ := hs
    exact fin (v := V.non) (u := Value.none) J rfl q
  | brk =>
    obtain ⟨_, _, _, q⟩ := hs
    exact False.elim q
  | cont =>
    obtain ⟨_, _, _, q⟩ := hs
    exact False.elim q
section
variable {X : Cx} {CX : CXT} {k : Nat} {f : Addr} {fd : FuncData} {ps : List Str} {sp : Sp} {dvs : List V} {ds : List Value} {E : XK} {x : Str} {p pos : Pos} {e : Expr} {es : List Expr} {t : TA}
theorem run_fnH {pins : List (Addr × Obj)} {σ : St} {H : Hp} {s : Shared} {Q : VK} {us : List Value} {vs : List V} (F : FnOkH X.prog X.w X.K X.mg X.base CX k f fd ps sp) (hr : RoomH k X.A) (hb : Binds X.K fd ps ds) (hd : Vals dvs ds) (hx : Passes CX X E)
    (I : Inv X pins σ H s) (r : Vals vs us) (h : sp (vs ++ dvs) H Q E) : wpAny (model X.prog X.w) X.A (call (.ref f) us) (EP X pins σ Q) X.xe s := by
  have r2 : Vals (vs ++ dvs) (us ++ ds) := r.append hd
  have hl : (us ++ ds).length = ps.length := by rw [← r2.length]; exact F.len _ _ _ _ h
  refine wpAny_call (codeAny_mono (F.run X.A X.stack s H ⟨us, []⟩ (us ++ ds) (vs ++ dvs) Q E hr I.env0 (hb s us I.kIn hl) r2 h) fun r s' hq => ?_)
  cases r with
  | error e => exact hx pins σ H s e s' I hq
  | ok fl =>
    cases fl with
    | ret u => exact I.after hq
    | next => exact False.elim hq
    | brk => exact False.elim hq
    | cont => exact False.elim hq
theorem pe_callH (F : FnOkH X.prog X.w X.K X.mg X.base CX k f fd ps sp) (hr : RoomH k X.A) (hg : Gl X x) (hm : X.mg x = some (.ref f)) (hk : PySem.W.keepIn X.K (.ref f) = true) (hb : Binds X.K fd ps ds) (hd : Vals dvs ds) (hx : Passes CX X E)
    (ha : PA X (e :: es) t) (hdb : (x == ("__debug__" : Str)) = false := by decide) (he : starEach (e :: es) X.env = (false, eval e X.env) :: starEach es X.env := by rfl) (hpl : (backTo pos (starEach es X.env)).any (·.1) = false := by rfl) :
    PE X (.Call (.Name x p) (e :: es) [] pos) (tCall sp dvs E t) := by
  intro pins s σ H Q I h
  refine wpAny_Call_Name_kw (ld_glob I hg hm ?_ hdb)
  refine PySem.W.callWith_K (h₀ := X.base) I.ok.mod.kin hk (thn (ha pos pins s σ H _ I h) fun us s1 ⟨vs, H1, I1, r, q⟩ => ⟨I1.kIn, ?_⟩) he hpl
  exact run_fnH F hr hb hd hx I1 r q
end
end L2
set_option Elab.async false
set_option linter.all false
set_option maxRecDepth 100000
set_option maxHeartbeats 6000000
namespace L2
open PySem PySem.Spec PyProof.Rows

/-! ## C1. a set of texts, made of a list; its length -/
/-- the texts of a list, each where it first stands -/
def metS : List Str → List Str
  | [] => []
  | x :: l => x :: (metS l).filter fun y => decide (y ≠ x)
theorem mem_metS {y : Str} : ∀ {l : List Str}, y ∈ metS l ↔ y ∈ l
  | [] => Iff.rfl
  | x :: l => by
    by_cases e : y = x
    · simp [metS, e]
    · simp [metS, e, mem_metS (l := l)]
theorem metS_le : ∀ l : List Str, (metS l).length ≤ l.length
  | [] => Nat.le_refl _
  | _ :: l => Nat.succ_le_succ (Nat.le_trans (List.length_filter_le _ _) (metS_le l))
/-- one more text at the end -/
theorem metS_snoc (v : Str) : ∀ l : List Str, metS (l ++ [v]) = if v ∈ l then metS l else metS l ++ [v]
  | [] => by simp [metS]
  | x :: l => by
    have ih := metS_snoc v l
    by_cases e : v = x
    · subst e
      by_cases m : v ∈ l <;> simp [metS, ih, m, List.filter_append]
    · by_cases m : v ∈ l <;> simp [metS, ih, m, e, List.filter_append]
/-- no text stands twice, just where none is lost -/
theorem metS_eq : ∀ l : List Str, (metS l).length = l.length ↔ l.Nodup
  | [] => by simp [metS]
  | x :: l => by
    have le1 := List.length_filter_le (fun y => decide (y ≠ x)) (metS l)
    have le2 := metS_le l
    have ih := metS_eq l
    have all : ((metS l).filter fun y => decide (y ≠ x)).length = (metS l).length ↔ ¬ x ∈ l := by
      rw [List.length_filter_eq_length_iff]
      constructor
      · intro h m
        simpa using h x (mem_metS.mpr m)
      · intro h y hy
        simpa using fun z : y = x => h (z ▸ mem_metS.mp hy)
    simp only [metS, List.length_cons, List.nodup_cons]
    constructor
    · intro h
      exact ⟨all.mp (by omega), ih.mp (by omega)⟩
    · rintro ⟨h1, h2⟩
      have := all.mpr h1
      have := ih.mpr h2
      omega

section
variable {prog : Program} {w : World} {A : Around} {E : Value → Shared → Prop} {Q : Value → Shared → Prop} {s : Shared}
/-- T(..) of a built-in type: what its __new__ hands on is given to its __init__ -/
theorem type_call_by {T newId initId : String} {args : List Value} (ft : TypeCalled T newId initId) (ok : checkTypeCall T ⟨args, []⟩ = pure ())
    (mk : codeAny (model prog w) A.in1 (.call (.builtin newId) ⟨.type T :: args, []⟩)
      (wants (fun obj a => a.TypeIs obj T ∧ codeAny (model prog w) A.in1 (.call (.builtin initId) ⟨obj :: args, []⟩) (wants (fun r b => r = .none ∧ Q obj b) E) a) E) s) : wpAny (model prog w) A (call (.type T) args) Q E s := by
  obtain ⟨c, tl, mro⟩ := ft.mro
  have made := ft.made; have sub := ft.sub; have n1 := ft.notType; have n2 := ft.canCreate
  have look := ft.init.lookup
  refine wpAny_call (codeAny_of_tree (show wpAny _ _ (callAny (.type T) _) _ _ _ from wpAny_pure ⟨Code.quiet_builtin _ (by decide +kernel), codeAny_builtin PySem.F.entry_type_call ?_⟩))
  have plain := Around.under_plain (A := A) (weight_type_call_type T args []) (units_type_call_type T args [])
  rw [plain]
  repeat any_goals first | assumption | wp_step
  refine codeAny_mono mk fun r a ha => ?_
  match r, ha with
  | .error _, ha => exact ha
  | .ok (.ret obj), ha =>
    obtain ⟨ty, ini⟩ := ha
    have bnd := ft.init.bind obj
    repeat any_goals first | assumption | wp_step
    refine codeAny_mono ini fun r b hb => ?_
    match r, hb with
    | .error _, hb => exact hb
    | .ok (.ret v), hb =>
      obtain ⟨rfl, q⟩ := hb
      repeat any_goals first | assumption | wp_step

/-- a text is put into a set of texts -/
theorem set_put {S : Addr} {done : List Str} {x : Str} {t : Tok} {Qu : Bool → Shared → Prop} (small : (metS done).length + 1 < scanBound) (at_ : s.heap.SetOf (strKind prog w) S (fun k => decide (k ∈ done)) (metS done).length)
    (k : ∀ h' tk b, Heap.SameBut S s.heap h' → h'.SetOf (strKind prog w) S (fun k => decide (k ∈ done ++ [x])) (metS (done ++ [x])).length → Qu b { s with heap := h', toks := tk }) : wpAny (model prog w) A (setAdd S (.str x t)) Qu E s := by
  have is : (strKind prog w).is x (.str x t) = true := by show Value.isStrOf x (.str x t) = true; simp [Value.isStrOf]
  unfold setAdd
  refine wpAny_holding (wpAny_bind ((strKind prog w).pyHash (k := x) is (wpAny_setAddHashed_of (knd := strKind prog w) (s := { s with toks := s.toks + 1 }) is rfl at_ small fun h' sb set => k h' _ _ sb ?_)))
  refine SetOf_congr set (fun y => ?_) ?_
  · simp [List.mem_append, Bool.decide_or]
  · rw [metS_snoc]
    by_cases m : x ∈ done <;> simp [m]

/-- the loop that fills it from a list's iterator -/
theorem set_fill {S I l : Addr} {its : List Value} {ls : List Str} (calm : A.handled = none) (SI : S ≠ I) (Sl : S ≠ l) (lI : l ≠ I) (txt : Paired (fun x v => ∃ t, v = Value.str x t) ls its) (small : ls.length + 1 < scanBound) {R : Result → Shared → Prop} :
    ∀ (todo done : List Str) (s : Shared), ls = done ++ todo → s.heap.IsListIter I l done.length → s.heap.IsList l its.toArray → s.heap.SetOf (strKind prog w) S (fun k => decide (k ∈ done)) (metS done).length →
      (∀ h' tk, (∀ b o, b ≠ S → b ≠ I → s.heap.get? b = some o → h'.get? b = some o) → h'.SetOf (strKind prog w) S (fun k => decide (k ∈ ls)) (metS ls).length → R (.ok (.ret .none)) { s with heap := h', toks := tk }) →
      codeAny (model prog w) A (.builtin "set.update.loop" ⟨[.ref S, .ref I], []⟩) R s
  | [], done, s, e, it, li, at_, k => by
    have e' : ls = done := by simpa using e
    have len := txt.length
    refine codeAny_builtin PyProof.Rows.F.entry_set_update_loop ?_
    rw [Around.under_plainId PyProof.Rows.F.plain_set_update_loop _]
    refine wpAny_bind (m := pyNext (.ref I)) (wpAny_pyNext_list_end (by simpa using calm) it li (by rw [← e']; simp [len]) fun h' ext => ?_)
    obtain ⟨o, es, ep, t, ho, more⟩ := at_
    subst e'
    exact wpAny_pure (k h' s.toks (fun b o _ nI q => ext b o nI q) ⟨o, es, ep, t, ext S o SI ho, more⟩)
  | x :: todo, done, s, e, it, li, at_, k => by
    have lenD : done.length < ls.length := by rw [e, List.length_append, List.length_cons]; omega
    have item : ∃ t, its[done.length]? = some (Value.str x t) := by
      have at1 : ls[done.length]? = some x := by rw [e]; simp
      clear e it li at_ k lenD small
      induction txt generalizing done with
      | nil => simp at at1
      | @cons a b l₁ l₂ r rr ih =>
        cases done with
        | nil => simp at at1; subst at1; obtain ⟨t, q⟩ := r; exact ⟨t, by simp [q]⟩
        | cons y ys => exact ih ys (by simpa using at1)
    obtain ⟨t, item⟩ := item
    have room : (metS done).length + 1 < scanBound := by have := metS_le done; omega
    refine codeAny_builtin PyProof.Rows.F.entry_set_update_loop ?_
    rw [Around.under_plainId PyProof.Rows.F.plain_set_update_loop _]
    refine wpAny_bind (m := pyNext (.ref I)) (wpAny_pyNext_list_item it li (x := Value.str x t) (by simpa using item) fun h' it' sb => ?_)
    obtain ⟨o, es, ep, tb, ho, more⟩ := at_
    refine wpAny_bind (wpAny_holding (set_put (s := { s with heap := h' }) room ⟨o, es, ep, tb, (sb.2 S SI).trans ho, more⟩ fun g tk b sg set => ?_))
    refine wpAny_pure ⟨plainId_quiet PyProof.Rows.F.plain_set_update_loop _, set_fill calm SI Sl lI txt small todo (done ++ [x]) _ (by simp [e]) ?_ ?_ set fun g' tk' keep fin => ?_⟩
    · rw [List.length_append]
      exact it'.at fun o q => (sg.2 I (Ne.symm SI)).trans q
    · exact (li.at fun o q => (sb.2 l lI).trans q).at fun o q => (sg.2 l (Ne.symm Sl)).trans q
    · exact k g' tk' (fun b o nS nI q => keep b o nS nI ((sg.2 b nS).trans ((sb.2 b nI).trans q))) fin
/-- set(l) of a list of texts -/
theorem call_set_strs {l : Addr} {its : List Value} {ls : List Str} (calm : A.handled = none) (li : s.heap.IsList l its.toArray) (txt : Paired (fun x v => ∃ t, v = Value.str x t) ls its) (small : ls.length + 1 < scanBound)
    (k : ∀ h' tk, h'.SetOf (strKind prog w) s.heap.objs.size (fun y => decide (y ∈ ls)) (metS ls).length → (∀ b o, s.heap.get? b = some o → h'.get? b = some o) → Q (.ref s.heap.objs.size) { s with heap := h', toks := tk }) :
    wpAny (model prog w) A (call (Value.type "set") [Value.ref l]) Q E s := by
  refine type_call_by PySem.F.called_set (PySem.F.typeCall_set_1 _) (code_set_new_1 (.ref l) fun led => ?_)
  let o₀ : Obj := { cls := .type "set", dict := none, data := .set #[] 0 (.fresh 0 0 led) }
  have there : (s.heap.push o₀).get? s.heap.objs.size = some o₀ := Heap.get?_push_size s.heap rfl
  have ty : Shared.TypeIs { s with heap := s.heap.push o₀ } (.ref s.heap.objs.size) "set" := ⟨o₀, there, rfl⟩
  refine ⟨ty, codeAny_call_builtin PySem.F.called_set.init.plain PySem.F.entry_set_init (check_set_init_1 ty ?_)⟩
  have lt : l < s.heap.objs.size := by obtain ⟨o, q, _⟩ := li; exact Heap.lt_size q
  have li1 : (s.heap.push o₀).IsList l its.toArray := li.push o₀
  obtain ⟨⟨c, d, dt, sl⟩, get, rfl, n, rfl⟩ := id li1
  have notSet := PySem.F.sub_list_set; have notFrozen := PySem.F.sub_list_frozenset
  have notDict : (Value.type "list" == Value.type "dict") = false := by decide
  unfold Builtin.«set.__init__»
  unfold noKeywords
  unfold Builtin.Frozenset.updateFrom
  generalize keepIter : pyIter = PI
  wp_walk
  subst keepIter
  refine wpAny_pyIter_list li1 (wpAny_bind (wpAny_runValue ?_))
  let it₀ : Obj := { cls := .type "list_iterator", data := .fields #[.ref l, .int 0 0] }
  have size1 : (s.heap.push o₀).objs.size = s.heap.objs.size + 1 := Heap.size_push _ _
  refine set_fill (its := its) (ls := ls) (by simpa using calm) (by rw [size1]; exact Nat.ne_of_lt (Nat.lt_succ_self _)) (Nat.ne_of_gt lt) (by rw [size1]; exact Nat.ne_of_lt (Nat.lt_succ_of_lt lt)) txt small ls [] _ rfl ⟨it₀, Heap.get?_push_size _ rfl, rfl, rfl⟩ (li1.push it₀) ?_ fun h' tk keep fin => ?_
  · exact SetOf_congr ((setObjOf_fresh (knd := strKind prog w) led).setOf (Heap.get?_push_of_some it₀ there) (by unfold scanBound; omega)) (fun y => by simp) (by simp [metS])
  · refine wpAny_pure (show wpAny _ _ (ret Value.none) _ _ _ from wpAny_pure ⟨rfl, k h' tk fin fun b o q => ?_⟩)
    have below := Heap.lt_size q
    exact keep b o (Nat.ne_of_lt below) (by rw [size1]; exact Nat.ne_of_lt (Nat.lt_succ_of_lt below)) (Heap.get?_push_of_some it₀ (Heap.get?_push_of_some o₀ q))
end

/-- a set of texts, by its size -/
def SetStr (P : Program) (w : World) (a : Addr) (n : Nat) : HO := .ext fun h => ∃ S, h.SetOf (strKind P w) a S n
theorem texts_of : ∀ {ls : List Str} {us : List Value}, Vals (ls.map V.str) us → Paired (fun x v => ∃ t, v = Value.str x t) ls us
  | [], _, r => by cases r; exact .nil
  | x :: ls, _, r => by cases r with | cons r rr => exact .cons r (texts_of rr)
section
variable {X : Cx}
theorem call_setS (hc : X.calm = true) : CallR X (.type "set") (fun xs H Q => ∃ p ls, xs = [.ref p] ∧ SqL X.K H p (ls.map V.str) ∧ ls.length + 1 < scanBound ∧ ∀ l, H l = none → Q (.ref l) (upd H l (SetStr X.prog X.w l (metS ls).length))) := by
  intro pins s σ H xs us Q I r h
  obtain ⟨p, ls, rfl, hq, hb, q⟩ := h
  obtain ⟨u, rfl, rx⟩ := Vals.one r
  cases rx
  obtain ⟨its, rv, pl, hz⟩ := I.list hq
  refine call_set_strs (I.ok.hd hc) pl.isList (texts_of rv) hb fun h' tk hS hk => ?_
  refine ⟨.ref s.heap.objs.size, _, I.laid (a := s.heap.objs.size) (o := SetStr X.prog X.w s.heap.objs.size (metS ls).length) hk (Nat.le_refl _) ?_, rfl, q _ (I.hok.fresh (Nat.le_refl _))⟩
  obtain ⟨o, es, ep, t, ho, rest⟩ := id hS
  refine ⟨⟨_, hS⟩, ⟨o, ho⟩, fun h1 h2 p k => ?_⟩
  obtain ⟨S, o, es, ep, t, ho, rest⟩ := p
  exact ⟨S, o, es, ep, t, k o ho, rest⟩
theorem call_lenS : CallR X (.builtin "len") (fun xs H Q => ∃ p n, xs = [.ref p] ∧ H p = some (SetStr X.prog X.w p n) ∧ Q (.int n) H) := by
  intro pins s σ H xs us Q I r h
  obtain ⟨p, n, rfl, e, q⟩ := h
  obtain ⟨u, rfl, rx⟩ := Vals.one r
  cases rx
  obtain ⟨⟨S, o, es, ep, t, ho, hex, hd, hel, hm, hb, hf, hn⟩, _⟩ := (show ObjOk X.prog X.w H s.heap p (SetStr X.prog X.w p n) from I.hok p _ e)
  subst hn
  refine call_len_set ho hex hd hf (by unfold scanBound at hb; omega) ⟨.int es.size, H, I.tok _, ⟨_, rfl⟩, q⟩
end

/-! ## C2. zip of two sequences, each a list or a tuple -/
/-- what is said of the addresses fp alone -/
def Rests (fp : List Addr) (P : Heap → Prop) : Prop := ∀ h h', P h → (∀ b ∈ fp, ∀ o, h.get? b = some o → h'.get? b = some o) → P h'
/-- an exception StopIteration -/
def IsStop (h : Heap) (e : Addr) : Prop := ∃ o, h.get? e = some o ∧ o.cls = .type "StopIteration"
/-- nextOf draws x and turns the iterator alone -/
def Draws (prog : Program) (w : World) (A : Around) (it : Addr) (P : Heap → Prop) (x : Value) (P' : Heap → Prop) : Prop :=
  ∀ (s : Shared) (Q : Value → Shared → Prop) (E : Value → Shared → Prop), P s.heap → (∀ h', P' h' → Heap.SameBut it s.heap h' → Q x { s with heap := h' }) → wpAny (model prog w) A (Builtin.SmallTypes.nextOf (.ref it)) Q E s
/-- nextOf is at its end -/
def Ends0 (prog : Program) (w : World) (A : Around) (it : Addr) (P : Heap → Prop) : Prop :=
  ∀ (s : Shared) (Q : Value → Shared → Prop) (E : Value → Shared → Prop), P s.heap → (∀ h' e, Heap.ExtBut it s.heap h' → IsStop h' e → E (.ref e) { s with heap := h' }) → wpAny (model prog w) A (Builtin.SmallTypes.nextOf (.ref it)) Q E s
/-- an iterator over a list or a tuple, at its k-th place -/
inductive Over (h : Heap) (it l : Addr) (xs : Array Value) (k : Nat) : Bool → Prop
  | lst (a : h.IsListIter it l k) (b : h.IsList l xs) : Over h it l xs k false
  | tup (a : h.IsTupleIter it l k) (b : h.IsTuple l xs) : Over h it l xs k true
section
variable {prog : Program} {w : World} {A : Around} {it l : Addr} {xs : Array Value} {k : Nat} {tu : Bool}
theorem over_rests : Rests [it, l] (fun h => Over h it l xs k tu) := fun h h' o keep => by
  have k1 := keep it (by simp)
  have k2 := keep l (by simp)
  cases o with
  | lst a b => exact .lst (a.at k1) (b.at k2)
  | tup a b =>
    obtain ⟨o1, q1, r1⟩ := a
    obtain ⟨o2, q2, r2⟩ := b
    exact .tup ⟨o1, k1 o1 q1, r1⟩ ⟨o2, k2 o2 q2, r2⟩
theorem Over.it_there {h : Heap} (o : Over h it l xs k tu) : ∃ ob, h.get? it = some ob := by
  cases o with
  | lst a _ => obtain ⟨ob, q, _⟩ := a; exact ⟨ob, q⟩
  | tup a _ => obtain ⟨ob, q, _⟩ := a; exact ⟨ob, q⟩
/-- a tuple's iterator, asked for its next one: by pyNext's own rules -/
theorem nextOf_of_pyNext {s : Shared} {Q : Value → Shared → Prop} {E : Value → Shared → Prop} {o : Obj} (at_ : s.heap.get? it = some o) (c : o.cls = .type "tuple_iterator") (flds : o.data = .fields #[.ref l, .int k 0]) {ol : Obj} {n : Nat} (sq : s.heap.get? l = some ol) (its : ol.data = .seq xs n) :
    (∀ x, xs[k]? = some x → (∀ h', h'.IsTupleIter it l (k + 1) → Heap.SameBut it s.heap h' → Q x { s with heap := h' }) → wpAny (model prog w) A (Builtin.SmallTypes.nextOf (.ref it)) Q E s) ∧
    (xs[k]? = none → A.handled = none → (∀ h' e, Heap.ExtBut it s.heap h' → IsStop h' e → E (.ref e) { s with heap := h' }) → wpAny (model prog w) A (Builtin.SmallTypes.nextOf (.ref it)) Q E s) := by
  have ty : s.TypeIs (.ref it) "tuple_iterator" := ⟨o, at_, c⟩
  have not_none : ¬ (Value.ref l == Value.none) = true := Bool.false_ne_true
  constructor
  · intro x hx q
    have flds' := Obj.data_mapFields flds fun v => v.setIfInBounds 1 (rawInt ((k : Int) + 1))
    refine wpAny_bind (wpAny_callSpecial?_slot (name := Str.ofString "__next__") ty PySem.F.slot_tuple_iterator_next (wpAny_call_entry PySem.F.slot_tuple_iterator_next ty PySem.F.entry_tuple_iterator_next ?_ (PySem.F.args_tuple_iterator_next_1 _)))
    refine wpAny_bind (m := field (.ref it) 0) (wpAny_field at_ flds (x := .ref l) rfl ?_)
    rw [if_neg not_none]
    refine wpAny_bind (m := field (.ref it) 1) (wpAny_field at_ flds (x := .int k 0) rfl (wpAny_bind (m := seqItems? (.ref l)) (wpAny_seqItems sq its ?_)))
    simp only [show ((k : Int)).toNat = k from Int.toNat_natCast k, hx]
    refine wpAny_bind (wpAny_setField at_ flds (by simp) (wpAny_pure ⟨x, rfl, wpAny_pure (q _ ⟨_, Heap.get?_update_self _ at_ (Obj.isFreed_of_fields flds'), (Obj.cls_mapFields ..).trans c, ?_⟩ (Heap.SameBut.update ..))⟩))
    rw [flds']; simp [rawInt]
  · intro hx calm q
    refine wpAny_bind (wpAny_callSpecial?_slot (name := Str.ofString "__next__") ty PySem.F.slot_tuple_iterator_next (wpAny_call_entry PySem.F.slot_tuple_iterator_next ty PySem.F.entry_tuple_iterator_next ?_ (PySem.F.args_tuple_iterator_next_1 _)))
    refine wpAny_bind (m := field (.ref it) 0) (wpAny_field at_ flds (x := .ref l) rfl ?_)
    rw [if_neg not_none]
    refine wpAny_bind (m := field (.ref it) 1) (wpAny_field at_ flds (x := .int k 0) rfl (wpAny_bind (m := seqItems? (.ref l)) (wpAny_seqItems sq its ?_)))
    simp only [show ((k : Int)).toNat = k from Int.toNat_natCast k, hx]
    refine wpAny_bind (wpAny_rule (wpAny_bind (wpAny_setField at_ flds (by simp) (wpAny_bind (m := newExc (.type "StopIteration") []) ?_))))
    simp only [newExc, newTuple]
    refine wpAny_bind (wpAny_newObj_type (wpAny_bind (m := firstArgMember _ _) (wpAny_of_eq (a := Value.none) (by first | rfl | (simp only [firstArgMember]; rfl)) (wpAny_newObj_type ?_ (by size_fits)))) (by size_fits))
    exact wpAny_raiseNew_none (show A.in1.handled = none from calm) (q _ _ (((Heap.SameBut.update ..).extBut.push _).push _) ⟨_, Heap.get?_push_size _ rfl, rfl⟩)
theorem over_draws {x : Value} (ne : l ≠ it) (hx : xs[k]? = some x) : Draws prog w A it (fun h => Over h it l xs k tu) x (fun h => Over h it l xs (k + 1) tu) := by
  intro s Q E o q
  cases o with
  | lst a b => exact wpAny_nextOf_list_item a b hx fun h' a' sb => q h' (.lst a' (b.at fun _ z => (sb.2 l ne).trans z)) sb
  | tup a b =>
    obtain ⟨ob, z, c, d⟩ := a
    obtain ⟨ol, y, r, n, its⟩ := b
    exact (nextOf_of_pyNext z c d y its).1 x hx fun h' a' sb => q h' (.tup a' ⟨ol, (sb.2 l ne).trans y, r, n, its⟩) sb
theorem over_ends (hx : xs[k]? = none) (calm : A.handled = none) : Ends0 prog w A it (fun h => Over h it l xs k tu) := by
  intro s Q E o q
  cases o with
  | lst a b => exact wpAny_nextOf_list_end calm a b hx q
  | tup a b =>
    obtain ⟨ob, z, c, d⟩ := a
    obtain ⟨ol, y, _, n, its⟩ := b
    exact (nextOf_of_pyNext z c d y its).2 hx calm q
end
/-- the parts of a zip: itself, the iterators' tuple, its own tuple, the two iterators, the two sequences -/
structure ZipParts (z ti to a b l m : Addr) : Prop where
  own : [z, to, a, b].Nodup
  tis : ti ∉ [z, to, a, b]
  ls : l ∉ [z, to, a, b]
  ms : m ∉ [z, to, a, b]
section
variable {prog : Program} {w : World} {A : Around} {E : Value → Shared → Prop} {s : Shared} {z ti to a b l m : Addr} {xs ys : Array Value} {i j : Nat} {u v : Value} {t1 t2 : Bool}
theorem ZipParts.ne (D : ZipParts z ti to a b l m) : to ≠ z ∧ a ≠ z ∧ b ≠ z ∧ a ≠ to ∧ b ≠ to ∧ b ≠ a := by
  have := D.own
  simp only [List.nodup_cons, List.mem_cons, List.not_mem_nil, or_false, not_or] at this
  obtain ⟨⟨h1, h2, h3⟩, ⟨h4, h5⟩, h6, _⟩ := this
  exact ⟨Ne.symm h1, Ne.symm h2, Ne.symm h3, Ne.symm h4, Ne.symm h5, Ne.symm h6⟩
theorem four {c x y p q : Addr} (h : c ∉ [x, y, p, q]) : c ≠ x ∧ c ≠ y ∧ c ≠ p ∧ c ≠ q := by simpa using h
/-- all but the zip's own four stay -/
def Past4 (z to a b : Addr) (h h' : Heap) : Prop := ∀ c o, c ∉ [z, to, a, b] → h.get? c = some o → h'.get? c = some o
/-- the zip as it lies between two draws -/
structure ZipAt (t1 t2 : Bool) (z ti to a b l m : Addr) (xs ys : Array Value) (f : Value) (i j : Nat) (h : Heap) : Prop where
  cell : IsZip h z ti to f
  its : IsPair h ti (.ref a) (.ref b)
  kept : ∃ u v, IsPair h to u v
  one : Over h a l xs i t1
  two : Over h b m ys j t2
theorem ZipAt.moved {f f' : Value} {h h' : Heap} {i' j' : Nat} (Z : ZipAt t1 t2 z ti to a b l m xs ys f i j h) (D : ZipParts z ti to a b l m) (past : Past4 z to a b h h') (r : IsZip h' z ti to f') (k : ∃ u v, IsPair h' to u v) (o : Over h' a l xs i' t1) (t : Over h' b m ys j' t2) :
    ZipAt t1 t2 z ti to a b l m xs ys f' i' j' h' := ⟨r, past ti _ D.tis Z.its, k, o, t⟩
theorem pair_put {t : Addr} {n : Nat} {x : Value} {Q : Unit → Shared → Prop} (P : IsPair s.heap t u v) (k : ∀ h', h'.get? t = some { cls := .type "tuple", data := .seq ((#[u, v] : Array Value).setIfInBounds n x) } → Heap.SameBut t s.heap h' → Q () { s with heap := h' }) :
    wpAny (model prog w) A (updateSeq t (·.setIfInBounds n x)) Q E s := wpAny_updateSeq_pair P k
/-- two more, handed out as a new pair -/
theorem zip_draw {x y : Value} {Q : Option Value → Shared → Prop} (D : ZipParts z ti to a b l m) (Z : ZipAt t1 t2 z ti to a b l m xs ys .none i j s.heap) (hx : xs[i]? = some x) (hy : ys[j]? = some y)
    (k : ∀ h', ZipAt t1 t2 z ti to a b l m xs ys (rawInt s.heap.objs.size) (i + 1) (j + 1) h' → IsPair h' s.heap.objs.size x y → Past4 z to a b s.heap h' → Q (some (.ref s.heap.objs.size)) { s with heap := h' }) : wpAny (model prog w) A (pyNext (.ref z)) Q E s := by
  obtain ⟨toz, az, bz, ato, bto, ba⟩ := D.ne
  obtain ⟨lz, lto, la, lb⟩ := four D.ls
  obtain ⟨mz, mto, ma, mb⟩ := four D.ms
  obtain ⟨cell, its, ⟨u, v, kept⟩, one, two⟩ := id Z
  have ty : s.TypeIs (.ref z) "zip" := ⟨_, cell, rfl⟩
  refine wpAny_bind (wpAny_attempt (wpAny_callSpecial?_slot (name := Str.ofString "__next__") ty PySem.F.slot_zip_next (wpAny_call_entry PySem.F.slot_zip_next ty PySem.F.entry_zip_next ?_ (PySem.F.args_zip_next_1 _))))
  refine wpAny_bind (m := field (.ref z) 2) (wpAny_field cell rfl (x := .bool false) rfl (wpAny_bind (m := field (.ref z) 3) (wpAny_field cell rfl (x := .ref ti) rfl (wpAny_bind (wpAny_seqItems its rfl ?_)))))
  refine wpAny_bind (m := Builtin.SmallTypes.ownedTupleIsFree (.ref z)) (wpAny_bind (m := field (.ref z) 0) (wpAny_field cell rfl (x := .none) rfl (wpAny_pure ?_)))
  simp only [if_true]
  refine wpAny_bind (wpAny_rule (wpAny_bind (wpAny_field cell rfl (x := .ref to) rfl (wpAny_bind (wpAny_setField_rec cell (by simp) fun h1 cell1 s1 => wpAny_bind ?_)))))
  simp only [List.forIn_nil, List.forIn_cons, List.zipIdx_nil, List.zipIdx_cons]
  -- the first
  refine wpAny_bind (wpAny_bind (wpAny_onRaise (wpAny_bind (m := Builtin.SmallTypes.nextOf (.ref a)) (over_draws la hx { s with heap := h1 } _ _ (over_rests _ _ one fun c hc o q => s1.extBut c o ?_ q) fun h2 one2 s2 => wpAny_pure ?_))))
  · rcases List.mem_cons.mp hc with e | e
    · exact e ▸ az
    · exact List.mem_singleton.mp e ▸ lz
  have kept2 : IsPair h2 to u v := s2.extBut _ _ (Ne.symm ato) (s1.extBut _ _ toz kept)
  refine wpAny_bind (wpAny_seqItems kept2 rfl (wpAny_bind (pair_put (s := { s with heap := h2 }) kept2 fun h3 kept3 s3 => wpAny_bind (wpAny_letGo (wpAny_pure ?_)))))
  have kept3 : IsPair h3 to x v := kept3
  -- the second
  have two3 : Over h3 b m ys j t2 := over_rests _ _ two fun c hc o q => by
    have cz : c ≠ z ∧ c ≠ a ∧ c ≠ to := by
      rcases List.mem_cons.mp hc with e | e
      · exact e ▸ ⟨bz, ba, bto⟩
      · exact List.mem_singleton.mp e ▸ ⟨mz, ma, mto⟩
    exact s3.extBut c o cz.2.2 (s2.extBut c o cz.2.1 (s1.extBut c o cz.1 q))
  refine wpAny_bind (wpAny_bind (wpAny_onRaise (wpAny_bind (m := Builtin.SmallTypes.nextOf (.ref b)) (over_draws mb hy { s with heap := h3 } _ _ two3 fun h4 two4 s4 => wpAny_pure ?_))))
  have kept4 : IsPair h4 to x v := s4.extBut _ _ (Ne.symm bto) kept3
  refine wpAny_bind (wpAny_seqItems kept4 rfl (wpAny_bind (pair_put (s := { s with heap := h4 }) kept4 fun h5 kept5 s5 => wpAny_bind (wpAny_letGo (wpAny_pure (wpAny_pure ?_))))))
  have kept5 : IsPair h5 to x y := kept5
  refine wpAny_bind (wpAny_seqItems kept5 rfl (wpAny_bind (wpAny_newTuple (wpAny_bind ?_))))
  -- what came of it
  have size5 : h5.objs.size = s.heap.objs.size := by rw [s5.1, s4.1, s3.1, s2.1, s1.1]
  have cell5 : IsZip h5 z ti to .ellipsis := s5.extBut _ _ (Ne.symm toz) (s4.extBut _ _ (Ne.symm bz) (s3.extBut _ _ (Ne.symm toz) (s2.extBut _ _ (Ne.symm az) cell1)))
  have past5 : Past4 z to a b s.heap h5 := fun c o out q => by
    obtain ⟨c1, c2, c3, c4⟩ := four out
    exact s5.extBut c o c2 (s4.extBut c o c4 (s3.extBut c o c2 (s2.extBut c o c3 (s1.extBut c o c1 q))))
  have one5 : Over h5 a l xs (i + 1) t1 := over_rests _ _ one2 fun c hc o q => by
    have cz : c ≠ to ∧ c ≠ b := by
      rcases List.mem_cons.mp hc with e | e
      · exact e ▸ ⟨ato, Ne.symm ba⟩
      · exact List.mem_singleton.mp e ▸ ⟨lto, lb⟩
    exact s5.extBut c o cz.1 (s4.extBut c o cz.2 (s3.extBut c o cz.1 q))
  have two5 : Over h5 b m ys (j + 1) t2 := over_rests _ _ two4 fun c hc o q => by
    refine s5.extBut c o ?_ q
    rcases List.mem_cons.mp hc with e | e
    · exact e ▸ bto
    · exact List.mem_singleton.mp e ▸ mto
  let pr : Obj := { cls := .type "tuple", data := .seq #[x, y] }
  have zlt := Heap.lt_size cell5
  refine (?_ : wpAny _ _ (Builtin.SmallTypes.ownedTupleHandOut (.ref z) (.ref h5.objs.size)) _ _ _)
  refine wpAny_bind (wpAny_setField_rec (Heap.get?_push_of_some pr cell5) (by simp) fun h6 cell6 s6 => wpAny_setField_rec (s := { s with heap := h6 }) cell6 (by simp) fun h7 cell7 s7 => ?_)
  have up : ∀ c o, c ≠ z → h5.get? c = some o → h7.get? c = some o := fun c o nz q => s7.extBut c o nz (s6.extBut c o nz (Heap.get?_push_of_some pr q))
  have fresh : h7.get? h5.objs.size = some pr := s7.extBut _ _ (Nat.ne_of_gt zlt) (s6.extBut _ _ (Nat.ne_of_gt zlt) (Heap.get?_push_size h5 rfl))
  refine wpAny_pure ⟨_, rfl, wpAny_pure ?_⟩
  rw [size5] at fresh
  show Q (some (.ref h5.objs.size)) _
  rw [size5]
  refine k h7 (Z.moved D (fun c o out q => up c o (four out).1 (past5 c o out q)) ?_ ⟨x, y, up _ _ toz kept5⟩ (over_rests _ _ one5 fun c hc o q => up c o ?_ q) (over_rests _ _ two5 fun c hc o q => up c o ?_ q)) fresh fun c o out q => up c o (four out).1 (past5 c o out q)
  · have := cell7
    rw [size5] at this
    exact this
  · rcases List.mem_cons.mp hc with e | e
    · exact e ▸ az
    · exact List.mem_singleton.mp e ▸ lz
  · rcases List.mem_cons.mp hc with e | e
    · exact e ▸ bz
    · exact List.mem_singleton.mp e ▸ mz
/-- one of the two is at its end -/
theorem zip_stop {Q : Option Value → Shared → Prop} (calm : A.handled = none) (D : ZipParts z ti to a b l m) (Z : ZipAt t1 t2 z ti to a b l m xs ys .none i j s.heap) (hend : xs[i]? = none ∨ (∃ x, xs[i]? = some x) ∧ ys[j]? = none)
    (k : ∀ h', Past4 z to a b s.heap h' → Q none { s with heap := h' }) : wpAny (model prog w) A (pyNext (.ref z)) Q E s := by
  obtain ⟨toz, az, bz, ato, bto, ba⟩ := D.ne
  obtain ⟨lz, lto, la, lb⟩ := four D.ls
  obtain ⟨mz, mto, ma, mb⟩ := four D.ms
  obtain ⟨cell, its, ⟨u, v, kept⟩, one, two⟩ := id Z
  have ty : s.TypeIs (.ref z) "zip" := ⟨_, cell, rfl⟩
  have calm1 : A.in1.handled = none := calm
  -- a StopIteration that has come is the end
  have over : ∀ (h' : Heap) (e : Addr), Past4 z to a b s.heap h' → IsStop h' e →
      wpAny (model prog w) A (do if ← isInstance (.ref e) (.type "StopIteration") then pure none else throw (.ref e)) Q E { s with heap := h' } := fun h' e past st => by
    obtain ⟨o, q, c⟩ := st
    exact wpAny_bind (wpAny_isInstance (T := "StopIteration") (b := true) ⟨o, q, c⟩ isSubtype_stop (wpAny_pure (k h' past)))
  refine wpAny_bind (wpAny_attempt (wpAny_callSpecial?_slot (name := Str.ofString "__next__") ty PySem.F.slot_zip_next (wpAny_call_entry PySem.F.slot_zip_next ty PySem.F.entry_zip_next ?_ (PySem.F.args_zip_next_1 _))))
  refine wpAny_bind (m := field (.ref z) 2) (wpAny_field cell rfl (x := .bool false) rfl (wpAny_bind (m := field (.ref z) 3) (wpAny_field cell rfl (x := .ref ti) rfl (wpAny_bind (wpAny_seqItems its rfl ?_)))))
  refine wpAny_bind (m := Builtin.SmallTypes.ownedTupleIsFree (.ref z)) (wpAny_bind (m := field (.ref z) 0) (wpAny_field cell rfl (x := .none) rfl (wpAny_pure ?_)))
  simp only [if_true]
  refine wpAny_bind (wpAny_rule (wpAny_bind (wpAny_field cell rfl (x := .ref to) rfl (wpAny_bind (wpAny_setField_rec cell (by simp) fun h1 cell1 s1 => wpAny_bind ?_)))))
  simp only [List.forIn_nil, List.forIn_cons, List.zipIdx_nil, List.zipIdx_cons]
  have one1 : Over h1 a l xs i t1 := over_rests _ _ one fun c hc o q => s1.extBut c o (by
    rcases List.mem_cons.mp hc with e | e
    · exact e ▸ az
    · exact List.mem_singleton.mp e ▸ lz) q
  rcases hend with none1 | ⟨⟨x, hx⟩, none2⟩
  · refine wpAny_bind (wpAny_bind (wpAny_onRaise (wpAny_bind (m := Builtin.SmallTypes.nextOf (.ref a)) (over_ends none1 calm1 { s with heap := h1 } _ _ one1 fun h2 e s2 st => ?_))))
    have cell2 : IsZip h2 z ti to .ellipsis := s2 _ _ (Ne.symm az) cell1
    obtain ⟨oe, qe, ce⟩ := st
    have ez : e ≠ z := fun y => by rw [y, cell2] at qe; cases qe; simp at ce
    refine wpAny_setField_rec (s := { s with heap := h2 }) cell2 (by simp) fun h3 _ s3 => over h3 e (fun c o out q => ?_) ⟨oe, s3.extBut _ _ ez qe, ce⟩
    exact s3.extBut c o (four out).1 (s2 c o (four out).2.2.1 (s1.extBut c o (four out).1 q))
  · refine wpAny_bind (wpAny_bind (wpAny_onRaise (wpAny_bind (m := Builtin.SmallTypes.nextOf (.ref a)) (over_draws la hx { s with heap := h1 } _ _ one1 fun h2 one2 s2 => wpAny_pure ?_))))
    have kept2 : IsPair h2 to u v := s2.extBut _ _ (Ne.symm ato) (s1.extBut _ _ toz kept)
    refine wpAny_bind (wpAny_seqItems kept2 rfl (wpAny_bind (pair_put (s := { s with heap := h2 }) kept2 fun h3 kept3 s3 => wpAny_bind (wpAny_letGo (wpAny_pure ?_)))))
    have two3 : Over h3 b m ys j t2 := over_rests _ _ two fun c hc o q => by
      have cz : c ≠ z ∧ c ≠ a ∧ c ≠ to := by
        rcases List.mem_cons.mp hc with e | e
        · exact e ▸ ⟨bz, ba, bto⟩
        · exact List.mem_singleton.mp e ▸ ⟨mz, ma, mto⟩
      exact s3.extBut c o cz.2.2 (s2.extBut c o cz.2.1 (s1.extBut c o cz.1 q))
    refine wpAny_bind (wpAny_bind (wpAny_onRaise (wpAny_bind (m := Builtin.SmallTypes.nextOf (.ref b)) (over_ends none2 calm1 { s with heap := h3 } _ _ two3 fun h4 e s4 st => ?_))))
    have cell4 : IsZip h4 z ti to .ellipsis := s4 _ _ (Ne.symm bz) (s3.extBut _ _ (Ne.symm toz) (s2.extBut _ _ (Ne.symm az) cell1))
    obtain ⟨oe, qe, ce⟩ := st
    have ez : e ≠ z := fun y => by rw [y, cell4] at qe; cases qe; simp at ce
    refine wpAny_setField_rec (s := { s with heap := h4 }) cell4 (by simp) fun h5 _ s5 => over h5 e (fun c o out q => ?_) ⟨oe, s5.extBut _ _ ez qe, ce⟩
    obtain ⟨c1, c2, c3, c4⟩ := four out
    exact s5.extBut c o c1 (s4 c o c4 (s3.extBut c o c2 (s2.extBut c o c3 (s1.extBut c o c1 q))))
/-- the pair is handed to the target -/
theorem zip_given {elts : List Expr} {k : Nat} {pos : Pos} {T : Addr} {Q : Unit → Shared → Prop} (D : ZipParts z ti to a b l m) (Z : ZipAt t1 t2 z ti to a b l m xs ys (rawInt T) i j s.heap)
    (q : ∀ h', ZipAt t1 t2 z ti to a b l m xs ys .none i j h' → Heap.SameBut z s.heap h' → Q () { s with heap := h' }) : wpAny (model prog w) A (letOwnedTupleGo (.Tuple elts k pos) (.ref z) (.ref T)) Q E s := by
  obtain ⟨toz, az, bz, ato, bto, ba⟩ := D.ne
  obtain ⟨u, v, kept⟩ := Z.kept
  refine wpAny_letOwnedTupleGo_zip Z.cell fun h' cell' sb => q h' (Z.moved D (fun c o out y => sb.extBut c o (four out).1 y) cell' ⟨u, v, sb.extBut _ _ toz kept⟩ (over_rests _ _ Z.one fun c hc o y => sb.extBut c o ?_ y) (over_rests _ _ Z.two fun c hc o y => sb.extBut c o ?_ y)) sb
  · rcases List.mem_cons.mp hc with e | e
    · exact e ▸ az
    · exact List.mem_singleton.mp e ▸ (four D.ls).1
  · rcases List.mem_cons.mp hc with e | e
    · exact e ▸ bz
    · exact List.mem_singleton.mp e ▸ (four D.ms).1
/-- zip(t, l) of a tuple and a list is made -/
def zip1 (l : Addr) : Obj := { cls := .type "tuple_iterator", data := .fields #[.ref l, .int 0 0] }
def zip2 (m : Addr) : Obj := { cls := .type "list_iterator", data := .fields #[.ref m, .int 0 0] }
def pairOf (u v : Value) : Obj := { cls := .type "tuple", data := .seq #[u, v] }
def zip5 (ti to : Addr) : Obj := { cls := .type "zip", data := .fields #[.none, .bool false, .bool false, .ref ti, .ref to] }
def zipMade (h : Heap) (l m : Addr) : Heap :=
  ((((h.push (zip1 l)).push (zip2 m)).push (pairOf (.ref h.objs.size) (.ref (h.objs.size + 1)))).push (pairOf .none .none)).push (zip5 (h.objs.size + 2) (h.objs.size + 3))
theorem zip_new_meets (l m : Addr) (xs ys : Array Value) : Meets (Builtin.«zip.__new__» ⟨[.type "zip", .ref l, .ref m], []⟩)
    (fun _ R s => s.heap.IsTuple l xs ∧ s.heap.IsList m ys ∧ R (.ok (.ret (.ref (s.heap.objs.size + 4)))) { s with heap := zipMade s.heap l m }) :=
  .of_wp fun prog w A R s h => by
    obtain ⟨hp, g, d, tk, os⟩ := s; obtain ⟨q1, q2, r⟩ := h; have sub := sub_zip
    have q1' : Heap.IsTuple (Shared.heap ⟨hp, g, d, tk, os⟩) l xs := q1
    have q2' : Heap.IsList (Shared.heap ⟨hp.push { cls := .type "tuple_iterator", data := .fields #[.ref l, .int 0 0] }, g, d, tk, os⟩) m ys := Heap.IsList.push q2 _
    wp_walk using wpAny_pyIter_tuple q1', wpAny_pyIter_list q2'
    refine ⟨_, rfl, ?_⟩
    simp only [Heap.size_push]
    exact r
theorem zip_made {Q : Value → Shared → Prop} (q1 : s.heap.IsTuple l xs) (q2 : s.heap.IsList m ys)
    (k : ∀ h', ZipParts (s.heap.objs.size + 4) (s.heap.objs.size + 2) (s.heap.objs.size + 3) s.heap.objs.size (s.heap.objs.size + 1) l m →
      ZipAt true false (s.heap.objs.size + 4) (s.heap.objs.size + 2) (s.heap.objs.size + 3) s.heap.objs.size (s.heap.objs.size + 1) l m xs ys .none 0 0 h' → (∀ c o, s.heap.get? c = some o → h'.get? c = some o) → Q (.ref (s.heap.objs.size + 4)) { s with heap := h' }) :
    wpAny (model prog w) A (call (.type "zip") [.ref l, .ref m]) Q E s := by
  have lt1 : l < s.heap.objs.size := by obtain ⟨o, q, _⟩ := q1; exact Heap.lt_size q
  have lt2 : m < s.heap.objs.size := by obtain ⟨o, q, _⟩ := q2; exact Heap.lt_size q
  have old : ∀ c o, s.heap.get? c = some o → (zipMade s.heap l m).get? c = some o := fun c o q => Heap.get?_push_of_some _ (Heap.get?_push_of_some _ (Heap.get?_push_of_some _ (Heap.get?_push_of_some _ (Heap.get?_push_of_some _ q))))
  have z1 : (s.heap.push (zip1 l)).objs.size = s.heap.objs.size + 1 := Heap.size_push _ _
  have z2 : ((s.heap.push (zip1 l)).push (zip2 m)).objs.size = s.heap.objs.size + 2 := by rw [Heap.size_push, z1]
  have z3 : (((s.heap.push (zip1 l)).push (zip2 m)).push (pairOf (.ref s.heap.objs.size) (.ref (s.heap.objs.size + 1)))).objs.size = s.heap.objs.size + 3 := by rw [Heap.size_push, z2]
  have z4 : ((((s.heap.push (zip1 l)).push (zip2 m)).push (pairOf (.ref s.heap.objs.size) (.ref (s.heap.objs.size + 1)))).push (pairOf .none .none)).objs.size = s.heap.objs.size + 4 := by rw [Heap.size_push, z3]
  have g1 : (zipMade s.heap l m).get? s.heap.objs.size = some (zip1 l) := Heap.get?_push_of_some _ (Heap.get?_push_of_some _ (Heap.get?_push_of_some _ (Heap.get?_push_of_some _ (Heap.get?_push_size _ rfl))))
  have g2 : (zipMade s.heap l m).get? (s.heap.objs.size + 1) = some (zip2 m) := by rw [← z1]; exact Heap.get?_push_of_some _ (Heap.get?_push_of_some _ (Heap.get?_push_of_some _ (Heap.get?_push_size _ rfl)))
  have g3 : (zipMade s.heap l m).get? (s.heap.objs.size + 2) = some (pairOf (.ref s.heap.objs.size) (.ref (s.heap.objs.size + 1))) := by rw [← z2]; exact Heap.get?_push_of_some _ (Heap.get?_push_of_some _ (Heap.get?_push_size _ rfl))
  have g4 : (zipMade s.heap l m).get? (s.heap.objs.size + 3) = some (pairOf .none .none) := by rw [← z3]; exact Heap.get?_push_of_some _ (Heap.get?_push_size _ rfl)
  have g5 : (zipMade s.heap l m).get? (s.heap.objs.size + 4) = some (zip5 (s.heap.objs.size + 2) (s.heap.objs.size + 3)) := by rw [← z4]; exact Heap.get?_push_size _ rfl
  refine callType_new PySem.F.called_zip (by decide) (PySem.F.typeCall_zip_2 _ _) (PySem.F.newCall_zip_2 _ _) (fun obj => PySem.F.args_object_init_3 obj _ _) PySem.F.entry_zip_new (zip_new_meets l m xs ys) ⟨q1, q2, ⟨_, g5, rfl⟩, k _ ?_ ?_ old⟩
  · have n1 : ∀ i j : Nat, i ≠ j → s.heap.objs.size + i ≠ s.heap.objs.size + j := fun i j h e => h (Nat.add_left_cancel e)
    have out : ∀ c, c < s.heap.objs.size → ∀ i : Nat, c ≠ s.heap.objs.size + i := fun c h i => Nat.ne_of_lt (Nat.lt_of_lt_of_le h (Nat.le_add_right _ _))
    refine ⟨?_, ?_, ?_, ?_⟩
    · simp only [List.nodup_cons, List.mem_cons, List.not_mem_nil, or_false, not_or, not_false_eq_true, List.nodup_nil, and_true]
      exact ⟨⟨n1 4 3 (by decide), n1 4 0 (by decide), n1 4 1 (by decide)⟩, ⟨n1 3 0 (by decide), n1 3 1 (by decide)⟩, n1 0 1 (by decide)⟩
    · simp only [List.mem_cons, List.not_mem_nil, or_false, not_or]
      exact ⟨n1 2 4 (by decide), n1 2 3 (by decide), n1 2 0 (by decide), n1 2 1 (by decide)⟩
    · simp only [List.mem_cons, List.not_mem_nil, or_false, not_or]
      exact ⟨out l lt1 4, out l lt1 3, out l lt1 0, out l lt1 1⟩
    · simp only [List.mem_cons, List.not_mem_nil, or_false, not_or]
      exact ⟨out m lt2 4, out m lt2 3, out m lt2 0, out m lt2 1⟩
  · obtain ⟨o1, y1, r1⟩ := q1
    obtain ⟨o2, y2, r2⟩ := q2
    exact ⟨g5, g3, ⟨_, _, g4⟩, .tup ⟨_, g1, rfl, rfl⟩ ⟨o1, old _ _ y1, r1⟩, .lst ⟨_, g2, rfl, rfl⟩ ⟨o2, old _ _ y2, r2⟩⟩
end

end L2
set_option Elab.async false
set_option linter.all false
set_option maxRecDepth 100000
set_option maxHeartbeats 6000000
namespace L2
open PySem PySem.Spec PyProof.Rows

/-! ### at the layer's states -/
section
variable {X : Cx} {pins : List (Addr × Obj)} {σ : St} {H : Hp} {s : Shared}
/-- the records at ch have turned, a new object has come -/
theorem Inv.drawn {h' : Heap} {t' : Nat} {T : Addr} {o : HO} {ch : List Addr} (I : Inv X pins σ H s) (hch : ∀ b ∈ ch, FpOk X pins H b) (keep : ∀ b ob, b ∉ ch → s.heap.get? b = some ob → h'.get? b = some ob) (fr : s.heap.get? T = none)
    (new : ObjOk X.prog X.w (upd H T o) h' T o) : Inv X pins σ (upd H T o) { s with heap := h', toks := t' } := by
  have hT : H T = none := I.hok.none_of fr
  have nT : ∀ b u, H b = some u → b ≠ T := fun b u e z => by rw [z, hT] at e; cases e
  have nch : ∀ b u, H b = some u → b ∉ ch := fun b u e z => by rw [(hch b z).1] at e; cases e
  refine I.call (ch := ch) (g' := s.gens) (d' := s.drawn) ⟨fun b ob e _ _ hx => keep b ob hx e, fun b ob e _ _ hx => ⟨ob.slots, keep b ob hx e⟩, fun b ob e n hx => ?_, fun b ob e hx => ⟨ob, keep b ob hx e⟩, fun b xs e => ?_, fun b ob xs e => ?_, fun b ps e => ⟨#[], ?_⟩⟩ (fun c u e => ?_) I.bare
    fun b hb => ⟨(hch b hb).2.2.2.1, (hch b hb).2.1, (hch b hb).2.2.2.2.1, (hch b hb).2.2.2.2.2⟩
  · rw [upd_ne (fun z => by rw [z, fr] at e; cases e)]; exact n
  · rw [upd_ne (nT _ _ e)]; exact e
  · rw [upd_ne (nT _ _ e)]; exact e
  · rw [upd_ne (nT _ _ e), e]; simp
  · by_cases z : c = T
    · subst z; rw [upd_same] at e; cases e; exact new
    · rw [upd_ne z] at e
      refine (I.hok c u e).stay (fun d v hd q => keep d v ?_ q) (fun d q => by rw [upd_ne (nT _ _ q)]; exact q) fun d xs q => by rw [upd_ne (nT _ _ q)]; exact q
      rcases hd with y | y
      · rw [y]; exact nch c u e
      · exact nch d _ y
/-- the records at ch have turned -/
theorem Inv.turns {h' : Heap} {t' : Nat} {ch : List Addr} (I : Inv X pins σ H s) (hch : ∀ b ∈ ch, FpOk X pins H b) (keep : ∀ b ob, b ∉ ch → s.heap.get? b = some ob → h'.get? b = some ob) : Inv X pins σ H { s with heap := h', toks := t' } := by
  have nch : ∀ b u, H b = some u → b ∉ ch := fun b u e z => by rw [(hch b z).1] at e; cases e
  refine I.call (ch := ch) (g' := s.gens) (d' := s.drawn) ⟨fun b ob e _ _ hx => keep b ob hx e, fun b ob e _ _ hx => ⟨ob.slots, keep b ob hx e⟩, fun b ob e n hx => n, fun b ob e hx => ⟨ob, keep b ob hx e⟩, fun b xs e => e, fun b ob xs e => e, fun b ps e => ⟨#[], by rw [e]; simp⟩⟩ (fun c u e => ?_) I.bare
    fun b hb => ⟨(hch b hb).2.2.2.1, (hch b hb).2.1, (hch b hb).2.2.2.2.1, (hch b hb).2.2.2.2.2⟩
  refine (I.hok c u e).stay (fun d v hd q => keep d v ?_ q) (fun d q => q) fun d xs q => q
  rcases hd with y | y
  · rw [y]; exact nch c u e
  · exact nch d _ y
end
theorem two_fit : 2 ≤ sizeLine := by decide
/-- pairs of a tuple's items and a list's, both as they stand -/
def Itz (K : PySem.W.Frag) (l m : Addr) : It :=
  ⟨fun i H => ∃ xs ys x y, SqT K H l xs ∧ SqL K H m ys ∧ xs[i]? = some x ∧ ys[i]? = some y,
   fun i H v H' => ∃ T, H T = none ∧ v = .ref T ∧ ∀ xs ys x y, SqT K H l xs → SqL K H m ys → xs[i]? = some x → ys[i]? = some y → H' = upd H T (.tup [x, y]),
   fun i H => ∃ xs ys, SqT K H l xs ∧ SqL K H m ys ∧ (xs.length ≤ i ∨ ys.length ≤ i)⟩
/-- the zip's own records -/
structure ZipRec (z ti to a b l m : Addr) (i : Nat) (h : Heap) : Prop where
  cell : IsZip h z ti to .none
  its : IsPair h ti (.ref a) (.ref b)
  kept : ∃ u v, IsPair h to u v
  one : h.IsTupleIter a l i
  two : h.IsListIter b m i
theorem turn_zip {P : Program} {w : World} {K : PySem.W.Frag} {elts : List Expr} {k : Nat} {pos : Pos} {z ti to a b l m : Addr} (D : ZipParts z ti to a b l m) : Turn P w K (.Tuple elts k pos) (Itz K l m) [z, ti, to, a, b] z (ZipRec z ti to a b l m) where
  mem := by simp
  obj := fun i h R c hc => by
    obtain ⟨u, v, kept⟩ := R.kept
    obtain ⟨o1, q1, _, d1⟩ := R.one
    obtain ⟨o2, q2, _, d2⟩ := R.two
    simp only [List.mem_cons, List.not_mem_nil, or_false] at hc
    rcases hc with rfl | rfl | rfl | rfl | rfl
    · exact ⟨_, R.cell, fun v q => by cases q⟩
    · exact ⟨_, R.its, fun v q => by cases q⟩
    · exact ⟨_, kept, fun v q => by cases q⟩
    · exact ⟨o1, q1, fun v q => by rw [d1] at q; cases q⟩
    · exact ⟨o2, q2, fun v q => by rw [d2] at q; cases q⟩
  keep := fun i h h' R kp => by
    obtain ⟨u, v, kept⟩ := R.kept
    obtain ⟨o1, q1, r1⟩ := R.one
    obtain ⟨o2, q2, r2⟩ := R.two
    exact ⟨kp z (by simp) _ R.cell, kp ti (by simp) _ R.its, ⟨u, v, kp to (by simp) _ kept⟩, ⟨o1, kp a (by simp) _ q1, r1⟩, ⟨o2, kp b (by simp) _ q2, r2⟩⟩
  item := by
    intro X hP hw hK hc i pins s σ H E I hf R go
    subst hP hw hK
    obtain ⟨xs, ys, x, y, sx, sy, hx, hy⟩ := go
    obtain ⟨its1, v1, p1, _⟩ := I.tuple sx
    obtain ⟨its2, v2, p2, _⟩ := I.list sy
    obtain ⟨ux, gx, rx⟩ := v1.get hx
    obtain ⟨uy, gy, ry⟩ := v2.get hy
    have Z : ZipAt true false z ti to a b l m its1.toArray its2.toArray .none i i s.heap := ⟨R.cell, R.its, R.kept, .tup R.one p1, .lst R.two p2.isList⟩
    have fr : s.heap.get? s.heap.objs.size = none := Heap.get?_none_of_le (Nat.le_refl _)
    have there : ∀ c ∈ [z, ti, to, a, b], ∃ o, s.heap.get? c = some o := fun c hc => by
      obtain ⟨u, v, kept⟩ := R.kept
      obtain ⟨o1, q1, _⟩ := R.one
      obtain ⟨o2, q2, _⟩ := R.two
      simp only [List.mem_cons, List.not_mem_nil, or_false] at hc
      rcases hc with e | e | e | e | e <;> rw [e]
      · exact ⟨_, R.cell⟩
      · exact ⟨_, R.its⟩
      · exact ⟨_, kept⟩
      · exact ⟨_, q1⟩
      · exact ⟨_, q2⟩
    have h4 : ∀ c ∈ [z, to, a, b], FpOk X pins H c := fun c hc => hf c (by simp at hc ⊢; rcases hc with r | r | r | r <;> simp [r])
    refine zip_draw D Z (x := ux) (y := uy) (by simpa using gx) (by simpa using gy) fun h1 Z1 pr past => ⟨.ref s.heap.objs.size, rfl, zip_given D (s := { s with heap := h1 }) Z1 fun h2 Z2 sb => ?_⟩
    have zlt : s.heap.objs.size ≠ z := Nat.ne_of_gt (Heap.lt_size R.cell)
    have pr2 : IsPair h2 s.heap.objs.size ux uy := sb.extBut _ _ zlt pr
    refine ⟨.ref s.heap.objs.size, upd H s.heap.objs.size (.tup [x, y]), Inv.drawn (h' := h2) (t' := s.toks) (ch := [z, to, a, b]) (s := s) I h4 (fun c o out q => sb.extBut c o (four out).1 (past c o out q)) fr ⟨two_fit, [ux, uy], .cons rx (.cons ry .nil), ⟨_, pr2, rfl, _, rfl⟩⟩, rfl, ⟨_, I.hok.none_of fr, rfl, fun xs' ys' x' y' sx' sy' hx' hy' => ?_⟩, ?_, fun c hc => ?_⟩
    · have e1 := I.tuple_inj sx' sx
      have e2 := I.list_inj sy' sy
      subst e1; subst e2
      rw [hx] at hx'; rw [hy] at hy'
      cases hx'; cases hy'; rfl
    · refine ⟨Z2.cell, Z2.its, Z2.kept, ?_, ?_⟩
      · cases Z2.one with
        | tup q _ => exact q
      · cases Z2.two with
        | lst q _ => exact q
    · obtain ⟨o, q⟩ := there c hc
      rw [upd_ne (fun e => by rw [e, fr] at q; cases q)]
      exact (hf c hc).1
  done := by
    intro X hP hw hK hc i pins s σ H E I hf R stop
    subst hP hw hK
    obtain ⟨xs, ys, sx, sy, le⟩ := stop
    obtain ⟨its1, v1, p1, _⟩ := I.tuple sx
    obtain ⟨its2, v2, p2, _⟩ := I.list sy
    have Z : ZipAt true false z ti to a b l m its1.toArray its2.toArray .none i i s.heap := ⟨R.cell, R.its, R.kept, .tup R.one p1, .lst R.two p2.isList⟩
    have h4 : ∀ c ∈ [z, to, a, b], FpOk X pins H c := fun c hc => hf c (by simp at hc ⊢; rcases hc with r | r | r | r <;> simp [r])
    have l1 := v1.length
    have l2 := v2.length
    have hend : its1.toArray[i]? = none ∨ (∃ x, its1.toArray[i]? = some x) ∧ its2.toArray[i]? = none := by
      by_cases q : its1.length ≤ i
      · exact .inl (by simp [q])
      · exact .inr ⟨⟨its1[i]'(by omega), by simp⟩, by simp; omega⟩
    exact zip_stop (I.ok.hd hc) D Z hend fun h' past => ⟨rfl, I.turns (t' := s.toks) h4 past⟩
  self := fun _ _ _ _ _ R q => wpAny_pyIter_zip R.cell q
end L2
set_option Elab.async false
set_option linter.all false
set_option maxRecDepth 100000
set_option maxHeartbeats 6000000
namespace L2
open PySem PySem.Spec PyProof.Rows

/-! ## D. builtins at the layer's states -/
section
variable {X : Cx}
/-- for a, b in zip(tuple, list) -/
def iZip (K : PySem.W.Frag) (ta : TA) : TI := fun σ H R => ta σ H fun vs H1 => ∃ l m xs ys, vs = [.ref l, .ref m] ∧ SqT K H1 l xs ∧ SqL K H1 m ys ∧ R (Itz K l m) H1
theorem pi_zip {e1 e2 : Expr} {elts : List Expr} {k : Nat} {tp p pos : Pos} {ta : TA} (hg : Gl X "zip") (hm : X.mg "zip" = none) (ha : PA X [e1, e2] ta)
    (st1 : starEach [e1, e2] X.env = [(false, eval e1 X.env), (false, eval e2 X.env)] := by rfl) (st2 : starEach [e2] X.env = [(false, eval e2 X.env)] := by rfl) :
    PI X (.Tuple elts k tp) (.Call (.Name "zip" p) [e1, e2] [] pos) (iZip X.K ta) := by
  intro pins s σ H R I h
  refine Call_ (ld_blt I hg hm boot_zip (PyProof.Rows.callWith_type1 (thn (ha pos pins s σ H _ I h) fun us a ⟨vs, H1, I1, r, q⟩ => ?_) (by rw [st1, st2]) (by rw [st2]; rfl)))
  obtain ⟨l, m, xs, ys, e, sx, sy, q⟩ := q
  subst e
  obtain ⟨u1, u2, e, r1, r2⟩ := Vals.two r
  subst e
  cases r1; cases r2
  obtain ⟨its1, v1, p1, _⟩ := I1.tuple sx
  obtain ⟨its2, v2, p2, _⟩ := I1.list sy
  refine zip_made p1 p2.isList fun h' D Z old => ?_
  have I2 : Inv X pins σ H1 { a with heap := h' } := I1.kept (t' := a.toks) old
  refine wpAny_pyIter_zip (s := { a with heap := h' }) Z.cell ⟨_, [a.heap.objs.size + 4, a.heap.objs.size + 2, a.heap.objs.size + 3, a.heap.objs.size, a.heap.objs.size + 1], _, _, H1, rfl, I2, turn_zip D, ⟨Z.cell, Z.its, Z.kept, ?_, ?_⟩, fun b hb => ?_, q⟩
  · cases Z.one with
    | tup q _ => exact q
  · cases Z.two with
    | lst q _ => exact q
  · have le : a.heap.objs.size ≤ b := by
      have hb5 : b = a.heap.objs.size + 4 ∨ b = a.heap.objs.size + 2 ∨ b = a.heap.objs.size + 3 ∨ b = a.heap.objs.size ∨ b = a.heap.objs.size + 1 := by simpa using hb
      rcases hb5 with e | e | e | e | e <;> rw [e] <;> first | exact Nat.le_add_right _ _ | exact Nat.le_refl _
    have f := I1.fpOk (H' := H1) le (I1.hok.fresh le)
    exact f
/-- over a tuple and a list that the body leaves as they are; each turn brings a new pair -/
theorem for_zip {K : PySem.W.Frag} {l m : Addr} {xs ys : List V} {g : TG} {tb : TS} {D : Ends} {σ : St} {H : Hp} (Pv : Nat → St → Hp → Prop) (len : xs.length = ys.length) (h0 : Pv 0 σ H) (hl : ∀ i σ H, i ≤ xs.length → Pv i σ H → SqT K H l xs ∧ SqL K H m ys)
    (hs : ∀ i x y T σ H, xs[i]? = some x → ys[i]? = some y → Pv i σ H → H T = none → g (.ref T) σ (upd H T (.tup [x, y])) fun σ2 H2 => tb { D with nx := Pv (i + 1), ct := Pv (i + 1), bk := D.nx } σ2 H2) (hd : ∀ σ H, Pv xs.length σ H → D.nx σ H) :
    ∃ W : Nat → Nat → St → Hp → Prop, (∃ k, W 0 k σ H) ∧ ∀ i k σ H, W i k σ H →
      ((Itz K l m).stop i H ∧ D.nx σ H) ∨ ((Itz K l m).go i H ∧ ∃ N : St → Hp → Prop, (∀ σ' H', N σ' H' → ∃ k', k' < k ∧ W (i + 1) k' σ' H') ∧ ∀ x H', (Itz K l m).yld i H x H' → g x σ H' fun σ2 H2 => tb { D with nx := N, ct := N, bk := D.nx } σ2 H2) := by
  refine ⟨fun i k σ H => k = xs.length - i ∧ i ≤ xs.length ∧ Pv i σ H, ⟨xs.length, by simp, Nat.zero_le _, h0⟩, ?_⟩
  rintro i k σ H ⟨rfl, hi, p⟩
  obtain ⟨q1, q2⟩ := hl i σ H hi p
  by_cases lt : i < xs.length
  · have lt2 : i < ys.length := len ▸ lt
    refine .inr ⟨⟨xs, ys, xs[i], ys[i], q1, q2, by simp [lt], by simp [lt2]⟩, Pv (i + 1), fun σ' H' p' => ⟨xs.length - (i + 1), by omega, rfl, lt, p'⟩, fun x H' y => ?_⟩
    obtain ⟨T, hT, rfl, y⟩ := y
    rw [y xs ys xs[i] ys[i] q1 q2 (by simp [lt]) (by simp [lt2])]
    exact hs i xs[i] ys[i] T σ H (by simp [lt]) (by simp [lt2]) p hT
  · have e : i = xs.length := by omega
    subst e
    exact .inl ⟨⟨xs, ys, q1, q2, .inl (Nat.le_refl _)⟩, hd σ H p⟩

/-! ### all(list of bools) -/
theorem bools_at {bs : List Bool} {us : List Value} (r : Vals (bs.map V.bl) us) {i : Nat} {v : Value} (h : us[i]? = some v) : ∃ b, bs[i]? = some b ∧ v = .bool b := by
  cases q : bs[i]? with
  | none =>
    have z := r.none_of (i := i) (by rw [List.getElem?_map, q]; rfl)
    rw [h] at z; cases z
  | some b =>
    obtain ⟨u, hu, ru⟩ := r.get (i := i) (x := .bl b) (by rw [List.getElem?_map, q]; rfl)
    rw [h] at hu; cases hu
    exact ⟨b, rfl, ru⟩
theorem all_range : ∀ bs : List Bool, ((List.range bs.length).all fun i => (bs[i]?).getD true) = bs.all id
  | [] => rfl
  | b :: bs => by
    have ih := all_range bs
    simp only [List.length_cons, List.range_succ_eq_map, List.all_cons, List.all_map, List.getElem?_cons_zero, Option.getD_some]
    exact congrArg (b && ·) ih
theorem call_allB (hc : X.calm = true) : CallR X (.builtin "all") (fun xs H Q => ∃ (p : Addr) (bs : List Bool), xs = [.ref p] ∧ SqL X.K H p (bs.map V.bl) ∧ Q (.bl (bs.all id)) H) := by
  intro pins s σ H xs us Q I r h
  obtain ⟨p, bs, rfl, sq, q⟩ := h
  obtain ⟨u, rfl, rx⟩ := Vals.one r
  cases rx
  obtain ⟨its, rv, pl, _⟩ := I.list sq
  have lt : p < s.heap.objs.size := by obtain ⟨o, e, _⟩ := pl.isList; exact Heap.lt_size e
  have len : its.length = bs.length := by have := rv.length; simpa using this.symm
  refine call_all_walk (wpAny_pyIter_list pl.isList ⟨_, [s.heap.objs.size, p], [s.heap.objs.size], its.toArray.size, _, _, fun i => (bs[i]?).getD true, rfl,
    Walks.list (A := X.A.in1) (I.ok.hd hc) _ p (Nat.ne_of_lt lt) its.toArray, ⟨⟨_, Heap.get?_push_size _ rfl, rfl, rfl⟩, pl.isList.push _⟩, fun i v s' Q' E' hv hq => ?_, fun h' tk keep => ?_⟩)
  · obtain ⟨b, hb, rfl⟩ := bools_at rv (i := i) (v := v) (by simpa using hv)
    have hq : Q' ((bs[i]?).getD true) s' := hq
    rw [hb] at hq
    exact wpAny_truthy_bool hq
  · rw [List.size_toArray, len, all_range]
    refine ⟨.bl _, H, I.kept (h' := h') (t' := tk) fun b o e => keep b o ?_ (Heap.get?_push_of_some _ e), rfl, q⟩
    rw [List.mem_singleton]
    exact Nat.ne_of_lt (Heap.lt_size e)

/-! ### isinstance(x, C) for one class, not of an exception -/
theorem call_isinst : CallR X (.builtin "isinstance") (fun xs H Q => ∃ x c cv t b, xs = [x, c] ∧ (c = .ref cv ∧ PySem.W.kitOne X.K t (.ref cv) = some b) ∧ TyOf X.K H x t ∧ Q (.bl b) H) := by
  intro pins s σ H xs us Q I r h
  obtain ⟨x, c, cv, t, b, rfl, ⟨rfl, e⟩, ty, q⟩ := h
  obtain ⟨u, v, rfl, rx, rc⟩ := Vals.two r
  cases rc
  exact isinst_ok I rx ty e fun tk => ⟨.bl b, H, I.tok tk, rfl, q⟩
theorem call_isinstT : CallR X (.builtin "isinstance") (fun xs H Q => ∃ x T t b, xs = [x, .ty T] ∧ PySem.W.kitOne X.K t (.type T) = some b ∧ TyOf X.K H x t ∧ Q (.bl b) H) := by
  intro pins s σ H xs us Q I r h
  obtain ⟨x, T, t, b, rfl, e, ty, q⟩ := h
  obtain ⟨u, v, rfl, rx, rc⟩ := Vals.two r
  cases rc
  exact isinst_ok I rx ty e fun tk => ⟨.bl b, H, I.tok tk, rfl, q⟩
end

/-! ### reversed(list) -/
/-- the items of a list of n, from behind -/
def Itv (K : PySem.W.Frag) (a : Addr) (n : Nat) : It :=
  ⟨fun i H => i < n ∧ ∃ xs, SqL K H a xs ∧ xs.length = n, fun i H x H' => H' = H ∧ ∀ xs, SqL K H a xs → xs[n - 1 - i]? = some x, fun i _ => i = n⟩
theorem turn_rev {P : Program} {w : World} {K : PySem.W.Frag} {tg : Expr} (a it : Addr) (n : Nat) : Turn P w K tg (Itv K a n) [it] it (fun i h => i ≤ n ∧ h.IsRevIter it a ((n : Int) - 1 - (i : Int))) where
  mem := by simp
  obj := fun i h st b hb => by
    obtain ⟨o, e, c, d⟩ := st.2
    rw [List.mem_singleton.mp hb]
    exact ⟨o, e, fun v z => by rw [d] at z; cases z⟩
  keep := fun i h h' st k => ⟨st.1, st.2.at fun o e => k it (by simp) o e⟩
  item := by
    intro X hP hw hK hc i pins s σ H E I hf st go
    subst hP hw hK
    obtain ⟨lt, xs, sq, len⟩ := go
    obtain ⟨its, rv, p, hz⟩ := I.list sq
    have lx : n - 1 - i < xs.length := by omega
    obtain ⟨u, hu, ru⟩ := rv.get (i := n - 1 - i) (x := xs[n - 1 - i]) (by simp [lx])
    obtain ⟨f0, f1, f2, f3, f4, f5⟩ := hf it (by simp)
    have st2 := st.2
    have e1 : (n : Int) - 1 - (i : Int) = ((n - 1 - i : Nat) : Int) := by omega
    rw [e1] at st2
    refine wpAny_pyNext_rev_item st2 p.isList (x := u) (by simpa using hu) fun h' st' sb => ?_
    have e2 : ((n - 1 - i : Nat) : Int) - 1 = (n : Int) - 1 - ((i + 1 : Nat) : Int) := by omega
    rw [e2] at st'
    have I1 : Inv X pins σ H { s with heap := h' } := I.turned (t' := s.toks) (fun b o hb e => (sb.2 b hb).trans e) f0 f1 f3 f4 f5
    obtain ⟨o, e, c, d⟩ := id st'
    exact ⟨u, rfl, go_of (s := { s with heap := h' }) e c d (by decide) ⟨xs[n - 1 - i], H, I1, ru, ⟨rfl, fun ys hy => by rw [I.list_inj hy sq]; simp [lx]⟩, ⟨by omega, st'⟩, fun b hb => (hf b hb).1⟩⟩
  done := by
    intro X hP hw hK hc i pins s σ H E I hf st stop
    subst hP hw hK
    have e : i = n := stop
    subst e
    obtain ⟨f0, f1, f2, f3, f4, f5⟩ := hf it (by simp)
    have st2 := st.2
    have e1 : (i : Int) - 1 - (i : Int) = -1 := by omega
    rw [e1] at st2
    exact wpAny_pyNext_rev_end (I.ok.hd hc) st2 fun h' eb => ⟨rfl, I.turned (t' := s.toks) (fun b o hb e => eb b o hb e) f0 f1 f3 f4 f5⟩
  self := fun _ _ _ _ _ st h => wpAny_pyIter_revIter st.2 h
section
variable {X : Cx}
def iRev (K : PySem.W.Frag) (ta : TA) : TI := fun σ H R => ta σ H fun vs H1 => ∃ l xs, vs = [.ref l] ∧ SqL K H1 l xs ∧ R (Itv K l xs.length) H1
theorem pi_rev {tg e : Expr} {p pos : Pos} {ta : TA} (hg : Gl X "reversed") (hm : X.mg "reversed" = none) (ha : PA X [e] ta) (st : starEach [e] X.env = [(false, eval e X.env)] := by rfl) :
    PI X tg (.Call (.Name "reversed" p) [e] [] pos) (iRev X.K ta) := by
  intro pins s σ H R I h
  refine Call_ (ld_blt I hg hm boot_reversed (PyProof.Rows.callWith_type1 (thn (ha pos pins s σ H _ I h) fun us a ⟨vs, H1, I1, r, q⟩ => ?_) st rfl))
  obtain ⟨l, xs, e, sq, q⟩ := q
  subst e
  obtain ⟨u, e, r1⟩ := Vals.one r
  subst e
  cases r1
  obtain ⟨its, rv, p, _⟩ := I1.list sq
  have len := rv.length
  refine call_reversed_list p.isList ?_
  have at0 : (a.heap.push (revObj l ((its.toArray.size : Int) - 1))).IsRevIter a.heap.objs.size l ((xs.length : Int) - 1 - ((0 : Nat) : Int)) := ⟨_, Heap.get?_push_size _ rfl, rfl, by simp [revObj, len]⟩
  refine wpAny_pyIter_revIter at0 ⟨_, [a.heap.objs.size], _, _, H1, rfl, I1.kept (t' := a.toks) fun b o e => Heap.get?_push_of_some _ e, turn_rev l _ xs.length, ⟨Nat.zero_le _, at0⟩, fun b hb => ?_, q⟩
  rw [List.mem_singleton.mp hb]
  exact I1.fpOk (Nat.le_refl _) (I1.hok.fresh (Nat.le_refl _))
end
end L2
set_option Elab.async false
set_option linter.all false
set_option maxRecDepth 100000
set_option maxHeartbeats 6000000
namespace L2
open PySem PySem.Spec PyProof.Rows
/-! ## E. short words: a def that may raise -/
section
variable {P : Program} {w : World} {K : PySem.W.Frag} {mg : Str → Option Value} {base : Heap} {x qual : Str} {st : Stmt} {f : Addr} {fd : FuncData} {N ps : List Str} {k : Nat} {sp : Sp}
theorem Fun.okX (F : Fun K x qual st f fd) (S : FnScope N ps (defScope st)) (len : ∀ vs H Q E, sp vs H Q E → vs.length = ps.length)
    (body : ∀ (cdv : Value) (A : Around) (outer : List Env) (s : Shared) (H : Hp) (vs : List V) (Q : VK) (E : XK), Room k (A.deeper (envOfC qual (defScope st) s.heap.objs.size f cdv)) → sp vs H Q E →
      ∃ t, PSs (cxOf (CXg P w) P w K mg base N qual (defScope st) f cdv A outer s H E) (defBody st) t ∧ t { nx := fun _ H' => Q .non H', rt := Q } (start N vs) H) : FnOk P w K mg base (CXg P w) (k + 1) f fd ps sp := by
  obtain ⟨oc, od, kV, doc, pm, an, cdv, ct, osl, rfl, lk, hcd⟩ := F.ex
  exact fn_of lk hcd S len fun A outer s H vs Q E hr h => body cdv A outer s H vs Q E hr h
/-- the same where an exception may be at hand -/
theorem Fun.okH (F : Fun K x qual st f fd) (S : FnScope N ps (defScope st)) (len : ∀ vs H Q E, sp vs H Q E → vs.length = ps.length)
    (body : ∀ (cdv : Value) (A : Around) (outer : List Env) (s : Shared) (H : Hp) (vs : List V) (Q : VK) (E : XK), RoomH k (A.deeper (envOfC qual (defScope st) s.heap.objs.size f cdv)) → sp vs H Q E →
      ∃ t, PSs (cxOfH (CXg P w) P w K mg base N qual (defScope st) f cdv A outer s H E) (defBody st) t ∧ t { nx := fun _ H' => Q .non H', rt := Q } (start N vs) H) : FnOkH P w K mg base (CXg P w) (k + 1) f fd ps sp := by
  obtain ⟨oc, od, kV, doc, pm, an, cdv, ct, osl, rfl, lk, hcd⟩ := F.ex
  exact fn_ofH lk hcd S len fun A outer s H vs Q E hr h => body cdv A outer s H vs Q E hr h
end
/-- a built-in type's name, as a value -/
theorem pe_type {X : Cx} {x : Str} {T : String} {pos : Pos} (hg : Gl X x) (hm : X.mg x = none) (hv : bootBuiltins x = some (.type T)) (hn : x ≠ "__name__" := by decide) (hd : (x == ("__debug__" : Str)) = false := by decide) : PE X (.Name x pos) (tC (.ty T)) :=
  pe_bltn hg hm hv rfl hn hd
/-- of which type a value is, as far as numbers go -/
def Typed (K : PySem.W.Frag) (H : Hp) (v : V) : Prop := ∃ t, TyOf K H v t ∧ match v with
  | .int _ => True
  | .bl _ => True
  | _ => PySem.W.kitOne K t (.type "bool") = some false ∧ PySem.W.kitOne K t (.type "int") = some false
def wholeV (v : V) (l m : Int) : Bool := match v with
  | .int i => decide (l ≤ i) && decide (i ≤ m)
  | _ => false
/-! ### the signs of a text, one after another -/
def Its (x : Str) : It := ⟨fun i _ => i < x.cps.size, fun i H v H' => H' = H ∧ ∃ c, x.cps[i]? = some c ∧ v = .str ⟨#[c]⟩, fun i _ => i = x.cps.size⟩
theorem turn_str {P : Program} {w : World} {K : PySem.W.Frag} {n ty : Str} {np : Pos} {k : String} (x : Str) (t : Tok) (it : Addr)
    (W : ∀ A : Around, A.handled = none → Walks P w A it [it] [it] x.cps.size (SignAt x) (fun i h => h.IsStrIter it k x t i))
    (self : ∀ (A : Around) (i : Nat) (s : Shared) (Q : Value → Shared → Prop) (E : Value → Shared → Prop), s.heap.IsStrIter it k x t i → Q (.ref it) s → wpAny (model P w) A (pyIter (.ref it)) Q E s) :
    Turn P w K (.Name n np) (Its x) [it] it (fun i h => h.IsStrIter it k x t i) where
  mem := by simp
  obj := fun i h st b hb => by
    obtain ⟨o, e, c, d⟩ := st
    rw [List.mem_singleton.mp hb]
    exact ⟨o, e, fun v z => by rw [d] at z; cases z⟩
  keep := fun i h h' st kp => by
    obtain ⟨o, e, r⟩ := st
    exact ⟨o, kp it (by simp) o e, r⟩
  item := by
    intro X hP hw hK hc i pins s σ H E I hf st go
    subst hP hw hK
    obtain ⟨f0, f1, f2, f3, f4, f5⟩ := hf it (by simp)
    refine (W X.A (I.ok.hd hc)).item i s _ _ go st fun v h' tk sg st' kk => ?_
    obtain ⟨c, u, hx, rfl⟩ := sg
    have I1 : Inv X pins σ H { s with heap := h', toks := tk } := I.turned (fun b o hb e => kk b o (by simpa using hb) e) f0 f1 f3 f4 f5
    exact ⟨_, rfl, wpAny_pure ⟨.str ⟨#[c]⟩, H, I1, ⟨u, rfl⟩, ⟨rfl, c, hx, rfl⟩, st', fun b hb => (hf b hb).1⟩⟩
  done := by
    intro X hP hw hK hc i pins s σ H E I hf st stop
    subst hP hw hK
    have e : i = x.cps.size := stop
    subst e
    obtain ⟨f0, f1, f2, f3, f4, f5⟩ := hf it (by simp)
    exact (W X.A (I.ok.hd hc)).done s _ _ st fun h' tk kk => ⟨rfl, I.turned (fun b o hb e => kk b o (by simpa using hb) e) f0 f1 f3 f4 f5⟩
  self := fun A i s Q E st h => self A i s Q E st h
section
variable {X : Cx}
def iStr (tl : TE) : TI := fun σ H R => tl σ H fun v H1 => ∃ x, v = .str x ∧ R (Its x) H1
theorem pi_str {n : Str} {np : Pos} {l : Expr} {tl : TE} (hl : PE X l tl) : PI X (.Name n np) l (iStr tl) := by
  intro pins s σ H R I h
  refine thn (hl pins s σ H _ I h) fun v a ⟨y, H1, I1, r1, x, e, q⟩ => ?_
  subst e
  obtain ⟨t, rfl⟩ := r1
  have I2 : ∀ o, Inv X pins σ H1 { a with heap := a.heap.push o } := fun o => I1.kept (t' := a.toks) fun b ob e => Heap.get?_push_of_some _ e
  have fp : ∀ b ∈ [a.heap.objs.size], FpOk X pins H1 b := fun b hb => by
    rw [List.mem_singleton.mp hb]
    exact I1.fpOk (Nat.le_refl _) (I1.hok.fresh (Nat.le_refl _))
  cases ha : x.cps.all (· < 128) with
  | false => exact wpAny_pyIter_wide ha ⟨_, [a.heap.objs.size], _, _, H1, rfl, I2 _, turn_str (ty := n) x t _ (fun A hA => Walks.strWide hA _ x t) (fun A i s Q E st q => wpAny_pyIter_striter_wide st q), ⟨_, Heap.get?_push_size _ rfl, rfl, rfl⟩, fp, q⟩
  | true => exact wpAny_pyIter_ascii ha ⟨_, [a.heap.objs.size], _, _, H1, rfl, I2 _, turn_str (ty := n) x t _ (fun A hA => Walks.strAscii hA _ x t) (fun A i s Q E st q => wpAny_pyIter_striter_ascii st q), ⟨_, Heap.get?_push_size _ rfl, rfl, rfl⟩, fp, q⟩
/-- texts compared by <= -/
theorem op_le_str : OpR X (compareOp .LtE) (fun x y H Q => ∃ i j, x = .str i ∧ y = .str j ∧ Q (.bl (!decide (j.cps.toList < i.cps.toList))) H) := by
  intro pins s σ H x y v u Q I rx ry h
  obtain ⟨i, j, rfl, rfl, q⟩ := h
  obtain ⟨t, rfl⟩ := rx
  obtain ⟨t', rfl⟩ := ry
  exact PySem.P.le_str ⟨.bl _, H, I, rfl, q⟩
end
/-! ### comprehensions over what stays: by the items -/
/-- a comprehension without a test, over J of n turns whose i-th item is x i; each element is y i, and the heap keeps what P says -/
theorem comp_map {D : Addr} {J : It} {σ0 : St} {g : TG} {te : TE} {Qe : Hp → Prop} {H1 : Hp} (n : Nat) (hn : n ≤ sizeLine) (y : Nat → V) (Pv : Nat → Hp → Prop)
    (start : Pv 0 (upd H1 D (.lst [])))
    (at_ : ∀ i H, i ≤ n → Pv i H → H D = some (.lst ((List.range i).map y)))
    (stop : ∀ H, Pv n H → J.stop n H ∧ Qe H)
    (go : ∀ i H, i < n → Pv i H → J.go i H ∧ ∀ x H', J.yld i H x H' → g x σ0 H' fun σ2 H2 => KeepS σ0 σ2 ∧ te σ2 H2 fun v H3 => v = y i ∧ H3 D = some (.lst ((List.range i).map y)) ∧ Pv (i + 1) (upd H3 D (.lst ((List.range (i + 1)).map y))))
    (gmono : ∀ x σ H' (Q Q' : St → Hp → Prop), (∀ σ2 H2, Q σ2 H2 → Q' σ2 H2) → g x σ H' Q → g x σ H' Q')
    (tmono : ∀ σ H' (Q Q' : VK), (∀ v H2, Q v H2 → Q' v H2) → te σ H' Q → te σ H' Q') :
    ∃ W : Nat → Nat → List V → Hp → Prop, (∃ m, W 0 m [] (upd H1 D (.lst []))) ∧ compW D J σ0 g tYes te Qe W := by
  refine ⟨fun i m ac H => i ≤ n ∧ m = n - i ∧ ac = (List.range i).map y ∧ Pv i H, ⟨n, Nat.zero_le _, rfl, rfl, start⟩, ?_⟩
  rintro i m ac H ⟨le, rfl, rfl, p⟩
  refine ⟨at_ i H le p, ?_⟩
  by_cases lt : i < n
  · obtain ⟨g1, step⟩ := go i H lt p
    refine .inr ⟨g1, by rw [List.length_map, List.length_range]; exact Nat.lt_of_lt_of_le lt hn, fun x H' yl => gmono _ _ _ _ _ (fun σ2 H2 q => ⟨q.1, ?_⟩) (step x H' yl)⟩
    simp only [tYes, if_true]
    refine tmono _ _ _ _ (fun v H3 r => ?_) q.2
    obtain ⟨rfl, hD, nx⟩ := r
    have e : (List.range i).map y ++ [y i] = (List.range (i + 1)).map y := by rw [List.range_succ, List.map_append]; rfl
    exact ⟨hD, n - (i + 1), by omega, lt, rfl, e, by rw [e]; exact nx⟩
  · have e : i = n := by omega
    subst e
    exact .inl (stop H p)
theorem gName_mono {i : Nat} : ∀ x σ H' (Q Q' : St → Hp → Prop), (∀ σ2 H2, Q σ2 H2 → Q' σ2 H2) → gName i x σ H' Q → gName i x σ H' Q' := fun _ _ _ _ _ h q => h _ _ q
end L2
set_option Elab.async false
set_option linter.all false
set_option maxRecDepth 100000
set_option maxHeartbeats 1000000
namespace L2
open PySem PySem.Spec PyProof.Rows
/-! ## F. isinstance of an exception -/
/-- an own exception class, as isinstance sees its instances -/
structure ExT (K : PySem.W.Frag) (C : Addr) : Prop where
  ga : PySem.W.findIn K (.ref C) "__getattribute__" = some (some (.builtin "BaseException.__getattribute__"))
  hk : PySem.W.findIn K (.ref C) "__getattr__" = some none
  cls : (PySem.W.clsIn K C).isSome = true
  at_ : PySem.W.findIn K (.ref C) "__class__" = some (some (.builtin "object.__class__"))
  gt : PySem.W.specialIn K (.builtin "object.__class__") "__get__" = some (some (.builtin "getset_descriptor.__get__"))
  tk : PySem.W.takesIn K (.builtin "object.__class__") = some true
  ob : PySem.W.mroIn K C (.type "object") = some true
  be : PySem.W.subIn K (.ref C) (.type "BaseException") = some true
section
variable {prog : Program} {w : World} {A : Around} {E : Value → Shared → Prop} {s : Shared} {K : PySem.W.Frag} {e C : Addr} {oe : Obj} {od : Option Obj}
theorem exc_reads {tk : Tok} {Q : Fin → Shared → Prop} (k : K.In s.heap) (t : ExT K C) (I : PySem.W.InstAt s.heap e oe C od) (h : Q (.done (.ret (.ref C))) s) :
    wpAny (model prog w) A (Builtin.«object.__getattribute__» ⟨[.ref e, .str "__class__" tk], []⟩) Q E s := by
  obtain ⟨h0, g0, d0, tt, o0⟩ := s
  have ht := I.type (M := model prog w)
  have hf : PySem.W.findObj K C od "__class__" = some (.bind (.builtin "getset_descriptor.__get__") (.builtin "object.__class__")) :=
    by obtain ⟨cd, hc⟩ := Option.isSome_iff_exists.mp t.cls; simp only [PySem.W.findObj, hc, Option.bind_some, t.at_, t.gt, t.tk]
  have lf := PySem.W.looks_find (M := model prog w) k I hf
  (unfold Builtin.«object.__getattribute__»; refine wpAny_bind (wpAny_pure (wpAny_bind (wpAny_pure (wpAny_bind (ht.at (wpAny_bind (lf.at ?_))))))))
  show wpAny _ _ (holding [Value.builtin "object.__class__"] (call (.builtin "getset_descriptor.__get__") [.builtin "object.__class__", .ref e, .ref C]) >>= ret) _ _ _
  refine wpAny_bind (wpAny_holding (wpAny_call ?_))
  refine PySem.W.class_get (s := ⟨h0, g0, d0, tt, o0⟩) k I t.ob ?_
  show wpAny (model prog w) A (ret (Value.ref C)) Q E _
  exact wpAny_pure h
theorem exc_class {Q : Option Value → Shared → Prop} (k : K.In s.heap) (t : ExT K C) (I : PySem.W.InstAt s.heap e oe C od) (h : Q (some (.ref C)) { s with toks := s.toks + 1 }) :
    wpAny (model prog w) A (getAttr? (.ref e) "__class__") Q E s := by
  obtain ⟨h0, g0, d0, tt, o0⟩ := s
  have ht := I.type (M := model prog w)
  have lg := PySem.W.looks_findIn (M := model prog w) k t.ga
  have lk := PySem.W.looks_findIn (M := model prog w) k t.hk
  have isB : PySem.W.Looks (model prog w) h0 (isInstance (.ref e) (.type "BaseException")) true := ht.andThen (PySem.W.looks_subIn k t.be)
  (unfold getAttr? getAttrBy? getAttrBy; refine wpAny_bind (wpAny_mkText (wpAny_bind (wpAny_attempt (wpAny_holding (wpAny_bind (ht.at (wpAny_bind (lg.at ?_)))))))))
  have no : (onTheHeap (Value.ref C) && Value.builtin "BaseException.__getattribute__" == Value.builtin "object.__getattribute__") = false := by
    rw [show (Value.builtin "BaseException.__getattribute__" == Value.builtin "object.__getattribute__") = false by decide +kernel]; rfl
  dsimp only
  rw [no, if_neg Bool.false_ne_true]
  unfold getAttrByItsOwn hookBefore
  rw [if_pos (show onTheHeap (Value.ref C) = true from rfl)]
  refine wpAny_bind (lk.at (wpAny_bind (wpAny_attempt (wpAny_holding ?_))))
  unfold callGetattribute
  rw [Bool.false_and, if_neg Bool.false_ne_true]
  unfold boundAndCalled
  rw [(F.attr_ValueError).ga.bind]
  refine wpAny_bind (wpAny_pure ?_)
  show wpAny _ _ (call (.builtin "BaseException.__getattribute__") [.ref e, .str "__class__" tt]) _ _ _
  refine wpAny_call (codeAny_call_builtin (F.attr_ValueError).ga.plain F.entry_bexc_ga ?_)
  have hB : builtinKind "BaseException.__getattribute__" = some .slot := by decide +kernel
  have hS : splitId "BaseException.__getattribute__" = some ("BaseException", "__getattribute__") := by decide +kernel
  have hA := F.args_bexc_ga (.ref e) (.str "__class__" tt)
  refine @PySem.W.check_slot (model prog w) _ _ ⟨h0, g0, d0, tt + 1, o0⟩ _ _ _ (.ref e) [.str "__class__" tt] [] _ hB hS isB hA ?_
  refine exc_reads (s := ⟨h0, g0, d0, tt + 1, o0⟩) k t I ?_
  show wpAny (model prog w) A (handedOut (Value.ref C)) _ _ _
  exact PySem.W.handed_on rfl (wpAny_pure h)
def ExcIs (e C : Addr) (h : Heap) : Prop := ∃ oe vs, h.get? e = some oe ∧ oe.cls = .ref C ∧ oe.dict = none ∧ oe.data = .fields vs
theorem ExcIs.inst {h : Heap} (x : ExcIs e C h) : ∃ oe, PySem.W.InstAt h e oe C none := by
  obtain ⟨oe, vs, e1, e2, e3, e4⟩ := x
  exact ⟨oe, e1, e2, by unfold PySem.W.notCls; rw [e4], by rw [e3]; trivial⟩
theorem ExT.obj (t : ExT K C) : ∃ c dd cd sl, K.lookup C = some ⟨c, dd, .cls cd, sl⟩ := by
  obtain ⟨cd, hc⟩ := Option.isSome_iff_exists.mp t.cls
  unfold PySem.W.clsIn at hc
  split at hc
  · rename_i c dd cd' sl q
    exact ⟨c, dd, cd', sl, q⟩
  · cases hc
theorem kit_exc (t : ExT K C) : PySem.W.KitX K (.ref e) (.ref C) (ExcIs e C) where
  ty := fun M h k x => by
    obtain ⟨oe, I⟩ := x.inst
    exact I.type
  it := fun M h k x => by
    obtain ⟨c, dd, cd, sl, q⟩ := t.obj
    intro A' Q' E' s' keep hq
    unfold isType loadHead
    exact wpAny_bind (wpAny_loadPart (keep C _ (k C _ q)) (wpAny_pure hq))
  ne := fun h tp dd its n sl k q => by
    obtain ⟨c, d', cd, sl', q'⟩ := t.obj
    cases z : (Value.ref C == Value.ref tp) with
    | false => rfl
    | true =>
      obtain rfl := Value.ref.inj (beq_iff_eq.mp z)
      rw [k C _ q'] at q
      cases q
  ca := fun k x h => by
    obtain ⟨oe, I⟩ := x.inst
    exact exc_class k t I h
end
section
variable {X : Cx}
/-- isinstance(e, c) of an exception in hand -/
theorem call_isE : CallR X (.builtin "isinstance") (fun xs H Q => ∃ e C c cv b, xs = [.ref e, c] ∧ RelV c cv ∧ (∃ C', c = .ref C' ∨ ∃ T, c = .ty T) ∧ H e = some (ExcO e (.ref C) none) ∧ ExT X.K C ∧ PySem.W.kitOne X.K (.ref C) cv = some b ∧ Q (.bl b) H) := by
  intro pins s σ H xs us Q I r h
  obtain ⟨e, C, c, cv, b, rfl, rc, kd, he, t, k1, q⟩ := h
  obtain ⟨u, v, rfl, ru, rv⟩ := Vals.two r
  obtain rfl : u = Value.ref e := ru
  have x : ExcIs e C s.heap := by
    obtain ⟨⟨oe, vs, p⟩, _⟩ := (show ObjOk X.prog X.w H s.heap e (ExcO e (.ref C) none) from I.hok e _ he)
    exact ⟨oe, vs, p⟩
  have ev : v = cv := by
    obtain ⟨C', rfl | ⟨T, rfl⟩⟩ := kd
    · exact rv.trans (Eq.symm rc)
    · exact rv.trans (Eq.symm rc)
  subst ev
  exact PySem.W.kia_one (kit_exc t) I.kIn x k1 (by
    obtain ⟨C', rfl | ⟨T, rfl⟩⟩ := kd
    · intro z; obtain rfl : v = Value.ref C' := rv; cases z
    · intro z; obtain rfl : v = Value.type T := rv; cases z) fun tk => ⟨.bl b, H, I.tok tk, rfl, q⟩
end
end L2
set_option Elab.async false
set_option linter.all false
set_option maxRecDepth 100000
set_option maxHeartbeats 1000000
namespace L2
open PySem PySem.Spec PyProof.Rows
/-! ## G. == of what lies deep; count and index -/
inductive DEq (K : PySem.W.Frag) (H : Hp) : Nat → V → V → Bool → Prop where
  | flat {n : Nat} {x y : V} (fx : flatV x = true) (fy : flatV y = true) : DEq K H n x y (eqV x y)
  | self {n : Nat} {a : Addr} : DEq K H n (.ref a) (.ref a) true
  | tup {n : Nat} {a b : Addr} {xs ys : List V} {e : Nat → Bool} (ne : a ≠ b) (ha : SqT K H a xs) (hb : SqT K H b ys) (h : ∀ (j : Nat) x y, xs[j]? = some x → ys[j]? = some y → DEq K H n x y (e j)) :
      DEq K H (n + 1) (.ref a) (.ref b) ((List.range (min xs.length ys.length)).all e && xs.length == ys.length)
  | lst {n : Nat} {a b : Addr} {xs ys : List V} {e : Nat → Bool} (ne : a ≠ b) (ha : SqL K H a xs) (hb : SqL K H b ys) (len : xs.length = ys.length) (h : ∀ (j : Nat) x y, xs[j]? = some x → ys[j]? = some y → DEq K H n x y (e j)) :
      DEq K H (n + 1) (.ref a) (.ref b) ((List.range xs.length).all e)
  | lstN {n : Nat} {a b : Addr} {xs ys : List V} (ne : a ≠ b) (ha : SqL K H a xs) (hb : SqL K H b ys) (len : xs.length ≠ ys.length) : DEq K H (n + 1) (.ref a) (.ref b) false
theorem Vals.item {xs : List V} {us : List Value} (r : Vals xs us) {j : Nat} (h : j < us.toArray.size) : ∃ x, xs[j]? = some x ∧ RelV x us.toArray[j] := by
  have h' : j < us.length := by simpa using h
  have hx : j < xs.length := by rw [r.length]; exact h'
  obtain ⟨u, e1, e2⟩ := r.get (List.getElem?_eq_getElem hx)
  refine ⟨_, List.getElem?_eq_getElem hx, ?_⟩
  rw [List.getElem?_eq_getElem h'] at e1
  cases e1
  simpa using e2
theorem DEq.at_ {X : Cx} {pins : List (Addr × Obj)} {σ : St} {H : Hp} {s : Shared} (I : Inv X pins σ H s) {n : Nat} {x y : V} {b : Bool} (d : DEq X.K H n x y b) :
    ∀ (A : Around) (u v : Value), A.units + n < cLine → RelV x u → RelV y v → SeqAt.EqAt A s u v b := by
  induction d with
  | flat fx fy => exact fun A u v _ ru rv => eqAt_V ru rv fx fy
  | self =>
    intro A u v _ ru rv
    cases ru
    cases rv
    exact SeqAt.EqAt.same _
  | tup ne ha hb _ ih =>
    intro A u v hu ru rv
    cases ru
    cases rv
    obtain ⟨us, r1, p1, _⟩ := I.tuple ha
    obtain ⟨vs, r2, p2, _⟩ := I.tuple hb
    have w := SeqAt.RcAt.tuples (A := A) p1 p2 (by omega) fun j h1 h2 => by
      obtain ⟨x, ex, rx⟩ := r1.item h1
      obtain ⟨y, ey, ry⟩ := r2.item h2
      exact ih j x y ex ey A.in1 _ _ (by rw [show ∀ A : Around, A.in1.units = A.units + 1 from fun _ => rfl]; omega) rx ry
    rw [List.size_toArray, List.size_toArray, ← r1.length, ← r2.length] at w
    exact SeqAt.EqAt.of_refs ne w
  | lst ne ha hb len _ ih =>
    intro A u v hu ru rv
    cases ru
    cases rv
    obtain ⟨us, r1, p1, _⟩ := I.list ha
    obtain ⟨vs, r2, p2, _⟩ := I.list hb
    have w := SeqAt.RcAt.lists (A := A) p1.isList p2.isList (by rw [List.size_toArray, List.size_toArray, ← r1.length, ← r2.length, len]) (by omega) fun j h1 h2 => by
      obtain ⟨x, ex, rx⟩ := r1.item h1
      obtain ⟨y, ey, ry⟩ := r2.item h2
      exact ih j x y ex ey A.in1 _ _ (by rw [show ∀ A : Around, A.in1.units = A.units + 1 from fun _ => rfl]; omega) rx ry
    rw [List.size_toArray, ← r1.length] at w
    exact SeqAt.EqAt.of_refs ne w
  | lstN ne ha hb len =>
    intro A u v hu ru rv
    cases ru
    cases rv
    obtain ⟨us, r1, p1, _⟩ := I.list ha
    obtain ⟨vs, r2, p2, _⟩ := I.list hb
    refine SeqAt.EqAt.of_refs ne (SeqAt.RcAt.lists_lengths p1.isList p2.isList ?_ (by omega))
    rw [List.size_toArray, List.size_toArray, ← r1.length, ← r2.length]
    simpa using len
section
variable {X : Cx}
/-- t == u, t != u of tuples, by their items -/
def rEqT (K : PySem.W.Frag) (neg : Bool) : R2 := fun x y H Q => ∃ a b xs ys n e, x = .ref a ∧ y = .ref b ∧ SqT K H a xs ∧ SqT K H b ys ∧ n ≤ 50 ∧ (∀ (j : Nat) x y, xs[j]? = some x → ys[j]? = some y → DEq K H n x y (e j)) ∧
  Q (.bl (neg ^^ ((List.range (min xs.length ys.length)).all e && xs.length == ys.length))) H
theorem op_eqT (hu : X.A.units + 64 < cLine) : OpR X (compareOp .Eq) (rEqT X.K false) := by
  intro pins s σ H x y v u Q I rx ry h
  obtain ⟨a, b, xs, ys, n, e, rfl, rfl, ha, hb, hn, d, q⟩ := h
  cases rx
  cases ry
  obtain ⟨us, r1, p1, _⟩ := I.tuple ha
  obtain ⟨vs, r2, p2, _⟩ := I.tuple hb
  have w := SeqAt.RcAt.tuples (A := X.A) (e := e) p1 p2 (by omega) fun j h1 h2 => by
    obtain ⟨x, ex, rx⟩ := r1.item h1
    obtain ⟨y, ey, ry⟩ := r2.item h2
    exact (d j x y ex ey).at_ I X.A.in1 _ _ (by rw [show ∀ A : Around, A.in1.units = A.units + 1 from fun _ => rfl]; omega) rx ry
  rw [List.size_toArray, List.size_toArray, ← r1.length, ← r2.length] at w
  rw [Bool.false_xor] at q
  exact w X.prog X.w X.xe _ ⟨.bl _, H, I, rfl, q⟩
theorem op_neT (hu : X.A.units + 64 < cLine) : OpR X (compareOp .NotEq) (rEqT X.K true) := by
  intro pins s σ H x y v u Q I rx ry h
  obtain ⟨a, b, xs, ys, n, e, rfl, rfl, ha, hb, hn, d, q⟩ := h
  cases rx
  cases ry
  obtain ⟨us, r1, p1, _⟩ := I.tuple ha
  obtain ⟨vs, r2, p2, _⟩ := I.tuple hb
  have w := SeqAt.RcNeAt.tuples (A := X.A) (e := e) p1 p2 (by omega) fun j h1 h2 => by
    obtain ⟨x, ex, rx⟩ := r1.item h1
    obtain ⟨y, ey, ry⟩ := r2.item h2
    exact (d j x y ex ey).at_ I X.A.in1 _ _ (by rw [show ∀ A : Around, A.in1.units = A.units + 1 from fun _ => rfl]; omega) rx ry
  rw [List.size_toArray, List.size_toArray, ← r1.length, ← r2.length] at w
  rw [Bool.true_xor] at q
  exact w X.prog X.w X.xe _ ⟨.bl _, H, I, rfl, q⟩
/-- xs == ys of lists, by their items -/
def rEqL (K : PySem.W.Frag) (neg : Bool) : R2 := fun x y H Q => ∃ a b xs ys n e, x = .ref a ∧ y = .ref b ∧ SqL K H a xs ∧ SqL K H b ys ∧ n ≤ 50 ∧ (xs.length = ys.length → ∀ (j : Nat) x y, xs[j]? = some x → ys[j]? = some y → DEq K H n x y (e j)) ∧
  (xs.length = ys.length → Q (.bl (neg ^^ (List.range xs.length).all e)) H) ∧ (xs.length ≠ ys.length → Q (.bl neg) H)
theorem op_eqL (hu : X.A.units + 64 < cLine) : OpR X (compareOp .Eq) (rEqL X.K false) := by
  intro pins s σ H x y v u Q I rx ry h
  obtain ⟨a, b, xs, ys, n, e, rfl, rfl, ha, hb, hn, d, q1, q2⟩ := h
  cases rx
  cases ry
  obtain ⟨us, r1, p1, _⟩ := I.list ha
  obtain ⟨vs, r2, p2, _⟩ := I.list hb
  by_cases len : xs.length = ys.length
  · have w := SeqAt.RcAt.lists (A := X.A) (e := e) p1.isList p2.isList (by rw [List.size_toArray, List.size_toArray, ← r1.length, ← r2.length, len]) (by omega) fun j h1 h2 => by
      obtain ⟨x, ex, rx⟩ := r1.item h1
      obtain ⟨y, ey, ry⟩ := r2.item h2
      exact (d len j x y ex ey).at_ I X.A.in1 _ _ (by rw [show ∀ A : Around, A.in1.units = A.units + 1 from fun _ => rfl]; omega) rx ry
    rw [List.size_toArray, ← r1.length] at w
    have q := q1 len
    rw [Bool.false_xor] at q
    exact w X.prog X.w X.xe _ ⟨.bl _, H, I, rfl, q⟩
  · have w := SeqAt.RcAt.lists_lengths (A := X.A) p1.isList p2.isList (by rw [List.size_toArray, List.size_toArray, ← r1.length, ← r2.length]; simpa using len) (by omega)
    exact w X.prog X.w X.xe _ ⟨.bl _, H, I, rfl, q2 len⟩
theorem op_neL (hu : X.A.units + 64 < cLine) : OpR X (compareOp .NotEq) (rEqL X.K true) := by
  intro pins s σ H x y v u Q I rx ry h
  obtain ⟨a, b, xs, ys, n, e, rfl, rfl, ha, hb, hn, d, q1, q2⟩ := h
  cases rx
  cases ry
  obtain ⟨us, r1, p1, _⟩ := I.list ha
  obtain ⟨vs, r2, p2, _⟩ := I.list hb
  by_cases len : xs.length = ys.length
  · have w := SeqAt.RcNeAt.lists (A := X.A) (e := e) p1.isList p2.isList (by rw [List.size_toArray, List.size_toArray, ← r1.length, ← r2.length, len]) (by omega) fun j h1 h2 => by
      obtain ⟨x, ex, rx⟩ := r1.item h1
      obtain ⟨y, ey, ry⟩ := r2.item h2
      exact (d len j x y ex ey).at_ I X.A.in1 _ _ (by rw [show ∀ A : Around, A.in1.units = A.units + 1 from fun _ => rfl]; omega) rx ry
    rw [List.size_toArray, ← r1.length] at w
    have q := q1 len
    rw [Bool.true_xor] at q
    exact w X.prog X.w X.xe _ ⟨.bl _, H, I, rfl, q⟩
  · have w := SeqAt.RcNeAt.lists_lengths (A := X.A) p1.isList p2.isList (by rw [List.size_toArray, List.size_toArray, ← r1.length, ← r2.length]; simpa using len) (by omega)
    exact w X.prog X.w X.xe _ ⟨.bl _, H, I, rfl, q2 len⟩
/-- xs.count(x), xs.index(x) of flat items -/
def rCount : V → List V → Hp → VK → Prop := fun x vs H Q => ∃ l xs y, x = .ref l ∧ vs = [y] ∧ H l = some (.lst xs) ∧ flatV y = true ∧ xs.all flatV = true ∧ Q (.int (xs.countP fun z => eqV z y)) H
theorem countP_eqU {x : V} : ∀ {xs : List V} {us : List Value}, Vals xs us → xs.all flatV = true → us.countP (eqU x) = xs.countP fun y => eqV y x
  | _, _, .nil, _ => rfl
  | y :: xs, u :: us, .cons r t, f => by
    rw [List.all_cons, Bool.and_eq_true] at f
    rw [List.countP_cons, List.countP_cons, countP_eqU t f.2, eqU_of r f.1]
theorem mt_count : MtM X "list.count" rCount := by
  intro pins s σ H x vs v us Q I rx rv h
  obtain ⟨l, xs, y, rfl, rfl, hH, fy, fs, q⟩ := h
  cases rx
  obtain ⟨u, rfl, ru⟩ := rv.one
  obtain ⟨z, its, n, r, hl, e⟩ := I.lstM hH
  refine call_meets F.slot_list_count ⟨_, e, rfl⟩ F.entry_list_count (F.args_list_count_2 _ _) (SeqAt.list_countAt l its.toArray n none #[] u (eqU y)) ⟨e, fun w hw => mem_eqAt ru fy r fs w (by simpa using hw), ?_⟩
  refine ⟨.int _, H, I.tok _, ⟨_, rfl⟩, ?_⟩
  rw [countP_eqU r fs]
  exact q
def rIndex : V → List V → Hp → VK → Prop := fun x vs H Q => ∃ l xs y j, x = .ref l ∧ vs = [y] ∧ H l = some (.lst xs) ∧ flatV y = true ∧ xs.all flatV = true ∧ (∃ z, xs[j]? = some z ∧ eqV z y = true) ∧ (∀ i z, i < j → xs[i]? = some z → eqV z y = false) ∧ Q (.int (j : Nat)) H
theorem mt_index : MtM X "list.index" rIndex := by
  intro pins s σ H x vs v us Q I rx rv h
  obtain ⟨l, xs, y, j, rfl, rfl, hH, fy, fs, ⟨z, hz, ez⟩, no, q⟩ := h
  cases rx
  obtain ⟨u, rfl, ru⟩ := rv.one
  obtain ⟨sz, its, n, r, hl, e⟩ := I.lstM hH
  have fl : ∀ (i : Nat) x, xs[i]? = some x → flatV x = true := fun i x hx => List.all_eq_true.mp fs x (List.mem_of_getElem? hx)
  have hj : j < its.toArray.size := by
    have := (List.getElem?_eq_some_iff.mp hz).1
    rw [List.size_toArray]; omega
  have small : (j : Int) < 2 ^ 63 - 1 := by
    have h1 : j < sizeLine := by rw [List.size_toArray] at hj; omega
    have h2 : (sizeLine : Nat) < 2 ^ 62 := by rw [sizeLine_eq]; decide
    omega
  have at_ : ∀ (m : Nat) (hm : m < its.toArray.size) x, xs[m]? = some x → eqU y its.toArray[m] = eqV x y := fun m hm x hx => by
    obtain ⟨x', ex, rx'⟩ := r.item hm
    rw [hx] at ex
    cases ex
    exact eqU_of rx' (fl m x hx)
  refine call_meets F.slot_list_index ⟨_, e, rfl⟩ F.entry_list_index (F.args_list_index_2 _ _) (SeqAt.list_indexAt l its.toArray n none #[] u (eqU y) j hj small (by rw [at_ j hj z hz]; exact ez) fun m hm lt => ?_) ⟨e, fun w hw => mem_eqAt ru fy r fs w (by simpa using hw), ⟨.int _, H, I.tok _, ⟨_, rfl⟩, q⟩⟩
  obtain ⟨x', ex, _⟩ := r.item hm
  rw [at_ m hm x' ex]
  exact no m x' lt ex
end
end L2
set_option Elab.async false
set_option linter.all false
set_option maxRecDepth 100000
set_option maxHeartbeats 1000000
namespace L2
open PySem PySem.Spec PyProof.Rows
/-! ## H. x, y, z = a, b, c -/
section
variable {X : Cx} {pos : Pos}
def tPar3 (i j k : Nat) (ta : TA) : TS := fun D σ H => ta σ H fun vs H1 => ∃ v w z, vs = [v, w, z] ∧ D.nx (((σ.set i (some v)).set j (some w)).set k (some z)) H1
theorem ps_par3 {i j k : Nat} {x y z : Str} {a b c : Expr} {ta : TA} {px py pz pt : Pos} {kt k2 pt2} (hc : X.calm = true) (hN : X.N.Nodup) (hi : X.N[i]? = some x) (hj : X.N[j]? = some y) (hk : X.N[k]? = some z) (hij : i ≠ j) (hik : i ≠ k) (hjk : j ≠ k)
    (hx : X.env.scope.names.lookup x = some .local) (hy : X.env.scope.names.lookup y = some .local) (hz : X.env.scope.names.lookup z = some .local) (ha : PA X [a, b, c] ta)
    (hw : swappedStores [.Tuple [.Name x px, .Name y py, .Name z pz] kt pt] (.Tuple [a, b, c] k2 pt2) X.env = pure (some [x, y, z]))
    (hs : swapsWithSole [.Tuple [.Name x px, .Name y py, .Name z pz] kt pt] (.Tuple [a, b, c] k2 pt2) pos.line X.env = pure false := by rfl) :
    PS X (.Assign [.Tuple [.Name x px, .Name y py, .Name z pz] kt pt] (.Tuple [a, b, c] k2 pt2) pos) (tPar3 i j k ta) := by
  intro pins s σ H D I h
  (rw [exec_Assign_arm]; refine wpAny_bind (wpAny_standAt ?_))
  (rw [hs]; refine wpAny_bind (wpAny_pure ?_))
  (rw [if_neg Bool.false_ne_true]; refine wpAny_bind (Tuple_ (thn (ha _ pins s σ H _ I h) fun us s1 ⟨vs, H1, I1, r1, q1⟩ => ?_)))
  obtain ⟨v, w, z', e1, q1⟩ := q1
  subst e1
  obtain ⟨u1, u2, u3, rfl, rv, rw', rz⟩ : ∃ u1 u2 u3, us = [u1, u2, u3] ∧ RelV v u1 ∧ RelV w u2 ∧ RelV z' u3 := by
    cases r1 with
    | cons p q =>
      obtain ⟨u2, u3, rfl, p2, p3⟩ := Vals.two q
      exact ⟨_, _, _, rfl, p, p2, p3⟩
  refine wpAny_newObj_type ?_ (by show 3 ≤ sizeLine; decide)
  have I2 : Inv X pins σ H1 { s1 with heap := s1.heap.push { cls := .type "tuple", data := .seq [u1, u2, u3].toArray } } := I1.kept (t' := s1.toks) fun b o e => Heap.get?_push_of_some _ e
  (rw [hw]; refine wpAny_bind (wpAny_pure ?_))
  show wpAny (model X.prog X.w) X.A (do rule "assign.swapped-stores"; let items ← unpackItems (.ref s1.heap.objs.size) 3 none; assignInOrder [fun v => bindName X.env z v, fun v => bindName X.env y v, fun v => bindName X.env x v] items.reverse; pure Flow.next) _ _ _
  refine wpAny_bind (wpAny_rule (wpAny_bind (unpackItems_tuple (items := #[u1, u2, u3]) (I.ok.hd hc) (IsTup.new s1.heap _) fun h' hx' => ?_)))
  have I3 := I2.kept (h' := h') (t' := s1.toks) fun b o e => hx' b o (Nat.ne_of_lt (Heap.lt_size e)) e
  show wpAny _ _ (assignInOrder [fun v => bindName X.env z v, fun v => bindName X.env y v, fun v => bindName X.env x v] [u3, u2, u1] >>= fun _ => pure Flow.next) _ _ _
  refine wpAny_bind (assignInOrder_cons (wpAny_bindName (store_ok I3 hN hk (.inl hz) rz (fun s2 I4 => ?_) (.inr hz))))
  refine assignInOrder_cons (wpAny_bindName (store_ok I4 hN hj (.inl hy) rw' (fun s3 I5 => ?_) (.inr hy)))
  refine assignInOrder_cons (wpAny_bindName (store_ok I5 hN hi (.inl hx) rv (fun s4 I6 => assignInOrder_nil (wpAny_pure ?_)) (.inr hx)))
  have es : ((σ.set k (some z')).set j (some w)).set i (some v) = ((σ.set i (some v)).set j (some w)).set k (some z') := by
    rw [List.set_comm _ _ (Ne.symm hjk), List.set_comm _ _ (Ne.symm hik), List.set_comm _ _ (Ne.symm hij)]
  rw [es] at I6
  exact ⟨_, H1, I6, q1⟩
end
/-! ### rows of literals -/
def litV : Expr → Option V
  | .Constant (.int n) _ _ => some (V.int n)
  | .Constant (.str z) _ _ => some (V.str z)
  | .Constant (.bool b) _ _ => some (.bl b)
  | .Constant .none _ _ => some .non
  | .UnaryOp .USub (.Constant (.int n) _ _) _ => some (V.int (-n))
  | _ => none
def litsV : List Expr → Option (List V)
  | [] => some []
  | e :: es => (litV e).bind fun v => (litsV es).map fun vs => v :: vs
section
variable {X : Cx}
theorem lit_ok {e : Expr} {es : List Expr} {v : V} (h : litV e = some v) : PE X e (tC v) ∧ starEach (e :: es) X.env = (false, eval e X.env) :: starEach es X.env := by
  unfold litV at h
  split at h
  · cases h; exact ⟨pe_int, rfl⟩
  · cases h; exact ⟨pe_str, rfl⟩
  · cases h; exact ⟨pe_bl, rfl⟩
  · cases h; exact ⟨pe_non, rfl⟩
  · cases h
    refine ⟨fun pins s σ H Q I q => ?_, rfl⟩
    exact pe_un un_neg pe_int pins s σ H Q I ⟨_, rfl, q⟩
  · cases h
def tLits (vs : List V) : TA := fun _ H Q => Q vs H
/-- arguments or items that are literals alone -/
theorem pa_lits (vs : List V) {es : List Expr} (h : litsV es = some vs) : PA X es (tLits vs) := by
  induction es generalizing vs with
  | nil =>
    cases h
    exact fun pos pins s σ H Q I q => pa_nil pos pins s σ H Q I q
  | cons e es ih =>
    obtain ⟨v, hv, h⟩ := Option.bind_eq_some_iff.mp h
    obtain ⟨ws, hw, rfl⟩ := Option.map_eq_some_iff.mp h
    obtain ⟨p, st⟩ := lit_ok (X := X) (es := es) hv
    exact fun pos pins s σ H Q I q => pa_cons p (ih ws hw) st pos pins s σ H Q I q
end
end L2
set_option Elab.async false
set_option linter.all false
set_option maxRecDepth 100000
set_option maxHeartbeats 1000000
namespace Tw
open PySem L2
/-! ## kinds of values, and isinstance by them -/
inductive Kd where
  | non | bl | int | str | lst | tup | ins (C : Addr)
def Kd.ty : Kd → Value
  | .non => .type "NoneType"
  | .bl => .type "bool"
  | .int => .type "int"
  | .str => .type "str"
  | .lst => .type "list"
  | .tup => .type "tuple"
  | .ins C => .ref C
inductive BT where
  | bool | int | str | list | tuple
def BT.nm : BT → String
  | .bool => "bool" | .int => "int" | .str => "str" | .list => "list" | .tuple => "tuple"
def bi : Kd → BT → Bool
  | .bl, .bool => true
  | .bl, .int => true
  | .int, .int => true
  | .str, .str => true
  | .lst, .list => true
  | .tup, .tuple => true
  | _, _ => false
/-- a class of the program's own, as isinstance sees its instances -/
structure ClsT (K : PySem.W.Frag) (C : Addr) : Prop where
  cl : Cls K C
  ha : PySem.W.findIn K (.ref C) "__class__" = some (some (.builtin "object.__class__"))
  hn : PySem.W.specialIn K (.builtin "object.__class__") "__get__" = some (some (.builtin "getset_descriptor.__get__"))
  htk : PySem.W.takesIn K (.builtin "object.__class__") = some true
  hm : PySem.W.mroIn K C (.type "object") = some true
  no : ∀ b : BT, PySem.W.kitOne K (.ref C) (.type b.nm) = some false
def KdOf (K : PySem.W.Frag) (H : Hp) (v : V) : Kd → Prop
  | .non => v = .non
  | .bl => ∃ b, v = .bl b
  | .int => ∃ i, v = .int i
  | .str => ∃ x, v = .str x
  | .lst => ∃ a xs, v = .ref a ∧ (H a = some (.lst xs) ∨ ∃ o, H a = some (.frz o (.lst xs)))
  | .tup => ∃ a xs, v = .ref a ∧ H a = some (.tup xs)
  | .ins C => ∃ a dx fs, v = .ref a ∧ H a = some (.ins C dx fs) ∧ ClsT K C
theorem KdOf.tyOf {K : PySem.W.Frag} {H : Hp} {v : V} {k : Kd} (h : KdOf K H v k) : TyOf K H v k.ty := by
  cases k with
  | non => cases h; exact .non
  | bl => obtain ⟨b, rfl⟩ := h; exact .bl b
  | int => obtain ⟨i, rfl⟩ := h; exact .int i
  | str => obtain ⟨x, rfl⟩ := h; exact .str x
  | lst =>
    obtain ⟨a, xs, rfl, e | ⟨o, e⟩⟩ := h
    · exact .lst e
    · exact .frz e
  | tup => obtain ⟨a, xs, rfl, e⟩ := h; exact .tup e
  | ins C => obtain ⟨a, dx, fs, rfl, e, t⟩ := h; exact .ins e t.cl t.ha t.hn t.htk t.hm
theorem KdOf.bi {K : PySem.W.Frag} {H : Hp} {v : V} {k : Kd} (h : KdOf K H v k) (b : BT) : PySem.W.kitOne K k.ty (.type b.nm) = some (bi k b) := by
  cases k with
  | ins C => obtain ⟨a, dx, fs, rfl, e, t⟩ := h; cases b <;> exact t.no _
  | _ => cases b <;> rfl
theorem KdOf.same {K : PySem.W.Frag} {H H' : Hp} {v : V} {k : Kd} (h : KdOf K H v k) (s : Same H H') : KdOf K H' v k := by
  cases k with
  | lst =>
    obtain ⟨a, xs, rfl, e | ⟨o, e⟩⟩ := h
    · exact ⟨a, xs, rfl, .inl (s _ _ e)⟩
    · exact ⟨a, xs, rfl, .inr ⟨o, s _ _ e⟩⟩
  | tup => obtain ⟨a, xs, rfl, e⟩ := h; exact ⟨a, xs, rfl, s _ _ e⟩
  | ins C => obtain ⟨a, dx, fs, rfl, e, t⟩ := h; exact ⟨a, dx, fs, rfl, s _ _ e, t⟩
  | _ => exact h
section
variable {X : Cx} {e : Expr} {te : TE} {p pos p2 : Pos}
theorem call_isT (b : BT) : CallR X (.builtin "isinstance") (fun xs H Q => ∃ v k, xs = [v, .ty b.nm] ∧ KdOf X.K H v k ∧ Q (.bl (bi k b)) H) := by
  intro pins s σ H xs us Q I r h
  obtain ⟨v, k, rfl, hk, q⟩ := h
  exact call_isinstT pins s σ H _ us Q I r ⟨v, b.nm, k.ty, bi k b, rfl, hk.bi b, hk.tyOf, q⟩
theorem call_isC : CallR X (.builtin "isinstance") (fun xs H Q => ∃ v k C b, xs = [v, .ref C] ∧ KdOf X.K H v k ∧ PySem.W.kitOne X.K k.ty (.ref C) = some b ∧ Q (.bl b) H) := by
  intro pins s σ H xs us Q I r h
  obtain ⟨v, k, C, b, rfl, hk, e, q⟩ := h
  exact call_isinst pins s σ H _ us Q I r ⟨v, .ref C, C, k.ty, b, rfl, ⟨rfl, e⟩, hk.tyOf, q⟩
/-- isinstance(e, T), T a built-in type -/
theorem pe_isT {x : Str} (b : BT) (hi : X.mg "isinstance" = none) (hx : X.mg x = none) (he : PE X e te) (hg : Gl X "isinstance" := by rfl) (hgx : Gl X x := by rfl) (hv : bootBuiltins x = some (.type b.nm) := by decide +kernel)
    (hn : x ≠ "__name__" := by decide) (hd : (x == ("__debug__" : Str)) = false := by decide) (h1 : starEach [e, .Name x p2] X.env = (false, eval e X.env) :: starEach [.Name x p2] X.env := by rfl) (h2 : (backTo pos (starEach [.Name x p2] X.env)).any (·.1) = false := by rfl)
    (h3 : starEach [.Name x p2] X.env = (false, eval (.Name x p2) X.env) :: starEach [] X.env := by rfl) :
    PE X (.Call (.Name "isinstance" p) [e, .Name x p2] [] pos) (tCB (fun xs H Q => ∃ v k, xs = [v, .ty b.nm] ∧ KdOf X.K H v k ∧ Q (.bl (bi k b)) H) (tCons te (tCons (tC (.ty b.nm)) tNil))) :=
  pe_callB (X := X) (p := p) (pos := pos) (call_isT b) hg hi PyProof.Rows.boot_isinstance (pa_cons he (pa_cons (pe_type (T := b.nm) (pos := p2) hgx hx hv hn hd) pa_nil h3) h1) (by decide) (by decide) h1 h2
/-- isinstance(e, C), C a class of the program's own -/
theorem pe_isC {x : Str} {C : Addr} (hi : X.mg "isinstance" = none) (hx : X.mg x = some (.ref C)) (he : PE X e te) (hg : Gl X "isinstance" := by rfl) (hgx : Gl X x := by rfl)
    (hd : (x == ("__debug__" : Str)) = false := by decide) (h1 : starEach [e, .Name x p2] X.env = (false, eval e X.env) :: starEach [.Name x p2] X.env := by rfl) (h2 : (backTo pos (starEach [.Name x p2] X.env)).any (·.1) = false := by rfl)
    (h3 : starEach [.Name x p2] X.env = (false, eval (.Name x p2) X.env) :: starEach [] X.env := by rfl) :
    PE X (.Call (.Name "isinstance" p) [e, .Name x p2] [] pos) (tCB (fun xs H Q => ∃ v k C b, xs = [v, .ref C] ∧ KdOf X.K H v k ∧ PySem.W.kitOne X.K k.ty (.ref C) = some b ∧ Q (.bl b) H) (tCons te (tCons (tC (.ref C)) tNil))) :=
  pe_callB (X := X) (p := p) (pos := pos) call_isC hg hi PyProof.Rows.boot_isinstance (pa_cons he (pa_cons (pe_glob (v := .ref C) (pos := p2) hgx hx rfl hd) pa_nil h3) h1) (by decide) (by decide) h1 h2
/-- a comprehension without a test, over J of n turns; its i-th element is y i, and Pv is kept -/
theorem comp_by {D : Addr} {J : It} {σ0 : St} {g : TG} {te : TE} {Qe : Hp → Prop} {H1 : Hp} (n : Nat) (hn : n ≤ sizeLine) (y : Nat → V) (Pv : Nat → Hp → Prop) (start : Pv 0 (upd H1 D (.lst [])))
    (at_ : ∀ i H, i ≤ n → Pv i H → H D = some (.lst ((List.range i).map y))) (stop : ∀ H, Pv n H → J.stop n H ∧ Qe H)
    (go : ∀ i H, i < n → Pv i H → J.go i H ∧ ∀ x H', J.yld i H x H' → ∀ Qc : VK, (∀ H3, H3 D = some (.lst ((List.range i).map y)) → Pv (i + 1) (upd H3 D (.lst ((List.range (i + 1)).map y))) → Qc (y i) H3) → g x σ0 H' fun σ2 H2 => KeepS σ0 σ2 ∧ te σ2 H2 Qc) :
    ∃ W : Nat → Nat → List V → Hp → Prop, (∃ m, W 0 m [] (upd H1 D (.lst []))) ∧ compW D J σ0 g tYes te Qe W := by
  refine ⟨fun i m ac H => i ≤ n ∧ m = n - i ∧ ac = (List.range i).map y ∧ Pv i H, ⟨n, Nat.zero_le _, rfl, rfl, start⟩, ?_⟩
  rintro i m ac H ⟨le, rfl, rfl, p⟩
  refine ⟨at_ i H le p, ?_⟩
  by_cases lt : i < n
  · obtain ⟨g1, step⟩ := go i H lt p
    refine .inr ⟨g1, by rw [List.length_map, List.length_range]; exact Nat.lt_of_lt_of_le lt hn, fun x H' yl => ?_⟩
    simp only [tYes, if_true]
    refine step x H' yl _ fun H3 hD nx => ?_
    have e : (List.range i).map y ++ [y i] = (List.range (i + 1)).map y := by rw [List.range_succ, List.map_append]; rfl
    exact ⟨hD, n - (i + 1), by omega, lt, rfl, e, by rw [e]; exact nx⟩
  · have e : i = n := by omega
    subst e
    exact .inl (stop H p)
theorem upd_new {H : Hp} {D : Addr} {o : HO} (h : H D = none) : Same H (upd H D o) := fun b u e => by rw [upd_ne (ne_of_none e h)]; exact e
theorem Same.upd {H H' : Hp} {D : Addr} {o : HO} (s : Same H H') (h : H' D = none) : Same H (L2.upd H' D o) := s.trans (upd_new h)
/-- short forms, what is plain found by the machine -/
theorem pe_cb {x : Str} {id : String} {r : List V → Hp → VK → Prop} {es : List Expr} {t : TA} (hc : CallR X (.builtin id) r) (hm : X.mg x = none) (hv : bootBuiltins x = some (.builtin id)) (ha : PA X (e :: es) t) (hg : Gl X x := by rfl) (hn : x ≠ "__name__" := by decide) (hdb : (x == ("__debug__" : Str)) = false := by decide)
    (he : starEach (e :: es) X.env = (false, eval e X.env) :: starEach es X.env := by rfl) (hpl : (backTo pos (starEach es X.env)).any (·.1) = false := by rfl) : PE X (.Call (.Name x p) (e :: es) [] pos) (tCB r t) := pe_callB hc hg hm hv ha hn hdb he hpl
theorem pe_gl {x : Str} {u : Value} (v : V) (hm : X.mg x = some u) (r : RelV v u) (hg : Gl X x := by rfl) (hd : (x == ("__debug__" : Str)) = false := by decide) : PE X (.Name x pos) (tC v) := pe_glob hg hm r hd
theorem pg_nm (i : Nat) {x : Str} (hN : X.N.Nodup) (hi : X.N[i]? = some x := by rfl) (hx : Loc X.env.scope x := by exact Or.inl rfl) (hf : X.fn x = true ∨ X.env.scope.names.lookup x = some .local := by first | exact .inl rfl | exact .inr rfl) : PG X (.Name x pos) (gName i) := pg_name hN hi hx hf
end
end Tw
set_option Elab.async false
set_option linter.all false
set_option maxRecDepth 100000
set_option maxHeartbeats 1000000
namespace Tw
open PySem L2
/-! ## calls: short forms; a def called through its class; a method of one of several classes -/
structure ClsM (K : PySem.W.Frag) (C : Addr) (m : Str) (f : Addr) : Prop where
  rd : PySem.W.readsIn K C (.type "type") = true
  ga : PySem.W.specialIn K (.ref C) "__getattribute__" = some (some (.builtin "type.__getattribute__"))
  at_ : PySem.W.findCls K (.ref C) (.type "type") m = some (.val (.ref f))
  kp : PySem.W.keepIn K (.ref f) = true
section
variable {X : Cx} {CX : CXT} {k : Nat} {f C : Addr} {fd : FuncData} {ps : List Str} {sp : Sp} {dvs : List V} {ds : List Value} {E : XK} {x m : Str} {p pos apos : Pos} {e o : Expr} {es : List Expr} {ta : TE} {t : TA}
theorem pe_fn (F : FnOk X.prog X.w X.K X.mg X.base CX k f fd ps sp) (hr : Room k X.A) (hm : X.mg x = some (.ref f)) (hk : PySem.W.keepIn X.K (.ref f) = true) (hb : Binds X.K fd ps []) (hx : Passes CX X E) (ha : PA X (e :: es) t)
    (hg : Gl X x := by rfl) (hdb : (x == ("__debug__" : Str)) = false := by decide) (he : starEach (e :: es) X.env = (false, eval e X.env) :: starEach es X.env := by rfl) (hpl : (backTo pos (starEach es X.env)).any (·.1) = false := by rfl) :
    PE X (.Call (.Name x p) (e :: es) [] pos) (tCall sp [] E t) := pe_call F hr hg hm hk hb .nil hx ha hdb he hpl
theorem pe_mk (M : Mk X.K C f) (F : FnOk X.prog X.w X.K X.mg X.base CX k f fd ps sp) (hr : Room (k + 1) X.A) (hm : X.mg x = some (.ref C)) (hb : Binds X.K fd ps []) (hx : Passes CX X E) (ha : PA X (e :: es) t)
    (hg : Gl X x := by rfl) (hdb : (x == ("__debug__" : Str)) = false := by decide) (he : starEach (e :: es) X.env = (false, eval e X.env) :: starEach es X.env := by rfl) (hpl : (backTo pos (starEach es X.env)).any (·.1) = false := by rfl) :
    PE X (.Call (.Name x p) (e :: es) [] pos) (tMake C sp [] E t) := pe_make M F hr hg hm hb .nil hx ha hdb he hpl
/-- C.m(e, ..): the def itself, self among the arguments -/
theorem pe_clsM {pl : Sem Bool} (hx : X.mg x = some (.ref C)) (hm : ClsM X.K C m f) (F : FnOk X.prog X.w X.K X.mg X.base CX k f fd ps sp) (hr : Room k X.A) (hb : Binds X.K fd ps []) (hp : Passes CX X E) (ha : PA X (e :: es) t) (hg : Gl X x := by rfl)
    (hdb : (x == ("__debug__" : Str)) = false := by decide) (hst : starEach (e :: es) X.env = (false, eval e X.env) :: starEach es X.env := by rfl) (hpl : (backTo pos (starEach es X.env)).any (·.1) = false := by rfl)
    (ht : eval (.Call (.Attribute (.Name x p) m apos) (e :: es) [] pos) X.env = (do
      let ov ← eval (.Name x p) X.env
      standAt apos.atName
      let (f, first) ← holding [ov] (getMethod ov m pl)
      callWith pos f first (backTo pos (starEach (e :: es) X.env)) (backToKw pos (keywordEach [] X.env))) := by rfl) :
    PE X (.Call (.Attribute (.Name x p) m apos) (e :: es) [] pos) (tCall sp [] E t) := by
  intro pins s σ H Q I h
  refine PySem.W.methodCall_KW (pl := pl) (ld_glob I hg hx ?_ hdb) ht
  refine PySem.W.method_cls I.kIn hm.ga (PySem.W.cls_value I.kIn hm.rd hm.at_ rfl ?_)
  have I1 := I.tok (s.toks + 1)
  refine PySem.W.callWith_K (h₀ := X.base) I.ok.mod.kin hm.kp (thn (ha pos pins _ σ H _ I1 h) fun us s2 ⟨vs, H2, I2, r, q2⟩ => ⟨I2.kIn, ?_⟩) hst hpl
  exact run_fn F hr hb .nil hp I2 r q2
/-- o.m(e, ..), o of a class for which Cs holds -/
def tMethS (Cs : Addr → Prop) (m : Str) (sp : Addr → Sp) (E : XK) (ta : TE) (t : TA) : TE := fun σ H Q => ta σ H fun x H1 => ∃ a C dx fs, x = .ref a ∧ H1 a = some (.ins C dx fs) ∧ Cs C ∧ fs.lookup m = none ∧ t σ H1 fun vs H2 => sp C (x :: vs) H2 Q E
theorem pe_methS {pl : Sem Bool} {sp : Addr → Sp} {Cs : Addr → Prop} (he : PE X o ta) (hr : Room k X.A) (hC : ∀ C, Cs C → ∃ f fd, Cls X.K C ∧ Meth X.K C m f ∧ FnOk X.prog X.w X.K X.mg X.base CX k f fd ps (sp C) ∧ Binds X.K fd ps []) (hx : Passes CX X E) (ha : PA X (e :: es) t)
    (hst : starEach (e :: es) X.env = (false, eval e X.env) :: starEach es X.env := by rfl) (hpl : (backTo pos (starEach es X.env)).any (·.1) = false := by rfl)
    (ht : eval (.Call (.Attribute o m apos) (e :: es) [] pos) X.env = (do
      let ov ← eval o X.env
      standAt apos.atName
      let (f, first) ← holding [ov] (getMethod ov m pl)
      callWith pos f first (backTo pos (starEach (e :: es) X.env)) (backToKw pos (keywordEach [] X.env))) := by rfl) :
    PE X (.Call (.Attribute o m apos) (e :: es) [] pos) (tMethS Cs m sp E ta t) := by
  intro pins s σ H Q I h
  refine PySem.W.methodCall_KW (pl := pl) (thn (he pins s σ H _ I h) fun u s1 ⟨x, H1, I1, rx, a, C, dx, fs, ex, ea, cs, l, q⟩ => ?_) ht
  subst ex
  obtain rfl : u = Value.ref a := rx
  obtain ⟨f, fd, c, hm, F, hb⟩ := hC C cs
  refine getmeth_ok I1 ea c hm l ?_
  refine PySem.W.callWith_K (first := [.ref a]) (h₀ := X.base) I.ok.mod.kin hm.kp (thn (ha pos pins s1 σ H1 _ I1 q) fun us s2 ⟨vs, H2, I2, r, q2⟩ => ⟨I2.kIn, ?_⟩) hst hpl
  have := run_fn (us := .ref a :: us) (vs := .ref a :: vs) (dvs := []) (ds := []) (Q := Q) F hr hb .nil hx I2 (.cons rfl r) (by rw [List.append_nil]; exact q2)
  exact this
/-- o.f, the fragment named (within a comprehension) -/
theorem pe_fk (K : PySem.W.Frag) {fl : Str} (he : PE X o ta) (hK : X.K = K := by rfl) (hb : attributeBase o fl X.env (eval o X.env) = eval o X.env := by rfl) : PE X (.Attribute o fl pos) (tFld K ta fl) := by
  subst hK
  exact pe_fld he hb
end
end Tw
set_option Elab.async false
set_option linter.all false
set_option maxRecDepth 100000
set_option maxHeartbeats 1000000
namespace Tw
open PySem L2
/-- a comprehension without a test, over J of n turns; Pv speaks of what was gathered -/
theorem comp_acc {D : Addr} {J : It} {σ0 : St} {g : TG} {te : TE} {Qe : Hp → Prop} {H1 : Hp} (n : Nat) (hn : n ≤ sizeLine) (Pv : Nat → List V → Hp → Prop) (start : Pv 0 [] (upd H1 D (.lst [])))
    (at_ : ∀ i acc H, i ≤ n → Pv i acc H → acc.length = i ∧ H D = some (.lst acc)) (stop : ∀ acc H, Pv n acc H → J.stop n H ∧ Qe H)
    (go : ∀ i acc H, i < n → Pv i acc H → J.go i H ∧ ∀ x H', J.yld i H x H' → ∀ Qc : VK, (∀ v H3, H3 D = some (.lst acc) → Pv (i + 1) (acc ++ [v]) (upd H3 D (.lst (acc ++ [v]))) → Qc v H3) → g x σ0 H' fun σ2 H2 => KeepS σ0 σ2 ∧ te σ2 H2 Qc) :
    ∃ W : Nat → Nat → List V → Hp → Prop, (∃ m, W 0 m [] (upd H1 D (.lst []))) ∧ compW D J σ0 g tYes te Qe W := by
  refine ⟨fun i m ac H => i ≤ n ∧ m = n - i ∧ Pv i ac H, ⟨n, Nat.zero_le _, rfl, start⟩, ?_⟩
  rintro i m ac H ⟨le, rfl, p⟩
  obtain ⟨la, hD⟩ := at_ i ac H le p
  refine ⟨hD, ?_⟩
  by_cases lt : i < n
  · obtain ⟨g1, step⟩ := go i ac H lt p
    refine .inr ⟨g1, by rw [la]; exact Nat.lt_of_lt_of_le lt hn, fun x H' yl => ?_⟩
    simp only [tYes, if_true]
    refine step x H' yl _ fun v H3 hD nx => ?_
    exact ⟨hD, n - (i + 1), by omega, lt, rfl, nx⟩
  · have e : i = n := by omega
    subst e
    exact .inl (stop ac H p)
/-- the same with a test: a turn may leave what was gathered as it is -/
theorem comp_if {D : Addr} {J : It} {σ0 : St} {g : TG} {tc : TT} {te : TE} {Qe : Hp → Prop} {H1 : Hp} (n : Nat) (hn : n ≤ sizeLine) (Pv : Nat → List V → Hp → Prop) (start : Pv 0 [] (upd H1 D (.lst [])))
    (at_ : ∀ i acc H, i ≤ n → Pv i acc H → acc.length ≤ i ∧ H D = some (.lst acc)) (stop : ∀ acc H, Pv n acc H → J.stop n H ∧ Qe H)
    (go : ∀ i acc H, i < n → Pv i acc H → J.go i H ∧ ∀ x H', J.yld i H x H' → ∀ (Qc : VK) (Qn : Hp → Prop), (∀ v H3, H3 D = some (.lst acc) → Pv (i + 1) (acc ++ [v]) (upd H3 D (.lst (acc ++ [v]))) → Qc v H3) → (∀ H3, Pv (i + 1) acc H3 → Qn H3) →
      g x σ0 H' fun σ2 H2 => KeepS σ0 σ2 ∧ tc σ2 H2 fun b H3 => if b = true then te σ2 H3 Qc else Qn H3) :
    ∃ W : Nat → Nat → List V → Hp → Prop, (∃ m, W 0 m [] (upd H1 D (.lst []))) ∧ compW D J σ0 g tc te Qe W := by
  refine ⟨fun i m ac H => i ≤ n ∧ m = n - i ∧ Pv i ac H, ⟨n, Nat.zero_le _, rfl, start⟩, ?_⟩
  rintro i m ac H ⟨le, rfl, p⟩
  obtain ⟨la, hD⟩ := at_ i ac H le p
  refine ⟨hD, ?_⟩
  by_cases lt : i < n
  · obtain ⟨g1, step⟩ := go i ac H lt p
    refine .inr ⟨g1, Nat.lt_of_le_of_lt la (Nat.lt_of_lt_of_le lt hn), fun x H' yl => ?_⟩
    exact step x H' yl _ _ (fun v H3 hD nx => ⟨hD, n - (i + 1), by omega, lt, rfl, nx⟩) (fun H3 nx => ⟨n - (i + 1), by omega, lt, rfl, nx⟩)
  · have e : i = n := by omega
    subst e
    exact .inl (stop ac H p)
/-- a comprehension that captures names of the def -/
theorem comp_caps {X : Cx} {scope : Scope} {cl : List (Str × Addr)} {N' : List Str} (cap : List (Option Nat)) (N : List Str) (sn rn : List (Str × NameKind)) (ks : List Str) (kind : scope.kind = .function) (nocell : ∀ y ∈ scope.names, y.2 ≠ .cell)
    (names : ∀ y ∈ scope.names, y.2 = .local → scope.names.lookup y.1 = some .local) (clos : closureFor scope X.env = pure cl) (sub : ∀ p ∈ cl, X.env.cells.lookup p.1 = some p.2) (hN : X.N = N) (hs : X.env.scope.names = sn) (rel : (relabel scope X.env).names = rn)
    (hk : cl.map (·.1) = ks) (has : ∀ y ∈ rn, (y.2 = .cell ∨ y.2 = .free) → y.1 ∈ ks) (len : cap.length = N'.length)
    (cp : ∀ p ∈ cap.zip N', ∀ j, p.1 = some j → N[j]? = some p.2 ∧ sn.lookup p.2 = some .cell ∧ rn.lookup p.2 = some .cell) : CompOk X scope cl N' cap := by
  refine ⟨kind, nocell, names, clos, fun n c h => ?_, fun n h => ?_, len, fun i j x h1 h2 => ?_⟩
  · exact sub (n, c) (PySem.mem_of_lookup h)
  · rw [rel] at h
    have hm : n ∈ cl.map (·.1) := by
      rw [hk]
      rcases h with h | h
      · exact has _ (PySem.mem_of_lookup h) (.inl rfl)
      · exact has _ (PySem.mem_of_lookup h) (.inr rfl)
    obtain ⟨p, hp, rfl⟩ := List.mem_map.mp hm
    cases e : cl.lookup p.1 with
    | some c => exact ⟨c, rfl⟩
    | none =>
      rw [List.lookup_eq_none_iff] at e
      exact absurd (beq_self_eq_true p.1) (by have := e p hp; simpa using this)
  · rw [hN, hs, rel]
    refine cp (some j, x) ?_ j rfl
    rw [List.mem_iff_getElem?]
    exact ⟨i, by rw [List.getElem?_zip_eq_some]; exact ⟨h1, h2⟩⟩
theorem keepS_set0 {r : St} {x : Option V} : KeepS (none :: r) ((none :: r).set 0 x) := by
  intro j v h
  cases j with
  | zero => simp at h
  | succ j => exact h
theorem paired_get {α β : Type} {R : α → β → Prop} : ∀ {xs : List α} {ys : List β} {i : Nat} {x : α}, Paired R xs ys → xs[i]? = some x → ∃ y, ys[i]? = some y ∧ R x y
  | _, _, _, _, .nil, e => by simp at e
  | _, _, 0, _, .cons r _, e => by simp at e; subst e; exact ⟨_, rfl, r⟩
  | _, _, i + 1, _, .cons _ t, e => paired_get (i := i) t (by simpa using e)
theorem take_snoc {α : Type} {xs : List α} {i : Nat} {x : α} (h : xs[i]? = some x) : xs.take (i + 1) = xs.take i ++ [x] := by
  rw [List.take_add_one, h]; rfl
theorem eqV_refl {x : V} (h : flatV x = true) : eqV x x = true := by
  cases x <;> first | rfl | (simp [eqV]; done) | exact absurd h (by simp [flatV])
end Tw
set_option Elab.async false
set_option linter.all false
set_option maxRecDepth 100000
set_option maxHeartbeats 1000000
namespace Tw
open PySem L2
abbrev sWhole : Stmt := top 2
abbrev sIsName : Stmt := top 14
/-- names of the top that stand for built-ins -/
structure Blt (mg : Str → Option Value) : Prop where
  isinstance : mg "isinstance" = none
  bool : mg "bool" = none
  int : mg "int" = none
  str : mg "str" = none
  list : mg "list" = none
  tuple : mg "tuple" = none
  len : mg "len" = none
  all : mg "all" = none
  set : mg "set" = none
  zip : mg "zip" = none
  reversed : mg "reversed" = none
  range : mg "range" = none
section
variable {P : Program} {w : World} {K : PySem.W.Frag} {mg : Str → Option Value} {base : Heap}
def wholeV (v : V) (l m : Int) : Bool := match v with
  | .int i => decide (l ≤ i) && decide (i ≤ m)
  | _ => false
def spWhole (K : PySem.W.Frag) : Sp := fun vs H Q _ => ∃ v l m k, vs = [v, .int l, .int m] ∧ KdOf K H v k ∧ Q (.bl (wholeV v l m)) H
theorem scWhole : FnScope ["value", "least", "most"] ["value", "least", "most"] (defScope sWhole) := ⟨rfl, rfl, rfl, by decide +kernel, rfl, by decide +kernel, by decide +kernel⟩
theorem ok_whole {f : Addr} {fd : FuncData} (F : Fun K "is_whole" "is_whole" sWhole f fd) (B : Blt mg) : FnOk P w K mg base (CXg P w) 1 f fd ["value", "least", "most"] (spWhole K) := by
  refine F.okX scWhole (fun vs H Q E h => ?_) (fun cdv A outer s H vs Q E hr h => ?_)
  · obtain ⟨v, l, m, k, rfl, _⟩ := h
    rfl
  · obtain ⟨v, l, m, k, rfl, hk, q⟩ := h
    refine ⟨_, pss_cons (ps_if (pw_or (pt_val (pe_isT .bool B.isinstance B.bool (pv 0))) (pw_or1 (pt_not (pt_val (pe_isT .int B.isinstance B.int (pv 0)))))).pt (pss_one (ps_ret pe_bl)) pss_nil)
      (pss_one (ps_ret (pe_chain op_le op_le (pv 1) (pv 0) (pv 2)))), ?_⟩
    refine ⟨_, rfl, v, k, rfl, hk, _, rfl, ?_⟩
    have no : (∀ i, v ≠ .int i) → wholeV v l m = false := fun h => by
      cases v with
      | int i => exact absurd rfl (h i)
      | _ => rfl
    cases k with
    | bl => obtain ⟨b, rfl⟩ := hk; exact iteT (iteT q)
    | int =>
      obtain ⟨z, rfl⟩ := hk
      refine iteF ⟨_, rfl, _, .int, rfl, ⟨z, rfl⟩, _, rfl, ?_⟩
      refine iteF ⟨_, rfl, _, rfl, _, _, rfl, rfl, _, rfl, ?_⟩
      have e : wholeV (.int z) l m = (decide (l ≤ z) && decide (z ≤ m)) := rfl
      rw [e] at q
      by_cases h1 : l ≤ z
      · rw [decide_eq_true h1] at q ⊢
        exact iteT ⟨_, rfl, _, _, rfl, rfl, q⟩
      · rw [decide_eq_false h1] at q ⊢
        exact iteF q
    | non => cases hk; exact iteF ⟨_, rfl, _, .non, rfl, rfl, _, rfl, iteT q⟩
    | str => obtain ⟨x, rfl⟩ := hk; exact iteF ⟨_, rfl, _, .str, rfl, ⟨x, rfl⟩, _, rfl, iteT q⟩
    | lst => obtain ⟨a, xs, rfl, e⟩ := hk; exact iteF ⟨_, rfl, _, .lst, rfl, ⟨a, xs, rfl, e⟩, _, rfl, iteT q⟩
    | tup => obtain ⟨a, xs, rfl, e⟩ := hk; exact iteF ⟨_, rfl, _, .tup, rfl, ⟨a, xs, rfl, e⟩, _, rfl, iteT q⟩
    | ins C => obtain ⟨a, dx, fs, rfl, e⟩ := hk; exact iteF ⟨_, rfl, _, .ins C, rfl, ⟨a, dx, fs, rfl, e⟩, _, rfl, iteT q⟩
def letter (c : Nat) : Bool := !decide ([c] < [97]) && !decide ([122] < [c])
def nameV (v : V) : Bool := match v with
  | .str x => decide (1 ≤ x.length) && decide (x.length ≤ 12) && x.cps.toList.all letter
  | _ => false
theorem signs_all (a : Array Nat) : ((List.range a.size).map fun i => letter (a.getD i 0)).all id = a.toList.all letter := by
  have e : a.toList = (List.range a.size).map fun i => a.getD i 0 := by
    apply List.ext_getElem?
    intro i
    by_cases h : i < a.size
    · simp [h]
    · simp [h]
  rw [e, List.all_map, List.all_map]
  rfl
def spName (K : PySem.W.Frag) : Sp := fun vs H Q _ => ∃ v k, vs = [v] ∧ KdOf K H v k ∧ (∀ x, v = .str x → x.length ≤ sizeLine) ∧ ∀ H', Same H H' → Q (.bl (nameV v)) H'
theorem scName : FnScope ["value"] ["value"] (defScope sIsName) := ⟨rfl, rfl, rfl, by decide +kernel, rfl, by decide +kernel, by decide +kernel⟩
theorem ok_name {f : Addr} {fd : FuncData} {t : Tok} (F : Fun K "is_name" "is_name" sIsName f fd) (B : Blt mg) (hl : mg "LONGEST_NAME" = some (.int 12 t)) : FnOk P w K mg base (CXg P w) 1 f fd ["value"] (spName K) := by
  refine F.okX scName (fun vs H Q E h => ?_) (fun cdv A outer s H vs Q E hr h => ?_)
  · obtain ⟨v, k, rfl, _⟩ := h
    rfl
  · obtain ⟨v, k, rfl, hk, hz, q⟩ := h
    refine ⟨_, pss_cons (ps_if (pw_or (pt_not (pt_val (pe_isT .str B.isinstance B.str (pv 0)))) (pw_or1 (pt_not (pt_chain op_le op_le pe_int (pe_cb call_len_str B.len PySem.boot_len (pa_cons (pv 0) pa_nil)) (pe_gl (.int 12) hl ⟨t, rfl⟩))))).pt (pss_one (ps_ret pe_bl)) pss_nil)
      (pss_one (ps_ret (pe_cb (call_allB rfl) B.all PyProof.Rows.boot_all (pa_cons (pe_comp xacc_fn rfl ⟨_, _, rfl, rfl, rfl⟩ (CompOk.plain (N' := ["sign"]) rfl (by decide +kernel) (by decide +kernel)) (pi_str (pv 0))
        (fun _ _ _ _ _ => pg_nm 0 (show [("sign" : Str)].Nodup by decide +kernel)) (fun _ _ _ _ _ => pts_nil) (fun _ _ _ _ _ _ => pe_chain op_le_str op_le_str pe_str (pv 0) pe_str)) pa_nil)))), ?_⟩
    refine ⟨_, rfl, v, k, rfl, hk, _, rfl, ?_⟩
    cases k with
    | str =>
      obtain ⟨x, rfl⟩ := hk
      refine iteF ⟨_, rfl, x, rfl, hz x rfl, _, _, rfl, rfl, _, rfl, ?_⟩
      have en : nameV (.str x) = (decide (1 ≤ x.length) && decide (x.length ≤ 12) && x.cps.toList.all letter) := rfl
      by_cases h1 : 1 ≤ x.length
      · have h1' : (1 : Int) ≤ (x.length : Int) := by omega
        rw [decide_eq_true h1'] 
        refine iteT ⟨_, _, rfl, rfl, _, rfl, ?_⟩
        by_cases h2 : x.length ≤ 12
        · have h2' : (x.length : Int) ≤ 12 := by omega
          rw [decide_eq_true h2']
          refine iteF ⟨_, rfl, x, rfl, fun D hD => ?_⟩
          rw [decide_eq_true h1, decide_eq_true h2] at en
          have hD1 : Same H (upd H D (.lst ((List.range x.cps.size).map fun i => V.bl (letter (x.cps.getD i 0))))) := upd_new hD
          refine comp_by x.cps.size (hz x rfl) (fun i => .bl (letter (x.cps.getD i 0))) (fun i H' => H' = upd H D (.lst ((List.range i).map fun i => V.bl (letter (x.cps.getD i 0))))) rfl (fun i H' _ e => by rw [e, upd_same]) (fun H' e => ⟨rfl, ?_⟩) (fun i H' lt e => ⟨lt, ?_⟩)
          · subst e
            refine ⟨D, (List.range x.cps.size).map fun i => letter (x.cps.getD i 0), rfl, SqL.of (by rw [upd_same, List.map_map]; rfl), ?_⟩
            rw [signs_all]
            have q' := q _ hD1
            rw [en] at q'
            exact q'
          · rintro v H'' ⟨rfl, c, hc, rfl⟩ Qc k
            subst e
            refine ⟨keepS_plain, _, rfl, _, _, rfl, rfl, _, rfl, ?_⟩
            have k' := k _ upd_same (by rw [upd_upd])
            have ec : x.cps.getD i 0 = c := by simp [hc]
            have el : letter c = (!decide ([c] < [97]) && !decide ([122] < [c])) := rfl
            rw [ec, el] at k'
            change if (!decide ([c] < [97])) = true then _ else _
            cases h3 : !decide ([c] < [97]) with
            | false =>
              rw [h3] at k'
              exact iteF k'
            | true =>
              rw [h3] at k'
              exact iteT ⟨_, _, rfl, rfl, k'⟩
        · have h2' : ¬ (x.length : Int) ≤ 12 := by omega
          rw [decide_eq_false h2']
          have q' := q H (Same.refl _)
          rw [en, decide_eq_true h1, decide_eq_false h2] at q'
          exact iteT q'
      · have h1' : ¬ (1 : Int) ≤ (x.length : Int) := by omega
        rw [decide_eq_false h1']
        have q' := q H (Same.refl _)
        rw [en, decide_eq_false h1] at q'
        exact iteF ⟨_, rfl, iteT q'⟩
    | non => cases hk; exact iteT (iteT (q H (Same.refl _)))
    | bl => obtain ⟨x, rfl⟩ := hk; exact iteT (iteT (q H (Same.refl _)))
    | int => obtain ⟨x, rfl⟩ := hk; exact iteT (iteT (q H (Same.refl _)))
    | lst => obtain ⟨a, xs, rfl, e⟩ := hk; exact iteT (iteT (q H (Same.refl _)))
    | tup => obtain ⟨a, xs, rfl, e⟩ := hk; exact iteT (iteT (q H (Same.refl _)))
    | ins C => obtain ⟨a, dx, fs, rfl, e⟩ := hk; exact iteT (iteT (q H (Same.refl _)))
end
end Tw
set_option Elab.async false
set_option linter.all false
set_option maxRecDepth 100000
set_option maxHeartbeats 1000000
namespace Tw
open PySem L2
abbrev sPotInit : Stmt := inClass (top 15) 0
abbrev sPotGap : Stmt := inClass (top 15) 3
abbrev sCacInit : Stmt := inClass (top 16) 0
abbrev sCacGap : Stmt := inClass (top 16) 3
abbrev vErr : List Value := [.type "ValueError", .type "Exception", .type "BaseException", .type "object"]
/-- a def of the program: what the top has of it -/
structure Fn (K : PySem.W.Frag) (x qual : Str) (st : Stmt) (ps : List Str) (f : Addr) (fd : FuncData) : Prop where
  F : Fun K x qual st f fd
  b : Binds K fd ps []
/-- where the things of the program stand -/
structure Adr where
  (pot cactus garden badPot tooMany noState noPot gErr badRow badDay : Addr)
  (fWhole fName fPI fPG fCI fCG fOwn fCnt fTwc fGI fSize fCans fWGap fPlc fJoin fIsSt fRefSt fNum fSta fFre : Addr)
  (dWhole dName dPI dPG dCI dCG dOwn dCnt dTwc dGI dSize dCans dWGap dPlc dJoin dIsSt dRefSt dNum dSta dFre : FuncData)
structure Exn (K : PySem.W.Frag) (mg : Str → Option Value) (x : Str) (C : Addr) : Prop where
  m : mg x = some (.ref C)
  q : PySem.W.excIn K C vErr "ValueError.__new__" = true
/-- pots: what the top has of them -/
structure TxtP (K : PySem.W.Frag) (mg : Str → Option Value) (a : Adr) : Prop where
  B : Blt mg
  longest : ∃ t, mg "LONGEST_NAME" = some (.int 12 t)
  mostGap : ∃ t, mg "MOST_GAP" = some (.int 60 t)
  badPot : Exn K mg "BadPot" a.badPot
  wh : Fn K "is_whole" "is_whole" sWhole ["value", "least", "most"] a.fWhole a.dWhole
  mwh : mg "is_whole" = some (.ref a.fWhole)
  nm : Fn K "is_name" "is_name" sIsName ["value"] a.fName a.dName
  mnm : mg "is_name" = some (.ref a.fName)
  mPot : mg "Pot" = some (.ref a.pot)
  mCac : mg "Cactus" = some (.ref a.cactus)
  tP : ClsT K a.pot
  tC : ClsT K a.cactus
  nP : ∀ f ∈ (["name", "gap", "rest"] : List Str), NoAttr K a.pot f
  nC : ∀ f ∈ (["name", "gap", "rest"] : List Str), NoAttr K a.cactus f
  PI : Fn K "__init__" "Pot.__init__" sPotInit ["self", "name", "gap"] a.fPI a.dPI
  PG : Fn K "with_gap" "Pot.with_gap" sPotGap ["self", "gap"] a.fPG a.dPG
  CI : Fn K "__init__" "Cactus.__init__" sCacInit ["self", "name", "gap", "rest"] a.fCI a.dCI
  CG : Fn K "with_gap" "Cactus.with_gap" sCacGap ["self", "gap"] a.fCG a.dCG
  kP : Mk K a.pot a.fPI
  kC : Mk K a.cactus a.fCI
  gP : Meth K a.pot "with_gap" a.fPG
  gC : Meth K a.cactus "with_gap" a.fCG
  cI : ClsM K a.pot "__init__" a.fPI
  ne : a.pot ≠ a.cactus
section
variable {P : Program} {w : World} {K : PySem.W.Frag} {mg : Str → Option Value} {base : Heap} {a : Adr}
theorem nd_ng : ¬ (("name" : Str) = "gap") := by decide +kernel
theorem nd_nr : ¬ (("name" : Str) = "rest") := by decide +kernel
theorem nd_gr : ¬ (("gap" : Str) = "rest") := by decide +kernel
theorem put_gap (u v : V) : putF "gap" v [(("name" : Str), u)] = ([("name", u), ("gap", v)] : List (Str × V)) := by
  show (if ("name" : Str) = "gap" then _ else _) = _
  rw [if_neg nd_ng]; rfl
theorem put_rest (u v x : V) : putF "rest" x ([("name", u), ("gap", v)] : List (Str × V)) = ([("name", u), ("gap", v), ("rest", x)] : List (Str × V)) := by
  show (if ("name" : Str) = "rest" then _ else (("name" : Str), u) :: (if ("gap" : Str) = "rest" then _ else (("gap" : Str), v) :: putF "rest" x [])) = _
  rw [if_neg nd_nr, if_neg nd_gr]; rfl
/-- one object may have changed, the others stand -/
def But (p : Addr) (H H' : Hp) : Prop := ∀ b o, b ≠ p → H b = some o → H' b = some o
def potOk (n g : V) : Bool := nameV n && wholeV g 1 60
def smallS (v : V) : Prop := ∀ x, v = .str x → x.length ≤ sizeLine
def spPotInit (K : PySem.W.Frag) (a : Adr) : Sp := fun vs H Q E => ∃ p dx C n g kn kg, vs = [.ref p, n, g] ∧ H p = some (.ins C dx []) ∧ (C = a.pot ∨ C = a.cactus) ∧ KdOf K H n kn ∧ smallS n ∧ KdOf K H g kg ∧
  (potOk n g = false → ∀ H', Same H H' → E (.ref a.badPot) none H') ∧ (potOk n g = true → ∀ H', But p H H' → H' p = some (.ins C dx [("name", n), ("gap", g)]) → Q .non H')
theorem scPI : FnScope ["self", "name", "gap"] ["self", "name", "gap"] (defScope sPotInit) := ⟨rfl, rfl, rfl, by decide +kernel, rfl, by decide +kernel, by decide +kernel⟩
theorem TxtP.cls (T : TxtP K mg a) {C : Addr} (h : C = a.pot ∨ C = a.cactus) : ClsT K C ∧ ∀ f ∈ (["name", "gap", "rest"] : List Str), NoAttr K C f := by
  rcases h with rfl | rfl
  · exact ⟨T.tP, T.nP⟩
  · exact ⟨T.tC, T.nC⟩
theorem TxtP.okW (T : TxtP K mg a) : FnOk P w K mg base (CXg P w) 1 a.fWhole a.dWhole ["value", "least", "most"] (spWhole K) := ok_whole T.wh.F T.B
theorem TxtP.okN (T : TxtP K mg a) : FnOk P w K mg base (CXg P w) 1 a.fName a.dName ["value"] (spName K) := by
  obtain ⟨t, e⟩ := T.longest
  exact ok_name T.nm.F T.B e
theorem ok_potInit (T : TxtP K mg a) : FnOk P w K mg base (CXg P w) 2 a.fPI a.dPI ["self", "name", "gap"] (spPotInit K a) := by
  refine T.PI.F.okX scPI (fun vs H Q E h => ?_) (fun cdv A outer s H vs Q E hr h => ?_)
  · obtain ⟨p, dx, C, n, g, kn, kg, rfl, _⟩ := h
    rfl
  · obtain ⟨p, dx, C, n, g, kn, kg, rfl, hp, hC, hn, sn, hg, bad, good⟩ := h
    obtain ⟨t, mG⟩ := T.mostGap
    obtain ⟨tC, nA⟩ := T.cls hC
    refine ⟨_, pss_cons (ps_if (pt_not (pt_val (pe_fn T.okN hr T.mnm T.nm.F.kp T.nm.b pass_nox (pa_cons (pv 1) pa_nil)))) (pss_one (ps_raise xacc_fn rfl (by rfl) T.badPot.m T.badPot.q PySem.F.excBase_ValueError (pa_cons pe_str pa_nil))) pss_nil)
      (pss_cons (ps_if (pt_not (pt_val (pe_fn T.okW hr T.mwh T.wh.F.kp T.wh.b pass_nox (pa_cons (pv 2) (pa_cons pe_int (pa_cons (pe_gl (.int 60) mG ⟨t, rfl⟩) pa_nil)))))) (pss_one (ps_raise xacc_fn rfl (by rfl) T.badPot.m T.badPot.q PySem.F.excBase_ValueError (pa_cons pe_str pa_nil))) pss_nil)
      (pss_cons (ps_fld (pv 0) (pv 1) rfl) (pss_one (ps_fld (pv 0) (pv 2) rfl)))), ?_⟩
    refine ⟨_, rfl, n, kn, rfl, hn, sn, fun H1 s1 => ⟨_, rfl, ?_⟩⟩
    cases en : nameV n with
    | false => exact iteT ⟨by show 1 ≤ sizeLine; decide, bad (by simp [potOk, en]) H1 s1⟩
    | true =>
      refine iteF ⟨_, rfl, g, 1, 60, kg, rfl, hg.same s1, _, rfl, ?_⟩
      cases eg : wholeV g 1 60 with
      | false => exact iteT ⟨by show 1 ≤ sizeLine; decide, bad (by simp [potOk, en, eg]) H1 s1⟩
      | true =>
        refine iteF ⟨_, rfl, _, rfl, p, C, dx, _, rfl, s1 _ _ hp, tC.cl, nA _ (by simp), by show 0 < 1000; decide, ?_⟩
        refine ⟨_, rfl, _, rfl, p, C, dx, _, rfl, upd_same, tC.cl, nA _ (by simp), by show 1 < 1000; decide, ?_⟩
        refine good (by simp [potOk, en, eg]) _ (fun b o hb e => ?_) ?_
        · rw [upd_ne hb, upd_ne hb]; exact s1 _ _ e
        · rw [upd_same]
          exact congrArg (fun l => some (HO.ins C dx l)) (put_gap n g)
/-! ### what is known of a pot -/
structure PotD where
  nm : Str
  gap : Int
  rest : Option Int
def PotD.fs (p : PotD) : List (Str × V) := match p.rest with
  | none => [("name", .str p.nm), ("gap", .int p.gap)]
  | some r => [("name", .str p.nm), ("gap", .int p.gap), ("rest", .int r)]
def PotD.cls (a : Adr) (p : PotD) : Addr := match p.rest with
  | none => a.pot
  | some _ => a.cactus
def PotAt (a : Adr) (H : Hp) (x : Addr) (p : PotD) : Prop := ∃ dx, H x = some (.ins (p.cls a) dx p.fs)
structure PotD.Ok (p : PotD) : Prop where
  nm : nameV (.str p.nm) = true
  gap : 1 ≤ p.gap ∧ p.gap ≤ 60
  rest : ∀ r, p.rest = some r → 0 ≤ r ∧ r < p.gap
theorem PotAt.same {H H' : Hp} {x : Addr} {p : PotD} (h : PotAt a H x p) (s : Same H H') : PotAt a H' x p := h.imp fun _ e => s _ _ e
theorem PotD.cls_or (p : PotD) : p.cls a = a.pot ∨ p.cls a = a.cactus := by
  unfold PotD.cls
  cases p.rest
  · exact .inl rfl
  · exact .inr rfl
theorem PotD.f_name (p : PotD) : p.fs.lookup ("name" : Str) = some (.str p.nm) := by
  unfold PotD.fs
  cases p.rest <;> rfl
theorem lk_ne {k k' : Str} {v : V} {l : List (Str × V)} (h : (k == k') = false) : ((k', v) :: l).lookup k = l.lookup k := by simp only [List.lookup, h]
theorem lk_eq {k : Str} {v : V} {l : List (Str × V)} : ((k, v) :: l).lookup k = some v := by simp only [List.lookup, beq_self_eq_true]
theorem gn : (("gap" : Str) == "name") = false := by decide +kernel
theorem rn : (("rest" : Str) == "name") = false := by decide +kernel
theorem rg : (("rest" : Str) == "gap") = false := by decide +kernel
theorem lk_gap (u v : V) (l : List (Str × V)) : ((("name", u) :: ("gap", v) :: l : List (Str × V))).lookup ("gap" : Str) = some v := by rw [lk_ne gn, lk_eq]
theorem PotD.f_gap (p : PotD) : p.fs.lookup ("gap" : Str) = some (.int p.gap) := by
  unfold PotD.fs
  cases p.rest with
  | none => exact lk_gap _ _ []
  | some r => exact lk_gap _ _ [("rest", .int r)]
theorem lk_rest (u v x : V) : ([("name", u), ("gap", v), ("rest", x)] : List (Str × V)).lookup ("rest" : Str) = some x := by rw [lk_ne rn, lk_ne rg, lk_eq]
theorem PotD.f_no (p : PotD) {m : Str} (h1 : (m == "name") = false) (h2 : (m == "gap") = false) (h3 : (m == "rest") = false) : p.fs.lookup m = none := by
  unfold PotD.fs
  cases p.rest with
  | none => exact (lk_ne h1).trans (lk_ne h2)
  | some r => exact (lk_ne h1).trans ((lk_ne h2).trans (lk_ne h3))
theorem name_small {x : Str} (h : nameV (.str x) = true) : smallS (.str x) := by
  intro y e
  cases e
  have e : nameV (.str x) = (decide (1 ≤ x.length) && decide (x.length ≤ 12) && x.cps.toList.all letter) := rfl
  rw [e] at h
  simp only [Bool.and_eq_true, decide_eq_true_eq] at h
  exact Nat.le_trans h.1.2 (by decide)
theorem But.made {H H' : Hp} {x dx C : Addr} (nx : H x = none) (ndx : H dx = none) (h : But x (upd (upd H dx (.own x)) x (.ins C dx [])) H') : Same H H' := fun b o e => by
  have n1 := ne_of_none e nx
  have n2 := ne_of_none e ndx
  exact h b o n1 (by rw [upd_ne n1, upd_ne n2]; exact e)
theorem made_same {H : Hp} {x dx C : Addr} (nx : H x = none) (ndx : H dx = none) : Same H (upd (upd H dx (.own x)) x (.ins C dx [])) := fun b o e => by
  rw [upd_ne (ne_of_none e nx), upd_ne (ne_of_none e ndx)]; exact e
/-- Pot(n, g) -/
theorem rd_pot {H : Hp} {Q : Addr → Hp → Prop} {E : XK} {n g : V} {kn kg : Kd} (hn : KdOf K H n kn) (sn : smallS n) (hg : KdOf K H g kg) (bad : potOk n g = false → ∀ H', Same H H' → E (.ref a.badPot) none H')
    (good : potOk n g = true → ∀ H' x, H x = none → Same H H' → (∃ dx, H' x = some (.ins a.pot dx [("name", n), ("gap", g)])) → Q x H') :
    ∀ x dx, H x = none → H dx = none → dx ≠ x → spPotInit K a [.ref x, n, g] (upd (upd H dx (.own x)) x (.ins a.pot dx [])) (fun v H2 => v = .non ∧ Q x H2) E := by
  intro x dx nx ndx ne
  have s0 := made_same (C := a.pot) nx ndx
  exact ⟨x, dx, a.pot, n, g, kn, kg, rfl, upd_same, .inl rfl, hn.same s0, sn, hg.same s0, fun e H' s' => bad e H' (s0.trans s'), fun e H' b' hp => ⟨rfl, good e H' x nx (b'.made nx ndx) ⟨dx, hp⟩⟩⟩
def gapOk (p : PotD) (g : V) : Bool := match p.rest with
  | none => wholeV g 1 60
  | some r => wholeV g 1 60 && match g with
    | .int i => wholeV (.int r) 0 (i - 1)
    | _ => false
def spGap (K : PySem.W.Frag) (a : Adr) (C : Addr) : Sp := fun vs H Q E => ∃ x p g kg, vs = [.ref x, g] ∧ p.cls a = C ∧ PotAt a H x p ∧ p.Ok ∧ KdOf K H g kg ∧
  (gapOk p g = false → ∀ H', Same H H' → E (.ref a.badPot) none H') ∧ (gapOk p g = true → ∀ i H' y, g = .int i → H y = none → Same H H' → PotAt a H' y { p with gap := i } → Q (.ref y) H')
theorem scPG : FnScope ["self", "gap"] ["self", "gap"] (defScope sPotGap) := ⟨rfl, rfl, rfl, by decide +kernel, rfl, by decide +kernel, by decide +kernel⟩
theorem whole_int {g : V} {l m : Int} (h : wholeV g l m = true) : ∃ i, g = .int i ∧ l ≤ i ∧ i ≤ m := by
  cases g with
  | int i => exact ⟨i, rfl, by simpa [wholeV] using h⟩
  | _ => exact absurd h (by simp [wholeV])
theorem ok_potGap (T : TxtP K mg a) : FnOk P w K mg base (CXg P w) 4 a.fPG a.dPG ["self", "gap"] (spGap K a a.pot) := by
  refine T.PG.F.okX scPG (fun vs H Q E h => ?_) (fun cdv A outer s H vs Q E hr h => ?_)
  · obtain ⟨x, p, g, kg, rfl, _⟩ := h
    rfl
  · obtain ⟨x, p, g, kg, rfl, hc, ⟨dx, hx⟩, ok, hg, bad, good⟩ := h
    refine ⟨_, pss_one (ps_ret (pe_mk T.kP (ok_potInit T) hr T.mPot T.PI.b (passes_of xacc_fn) (pa_cons (pe_fld (pv 0) rfl) (pa_cons (pv 1) pa_nil)))), ?_⟩
    rw [hc] at hx
    have hr0 : p.rest = none := by
      cases e : p.rest with
      | none => rfl
      | some r => rw [PotD.cls, e] at hc; exact absurd hc.symm T.ne
    refine ⟨_, rfl, x, a.pot, dx, _, _, rfl, hx, T.tP.cl, T.nP _ (by simp), p.f_name, _, rfl, ?_⟩
    refine rd_pot (kn := .str) ⟨_, rfl⟩ (name_small ok.nm) hg (fun e => bad (by simpa [gapOk, hr0, potOk, ok.nm] using e)) (fun e H' y hy s' hy' => ?_)
    have eg : wholeV g 1 60 = true := by simpa [potOk, ok.nm] using e
    obtain ⟨i, rfl, _⟩ := whole_int eg
    obtain ⟨dy, hy'⟩ := hy'
    refine good (by simpa [gapOk, hr0] using eg) i H' y rfl hy s' ⟨dy, ?_⟩
    rw [hy']
    simp only [PotD.cls, PotD.fs, hr0]
end
end Tw
set_option Elab.async false
set_option linter.all false
set_option maxRecDepth 100000
set_option maxHeartbeats 1000000
namespace Tw
open PySem L2
section
variable {P : Program} {w : World} {K : PySem.W.Frag} {mg : Str → Option Value} {base : Heap} {a : Adr}
def restOk (g r : V) : Bool := match g with
  | .int i => wholeV r 0 (i - 1)
  | _ => false
def spCacInit (K : PySem.W.Frag) (a : Adr) : Sp := fun vs H Q E => ∃ p dx n g r kn kg kr, vs = [.ref p, n, g, r] ∧ H p = some (.ins a.cactus dx []) ∧ KdOf K H n kn ∧ smallS n ∧ KdOf K H g kg ∧ KdOf K H r kr ∧ (∀ q, r = .ref q → q ≠ p) ∧
  ((potOk n g && restOk g r) = false → ∀ H', But p H H' → E (.ref a.badPot) none H') ∧ ((potOk n g && restOk g r) = true → ∀ H', But p H H' → H' p = some (.ins a.cactus dx [("name", n), ("gap", g), ("rest", r)]) → Q .non H')
theorem scCI : FnScope ["self", "name", "gap", "rest"] ["self", "name", "gap", "rest"] (defScope sCacInit) := ⟨rfl, rfl, rfl, by decide +kernel, rfl, by decide +kernel, by decide +kernel⟩
theorem KdOf.but {H H' : Hp} {p : Addr} {v : V} {k : Kd} (h : KdOf K H v k) (b : But p H H') (ne : ∀ q, v = .ref q → q ≠ p) : KdOf K H' v k := by
  cases k with
  | lst =>
    obtain ⟨a, xs, rfl, e | ⟨o, e⟩⟩ := h
    · exact ⟨a, xs, rfl, .inl (b _ _ (ne _ rfl) e)⟩
    · exact ⟨a, xs, rfl, .inr ⟨o, b _ _ (ne _ rfl) e⟩⟩
  | tup => obtain ⟨a, xs, rfl, e⟩ := h; exact ⟨a, xs, rfl, b _ _ (ne _ rfl) e⟩
  | ins C => obtain ⟨a, dx, fs, rfl, e, t⟩ := h; exact ⟨a, dx, fs, rfl, b _ _ (ne _ rfl) e, t⟩
  | _ => exact h
theorem Same.but {H H' : Hp} {p : Addr} (s : Same H H') : But p H H' := fun b o _ e => s b o e
theorem But.trans {H H1 H2 : Hp} {p : Addr} (s : But p H H1) (t : But p H1 H2) : But p H H2 := fun b o n e => t b o n (s b o n e)
theorem but_upd {H : Hp} {p : Addr} {o : HO} : But p H (upd H p o) := fun b u n e => by rw [upd_ne n]; exact e
theorem ok_cacInit (T : TxtP K mg a) : FnOk P w K mg base (CXg P w) 3 a.fCI a.dCI ["self", "name", "gap", "rest"] (spCacInit K a) := by
  refine T.CI.F.okX scCI (fun vs H Q E h => ?_) (fun cdv A outer s H vs Q E hr h => ?_)
  · obtain ⟨p, dx, n, g, r, kn, kg, kr, rfl, _⟩ := h
    rfl
  · obtain ⟨p, dx, n, g, r, kn, kg, kr, rfl, hp, hn, sn, hg, hkr, nr, bad, good⟩ := h
    refine ⟨_, pss_cons (ps_expr (pe_clsM T.mPot T.cI (ok_potInit T) hr T.PI.b (passes_of xacc_fn) (pa_cons (pv 0) (pa_cons (pv 1) (pa_cons (pv 2) pa_nil)))))
      (pss_cons (ps_if (pt_not (pt_val (pe_fn T.okW (hr.mono (by decide)) T.mwh T.wh.F.kp T.wh.b pass_nox (pa_cons (pv 3) (pa_cons pe_int (pa_cons (pe_op op_sub (pv 2) pe_int) pa_nil)))))) (pss_one (ps_raise xacc_fn rfl (by rfl) T.badPot.m T.badPot.q PySem.F.excBase_ValueError (pa_cons pe_str pa_nil))) pss_nil)
      (pss_one (ps_fld (pv 0) (pv 3) rfl))), ?_⟩
    refine ⟨_, rfl, _, rfl, _, rfl, p, dx, a.cactus, n, g, kn, kg, rfl, hp, .inr rfl, hn, sn, hg, fun e H' s' => bad (by simp [e]) H' (Same.but s'), fun e H1 b1 hp1 => ?_⟩
    have eg : wholeV g 1 60 = true := by
      rw [potOk, Bool.and_eq_true] at e
      exact e.2
    obtain ⟨i, rfl, _⟩ := whole_int eg
    refine ⟨_, rfl, _, rfl, _, _, rfl, rfl, r, 0, i - 1, kr, rfl, hkr.but b1 nr, _, rfl, ?_⟩
    cases er : wholeV r 0 (i - 1) with
    | false => exact iteT ⟨by show 1 ≤ sizeLine; decide, bad (by simp [restOk, er]) H1 b1⟩
    | true =>
      refine iteF ⟨_, rfl, _, rfl, p, a.cactus, dx, _, rfl, hp1, T.tC.cl, T.nC _ (by simp), by show 2 < 1000; decide, ?_⟩
      refine good (by simp [e, restOk, er]) _ (b1.trans but_upd) ?_
      rw [upd_same]
      exact congrArg (fun l => some (HO.ins a.cactus dx l)) (put_rest n (.int i) r)
/-- Cactus(n, g, r) -/
theorem rd_cac {H : Hp} {Q : Addr → Hp → Prop} {E : XK} {n g r : V} {kn kg kr : Kd} (hn : KdOf K H n kn) (sn : smallS n) (hg : KdOf K H g kg) (hr : KdOf K H r kr) (bad : (potOk n g && restOk g r) = false → ∀ H', Same H H' → E (.ref a.badPot) none H')
    (good : (potOk n g && restOk g r) = true → ∀ H' x, H x = none → Same H H' → (∃ dx, H' x = some (.ins a.cactus dx [("name", n), ("gap", g), ("rest", r)])) → Q x H') :
    ∀ x dx, H x = none → H dx = none → dx ≠ x → spCacInit K a [.ref x, n, g, r] (upd (upd H dx (.own x)) x (.ins a.cactus dx [])) (fun v H2 => v = .non ∧ Q x H2) E := by
  intro x dx nx ndx ne
  have s0 := made_same (C := a.cactus) nx ndx
  refine ⟨x, dx, n, g, r, kn, kg, kr, rfl, upd_same, hn.same s0, sn, hg.same s0, hr.same s0, fun q e z => ?_, fun e H' s' => bad e H' (s'.made nx ndx), fun e H' b' hp => ⟨rfl, good e H' x nx (b'.made nx ndx) ⟨dx, hp⟩⟩⟩
  subst e z
  cases kr with
  | lst =>
    obtain ⟨_, _, e, h | ⟨_, h⟩⟩ := hr
    · cases e; rw [nx] at h; cases h
    · cases e; rw [nx] at h; cases h
  | tup => obtain ⟨_, _, e, h⟩ := hr; cases e; rw [nx] at h; cases h
  | ins C => obtain ⟨_, _, _, e, h, _⟩ := hr; cases e; rw [nx] at h; cases h
  | non => cases hr
  | bl => obtain ⟨_, e⟩ := hr; cases e
  | int => obtain ⟨_, e⟩ := hr; cases e
  | str => obtain ⟨_, e⟩ := hr; cases e
theorem scCG : FnScope ["self", "gap"] ["self", "gap"] (defScope sCacGap) := ⟨rfl, rfl, rfl, by decide +kernel, rfl, by decide +kernel, by decide +kernel⟩
theorem ok_cacGap (T : TxtP K mg a) : FnOk P w K mg base (CXg P w) 5 a.fCG a.dCG ["self", "gap"] (spGap K a a.cactus) := by
  refine T.CG.F.okX scCG (fun vs H Q E h => ?_) (fun cdv A outer s H vs Q E hr h => ?_)
  · obtain ⟨x, p, g, kg, rfl, _⟩ := h
    rfl
  · obtain ⟨x, p, g, kg, rfl, hc, ⟨dx, hx⟩, ok, hg, bad, good⟩ := h
    refine ⟨_, pss_one (ps_ret (pe_mk T.kC (ok_cacInit T) hr T.mCac T.CI.b (passes_of xacc_fn) (pa_cons (pe_fld (pv 0) rfl) (pa_cons (pv 1) (pa_cons (pe_fld (pv 0) rfl) pa_nil))))), ?_⟩
    rw [hc] at hx
    obtain ⟨r, hr0⟩ : ∃ r, p.rest = some r := by
      cases e : p.rest with
      | none => rw [PotD.cls, e] at hc; exact absurd hc T.ne
      | some r => exact ⟨r, rfl⟩
    have lr : p.fs.lookup ("rest" : Str) = some (.int r) := by simp only [PotD.fs, hr0]; exact lk_rest _ _ _
    refine ⟨_, rfl, x, a.cactus, dx, _, _, rfl, hx, T.tC.cl, T.nC _ (by simp), p.f_name, _, rfl, _, rfl, x, a.cactus, dx, _, _, rfl, hx, T.tC.cl, T.nC _ (by simp), lr, ?_⟩
    have e0 : (potOk (.str p.nm) g && restOk g (.int r)) = gapOk p g := by
      rw [potOk, ok.nm, Bool.true_and, gapOk, hr0]
      rfl
    refine rd_cac (kn := .str) (kr := .int) ⟨_, rfl⟩ (name_small ok.nm) hg ⟨_, rfl⟩ (fun e => bad (by rw [← e0]; exact e)) (fun e H' y hy s' hy' => ?_)
    obtain ⟨i, rfl, _⟩ : ∃ i, g = .int i ∧ True := by
      cases g with
      | int i => exact ⟨i, rfl, trivial⟩
      | _ => exact absurd e (by simp [restOk])
    obtain ⟨dy, hy'⟩ := hy'
    refine good (by rw [← e0]; exact e) i H' y rfl hy s' ⟨dy, ?_⟩
    rw [hy']
    simp only [PotD.cls, PotD.fs, hr0]
/-- pot.with_gap(g), pot of either class -/
theorem TxtP.gap (T : TxtP K mg a) : ∀ C, (C = a.pot ∨ C = a.cactus) → ∃ f fd, Cls K C ∧ Meth K C "with_gap" f ∧ FnOk P w K mg base (CXg P w) 5 f fd ["self", "gap"] (spGap K a C) ∧ Binds K fd ["self", "gap"] [] := by
  intro C h
  rcases h with rfl | rfl
  · exact ⟨_, _, T.tP.cl, T.gP, (ok_potGap T).mono (by decide), T.PG.b⟩
  · exact ⟨_, _, T.tC.cl, T.gC, ok_cacGap T, T.CG.b⟩
theorem pe_gap {X : Cx} {pl : Sem Bool} {o e : Expr} {es : List Expr} {ta : TE} {t : TA} {apos pos : Pos} {E : XK} (he : PE X o ta) (ha : PA X (e :: es) t) (T : TxtP K mg a) (hr : Room 5 X.A) (hx : Passes (CXg X.prog X.w) X E) (hK : X.K = K := by rfl) (hm : X.mg = mg := by rfl)
    (hst : starEach (e :: es) X.env = (false, eval e X.env) :: starEach es X.env := by rfl) (hpl : (backTo pos (starEach es X.env)).any (·.1) = false := by rfl)
    (ht : eval (.Call (.Attribute o "with_gap" apos) (e :: es) [] pos) X.env = (do
      let ov ← eval o X.env
      standAt apos.atName
      let (f, first) ← holding [ov] (getMethod ov "with_gap" pl)
      callWith pos f first (backTo pos (starEach (e :: es) X.env)) (backToKw pos (keywordEach [] X.env))) := by rfl) :
    PE X (.Call (.Attribute o "with_gap" apos) (e :: es) [] pos) (tMethS (fun C => C = a.pot ∨ C = a.cactus) "with_gap" (spGap K a) E ta t) := by
  subst hK hm
  exact pe_methS he hr T.gap hx ha hst hpl ht
end
end Tw
set_option Elab.async false
set_option linter.all false
set_option maxRecDepth 100000
set_option maxHeartbeats 1000000
namespace Tw
open PySem L2
abbrev sOwn : Stmt := top 22
abbrev sCnt : Stmt := top 23
abbrev sTwc : Stmt := top 24
structure TxtG (K : PySem.W.Frag) (mg : Str → Option Value) (a : Adr) : Prop where
  T : TxtP K mg a
  kpp : PySem.W.kitOne K (.ref a.pot) (.ref a.pot) = some true
  kcp : PySem.W.kitOne K (.ref a.cactus) (.ref a.pot) = some true
  kb : ∀ k : Kd, (∀ C, k ≠ .ins C) → PySem.W.kitOne K k.ty (.ref a.pot) = some false
  own : Fn K "own_pots" "own_pots" sOwn ["pots"] a.fOwn a.dOwn
  mOwn : mg "own_pots" = some (.ref a.fOwn)
  cnt : Fn K "refuse_bad_counts" "refuse_bad_counts" sCnt ["pots", "cans", "week", "closed"] a.fCnt a.dCnt
  mCnt : mg "refuse_bad_counts" = some (.ref a.fCnt)
  twc : Fn K "refuse_name_twice" "refuse_name_twice" sTwc ["pots"] a.fTwc a.dTwc
  mTwc : mg "refuse_name_twice" = some (.ref a.fTwc)
  tooMany : Exn K mg "TooMany" a.tooMany
  mostPots : ∃ t, mg "MOST_POTS" = some (.int 8 t)
  mostCans : ∃ t, mg "MOST_CANS" = some (.int 8 t)
  mostWeek : ∃ t, mg "MOST_WEEK" = some (.int 14 t)
  mostStates : ∃ t, mg "MOST_STATES" = some (.int 20000 t)
section
variable {P : Program} {w : World} {K : PySem.W.Frag} {mg : Str → Option Value} {base : Heap} {a : Adr}
def isP (a : Adr) : Kd → Bool
  | .ins C => decide (C = a.pot ∨ C = a.cactus)
  | _ => false
def PK (a : Adr) (k : Kd) : Prop := ∀ C, k = .ins C → C = a.pot ∨ C = a.cactus
theorem TxtG.isP (G : TxtG K mg a) {k : Kd} (h : PK a k) : PySem.W.kitOne K k.ty (.ref a.pot) = some (Tw.isP a k) := by
  cases k with
  | ins C =>
    have e : Tw.isP a (.ins C) = true := decide_eq_true (h C rfl)
    rw [e]
    rcases h C rfl with rfl | rfl
    · exact G.kpp
    · exact G.kcp
  | _ => exact G.kb _ (fun C z => nomatch z)
theorem PotAt.upd {H : Hp} {b D : Addr} {p : PotD} {xs : List V} {o : HO} (h : PotAt a H b p) (hD : H D = some (.lst xs)) : PotAt a (L2.upd H D o) b p := by
  obtain ⟨dx, e⟩ := h
  exact ⟨dx, by rw [upd_ne (ne_of e hD (by intro z; cases z))]; exact e⟩
theorem PotD.gap_ok {p : PotD} (h : p.Ok) : gapOk p (.int p.gap) = true := by
  have h1 : wholeV (.int p.gap) 1 60 = true := by simp [wholeV, h.gap.1, h.gap.2]
  unfold gapOk
  cases e : p.rest with
  | none => exact h1
  | some r =>
    obtain ⟨r0, r1⟩ := h.rest r e
    have r1' : r ≤ p.gap - 1 := by omega
    rw [h1]
    show (true && wholeV (.int r) 0 (p.gap - 1)) = true
    simp [wholeV, r0, r1']
theorem same_upd {H H' : Hp} {D : Addr} {o : HO} (s : Same H H') (h : H D = none) : Same H (L2.upd H' D o) := fun b u e => by rw [upd_ne (ne_of_none e h)]; exact s b u e
/-- a list of refs to pots -/
def Pots (a : Adr) (H : Hp) (as : List Addr) (ps : List PotD) : Prop := Paired (PotAt a H) as ps
theorem Pots.same {H H' : Hp} {as : List Addr} {ps : List PotD} (h : Pots a H as ps) (s : Same H H') : Pots a H' as ps := Paired.mapP h fun _ _ e => e.same s
theorem Pots.upd {H : Hp} {as : List Addr} {ps : List PotD} {D : Addr} {xs : List V} {o : HO} (h : Pots a H as ps) (hD : H D = some (.lst xs)) : Pots a (L2.upd H D o) as ps := Paired.mapP h fun _ _ e => e.upd hD
def spOwn (K : PySem.W.Frag) (a : Adr) : Sp := fun vs H Q E => ∃ v k, vs = [v] ∧ KdOf K H v k ∧ (bi k .list = false → ∀ H', Same H H' → E (.ref a.badPot) none H') ∧
  (bi k .list = true → ∃ l xs ks, v = .ref l ∧ SqL K H l xs ∧ xs.length ≤ 1000 ∧ Paired (KdOf K H) xs ks ∧ (∀ k ∈ ks, PK a k) ∧ (ks.all (isP a) = false → ∀ H', Same H H' → E (.ref a.badPot) none H') ∧
    (ks.all (isP a) = true → ∃ as ps, xs = as.map V.ref ∧ Pots a H as ps ∧ (∀ p ∈ ps, p.Ok) ∧ ∀ H' l' bs, Same H H' → H l' = none → H' l' = some (.lst (bs.map V.ref)) → Pots a H' bs ps → Q (.ref l') H'))
theorem scOwn : FnScope ["pots", "pot"] ["pots"] (defScope sOwn) := ⟨rfl, rfl, rfl, by decide +kernel, rfl, by decide +kernel, by decide +kernel⟩
theorem ok_own (G : TxtG K mg a) : FnOk P w K mg base (CXg P w) 6 a.fOwn a.dOwn ["pots"] (spOwn K a) := by
  refine G.own.F.okX scOwn (fun vs H Q E h => ?_) (fun cdv A outer s H vs Q E hr h => ?_)
  · obtain ⟨v, k, rfl, _⟩ := h
    rfl
  · obtain ⟨v, k, rfl, hk, no, yes⟩ := h
    have T := G.T
    refine ⟨_, pss_cons (ps_if (pt_not (pt_val (pe_isT .list T.B.isinstance T.B.list (pv 0)))) (pss_one (ps_raise xacc_fn rfl (by rfl) T.badPot.m T.badPot.q PySem.F.excBase_ValueError (pa_cons pe_str pa_nil))) pss_nil)
      (pss_cons (ps_for own_pass rfl (pi_list (pv 0)) (pg_nm 1 scOwn.nd)
        (pss_one (ps_if (pt_not (pt_val (pe_isC T.B.isinstance T.mPot (pv 1)))) (pss_one (ps_raise xacc_fn rfl (by rfl) T.badPot.m T.badPot.q PySem.F.excBase_ValueError (pa_cons pe_str pa_nil))) pss_nil)))
      (pss_one (ps_ret (pe_comp xacc_fn rfl ⟨_, _, rfl, rfl, rfl⟩ (CompOk.plain (N' := ["pot"]) rfl (by decide +kernel) (by decide +kernel)) (pi_list (pv 0)) (fun _ _ _ _ _ => pg_nm 0 (show [("pot" : Str)].Nodup by decide +kernel)) (fun _ _ _ _ _ => pts_nil)
        (fun _ _ _ _ _ acc => pe_gap (pv 0) (pa_cons (pe_fk K (pv 0)) pa_nil) T hr (passes_of acc)))))), ?_⟩
    refine ⟨_, rfl, v, k, rfl, hk, _, rfl, ?_⟩
    cases ek : bi k .list with
    | false => exact iteT ⟨by show 1 ≤ sizeLine; decide, no ek H (Same.refl _)⟩
    | true =>
      obtain ⟨l, xs, ks, rfl, hl, hlen, kds, pks, bad, good⟩ := yes ek
      refine iteF ⟨_, rfl, l, rfl, ⟨_, hl⟩, for_list (K := K) (a := l) (xs := xs) (fun i σ H' => ∃ u, σ = [some (.ref l), u] ∧ H = H' ∧ (ks.take i).all (isP a) = true) ⟨none, rfl, rfl, rfl⟩ (fun i σ H' _ ⟨_, _, e, _⟩ => e ▸ hl) ?_ ?_⟩
      · rintro i x σ H' hi ⟨u, rfl, rfl, al⟩
        obtain ⟨kx, hkx, kd⟩ := paired_get kds hi
        refine ⟨_, rfl, x, kx, a.pot, _, rfl, kd, G.isP (pks kx (List.mem_of_getElem? hkx)), _, rfl, ?_⟩
        cases e : isP a kx with
        | false =>
          refine iteT ⟨by show 1 ≤ sizeLine; decide, bad ?_ _ (Same.refl _)⟩
          rw [Bool.eq_false_iff]
          intro z
          rw [List.all_eq_true] at z
          rw [z kx (List.mem_of_getElem? hkx)] at e
          cases e
        | true => exact iteF ⟨_, rfl, rfl, by rw [take_snoc hkx, List.all_append, al]; simp [e]⟩
      · rintro σ H' ⟨u, rfl, rfl, al⟩
        have lk : xs.length = ks.length := Paired.length kds
        rw [lk, List.take_length] at al
        obtain ⟨as, ps, rfl, pots, oks, q⟩ := good al
        refine ⟨_, rfl, l, rfl, ⟨_, hl⟩, fun D hD => ?_⟩
        have sD := upd_new (o := .lst []) hD
        have lp : as.length = ps.length := Paired.length pots
        refine comp_acc as.length (by rw [List.length_map] at hlen; exact Nat.le_trans hlen (by decide)) (fun i acc H' => ∃ bs : List Addr, acc = bs.map V.ref ∧ bs.length = i ∧ H' D = some (.lst acc) ∧ Same H H' ∧ Pots a H' bs (ps.take i)) ⟨[], rfl, rfl, upd_same, sD, .nil⟩
          (fun i acc H' _ ⟨bs, e, lb, hd, _⟩ => ⟨by rw [e, List.length_map, lb], hd⟩) ?_ ?_
        · rintro acc H' ⟨bs, rfl, lb, hd, s', pt⟩
          refine ⟨⟨_, s'.seq hl, by rw [List.length_map]; exact Nat.le_refl _⟩, ?_⟩
          rw [lp, List.take_length] at pt
          exact q H' D bs s' hD hd pt
        · rintro i acc H' lt ⟨bs, rfl, lb, hd, s', pt⟩
          have hl' := s'.seq hl
          obtain ⟨b, hb⟩ : ∃ b, as[i]? = some b := ⟨as[i], List.getElem?_eq_getElem lt⟩
          obtain ⟨p, hp, pb⟩ := paired_get pots hb
          have hx : (as.map V.ref)[i]? = some (.ref b) := by rw [List.getElem?_map, hb]; rfl
          refine ⟨⟨_, _, hl', hx⟩, ?_⟩
          rintro x H'' ⟨rfl, hx'⟩ Qc k
          have ex := hx' _ hl'
          rw [hx] at ex
          cases ex
          obtain ⟨dx, hb'⟩ := pb.same s'
          have okp := oks p (List.mem_of_getElem? hp)
          have cT := T.cls p.cls_or
          refine ⟨keepS_plain, _, rfl, b, p.cls a, dx, _, rfl, hb', p.cls_or, p.f_no (by decide +kernel) (by decide +kernel) (by decide +kernel), _, rfl, b, p.cls a, dx, _, _, rfl, hb', cT.1.cl, cT.2 _ (by simp), p.f_gap, ?_⟩
          refine ⟨b, p, .int p.gap, .int, rfl, rfl, ⟨dx, hb'⟩, okp, ⟨_, rfl⟩, fun z => (by rw [PotD.gap_ok okp] at z; cases z), fun _ j H3 y ej hy s3 py => ?_⟩
          cases ej
          refine k (.ref y) H3 (s3 _ _ hd) ⟨bs ++ [y], by rw [List.map_append]; rfl, by rw [List.length_append, lb]; rfl, upd_same, same_upd (s'.trans s3) hD, ?_⟩
          · rw [take_snoc hp]
            exact Paired.snoc ((pt.same s3).upd (s3 _ _ hd)) (PotAt.upd py (s3 _ _ hd))
end
end Tw
set_option Elab.async false
set_option linter.all false
set_option maxRecDepth 100000
set_option maxHeartbeats 1000000
namespace Tw
open PySem L2
section
variable {X : Cx} {e : Expr} {p pos : Pos}
theorem pe_ct {x : Str} {T : String} {r : List V → Hp → VK → Prop} {es : List Expr} {t : TA} (hc : CallR X (.type T) r) (hm : X.mg x = none) (hv : bootBuiltins x = some (.type T)) (ha : PA X (e :: es) t) (hg : Gl X x := by rfl) (hn : x ≠ "__name__" := by decide) (hdb : (x == ("__debug__" : Str)) = false := by decide)
    (he : starEach (e :: es) X.env = (false, eval e X.env) :: starEach es X.env := by rfl) (hpl : (backTo pos (starEach es X.env)).any (·.1) = false := by rfl) : PE X (.Call (.Name x p) (e :: es) [] pos) (tCB r t) := pe_callTy hc hg hm hv ha hn hdb he hpl
end
section
variable {P : Program} {w : World} {K : PySem.W.Frag} {mg : Str → Option Value} {base : Heap} {a : Adr}
def closedOk (w c : V) : Bool := match w with
  | .int i => wholeV c 0 (1 * 2 ^ i.toNat - 1)
  | _ => false
def cntOk (n : Nat) (c w cl : V) : Bool := decide (1 ≤ n) && decide (n ≤ 8) && wholeV c 0 8 && wholeV w 1 14 && closedOk w cl
def spCnt (K : PySem.W.Frag) (a : Adr) : Sp := fun vs H Q E => ∃ l xs c w cl kc kw kl, vs = [.ref l, c, w, cl] ∧ SqL K H l xs ∧ KdOf K H c kc ∧ KdOf K H w kw ∧ KdOf K H cl kl ∧
  (cntOk xs.length c w cl = false → E (.ref a.tooMany) none H) ∧ (cntOk xs.length c w cl = true → Q .non H)
theorem scCnt : FnScope ["pots", "cans", "week", "closed"] ["pots", "cans", "week", "closed"] (defScope sCnt) := ⟨rfl, rfl, rfl, by decide +kernel, rfl, by decide +kernel, by decide +kernel⟩
theorem ok_cnt (G : TxtG K mg a) : FnOk P w K mg base (CXg P w) 2 a.fCnt a.dCnt ["pots", "cans", "week", "closed"] (spCnt K a) := by
  refine G.cnt.F.okX scCnt (fun vs H Q E h => ?_) (fun cdv A outer s H vs Q E hr h => ?_)
  · obtain ⟨l, xs, c, wk, cl, kc, kw, kl, rfl, _⟩ := h
    rfl
  · obtain ⟨l, xs, c, wk, cl, kc, kw, kl, rfl, hl, hc, hw, hcl, bad, good⟩ := h
    have T := G.T
    obtain ⟨t1, m1⟩ := G.mostPots
    obtain ⟨t2, m2⟩ := G.mostCans
    obtain ⟨t3, m3⟩ := G.mostWeek
    refine ⟨_, pss_cons (ps_if (pt_not (pt_chain op_le op_le pe_int (pe_cb call_len_seq T.B.len PySem.boot_len (pa_cons (pv 0) pa_nil)) (pe_gl (.int 8) m1 ⟨t1, rfl⟩))) (pss_one (ps_raise xacc_fn rfl (by rfl) G.tooMany.m G.tooMany.q PySem.F.excBase_ValueError (pa_cons pe_str pa_nil))) pss_nil)
      (pss_cons (ps_if (pt_not (pt_val (pe_fn T.okW hr T.mwh T.wh.F.kp T.wh.b pass_nox (pa_cons (pv 1) (pa_cons pe_int (pa_cons (pe_gl (.int 8) m2 ⟨t2, rfl⟩) pa_nil)))))) (pss_one (ps_raise xacc_fn rfl (by rfl) G.tooMany.m G.tooMany.q PySem.F.excBase_ValueError (pa_cons pe_str pa_nil))) pss_nil)
      (pss_cons (ps_if (pt_not (pt_val (pe_fn T.okW hr T.mwh T.wh.F.kp T.wh.b pass_nox (pa_cons (pv 2) (pa_cons pe_int (pa_cons (pe_gl (.int 14) m3 ⟨t3, rfl⟩) pa_nil)))))) (pss_one (ps_raise xacc_fn rfl (by rfl) G.tooMany.m G.tooMany.q PySem.F.excBase_ValueError (pa_cons pe_str pa_nil))) pss_nil)
      (pss_one (ps_if (pt_not (pt_val (pe_fn T.okW hr T.mwh T.wh.F.kp T.wh.b pass_nox (pa_cons (pv 3) (pa_cons pe_int (pa_cons (pe_op op_sub (pe_op op_shl pe_int (pv 2)) pe_int) pa_nil)))))) (pss_one (ps_raise xacc_fn rfl (by rfl) G.tooMany.m G.tooMany.q PySem.F.excBase_ValueError (pa_cons pe_str pa_nil))) pss_nil)))), ?_⟩
    refine ⟨_, rfl, l, xs, rfl, .inl hl, _, _, rfl, rfl, _, rfl, ?_⟩
    unfold cntOk at bad good
    by_cases h1 : 1 ≤ xs.length
    · have h1' : (1 : Int) ≤ (xs.length : Int) := by omega
      rw [decide_eq_true h1']
      refine iteT ⟨_, _, rfl, rfl, _, rfl, ?_⟩
      by_cases h2 : xs.length ≤ 8
      · have h2' : (xs.length : Int) ≤ 8 := by omega
        rw [decide_eq_true h2']
        rw [decide_eq_true h1, decide_eq_true h2] at bad good
        refine iteF ⟨_, rfl, c, 0, 8, kc, rfl, hc, _, rfl, ?_⟩
        cases ec : wholeV c 0 8 with
        | false => exact iteT ⟨by show 1 ≤ sizeLine; decide, bad (by rw [ec]; rfl)⟩
        | true =>
          refine iteF ⟨_, rfl, wk, 1, 14, kw, rfl, hw, _, rfl, ?_⟩
          cases ew : wholeV wk 1 14 with
          | false => exact iteT ⟨by show 1 ≤ sizeLine; decide, bad (by rw [ec, ew]; rfl)⟩
          | true =>
            obtain ⟨i, rfl, i1, i2⟩ := whole_int ew
            refine iteF ⟨_, rfl, _, rfl, _, _, rfl, rfl, ⟨by omega, by omega, by decide⟩, _, _, rfl, rfl, cl, 0, _, kl, rfl, hcl, _, rfl, ?_⟩
            rw [ec, ew] at bad good
            cases el : wholeV cl 0 (1 * 2 ^ i.toNat - 1) with
            | false => exact iteT ⟨by show 1 ≤ sizeLine; decide, bad (by rw [closedOk, el]; rfl)⟩
            | true => exact iteF (good (by rw [closedOk, el]; rfl))
      · have h2' : ¬ (xs.length : Int) ≤ 8 := by omega
        rw [decide_eq_false h2']
        exact iteT ⟨by show 1 ≤ sizeLine; decide, bad (by rw [decide_eq_false h2]; simp)⟩
    · have h1' : ¬ (1 : Int) ≤ (xs.length : Int) := by omega
      rw [decide_eq_false h1']
      exact iteF ⟨_, rfl, iteT ⟨by show 1 ≤ sizeLine; decide, bad (by rw [decide_eq_false h1]; simp)⟩⟩
def spTwc (K : PySem.W.Frag) (a : Adr) : Sp := fun vs H Q E => ∃ l as ps, vs = [.ref l] ∧ SqL K H l (as.map V.ref) ∧ Pots a H as ps ∧ as.length ≤ 8 ∧
  (¬ (ps.map PotD.nm).Nodup → ∀ H', Same H H' → E (.ref a.badPot) none H') ∧ ((ps.map PotD.nm).Nodup → ∀ H', Same H H' → Q .non H')
theorem scTwc : FnScope ["pots"] ["pots"] (defScope sTwc) := ⟨rfl, rfl, rfl, by decide +kernel, rfl, by decide +kernel, by decide +kernel⟩
theorem ok_twc (G : TxtG K mg a) : FnOk P w K mg base (CXg P w) 2 a.fTwc a.dTwc ["pots"] (spTwc K a) := by
  refine G.twc.F.okX scTwc (fun vs H Q E h => ?_) (fun cdv A outer s H vs Q E hr h => ?_)
  · obtain ⟨l, as, ps, rfl, _⟩ := h
    rfl
  · obtain ⟨l, as, ps, rfl, hl, pots, h8, bad, good⟩ := h
    have T := G.T
    refine ⟨_, pss_one (ps_if (pt_cmpR op_ne (pe_cb call_lenS T.B.len PySem.boot_len (pa_cons (pe_ct (call_setS rfl) T.B.set PyProof.Rows.boot_set (pa_cons
        (pe_comp xacc_fn rfl ⟨_, _, rfl, rfl, rfl⟩ (CompOk.plain (N' := ["pot"]) rfl (by decide +kernel) (by decide +kernel)) (pi_list (pv 0)) (fun _ _ _ _ _ => pg_nm 0 (show [("pot" : Str)].Nodup by decide +kernel)) (fun _ _ _ _ _ => pts_nil) (fun _ _ _ _ _ _ => pe_fk K (pv 0))) pa_nil)) pa_nil))
      (pe_cb call_len_seq T.B.len PySem.boot_len (pa_cons (pv 0) pa_nil)) (nomark _)) (pss_one (ps_raise xacc_fn rfl (by rfl) T.badPot.m T.badPot.q PySem.F.excBase_ValueError (pa_cons pe_str pa_nil))) pss_nil), ?_⟩
    refine ⟨_, rfl, l, rfl, ⟨_, hl⟩, fun D hD => ?_⟩
    have lp : as.length = ps.length := Paired.length pots
    refine comp_acc as.length (Nat.le_trans h8 (by decide)) (fun i acc H' => acc = ((ps.take i).map PotD.nm).map V.str ∧ upd H D (.lst acc) = H') ⟨rfl, rfl⟩ (fun i acc H' le ⟨e, eh⟩ => ⟨?_, by rw [← eh, upd_same]⟩) ?_ ?_
    · rw [e, List.length_map, List.length_map, List.length_take, ← lp]; omega
    · rintro acc H' ⟨rfl, rfl⟩
      have sD := upd_new (o := .lst (((ps.take as.length).map PotD.nm).map V.str)) hD
      rw [lp, List.take_length] at sD ⊢
      refine ⟨⟨_, sD.seq hl, by rw [List.length_map, lp]; exact Nat.le_refl _⟩, D, ps.map PotD.nm, rfl, SqL.of upd_same, ?_, fun S hS => ?_⟩
      · rw [List.length_map, ← lp]; exact Nat.lt_of_le_of_lt (Nat.succ_le_succ h8) (by decide)
      · have sS := sD.trans (upd_new (o := SetStr P w S (metS (ps.map PotD.nm)).length) hS)
        refine ⟨S, _, rfl, upd_same, _, rfl, l, _, rfl, .inl (sS.seq hl), rfl, _, rfl, ?_⟩
        have e1 : (V.int ((metS (ps.map PotD.nm)).length : Int) = V.int ((as.map V.ref).length : Int)) ↔ (ps.map PotD.nm).Nodup := by
          rw [← metS_eq, List.length_map, List.length_map, ← lp]
          constructor
          · intro z; injection z with z; exact Int.ofNat.inj z
          · intro z; rw [z]
        by_cases nd : (ps.map PotD.nm).Nodup
        · rw [decide_eq_true (e1.mpr nd)]
          exact iteF (good nd _ sS)
        · rw [decide_eq_false (fun z => nd (e1.mp z))]
          exact iteT ⟨by show 1 ≤ sizeLine; decide, bad nd _ sS⟩
    · rintro i acc H' lt ⟨rfl, rfl⟩
      have sD := upd_new (o := .lst (((ps.take i).map PotD.nm).map V.str)) hD
      have hl' := sD.seq hl
      obtain ⟨b, hb⟩ : ∃ b, as[i]? = some b := ⟨as[i], List.getElem?_eq_getElem lt⟩
      obtain ⟨q, hq, pb⟩ := paired_get pots hb
      have hx : (as.map V.ref)[i]? = some (.ref b) := by rw [List.getElem?_map, hb]; rfl
      refine ⟨⟨_, _, hl', hx⟩, ?_⟩
      rintro x H'' ⟨rfl, hx'⟩ Qc k
      have ex := hx' _ hl'
      rw [hx] at ex
      cases ex
      obtain ⟨dx, hb'⟩ := pb.same sD
      have cT := T.cls q.cls_or
      refine ⟨keepS_plain, _, rfl, b, q.cls a, dx, _, _, rfl, hb', cT.1.cl, cT.2 _ (by simp), q.f_name, ?_⟩
      refine k _ _ upd_same ⟨?_, by rw [upd_upd]⟩
      rw [take_snoc hq, List.map_append, List.map_append]
      rfl
end
end Tw
set_option Elab.async false
set_option linter.all false
set_option maxRecDepth 100000
set_option maxHeartbeats 1000000
namespace Tw
open PySem L2
abbrev sGI : Stmt := inClass (top 27) 0
abbrev sSize : Stmt := inClass (top 27) 1
/-- a def with defaults: dV holds them -/
structure FunD (K : PySem.W.Frag) (x qual : Str) (st : Stmt) (dV : Value) (f : Addr) (fd : FuncData) : Prop where
  ex : ∃ (oc : Value) (od : Option Addr) (kV doc pm : Value) (an : Option Addr) (cdv ct : Value) (osl : Array (Option Value)),
    fd = PySem.W.fnOf x qual (defArgs st) (defBody st) (defScope st) dV kV doc pm an cdv ct ∧ K.lookup f = some ⟨oc, od, .func fd, osl⟩ ∧ PySem.W.codeIn K cdv qual = true
  kp : PySem.W.keepIn K (.ref f) = true
theorem FunD.okX {P : Program} {w : World} {K : PySem.W.Frag} {mg : Str → Option Value} {base : Heap} {x qual : Str} {st : Stmt} {dV : Value} {f : Addr} {fd : FuncData} {N ps : List Str} {k : Nat} {sp : Sp} (F : FunD K x qual st dV f fd) (S : FnScope N ps (defScope st)) (len : ∀ vs H Q E, sp vs H Q E → vs.length = ps.length)
    (body : ∀ (cdv : Value) (A : Around) (outer : List Env) (s : Shared) (H : Hp) (vs : List V) (Q : VK) (E : XK), Room k (A.deeper (PyProof.Rows.envOfC qual (defScope st) s.heap.objs.size f cdv)) → sp vs H Q E →
      ∃ t, PSs (cxOf (CXg P w) P w K mg base N qual (defScope st) f cdv A outer s H E) (defBody st) t ∧ t { nx := fun _ H' => Q .non H', rt := Q } (start N vs) H) : FnOk P w K mg base (CXg P w) (k + 1) f fd ps sp := by
  obtain ⟨oc, od, kV, doc, pm, an, cdv, ct, osl, rfl, lk, hcd⟩ := F.ex
  exact fn_of lk hcd S len fun A outer s H vs Q E hr h => body cdv A outer s H vs Q E hr h
/-- gardens: what the top has of them -/
structure TxtH (K : PySem.W.Frag) (mg : Str → Option Value) (a : Adr) (dV : Value) : Prop where
  G : TxtG K mg a
  tG : ClsT K a.garden
  mGar : mg "Garden" = some (.ref a.garden)
  nG : ∀ f ∈ (["pots", "cans", "week", "closed"] : List Str), NoAttr K a.garden f
  gi : FunD K "__init__" "Garden.__init__" sGI dV a.fGI a.dGI
  b4 : Binds K a.dGI ["self", "pots", "cans", "week", "closed"] []
  b1 : ∃ t1 t2 t3, Binds K a.dGI ["self", "pots", "cans", "week", "closed"] [.int 1 t1, .int 1 t2, .int 0 t3]
  b2 : ∃ t2 t3, Binds K a.dGI ["self", "pots", "cans", "week", "closed"] [.int 1 t2, .int 0 t3]
  kG : Mk K a.garden a.fGI
  size : Fn K "size" "Garden.size" sSize ["self"] a.fSize a.dSize
  mSize : Meth K a.garden "size" a.fSize
section
variable {P : Program} {w : World} {K : PySem.W.Frag} {mg : Str → Option Value} {base : Heap} {a : Adr} {dV : Value}
structure GarD where
  pots : List PotD
  cans : Int
  week : Int
  closed : Int
def gfs (l : Addr) (c w cl : V) : List (Str × V) := [("pots", .ref l), ("cans", c), ("week", w), ("closed", cl)]
theorem g_pots (l : Addr) (c w cl : V) : (gfs l c w cl).lookup ("pots" : Str) = some (.ref l) := lk_eq
theorem g_cans (l : Addr) (c w cl : V) : (gfs l c w cl).lookup ("cans" : Str) = some c := (lk_ne (by decide +kernel)).trans lk_eq
theorem g_week (l : Addr) (c w cl : V) : (gfs l c w cl).lookup ("week" : Str) = some w := (lk_ne (by decide +kernel)).trans ((lk_ne (by decide +kernel)).trans lk_eq)
theorem g_closed (l : Addr) (c w cl : V) : (gfs l c w cl).lookup ("closed" : Str) = some cl := (lk_ne (by decide +kernel)).trans ((lk_ne (by decide +kernel)).trans ((lk_ne (by decide +kernel)).trans lk_eq))
theorem g_no (l : Addr) (c w cl : V) {m : Str} (h1 : (m == "pots") = false) (h2 : (m == "cans") = false) (h3 : (m == "week") = false) (h4 : (m == "closed") = false) : (gfs l c w cl).lookup m = none :=
  (lk_ne h1).trans ((lk_ne h2).trans ((lk_ne h3).trans (lk_ne h4)))
theorem putF_ne {f g : Str} {v x : V} {r : List (Str × V)} (h : ¬ g = f) : putF f v ((g, x) :: r) = (g, x) :: putF f v r := by
  show (if g = f then _ else _) = _
  rw [if_neg h]
theorem g_put (l : Addr) (c w cl : V) : putF "closed" cl (putF "week" w (putF "cans" c (putF "pots" (.ref l) []))) = gfs l c w cl := by
  have e1 : putF "pots" (V.ref l) [] = [(("pots" : Str), V.ref l)] := rfl
  have e2 : putF "cans" c [(("pots" : Str), V.ref l)] = ([("pots", V.ref l), ("cans", c)] : List (Str × V)) := by rw [putF_ne (by decide +kernel)]; rfl
  have e3 : putF "week" w ([("pots", V.ref l), ("cans", c)] : List (Str × V)) = ([("pots", V.ref l), ("cans", c), ("week", w)] : List (Str × V)) := by rw [putF_ne (by decide +kernel), putF_ne (by decide +kernel)]; rfl
  have e4 : putF "closed" cl ([("pots", V.ref l), ("cans", c), ("week", w)] : List (Str × V)) = ([("pots", V.ref l), ("cans", c), ("week", w), ("closed", cl)] : List (Str × V)) := by rw [putF_ne (by decide +kernel), putF_ne (by decide +kernel), putF_ne (by decide +kernel)]; rfl
  rw [e1, e2, e3, e4]
  rfl
def sizeOf (wk : Int) (ps : List PotD) : Int := ps.foldl (fun s p => s * p.gap) wk
def GarAt (a : Adr) (H : Hp) (x : Addr) (g : GarD) : Prop := ∃ dx l as, H x = some (.ins a.garden dx (gfs l (.int g.cans) (.int g.week) (.int g.closed))) ∧ H l = some (.lst (as.map V.ref)) ∧ Pots a H as g.pots
theorem GarAt.same {H H' : Hp} {x : Addr} {g : GarD} (h : GarAt a H x g) (s : Same H H') : GarAt a H' x g := by
  obtain ⟨dx, l, as, h1, h2, h3⟩ := h
  exact ⟨dx, l, as, s _ _ h1, s _ _ h2, h3.same s⟩
/-! ### size -/
def spSize (K : PySem.W.Frag) (a : Adr) : Sp := fun vs H Q _ => ∃ x dx l as ps c wk cl, vs = [.ref x] ∧ H x = some (.ins a.garden dx (gfs l c (.int wk) cl)) ∧ SqL K H l (as.map V.ref) ∧ Pots a H as ps ∧ (∀ p ∈ ps, p.Ok) ∧ Q (.int (sizeOf wk ps)) H
theorem scSize : FnScope ["self", "states", "pot"] ["self"] (defScope sSize) := ⟨rfl, rfl, rfl, by decide +kernel, rfl, by decide +kernel, by decide +kernel⟩
theorem ok_size (Z : TxtH K mg a dV) : FnOk P w K mg base (CXg P w) 1 a.fSize a.dSize ["self"] (spSize K a) := by
  refine Z.size.F.okX scSize (fun vs H Q E h => ?_) (fun cdv A outer s H vs Q E hr h => ?_)
  · obtain ⟨x, dx, l, as, ps, c, wk, cl, rfl, _⟩ := h
    rfl
  · obtain ⟨x, dx, l, as, ps, c, wk, cl, rfl, hx, hl, pots, oks, q⟩ := h
    have T := Z.G.T
    refine ⟨_, pss_cons (ps_set (i := 1) scSize.nd rfl (Or.inl rfl) (pe_fld (pv 0) rfl)) (pss_cons (ps_for own_pass rfl (pi_list (pe_fld (pv 0) rfl)) (pg_nm 2 scSize.nd) (pss_one (ps_set (i := 1) scSize.nd rfl (Or.inl rfl) (pe_op op_mul (pv 1) (pe_fld (pv 2) rfl))))) (pss_one (ps_ret (pv 1)))), ?_⟩
    refine ⟨_, rfl, x, a.garden, dx, _, _, rfl, hx, Z.tG.cl, Z.nG _ (by simp), g_week .., _, rfl, x, a.garden, dx, _, _, rfl, hx, Z.tG.cl, Z.nG _ (by simp), g_pots .., l, rfl, ⟨_, hl⟩,
      for_list (K := K) (a := l) (xs := as.map V.ref) (fun i σ H' => ∃ u, σ = [some (.ref x), some (.int (sizeOf wk (ps.take i))), u] ∧ H = H') ⟨none, rfl, rfl⟩ (fun i σ H' _ ⟨_, _, e⟩ => e ▸ hl) ?_ ?_⟩
    · rintro i y σ H' hi ⟨u, rfl, rfl⟩
      rw [List.getElem?_map] at hi
      obtain ⟨b, hb, rfl⟩ := Option.map_eq_some_iff.mp hi
      obtain ⟨p, hp, dy, hb'⟩ := paired_get pots hb
      have okp := oks p (List.mem_of_getElem? hp)
      have cT := T.cls p.cls_or
      refine ⟨_, rfl, _, rfl, b, p.cls a, dy, _, _, rfl, hb', cT.1.cl, cT.2 _ (by simp), p.f_gap, _, _, rfl, rfl, .inr ⟨by have := okp.gap; omega, by have := okp.gap; omega⟩, ?_⟩
      have e : sizeOf wk (ps.take (i + 1)) = sizeOf wk (ps.take i) * p.gap := by
        rw [take_snoc hp, sizeOf, sizeOf, List.foldl_append]
        rfl
      refine ⟨some (.ref b), ?_, rfl⟩
      rw [e]
      rfl
    · rintro σ H' ⟨u, rfl, rfl⟩
      refine ⟨_, rfl, ?_⟩
      have lp : as.length = ps.length := Paired.length pots
      rw [List.length_map, lp, List.take_length]
      exact q
/-- the end of the arguments -/
theorem nil_ {σ : St} {H : Hp} {R : List V → Hp → Prop} (h : R [] H) : tNil σ H R := h
/-! ### Garden(..) -/
inductive GRes where
  | bad | many | ok
  deriving DecidableEq
def gRes (ps : List PotD) (c w cl : V) : GRes :=
  if cntOk ps.length c w cl = false then .many else if ¬ (ps.map PotD.nm).Nodup then .bad else
  match w with
  | .int wk => if 20000 < sizeOf wk ps then .many else .ok
  | _ => .many
def gOut (o : Option (List PotD)) (c w cl : V) : GRes := match o with
  | none => .bad
  | some ps => gRes ps c w cl
/-- what is handed in as a list of pots; none: it is none -/
inductive GArg (K : PySem.W.Frag) (a : Adr) (H : Hp) : V → Option (List PotD) → Prop where
  | no {v : V} {k : Kd} (hk : KdOf K H v k) (h : bi k .list = false) : GArg K a H v none
  | mix {l : Addr} {xs : List V} {ks : List Kd} (hk : KdOf K H (.ref l) .lst) (hl : SqL K H l xs) (len : xs.length ≤ 1000) (kds : Paired (KdOf K H) xs ks) (pk : ∀ k ∈ ks, PK a k) (h : ks.all (isP a) = false) : GArg K a H (.ref l) none
  | pots {l : Addr} {as : List Addr} {ps : List PotD} (hk : KdOf K H (.ref l) .lst) (hl : SqL K H l (as.map V.ref)) (len : as.length ≤ 1000) (pots : Pots a H as ps) (oks : ∀ p ∈ ps, p.Ok) : GArg K a H (.ref l) (some ps)
theorem pots_kds (T : TxtP K mg a) {H : Hp} {as : List Addr} {ps : List PotD} (h : Pots a H as ps) : Paired (KdOf K H) (as.map V.ref) (ps.map fun p => Kd.ins (p.cls a)) := by
  induction h with
  | nil => exact .nil
  | cons r _ ih =>
    obtain ⟨dx, e⟩ := r
    exact .cons ⟨_, dx, _, rfl, e, (T.cls (PotD.cls_or _)).1⟩ ih
theorem pots_isP {ps : List PotD} : (ps.map fun p => Kd.ins (p.cls a)).all (isP a) = true := by
  rw [List.all_map, List.all_eq_true]
  intro p _
  exact decide_eq_true p.cls_or
/-- own_pots, by what is handed in -/
theorem rd_own (T : TxtP K mg a) {H : Hp} {Q : VK} {E : XK} {v : V} {o : Option (List PotD)} (g : GArg K a H v o) (bad : o = none → ∀ H', Same H H' → E (.ref a.badPot) none H')
    (good : ∀ ps, o = some ps → (∀ p ∈ ps, p.Ok) → ∀ H' l' bs, Same H H' → H l' = none → H' l' = some (.lst (bs.map V.ref)) → Pots a H' bs ps → Q (.ref l') H') : spOwn K a [v] H Q E := by
  cases g with
  | no hk h => exact ⟨v, _, rfl, hk, fun _ => bad rfl, fun z => by rw [h] at z; cases z⟩
  | mix hk hl len kds pk h => exact ⟨_, _, rfl, hk, (fun z => nomatch z), fun _ => ⟨_, _, _, rfl, hl, len, kds, pk, fun _ => bad rfl, fun z => by rw [h] at z; cases z⟩⟩
  | pots hk hl len pots oks =>
    refine ⟨_, _, rfl, hk, (fun z => nomatch z), fun _ => ⟨_, _, _, rfl, hl, by rw [List.length_map]; exact len, pots_kds T pots, ?_, fun z => ?_, fun _ => ⟨_, _, rfl, pots, oks, good _ rfl oks⟩⟩⟩
    · intro k hk C e
      obtain ⟨p, _, rfl⟩ := List.mem_map.mp hk
      cases e
      exact p.cls_or
    · rw [pots_isP] at z
      cases z
def spGI (K : PySem.W.Frag) (a : Adr) : Sp := fun vs H Q E => ∃ x dx v c w cl o kc kw kl, vs = [.ref x, v, c, w, cl] ∧ H x = some (.ins a.garden dx []) ∧ GArg K a H v o ∧ KdOf K H c kc ∧ KdOf K H w kw ∧ KdOf K H cl kl ∧
  (gOut o c w cl = .bad → ∀ H', But x H H' → E (.ref a.badPot) none H') ∧ (gOut o c w cl = .many → ∀ H', But x H H' → E (.ref a.tooMany) none H') ∧
  (gOut o c w cl = .ok → ∀ ps ci wi li H', o = some ps → c = .int ci → w = .int wi → cl = .int li → But x H H' → GarAt a H' x ⟨ps, ci, wi, li⟩ → Q .non H')
theorem scGI : FnScope ["self", "pots", "cans", "week", "closed", "copies"] ["self", "pots", "cans", "week", "closed"] (defScope sGI) := ⟨rfl, rfl, rfl, by decide +kernel, rfl, by decide +kernel, by decide +kernel⟩
theorem ok_gi (Z : TxtH K mg a dV) : FnOk P w K mg base (CXg P w) 7 a.fGI a.dGI ["self", "pots", "cans", "week", "closed"] (spGI K a) := by
  refine Z.gi.okX scGI (fun vs H Q E h => ?_) (fun cdv A outer s H vs Q E hr h => ?_)
  · obtain ⟨x, dx, v, c, wk, cl, o, kc, kw, kl, rfl, _⟩ := h
    rfl
  · obtain ⟨x, dx, v, c, wk, cl, o, kc, kw, kl, rfl, hx, ga, hc, hw, hcl, bad, many, good⟩ := h
    have G := Z.G
    have T := G.T
    obtain ⟨t1, m1⟩ := G.mostStates
    have hr2 : Room 2 _ := hr.mono (by decide)
    refine ⟨_, pss_cons (ps_set (i := 5) scGI.nd rfl (Or.inl rfl) (pe_fn (ok_own G) hr G.mOwn G.own.F.kp G.own.b (passes_of xacc_fn) (pa_cons (pv 1) pa_nil)))
      (pss_cons (ps_expr (pe_fn (ok_cnt G) hr2 G.mCnt G.cnt.F.kp G.cnt.b (passes_of xacc_fn) (pa_cons (pv 5) (pa_cons (pv 2) (pa_cons (pv 3) (pa_cons (pv 4) pa_nil))))))
      (pss_cons (ps_expr (pe_fn (ok_twc G) hr2 G.mTwc G.twc.F.kp G.twc.b (passes_of xacc_fn) (pa_cons (pv 5) pa_nil)))
      (pss_cons (ps_fld (pv 0) (pv 5) rfl) (pss_cons (ps_fld (pv 0) (pv 2) rfl) (pss_cons (ps_fld (pv 0) (pv 3) rfl) (pss_cons (ps_fld (pv 0) (pv 4) rfl)
      (pss_one (ps_if (pt_cmpR op_gt (pe_meth0 (pv 0) Z.tG.cl Z.mSize (ok_size Z) (hr.mono (by decide)) Z.size.b .nil pass_nox) (pe_gl (.int 20000) m1 ⟨t1, rfl⟩) (nomark _)) (pss_one (ps_raise xacc_fn rfl (by rfl) G.tooMany.m G.tooMany.q PySem.F.excBase_ValueError (pa_cons pe_str pa_nil))) pss_nil)))))))), ?_⟩
    refine ⟨_, rfl, nil_ (rd_own T ga (fun e H' s' => bad (by rw [e]; rfl) H' (Same.but s')) (fun ps eo oks H1 l bs s1 fl hl1 pt1 => ?_))⟩
    subst eo
    have lb : bs.length = ps.length := Paired.length pt1
    have hl1' : SqL K H1 l (bs.map V.ref) := SqL.of hl1
    refine ⟨_, rfl, _, rfl, _, rfl, _, rfl, l, _, c, wk, cl, kc, kw, kl, rfl, hl1', hc.same s1, hw.same s1, hcl.same s1, fun e => many ?_ H1 (Same.but s1), fun e => ?_⟩
    · rw [List.length_map, lb] at e
      show gRes _ _ _ _ = _
      unfold gRes
      rw [if_pos e]
    · rw [List.length_map, lb] at e
      have e' : ¬ cntOk ps.length c wk cl = false := by rw [e]; exact Bool.noConfusion
      have h8 : ps.length ≤ 8 ∧ (∃ ci, c = .int ci) ∧ (∃ wi, wk = .int wi) ∧ ∃ li, cl = .int li := by
        unfold cntOk at e
        simp only [Bool.and_eq_true, decide_eq_true_eq] at e
        obtain ⟨⟨⟨⟨e1, e2⟩, e3⟩, e4⟩, e5⟩ := e
        obtain ⟨ci, rfl, _⟩ := whole_int e3
        obtain ⟨wi, rfl, _⟩ := whole_int e4
        obtain ⟨li, rfl, _⟩ := whole_int e5
        exact ⟨e2, ⟨_, rfl⟩, ⟨_, rfl⟩, ⟨_, rfl⟩⟩
      obtain ⟨h8, ⟨ci, rfl⟩, ⟨wi, rfl⟩, ⟨li, rfl⟩⟩ := h8
      refine ⟨_, rfl, l, bs, ps, rfl, hl1', pt1, by rw [lb]; exact h8, fun nd H2 s2 => bad ?_ H2 (Same.but (s1.trans s2)), fun nd H2 s2 => ?_⟩
      · show gRes _ _ _ _ = _
        unfold gRes
        rw [if_neg e', if_pos nd]
      · have nxl : x ≠ l := ne_of_none hx fl
        have s12 := s1.trans s2
        have hx2 := s12 _ _ hx
        refine ⟨_, rfl, _, rfl, x, a.garden, dx, _, rfl, hx2, Z.tG.cl, Z.nG _ (by simp), by show 0 < 1000; decide, ?_⟩
        refine ⟨_, rfl, _, rfl, x, a.garden, dx, _, rfl, upd_same, Z.tG.cl, Z.nG _ (by simp), by show 1 < 1000; decide, ?_⟩
        refine ⟨_, rfl, _, rfl, x, a.garden, dx, _, rfl, upd_same, Z.tG.cl, Z.nG _ (by simp), (by rw [show putF "cans" (V.int ci) (putF "pots" (V.ref l) []) = [(("pots" : Str), V.ref l), (("cans" : Str), V.int ci)] from putF_ne (by decide +kernel)]; show 2 < 1000; decide), ?_⟩
        refine ⟨_, rfl, _, rfl, x, a.garden, dx, _, rfl, upd_same, Z.tG.cl, Z.nG _ (by simp), ?_, ?_⟩
        · have := length_putF "week" (V.int wi) (putF "cans" (V.int ci) (putF "pots" (V.ref l) []))
          have := length_putF "cans" (V.int ci) (putF "pots" (V.ref l) [])
          have := length_putF "pots" (V.ref l) []
          simp at this
          omega
        · rw [upd_upd, upd_upd, upd_upd, g_put]
          generalize eH : upd H2 x (.ins a.garden dx (gfs l (.int ci) (.int wi) (.int li))) = H3
          have hx3 : H3 x = some (.ins a.garden dx (gfs l (.int ci) (.int wi) (.int li))) := by rw [← eH, upd_same]
          have b3 : But x H H3 := fun b o n e => by rw [← eH, upd_ne n]; exact s12 _ _ e
          have hl3 : H3 l = some (.lst (bs.map V.ref)) := by rw [← eH, upd_ne nxl.symm]; exact s2 _ _ hl1
          have pt3 : Pots a H3 bs ps := by
            refine Paired.mapP (pt1.same s2) fun b p e => ?_
            obtain ⟨dy, e⟩ := e
            refine ⟨dy, ?_⟩
            rw [← eH, upd_ne ?_]
            · exact e
            · intro z
              subst z
              rw [e] at hx2
              have := (Option.some.inj hx2)
              injection this with _ _ e3
              unfold PotD.fs at e3
              split at e3 <;> cases e3
          refine ⟨_, rfl, x, dx, _, rfl, hx3, g_no _ _ _ _ (by decide +kernel) (by decide +kernel) (by decide +kernel) (by decide +kernel), x, dx, l, bs, ps, _, wi, _, rfl, hx3, SqL.of hl3, pt3, oks, _, _, rfl, rfl, _, rfl, ?_⟩
          by_cases big : 20000 < sizeOf wi ps
          · rw [decide_eq_true big]
            refine iteT ⟨by show 1 ≤ sizeLine; decide, many ?_ _ b3⟩
            show gRes _ _ _ _ = _
            unfold gRes
            rw [if_neg e', if_neg (fun z => z nd)]
            exact if_pos big
          · rw [decide_eq_false big]
            refine iteF (good ?_ ps ci wi li _ rfl rfl rfl rfl b3 ⟨dx, l, bs, hx3, hl3, pt3⟩)
            show gRes _ _ _ _ = _
            unfold gRes
            rw [if_neg e', if_neg (fun z => z nd)]
            exact if_neg big
end
end Tw
set_option Elab.async false
set_option linter.all false
set_option maxRecDepth 100000
set_option maxHeartbeats 1000000
namespace Tw
open PySem L2
abbrev sCans : Stmt := top 28
abbrev sPlc : Stmt := top 29
abbrev sWGap : Stmt := top 30
abbrev sJoin : Stmt := top 31
/-- gardens made of gardens -/
structure TxtJ (K : PySem.W.Frag) (mg : Str → Option Value) (a : Adr) (dV : Value) : Prop where
  Z : TxtH K mg a dV
  cans : Fn K "with_cans" "with_cans" sCans ["garden", "cans"] a.fCans a.dCans
  mCans : mg "with_cans" = some (.ref a.fCans)
  plc : Fn K "place_of" "place_of" sPlc ["garden", "name"] a.fPlc a.dPlc
  mPlc : mg "place_of" = some (.ref a.fPlc)
  wgap : Fn K "with_gap" "with_gap" sWGap ["garden", "name", "gap"] a.fWGap a.dWGap
  mWGap : mg "with_gap" = some (.ref a.fWGap)
  join : Fn K "joined" "joined" sJoin ["one", "other"] a.fJoin a.dJoin
  mJoin : mg "joined" = some (.ref a.fJoin)
  noPot : Exn K mg "NoPot" a.noPot
section
variable {P : Program} {w : World} {K : PySem.W.Frag} {mg : Str → Option Value} {base : Heap} {a : Adr} {dV : Value}
theorem GArg.same {H H' : Hp} {v : V} {o : Option (List PotD)} (g : GArg K a H v o) (s : Same H H') : GArg K a H' v o := by
  cases g with
  | no hk h => exact .no (hk.same s) h
  | mix hk hl len kds pk h => exact .mix (hk.same s) (s.seq hl) len (Paired.mapP kds fun _ _ e => e.same s) pk h
  | pots hk hl len pots oks => exact .pots (hk.same s) (s.seq hl) len (pots.same s) oks
/-- what comes of making a garden -/
structure GPost (a : Adr) (H : Hp) (Q : Addr → Hp → Prop) (E : XK) (o : Option (List PotD)) (c w cl : V) : Prop where
  bad : gOut o c w cl = .bad → ∀ H', Same H H' → E (.ref a.badPot) none H'
  many : gOut o c w cl = .many → ∀ H', Same H H' → E (.ref a.tooMany) none H'
  ok : gOut o c w cl = .ok → ∀ ps ci wi li H' x, o = some ps → c = .int ci → w = .int wi → cl = .int li → H x = none → Same H H' → GarAt a H' x ⟨ps, ci, wi, li⟩ → Q x H'
theorem GPost.from {H H1 : Hp} {Q : Addr → Hp → Prop} {E : XK} {o : Option (List PotD)} {c w cl : V} (p : GPost a H Q E o c w cl) (s : Same H H1) : GPost a H1 Q E o c w cl :=
  ⟨fun e H' s' => p.bad e H' (s.trans s'), fun e H' s' => p.many e H' (s.trans s'), fun e ps ci wi li H' x h1 h2 h3 h4 hx s' g => p.ok e ps ci wi li H' x h1 h2 h3 h4 (s.free hx) (s.trans s') g⟩
/-- Garden(v, c, w, cl) -/
theorem rd_gar {H : Hp} {Q : Addr → Hp → Prop} {E : XK} {v c w cl : V} {o : Option (List PotD)} {kc kw kl : Kd} (ga : GArg K a H v o) (hc : KdOf K H c kc) (hw : KdOf K H w kw) (hcl : KdOf K H cl kl) (p : GPost a H Q E o c w cl) :
    ∀ x dx, H x = none → H dx = none → dx ≠ x → spGI K a [.ref x, v, c, w, cl] (upd (upd H dx (.own x)) x (.ins a.garden dx [])) (fun v H2 => v = .non ∧ Q x H2) E := by
  intro x dx nx ndx ne
  have s0 := made_same (C := a.garden) nx ndx
  exact ⟨x, dx, v, c, w, cl, o, kc, kw, kl, rfl, upd_same, ga.same s0, hc.same s0, hw.same s0, hcl.same s0, fun e H' b => p.bad e H' (b.made nx ndx), fun e H' b => p.many e H' (b.made nx ndx),
    fun e ps ci wi li H' h1 h2 h3 h4 b g => ⟨rfl, p.ok e ps ci wi li H' x h1 h2 h3 h4 nx (b.made nx ndx) g⟩⟩
theorem GarAt.arg {H : Hp} {x l dx : Addr} {as : List Addr} {ps : List PotD} (hl : H l = some (.lst (as.map V.ref))) (h8 : as.length ≤ 1000) (pt : Pots a H as ps) (oks : ∀ p ∈ ps, p.Ok) : GArg K a H (.ref l) (some ps) :=
  .pots ⟨l, _, rfl, .inl hl⟩ (SqL.of hl) h8 pt oks
/-! ### with_cans -/
def spCans (K : PySem.W.Frag) (a : Adr) : Sp := fun vs H Q E => ∃ x g c kc, vs = [.ref x, c] ∧ GarAt a H x g ∧ (∀ p ∈ g.pots, p.Ok) ∧ g.pots.length ≤ 8 ∧ KdOf K H c kc ∧ GPost a H (fun x => Q (.ref x)) E (some g.pots) c (.int g.week) (.int g.closed)
theorem scCans : FnScope ["garden", "cans"] ["garden", "cans"] (defScope sCans) := ⟨rfl, rfl, rfl, by decide +kernel, rfl, by decide +kernel, by decide +kernel⟩
theorem ok_cans (J : TxtJ K mg a dV) : FnOk P w K mg base (CXg P w) 9 a.fCans a.dCans ["garden", "cans"] (spCans K a) := by
  refine J.cans.F.okX scCans (fun vs H Q E h => ?_) (fun cdv A outer s H vs Q E hr h => ?_)
  · obtain ⟨x, g, c, kc, rfl, _⟩ := h
    rfl
  · obtain ⟨x, g, c, kc, rfl, ⟨dx, l, as, hx, hl, pt⟩, oks, h8, hc, post⟩ := h
    have Z := J.Z
    refine ⟨_, pss_one (ps_ret (pe_mk Z.kG (ok_gi Z) hr Z.mGar Z.b4 (passes_of xacc_fn) (pa_cons (pe_fld (pv 0) rfl) (pa_cons (pv 1) (pa_cons (pe_fld (pv 0) rfl) (pa_cons (pe_fld (pv 0) rfl) pa_nil)))))), ?_⟩
    refine ⟨_, rfl, x, a.garden, dx, _, _, rfl, hx, Z.tG.cl, Z.nG _ (by simp), g_pots .., _, rfl, _, rfl, x, a.garden, dx, _, _, rfl, hx, Z.tG.cl, Z.nG _ (by simp), g_week .., _, rfl, x, a.garden, dx, _, _, rfl, hx, Z.tG.cl, Z.nG _ (by simp), g_closed .., ?_⟩
    have la : as.length = g.pots.length := Paired.length pt
    exact rd_gar (kw := .int) (kl := .int) (GarAt.arg (x := x) (dx := dx) hl (by omega) pt oks) hc ⟨_, rfl⟩ ⟨_, rfl⟩ post
/-! ### joined -/
def spJoin (K : PySem.W.Frag) (a : Adr) : Sp := fun vs H Q E => ∃ x y g h, vs = [.ref x, .ref y] ∧ GarAt a H x g ∧ GarAt a H y h ∧ (∀ p ∈ g.pots ++ h.pots, p.Ok) ∧ g.pots.length ≤ 8 ∧ h.pots.length ≤ 8 ∧ GPost a H (fun x => Q (.ref x)) E (some (g.pots ++ h.pots)) (.int (g.cans + h.cans)) (.int g.week) (.int g.closed)
theorem scJoin : FnScope ["one", "other"] ["one", "other"] (defScope sJoin) := ⟨rfl, rfl, rfl, by decide +kernel, rfl, by decide +kernel, by decide +kernel⟩
theorem Pots.app {H : Hp} {as bs : List Addr} {ps qs : List PotD} (h : Pots a H as ps) (h' : Pots a H bs qs) : Pots a H (as ++ bs) (ps ++ qs) := by
  induction h with
  | nil => exact h'
  | cons r _ ih => exact .cons r ih
theorem ok_join (J : TxtJ K mg a dV) : FnOk P w K mg base (CXg P w) 9 a.fJoin a.dJoin ["one", "other"] (spJoin K a) := by
  refine J.join.F.okX scJoin (fun vs H Q E h => ?_) (fun cdv A outer s H vs Q E hr h => ?_)
  · obtain ⟨x, y, g, h, rfl, _⟩ := h
    rfl
  · obtain ⟨x, y, g, h, rfl, ⟨dx, l, as, hx, hl, pt⟩, ⟨dy, m, bs, hy, hm, pu⟩, oks, g8, h8, post⟩ := h
    have Z := J.Z
    refine ⟨_, pss_one (ps_ret (pe_mk Z.kG (ok_gi Z) hr Z.mGar Z.b4 (passes_of xacc_fn) (pa_cons (pe_op op_cat (pe_fld (pv 0) rfl) (pe_fld (pv 1) rfl)) (pa_cons (pe_op op_add (pe_fld (pv 0) rfl) (pe_fld (pv 1) rfl)) (pa_cons (pe_fld (pv 0) rfl) (pa_cons (pe_fld (pv 0) rfl) pa_nil)))))), ?_⟩
    have la : as.length = g.pots.length := Paired.length pt
    have lb : bs.length = h.pots.length := Paired.length pu
    refine ⟨_, rfl, x, a.garden, dx, _, _, rfl, hx, Z.tG.cl, Z.nG _ (by simp), g_pots .., _, rfl, y, a.garden, dy, _, _, rfl, hy, Z.tG.cl, Z.nG _ (by simp), g_pots .., l, m, _, _, rfl, rfl, hl, hm, (by rw [List.length_map, List.length_map, la, lb]; exact Nat.le_trans (Nat.add_le_add g8 h8) (by decide)), fun D hD => ?_⟩
    have sD := upd_new (o := .lst (as.map V.ref ++ bs.map V.ref)) hD
    refine ⟨_, rfl, x, a.garden, dx, _, _, rfl, sD _ _ hx, Z.tG.cl, Z.nG _ (by simp), g_cans .., _, rfl, y, a.garden, dy, _, _, rfl, sD _ _ hy, Z.tG.cl, Z.nG _ (by simp), g_cans .., _, _, rfl, rfl, ?_⟩
    refine ⟨_, rfl, x, a.garden, dx, _, _, rfl, sD _ _ hx, Z.tG.cl, Z.nG _ (by simp), g_week .., _, rfl, x, a.garden, dx, _, _, rfl, sD _ _ hx, Z.tG.cl, Z.nG _ (by simp), g_closed .., ?_⟩
    exact rd_gar (kc := .int) (kw := .int) (kl := .int) (GarAt.arg (as := as ++ bs) (x := x) (dx := dx) (by rw [upd_same, List.map_append]) (by rw [List.length_append]; omega) ((pt.same sD).app (pu.same sD)) oks) ⟨_, rfl⟩ ⟨_, rfl⟩ ⟨_, rfl⟩ (post.from sD)
end
end Tw
set_option Elab.async false
set_option linter.all false
set_option maxRecDepth 100000
set_option maxHeartbeats 1000000
namespace Tw
open PySem L2
section
variable {P : Program} {w : World} {K : PySem.W.Frag} {mg : Str → Option Value} {base : Heap} {a : Adr} {dV : Value}
/-- the first pot of that name: where, and which -/
structure First (nm : Str) (ps : List PotD) (j : Nat) (p : PotD) : Prop where
  at_ : ps[j]? = some p
  is : p.nm = nm
  no : ∀ i q, i < j → ps[i]? = some q → q.nm ≠ nm
theorem First.ex {nm : Str} : ∀ {ps : List PotD}, nm ∈ ps.map PotD.nm → ∃ j p, First nm ps j p
  | [], h => nomatch h
  | q :: ps, h => by
    by_cases e : q.nm = nm
    · exact ⟨0, q, rfl, e, fun i _ hi => absurd hi (Nat.not_lt_zero i)⟩
    · have h' : nm ∈ ps.map PotD.nm := by
        rcases List.mem_cons.mp h with z | z
        · exact absurd z.symm e
        · exact z
      obtain ⟨j, p, f⟩ := First.ex h'
      refine ⟨j + 1, p, f.at_, f.is, fun i r hi hr => ?_⟩
      cases i with
      | zero => cases hr; exact e
      | succ i => exact f.no i r (by omega) hr
theorem First.one {nm : Str} {ps : List PotD} {j j' : Nat} {p p' : PotD} (f : First nm ps j p) (g : First nm ps j' p') : j = j' ∧ p = p' := by
  have e : j = j' := by
    rcases Nat.lt_trichotomy j j' with h | h | h
    · exact absurd f.is (g.no j p h f.at_)
    · exact h
    · exact absurd g.is (f.no j' p' h g.at_)
  subst e
  have := f.at_.symm.trans g.at_
  exact ⟨rfl, Option.some.inj this⟩
theorem First.mem {nm : Str} {ps : List PotD} {j : Nat} {p : PotD} (f : First nm ps j p) : nm ∈ ps.map PotD.nm := List.mem_map.mpr ⟨p, List.mem_of_getElem? f.at_, f.is⟩
def spPlc (a : Adr) : Sp := fun vs H Q E => ∃ x g nm, vs = [.ref x, .str nm] ∧ GarAt a H x g ∧ g.pots.length ≤ 8 ∧ (nm ∉ g.pots.map PotD.nm → ∀ H', Same H H' → E (.ref a.noPot) none H') ∧ (∀ j p, First nm g.pots j p → ∀ H', Same H H' → Q (.int (j : Nat)) H')
theorem scPlc : FnScope ["garden", "name", "names"] ["garden", "name"] (defScope sPlc) := ⟨rfl, rfl, rfl, by decide +kernel, rfl, by decide +kernel, by decide +kernel⟩
theorem inV_strs (nm : Str) : ∀ ps : List PotD, inV (.str nm) ((ps.map PotD.nm).map V.str) = decide (nm ∈ ps.map PotD.nm)
  | [] => rfl
  | p :: ps => by
    have ih := inV_strs nm ps
    unfold inV at ih ⊢
    rw [List.map_cons, List.map_cons, List.any_cons, ih]
    show ((p.nm == nm) || _) = _
    by_cases h : p.nm = nm
    · simp [h]
    · have h' : ¬ nm = p.nm := fun z => h z.symm
      simp [h, h']
/-- [pot.name for pot in pots] -/
theorem names_comp (T : TxtP K mg a) {H : Hp} {l D : Addr} {as : List Addr} {ps : List PotD} {σ : St} {Qe : Hp → Prop} (hl : SqL K H l (as.map V.ref)) (pots : Pots a H as ps) (h8 : as.length ≤ 1000) (hD : H D = none) (q : Qe (upd H D (.lst ((ps.map PotD.nm).map V.str)))) :
    ∃ W : Nat → Nat → List V → Hp → Prop, (∃ m, W 0 m [] (upd H D (.lst []))) ∧ compW D (Itl K l) (capSt (List.replicate 1 none) σ) (gName 0) tYes (tFld K (tVar 0) "name") Qe W := by
  have lp : as.length = ps.length := Paired.length pots
  refine comp_acc as.length (Nat.le_trans h8 (by decide)) (fun i acc H' => acc = ((ps.take i).map PotD.nm).map V.str ∧ upd H D (.lst acc) = H') ⟨rfl, rfl⟩ (fun i acc H' le ⟨e, eh⟩ => ⟨?_, by rw [← eh, upd_same]⟩) ?_ ?_
  · rw [e, List.length_map, List.length_map, List.length_take, ← lp]; omega
  · rintro acc H' ⟨rfl, rfl⟩
    have sD := upd_new (o := .lst (((ps.take as.length).map PotD.nm).map V.str)) hD
    rw [lp, List.take_length] at sD ⊢
    exact ⟨⟨_, sD.seq hl, by rw [List.length_map, lp]; exact Nat.le_refl _⟩, q⟩
  · rintro i acc H' lt ⟨rfl, rfl⟩
    have sD := upd_new (o := .lst (((ps.take i).map PotD.nm).map V.str)) hD
    have hl' := sD.seq hl
    obtain ⟨b, hb⟩ : ∃ b, as[i]? = some b := ⟨as[i], List.getElem?_eq_getElem lt⟩
    obtain ⟨q, hq, pb⟩ := paired_get pots hb
    have hx : (as.map V.ref)[i]? = some (.ref b) := by rw [List.getElem?_map, hb]; rfl
    refine ⟨⟨_, _, hl', hx⟩, ?_⟩
    rintro x H'' ⟨rfl, hx'⟩ Qc k
    have ex := hx' _ hl'
    rw [hx] at ex
    cases ex
    obtain ⟨dx, hb'⟩ := pb.same sD
    have cT := T.cls q.cls_or
    refine ⟨keepS_plain, _, rfl, b, q.cls a, dx, _, _, rfl, hb', cT.1.cl, cT.2 _ (by simp), q.f_name, ?_⟩
    refine k _ _ upd_same ⟨?_, by rw [upd_upd]⟩
    rw [take_snoc hq, List.map_append, List.map_append]
    rfl
theorem flat_strs (l : List Str) : (l.map V.str).all flatV = true := by
  rw [List.all_map, List.all_eq_true]
  intro x _
  rfl
theorem gap_int {p : PotD} {g : V} (h : gapOk p g = true) : ∃ i, g = .int i := by
  unfold gapOk at h
  split at h
  · obtain ⟨i, e, _⟩ := whole_int h
    exact ⟨i, e⟩
  · rw [Bool.and_eq_true] at h
    obtain ⟨i, e, _⟩ := whole_int h.1
    exact ⟨i, e⟩
theorem names_at {ps : List PotD} {i : Nat} {z : V} (h : ((ps.map PotD.nm).map V.str)[i]? = some z) : ∃ q, ps[i]? = some q ∧ z = .str q.nm := by
  rw [List.getElem?_map, List.getElem?_map] at h
  cases e : ps[i]? with
  | none => rw [e] at h; cases h
  | some q => rw [e] at h; cases h; exact ⟨q, rfl, rfl⟩
theorem ok_plc (J : TxtJ K mg a dV) : FnOk P w K mg base (CXg P w) 1 a.fPlc a.dPlc ["garden", "name"] (spPlc a) := by
  refine J.plc.F.okX scPlc (fun vs H Q E h => ?_) (fun cdv A outer s H vs Q E hr h => ?_)
  · obtain ⟨x, g, nm, rfl, _⟩ := h
    rfl
  · obtain ⟨x, g, nm, rfl, ⟨dx, l, as, hx, hl, pt⟩, h8, noP, yes⟩ := h
    have Z := J.Z
    have T := Z.G.T
    refine ⟨_, pss_cons (ps_comp (i := 2) scPlc.nd rfl (Or.inl rfl) xacc_fn rfl ⟨_, _, rfl, rfl, rfl⟩ (CompOk.plain (N' := ["pot"]) rfl (by decide +kernel) (by decide +kernel)) (pi_list (pe_fld (pv 0) rfl)) (fun _ _ _ _ _ => pg_nm 0 (show [("pot" : Str)].Nodup by decide +kernel)) (fun _ _ _ _ _ => pts_nil) (fun _ _ _ _ _ _ => pe_fk K (pv 0)))
      (pss_cons (ps_if (pt_cmpR op_notIn_seq (pv 1) (pv 2) rfl) (pss_one (ps_raise xacc_fn rfl (by rfl) J.noPot.m J.noPot.q PySem.F.excBase_ValueError (pa_cons pe_str pa_nil))) pss_nil)
      (pss_one (ps_ret (pe_bm PySem.F.plainAttrs_list PySem.F.slot_list_index PySem.F.type_list_index mt_index (pv 2) (pa_cons (pv 1) pa_nil))))), ?_⟩
    have la : as.length = g.pots.length := Paired.length pt
    have hL : SqL K H l (as.map V.ref) := SqL.of hl
    refine ⟨_, rfl, x, a.garden, dx, _, _, rfl, hx, Z.tG.cl, Z.nG _ (by simp), g_pots .., l, rfl, ⟨_, hL⟩, fun D hD => names_comp T hL pt (by omega) hD ?_⟩
    have sD := upd_new (o := .lst ((g.pots.map PotD.nm).map V.str)) hD
    refine ⟨_, rfl, _, rfl, D, _, rfl, .inl (SqL.of upd_same), rfl, flat_strs _, _, rfl, ?_⟩
    rw [inV_strs]
    by_cases hm : nm ∈ g.pots.map PotD.nm
    · rw [decide_eq_true hm]
      obtain ⟨j, p, f⟩ := First.ex hm
      refine iteF ⟨_, rfl, .inl ⟨rfl, _, SqL.of upd_same⟩, _, rfl, D, _, .str nm, j, rfl, rfl, upd_same, rfl, flat_strs _, ⟨.str p.nm, ?_, ?_⟩, fun i z hi hz => ?_, yes j p f _ sD⟩
      · rw [List.getElem?_map, List.getElem?_map, f.at_]; rfl
      · rw [f.is]; exact eqV_refl rfl
      · obtain ⟨q, hq, rfl⟩ := names_at hz
        have ne := f.no i q hi hq
        show (q.nm == nm) = false
        simp [ne]
    · rw [decide_eq_false hm]
      exact iteT ⟨by show 1 ≤ sizeLine; decide, noP hm _ sD⟩
theorem ixN_nat {n j : Nat} (h : j < n) : ixN n (j : Int) = some j := by
  unfold ixN
  rw [if_pos (by omega), if_pos (by omega)]
  simp
def PotD.at (p : PotD) (i : Int) : PotD := { p with gap := i }
theorem PotD.at_ok {i : Int} {p : PotD} (h : p.Ok) (g : gapOk p (.int i) = true) : (p.at i).Ok := by
  unfold gapOk at g
  have w1 : wholeV (.int i) 1 60 = true := by
    split at g
    · exact g
    · rw [Bool.and_eq_true] at g; exact g.1
  have w2 : 1 ≤ i ∧ i ≤ 60 := by simpa [wholeV] using w1
  refine ⟨h.nm, w2, fun r hr => ?_⟩
  have hr' : p.rest = some r := hr
  rw [hr'] at g
  have g2 : wholeV (.int r) 0 (i - 1) = true := by
    rw [Bool.and_eq_true] at g; exact g.2
  have g3 : 0 ≤ r ∧ r ≤ i - 1 := by simpa [wholeV] using g2
  exact ⟨g3.1, by show r < i; omega⟩
theorem paired_set {α β : Type} {R : α → β → Prop} {x : α} {y : β} (r : R x y) : ∀ {xs : List α} {ys : List β} (j : Nat), Paired R xs ys → Paired R (xs.set j x) (ys.set j y)
  | _, _, _, .nil => .nil
  | _, _, 0, .cons _ t => .cons r t
  | _, _, j + 1, .cons h t => .cons h (paired_set r j t)
def spWGap (K : PySem.W.Frag) (a : Adr) : Sp := fun vs H Q E => ∃ x g nm gv kg, vs = [.ref x, .str nm, gv] ∧ GarAt a H x g ∧ (∀ p ∈ g.pots, p.Ok) ∧ g.pots.length ≤ 8 ∧ KdOf K H gv kg ∧
  (nm ∉ g.pots.map PotD.nm → ∀ H', Same H H' → E (.ref a.noPot) none H') ∧ (∀ j p, First nm g.pots j p → (gapOk p gv = false → ∀ H', Same H H' → E (.ref a.badPot) none H') ∧
  (gapOk p gv = true → ∀ i H', gv = .int i → Same H H' → GPost a H' (fun x => Q (.ref x)) E (some (g.pots.set j (p.at i))) (.int g.cans) (.int g.week) (.int g.closed)))
theorem scWGap : FnScope ["garden", "name", "gap", "place", "pots"] ["garden", "name", "gap"] (defScope sWGap) := ⟨rfl, rfl, rfl, by decide +kernel, rfl, by decide +kernel, by decide +kernel⟩
theorem ok_wgap (J : TxtJ K mg a dV) : FnOk P w K mg base (CXg P w) 9 a.fWGap a.dWGap ["garden", "name", "gap"] (spWGap K a) := by
  refine J.wgap.F.okX scWGap (fun vs H Q E h => ?_) (fun cdv A outer s H vs Q E hr h => ?_)
  · obtain ⟨x, g, nm, gv, kg, rfl, _⟩ := h
    rfl
  · obtain ⟨x, g, nm, gv, kg, rfl, gx, oks, h8, hg, noP, yes⟩ := h
    have gx0 := gx
    obtain ⟨dx, l, as, hx, hl, pt⟩ := gx
    have Z := J.Z
    have T := Z.G.T
    have hr5 : Room 5 _ := hr.mono (by decide)
    have hr1 : Room 1 _ := hr.mono (by decide)
    refine ⟨_, pss_cons (ps_set (i := 3) scWGap.nd rfl (Or.inl rfl) (pe_fn (ok_plc J) hr1 J.mPlc J.plc.F.kp J.plc.b (passes_of xacc_fn) (pa_cons (pv 0) (pa_cons (pv 1) pa_nil))))
      (pss_cons (ps_set (i := 4) scWGap.nd rfl (Or.inl rfl) (pe_ct call_list_of T.B.list PyProof.Rows.boot_list (pa_cons (pe_fld (pv 0) rfl) pa_nil)))
      (pss_cons (ps_asg (pe_gap (pe_ix ix_list (pv 4) (pv 3) (fun _ _ => rfl)) (pa_cons (pv 2) pa_nil) T hr5 (passes_of xacc_fn)) (pg_sub (pv 4) (pv 3) set_list))
      (pss_one (ps_ret (pe_mk Z.kG (ok_gi Z) hr Z.mGar Z.b4 (passes_of xacc_fn) (pa_cons (pv 4) (pa_cons (pe_fld (pv 0) rfl) (pa_cons (pe_fld (pv 0) rfl) (pa_cons (pe_fld (pv 0) rfl) pa_nil))))))))), ?_⟩
    have la : as.length = g.pots.length := Paired.length pt
    refine ⟨_, rfl, _, rfl, x, g, nm, rfl, gx0, h8, fun nm' => noP nm', fun j p f H1 s1 => ?_⟩
    obtain ⟨bad, good⟩ := yes j p f
    have lj : j < g.pots.length := (List.getElem?_eq_some_iff.mp f.at_).1
    have lj' : j < as.length := by omega
    have hb : as[j]? = some as[j] := List.getElem?_eq_getElem lj'
    obtain ⟨p', hp', pb⟩ := paired_get pt hb
    have ep : p' = p := by rw [f.at_] at hp'; exact (Option.some.inj hp').symm
    subst ep
    refine ⟨_, rfl, x, a.garden, dx, _, _, rfl, s1 _ _ hx, Z.tG.cl, Z.nG _ (by simp), g_pots .., l, _, rfl, .inl (SqL.of (s1 _ _ hl)), fun m hm => ?_⟩
    have s2 := s1.trans (upd_new (o := .lst (as.map V.ref)) hm)
    have hxi : (as.map V.ref)[j]? = some (.ref as[j]) := by rw [List.getElem?_map, hb]; rfl
    have hm2 : upd H1 m (.lst (as.map V.ref)) m = some (.lst (as.map V.ref)) := upd_same
    have fm : H m = none := s1.free hm
    generalize upd H1 m (.lst (as.map V.ref)) = H2 at s2 hm2 ⊢
    obtain ⟨dy, hb'⟩ := pb.same s2
    have okp := oks p' (List.mem_of_getElem? f.at_)
    refine ⟨_, rfl, _, rfl, m, _, _, _, rfl, rfl, SqL.of hm2, atI_nat hxi, as[j], p'.cls a, dy, _, rfl, hb', p'.cls_or, p'.f_no (by decide +kernel) (by decide +kernel) (by decide +kernel), _, rfl, ?_⟩
    refine ⟨as[j], p', gv, kg, rfl, rfl, ⟨dy, hb'⟩, okp, hg.same s2, fun z H3 s3 => bad z H3 (s2.trans s3), fun z i H3 y ej hy s3 py => ?_⟩
    subst ej
    have hm3 := s3 _ _ hm2
    refine ⟨_, rfl, _, rfl, m, _, _, j, rfl, rfl, hm3, ?_, ?_⟩
    · exact ixN_nat (by rw [List.length_map]; exact lj')
    · have s4 : Same H (upd H3 m (.lst ((as.map V.ref).set j (.ref y)))) := same_upd (s2.trans s3) fm
      have hm4 : upd H3 m (.lst ((as.map V.ref).set j (.ref y))) m = some (.lst ((as.set j y).map V.ref)) := by rw [upd_same, List.map_set]
      have pt4 : Pots a (upd H3 m (.lst ((as.map V.ref).set j (.ref y)))) (as.set j y) (g.pots.set j (p'.at i)) := paired_set (PotAt.upd py hm3) j ((pt.same (s2.trans s3)).upd hm3)
      generalize upd H3 m (.lst ((as.map V.ref).set j (.ref y))) = H4 at s4 hm4 pt4 ⊢
      refine ⟨_, rfl, _, rfl, x, a.garden, dx, _, _, rfl, s4 _ _ hx, Z.tG.cl, Z.nG _ (by simp), g_cans .., _, rfl, x, a.garden, dx, _, _, rfl, s4 _ _ hx, Z.tG.cl, Z.nG _ (by simp), g_week .., _, rfl, x, a.garden, dx, _, _, rfl, s4 _ _ hx, Z.tG.cl, Z.nG _ (by simp), g_closed .., ?_⟩
      refine rd_gar (kc := .int) (kw := .int) (kl := .int) (GarAt.arg (x := x) (dx := dx) hm4 (by rw [List.length_set]; omega) pt4 ?_) ⟨_, rfl⟩ ⟨_, rfl⟩ ⟨_, rfl⟩ (good z i H4 rfl s4)
      intro q hq
      rcases List.mem_or_eq_of_mem_set hq with hq | hq
      · exact oks q hq
      · rw [hq]; exact PotD.at_ok okp z
end
end Tw
set_option Elab.async false
set_option linter.all false
set_option maxRecDepth 100000
set_option maxHeartbeats 1000000
namespace Tw
open PySem L2
abbrev sSorts : Stmt := top 35
/-- one of the refusals: the j-th of the six -/
structure XC (K : PySem.W.Frag) (a : Adr) (C : Addr) (j : Nat) : Prop where
  t : ExT K C
  b0 : PySem.W.kitOne K (.ref C) (.ref a.badPot) = some (0 == j)
  b1 : PySem.W.kitOne K (.ref C) (.ref a.tooMany) = some (1 == j)
  b2 : PySem.W.kitOne K (.ref C) (.ref a.noPot) = some (2 == j)
  b3 : PySem.W.kitOne K (.ref C) (.ref a.badDay) = some (3 == j)
  b4 : PySem.W.kitOne K (.ref C) (.ref a.badRow) = some (4 == j)
  b5 : PySem.W.kitOne K (.ref C) (.ref a.noState) = some (5 == j)
  v : PySem.W.kitOne K (.ref C) (.type "ValueError") = some true
  m : PySem.W.exmOne K (.ref C) (.ref a.gErr) = some true
/-- the refusals' classes by their names -/
structure XNames (mg : Str → Option Value) (a : Adr) : Prop where
  is : mg "isinstance" = none
  ve : mg "ValueError" = none
  n0 : mg "BadPot" = some (.ref a.badPot)
  n1 : mg "TooMany" = some (.ref a.tooMany)
  n2 : mg "NoPot" = some (.ref a.noPot)
  n3 : mg "BadDay" = some (.ref a.badDay)
  n4 : mg "BadRow" = some (.ref a.badRow)
  n5 : mg "NoState" = some (.ref a.noState)
  ge : mg "GardenError" = some (.ref a.gErr)
section
variable {P : Program} {w : World} {K : PySem.W.Frag} {mg : Str → Option Value} {base : Heap} {a : Adr} {dV : Value}
def hot (j : Nat) : List V := [.bl (0 == j), .bl (1 == j), .bl (2 == j), .bl (3 == j), .bl (4 == j), .bl (5 == j)]
def spSorts (K : PySem.W.Frag) (a : Adr) : Sp := fun vs H Q _ => ∃ e C j, vs = [.ref e] ∧ H e = some (ExcO e (.ref C) none) ∧ XC K a C j ∧ ∀ H' l, Same H H' → H' l = some (.lst (hot j)) → Q (.ref l) H'
theorem scSorts : FnScope ["_law_error", "_law_found"] ["_law_error"] (defScope sSorts) := ⟨rfl, rfl, rfl, by decide +kernel, rfl, by decide +kernel, by decide +kernel⟩
theorem ok_sorts {f : Addr} {fd : FuncData} (F : Fun K "_law_sorts" "_law_sorts" sSorts f fd) (N : XNames mg a) : FnOkH P w K mg base (CXg P w) 1 f fd ["_law_error"] (spSorts K a) := by
  refine F.okH scSorts (fun vs H Q E h => ?_) (fun cdv A outer s H vs Q E hr h => ?_)
  · obtain ⟨e, C, j, rfl, _⟩ := h
    rfl
  · obtain ⟨e, C, j, rfl, he, x, q⟩ := h
    refine ⟨_, pss_cons (ps_set (i := 1) scSorts.nd rfl (Or.inl rfl) (pe_lst (pa_cons (pe_cb call_isE N.is PyProof.Rows.boot_isinstance (pa_cons (pv 0) (pa_cons (pe_gl (.ref a.badPot) N.n0 rfl) pa_nil)))
        (pa_cons (pe_cb call_isE N.is PyProof.Rows.boot_isinstance (pa_cons (pv 0) (pa_cons (pe_gl (.ref a.tooMany) N.n1 rfl) pa_nil))) (pa_cons (pe_cb call_isE N.is PyProof.Rows.boot_isinstance (pa_cons (pv 0) (pa_cons (pe_gl (.ref a.noPot) N.n2 rfl) pa_nil))) pa_nil)))))
      (pss_one (ps_ret (pe_op op_cat (pv 1) (pe_lst (pa_cons (pe_cb call_isE N.is PyProof.Rows.boot_isinstance (pa_cons (pv 0) (pa_cons (pe_gl (.ref a.badDay) N.n3 rfl) pa_nil)))
        (pa_cons (pe_cb call_isE N.is PyProof.Rows.boot_isinstance (pa_cons (pv 0) (pa_cons (pe_gl (.ref a.badRow) N.n4 rfl) pa_nil))) (pa_cons (pe_cb call_isE N.is PyProof.Rows.boot_isinstance (pa_cons (pv 0) (pa_cons (pe_gl (.ref a.noState) N.n5 rfl) pa_nil))) pa_nil))))))), ?_⟩
    refine ⟨_, rfl, e, C, _, _, _, rfl, rfl, ⟨_, .inl rfl⟩, he, x.t, x.b0, _, rfl, e, C, _, _, _, rfl, rfl, ⟨_, .inl rfl⟩, he, x.t, x.b1, _, rfl, e, C, _, _, _, rfl, rfl, ⟨_, .inl rfl⟩, he, x.t, x.b2, by show 3 ≤ sizeLine; decide, fun l1 h1 => ?_⟩
    have s1 := upd_new (o := .lst [V.bl (0 == j), .bl (1 == j), .bl (2 == j)]) h1
    have he1 := s1 _ _ he
    refine ⟨_, rfl, _, rfl, e, C, _, _, _, rfl, rfl, ⟨_, .inl rfl⟩, he1, x.t, x.b3, _, rfl, e, C, _, _, _, rfl, rfl, ⟨_, .inl rfl⟩, he1, x.t, x.b4, _, rfl, e, C, _, _, _, rfl, rfl, ⟨_, .inl rfl⟩, he1, x.t, x.b5, by show 3 ≤ sizeLine; decide, fun l2 h2 => ?_⟩
    have s2 := upd_new (o := .lst [V.bl (3 == j), .bl (4 == j), .bl (5 == j)]) h2
    refine ⟨l1, l2, _, _, rfl, rfl, s2 _ _ upd_same, upd_same, by show 6 ≤ sizeLine; decide, fun l3 h3 => ?_⟩
    exact q _ l3 ((s1.trans s2).trans (upd_new h3)) upd_same
end
end Tw
set_option Elab.async false
set_option linter.all false
set_option maxRecDepth 100000
set_option maxHeartbeats 1000000
namespace Tw
open PySem L2
abbrev sCell : Stmt := top 33
abbrev sDraw : Stmt := top 34
section
variable {P : Program} {w : World} {K : PySem.W.Frag} {mg : Str → Option Value} {base : Heap} {a : Adr} {dV : Value}
def spCell (K : PySem.W.Frag) : Sp := fun vs H Q _ => ∃ (s : Addr) (ns : List Int) (k : Nat), vs = [.ref s, .int k] ∧ SqL K H s (ns.map V.int) ∧ Q (.int (ns.getD k 0)) H
theorem scCell : FnScope ["_law_script", "_law_k"] ["_law_script", "_law_k"] (defScope sCell) := ⟨rfl, rfl, rfl, by decide +kernel, rfl, by decide +kernel, by decide +kernel⟩
theorem ok_cell {f : Addr} {fd : FuncData} (F : Fun K "_law_cell_at" "_law_cell_at" sCell f fd) (B : Blt mg) : FnOk P w K mg base (CXg P w) 1 f fd ["_law_script", "_law_k"] (spCell K) := by
  refine F.okX scCell (fun vs H Q E h => ?_) (fun cdv A outer s H vs Q E hr h => ?_)
  · obtain ⟨x, ns, k, rfl, _⟩ := h
    rfl
  · obtain ⟨x, ns, k, rfl, hs, q⟩ := h
    refine ⟨_, pss_cons (ps_if (pt_cmpR op_lt (pv 1) (pe_cb call_len_seq B.len PySem.boot_len (pa_cons (pv 0) pa_nil)) (nomark _)) (pss_one (ps_ret (pe_ix ix_list (pv 0) (pv 1) (fun _ _ => rfl)))) pss_nil) (pss_one (ps_ret pe_int)), ?_⟩
    refine ⟨_, rfl, _, rfl, x, _, rfl, .inl hs, _, _, rfl, rfl, _, rfl, ?_⟩
    by_cases lt : k < ns.length
    · rw [decide_eq_true (by rw [List.length_map]; omega)]
      have e : (ns.map V.int)[k]? = some (.int (ns.getD k 0)) := by simp [lt]
      exact iteT ⟨_, rfl, _, rfl, x, _, _, _, rfl, rfl, hs, atI_nat e, q⟩
    · rw [decide_eq_false (by rw [List.length_map]; omega)]
      have e : ns.getD k 0 = 0 := by simp [List.getD, List.getElem?_eq_none (by omega : ns.length ≤ k)]
      rw [e] at q
      exact iteF q
/-! ### draws -/
def primes8 : List Int := [1000003, 1000033, 1000037, 1000039, 1000081, 1000099, 1000117, 1000121]
def primeOf (k : Int) : Int := primes8.getD (k % 8).toNat 1
def drawF (c k m : Int) : Int := (c * 48271 + k * 69621 + c / 1000003 % 1000003 * 40692) % primeOf k % m
theorem draw_lo (c k : Int) {m : Int} (h : 0 < m) : 0 ≤ drawF c k m := Int.emod_nonneg _ (by omega)
theorem draw_hi (c k : Int) {m : Int} (h : 0 < m) : drawF c k m < m := Int.emod_lt_of_pos _ h
theorem prime_at (k : Int) : atI (primes8.map V.int) (k % 8) = some (.int (primeOf k)) ∧ 0 < primeOf k := by
  have h0 : 0 ≤ k % 8 := Int.emod_nonneg _ (by decide)
  have h1 : k % 8 < 8 := Int.emod_lt_of_pos _ (by decide)
  unfold primeOf
  have h : k % 8 = 0 ∨ k % 8 = 1 ∨ k % 8 = 2 ∨ k % 8 = 3 ∨ k % 8 = 4 ∨ k % 8 = 5 ∨ k % 8 = 6 ∨ k % 8 = 7 := by omega
  rcases h with e | e | e | e | e | e | e | e <;> rw [e] <;> exact ⟨rfl, by decide⟩
def spDraw : Sp := fun vs H Q _ => ∃ c k m : Int, vs = [.int c, .int k, .int m] ∧ 0 < m ∧ ∀ H', Same H H' → Q (.int (drawF c k m)) H'
theorem scDraw : FnScope ["_law_cell", "_law_k", "_law_many", "_law_primes", "_law_blend"] ["_law_cell", "_law_k", "_law_many"] (defScope sDraw) := ⟨rfl, rfl, rfl, by decide +kernel, rfl, by decide +kernel, by decide +kernel⟩
theorem ok_draw {f : Addr} {fd : FuncData} (F : Fun K "_law_draw" "_law_draw" sDraw f fd) : FnOk P w K mg base (CXg P w) 1 f fd ["_law_cell", "_law_k", "_law_many"] spDraw := by
  refine F.okX scDraw (fun vs H Q E h => ?_) (fun cdv A outer s H vs Q E hr h => ?_)
  · obtain ⟨c, k, m, rfl, _⟩ := h
    rfl
  · obtain ⟨c, k, m, rfl, m0, q⟩ := h
    refine ⟨_, pss_cons (ps_set (i := 3) scDraw.nd rfl (Or.inl rfl) (pe_tup (pa_lits [.int 1000003, .int 1000033, .int 1000037, .int 1000039, .int 1000081, .int 1000099, .int 1000117, .int 1000121] rfl)))
      (pss_cons (ps_set (i := 4) scDraw.nd rfl (Or.inl rfl) (pe_op op_add (pe_op op_add (pe_op op_mul (pv 0) pe_int) (pe_op op_mul (pv 1) pe_int)) (pe_op op_mul (pe_op op_mod (pe_op op_fdiv (pv 0) pe_int) pe_int) pe_int)))
      (pss_one (ps_ret (pe_op op_mod (pe_op op_mod (pv 4) (pe_ix ix_tup (pv 3) (pe_op op_mod (pv 1) pe_int) (fun _ _ => rfl))) (pv 2))))), ?_⟩
    refine ⟨by show 8 ≤ sizeLine; decide, fun t ht => ?_⟩
    have st := upd_new (o := .tup (primes8.map V.int)) ht
    refine ⟨_, rfl, _, _, rfl, rfl, .inr ⟨by decide, by decide⟩, _, rfl, _, _, rfl, rfl, .inr ⟨by decide, by decide⟩, _, _, rfl, rfl, _, rfl, _, _, rfl, rfl, ⟨by decide, by decide⟩, _, _, rfl, rfl, (by show (0 : Int) < 1000003; decide), _, _, rfl, rfl, .inr ⟨by decide, by decide⟩, _, _, rfl, rfl, ?_⟩
    obtain ⟨pa, p0⟩ := prime_at k
    refine ⟨_, rfl, _, rfl, _, rfl, _, _, rfl, rfl, (by show (0 : Int) < 8; decide), t, _, _, _, rfl, rfl, SqT.of upd_same, pa, _, _, rfl, rfl, p0, _, rfl, _, _, rfl, rfl, m0, ?_⟩
    exact q _ st
end
end Tw
set_option Elab.async false
set_option linter.all false
set_option maxRecDepth 100000
set_option maxHeartbeats 1000000
namespace Tw
open PySem L2
abbrev sKind : Stmt := top 36
section
variable {P : Program} {w : World} {K : PySem.W.Frag} {mg : Str → Option Value} {base : Heap} {a : Adr} {dV : Value}
def kindS (j : Nat) : Str := if j = 0 then "pot" else if j = 1 then "many" else if j = 2 then "none" else "wrong"
def spKind (K : PySem.W.Frag) (a : Adr) : Sp := fun vs H Q _ => ∃ e C j, vs = [.ref e] ∧ H e = some (ExcO e (.ref C) none) ∧ XC K a C j ∧ j < 6 ∧ ∀ H', Same H H' → Q (.str (kindS j)) H'
theorem scKind : FnScope ["_law_error", "_law_kinds"] ["_law_error"] (defScope sKind) := ⟨rfl, rfl, rfl, by decide +kernel, rfl, by decide +kernel, by decide +kernel⟩
theorem hot_count {j : Nat} (h : j < 6) : (hot j).countP (fun z => eqV z (.bl true)) = 1 := by
  have : j = 0 ∨ j = 1 ∨ j = 2 ∨ j = 3 ∨ j = 4 ∨ j = 5 := by omega
  rcases this with rfl | rfl | rfl | rfl | rfl | rfl <;> decide
theorem hot_flat (j : Nat) : (hot j).all flatV = true := rfl
theorem hot_at {j : Nat} (h : j < 6) : ∃ z, (hot j)[j]? = some z ∧ eqV z (.bl true) = true := by
  have : j = 0 ∨ j = 1 ∨ j = 2 ∨ j = 3 ∨ j = 4 ∨ j = 5 := by omega
  rcases this with rfl | rfl | rfl | rfl | rfl | rfl <;> exact ⟨_, rfl, rfl⟩
theorem hot_no {j i : Nat} {z : V} (h : j < 6) (hi : i < j) (hz : (hot j)[i]? = some z) : eqV z (.bl true) = false := by
  have h1 : j = 0 ∨ j = 1 ∨ j = 2 ∨ j = 3 ∨ j = 4 ∨ j = 5 := by omega
  have h2 : i = 0 ∨ i = 1 ∨ i = 2 ∨ i = 3 ∨ i = 4 := by omega
  rcases h1 with rfl | rfl | rfl | rfl | rfl | rfl <;> rcases h2 with rfl | rfl | rfl | rfl | rfl <;> first | omega | (cases hz; rfl)
theorem kind_at {j : Nat} (h : j < 6) : ([V.str "pot", .str "many", .str "none", .str "wrong", .str "wrong", .str "wrong"] : List V)[j]? = some (.str (kindS j)) := by
  have : j = 0 ∨ j = 1 ∨ j = 2 ∨ j = 3 ∨ j = 4 ∨ j = 5 := by omega
  rcases this with rfl | rfl | rfl | rfl | rfl | rfl <;> rfl
theorem ok_kind {f f' : Addr} {fd fd' : FuncData} (F : Fun K "_law_kind" "_law_kind" sKind f fd) (F' : Fn K "_law_sorts" "_law_sorts" sSorts ["_law_error"] f' fd') (m' : mg "_law_sorts" = some (.ref f')) (N : XNames mg a) :
    FnOkH P w K mg base (CXg P w) 2 f fd ["_law_error"] (spKind K a) := by
  refine F.okH scKind (fun vs H Q E h => ?_) (fun cdv A outer s H vs Q E hr h => ?_)
  · obtain ⟨e, C, j, rfl, _⟩ := h
    rfl
  · obtain ⟨e, C, j, rfl, he, x, j6, q⟩ := h
    refine ⟨_, pss_cons (ps_set (i := 1) scKind.nd rfl (Or.inl rfl) (pe_callH (ok_sorts F'.F N) hr (by rfl) m' F'.F.kp F'.b .nil pass_nox (pa_cons (pv 0) pa_nil)))
      (pss_cons (ps_if (pw_or (pt_cmpR op_ne (pe_bm PySem.F.plainAttrs_list PySem.F.slot_list_count PySem.F.type_list_count mt_count (pv 1) (pa_cons pe_bl pa_nil)) pe_int (nomark _))
          (pw_or1 (pt_not (pt_val (pe_cb call_isE N.is PyProof.Rows.boot_isinstance (pa_cons (pv 0) (pa_cons (pe_type (T := "ValueError") (by rfl) N.ve (by decide +kernel)) pa_nil))))))).pt (pss_one (ps_ret pe_str)) pss_nil)
      (pss_one (ps_ret (pe_ix ix_list (pe_lst (pa_cons pe_str (pa_cons pe_str (pa_cons pe_str (pa_cons pe_str (pa_cons pe_str (pa_cons pe_str pa_nil))))))) (pe_bm PySem.F.plainAttrs_list PySem.F.slot_list_index PySem.F.type_list_index mt_index (pv 1) (pa_cons pe_bl pa_nil)) (fun _ _ => rfl))))), ?_⟩
    refine ⟨_, rfl, e, C, j, rfl, he, x, fun H1 l s1 hl => ?_⟩
    refine ⟨_, rfl, .inl ⟨rfl, _, SqL.of hl⟩, l, _, _, rfl, rfl, hl, rfl, hot_flat j, rfl, _, rfl, ?_⟩
    rw [hot_count j6]
    refine iteF ⟨_, rfl, e, C, .ty "ValueError", _, _, rfl, rfl, ⟨C, .inr ⟨_, rfl⟩⟩, s1 _ _ he, x.t, x.v, _, rfl, ?_⟩
    refine iteF ⟨by show 6 ≤ sizeLine; decide, fun l2 h2 => ?_⟩
    have s2 := upd_new (o := .lst ([V.str "pot", .str "many", .str "none", .str "wrong", .str "wrong", .str "wrong"] : List V)) h2
    refine ⟨_, rfl, .inl ⟨rfl, _, SqL.of (s2 _ _ hl)⟩, l, _, _, j, rfl, rfl, s2 _ _ hl, rfl, hot_flat j, hot_at j6, fun i z hi hz => hot_no j6 hi hz, l2, _, _, _, rfl, rfl, SqL.of upd_same, atI_nat (kind_at j6), q _ (s1.trans s2)⟩
end
end Tw
set_option Elab.async false
set_option linter.all false
set_option maxRecDepth 100000
set_option maxHeartbeats 1000000
namespace Tw
open PySem L2
abbrev sLPot : Stmt := top 37
abbrev sLGar : Stmt := top 38
theorem RoomH.mark {k : Nat} {A : Around} {o : Option Value} (r : RoomH k A) : RoomH k (A.mark o) := ⟨r.dp, r.un⟩
/-- the law's defs, as far as they speak of refusals -/
structure TxtL (K : PySem.W.Frag) (mg : Str → Option Value) (a : Adr) (dV : Value) : Prop where
  J : TxtJ K mg a dV
  N : XNames mg a
  x0 : XC K a a.badPot 0
  x1 : XC K a a.tooMany 1
  x2 : XC K a a.noPot 2
  so : ∃ f fd, Fn K "_law_sorts" "_law_sorts" sSorts ["_law_error"] f fd ∧ mg "_law_sorts" = some (.ref f)
  ki : ∃ f fd, Fn K "_law_kind" "_law_kind" sKind ["_law_error"] f fd ∧ mg "_law_kind" = some (.ref f)
section
variable {P : Program} {w : World} {K : PySem.W.Frag} {mg : Str → Option Value} {base : Heap} {a : Adr} {dV : Value}
theorem TxtL.kind (L : TxtL K mg a dV) : ∃ f fd, FnOkH P w K mg base (CXg P w) 2 f fd ["_law_error"] (spKind K a) ∧ mg "_law_kind" = some (.ref f) ∧ PySem.W.keepIn K (.ref f) = true ∧ Binds K fd ["_law_error"] [] := by
  obtain ⟨f, fd, F, m⟩ := L.ki
  obtain ⟨f', fd', F', m'⟩ := L.so
  exact ⟨f, fd, ok_kind F.F F' m' L.N, m, F.F.kp, F.b⟩
def lpotOk (n g r : V) : Bool := potOk n g && (decide (r = .non) || restOk g r)
def lpot (n g r : V) : Str := if lpotOk n g r = true then "" else "pot"
def spLPot (K : PySem.W.Frag) : Sp := fun vs H Q _ => ∃ n g r kn kg kr, vs = [n, g, r] ∧ KdOf K H n kn ∧ smallS n ∧ KdOf K H g kg ∧ KdOf K H r kr ∧ ∀ H', Same H H' → Q (.str (lpot n g r)) H'
theorem scLPot : FnScope ["_law_name", "_law_gap", "_law_rest", "_law_made", "_law_error"] ["_law_name", "_law_gap", "_law_rest"] (defScope sLPot) := ⟨rfl, rfl, rfl, by decide +kernel, rfl, by decide +kernel, by decide +kernel⟩
theorem potOk_shape {n g : V} (h : potOk n g = true) : ∃ x i, n = .str x ∧ g = .int i := by
  rw [potOk, Bool.and_eq_true] at h
  obtain ⟨i, rfl, _⟩ := whole_int h.2
  cases n with
  | str x => exact ⟨x, i, rfl, rfl⟩
  | _ => exact absurd h.1 (by simp [nameV])
theorem ok_lpot {f : Addr} {fd : FuncData} (F : Fun K "_law_pot" "_law_pot" sLPot f fd) (L : TxtL K mg a dV) : FnOk P w K mg base (CXg P w) 5 f fd ["_law_name", "_law_gap", "_law_rest"] (spLPot K) := by
  refine F.okX scLPot (fun vs H Q E h => ?_) (fun cdv A outer s H vs Q E hr h => ?_)
  · obtain ⟨n, g, r, kn, kg, kr, rfl, _⟩ := h
    rfl
  · obtain ⟨n, g, r, kn, kg, kr, rfl, hn, sn, hg, hkr, q⟩ := h
    have T := L.J.Z.G.T
    obtain ⟨fk, dk, okk, mk, kk, bk⟩ := L.kind (P := P) (w := w) (base := base)
    have hr3 : Room 3 _ := hr.mono (by decide)
    refine ⟨_, pss_cons (ps_tryAs (hit := fun cls => PySem.W.exmOne K cls (.ref a.gErr) = some true) rfl ⟨_, _, rfl, rfl, rfl⟩ scLPot.nd (i := 4) rfl rfl (by rfl) L.N.ge (fun _ h => h)
        (fun E' pn' Eb acc => pss_one (ps_set (i := 3) scLPot.nd rfl (Or.inl rfl) (pe_ifExp (pt_cmpR op_isN (pv 2) pe_non (nomark _)) (pe_mk T.kP (ok_potInit T) hr3 T.mPot T.PI.b (passes_of acc) (pa_cons (pv 0) (pa_cons (pv 1) pa_nil)))
          (pe_mk T.kC (ok_cacInit T) hr T.mCac T.CI.b (passes_of acc) (pa_cons (pv 0) (pa_cons (pv 1) (pa_cons (pv 2) pa_nil)))))))
        (fun e => pss_one (ps_ret (pe_callH okk (RoomH.mark (hr.mono (by decide)).toH) (by rfl) mk kk bk .nil pass_nox (pa_cons (pv 4) pa_nil)))))
      (pss_one (ps_ret (pe_ifExp (pw_and (pt_cmpR op_eq (pe_fld (pv 3) rfl) (pv 0) (nomark _)) (pw_and1 (pt_cmpR op_eq (pe_fld (pv 3) rfl) (pv 1) (nomark _)))).pt pe_str pe_str))), ?_⟩
    -- what the handler makes of BadPot
    have caught : lpotOk n g r = false → ∀ H', Same H H' → (PySem.W.exmOne K (.ref a.badPot) (.ref a.gErr) = some true ∧ ∀ e, H' e = none → spKind K a [.ref e] (upd H' e (ExcO e (.ref a.badPot) none)) Q (fun _ _ _ => False)) := by
      intro e0 H' s'
      refine ⟨L.x0.m, fun e he => ⟨e, a.badPot, 0, rfl, upd_same, L.x0, by decide, fun H2 s2 => ?_⟩⟩
      have q' := q H2 ((s'.trans (upd_new he)).trans s2)
      rw [lpot, if_neg (by rw [e0]; decide)] at q'
      exact q'
    -- what is behind the try
    have done : lpotOk n g r = true → ∀ H' x C dx fs, Same H H' → H' x = some (.ins C dx fs) → (C = a.pot ∨ C = a.cactus) → fs.lookup ("name" : Str) = some n → fs.lookup ("gap" : Str) = some g → 
        (tRet (tIf (tAnd (tTest (tOp rEq (tFld K (tVar 3) "name") (tVar 0))) (tTest (tOp rEq (tFld K (tVar 3) "gap") (tVar 1)))) (tC (.str "")) (tC (.str "wrong")))) { nx := fun _ H' => Q .non H', rt := Q } [some n, some g, some r, some (.ref x), none] H' := by
      intro e0 H' x C dx fs s' hx hC ln lg
      have e1 : potOk n g = true := by
        rw [lpotOk, Bool.and_eq_true] at e0; exact e0.1
      obtain ⟨y, i, rfl, rfl⟩ := potOk_shape e1
      have cT := T.cls hC
      refine ⟨_, rfl, x, C, dx, _, _, rfl, hx, cT.1.cl, cT.2 _ (by simp), ln, _, rfl, rfl, _, rfl, ?_⟩
      rw [decide_eq_true rfl]
      refine iteT ⟨_, rfl, x, C, dx, _, _, rfl, hx, cT.1.cl, cT.2 _ (by simp), lg, _, rfl, rfl, _, rfl, ?_⟩
      rw [decide_eq_true rfl]
      have q' := q H' s'
      rw [lpot, if_pos e0] at q'
      exact iteT q'
    refine ⟨_, rfl, rfl, _, rfl, ?_⟩
    by_cases er : r = .non
    · subst er
      have eo : lpotOk n g .non = potOk n g := by simp [lpotOk]
      refine iteT ⟨_, rfl, _, rfl, nil_ ?_⟩
      refine rd_pot hn sn hg (fun e H' s' => ?_) (fun e H' x hx s' h' => ?_)
      · obtain ⟨c1, c2⟩ := caught (eo.trans e) H' s'
        exact ⟨c1, fun e he => ⟨_, rfl, c2 e he⟩⟩
      · obtain ⟨dx, hx'⟩ := h'
        exact done (eo.trans e) H' x a.pot dx _ s' hx' (.inl rfl) lk_eq (lk_gap _ _ [])
    · rw [decide_eq_false er]
      have eo : lpotOk n g r = (potOk n g && restOk g r) := by simp [lpotOk, er]
      refine iteF ⟨_, rfl, _, rfl, _, rfl, nil_ ?_⟩
      refine rd_cac hn sn hg hkr (fun e H' s' => ?_) (fun e H' x hx s' h' => ?_)
      · obtain ⟨c1, c2⟩ := caught (eo.trans e) H' s'
        exact ⟨c1, fun e he => ⟨_, rfl, c2 e he⟩⟩
      · obtain ⟨dx, hx'⟩ := h'
        exact done (eo.trans e) H' x a.cactus dx _ s' hx' (.inr rfl) lk_eq (lk_gap _ _ _)
end
end Tw
set_option Elab.async false
set_option linter.all false
set_option maxRecDepth 100000
set_option maxHeartbeats 1000000
namespace Tw
open PySem L2
section
variable {P : Program} {w : World} {K : PySem.W.Frag} {mg : Str → Option Value} {base : Heap} {a : Adr} {dV : Value}
def resS : GRes → Str
  | .bad => "pot"
  | .many => "many"
  | .ok => ""
def spLGar (K : PySem.W.Frag) (a : Adr) : Sp := fun vs H Q _ => ∃ v c wk cl o kc kw kl, vs = [v, c, wk, cl] ∧ GArg K a H v o ∧ KdOf K H c kc ∧ KdOf K H wk kw ∧ KdOf K H cl kl ∧ ∀ H', Same H H' → Q (.str (resS (gOut o c wk cl))) H'
theorem scLGar : FnScope ["_law_pots", "_law_cans", "_law_week", "_law_closed", "_law_handed", "_law_made", "_law_error"] ["_law_pots", "_law_cans", "_law_week", "_law_closed"] (defScope sLGar) := ⟨rfl, rfl, rfl, by decide +kernel, rfl, by decide +kernel, by decide +kernel⟩
theorem deq_same {H : Hp} {n : Nat} {x : V} (h : flatV x = true) : DEq K H n x x true := by
  have := DEq.flat (K := K) (H := H) (n := n) h h
  rw [eqV_refl h] at this
  exact this
theorem gOut_ok {o : Option (List PotD)} {c w cl : V} (h : gOut o c w cl = .ok) : ∃ ps ci wi li, o = some ps ∧ c = .int ci ∧ w = .int wi ∧ cl = .int li := by
  cases o with
  | none => cases h
  | some ps =>
    have h' : gRes ps c w cl = .ok := h
    unfold gRes at h'
    split at h'
    · cases h'
    · rename_i e
      have e' : cntOk ps.length c w cl = true := by simpa using e
      unfold cntOk at e'
      simp only [Bool.and_eq_true] at e'
      obtain ⟨⟨⟨⟨_, _⟩, e3⟩, e4⟩, e5⟩ := e'
      obtain ⟨ci, rfl, _⟩ := whole_int e3
      obtain ⟨wi, rfl, _⟩ := whole_int e4
      obtain ⟨li, rfl, _⟩ := whole_int e5
      exact ⟨ps, ci, wi, li, rfl, rfl, rfl, rfl⟩
theorem ok_lgar {f : Addr} {fd : FuncData} (F : Fun K "_law_garden" "_law_garden" sLGar f fd) (L : TxtL K mg a dV) : FnOk P w K mg base (CXg P w) 9 f fd ["_law_pots", "_law_cans", "_law_week", "_law_closed"] (spLGar K a) := by
  refine F.okX scLGar (fun vs H Q E h => ?_) (fun cdv A outer s H vs Q E hr h => ?_)
  · obtain ⟨v, c, wk, cl, o, kc, kw, kl, rfl, _⟩ := h
    rfl
  · obtain ⟨v, c, wk, cl, o, kc, kw, kl, rfl, ga, hc, hw, hcl, q⟩ := h
    have Z := L.J.Z
    have T := Z.G.T
    obtain ⟨fk, dk, okk, mk, kk, bk⟩ := L.kind (P := P) (w := w) (base := base)
    refine ⟨_, pss_cons (ps_set (i := 4) scLGar.nd rfl (Or.inl rfl) (pe_ifExp (pt_val (pe_isT .list T.B.isinstance T.B.list (pv 0))) (pe_ct call_list_of T.B.list PyProof.Rows.boot_list (pa_cons (pv 0) pa_nil)) (pv 0)))
      (pss_cons (ps_tryAs (hit := fun cls => PySem.W.exmOne K cls (.ref a.gErr) = some true) rfl ⟨_, _, rfl, rfl, rfl⟩ scLGar.nd (i := 6) rfl rfl (by rfl) L.N.ge (fun _ h => h)
        (fun E' pn' Eb acc => pss_one (ps_set (i := 5) scLGar.nd rfl (Or.inl rfl) (pe_mk Z.kG (ok_gi Z) hr Z.mGar Z.b4 (passes_of acc) (pa_cons (pv 4) (pa_cons (pv 1) (pa_cons (pv 2) (pa_cons (pv 3) pa_nil)))))))
        (fun e => pss_one (ps_ret (pe_callH okk (RoomH.mark (hr.mono (by decide)).toH) (by rfl) mk kk bk .nil pass_nox (pa_cons (pv 6) pa_nil)))))
      (pss_one (ps_ret (pe_ifExp (pt_cmpR (op_eqT hr.units) (pe_tup (pa_cons (pe_fld (pv 5) rfl) (pa_cons (pe_fld (pv 5) rfl) (pa_cons (pe_fld (pv 5) rfl) pa_nil)))) (pe_tup (pa_cons (pv 1) (pa_cons (pv 2) (pa_cons (pv 3) pa_nil)))) (nomark _)) pe_str pe_str)))), ?_⟩
    -- behind the first row
    have rest : ∀ (u : V) (H1 : Hp), Same H H1 → GArg K a H1 u o → ∀ x dx, H1 x = none → H1 dx = none → dx ≠ x →
        spGI K a [.ref x, u, c, wk, cl] (upd (upd H1 dx (.own x)) x (.ins a.garden dx [])) (fun v2 H2 => v2 = .non ∧
          (tRet (tIf (tTest (tOp (rEqT K false) (tTup (tCons (tFld K (tVar 5) "cans") (tCons (tFld K (tVar 5) "week") (tCons (tFld K (tVar 5) "closed") tNil)))) (tTup (tCons (tVar 1) (tCons (tVar 2) (tCons (tVar 3) tNil)))))) (tC (.str "")) (tC (.str "wrong"))))
            { nx := fun _ H' => Q .non H', rt := Q } [some v, some c, some wk, some cl, some u, some (.ref x), none] H2) 
          (fun cls dx H' => PySem.W.exmOne K cls (.ref a.gErr) = some true ∧ ∀ e, H' e = none → ∃ v, ((blank 7).set 6 (some (.ref e)))[6]? = some (some v) ∧ spKind K a [v] (upd H' e (ExcO e cls dx)) Q (fun _ _ _ => False)) := by
      intro u H1 s1 g1
      refine rd_gar g1 (hc.same s1) (hw.same s1) (hcl.same s1) ⟨fun e H' s' => ⟨L.x0.m, fun ea he => ⟨_, rfl, ea, a.badPot, 0, rfl, upd_same, L.x0, by decide, fun H2 s2 => ?_⟩⟩, fun e H' s' => ⟨L.x1.m, fun ea he => ⟨_, rfl, ea, a.tooMany, 1, rfl, upd_same, L.x1, by decide, fun H2 s2 => ?_⟩⟩, fun e ps ci wi li H' x eo ec ew el hx s' gx => ?_⟩
      · have q' := q H2 (((s1.trans s').trans (upd_new he)).trans s2)
        rw [e] at q'
        exact q'
      · have q' := q H2 (((s1.trans s').trans (upd_new he)).trans s2)
        rw [e] at q'
        exact q'
      · subst ec ew el
        obtain ⟨dx, l, as, hx', hl', pt⟩ := gx
        refine ⟨_, rfl, x, a.garden, dx, _, _, rfl, hx', Z.tG.cl, Z.nG _ (by simp), g_cans .., _, rfl, x, a.garden, dx, _, _, rfl, hx', Z.tG.cl, Z.nG _ (by simp), g_week .., _, rfl, x, a.garden, dx, _, _, rfl, hx', Z.tG.cl, Z.nG _ (by simp), g_closed .., by show 3 ≤ sizeLine; decide, fun t1 h1 => ?_⟩
        refine ⟨_, rfl, _, rfl, _, rfl, by show 3 ≤ sizeLine; decide, fun t2 h2 => ?_⟩
        have sa := upd_new (o := .tup [V.int ci, .int wi, .int li]) h1
        have sb := upd_new (o := .tup [V.int ci, .int wi, .int li]) h2
        refine ⟨t1, t2, _, _, 0, fun _ => true, rfl, rfl, SqT.of (sb _ _ upd_same), SqT.of upd_same, by decide, fun j x y e1 e2 => ?_, _, rfl, ?_⟩
        · rw [e1] at e2
          cases e2
          refine deq_same ?_
          rcases j with _ | _ | _ | j <;> cases e1 <;> rfl
        · have q' := q _ ((s1.trans s').trans (sa.trans sb))
          rw [e] at q'
          exact iteT q'
    cases ga with
    | @no v k hk hb =>
      refine ⟨_, rfl, v, k, rfl, hk, _, rfl, ?_⟩
      rw [hb]
      exact iteF ⟨_, rfl, _, rfl, _, rfl, _, rfl, _, rfl, rest _ H (Same.refl _) (.no hk hb)⟩
    | @mix l xs ks hk hl len kds pk hb =>
      refine ⟨_, rfl, _, .lst, rfl, hk, _, rfl, iteT ⟨_, rfl, l, xs, rfl, .inl hl, fun m hm => ?_⟩⟩
      have sm := upd_new (o := .lst xs) hm
      exact ⟨_, rfl, _, rfl, _, rfl, _, rfl, rest _ _ sm (.mix ⟨m, xs, rfl, .inl upd_same⟩ (SqL.of upd_same) len (Paired.mapP kds fun _ _ e => e.same sm) pk hb)⟩
    | @pots l as ps hk hl len pt oks =>
      refine ⟨_, rfl, _, .lst, rfl, hk, _, rfl, iteT ⟨_, rfl, l, _, rfl, .inl hl, fun m hm => ?_⟩⟩
      have sm := upd_new (o := .lst (as.map V.ref)) hm
      exact ⟨_, rfl, _, rfl, _, rfl, _, rfl, rest _ _ sm (.pots ⟨m, _, rfl, .inl upd_same⟩ (SqL.of upd_same) len (pt.same sm) oks)⟩
end
end Tw
set_option Elab.async false
set_option linter.all false
set_option maxRecDepth 100000
set_option maxHeartbeats 1000000
namespace Tw
open PySem L2
abbrev sRight : Stmt := top 39
/-- the law's defs that make pots and gardens -/
structure TxtM (K : PySem.W.Frag) (mg : Str → Option Value) (a : Adr) (dV : Value) : Prop where
  L : TxtL K mg a dV
  lp : ∃ f fd, Fn K "_law_pot" "_law_pot" sLPot ["_law_name", "_law_gap", "_law_rest"] f fd ∧ mg "_law_pot" = some (.ref f)
  lg : ∃ f fd, Fn K "_law_garden" "_law_garden" sLGar ["_law_pots", "_law_cans", "_law_week", "_law_closed"] f fd ∧ mg "_law_garden" = some (.ref f)
section
variable {P : Program} {w : World} {K : PySem.W.Frag} {mg : Str → Option Value} {base : Heap} {a : Adr} {dV : Value}
theorem TxtM.pot (M : TxtM K mg a dV) : ∃ f fd, FnOk P w K mg base (CXg P w) 5 f fd ["_law_name", "_law_gap", "_law_rest"] (spLPot K) ∧ mg "_law_pot" = some (.ref f) ∧ PySem.W.keepIn K (.ref f) = true ∧ Binds K fd ["_law_name", "_law_gap", "_law_rest"] [] := by
  obtain ⟨f, fd, F, m⟩ := M.lp
  exact ⟨f, fd, ok_lpot F.F M.L, m, F.F.kp, F.b⟩
theorem TxtM.gar (M : TxtM K mg a dV) : ∃ f fd, FnOk P w K mg base (CXg P w) 9 f fd ["_law_pots", "_law_cans", "_law_week", "_law_closed"] (spLGar K a) ∧ mg "_law_garden" = some (.ref f) ∧ PySem.W.keepIn K (.ref f) = true ∧ Binds K fd ["_law_pots", "_law_cans", "_law_week", "_law_closed"] [] := by
  obtain ⟨f, fd, F, m⟩ := M.lg
  exact ⟨f, fd, ok_lgar F.F M.L, m, F.F.kp, F.b⟩
theorem kd_flat {H : Hp} {x : V} (h : flatV x = true) : ∃ k, KdOf K H x k := by
  cases x with
  | non => exact ⟨.non, rfl⟩
  | bl b => exact ⟨.bl, b, rfl⟩
  | int i => exact ⟨.int, i, rfl⟩
  | str x => exact ⟨.str, x, rfl⟩
  | _ => exact absurd h (by simp [flatV])
theorem lpot_bad {n g r : V} (h : lpotOk n g r = false) : lpot n g r = "pot" := by rw [lpot, h]; rfl
theorem lpot_good {n g r : V} (h : lpotOk n g r = true) : lpot n g r = "" := by rw [lpot, h]; rfl
theorem neS {x y : Str} {A B : Prop} (e : x = y) (h : B) : if (!decide (V.str x = V.str y)) = true then A else B := by
  rw [decide_eq_true (by rw [e])]
  exact iteF h
def spRight : Sp := fun vs H Q _ => ∃ far : Int, vs = [.int far] ∧ 0 ≤ far ∧ ∀ H', Same H H' → Q (.bl true) H'
theorem scRight : FnScope ["_law_far", "_law_name", "_law_gap", "_law_rest"] ["_law_far"] (defScope sRight) := ⟨rfl, rfl, rfl, by decide +kernel, rfl, by decide +kernel, by decide +kernel⟩
/-- what makes no pot whatever else -/
structure NoPotV (x : V) : Prop where
  fl : flatV x = true
  sm : smallS x
theorem small_lit {x : Str} (h : x.length ≤ 20) : smallS (.str x) := fun y e => by cases e; exact Nat.le_trans h (by decide)
theorem small_no {x : V} (h : ∀ y, x ≠ .str y) : smallS x := fun y e => absurd e (h y)
def badNames : List V := [.str "", .str "aaaaaaaaaaaaa", .str "Q", .str "q1", .str "q q", .int 3, .non, .bl true]
theorem badNames_at {i : Nat} {x : V} (h : badNames[i]? = some x) : flatV x = true ∧ smallS x ∧ nameV x = false := by
  have hm := List.mem_of_getElem? h
  unfold badNames at hm
  simp only [List.mem_cons, List.mem_nil_iff, or_false] at hm
  rcases hm with rfl | rfl | rfl | rfl | rfl | rfl | rfl | rfl
  · exact ⟨rfl, small_lit (by decide +kernel), by decide +kernel⟩
  · exact ⟨rfl, small_lit (by decide +kernel), by decide +kernel⟩
  · exact ⟨rfl, small_lit (by decide +kernel), by decide +kernel⟩
  · exact ⟨rfl, small_lit (by decide +kernel), by decide +kernel⟩
  · exact ⟨rfl, small_lit (by decide +kernel), by decide +kernel⟩
  · exact ⟨rfl, small_no (fun _ z => nomatch z), rfl⟩
  · exact ⟨rfl, small_no (fun _ z => nomatch z), rfl⟩
  · exact ⟨rfl, small_no (fun _ z => nomatch z), rfl⟩
def badGaps (far : Int) : List V := [.int 0, .int (61 + far), .int (-1 - far), .bl true, .str "3", .non]
theorem badGaps_at {far : Int} (h0 : 0 ≤ far) {i : Nat} {x : V} (h : (badGaps far)[i]? = some x) : flatV x = true ∧ wholeV x 1 60 = false := by
  have hm := List.mem_of_getElem? h
  unfold badGaps at hm
  simp only [List.mem_cons, List.mem_nil_iff, or_false] at hm
  rcases hm with rfl | rfl | rfl | rfl | rfl | rfl
  · exact ⟨rfl, rfl⟩
  · refine ⟨rfl, ?_⟩
    simp only [wholeV, Bool.and_eq_false_iff, decide_eq_false_iff_not]; omega
  · refine ⟨rfl, ?_⟩
    simp only [wholeV, Bool.and_eq_false_iff, decide_eq_false_iff_not]; omega
  · exact ⟨rfl, rfl⟩
  · exact ⟨rfl, rfl⟩
  · exact ⟨rfl, rfl⟩
def badRests (far : Int) : List V := [.int (-1 - far), .int (3 + far), .bl true, .str "1"]
theorem badRests_at {far : Int} (h0 : 0 ≤ far) {i : Nat} {x : V} (h : (badRests far)[i]? = some x) : flatV x = true ∧ x ≠ .non ∧ wholeV x 0 2 = false := by
  have hm := List.mem_of_getElem? h
  unfold badRests at hm
  simp only [List.mem_cons, List.mem_nil_iff, or_false] at hm
  (rcases hm with rfl | rfl | rfl | rfl)
  · refine ⟨rfl, (fun z => nomatch z), ?_⟩
    simp only [wholeV, Bool.and_eq_false_iff, decide_eq_false_iff_not]; omega
  · refine ⟨rfl, (fun z => nomatch z), ?_⟩
    simp only [wholeV, Bool.and_eq_false_iff, decide_eq_false_iff_not]; omega
  · exact ⟨rfl, (fun z => nomatch z), rfl⟩
  · exact ⟨rfl, (fun z => nomatch z), rfl⟩
theorem ok_right {f : Addr} {fd : FuncData} (F : Fun K "_law_pots_right" "_law_pots_right" sRight f fd) (M : TxtM K mg a dV) : FnOk P w K mg base (CXg P w) 6 f fd ["_law_far"] spRight := by
  refine F.okX scRight (fun vs H Q E h => ?_) (fun cdv A outer s H vs Q E hr h => ?_)
  · obtain ⟨far, rfl, _⟩ := h
    rfl
  · obtain ⟨far, rfl, h0, q⟩ := h
    obtain ⟨fp, dp, okp, mp, kp, bp⟩ := M.pot (P := P) (w := w) (base := base)
    refine ⟨_, pss_cons (ps_for own_pass rfl (pi_list (pe_lst (pa_cons pe_str (pa_cons pe_str (pa_cons pe_str (pa_cons pe_str (pa_cons pe_str (pa_cons pe_int (pa_cons pe_non (pa_cons pe_bl pa_nil)))))))))) (pg_nm 1 scRight.nd)
        (pss_one (ps_if (pw_or (pt_cmpR op_ne (pe_fn okp hr mp kp bp pass_nox (pa_cons (pv 1) (pa_cons pe_int (pa_cons pe_non pa_nil)))) pe_str (nomark _)) (pw_or1 (pt_cmpR op_ne (pe_fn okp hr mp kp bp pass_nox (pa_cons (pv 1) (pa_cons pe_int (pa_cons pe_int pa_nil)))) pe_str (nomark _)))).pt (pss_one (ps_ret pe_bl)) pss_nil)))
      (pss_cons (ps_for own_pass rfl (pi_list (pe_lst (pa_cons pe_int (pa_cons (pe_op op_add pe_int (pv 0)) (pa_cons (pe_op op_sub (pe_un un_neg pe_int) (pv 0)) (pa_cons pe_bl (pa_cons pe_str (pa_cons pe_non pa_nil)))))))) (pg_nm 2 scRight.nd)
        (pss_one (ps_if (pw_or (pt_cmpR op_ne (pe_fn okp hr mp kp bp pass_nox (pa_cons pe_str (pa_cons (pv 2) (pa_cons pe_non pa_nil)))) pe_str (nomark _)) (pw_or1 (pt_cmpR op_ne (pe_fn okp hr mp kp bp pass_nox (pa_cons pe_str (pa_cons (pv 2) (pa_cons pe_int pa_nil)))) pe_str (nomark _)))).pt (pss_one (ps_ret pe_bl)) pss_nil)))
      (pss_cons (ps_for own_pass rfl (pi_list (pe_lst (pa_cons (pe_op op_sub (pe_un un_neg pe_int) (pv 0)) (pa_cons (pe_op op_add pe_int (pv 0)) (pa_cons pe_bl (pa_cons pe_str pa_nil)))))) (pg_nm 3 scRight.nd)
        (pss_one (ps_if (pt_cmpR op_ne (pe_fn okp hr mp kp bp pass_nox (pa_cons pe_str (pa_cons pe_int (pa_cons (pv 3) pa_nil)))) pe_str (nomark _)) (pss_one (ps_ret pe_bl)) pss_nil)))
      (pss_one (ps_ret (pe_and (pe_cmpR op_eq (pe_fn okp hr mp kp bp pass_nox (pa_cons pe_str (pa_cons pe_int (pa_cons pe_non pa_nil)))) pe_str (nomark _)) (pe_and (pe_cmpR op_eq (pe_fn okp hr mp kp bp pass_nox (pa_cons pe_str (pa_cons pe_int (pa_cons pe_int pa_nil)))) pe_str (nomark _))
        (pe_one (pe_cmpR op_eq (pe_fn okp hr mp kp bp pass_nox (pa_cons pe_str (pa_cons pe_int (pa_cons pe_int pa_nil)))) pe_str (nomark _))))))))), ?_⟩
    have qS : smallS (.str "q") := small_lit (by decide +kernel)
    have qN : nameV (.str "q") = true := by decide +kernel
    -- names
    refine ⟨by show 8 ≤ sizeLine; decide, fun l1 hl1 => ⟨l1, rfl, ⟨_, SqL.of upd_same⟩, for_list (K := K) (a := l1) (xs := badNames) (fun i σ H' => ∃ u, σ = [some (.int far), u, none, none] ∧ Same H H' ∧ H' l1 = some (.lst badNames)) ⟨none, rfl, upd_new hl1, upd_same⟩ (fun i σ H' _ ⟨_, _, _, e⟩ => SqL.of e) ?_ ?_⟩⟩
    · rintro i x σ H1 hi ⟨u, rfl, s1, e1⟩
      obtain ⟨fx, sx, nx⟩ := badNames_at hi
      obtain ⟨k, hk⟩ := kd_flat (K := K) (H := H1) fx
      refine ⟨_, rfl, x, .int 3, .non, k, .int, .non, rfl, hk, sx, ⟨_, rfl⟩, rfl, fun H2 s2 => ⟨rfl, _, rfl, ?_⟩⟩
      refine neS (lpot_bad (by simp [lpotOk, potOk, nx])) ⟨_, rfl, x, .int 3, .int 1, k, .int, .int, rfl, hk.same s2, sx, ⟨_, rfl⟩, ⟨_, rfl⟩, fun H3 s3 => ⟨rfl, _, rfl, ?_⟩⟩
      exact neS (lpot_bad (by simp [lpotOk, potOk, nx])) ⟨_, rfl, (s1.trans s2).trans s3, (s2.trans s3) _ _ e1⟩
    · rintro σ H1 ⟨u, rfl, s1, _⟩
      -- gaps
      refine ⟨_, rfl, _, _, rfl, rfl, _, rfl, _, rfl, _, _, rfl, rfl, by show 6 ≤ sizeLine; decide, fun l2 hl2 => ⟨l2, rfl, ⟨_, SqL.of upd_same⟩, for_list (K := K) (a := l2) (xs := badGaps far) (fun i σ H' => ∃ v, σ = [some (.int far), u, v, none] ∧ Same H H' ∧ H' l2 = some (.lst (badGaps far))) ⟨none, rfl, same_upd s1 (s1.free hl2), upd_same⟩ (fun i σ H' _ ⟨_, _, _, e⟩ => SqL.of e) ?_ ?_⟩⟩
      · rintro i x σ H2 hi ⟨v, rfl, s2, e2⟩
        obtain ⟨fx, wx⟩ := badGaps_at h0 hi
        obtain ⟨k, hk⟩ := kd_flat (K := K) (H := H2) fx
        refine ⟨_, rfl, _, x, .non, .str, k, .non, rfl, ⟨_, rfl⟩, qS, hk, rfl, fun H3 s3 => ⟨rfl, _, rfl, ?_⟩⟩
        refine neS (lpot_bad (by simp [lpotOk, potOk, wx])) ⟨_, rfl, _, x, .int 0, .str, k, .int, rfl, ⟨_, rfl⟩, qS, hk.same s3, ⟨_, rfl⟩, fun H4 s4 => ⟨rfl, _, rfl, ?_⟩⟩
        exact neS (lpot_bad (by simp [lpotOk, potOk, wx])) ⟨_, rfl, (s2.trans s3).trans s4, (s3.trans s4) _ _ e2⟩
      · rintro σ H2 ⟨v, rfl, s2, _⟩
        -- rests
        refine ⟨_, rfl, _, rfl, _, _, rfl, rfl, _, rfl, _, _, rfl, rfl, by show 4 ≤ sizeLine; decide, fun l3 hl3 => ⟨l3, rfl, ⟨_, SqL.of upd_same⟩, for_list (K := K) (a := l3) (xs := badRests far) (fun i σ H' => ∃ z, σ = [some (.int far), u, v, z] ∧ Same H H' ∧ H' l3 = some (.lst (badRests far))) ⟨none, rfl, same_upd s2 (s2.free hl3), upd_same⟩ (fun i σ H' _ ⟨_, _, _, e⟩ => SqL.of e) ?_ ?_⟩⟩
        · rintro i x σ H3 hi ⟨z, rfl, s3, e3⟩
          obtain ⟨fx, nx, wx⟩ := badRests_at h0 hi
          obtain ⟨k, hk⟩ := kd_flat (K := K) (H := H3) fx
          refine ⟨_, rfl, _, .int 3, x, .str, .int, k, rfl, ⟨_, rfl⟩, qS, ⟨_, rfl⟩, hk, fun H4 s4 => ⟨rfl, _, rfl, ?_⟩⟩
          exact neS (lpot_bad (by simp [lpotOk, nx, restOk, wx])) ⟨_, rfl, s3.trans s4, s4 _ _ e3⟩
        · rintro σ H3 ⟨z, rfl, s3, _⟩
          refine ⟨_, .int 60, .non, .str, .int, .non, rfl, ⟨_, rfl⟩, qS, ⟨_, rfl⟩, rfl, fun H4 s4 => ⟨rfl, true, ?_, iteT ?_⟩⟩
          · rw [lpot_good (by simp [lpotOk, potOk, qN, wholeV])]; rfl
          refine ⟨_, .int 60, .int 59, .str, .int, .int, rfl, ⟨_, rfl⟩, small_lit (by decide +kernel), ⟨_, rfl⟩, ⟨_, rfl⟩, fun H5 s5 => ⟨rfl, true, ?_, iteT ?_⟩⟩
          · rw [lpot_good (by decide +kernel)]; rfl
          refine ⟨_, .int 1, .int 0, .str, .int, .int, rfl, ⟨_, rfl⟩, qS, ⟨_, rfl⟩, ⟨_, rfl⟩, fun H6 s6 => ⟨rfl, ?_⟩⟩
          rw [lpot_good (by decide +kernel)]
          exact q H6 (((s3.trans s4).trans s5).trans s6)
end
end Tw
set_option Elab.async false
set_option linter.all false
set_option maxRecDepth 100000
set_option maxHeartbeats 1000000
namespace Tw
open PySem L2
abbrev sChg : Stmt := top 40
section
variable {X : Cx} {CX : CXT} {k : Nat} {f C : Addr} {fd : FuncData} {ps : List Str} {sp : Sp} {dvs : List V} {ds : List Value} {E : XK} {x : Str} {p pos : Pos} {e : Expr} {es : List Expr} {t : TA}
/-- C(e, ..), the last ones by default -/
theorem pe_mkD (M : Mk X.K C f) (F : FnOk X.prog X.w X.K X.mg X.base CX k f fd ps sp) (hr : Room (k + 1) X.A) (hm : X.mg x = some (.ref C)) (hb : Binds X.K fd ps ds) (hd : Vals dvs ds) (hx : Passes CX X E) (ha : PA X (e :: es) t)
    (hg : Gl X x := by rfl) (hdb : (x == ("__debug__" : Str)) = false := by decide) (he : starEach (e :: es) X.env = (false, eval e X.env) :: starEach es X.env := by rfl) (hpl : (backTo pos (starEach es X.env)).any (·.1) = false := by rfl) :
    PE X (.Call (.Name x p) (e :: es) [] pos) (tMake C sp dvs E t) := pe_make M F hr hg hm hb hd hx ha hdb he hpl
end
section
variable {P : Program} {w : World} {K : PySem.W.Frag} {mg : Str → Option Value} {base : Heap} {a : Adr} {dV : Value}
theorem eqT {x y : Int} {A B : Prop} (e : x = y) (h : A) : if decide (V.int x = V.int y) = true then A else B := by
  rw [decide_eq_true (by rw [e])]; exact iteT h
theorem eqF {x y : Int} {A B : Prop} (e : x ≠ y) (h : B) : if decide (V.int x = V.int y) = true then A else B := by
  rw [decide_eq_false (fun z => e (by injection z))]; exact iteF h
theorem gp_many {H : Hp} {Q : Addr → Hp → Prop} {E : XK} {o : Option (List PotD)} {c w cl : V} (h : gOut o c w cl = .many) (k : ∀ H', Same H H' → E (.ref a.tooMany) none H') : GPost a H Q E o c w cl :=
  ⟨fun e => (by rw [h] at e; cases e), fun _ => k, fun e => (by rw [h] at e; cases e)⟩
theorem gp_bad {H : Hp} {Q : Addr → Hp → Prop} {E : XK} {o : Option (List PotD)} {c w cl : V} (h : gOut o c w cl = .bad) (k : ∀ H', Same H H' → E (.ref a.badPot) none H') : GPost a H Q E o c w cl :=
  ⟨fun _ => k, fun e => (by rw [h] at e; cases e), fun e => (by rw [h] at e; cases e)⟩
theorem gp_ok {H : Hp} {Q : Addr → Hp → Prop} {E : XK} {ps : List PotD} {c w cl : Int} (h : gOut (some ps) (.int c) (.int w) (.int cl) = .ok) (k : ∀ H' x, H x = none → Same H H' → GarAt a H' x ⟨ps, c, w, cl⟩ → Q x H') : GPost a H Q E (some ps) (.int c) (.int w) (.int cl) :=
  ⟨fun e => (by rw [h] at e; cases e), fun e => (by rw [h] at e; cases e), fun _ ps' ci wi li H' x e1 e2 e3 e4 hx s' g => by cases e1; cases e2; cases e3; cases e4; exact k H' x hx s' g⟩
def pQ : PotD := ⟨"q", 3, none⟩
def pW : PotD := ⟨"w", 60, none⟩
def pX : PotD := ⟨"x", 5, some 2⟩
def gHere : GarD := ⟨[pQ, pW, pX], 1, 1, 0⟩
theorem okP {x : Str} {g : Int} (h : nameV (.str x) = true) (h1 : 1 ≤ g) (h2 : g ≤ 60) : PotD.Ok ⟨x, g, none⟩ := ⟨h, ⟨h1, h2⟩, fun r e => nomatch e⟩
theorem gHere_ok : ∀ p ∈ gHere.pots, p.Ok := by
  intro p hp
  simp only [gHere, List.mem_cons, List.mem_nil_iff, or_false] at hp
  rcases hp with rfl | rfl | rfl
  · exact okP (by decide +kernel) (by decide) (by decide)
  · exact okP (by decide +kernel) (by decide) (by decide)
  · exact ⟨by decide +kernel, ⟨by decide, by decide⟩, fun r e => by cases e; exact ⟨by decide, by decide⟩⟩
theorem firstQ : First "q" gHere.pots 0 pQ := ⟨rfl, rfl, fun i _ hi => absurd hi (Nat.not_lt_zero i)⟩
theorem firstW : First "w" gHere.pots 1 pW := ⟨rfl, rfl, fun i q hi hq => by
  obtain rfl : i = 0 := by omega
  cases hq
  decide +kernel⟩
theorem firstX : First "x" gHere.pots 2 pX := ⟨rfl, rfl, fun i q hi hq => by
  have h : i = 0 ∨ i = 1 := by omega
  rcases h with rfl | rfl
  · cases hq
    decide +kernel
  · cases hq
    decide +kernel⟩
def dues : List Str := ["many", "pot", "none", "pot", "many", "pot", "pot", "", "many"]
def spChg (a : Adr) : Sp := fun vs H Q _ => ∃ x way d, vs = [.ref x, .int (way : Nat)] ∧ GarAt a H x gHere ∧ dues[way]? = some d ∧ ∀ H', Same H H' → Q (.str d) H'
theorem scChg : FnScope ["_law_garden_here", "_law_way", "_law_error"] ["_law_garden_here", "_law_way"] (defScope sChg) := ⟨rfl, rfl, rfl, by decide +kernel, rfl, by decide +kernel, by decide +kernel⟩
theorem ok_chg {f : Addr} {fd : FuncData} (F : Fun K "_law_changed" "_law_changed" sChg f fd) (L : TxtL K mg a dV) : FnOk P w K mg base (CXg P w) 10 f fd ["_law_garden_here", "_law_way"] (spChg a) := by
  refine F.okX scChg (fun vs H Q E h => ?_) (fun cdv A outer s H vs Q E hr h => ?_)
  · obtain ⟨x, way, d, rfl, _⟩ := h
    rfl
  · obtain ⟨x, way, d, rfl, gx, hd, q⟩ := h
    have J := L.J
    have Z := J.Z
    have T := Z.G.T
    obtain ⟨fk, dk, okk, mk, kk, bk⟩ := L.kind (P := P) (w := w) (base := base)
    obtain ⟨t1, t2, t3, b1⟩ := Z.b1
    obtain ⟨t4, t5, b2⟩ := Z.b2
    have v1 : Vals [.int 1, .int 1, .int 0] [.int 1 t1, .int 1 t2, .int 0 t3] := .cons ⟨_, rfl⟩ (.cons ⟨_, rfl⟩ (.cons ⟨_, rfl⟩ .nil))
    have v2 : Vals [.int 1, .int 0] [.int 1 t4, .int 0 t5] := .cons ⟨_, rfl⟩ (.cons ⟨_, rfl⟩ .nil)
    have hr3 : Room 3 _ := hr.mono (by decide)
    have hr8 : Room 8 _ := hr.mono (by decide)
    refine ⟨_, pss_cons (ps_tryAs (hit := fun cls => PySem.W.exmOne K cls (.ref a.gErr) = some true) rfl ⟨_, _, rfl, rfl, rfl⟩ scChg.nd (i := 2) rfl rfl (by rfl) L.N.ge (fun _ h => h)
        (fun E' pn' Eb acc => (pss_one (ps_if (pt_cmpR op_eq (pv 1) pe_int (nomark _)) (pss_one (ps_expr (pe_fn (ok_cans J) hr J.mCans J.cans.F.kp J.cans.b (passes_of acc) (pa_cons (pv 0) (pa_cons pe_int pa_nil)))))
          (pss_one (ps_if (pt_cmpR op_eq (pv 1) pe_int (nomark _)) (pss_one (ps_expr (pe_fn (ok_wgap J) hr J.mWGap J.wgap.F.kp J.wgap.b (passes_of acc) (pa_cons (pv 0) (pa_cons pe_str (pa_cons pe_int pa_nil))))))
          (pss_one (ps_if (pt_cmpR op_eq (pv 1) pe_int (nomark _)) (pss_one (ps_expr (pe_fn (ok_wgap J) hr J.mWGap J.wgap.F.kp J.wgap.b (passes_of acc) (pa_cons (pv 0) (pa_cons pe_str (pa_cons pe_int pa_nil))))))
          (pss_one (ps_if (pt_cmpR op_eq (pv 1) pe_int (nomark _)) (pss_one (ps_expr (pe_fn (ok_join J) hr J.mJoin J.join.F.kp J.join.b (passes_of acc) (pa_cons (pv 0) (pa_cons (pv 0) pa_nil)))))
          (pss_one (ps_if (pt_cmpR op_eq (pv 1) pe_int (nomark _)) (pss_one (ps_expr (pe_fn (ok_wgap J) hr J.mWGap J.wgap.F.kp J.wgap.b (passes_of acc) (pa_cons (pv 0) (pa_cons pe_str (pa_cons pe_int pa_nil))))))
          (pss_one (ps_if (pt_cmpR op_eq (pv 1) pe_int (nomark _)) (pss_one (ps_expr (pe_fn (ok_wgap J) hr J.mWGap J.wgap.F.kp J.wgap.b (passes_of acc) (pa_cons (pv 0) (pa_cons pe_str (pa_cons pe_int pa_nil))))))
          (pss_one (ps_if (pt_cmpR op_eq (pv 1) pe_int (nomark _)) (pss_one (ps_expr (pe_fn (ok_wgap J) hr J.mWGap J.wgap.F.kp J.wgap.b (passes_of acc) (pa_cons (pv 0) (pa_cons pe_str (pa_cons pe_int pa_nil))))))
          (pss_one (ps_if (pt_cmpR op_eq (pv 1) pe_int (nomark _)) (pss_one (ps_expr (pe_fn (ok_join J) hr J.mJoin J.join.F.kp J.join.b (passes_of acc) (pa_cons (pv 0) (pa_cons (pe_mkD Z.kG (ok_gi Z) hr8 Z.mGar b1 v1 (passes_of acc) (pa_cons (pe_lst (pa_cons (pe_mk T.kP (ok_potInit T) hr3 T.mPot T.PI.b (passes_of acc) (pa_cons pe_str (pa_cons pe_int pa_nil))) pa_nil)) pa_nil)) pa_nil)))))
          (pss_one (ps_expr (pe_fn (ok_join J) hr J.mJoin J.join.F.kp J.join.b (passes_of acc) (pa_cons (pv 0) (pa_cons (pe_mkD Z.kG (ok_gi Z) hr8 Z.mGar b2 v2 (passes_of acc) (pa_cons (pe_lst (pa_cons (pe_mk T.kP (ok_potInit T) hr3 T.mPot T.PI.b (passes_of acc) (pa_cons pe_str (pa_cons pe_int pa_nil))) pa_nil)) (pa_cons pe_int pa_nil))) pa_nil))))))))))))))))))))))
        (fun e => pss_one (ps_ret (pe_callH okk (RoomH.mark (hr.mono (by decide)).toH) (by rfl) mk kk bk .nil pass_nox (pa_cons (pv 2) pa_nil)))))
      (pss_one (ps_ret pe_str)), ?_⟩
    have caught : ∀ (C : Addr) (j : Nat), XC K a C j → j < 6 → d = kindS j → ∀ H', Same H H' → (PySem.W.exmOne K (.ref C) (.ref a.gErr) = some true ∧ ∀ e, H' e = none → ∃ v, ((blank 3).set 2 (some (.ref e)))[2]? = some (some v) ∧ spKind K a [v] (upd H' e (ExcO e (.ref C) none)) Q (fun _ _ _ => False)) := by
      intro C j xc hj ed H' s'
      refine ⟨xc.m, fun e he => ⟨_, rfl, e, C, j, rfl, upd_same, xc, hj, fun H2 s2 => ?_⟩⟩
      have q' := q H2 ((s'.trans (upd_new he)).trans s2)
      rw [ed] at q'
      exact q'
    have w9 : way = 0 ∨ way = 1 ∨ way = 2 ∨ way = 3 ∨ way = 4 ∨ way = 5 ∨ way = 6 ∨ way = 7 ∨ way = 8 := by
      have := (List.getElem?_eq_some_iff.mp hd).1
      simp [dues] at this
      omega
    rcases w9 with rfl | rfl | rfl | rfl | rfl | rfl | rfl | rfl | rfl <;> cases hd
    · exact ⟨_, rfl, rfl, _, rfl, eqT (by decide) (⟨_, rfl, x, gHere, .int 9, .int, rfl, gx, gHere_ok, by decide, ⟨_, rfl⟩, gp_many (by decide +kernel) (fun H' s' => caught a.tooMany 1 L.x1 (by decide) rfl H' s')⟩)⟩
    · exact ⟨_, rfl, rfl, _, rfl, eqF (by decide) ⟨_, rfl, rfl, _, rfl, eqT (by decide) (⟨_, rfl, x, gHere, "q", .int 0, .int, rfl, gx, gHere_ok, by decide, ⟨_, rfl⟩, (fun z => absurd (by decide +kernel) z), fun j p f => (by obtain ⟨rfl, rfl⟩ := f.one firstQ; exact ⟨fun _ H' s' => caught a.badPot 0 L.x0 (by decide) rfl H' s', fun z => absurd z (by decide +kernel)⟩)⟩)⟩⟩
    · exact ⟨_, rfl, rfl, _, rfl, eqF (by decide) ⟨_, rfl, rfl, _, rfl, eqF (by decide) ⟨_, rfl, rfl, _, rfl, eqT (by decide) (⟨_, rfl, x, gHere, "z", .int 0, .int, rfl, gx, gHere_ok, by decide, ⟨_, rfl⟩, (fun _ => fun H' s' => caught a.noPot 2 L.x2 (by decide) rfl H' s'), fun j p f => absurd f.mem (by decide +kernel)⟩)⟩⟩⟩
    · exact ⟨_, rfl, rfl, _, rfl, eqF (by decide) ⟨_, rfl, rfl, _, rfl, eqF (by decide) ⟨_, rfl, rfl, _, rfl, eqF (by decide) ⟨_, rfl, rfl, _, rfl, eqT (by decide) (⟨_, rfl, _, rfl, x, x, gHere, gHere, rfl, gx, gx, (fun p hp => by rcases List.mem_append.mp hp with h | h <;> exact gHere_ok p h), by decide, by decide, gp_bad (by decide +kernel) (fun H' s' => caught a.badPot 0 L.x0 (by decide) rfl H' s')⟩)⟩⟩⟩⟩
    · refine ⟨_, rfl, rfl, _, rfl, eqF (by decide) ⟨_, rfl, rfl, _, rfl, eqF (by decide) ⟨_, rfl, rfl, _, rfl, eqF (by decide) ⟨_, rfl, rfl, _, rfl, eqF (by decide) ⟨_, rfl, rfl, _, rfl, eqF (by decide) ⟨_, rfl, rfl, _, rfl, eqF (by decide) ⟨_, rfl, rfl, _, rfl, eqF (by decide) ⟨_, rfl, rfl, _, rfl, eqF (by decide) (⟨_, rfl, rd_pot (kn := .str) (kg := .int) ⟨_, rfl⟩ (small_lit (by decide +kernel)) ⟨_, rfl⟩ (fun e => absurd e (by decide +kernel)) (fun _ H1 y hy s1 hpy => ⟨by show 1 ≤ sizeLine; decide, fun l hl => ?_⟩)⟩)⟩⟩⟩⟩⟩⟩⟩⟩
      have pok : PotD.Ok ⟨"z", 1, none⟩ := okP (by decide +kernel) (by decide) (by decide)
      obtain ⟨dy, hpy⟩ := hpy
      have sl := upd_new (o := .lst [V.ref y]) hl
      have py : PotAt a (upd H1 l (.lst [V.ref y])) y ⟨"z", 1, none⟩ := ⟨dy, sl _ _ hpy⟩
      refine rd_gar (kc := .int) (kw := .int) (kl := .int) (GArg.pots (as := [y]) ⟨l, _, rfl, .inl upd_same⟩ (SqL.of upd_same) (by show 1 ≤ 1000; decide) (.cons py .nil) (fun p hp => by rw [List.mem_singleton.mp hp]; exact pok)) ⟨_, rfl⟩ ⟨_, rfl⟩ ⟨_, rfl⟩ (gp_ok (c := 8) (by decide +kernel) (fun H3 z hz s3 gz => ?_))
      have sA := (s1.trans sl).trans s3
      have oks2 : ∀ p ∈ gHere.pots ++ [⟨"z", 1, none⟩], p.Ok := by
        intro p hp
        rcases (List.mem_append.mp hp) with hq | hq
        · exact gHere_ok p hq
        · rw [List.mem_singleton.mp hq]; exact pok
      exact ⟨x, z, gHere, ⟨[⟨"z", 1, none⟩], 8, 1, 0⟩, rfl, gx.same sA, gz, oks2, by decide, by decide, gp_many (by decide +kernel) (fun H' s' => caught a.tooMany 1 L.x1 (by decide) rfl H' (sA.trans s'))⟩
    · exact ⟨_, rfl, rfl, _, rfl, eqF (by decide) ⟨_, rfl, rfl, _, rfl, eqF (by decide) ⟨_, rfl, rfl, _, rfl, eqF (by decide) ⟨_, rfl, rfl, _, rfl, eqF (by decide) ⟨_, rfl, rfl, _, rfl, eqT (by decide) (⟨_, rfl, x, gHere, "x", .int 2, .int, rfl, gx, gHere_ok, by decide, ⟨_, rfl⟩, (fun z => absurd (by decide +kernel) z), fun j p f => (by obtain ⟨rfl, rfl⟩ := f.one firstX; exact ⟨fun _ H' s' => caught a.badPot 0 L.x0 (by decide) rfl H' s', fun z => absurd z (by decide +kernel)⟩)⟩)⟩⟩⟩⟩⟩
    · exact ⟨_, rfl, rfl, _, rfl, eqF (by decide) ⟨_, rfl, rfl, _, rfl, eqF (by decide) ⟨_, rfl, rfl, _, rfl, eqF (by decide) ⟨_, rfl, rfl, _, rfl, eqF (by decide) ⟨_, rfl, rfl, _, rfl, eqF (by decide) ⟨_, rfl, rfl, _, rfl, eqT (by decide) (⟨_, rfl, x, gHere, "w", .int 61, .int, rfl, gx, gHere_ok, by decide, ⟨_, rfl⟩, (fun z => absurd (by decide +kernel) z), fun j p f => (by obtain ⟨rfl, rfl⟩ := f.one firstW; exact ⟨fun _ H' s' => caught a.badPot 0 L.x0 (by decide) rfl H' s', fun z => absurd z (by decide +kernel)⟩)⟩)⟩⟩⟩⟩⟩⟩
    · exact ⟨_, rfl, rfl, _, rfl, eqF (by decide) ⟨_, rfl, rfl, _, rfl, eqF (by decide) ⟨_, rfl, rfl, _, rfl, eqF (by decide) ⟨_, rfl, rfl, _, rfl, eqF (by decide) ⟨_, rfl, rfl, _, rfl, eqF (by decide) ⟨_, rfl, rfl, _, rfl, eqF (by decide) ⟨_, rfl, rfl, _, rfl, eqT (by decide) (⟨_, rfl, x, gHere, "x", .int 3, .int, rfl, gx, gHere_ok, by decide, ⟨_, rfl⟩, (fun z => absurd (by decide +kernel) z), fun j p f => (by obtain ⟨rfl, rfl⟩ := f.one firstX; exact ⟨fun z => absurd z (by decide +kernel), fun _ i H1 e s1 => (by cases e; exact gp_ok (by decide +kernel) (fun H2 y hy s2 g => q H2 (s1.trans s2)))⟩)⟩)⟩⟩⟩⟩⟩⟩⟩
    · refine ⟨_, rfl, rfl, _, rfl, eqF (by decide) ⟨_, rfl, rfl, _, rfl, eqF (by decide) ⟨_, rfl, rfl, _, rfl, eqF (by decide) ⟨_, rfl, rfl, _, rfl, eqF (by decide) ⟨_, rfl, rfl, _, rfl, eqF (by decide) ⟨_, rfl, rfl, _, rfl, eqF (by decide) ⟨_, rfl, rfl, _, rfl, eqF (by decide) ⟨_, rfl, rfl, _, rfl, eqT (by decide) (⟨_, rfl, rd_pot (kn := .str) (kg := .int) ⟨_, rfl⟩ (small_lit (by decide +kernel)) ⟨_, rfl⟩ (fun e => absurd e (by decide +kernel)) (fun _ H1 y hy s1 hpy => ⟨by show 1 ≤ sizeLine; decide, fun l hl => ?_⟩)⟩)⟩⟩⟩⟩⟩⟩⟩⟩
      have pok : PotD.Ok ⟨"y", 60, none⟩ := okP (by decide +kernel) (by decide) (by decide)
      obtain ⟨dy, hpy⟩ := hpy
      have sl := upd_new (o := .lst [V.ref y]) hl
      have py : PotAt a (upd H1 l (.lst [V.ref y])) y ⟨"y", 60, none⟩ := ⟨dy, sl _ _ hpy⟩
      refine rd_gar (kc := .int) (kw := .int) (kl := .int) (GArg.pots (as := [y]) ⟨l, _, rfl, .inl upd_same⟩ (SqL.of upd_same) (by show 1 ≤ 1000; decide) (.cons py .nil) (fun p hp => by rw [List.mem_singleton.mp hp]; exact pok)) ⟨_, rfl⟩ ⟨_, rfl⟩ ⟨_, rfl⟩ (gp_ok (c := 1) (by decide +kernel) (fun H3 z hz s3 gz => ?_))
      have sA := (s1.trans sl).trans s3
      have oks2 : ∀ p ∈ gHere.pots ++ [⟨"y", 60, none⟩], p.Ok := by
        intro p hp
        rcases (List.mem_append.mp hp) with hq | hq
        · exact gHere_ok p hq
        · rw [List.mem_singleton.mp hq]; exact pok
      exact ⟨x, z, gHere, ⟨[⟨"y", 60, none⟩], 1, 1, 0⟩, rfl, gx.same sA, gz, oks2, by decide, by decide, gp_many (by decide +kernel) (fun H' s' => caught a.tooMany 1 L.x1 (by decide) rfl H' (sA.trans s'))⟩
end
end Tw
set_option Elab.async false
set_option linter.all false
set_option maxRecDepth 100000
set_option maxHeartbeats 2100000
namespace Tw
open PySem L2
abbrev sLaw : Stmt := top 41
abbrev lawN : List Str := ["_law_script", "_law_far", "_law_one", "_law_two", "_law_far_pot", "_law_pots", "_law_bad", "_law_cans", "_law_week", "_law_closed", "_law_wide", "_law_eight", "_law_plain", "_law_garden_here", "_law_due"]
/-- the defs that the law itself calls -/
structure TxtO (K : PySem.W.Frag) (mg : Str → Option Value) (a : Adr) (dV : Value) : Prop where
  M : TxtM K mg a dV
  ce : ∃ f fd, Fn K "_law_cell_at" "_law_cell_at" sCell ["_law_script", "_law_k"] f fd ∧ mg "_law_cell_at" = some (.ref f)
  ri : ∃ f fd, Fn K "_law_pots_right" "_law_pots_right" sRight ["_law_far"] f fd ∧ mg "_law_pots_right" = some (.ref f)
  ch : ∃ f fd, Fn K "_law_changed" "_law_changed" sChg ["_law_garden_here", "_law_way"] f fd ∧ mg "_law_changed" = some (.ref f)
section
variable {P : Program} {w : World} {K : PySem.W.Frag} {mg : Str → Option Value} {base : Heap} {a : Adr} {dV : Value}
def pT : PotD := ⟨"q", 4, none⟩
def eightP : List PotD := [⟨"a", 1, none⟩, ⟨"b", 1, none⟩, ⟨"c", 1, none⟩, ⟨"d", 1, none⟩, ⟨"e", 1, none⟩, ⟨"f", 1, none⟩, ⟨"g", 1, none⟩, ⟨"h", 1, none⟩]
def wideP : List PotD := [pW, ⟨"e", 60, none⟩, ⟨"r", 5, none⟩]
theorem okQ : pQ.Ok := okP (by decide +kernel) (by decide) (by decide)
theorem okT : pT.Ok := okP (by decide +kernel) (by decide) (by decide)
theorem okW : pW.Ok := okP (by decide +kernel) (by decide) (by decide)
theorem ok8 : ∀ p ∈ eightP, p.Ok := by
  intro p hp
  simp only [eightP, List.mem_cons, List.mem_nil_iff, or_false] at hp
  rcases hp with rfl | rfl | rfl | rfl | rfl | rfl | rfl | rfl <;> exact okP (by decide +kernel) (by decide) (by decide)
theorem ok3 : ∀ p ∈ wideP, p.Ok := by
  intro p hp
  simp only [wideP, List.mem_cons, List.mem_nil_iff, or_false] at hp
  rcases hp with rfl | rfl | rfl
  · exact okW
  · exact okP (by decide +kernel) (by decide) (by decide)
  · exact okP (by decide +kernel) (by decide) (by decide)
def spLaw (K : PySem.W.Frag) : Sp := fun vs H Q _ => ∃ (l : Addr) (ns : List Int), vs = [.ref l] ∧ SqL K H l (ns.map V.int) ∧ ∀ H', Q (.bl true) H'
theorem scLaw : FnScope lawN ["_law_script"] (defScope sLaw) := ⟨rfl, rfl, rfl, by decide +kernel, rfl, by decide +kernel, by decide +kernel⟩
end
end Tw
set_option Elab.async false
set_option linter.all false
set_option maxRecDepth 100000
set_option maxHeartbeats 2100000
namespace Tw
open PySem L2
section
variable {P : Program} {w : World} {K : PySem.W.Frag} {mg : Str → Option Value} {base : Heap} {a : Adr} {dV : Value}
theorem lawC (O : TxtO K mg a dV) {f : Addr} {cdv : Value} {A : Around} {outer : List Env} {s : Shared} {H₀ : Hp} {E : XK} (hr : Room 11 (A.deeper (PyProof.Rows.envOfC "law" (defScope sLaw) s.heap.objs.size f cdv))) :
    ∃ t, PSs (cxOf (CXg P w) P w K mg base lawN "law" (defScope sLaw) f cdv A outer s H₀ E) ((defBody sLaw).drop 12) t ∧ ∀ (D : Ends) (H : Hp) (o t' fp e8 : Addr) (bs : List Addr) (s0 s1 s5 s6 s7 s8 s9 s10 : Option V), PotAt a H o pQ → PotAt a H fp pW → H e8 = some (.lst (bs.map V.ref)) → Pots a H bs eightP →
      (∀ H', D.rt (.bl true) H') → t D [s0, s1, some (.ref o), some (.ref t'), some (.ref fp), s5, s6, s7, s8, s9, s10, some (.ref e8), none, none, none] H := by
  have M := O.M
  have L := M.L
  have Z := L.J.Z
  have T := Z.G.T
  obtain ⟨fg, dg, okg, mG, kG, bG⟩ := M.gar (P := P) (w := w) (base := base)
  obtain ⟨fc, dc, cF, mC⟩ := O.ce
  obtain ⟨fr, dr, rF, mR⟩ := O.ri
  obtain ⟨fh, dh, hF, mH⟩ := O.ch
  have okc : FnOk P w K mg base (CXg P w) 1 fc dc ["_law_script", "_law_k"] (spCell K) := ok_cell cF.F T.B
  have okr : FnOk P w K mg base (CXg P w) 6 fr dr ["_law_far"] spRight := ok_right rF.F M
  have okh : FnOk P w K mg base (CXg P w) 10 fh dh ["_law_garden_here", "_law_way"] (spChg a) := ok_chg hF.F L
  have kC := cF.F.kp
  have bC := cF.b
  have kR := rF.F.kp
  have bR := rF.b
  have kH := hF.F.kp
  have bH := hF.b
  obtain ⟨t1, t2, t3, b1⟩ := Z.b1
  have v1 : Vals [.int 1, .int 1, .int 0] [.int 1 t1, .int 1 t2, .int 0 t3] := .cons ⟨_, rfl⟩ (.cons ⟨_, rfl⟩ (.cons ⟨_, rfl⟩ .nil))
  have hr1 : Room 1 _ := hr.mono (by decide)
  have hr3 : Room 3 _ := hr.mono (by decide)
  have hr4 : Room 4 _ := hr.mono (by decide)
  have hr6 : Room 6 _ := hr.mono (by decide)
  have hr8 : Room 8 _ := hr.mono (by decide)
  have hr9 : Room 9 _ := hr.mono (by decide)
  have hr10 : Room 10 _ := hr.mono (by decide)
  refine ⟨_, (pss_cons (ps_if (pw_or (pt_cmpR op_ne (pe_fn okg hr9 mG kG bG pass_nox (pa_cons (pv 11) (pa_cons pe_int (pa_cons pe_int (pa_cons (pe_op op_sub (pe_op op_pow pe_int pe_int) pe_int) pa_nil))))) pe_str (nomark _)) (pw_or1 (pt_cmpR op_ne (pe_fn okg hr9 mG kG bG pass_nox (pa_cons (pe_op op_cat (pv 11) (pe_lst (pa_cons (pv 2) pa_nil))) (pa_lits [.int 8, .int 14, .int 0] rfl))) pe_str (nomark _)))).pt (pss_one (ps_ret pe_bl)) pss_nil)
      (pss_cons (ps_set (i := 12) scLaw.nd rfl (Or.inl rfl) (pe_mkD Z.kG (ok_gi Z) hr8 Z.mGar b1 v1 (passes_of xacc_fn) (pa_cons (pe_lst (pa_cons (pv 2) pa_nil)) pa_nil)))
      (pss_cons (ps_if (pt_cmpR (op_neT hr.units) (pe_tup (pa_cons (pe_fld (pv 12) rfl) (pa_cons (pe_fld (pv 12) rfl) (pa_cons (pe_fld (pv 12) rfl) pa_nil)))) (pe_tup (pa_lits [.int 1, .int 1, .int 0] rfl)) (nomark _)) (pss_one (ps_ret pe_bl)) pss_nil)
      (pss_cons (ps_set (i := 13) scLaw.nd rfl (Or.inr rfl) (pe_mkD Z.kG (ok_gi Z) hr8 Z.mGar b1 v1 (passes_of xacc_fn) (pa_cons (pe_lst (pa_cons (pv 2) (pa_cons (pv 4) (pa_cons (pe_mk T.kC (ok_cacInit T) hr4 T.mCac T.CI.b (passes_of xacc_fn) (pa_lits [.str "x", .int 5, .int 2] rfl)) pa_nil)))) pa_nil)))
      (pss_cons (ps_set (i := 14) scLaw.nd rfl (Or.inl rfl) (pe_lst (pa_lits [.str "many", .str "pot", .str "none", .str "pot", .str "many", .str "pot", .str "pot", .str "", .str "many"] rfl)))
      (pss_one (ps_ret (pe_cmpR (op_eqL hr.units) (pe_comp xacc_fn rfl ⟨_, _, rfl, rfl, rfl⟩ (comp_caps (N' := ["_law_way", "_law_garden_here"]) (cl := [("_law_garden_here", s.heap.objs.size + 1)]) [none, some 13] lawN (defScope sLaw).names [(".0", .local), ("_law_way", .local), ("_law_changed", .globalImplicit), ("_law_garden_here", .cell)] ["_law_garden_here"] rfl (by decide +kernel) (by decide +kernel) rfl
          (fun p hp => by rw [List.mem_singleton.mp hp]; rfl) rfl rfl rfl rfl (by decide +kernel) rfl (by decide +kernel)) (pi_range1 rfl T.B.range (pa_lits [.int 9] rfl)) (fun _ _ _ _ _ => pg_nm 0 (show [("_law_way" : Str), "_law_garden_here"].Nodup by decide +kernel)) (fun _ _ _ _ _ => pts_nil) (fun _ _ _ _ _ _ => pe_fn okh hr10 mH kH bH pass_nox (pa_cons (pv 1) (pa_cons (pv 0) pa_nil)))) (pv 14) (nomark _))))))))), ?_⟩
  intro D H o t' fp e8 bs s0 s1 s5 s6 s7 s8 s9 s10 po pw h8 pt q
  have len8 : bs.length = 8 := Paired.length pt
  have ga8 : GArg K a H (.ref e8) (some eightP) := .pots ⟨e8, _, rfl, .inl h8⟩ (SqL.of h8) (by rw [len8]; decide) pt ok8
  -- the eight, and one more
  refine ⟨_, rfl, _, _, rfl, rfl, ⟨by decide, by decide, by decide⟩, _, _, rfl, rfl, .ref e8, .int 8, .int 14, _, some eightP, .int, .int, .int, rfl, ga8, ⟨_, rfl⟩, ⟨_, rfl⟩, ⟨_, rfl⟩, fun H1 s1' => ⟨rfl, _, rfl, ?_⟩⟩
  refine neS (by decide +kernel) ⟨_, rfl, _, rfl, by show 1 ≤ sizeLine; decide, fun l1 hl1 => ?_⟩
  have sl1 := s1'.trans (upd_new (o := .lst [V.ref o]) hl1)
  refine ⟨e8, l1, _, _, rfl, rfl, sl1 _ _ h8, upd_same, (by rw [List.length_map, len8]; show 9 ≤ sizeLine; decide), fun p1 hp1 => ?_⟩
  have sp1 := sl1.trans (upd_new (o := .lst (bs.map V.ref ++ [V.ref o])) hp1)
  refine ⟨.ref p1, .int 8, .int 14, .int 0, some (eightP ++ [pQ]), .int, .int, .int, rfl, GArg.pots (as := bs ++ [o]) ⟨p1, _, rfl, .inl upd_same⟩ (SqL.of (by rw [upd_same, List.map_append]; rfl)) (by rw [List.length_append, len8]; show 9 ≤ 1000; decide) (Paired.snoc (pt.same sp1) (po.same sp1)) ?_, ⟨_, rfl⟩, ⟨_, rfl⟩, ⟨_, rfl⟩, fun H2 s2 => ⟨rfl, _, rfl, ?_⟩⟩
  · intro p hp
    rcases (List.mem_append.mp hp) with hq | hq
    · exact ok8 p hq
    · rw [List.mem_singleton.mp hq]; exact okQ
  refine neS (by decide +kernel) ?_
  have sA := sp1.trans s2
  -- a plain garden
  refine ⟨_, rfl, by show 1 ≤ sizeLine; decide, fun l2 hl2 => ?_⟩
  have sB := sA.trans (upd_new (o := .lst [V.ref o]) hl2)
  refine rd_gar (kc := .int) (kw := .int) (kl := .int) (GArg.pots (as := [o]) (ps := [pQ]) ⟨l2, _, rfl, .inl upd_same⟩ (SqL.of upd_same) (by show 1 ≤ 1000; decide) (.cons (po.same sB) .nil) (fun p hp => by rw [List.mem_singleton.mp hp]; exact okQ)) ⟨_, rfl⟩ ⟨_, rfl⟩ ⟨_, rfl⟩ (gp_ok (by decide +kernel) (fun H3 z hz s3 gz => ?_))
  have sC := sB.trans s3
  obtain ⟨dz, lz, az, hz', _, _⟩ := gz
  refine ⟨_, rfl, z, a.garden, dz, _, _, rfl, hz', Z.tG.cl, Z.nG _ (by simp), g_cans .., _, rfl, z, a.garden, dz, _, _, rfl, hz', Z.tG.cl, Z.nG _ (by simp), g_week .., _, rfl, z, a.garden, dz, _, _, rfl, hz', Z.tG.cl, Z.nG _ (by simp), g_closed .., by show 3 ≤ sizeLine; decide, fun ta hta => ⟨by show 3 ≤ sizeLine; decide, fun tb htb => ?_⟩⟩
  have sD := sC.trans (upd_new (o := .tup [V.int 1, .int 1, .int 0]) hta)
  have sta := upd_new (o := .tup [V.int 1, .int 1, .int 0]) htb
  have sE := sD.trans sta
  refine ⟨ta, tb, _, _, 0, fun _ => true, rfl, rfl, SqT.of (sta _ _ upd_same), SqT.of upd_same, by decide, fun j x y e1 e2 => ?_, _, rfl, iteF ?_⟩
  · rw [e1] at e2
    cases e2
    refine deq_same ?_
    rcases j with _ | _ | _ | j <;> cases e1 <;> rfl
  -- the garden that is changed
  generalize upd (upd H3 ta (.tup [V.int 1, .int 1, .int 0])) tb (.tup [V.int 1, .int 1, .int 0]) = H4 at sE ⊢
  refine ⟨_, rfl, _, rfl, rd_cac (kn := .str) (kg := .int) (kr := .int) ⟨_, rfl⟩ (small_lit (by decide +kernel)) ⟨_, rfl⟩ ⟨_, rfl⟩ (fun e => absurd e (by decide +kernel)) (fun _ H5 c hc s5' hcx => ⟨by show 3 ≤ sizeLine; decide, fun l3 hl3 => ?_⟩)⟩
  obtain ⟨dc', hcx⟩ := hcx
  have sl3 := upd_new (o := .lst [V.ref o, .ref fp, .ref c]) hl3
  have sF := (sE.trans s5').trans sl3
  have px : PotAt a (upd H5 l3 (.lst [V.ref o, .ref fp, .ref c])) c pX := ⟨dc', sl3 _ _ hcx⟩
  refine rd_gar (kc := .int) (kw := .int) (kl := .int) (GArg.pots (as := [o, fp, c]) (ps := [pQ, pW, pX]) ⟨l3, _, rfl, .inl upd_same⟩ (SqL.of upd_same) (by show 3 ≤ 1000; decide) (.cons (po.same sF) (.cons (pw.same sF) (.cons px .nil))) gHere_ok) ⟨_, rfl⟩ ⟨_, rfl⟩ ⟨_, rfl⟩ (gp_ok (by decide +kernel) (fun H6 gh hgh s6' gx => ?_))
  refine ⟨by show 9 ≤ sizeLine; decide, fun ld hld => ?_⟩
  have sG := upd_new (o := .lst [V.str "many", .str "pot", .str "none", .str "pot", .str "many", .str "pot", .str "pot", .str "", .str "many"]) hld
  have gx' : GarAt a (upd H6 ld (.lst [V.str "many", .str "pot", .str "none", .str "pot", .str "many", .str "pot", .str "pot", .str "", .str "many"])) gh gHere := GarAt.same (g := gHere) gx sG
  have hd' : upd H6 ld (.lst [V.str "many", .str "pot", .str "none", .str "pot", .str "many", .str "pot", .str "pot", .str "", .str "many"]) ld = some (.lst (dues.map V.str)) := upd_same
  generalize upd H6 ld (.lst [V.str "many", .str "pot", .str "none", .str "pot", .str "many", .str "pot", .str "pot", .str "", .str "many"]) = H7 at gx' hd' ⊢
  refine ⟨9, rfl, by decide, by decide, fun D2 hD2 => ?_⟩
  refine comp_by 9 (by decide) (fun i => .str (dues.getD i "")) (fun i H' => H' D2 = some (.lst ((List.range i).map fun i => V.str (dues.getD i ""))) ∧ Same H7 H') ⟨upd_same, upd_new hD2⟩ (fun i H' _ e => e.1) (fun H' e => ⟨Nat.le_refl _, ?_⟩) (fun i H' lt e => ⟨lt, ?_⟩)
  · refine ⟨_, rfl, D2, ld, _, _, 0, fun _ => true, rfl, rfl, SqL.of e.1, SqL.of (e.2 _ _ hd'), by decide, fun _ j x y e1 e2 => ?_, fun _ => ?_, fun z => absurd rfl z⟩
    · have ee : (List.range 9).map (fun i => V.str (dues.getD i "")) = dues.map V.str := rfl
      rw [ee, e2] at e1
      cases e1
      refine deq_same ?_
      rw [List.getElem?_map] at e2
      obtain ⟨d, _, rfl⟩ := Option.map_eq_some_iff.mp e2
      rfl
    · exact q H'
  · rintro x H'' ⟨rfl, rfl⟩ Qc k
    have hi : dues[i]? = some (dues.getD i "") := by
      have : i < dues.length := lt
      simp [this]
    refine ⟨keepS_set0, _, rfl, _, rfl, gh, i, dues.getD i "", ?_, gx'.same e.2, hi, fun H3 s3 => k H3 (s3 _ _ e.1) ⟨upd_same, same_upd (e.2.trans s3) hD2⟩⟩
    show [V.ref gh, V.int (0 + (i : Int))] = _
    rw [Int.zero_add]
end
end Tw
set_option Elab.async false
set_option linter.all false
set_option maxRecDepth 100000
set_option maxHeartbeats 2100000
namespace Tw
open PySem L2
section
variable {P : Program} {w : World} {K : PySem.W.Frag} {mg : Str → Option Value} {base : Heap} {a : Adr} {dV : Value}
theorem seqT {H H' : Hp} {t : Addr} {xs : List V} (s : Same H H') (h : SqT K H t xs) : SqT K H' t xs := by
  rcases h with (h | ⟨o, h⟩) | h
  · exact .inl (.inl (s _ _ h))
  · exact .inl (.inr ⟨o, s _ _ h⟩)
  · exact .inr h
theorem lawB (O : TxtO K mg a dV) {f : Addr} {cdv : Value} {A : Around} {outer : List Env} {s : Shared} {H₀ : Hp} {E : XK} (hr : Room 11 (A.deeper (PyProof.Rows.envOfC "law" (defScope sLaw) s.heap.objs.size f cdv))) :
    ∃ t, PSs (cxOf (CXg P w) P w K mg base lawN "law" (defScope sLaw) f cdv A outer s H₀ E) ((defBody sLaw).drop 6) t ∧ ∀ (D : Ends) (H : Hp) (o t' fp : Addr) (s0 s1 s5 s6 s7 s8 s9 : Option V), PotAt a H o pQ → PotAt a H t' pT → PotAt a H fp pW →
      (∀ H', D.rt (.bl true) H') → t D [s0, s1, some (.ref o), some (.ref t'), some (.ref fp), s5, s6, s7, s8, s9, none, none, none, none, none] H := by
  have M := O.M
  have L := M.L
  have Z := L.J.Z
  have T := Z.G.T
  obtain ⟨fg, dg, okg, mG, kG, bG⟩ := M.gar (P := P) (w := w) (base := base)
  obtain ⟨fc, dc, cF, mC⟩ := O.ce
  obtain ⟨fr, dr, rF, mR⟩ := O.ri
  obtain ⟨fh, dh, hF, mH⟩ := O.ch
  have okc : FnOk P w K mg base (CXg P w) 1 fc dc ["_law_script", "_law_k"] (spCell K) := ok_cell cF.F T.B
  have okr : FnOk P w K mg base (CXg P w) 6 fr dr ["_law_far"] spRight := ok_right rF.F M
  have okh : FnOk P w K mg base (CXg P w) 10 fh dh ["_law_garden_here", "_law_way"] (spChg a) := ok_chg hF.F L
  have kC := cF.F.kp
  have bC := cF.b
  have kR := rF.F.kp
  have bR := rF.b
  have kH := hF.F.kp
  have bH := hF.b
  obtain ⟨t1, t2, t3, b1⟩ := Z.b1
  have v1 : Vals [.int 1, .int 1, .int 0] [.int 1 t1, .int 1 t2, .int 0 t3] := .cons ⟨_, rfl⟩ (.cons ⟨_, rfl⟩ (.cons ⟨_, rfl⟩ .nil))
  have hr1 : Room 1 _ := hr.mono (by decide)
  have hr3 : Room 3 _ := hr.mono (by decide)
  have hr4 : Room 4 _ := hr.mono (by decide)
  have hr6 : Room 6 _ := hr.mono (by decide)
  have hr8 : Room 8 _ := hr.mono (by decide)
  have hr9 : Room 9 _ := hr.mono (by decide)
  have hr10 : Room 10 _ := hr.mono (by decide)
  obtain ⟨tc, hC, useC⟩ := lawC (P := P) (w := w) (base := base) (f := f) (cdv := cdv) (A := A) (outer := outer) (s := s) (H₀ := H₀) (E := E) O hr
  refine ⟨_, (pss_cons (ps_if (pw_or (pt_cmpR op_ne (pe_fn okg hr9 mG kG bG pass_nox (pa_cons (pe_lst (pa_cons (pv 2) (pa_cons (pv 3) pa_nil))) (pa_lits [.int 1, .int 1, .int 0] rfl))) pe_str (nomark _)) (pw_or1 (pt_cmpR op_ne (pe_fn okg hr9 mG kG bG pass_nox (pa_cons (pe_lst pa_nil) (pa_lits [.int 1, .int 1, .int 0] rfl))) pe_str (nomark _)))).pt (pss_one (ps_ret pe_bl)) pss_nil)
      (pss_cons (ps_if (pt_cmpR op_ne (pe_fn okg hr9 mG kG bG pass_nox (pa_cons (pe_op op_rep (pe_lst (pa_cons (pv 2) (pa_cons (pv 3) pa_nil))) pe_int) (pa_lits [.int 1, .int 1, .int 0] rfl))) pe_str (nomark _)) (pss_one (ps_ret pe_bl)) pss_nil)
      (pss_cons (ps_set (i := 10) scLaw.nd rfl (Or.inl rfl) (pe_lst (pa_cons (pv 4) (pa_cons (pe_mk T.kP (ok_potInit T) hr3 T.mPot T.PI.b (passes_of xacc_fn) (pa_lits [.str "e", .int 60] rfl)) (pa_cons (pe_mk T.kP (ok_potInit T) hr3 T.mPot T.PI.b (passes_of xacc_fn) (pa_lits [.str "r", .int 5] rfl)) pa_nil)))))
      (pss_cons (ps_if (pw_or (pt_cmpR op_ne (pe_fn okg hr9 mG kG bG pass_nox (pa_cons (pv 10) (pa_lits [.int 1, .int 1, .int 0] rfl))) pe_str (nomark _)) (pw_or1 (pt_cmpR op_ne (pe_fn okg hr9 mG kG bG pass_nox (pa_cons (pv 10) (pa_lits [.int 1, .int 2, .int 0] rfl))) pe_str (nomark _)))).pt (pss_one (ps_ret pe_bl)) pss_nil)
      (pss_cons (ps_if (pt_cmpR op_ne (pe_fn okg hr9 mG kG bG pass_nox (pa_cons (pe_op op_cat (pe_lst (pa_cons (pv 2) (pa_cons (pv 4) (pa_cons (pv 3) pa_nil)))) (pv 10)) (pa_lits [.int 1, .int 1, .int 0] rfl))) pe_str (nomark _)) (pss_one (ps_ret pe_bl)) pss_nil)
      (pss_cons (ps_comp (i := 11) scLaw.nd rfl (Or.inl rfl) xacc_fn rfl ⟨_, _, rfl, rfl, rfl⟩ (CompOk.plain (N' := ["_law_name"]) rfl (by decide +kernel) (by decide +kernel)) (pi_tup (pe_tup (pa_lits [.str "a", .str "b", .str "c", .str "d", .str "e", .str "f", .str "g", .str "h"] rfl))) (fun _ _ _ _ _ => pg_nm 0 (show [("_law_name" : Str)].Nodup by decide +kernel)) (fun _ _ _ _ _ => pts_nil) (fun _ _ _ _ _ acc => pe_mk T.kP (ok_potInit T) hr3 T.mPot T.PI.b (passes_of acc) (pa_cons (pv 0) (pa_lits [.int 1] rfl))))
      hC)))))), ?_⟩
  intro D H o t' fp s0 s1 s5 s6 s7 s8 s9 po p2 pw q
  -- two of one name; none
  refine ⟨_, rfl, _, rfl, by show 2 ≤ sizeLine; decide, fun l1 hl1 => ?_⟩
  have sa := upd_new (o := .lst [V.ref o, .ref t']) hl1
  refine ⟨.ref l1, .int 1, .int 1, .int 0, some [pQ, pT], .int, .int, .int, rfl, GArg.pots (as := [o, t']) ⟨l1, _, rfl, .inl upd_same⟩ (SqL.of upd_same) (by show 2 ≤ 1000; decide) (.cons (po.same sa) (.cons (p2.same sa) .nil)) ?_, ⟨_, rfl⟩, ⟨_, rfl⟩, ⟨_, rfl⟩, fun H1 s1' => ⟨rfl, _, rfl, neS (by decide +kernel) ⟨by show 0 ≤ sizeLine; decide, fun l2 hl2 => ?_⟩⟩⟩
  · intro p hp
    simp only [List.mem_cons, List.mem_nil_iff, or_false] at hp
    rcases hp with rfl | rfl
    · exact okQ
    · exact okT
  have sb := (sa.trans s1').trans (upd_new (o := .lst []) hl2)
  refine ⟨.ref l2, .int 1, .int 1, .int 0, some [], .int, .int, .int, rfl, GArg.pots (as := []) ⟨l2, _, rfl, .inl upd_same⟩ (SqL.of upd_same) (by decide) .nil (fun p hp => by cases hp), ⟨_, rfl⟩, ⟨_, rfl⟩, ⟨_, rfl⟩, fun H2 s2 => ⟨rfl, _, rfl, neS (by decide +kernel) ?_⟩⟩
  have sc := sb.trans s2
  -- ten
  refine ⟨_, rfl, _, rfl, by show 2 ≤ sizeLine; decide, fun l3 hl3 => ?_⟩
  have sd := sc.trans (upd_new (o := .lst [V.ref o, .ref t']) hl3)
  refine ⟨l3, 5, _, rfl, rfl, upd_same, by decide, by decide, by show 10 ≤ sizeLine; decide, fun l4 hl4 => ?_⟩
  have se := sd.trans (upd_new (o := .lst (List.replicate (5 : Int).toNat [V.ref o, .ref t']).flatten) hl4)
  have q1 := po.same se
  have q2 := p2.same se
  refine ⟨.ref l4, .int 1, .int 1, .int 0, some [pQ, pT, pQ, pT, pQ, pT, pQ, pT, pQ, pT], .int, .int, .int, rfl, GArg.pots (as := [o, t', o, t', o, t', o, t', o, t']) ⟨l4, _, rfl, .inl upd_same⟩ (SqL.of upd_same) (by show 10 ≤ 1000; decide) (.cons q1 (.cons q2 (.cons q1 (.cons q2 (.cons q1 (.cons q2 (.cons q1 (.cons q2 (.cons q1 (.cons q2 .nil)))))))))) ?_, ⟨_, rfl⟩, ⟨_, rfl⟩, ⟨_, rfl⟩, fun H3 s3 => ⟨rfl, _, rfl, neS (by decide +kernel) ?_⟩⟩
  · intro p hp
    simp only [List.mem_cons, List.mem_nil_iff, or_false] at hp
    rcases hp with rfl | rfl | rfl | rfl | rfl | rfl | rfl | rfl | rfl | rfl <;> first | exact okQ | exact okT
  have sf := se.trans s3
  -- wide ones
  refine ⟨_, rfl, rd_pot (kn := .str) (kg := .int) ⟨_, rfl⟩ (small_lit (by decide +kernel)) ⟨_, rfl⟩ (fun e => absurd e (by decide +kernel)) (fun _ H4 x4 hx4 s4 px4 => ?_)⟩
  refine rd_pot (kn := .str) (kg := .int) ⟨_, rfl⟩ (small_lit (by decide +kernel)) ⟨_, rfl⟩ (fun e => absurd e (by decide +kernel)) (fun _ H5 x5 hx5 s5' px5 => ⟨by show 3 ≤ sizeLine; decide, fun l5 hl5 => ?_⟩)
  obtain ⟨d4, px4⟩ := px4
  obtain ⟨d5, px5⟩ := px5
  have sl5 := upd_new (o := .lst [V.ref fp, .ref x4, .ref x5]) hl5
  have sg := ((sf.trans s4).trans s5').trans sl5
  have pe4 : PotAt a (upd H5 l5 (.lst [V.ref fp, .ref x4, .ref x5])) x4 ⟨"e", 60, none⟩ := ⟨d4, sl5 _ _ (s5' _ _ px4)⟩
  have pe5 : PotAt a (upd H5 l5 (.lst [V.ref fp, .ref x4, .ref x5])) x5 ⟨"r", 5, none⟩ := ⟨d5, sl5 _ _ px5⟩
  have hw5 : upd H5 l5 (.lst [V.ref fp, .ref x4, .ref x5]) l5 = some (.lst [V.ref fp, .ref x4, .ref x5]) := upd_same
  generalize upd H5 l5 (.lst [V.ref fp, .ref x4, .ref x5]) = H6 at sg pe4 pe5 hw5 ⊢
  have gw : ∀ H', Same H6 H' → GArg K a H' (.ref l5) (some wideP) := fun H' s' => GArg.pots (as := [fp, x4, x5]) ⟨l5, _, rfl, .inl (s' _ _ hw5)⟩ (SqL.of (s' _ _ hw5)) (by show 3 ≤ 1000; decide) (.cons (pw.same (sg.trans s')) (.cons (pe4.same s') (.cons (pe5.same s') .nil))) ok3
  refine ⟨_, rfl, .ref l5, .int 1, .int 1, .int 0, some wideP, .int, .int, .int, rfl, gw H6 (Same.refl _), ⟨_, rfl⟩, ⟨_, rfl⟩, ⟨_, rfl⟩, fun H7 s7' => ⟨rfl, _, rfl, neS (by decide +kernel) ?_⟩⟩
  refine ⟨_, rfl, .ref l5, .int 1, .int 2, .int 0, some wideP, .int, .int, .int, rfl, gw H7 s7', ⟨_, rfl⟩, ⟨_, rfl⟩, ⟨_, rfl⟩, fun H8 s8' => ⟨rfl, _, rfl, neS (by decide +kernel) ?_⟩⟩
  have sh := s7'.trans s8'
  -- names twice among six
  refine ⟨_, rfl, _, rfl, _, rfl, by show 3 ≤ sizeLine; decide, fun l6 hl6 => ?_⟩
  have sl6 := upd_new (o := .lst [V.ref o, .ref fp, .ref t']) hl6
  have si := sh.trans sl6
  refine ⟨_, rfl, l6, l5, _, _, rfl, rfl, upd_same, si _ _ hw5, by show 6 ≤ sizeLine; decide, fun l7 hl7 => ?_⟩
  have sj := si.trans (upd_new (o := .lst ([V.ref o, .ref fp, .ref t'] ++ [V.ref fp, .ref x4, .ref x5])) hl7)
  have sk := sg.trans sj
  refine ⟨.ref l7, .int 1, .int 1, .int 0, some [pQ, pW, pT, pW, ⟨"e", 60, none⟩, ⟨"r", 5, none⟩], .int, .int, .int, rfl, GArg.pots (as := [o, fp, t', fp, x4, x5]) ⟨l7, _, rfl, .inl upd_same⟩ (SqL.of upd_same) (by show 6 ≤ 1000; decide) (.cons (po.same sk) (.cons (pw.same sk) (.cons (p2.same sk) (.cons (pw.same sk) (.cons (pe4.same sj) (.cons (pe5.same sj) .nil)))))) ?_, ⟨_, rfl⟩, ⟨_, rfl⟩, ⟨_, rfl⟩, fun H9 s9' => ⟨rfl, _, rfl, neS (by decide +kernel) ?_⟩⟩
  · intro p hp
    simp only [List.mem_cons, List.mem_nil_iff, or_false] at hp
    rcases hp with rfl | rfl | rfl | hp
    · exact okQ
    · exact okW
    · exact okT
    · exact ok3 p (by simp only [wideP, List.mem_cons, List.mem_nil_iff, or_false]; exact hp)
  have sl := sk.trans s9'
  -- eight pots
  refine ⟨by show 8 ≤ sizeLine; decide, fun T8 hT8 => ⟨T8, rfl, ⟨_, SqT.of upd_same⟩, fun D2 hD2 => ?_⟩⟩
  have sm := sl.trans (upd_new (o := .tup [V.str "a", .str "b", .str "c", .str "d", .str "e", .str "f", .str "g", .str "h"]) hT8)
  have hT : SqT K (upd H9 T8 (.tup [V.str "a", .str "b", .str "c", .str "d", .str "e", .str "f", .str "g", .str "h"])) T8 (eightP.map fun p => V.str p.nm) := SqT.of upd_same
  generalize upd H9 T8 (.tup [V.str "a", .str "b", .str "c", .str "d", .str "e", .str "f", .str "g", .str "h"]) = H10 at sm hT hD2 ⊢
  refine comp_acc 8 (by decide) (fun i acc H' => ∃ bs : List Addr, acc = bs.map V.ref ∧ bs.length = i ∧ H' D2 = some (.lst acc) ∧ Same H10 H' ∧ Pots a H' bs (eightP.take i)) ⟨[], rfl, rfl, upd_same, upd_new hD2, .nil⟩ (fun i acc H' _ ⟨bs, e, lb, hd, _⟩ => ⟨by rw [e, List.length_map, lb], hd⟩) ?_ ?_
  · rintro acc H' ⟨bs, rfl, lb, hd, s', pt⟩
    refine ⟨⟨_, seqT s' hT, Nat.le_refl _⟩, ?_⟩
    exact useC D H' o t' fp D2 bs s0 s1 s5 s6 s7 s8 s9 (some (.ref l5)) (po.same (sm.trans s')) (pw.same (sm.trans s')) hd pt q
  · rintro i acc H' lt ⟨bs, rfl, lb, hd, s', pt⟩
    have hT' := seqT s' hT
    obtain ⟨p, hp⟩ : ∃ p, eightP[i]? = some p := ⟨eightP[i]'lt, List.getElem?_eq_getElem lt⟩
    have hx : (eightP.map fun p => V.str p.nm)[i]? = some (.str p.nm) := by rw [List.getElem?_map, hp]; rfl
    refine ⟨⟨_, _, hT', hx⟩, ?_⟩
    rintro x H'' ⟨rfl, hx'⟩ Qc k
    have ex := hx' _ hT'
    rw [hx] at ex
    cases ex
    have okp := ok8 p (List.mem_of_getElem? hp)
    have p1 : p.gap = 1 ∧ p.rest = none := by
      have hm := List.mem_of_getElem? hp
      simp only [eightP, List.mem_cons, List.mem_nil_iff, or_false] at hm
      rcases hm with rfl | rfl | rfl | rfl | rfl | rfl | rfl | rfl <;> exact ⟨rfl, rfl⟩
    refine ⟨keepS_plain, _, rfl, rd_pot (kn := .str) (kg := .int) ⟨_, rfl⟩ (name_small okp.nm) ⟨_, rfl⟩ (fun e => absurd e (by simp [potOk, okp.nm, wholeV])) (fun _ H3 y hy s3 py => ?_)⟩
    obtain ⟨dy, py⟩ := py
    refine k (.ref y) H3 (s3 _ _ hd) ⟨bs ++ [y], by rw [List.map_append]; rfl, by rw [List.length_append, lb]; rfl, upd_same, same_upd (s'.trans s3) hD2, ?_⟩
    rw [take_snoc hp]
    refine Paired.snoc ((pt.same s3).upd (s3 _ _ hd)) (PotAt.upd ⟨dy, ?_⟩ (s3 _ _ hd))
    rw [py]
    simp only [PotD.cls, PotD.fs, p1.1, p1.2]
end
end Tw
set_option Elab.async false
set_option linter.all false
set_option maxRecDepth 100000
set_option maxHeartbeats 2100000
namespace Tw
open PySem L2
section
variable {P : Program} {w : World} {K : PySem.W.Frag} {mg : Str → Option Value} {base : Heap} {a : Adr} {dV : Value}
theorem pairRep {α β : Type} {R : α → β → Prop} {x : α} {y : β} (h : R x y) : ∀ n : Nat, Paired R (List.replicate n x) (List.replicate n y)
  | 0 => .nil
  | n + 1 => .cons h (pairRep h n)
def badCs (far : Int) : List (V × V × V) := [(.int 9, .int 1, .int 0), (.int (-1), .int 1, .int 0), (.bl true, .int 1, .int 0), (.int 1, .int 0, .int 0), (.int 1, .int (15 + far), .int 0), (.int 1, .int 1, .int 2),
  (.int 1, .int 2, .int (-1)), (.int 1, .int 3, .int (8 + far)), (.int 1, .int 1, .str "0"), (.int 1, .int 1, .bl true)]
theorem badCs_at {far : Int} (h0 : 0 ≤ far) {c : V × V × V} (hm : c ∈ badCs far) : flatV c.1 = true ∧ flatV c.2.1 = true ∧ flatV c.2.2 = true ∧ cntOk 2 c.1 c.2.1 c.2.2 = false := by
  unfold badCs at hm
  simp only [List.mem_cons, List.mem_nil_iff, or_false] at hm
  rcases hm with rfl | rfl | rfl | rfl | rfl | rfl | rfl | rfl | rfl | rfl
  · exact ⟨rfl, rfl, rfl, by decide +kernel⟩
  · exact ⟨rfl, rfl, rfl, by decide +kernel⟩
  · exact ⟨rfl, rfl, rfl, by decide +kernel⟩
  · exact ⟨rfl, rfl, rfl, by decide +kernel⟩
  · refine ⟨rfl, rfl, rfl, ?_⟩
    have e : wholeV (.int (15 + far)) 1 14 = false := by
      simp only [wholeV, Bool.and_eq_false_iff, decide_eq_false_iff_not]; omega
    simp [cntOk, e]
  · exact ⟨rfl, rfl, rfl, by decide +kernel⟩
  · exact ⟨rfl, rfl, rfl, by decide +kernel⟩
  · refine ⟨rfl, rfl, rfl, ?_⟩
    have e : closedOk (.int 3) (.int (8 + far)) = false := by
      show wholeV (.int (8 + far)) 0 7 = false
      simp only [wholeV, Bool.and_eq_false_iff, decide_eq_false_iff_not]; omega
    simp [cntOk, e]
  · exact ⟨rfl, rfl, rfl, by decide +kernel⟩
  · exact ⟨rfl, rfl, rfl, by decide +kernel⟩
theorem ok_law {f : Addr} {fd : FuncData} (F : Fun K "law" "law" sLaw f fd) (O : TxtO K mg a dV) : FnOk P w K mg base (CXg P w) 12 f fd ["_law_script"] (spLaw K) := by
  refine F.okX scLaw (fun vs H Q E h => ?_) (fun cdv A outer s H vs Q E hr h => ?_)
  · obtain ⟨l, ns, rfl, _⟩ := h
    rfl
  · obtain ⟨script, ns, rfl, hS, q⟩ := h
    have M := O.M
    have L := M.L
    have Z := L.J.Z
    have T := Z.G.T
    obtain ⟨fg, dg, okg, mG, kG, bG⟩ := M.gar (P := P) (w := w) (base := base)
    obtain ⟨fc, dc, cF, mC⟩ := O.ce
    obtain ⟨fr, dr, rF, mR⟩ := O.ri
    obtain ⟨fh, dh, hF, mH⟩ := O.ch
    have okc : FnOk P w K mg base (CXg P w) 1 fc dc ["_law_script", "_law_k"] (spCell K) := ok_cell cF.F T.B
    have okr : FnOk P w K mg base (CXg P w) 6 fr dr ["_law_far"] spRight := ok_right rF.F M
    have okh : FnOk P w K mg base (CXg P w) 10 fh dh ["_law_garden_here", "_law_way"] (spChg a) := ok_chg hF.F L
    have kC := cF.F.kp
    have bC := cF.b
    have kR := rF.F.kp
    have bR := rF.b
    have kH := hF.F.kp
    have bH := hF.b
    obtain ⟨t1, t2, t3, b1⟩ := Z.b1
    have v1 : Vals [.int 1, .int 1, .int 0] [.int 1 t1, .int 1 t2, .int 0 t3] := .cons ⟨_, rfl⟩ (.cons ⟨_, rfl⟩ (.cons ⟨_, rfl⟩ .nil))
    have hr1 : Room 1 _ := hr.mono (by decide)
    have hr3 : Room 3 _ := hr.mono (by decide)
    have hr4 : Room 4 _ := hr.mono (by decide)
    have hr6 : Room 6 _ := hr.mono (by decide)
    have hr8 : Room 8 _ := hr.mono (by decide)
    have hr9 : Room 9 _ := hr.mono (by decide)
    have hr10 : Room 10 _ := hr.mono (by decide)
    obtain ⟨tb, hB, useB⟩ := lawB (P := P) (w := w) (base := base) (f := f) (cdv := cdv) (A := A) (outer := outer) (s := s) (H₀ := H) (E := E) O hr
    refine ⟨_, (pss_cons (ps_set (i := 1) scLaw.nd rfl (Or.inl rfl) (pe_op op_mod (pe_fn okc hr1 mC kC bC pass_nox (pa_cons (pv 0) (pa_lits [.int 0] rfl))) (pe_op op_pow pe_int pe_int)))
      (pss_cons (ps_par3 (i := 2) (j := 3) (k := 4) rfl scLaw.nd rfl rfl rfl (by decide) (by decide) (by decide) rfl rfl rfl (pa_cons (pe_mk T.kP (ok_potInit T) hr3 T.mPot T.PI.b (passes_of xacc_fn) (pa_lits [.str "q", .int 3] rfl)) (pa_cons (pe_mk T.kP (ok_potInit T) hr3 T.mPot T.PI.b (passes_of xacc_fn) (pa_lits [.str "q", .int 4] rfl)) (pa_cons (pe_mk T.kP (ok_potInit T) hr3 T.mPot T.PI.b (passes_of xacc_fn) (pa_lits [.str "w", .int 60] rfl)) pa_nil))) rfl)
      (pss_cons (ps_if (pt_not (pt_val (pe_fn okr hr6 mR kR bR pass_nox (pa_cons (pv 1) pa_nil)))) (pss_one (ps_ret pe_bl)) pss_nil)
      (pss_cons (ps_for own_pass rfl (pi_list (pe_lst (pa_cons (pe_tup (pa_cons (pv 2) pa_nil)) (pa_cons (pe_lst (pa_cons (pv 2) (pa_lits [.str "q"] rfl))) (pa_cons pe_non (pa_cons pe_str (pa_cons (pe_op op_rep (pe_lst (pa_lits [.non] rfl)) pe_int) pa_nil))))))) (pg_nm 5 scLaw.nd) (pss_one (ps_if (pt_cmpR op_ne (pe_fn okg hr9 mG kG bG pass_nox (pa_cons (pv 5) (pa_lits [.int 9, .int 0, .int 0] rfl))) pe_str (nomark _)) (pss_one (ps_ret pe_bl)) pss_nil)))
      (pss_cons (ps_set (i := 6) scLaw.nd rfl (Or.inl rfl) (pe_lst (pa_cons (pe_tup (pa_lits [.int 9, .int 1, .int 0] rfl)) (pa_cons (pe_tup (pa_lits [.int (-1), .int 1, .int 0] rfl)) (pa_cons (pe_tup (pa_lits [.bl true, .int 1, .int 0] rfl)) (pa_cons (pe_tup (pa_lits [.int 1, .int 0, .int 0] rfl)) (pa_cons (pe_tup (pa_cons pe_int (pa_cons (pe_op op_add pe_int (pv 1)) (pa_lits [.int 0] rfl)))) (pa_cons (pe_tup (pa_lits [.int 1, .int 1, .int 2] rfl)) pa_nil))))))))
      (pss_cons (ps_for own_pass rfl (pi_list (pe_op op_cat (pv 6) (pe_lst (pa_cons (pe_tup (pa_lits [.int 1, .int 2, .int (-1)] rfl)) (pa_cons (pe_tup (pa_cons pe_int (pa_cons pe_int (pa_cons (pe_op op_add pe_int (pv 1)) pa_nil)))) (pa_cons (pe_tup (pa_lits [.int 1, .int 1, .str "0"] rfl)) (pa_cons (pe_tup (pa_lits [.int 1, .int 1, .bl true] rfl)) pa_nil))))))) (pg_tup rfl (pgs_cons (pg_nm 7 scLaw.nd) (pgs_cons (pg_nm 8 scLaw.nd) (pgs_cons (pg_nm 9 scLaw.nd) pgs_nil)))) (pss_one (ps_if (pt_cmpR op_ne (pe_fn okg hr9 mG kG bG pass_nox (pa_cons (pe_lst (pa_cons (pv 2) (pa_cons (pv 3) pa_nil))) (pa_cons (pv 7) (pa_cons (pv 8) (pa_cons (pv 9) pa_nil))))) pe_str (nomark _)) (pss_one (ps_ret pe_bl)) pss_nil)))
      hB)))))), ?_⟩
    refine ⟨_, rfl, script, ns, 0, rfl, hS, 10, 6, rfl, rfl, ⟨by decide, by decide, by decide⟩, _, _, rfl, rfl, (by show (0 : Int) < 10 ^ 6; decide), ?_⟩
    have h0 : 0 ≤ (ns.getD 0 0) % (10 ^ (6 : Int).toNat : Int) := Int.emod_nonneg _ (by decide)
    dsimp only
    generalize (ns.getD 0 0) % (10 ^ (6 : Int).toNat : Int) = far at h0 ⊢
    -- three pots
    have qS : smallS (.str "q") := small_lit (by decide +kernel)
    refine rd_pot (kn := .str) (kg := .int) ⟨_, rfl⟩ qS ⟨_, rfl⟩ (fun e => absurd e (by decide +kernel)) (fun _ H1 o ho s1 po => ?_)
    refine rd_pot (kn := .str) (kg := .int) ⟨_, rfl⟩ qS ⟨_, rfl⟩ (fun e => absurd e (by decide +kernel)) (fun _ H2 t' ht s2 p2 => ?_)
    refine rd_pot (kn := .str) (kg := .int) ⟨_, rfl⟩ (small_lit (by decide +kernel)) ⟨_, rfl⟩ (fun e => absurd e (by decide +kernel)) (fun _ H3 fp hf s3 pw => ⟨_, _, _, rfl, ?_⟩)
    obtain ⟨d1, po⟩ := po
    obtain ⟨d2, p2⟩ := p2
    obtain ⟨d3, pw⟩ := pw
    have po : PotAt a H3 o pQ := ⟨d1, s3 _ _ (s2 _ _ po)⟩
    have p2 : PotAt a H3 t' pT := ⟨d2, s3 _ _ p2⟩
    have pw : PotAt a H3 fp pW := ⟨d3, pw⟩
    refine ⟨_, rfl, far, rfl, h0, fun H4 s4 => ⟨_, rfl, iteF ?_⟩⟩
    have po := po.same s4
    have p2 := p2.same s4
    have pw := pw.same s4
    -- what is no list of pots
    refine ⟨_, rfl, by show 1 ≤ sizeLine; decide, fun T1 hT1 => ⟨_, rfl, by show 2 ≤ sizeLine; decide, fun l1 hl1 => ⟨by show 1 ≤ sizeLine; decide, fun l2 hl2 => ⟨l2, 9, _, rfl, rfl, upd_same, by decide, by decide, by show 9 ≤ sizeLine; decide, fun l3 hl3 => ⟨by show 5 ≤ sizeLine; decide, fun L5 hL5 => ⟨L5, rfl, ⟨_, SqL.of upd_same⟩, ?_⟩⟩⟩⟩⟩⟩
    have ua := upd_new (o := .tup [V.ref o]) hT1
    have ub := upd_new (o := .lst [V.ref o, .str "q"]) hl1
    have uc := upd_new (o := .lst [V.non]) hl2
    have ud := upd_new (o := .lst (List.replicate (9 : Int).toNat [V.non]).flatten) hl3
    have ue := upd_new (o := .lst [V.ref T1, .ref l1, .non, .str "q", .ref l3]) hL5
    have eT : _ = some (HO.tup [V.ref o]) := ue _ _ (ud _ _ (uc _ _ (ub _ _ upd_same)))
    have el1 : _ = some (HO.lst [V.ref o, .str "q"]) := ue _ _ (ud _ _ (uc _ _ upd_same))
    have el3 : _ = some (HO.lst (List.replicate 9 V.non)) := ue _ _ upd_same
    have eL := upd_same (H := (upd (upd (upd (upd H4 T1 (.tup [V.ref o])) l1 (.lst [V.ref o, .str "q"])) l2 (.lst [V.non])) l3 (.lst (List.replicate (9 : Int).toNat [V.non]).flatten))) (a := L5) (o := .lst [V.ref T1, .ref l1, .non, .str "q", .ref l3])
    have sU := (((ua.trans ub).trans uc).trans ud).trans ue
    have po := po.same sU
    have p2 := p2.same sU
    have pw := pw.same sU
    generalize upd (upd (upd (upd (upd H4 T1 (.tup [V.ref o])) l1 (.lst [V.ref o, .str "q"])) l2 (.lst [V.non])) l3 (.lst (List.replicate (9 : Int).toNat [V.non]).flatten)) L5 (.lst [V.ref T1, .ref l1, .non, .str "q", .ref l3]) = H5 at eT el1 el3 eL po p2 pw ⊢
    refine for_list (K := K) (a := L5) (xs := [V.ref T1, .ref l1, .non, .str "q", .ref l3]) (fun i σ H' => ∃ u, σ = [some (.ref script), some (.int far), some (.ref o), some (.ref t'), some (.ref fp), u, none, none, none, none, none, none, none, none, none] ∧ Same H5 H') ⟨none, rfl, Same.refl _⟩ (fun i σ H' _ ⟨_, _, s'⟩ => s'.seq (SqL.of eL)) ?_ ?_
    · rintro i x σ H6 hi ⟨u, rfl, s6⟩
      have ga : GArg K a H6 x none := by
        have hm := List.mem_of_getElem? hi; simp only [List.mem_cons, List.mem_nil_iff, or_false] at hm
        rcases hm with rfl | rfl | rfl | rfl | rfl
        · exact .no (k := .tup) ⟨T1, _, rfl, s6 _ _ eT⟩ rfl
        · obtain ⟨dx, hx⟩ := po.same s6
          exact .mix (ks := [.ins a.pot, .str]) ⟨l1, _, rfl, .inl (s6 _ _ el1)⟩ (SqL.of (s6 _ _ el1)) (by show 2 ≤ 1000; decide) (.cons ⟨o, dx, _, rfl, hx, T.tP⟩ (.cons ⟨_, rfl⟩ .nil)) (fun k hk C e => by subst e; simp only [List.mem_cons, List.mem_nil_iff, or_false] at hk; rcases hk with hk | hk; exact .inl (by injection hk); cases hk) (by simp [isP])
        · exact .no (k := .non) rfl rfl
        · exact .no (k := .str) ⟨_, rfl⟩ rfl
        · exact .mix (ks := List.replicate 9 .non) ⟨l3, _, rfl, .inl (s6 _ _ el3)⟩ (SqL.of (s6 _ _ el3)) (by rw [List.length_replicate]; decide) (pairRep (show KdOf K H6 V.non Kd.non from rfl) 9) (fun k hk C e => by rw [List.mem_replicate] at hk; rw [hk.2] at e; cases e) rfl
      exact ⟨_, rfl, x, .int 9, .int 0, .int 0, none, .int, .int, .int, rfl, ga, ⟨_, rfl⟩, ⟨_, rfl⟩, ⟨_, rfl⟩, fun H7 s7 => ⟨rfl, _, rfl, neS rfl ⟨_, rfl, s6.trans s7⟩⟩⟩
    rintro σ H6 ⟨u, rfl, s6⟩
    have po := po.same s6
    have p2 := p2.same s6
    have pw := pw.same s6
    -- counts out of their bounds
    have l3' : 3 ≤ sizeLine := by decide
    refine ⟨l3', fun t1 h1 => ⟨l3', fun t2 h2 => ⟨l3', fun t3 h3 => ⟨l3', fun t4 h4 => ⟨_, rfl, _, _, rfl, rfl, l3', fun t5 h5 => ⟨l3', fun t6 h6 => ⟨by show 6 ≤ sizeLine; decide, fun lb hlb => ?_⟩⟩⟩⟩⟩⟩⟩
    refine ⟨_, rfl, l3', fun t7 h7 => ⟨_, rfl, _, _, rfl, rfl, l3', fun t8 h8 => ⟨l3', fun t9 h9 => ⟨l3', fun t10 h10 => ⟨by show 4 ≤ sizeLine; decide, fun lc hlc => ?_⟩⟩⟩⟩⟩
    have w1 := upd_new (o := .tup [V.int 9, .int 1, .int 0]) h1
    have w2 := upd_new (o := .tup [V.int (-1), .int 1, .int 0]) h2
    have w3 := upd_new (o := .tup [V.bl true, .int 1, .int 0]) h3
    have w4 := upd_new (o := .tup [V.int 1, .int 0, .int 0]) h4
    have w5 := upd_new (o := .tup [V.int 1, .int (15 + far), .int 0]) h5
    have w6 := upd_new (o := .tup [V.int 1, .int 1, .int 2]) h6
    have wb := upd_new (o := .lst [V.ref t1, .ref t2, .ref t3, .ref t4, .ref t5, .ref t6]) hlb
    have w7 := upd_new (o := .tup [V.int 1, .int 2, .int (-1)]) h7
    have w8 := upd_new (o := .tup [V.int 1, .int 3, .int (8 + far)]) h8
    have w9 := upd_new (o := .tup [V.int 1, .int 1, .str "0"]) h9
    have w10 := upd_new (o := .tup [V.int 1, .int 1, .bl true]) h10
    have wc := upd_new (o := .lst [V.ref t7, .ref t8, .ref t9, .ref t10]) hlc
    have x10 := w10.trans wc
    have x9 := w9.trans x10
    have x8 := w8.trans x9
    have x7 := w7.trans x8
    have xb := wb.trans x7
    have x6 := w6.trans xb
    have x5 := w5.trans x6
    have x4 := w4.trans x5
    have x3 := w3.trans x4
    have x2 := w2.trans x3
    have x1 := w1.trans x2
    refine ⟨lb, lc, _, _, rfl, rfl, x7 _ _ upd_same, upd_same, by show 10 ≤ sizeLine; decide, fun Lx hLx => ⟨Lx, rfl, ⟨_, SqL.of upd_same⟩, ?_⟩⟩
    have wx := upd_new (o := .lst ([V.ref t1, .ref t2, .ref t3, .ref t4, .ref t5, .ref t6] ++ [V.ref t7, .ref t8, .ref t9, .ref t10])) hLx
    have eL : upd (upd (upd (upd (upd (upd (upd (upd (upd (upd (upd (upd (upd H6 t1 (.tup [V.int 9, .int 1, .int 0])) t2 (.tup [V.int (-1), .int 1, .int 0])) t3 (.tup [V.bl true, .int 1, .int 0])) t4 (.tup [V.int 1, .int 0, .int 0])) t5 (.tup [V.int 1, .int (15 + far), .int 0])) t6 (.tup [V.int 1, .int 1, .int 2])) lb (.lst [V.ref t1, .ref t2, .ref t3, .ref t4, .ref t5, .ref t6])) t7 (.tup [V.int 1, .int 2, .int (-1)])) t8 (.tup [V.int 1, .int 3, .int (8 + far)])) t9 (.tup [V.int 1, .int 1, .str "0"])) t10 (.tup [V.int 1, .int 1, .bl true])) lc (.lst [V.ref t7, .ref t8, .ref t9, .ref t10])) Lx (.lst ([V.ref t1, .ref t2, .ref t3, .ref t4, .ref t5, .ref t6] ++ [V.ref t7, .ref t8, .ref t9, .ref t10])) Lx = some (HO.lst ([t1, t2, t3, t4, t5, t6, t7, t8, t9, t10].map V.ref)) := upd_same
    have y1 := x1.trans wx
    have pr : Paired (fun (t : Addr) (c : V × V × V) => upd (upd (upd (upd (upd (upd (upd (upd (upd (upd (upd (upd (upd H6 t1 (.tup [V.int 9, .int 1, .int 0])) t2 (.tup [V.int (-1), .int 1, .int 0])) t3 (.tup [V.bl true, .int 1, .int 0])) t4 (.tup [V.int 1, .int 0, .int 0])) t5 (.tup [V.int 1, .int (15 + far), .int 0])) t6 (.tup [V.int 1, .int 1, .int 2])) lb (.lst [V.ref t1, .ref t2, .ref t3, .ref t4, .ref t5, .ref t6])) t7 (.tup [V.int 1, .int 2, .int (-1)])) t8 (.tup [V.int 1, .int 3, .int (8 + far)])) t9 (.tup [V.int 1, .int 1, .str "0"])) t10 (.tup [V.int 1, .int 1, .bl true])) lc (.lst [V.ref t7, .ref t8, .ref t9, .ref t10])) Lx (.lst ([V.ref t1, .ref t2, .ref t3, .ref t4, .ref t5, .ref t6] ++ [V.ref t7, .ref t8, .ref t9, .ref t10])) t = some (HO.tup [c.1, c.2.1, c.2.2])) [t1, t2, t3, t4, t5, t6, t7, t8, t9, t10] (badCs far) :=
      .cons (wx _ _ (x2 _ _ upd_same)) (.cons (wx _ _ (x3 _ _ upd_same)) (.cons (wx _ _ (x4 _ _ upd_same)) (.cons (wx _ _ (x5 _ _ upd_same)) (.cons (wx _ _ (x6 _ _ upd_same)) (.cons (wx _ _ (xb _ _ upd_same)) (.cons (wx _ _ (x8 _ _ upd_same)) (.cons (wx _ _ (x9 _ _ upd_same)) (.cons (wx _ _ (x10 _ _ upd_same)) (.cons (wx _ _ (wc _ _ upd_same)) .nil)))))))))
    have po := po.same y1
    have p2 := p2.same y1
    have pw := pw.same y1
    generalize upd (upd (upd (upd (upd (upd (upd (upd (upd (upd (upd (upd (upd H6 t1 (.tup [V.int 9, .int 1, .int 0])) t2 (.tup [V.int (-1), .int 1, .int 0])) t3 (.tup [V.bl true, .int 1, .int 0])) t4 (.tup [V.int 1, .int 0, .int 0])) t5 (.tup [V.int 1, .int (15 + far), .int 0])) t6 (.tup [V.int 1, .int 1, .int 2])) lb (.lst [V.ref t1, .ref t2, .ref t3, .ref t4, .ref t5, .ref t6])) t7 (.tup [V.int 1, .int 2, .int (-1)])) t8 (.tup [V.int 1, .int 3, .int (8 + far)])) t9 (.tup [V.int 1, .int 1, .str "0"])) t10 (.tup [V.int 1, .int 1, .bl true])) lc (.lst [V.ref t7, .ref t8, .ref t9, .ref t10])) Lx (.lst ([V.ref t1, .ref t2, .ref t3, .ref t4, .ref t5, .ref t6] ++ [V.ref t7, .ref t8, .ref t9, .ref t10])) = H7 at eL pr po p2 pw ⊢
    refine for_list (K := K) (a := Lx) (xs := [t1, t2, t3, t4, t5, t6, t7, t8, t9, t10].map V.ref) (fun i σ H' => ∃ u7 u8 u9, σ = [some (.ref script), some (.int far), some (.ref o), some (.ref t'), some (.ref fp), u, some (.ref lb), u7, u8, u9, none, none, none, none, none] ∧ Same H7 H') ⟨none, none, none, rfl, Same.refl _⟩ (fun i σ H' _ ⟨_, _, _, _, s'⟩ => s'.seq (SqL.of eL)) ?_ ?_
    · rintro i x σ H8 hi ⟨u7, u8, u9, rfl, s8⟩
      rw [List.getElem?_map] at hi
      obtain ⟨t, ht, rfl⟩ := Option.map_eq_some_iff.mp hi
      obtain ⟨c, hc, et⟩ := paired_get pr ht
      obtain ⟨f1, f2, f3, bad⟩ := badCs_at h0 (List.mem_of_getElem? hc)
      refine ⟨t, _, rfl, SqT.of (s8 _ _ et), rfl, _, _, rfl, _, _, rfl, _, _, rfl, rfl, ?_⟩
      refine ⟨_, rfl, _, rfl, by show 2 ≤ sizeLine; decide, fun l hl => ?_⟩
      have sl := s8.trans (upd_new (o := .lst [V.ref o, .ref t']) hl)
      obtain ⟨k1, hk1⟩ := kd_flat (K := K) (H := upd H8 l (.lst [V.ref o, .ref t'])) f1
      obtain ⟨k2, hk2⟩ := kd_flat (K := K) (H := upd H8 l (.lst [V.ref o, .ref t'])) f2
      obtain ⟨k3, hk3⟩ := kd_flat (K := K) (H := upd H8 l (.lst [V.ref o, .ref t'])) f3
      refine ⟨_, rfl, _, rfl, _, rfl, .ref l, c.1, c.2.1, c.2.2, some [pQ, pT], k1, k2, k3, rfl, GArg.pots (as := [o, t']) ⟨l, _, rfl, .inl upd_same⟩ (SqL.of upd_same) (by show 2 ≤ 1000; decide) (.cons (po.same sl) (.cons (p2.same sl) .nil)) ?_, hk1, hk2, hk3, fun H9 s9 => ⟨rfl, _, rfl, neS ?_ ⟨_, _, _, rfl, sl.trans s9⟩⟩⟩
      · intro p hp
        simp only [List.mem_cons, List.mem_nil_iff, or_false] at hp
        rcases hp with rfl | rfl
        · exact okQ
        · exact okT
      · show resS (gRes [pQ, pT] c.1 c.2.1 c.2.2) = "many"
        unfold gRes
        rw [if_pos (show cntOk [pQ, pT].length c.1 c.2.1 c.2.2 = false from bad)]
        rfl
    rintro σ H8 ⟨u7, u8, u9, rfl, s8⟩
    exact useB _ H8 o t' fp _ _ _ _ _ _ _ (po.same s8) (p2.same s8) (pw.same s8) q
end
end Tw
set_option Elab.async false
set_option linter.all false
set_option maxRecDepth 100000
set_option maxHeartbeats 2100000
namespace Tw
open PySem L2
theorem len2 {us : List Value} (h : us.length = 2) : ∃ x y, us = [x, y] := match us, h with | [x, y], _ => ⟨x, y, rfl⟩
theorem len3 {us : List Value} (h : us.length = 3) : ∃ x y z, us = [x, y, z] := match us, h with | [x, y, z], _ => ⟨x, y, z, rfl⟩
/-- what the top has written, each a fact of its own -/
theorem all_mk {l : PySem.W.OpenLaw} {w : World} {K : PySem.W.Frag} {h : Heap} {mg : Str → Option Value} {fa : Addr} (X : K.In h) (G : h.Ns mainGlobals mg) (hfa : mg "law" = some (.ref fa))
    {gErr badPot badRow tooMany noState noPot badDay pot cactus garden fWh fNm fPI fPG fCI fCG fOwn fCnt fTwc Td fGI fSz fCan fPlc fWG fJoi fCel fSor fKin fLP fLG fRig fChg fLaw : Addr}
    {t_ln : Tok}
    {t_mg : Tok}
    {t_mp : Tok}
    {t_mc : Tok}
    {t_mw : Tok}
    {t_ms : Tok}
    {odWh anWh : Option Addr} {slWh : Array (Option Value)} {ocWh kVWh dcWh pmWh cdWh ctWh : Value}
    {odNm anNm : Option Addr} {slNm : Array (Option Value)} {ocNm kVNm dcNm pmNm cdNm ctNm : Value}
    {odPI anPI : Option Addr} {slPI : Array (Option Value)} {ocPI kVPI dcPI pmPI cdPI ctPI : Value}
    {odPG anPG : Option Addr} {slPG : Array (Option Value)} {ocPG kVPG dcPG pmPG cdPG ctPG : Value}
    {odCI anCI : Option Addr} {slCI : Array (Option Value)} {ocCI kVCI dcCI pmCI cdCI ctCI : Value}
    {odCG anCG : Option Addr} {slCG : Array (Option Value)} {ocCG kVCG dcCG pmCG cdCG ctCG : Value}
    {odOwn anOwn : Option Addr} {slOwn : Array (Option Value)} {ocOwn kVOwn dcOwn pmOwn cdOwn ctOwn : Value}
    {odCnt anCnt : Option Addr} {slCnt : Array (Option Value)} {ocCnt kVCnt dcCnt pmCnt cdCnt ctCnt : Value}
    {odTwc anTwc : Option Addr} {slTwc : Array (Option Value)} {ocTwc kVTwc dcTwc pmTwc cdTwc ctTwc : Value}
    {ocT : Value} {odT : Option Addr} {u1 u2 u3 : Tok} {nT : Nat} {slT : Array (Option Value)}
    {odGI anGI : Option Addr} {slGI : Array (Option Value)} {ocGI kVGI dcGI pmGI cdGI ctGI : Value}
    {odSz anSz : Option Addr} {slSz : Array (Option Value)} {ocSz kVSz dcSz pmSz cdSz ctSz : Value}
    {odCan anCan : Option Addr} {slCan : Array (Option Value)} {ocCan kVCan dcCan pmCan cdCan ctCan : Value}
    {odPlc anPlc : Option Addr} {slPlc : Array (Option Value)} {ocPlc kVPlc dcPlc pmPlc cdPlc ctPlc : Value}
    {odWG anWG : Option Addr} {slWG : Array (Option Value)} {ocWG kVWG dcWG pmWG cdWG ctWG : Value}
    {odJoi anJoi : Option Addr} {slJoi : Array (Option Value)} {ocJoi kVJoi dcJoi pmJoi cdJoi ctJoi : Value}
    {odCel anCel : Option Addr} {slCel : Array (Option Value)} {ocCel kVCel dcCel pmCel cdCel ctCel : Value}
    {odSor anSor : Option Addr} {slSor : Array (Option Value)} {ocSor kVSor dcSor pmSor cdSor ctSor : Value}
    {odKin anKin : Option Addr} {slKin : Array (Option Value)} {ocKin kVKin dcKin pmKin cdKin ctKin : Value}
    {odLP anLP : Option Addr} {slLP : Array (Option Value)} {ocLP kVLP dcLP pmLP cdLP ctLP : Value}
    {odLG anLG : Option Addr} {slLG : Array (Option Value)} {ocLG kVLG dcLG pmLG cdLG ctLG : Value}
    {odRig anRig : Option Addr} {slRig : Array (Option Value)} {ocRig kVRig dcRig pmRig cdRig ctRig : Value}
    {odChg anChg : Option Addr} {slChg : Array (Option Value)} {ocChg kVChg dcChg pmChg cdChg ctChg : Value}
    {odLaw anLaw : Option Addr} {slLaw : Array (Option Value)} {ocLaw kVLaw dcLaw pmLaw cdLaw ctLaw : Value}
    (z_isinstance : PySem.W.nsIn K mainGlobals "isinstance" = some none)
    (z_bool : PySem.W.nsIn K mainGlobals "bool" = some none)
    (z_int : PySem.W.nsIn K mainGlobals "int" = some none)
    (z_str : PySem.W.nsIn K mainGlobals "str" = some none)
    (z_list : PySem.W.nsIn K mainGlobals "list" = some none)
    (z_tuple : PySem.W.nsIn K mainGlobals "tuple" = some none)
    (z_len : PySem.W.nsIn K mainGlobals "len" = some none)
    (z_all : PySem.W.nsIn K mainGlobals "all" = some none)
    (z_set : PySem.W.nsIn K mainGlobals "set" = some none)
    (z_zip : PySem.W.nsIn K mainGlobals "zip" = some none)
    (z_reversed : PySem.W.nsIn K mainGlobals "reversed" = some none)
    (z_range : PySem.W.nsIn K mainGlobals "range" = some none)
    (z_ValueError : PySem.W.nsIn K mainGlobals "ValueError" = some none)
    (n_ln : PySem.W.nsIn K mainGlobals "LONGEST_NAME" = some (some (.int 12 t_ln)))
    (n_mg : PySem.W.nsIn K mainGlobals "MOST_GAP" = some (some (.int 60 t_mg)))
    (n_mp : PySem.W.nsIn K mainGlobals "MOST_POTS" = some (some (.int 8 t_mp)))
    (n_mc : PySem.W.nsIn K mainGlobals "MOST_CANS" = some (some (.int 8 t_mc)))
    (n_mw : PySem.W.nsIn K mainGlobals "MOST_WEEK" = some (some (.int 14 t_mw)))
    (n_ms : PySem.W.nsIn K mainGlobals "MOST_STATES" = some (some (.int 20000 t_ms)))
    (n_gErr : PySem.W.nsIn K mainGlobals "GardenError" = some (some (.ref gErr)))
    (n_badPot : PySem.W.nsIn K mainGlobals "BadPot" = some (some (.ref badPot)))
    (n_badRow : PySem.W.nsIn K mainGlobals "BadRow" = some (some (.ref badRow)))
    (n_tooMany : PySem.W.nsIn K mainGlobals "TooMany" = some (some (.ref tooMany)))
    (n_noState : PySem.W.nsIn K mainGlobals "NoState" = some (some (.ref noState)))
    (n_noPot : PySem.W.nsIn K mainGlobals "NoPot" = some (some (.ref noPot)))
    (n_badDay : PySem.W.nsIn K mainGlobals "BadDay" = some (some (.ref badDay)))
    (n_pot : PySem.W.nsIn K mainGlobals "Pot" = some (some (.ref pot)))
    (n_cactus : PySem.W.nsIn K mainGlobals "Cactus" = some (some (.ref cactus)))
    (n_garden : PySem.W.nsIn K mainGlobals "Garden" = some (some (.ref garden)))
    (ne : pot ≠ cactus)
    (aWh : PySem.W.nsIn K mainGlobals "is_whole" = some (some (.ref fWh)))
    (lWh : K.lookup fWh = some ⟨ocWh, odWh, .func (PySem.W.fnOf "is_whole" "is_whole" (defArgs sWhole) (defBody sWhole) (defScope sWhole) .none kVWh dcWh pmWh anWh cdWh ctWh), slWh⟩)
    (cWh : PySem.W.codeIn K cdWh "is_whole" = true)
    (kWh : PySem.W.keepIn K (.ref fWh) = true)
    (aNm : PySem.W.nsIn K mainGlobals "is_name" = some (some (.ref fNm)))
    (lNm : K.lookup fNm = some ⟨ocNm, odNm, .func (PySem.W.fnOf "is_name" "is_name" (defArgs sIsName) (defBody sIsName) (defScope sIsName) .none kVNm dcNm pmNm anNm cdNm ctNm), slNm⟩)
    (cNm : PySem.W.codeIn K cdNm "is_name" = true)
    (kNm : PySem.W.keepIn K (.ref fNm) = true)
    (aPI : PySem.W.findIn K (.ref pot) "__init__" = some (some (.ref fPI)))
    (iPI : PySem.W.isFn K (.ref fPI) = true)
    (lPI : K.lookup fPI = some ⟨ocPI, odPI, .func (PySem.W.fnOf "__init__" "Pot.__init__" (defArgs sPotInit) (defBody sPotInit) (defScope sPotInit) .none kVPI dcPI pmPI anPI cdPI ctPI), slPI⟩)
    (cPI : PySem.W.codeIn K cdPI "Pot.__init__" = true)
    (kPI : PySem.W.keepIn K (.ref fPI) = true)
    (aPG : PySem.W.findIn K (.ref pot) "with_gap" = some (some (.ref fPG)))
    (iPG : PySem.W.isFn K (.ref fPG) = true)
    (lPG : K.lookup fPG = some ⟨ocPG, odPG, .func (PySem.W.fnOf "with_gap" "Pot.with_gap" (defArgs sPotGap) (defBody sPotGap) (defScope sPotGap) .none kVPG dcPG pmPG anPG cdPG ctPG), slPG⟩)
    (cPG : PySem.W.codeIn K cdPG "Pot.with_gap" = true)
    (kPG : PySem.W.keepIn K (.ref fPG) = true)
    (aCI : PySem.W.findIn K (.ref cactus) "__init__" = some (some (.ref fCI)))
    (iCI : PySem.W.isFn K (.ref fCI) = true)
    (lCI : K.lookup fCI = some ⟨ocCI, odCI, .func (PySem.W.fnOf "__init__" "Cactus.__init__" (defArgs sCacInit) (defBody sCacInit) (defScope sCacInit) .none kVCI dcCI pmCI anCI cdCI ctCI), slCI⟩)
    (cCI : PySem.W.codeIn K cdCI "Cactus.__init__" = true)
    (kCI : PySem.W.keepIn K (.ref fCI) = true)
    (aCG : PySem.W.findIn K (.ref cactus) "with_gap" = some (some (.ref fCG)))
    (iCG : PySem.W.isFn K (.ref fCG) = true)
    (lCG : K.lookup fCG = some ⟨ocCG, odCG, .func (PySem.W.fnOf "with_gap" "Cactus.with_gap" (defArgs sCacGap) (defBody sCacGap) (defScope sCacGap) .none kVCG dcCG pmCG anCG cdCG ctCG), slCG⟩)
    (cCG : PySem.W.codeIn K cdCG "Cactus.with_gap" = true)
    (kCG : PySem.W.keepIn K (.ref fCG) = true)
    (aOwn : PySem.W.nsIn K mainGlobals "own_pots" = some (some (.ref fOwn)))
    (lOwn : K.lookup fOwn = some ⟨ocOwn, odOwn, .func (PySem.W.fnOf "own_pots" "own_pots" (defArgs sOwn) (defBody sOwn) (defScope sOwn) .none kVOwn dcOwn pmOwn anOwn cdOwn ctOwn), slOwn⟩)
    (cOwn : PySem.W.codeIn K cdOwn "own_pots" = true)
    (kOwn : PySem.W.keepIn K (.ref fOwn) = true)
    (aCnt : PySem.W.nsIn K mainGlobals "refuse_bad_counts" = some (some (.ref fCnt)))
    (lCnt : K.lookup fCnt = some ⟨ocCnt, odCnt, .func (PySem.W.fnOf "refuse_bad_counts" "refuse_bad_counts" (defArgs sCnt) (defBody sCnt) (defScope sCnt) .none kVCnt dcCnt pmCnt anCnt cdCnt ctCnt), slCnt⟩)
    (cCnt : PySem.W.codeIn K cdCnt "refuse_bad_counts" = true)
    (kCnt : PySem.W.keepIn K (.ref fCnt) = true)
    (aTwc : PySem.W.nsIn K mainGlobals "refuse_name_twice" = some (some (.ref fTwc)))
    (lTwc : K.lookup fTwc = some ⟨ocTwc, odTwc, .func (PySem.W.fnOf "refuse_name_twice" "refuse_name_twice" (defArgs sTwc) (defBody sTwc) (defScope sTwc) .none kVTwc dcTwc pmTwc anTwc cdTwc ctTwc), slTwc⟩)
    (cTwc : PySem.W.codeIn K cdTwc "refuse_name_twice" = true)
    (kTwc : PySem.W.keepIn K (.ref fTwc) = true)
    (aGI : PySem.W.findIn K (.ref garden) "__init__" = some (some (.ref fGI)))
    (iGI : PySem.W.isFn K (.ref fGI) = true)
    (lGI : K.lookup fGI = some ⟨ocGI, odGI, .func (PySem.W.fnOf "__init__" "Garden.__init__" (defArgs sGI) (defBody sGI) (defScope sGI) (.ref Td) kVGI dcGI pmGI anGI cdGI ctGI), slGI⟩)
    (cGI : PySem.W.codeIn K cdGI "Garden.__init__" = true)
    (kGI : PySem.W.keepIn K (.ref fGI) = true)
    (lT : K.lookup Td = some ⟨ocT, odT, .seq #[.int 1 u1, .int 1 u2, .int 0 u3] nT, slT⟩)
    (aSz : PySem.W.findIn K (.ref garden) "size" = some (some (.ref fSz)))
    (iSz : PySem.W.isFn K (.ref fSz) = true)
    (lSz : K.lookup fSz = some ⟨ocSz, odSz, .func (PySem.W.fnOf "size" "Garden.size" (defArgs sSize) (defBody sSize) (defScope sSize) .none kVSz dcSz pmSz anSz cdSz ctSz), slSz⟩)
    (cSz : PySem.W.codeIn K cdSz "Garden.size" = true)
    (kSz : PySem.W.keepIn K (.ref fSz) = true)
    (aCan : PySem.W.nsIn K mainGlobals "with_cans" = some (some (.ref fCan)))
    (lCan : K.lookup fCan = some ⟨ocCan, odCan, .func (PySem.W.fnOf "with_cans" "with_cans" (defArgs sCans) (defBody sCans) (defScope sCans) .none kVCan dcCan pmCan anCan cdCan ctCan), slCan⟩)
    (cCan : PySem.W.codeIn K cdCan "with_cans" = true)
    (kCan : PySem.W.keepIn K (.ref fCan) = true)
    (aPlc : PySem.W.nsIn K mainGlobals "place_of" = some (some (.ref fPlc)))
    (lPlc : K.lookup fPlc = some ⟨ocPlc, odPlc, .func (PySem.W.fnOf "place_of" "place_of" (defArgs sPlc) (defBody sPlc) (defScope sPlc) .none kVPlc dcPlc pmPlc anPlc cdPlc ctPlc), slPlc⟩)
    (cPlc : PySem.W.codeIn K cdPlc "place_of" = true)
    (kPlc : PySem.W.keepIn K (.ref fPlc) = true)
    (aWG : PySem.W.nsIn K mainGlobals "with_gap" = some (some (.ref fWG)))
    (lWG : K.lookup fWG = some ⟨ocWG, odWG, .func (PySem.W.fnOf "with_gap" "with_gap" (defArgs sWGap) (defBody sWGap) (defScope sWGap) .none kVWG dcWG pmWG anWG cdWG ctWG), slWG⟩)
    (cWG : PySem.W.codeIn K cdWG "with_gap" = true)
    (kWG : PySem.W.keepIn K (.ref fWG) = true)
    (aJoi : PySem.W.nsIn K mainGlobals "joined" = some (some (.ref fJoi)))
    (lJoi : K.lookup fJoi = some ⟨ocJoi, odJoi, .func (PySem.W.fnOf "joined" "joined" (defArgs sJoin) (defBody sJoin) (defScope sJoin) .none kVJoi dcJoi pmJoi anJoi cdJoi ctJoi), slJoi⟩)
    (cJoi : PySem.W.codeIn K cdJoi "joined" = true)
    (kJoi : PySem.W.keepIn K (.ref fJoi) = true)
    (aCel : PySem.W.nsIn K mainGlobals "_law_cell_at" = some (some (.ref fCel)))
    (lCel : K.lookup fCel = some ⟨ocCel, odCel, .func (PySem.W.fnOf "_law_cell_at" "_law_cell_at" (defArgs sCell) (defBody sCell) (defScope sCell) .none kVCel dcCel pmCel anCel cdCel ctCel), slCel⟩)
    (cCel : PySem.W.codeIn K cdCel "_law_cell_at" = true)
    (kCel : PySem.W.keepIn K (.ref fCel) = true)
    (aSor : PySem.W.nsIn K mainGlobals "_law_sorts" = some (some (.ref fSor)))
    (lSor : K.lookup fSor = some ⟨ocSor, odSor, .func (PySem.W.fnOf "_law_sorts" "_law_sorts" (defArgs sSorts) (defBody sSorts) (defScope sSorts) .none kVSor dcSor pmSor anSor cdSor ctSor), slSor⟩)
    (cSor : PySem.W.codeIn K cdSor "_law_sorts" = true)
    (kSor : PySem.W.keepIn K (.ref fSor) = true)
    (aKin : PySem.W.nsIn K mainGlobals "_law_kind" = some (some (.ref fKin)))
    (lKin : K.lookup fKin = some ⟨ocKin, odKin, .func (PySem.W.fnOf "_law_kind" "_law_kind" (defArgs sKind) (defBody sKind) (defScope sKind) .none kVKin dcKin pmKin anKin cdKin ctKin), slKin⟩)
    (cKin : PySem.W.codeIn K cdKin "_law_kind" = true)
    (kKin : PySem.W.keepIn K (.ref fKin) = true)
    (aLP : PySem.W.nsIn K mainGlobals "_law_pot" = some (some (.ref fLP)))
    (lLP : K.lookup fLP = some ⟨ocLP, odLP, .func (PySem.W.fnOf "_law_pot" "_law_pot" (defArgs sLPot) (defBody sLPot) (defScope sLPot) .none kVLP dcLP pmLP anLP cdLP ctLP), slLP⟩)
    (cLP : PySem.W.codeIn K cdLP "_law_pot" = true)
    (kLP : PySem.W.keepIn K (.ref fLP) = true)
    (aLG : PySem.W.nsIn K mainGlobals "_law_garden" = some (some (.ref fLG)))
    (lLG : K.lookup fLG = some ⟨ocLG, odLG, .func (PySem.W.fnOf "_law_garden" "_law_garden" (defArgs sLGar) (defBody sLGar) (defScope sLGar) .none kVLG dcLG pmLG anLG cdLG ctLG), slLG⟩)
    (cLG : PySem.W.codeIn K cdLG "_law_garden" = true)
    (kLG : PySem.W.keepIn K (.ref fLG) = true)
    (aRig : PySem.W.nsIn K mainGlobals "_law_pots_right" = some (some (.ref fRig)))
    (lRig : K.lookup fRig = some ⟨ocRig, odRig, .func (PySem.W.fnOf "_law_pots_right" "_law_pots_right" (defArgs sRight) (defBody sRight) (defScope sRight) .none kVRig dcRig pmRig anRig cdRig ctRig), slRig⟩)
    (cRig : PySem.W.codeIn K cdRig "_law_pots_right" = true)
    (kRig : PySem.W.keepIn K (.ref fRig) = true)
    (aChg : PySem.W.nsIn K mainGlobals "_law_changed" = some (some (.ref fChg)))
    (lChg : K.lookup fChg = some ⟨ocChg, odChg, .func (PySem.W.fnOf "_law_changed" "_law_changed" (defArgs sChg) (defBody sChg) (defScope sChg) .none kVChg dcChg pmChg anChg cdChg ctChg), slChg⟩)
    (cChg : PySem.W.codeIn K cdChg "_law_changed" = true)
    (kChg : PySem.W.keepIn K (.ref fChg) = true)
    (aLaw : PySem.W.nsIn K mainGlobals "law" = some (some (.ref fLaw)))
    (lLaw : K.lookup fLaw = some ⟨ocLaw, odLaw, .func (PySem.W.fnOf "law" "law" (defArgs sLaw) (defBody sLaw) (defScope sLaw) .none kVLaw dcLaw pmLaw anLaw cdLaw ctLaw), slLaw⟩)
    (cLaw : PySem.W.codeIn K cdLaw "law" = true)
    (kLaw : PySem.W.keepIn K (.ref fLaw) = true)
    (gt : PySem.W.specialIn K (.builtin "object.__class__") "__get__" = some (some (.builtin "getset_descriptor.__get__")))
    (tk : PySem.W.takesIn K (.builtin "object.__class__") = some true)
    (pg_pot : PySem.W.plainGet K pot Str.empty = true)
    (hd_pot : PySem.W.hasDictIn K pot = true)
    (po_pot : PySem.W.plainOver K pot = true)
    (sa_pot : PySem.W.findIn K (.ref pot) "__setattr__" = some (some (.builtin "object.__setattr__")))
    (ha_pot : PySem.W.findIn K (.ref pot) "__class__" = some (some (.builtin "object.__class__")))
    (hm_pot : PySem.W.mroIn K pot (.type "object") = some true)
    (no_pot_bool : PySem.W.kitOne K (.ref pot) (.type "bool") = some false)
    (no_pot_int : PySem.W.kitOne K (.ref pot) (.type "int") = some false)
    (no_pot_str : PySem.W.kitOne K (.ref pot) (.type "str") = some false)
    (no_pot_list : PySem.W.kitOne K (.ref pot) (.type "list") = some false)
    (no_pot_tuple : PySem.W.kitOne K (.ref pot) (.type "tuple") = some false)
    (mk_pot : PySem.W.makesIn K pot = true)
    (kc_pot : PySem.W.keepIn K (.ref pot) = true)
    (pg_cactus : PySem.W.plainGet K cactus Str.empty = true)
    (hd_cactus : PySem.W.hasDictIn K cactus = true)
    (po_cactus : PySem.W.plainOver K cactus = true)
    (sa_cactus : PySem.W.findIn K (.ref cactus) "__setattr__" = some (some (.builtin "object.__setattr__")))
    (ha_cactus : PySem.W.findIn K (.ref cactus) "__class__" = some (some (.builtin "object.__class__")))
    (hm_cactus : PySem.W.mroIn K cactus (.type "object") = some true)
    (no_cactus_bool : PySem.W.kitOne K (.ref cactus) (.type "bool") = some false)
    (no_cactus_int : PySem.W.kitOne K (.ref cactus) (.type "int") = some false)
    (no_cactus_str : PySem.W.kitOne K (.ref cactus) (.type "str") = some false)
    (no_cactus_list : PySem.W.kitOne K (.ref cactus) (.type "list") = some false)
    (no_cactus_tuple : PySem.W.kitOne K (.ref cactus) (.type "tuple") = some false)
    (mk_cactus : PySem.W.makesIn K cactus = true)
    (kc_cactus : PySem.W.keepIn K (.ref cactus) = true)
    (pg_garden : PySem.W.plainGet K garden Str.empty = true)
    (hd_garden : PySem.W.hasDictIn K garden = true)
    (po_garden : PySem.W.plainOver K garden = true)
    (sa_garden : PySem.W.findIn K (.ref garden) "__setattr__" = some (some (.builtin "object.__setattr__")))
    (ha_garden : PySem.W.findIn K (.ref garden) "__class__" = some (some (.builtin "object.__class__")))
    (hm_garden : PySem.W.mroIn K garden (.type "object") = some true)
    (no_garden_bool : PySem.W.kitOne K (.ref garden) (.type "bool") = some false)
    (no_garden_int : PySem.W.kitOne K (.ref garden) (.type "int") = some false)
    (no_garden_str : PySem.W.kitOne K (.ref garden) (.type "str") = some false)
    (no_garden_list : PySem.W.kitOne K (.ref garden) (.type "list") = some false)
    (no_garden_tuple : PySem.W.kitOne K (.ref garden) (.type "tuple") = some false)
    (mk_garden : PySem.W.makesIn K garden = true)
    (kc_garden : PySem.W.keepIn K (.ref garden) = true)
    (na_pot_name : PySem.W.findIn K (.ref pot) "name" = some none)
    (na_pot_gap : PySem.W.findIn K (.ref pot) "gap" = some none)
    (na_pot_rest : PySem.W.findIn K (.ref pot) "rest" = some none)
    (na_cactus_name : PySem.W.findIn K (.ref cactus) "name" = some none)
    (na_cactus_gap : PySem.W.findIn K (.ref cactus) "gap" = some none)
    (na_cactus_rest : PySem.W.findIn K (.ref cactus) "rest" = some none)
    (na_garden_pots : PySem.W.findIn K (.ref garden) "pots" = some none)
    (na_garden_cans : PySem.W.findIn K (.ref garden) "cans" = some none)
    (na_garden_week : PySem.W.findIn K (.ref garden) "week" = some none)
    (na_garden_closed : PySem.W.findIn K (.ref garden) "closed" = some none)
    (rdP : PySem.W.readsIn K pot (.type "type") = true)
    (gaP : PySem.W.specialIn K (.ref pot) "__getattribute__" = some (some (.builtin "type.__getattribute__")))
    (atP : PySem.W.findCls K (.ref pot) (.type "type") "__init__" = some (.val (.ref fPI)))
    (kpp : PySem.W.kitOne K (.ref pot) (.ref pot) = some true)
    (kcp : PySem.W.kitOne K (.ref cactus) (.ref pot) = some true)
    (kb_NoneType : PySem.W.kitOne K (.type "NoneType") (.ref pot) = some false)
    (kb_bool : PySem.W.kitOne K (.type "bool") (.ref pot) = some false)
    (kb_int : PySem.W.kitOne K (.type "int") (.ref pot) = some false)
    (kb_str : PySem.W.kitOne K (.type "str") (.ref pot) = some false)
    (kb_list : PySem.W.kitOne K (.type "list") (.ref pot) = some false)
    (kb_tuple : PySem.W.kitOne K (.type "tuple") (.ref pot) = some false)
    (ex_badPot : PySem.W.excIn K badPot vErr "ValueError.__new__" = true)
    (xg_badPot : PySem.W.findIn K (.ref badPot) "__getattribute__" = some (some (.builtin "BaseException.__getattribute__")))
    (xk_badPot : PySem.W.findIn K (.ref badPot) "__getattr__" = some none)
    (xc_badPot : PySem.W.isClsIn K badPot = true)
    (xa_badPot : PySem.W.findIn K (.ref badPot) "__class__" = some (some (.builtin "object.__class__")))
    (xo_badPot : PySem.W.mroIn K badPot (.type "object") = some true)
    (xb_badPot : PySem.W.subIn K (.ref badPot) (.type "BaseException") = some true)
    (x0_badPot : PySem.W.kitOne K (.ref badPot) (.ref badPot) = some true)
    (x1_badPot : PySem.W.kitOne K (.ref badPot) (.ref tooMany) = some false)
    (x2_badPot : PySem.W.kitOne K (.ref badPot) (.ref noPot) = some false)
    (x3_badPot : PySem.W.kitOne K (.ref badPot) (.ref badDay) = some false)
    (x4_badPot : PySem.W.kitOne K (.ref badPot) (.ref badRow) = some false)
    (x5_badPot : PySem.W.kitOne K (.ref badPot) (.ref noState) = some false)
    (xv_badPot : PySem.W.kitOne K (.ref badPot) (.type "ValueError") = some true)
    (xm_badPot : PySem.W.exmOne K (.ref badPot) (.ref gErr) = some true)
    (ex_tooMany : PySem.W.excIn K tooMany vErr "ValueError.__new__" = true)
    (xg_tooMany : PySem.W.findIn K (.ref tooMany) "__getattribute__" = some (some (.builtin "BaseException.__getattribute__")))
    (xk_tooMany : PySem.W.findIn K (.ref tooMany) "__getattr__" = some none)
    (xc_tooMany : PySem.W.isClsIn K tooMany = true)
    (xa_tooMany : PySem.W.findIn K (.ref tooMany) "__class__" = some (some (.builtin "object.__class__")))
    (xo_tooMany : PySem.W.mroIn K tooMany (.type "object") = some true)
    (xb_tooMany : PySem.W.subIn K (.ref tooMany) (.type "BaseException") = some true)
    (x0_tooMany : PySem.W.kitOne K (.ref tooMany) (.ref badPot) = some false)
    (x1_tooMany : PySem.W.kitOne K (.ref tooMany) (.ref tooMany) = some true)
    (x2_tooMany : PySem.W.kitOne K (.ref tooMany) (.ref noPot) = some false)
    (x3_tooMany : PySem.W.kitOne K (.ref tooMany) (.ref badDay) = some false)
    (x4_tooMany : PySem.W.kitOne K (.ref tooMany) (.ref badRow) = some false)
    (x5_tooMany : PySem.W.kitOne K (.ref tooMany) (.ref noState) = some false)
    (xv_tooMany : PySem.W.kitOne K (.ref tooMany) (.type "ValueError") = some true)
    (xm_tooMany : PySem.W.exmOne K (.ref tooMany) (.ref gErr) = some true)
    (ex_noPot : PySem.W.excIn K noPot vErr "ValueError.__new__" = true)
    (xg_noPot : PySem.W.findIn K (.ref noPot) "__getattribute__" = some (some (.builtin "BaseException.__getattribute__")))
    (xk_noPot : PySem.W.findIn K (.ref noPot) "__getattr__" = some none)
    (xc_noPot : PySem.W.isClsIn K noPot = true)
    (xa_noPot : PySem.W.findIn K (.ref noPot) "__class__" = some (some (.builtin "object.__class__")))
    (xo_noPot : PySem.W.mroIn K noPot (.type "object") = some true)
    (xb_noPot : PySem.W.subIn K (.ref noPot) (.type "BaseException") = some true)
    (x0_noPot : PySem.W.kitOne K (.ref noPot) (.ref badPot) = some false)
    (x1_noPot : PySem.W.kitOne K (.ref noPot) (.ref tooMany) = some false)
    (x2_noPot : PySem.W.kitOne K (.ref noPot) (.ref noPot) = some true)
    (x3_noPot : PySem.W.kitOne K (.ref noPot) (.ref badDay) = some false)
    (x4_noPot : PySem.W.kitOne K (.ref noPot) (.ref badRow) = some false)
    (x5_noPot : PySem.W.kitOne K (.ref noPot) (.ref noState) = some false)
    (xv_noPot : PySem.W.kitOne K (.ref noPot) (.type "ValueError") = some true)
    (xm_noPot : PySem.W.exmOne K (.ref noPot) (.ref gErr) = some true) :
    ∃ fd : FuncData, (∀ (s : Shared) (v : Value), BindsTo s fd ⟨[v], []⟩ [("_law_script", v)]) ∧ ∀ base : Heap, K.In base → base.Ns mainGlobals mg → FnOk l.prog w K mg base (CXg l.prog w) 12 fa fd ["_law_script"] (spLaw K) := by
  have e := hfa.symm.trans (PySem.W.mg_of X G aLaw)
  cases e
  have m_gErr := PySem.W.mg_of X G n_gErr
  have m_badPot := PySem.W.mg_of X G n_badPot
  have m_badRow := PySem.W.mg_of X G n_badRow
  have m_tooMany := PySem.W.mg_of X G n_tooMany
  have m_noState := PySem.W.mg_of X G n_noState
  have m_noPot := PySem.W.mg_of X G n_noPot
  have m_badDay := PySem.W.mg_of X G n_badDay
  have m_pot := PySem.W.mg_of X G n_pot
  have m_cactus := PySem.W.mg_of X G n_cactus
  have m_garden := PySem.W.mg_of X G n_garden
  have FWh := fun_mk (st := sWhole) lWh cWh kWh
  have bWh := FWh.binds (ps := ["value", "least", "most"]) fun _ _ _ _ _ _ us hl => match us, hl with | [_, _, _], _ => rfl
  have mWh := PySem.W.mg_of X G aWh
  have FNm := fun_mk (st := sIsName) lNm cNm kNm
  have bNm := FNm.binds (ps := ["value"]) fun _ _ _ _ _ _ us hl => match us, hl with | [_], _ => rfl
  have mNm := PySem.W.mg_of X G aNm
  have FPI := fun_mk (st := sPotInit) lPI cPI kPI
  have bPI := FPI.binds (ps := ["self", "name", "gap"]) fun _ _ _ _ _ _ us hl => match us, hl with | [_, _, _], _ => rfl
  have FPG := fun_mk (st := sPotGap) lPG cPG kPG
  have bPG := FPG.binds (ps := ["self", "gap"]) fun _ _ _ _ _ _ us hl => match us, hl with | [_, _], _ => rfl
  have FCI := fun_mk (st := sCacInit) lCI cCI kCI
  have bCI := FCI.binds (ps := ["self", "name", "gap", "rest"]) fun _ _ _ _ _ _ us hl => match us, hl with | [_, _, _, _], _ => rfl
  have FCG := fun_mk (st := sCacGap) lCG cCG kCG
  have bCG := FCG.binds (ps := ["self", "gap"]) fun _ _ _ _ _ _ us hl => match us, hl with | [_, _], _ => rfl
  have FOwn := fun_mk (st := sOwn) lOwn cOwn kOwn
  have bOwn := FOwn.binds (ps := ["pots"]) fun _ _ _ _ _ _ us hl => match us, hl with | [_], _ => rfl
  have mOwn := PySem.W.mg_of X G aOwn
  have FCnt := fun_mk (st := sCnt) lCnt cCnt kCnt
  have bCnt := FCnt.binds (ps := ["pots", "cans", "week", "closed"]) fun _ _ _ _ _ _ us hl => match us, hl with | [_, _, _, _], _ => rfl
  have mCnt := PySem.W.mg_of X G aCnt
  have FTwc := fun_mk (st := sTwc) lTwc cTwc kTwc
  have bTwc := FTwc.binds (ps := ["pots"]) fun _ _ _ _ _ _ us hl => match us, hl with | [_], _ => rfl
  have mTwc := PySem.W.mg_of X G aTwc
  have FSz := fun_mk (st := sSize) lSz cSz kSz
  have bSz := FSz.binds (ps := ["self"]) fun _ _ _ _ _ _ us hl => match us, hl with | [_], _ => rfl
  have FCan := fun_mk (st := sCans) lCan cCan kCan
  have bCan := FCan.binds (ps := ["garden", "cans"]) fun _ _ _ _ _ _ us hl => match us, hl with | [_, _], _ => rfl
  have mCan := PySem.W.mg_of X G aCan
  have FPlc := fun_mk (st := sPlc) lPlc cPlc kPlc
  have bPlc := FPlc.binds (ps := ["garden", "name"]) fun _ _ _ _ _ _ us hl => match us, hl with | [_, _], _ => rfl
  have mPlc := PySem.W.mg_of X G aPlc
  have FWG := fun_mk (st := sWGap) lWG cWG kWG
  have bWG := FWG.binds (ps := ["garden", "name", "gap"]) fun _ _ _ _ _ _ us hl => match us, hl with | [_, _, _], _ => rfl
  have mWG := PySem.W.mg_of X G aWG
  have FJoi := fun_mk (st := sJoin) lJoi cJoi kJoi
  have bJoi := FJoi.binds (ps := ["one", "other"]) fun _ _ _ _ _ _ us hl => match us, hl with | [_, _], _ => rfl
  have mJoi := PySem.W.mg_of X G aJoi
  have FCel := fun_mk (st := sCell) lCel cCel kCel
  have bCel := FCel.binds (ps := ["_law_script", "_law_k"]) fun _ _ _ _ _ _ us hl => match us, hl with | [_, _], _ => rfl
  have mCel := PySem.W.mg_of X G aCel
  have FSor := fun_mk (st := sSorts) lSor cSor kSor
  have bSor := FSor.binds (ps := ["_law_error"]) fun _ _ _ _ _ _ us hl => match us, hl with | [_], _ => rfl
  have mSor := PySem.W.mg_of X G aSor
  have FKin := fun_mk (st := sKind) lKin cKin kKin
  have bKin := FKin.binds (ps := ["_law_error"]) fun _ _ _ _ _ _ us hl => match us, hl with | [_], _ => rfl
  have mKin := PySem.W.mg_of X G aKin
  have FLP := fun_mk (st := sLPot) lLP cLP kLP
  have bLP := FLP.binds (ps := ["_law_name", "_law_gap", "_law_rest"]) fun _ _ _ _ _ _ us hl => match us, hl with | [_, _, _], _ => rfl
  have mLP := PySem.W.mg_of X G aLP
  have FLG := fun_mk (st := sLGar) lLG cLG kLG
  have bLG := FLG.binds (ps := ["_law_pots", "_law_cans", "_law_week", "_law_closed"]) fun _ _ _ _ _ _ us hl => match us, hl with | [_, _, _, _], _ => rfl
  have mLG := PySem.W.mg_of X G aLG
  have FRig := fun_mk (st := sRight) lRig cRig kRig
  have bRig := FRig.binds (ps := ["_law_far"]) fun _ _ _ _ _ _ us hl => match us, hl with | [_], _ => rfl
  have mRig := PySem.W.mg_of X G aRig
  have FChg := fun_mk (st := sChg) lChg cChg kChg
  have bChg := FChg.binds (ps := ["_law_garden_here", "_law_way"]) fun _ _ _ _ _ _ us hl => match us, hl with | [_, _], _ => rfl
  have mChg := PySem.W.mg_of X G aChg
  have FLaw := fun_mk (st := sLaw) lLaw cLaw kLaw
  have bLaw := FLaw.binds (ps := ["_law_script"]) fun _ _ _ _ _ _ us hl => match us, hl with | [_], _ => rfl
  have mLaw := PySem.W.mg_of X G aLaw
  have T_pot : ClsT K pot := ⟨⟨pg_pot, hd_pot, po_pot, sa_pot⟩, ha_pot, gt, tk, hm_pot, fun b => (by cases b; exact no_pot_bool; exact no_pot_int; exact no_pot_str; exact no_pot_list; exact no_pot_tuple)⟩
  have T_cactus : ClsT K cactus := ⟨⟨pg_cactus, hd_cactus, po_cactus, sa_cactus⟩, ha_cactus, gt, tk, hm_cactus, fun b => (by cases b; exact no_cactus_bool; exact no_cactus_int; exact no_cactus_str; exact no_cactus_list; exact no_cactus_tuple)⟩
  have T_garden : ClsT K garden := ⟨⟨pg_garden, hd_garden, po_garden, sa_garden⟩, ha_garden, gt, tk, hm_garden, fun b => (by cases b; exact no_garden_bool; exact no_garden_int; exact no_garden_str; exact no_garden_list; exact no_garden_tuple)⟩
  have N_pot : ∀ f ∈ (["name", "gap", "rest"] : List Str), NoAttr K pot f := fun f hf => (by simp only [List.mem_cons, List.mem_nil_iff, or_false] at hf; rcases hf with rfl | rfl | rfl; exact na_pot_name; exact na_pot_gap; exact na_pot_rest)
  have N_cactus : ∀ f ∈ (["name", "gap", "rest"] : List Str), NoAttr K cactus f := fun f hf => (by simp only [List.mem_cons, List.mem_nil_iff, or_false] at hf; rcases hf with rfl | rfl | rfl; exact na_cactus_name; exact na_cactus_gap; exact na_cactus_rest)
  have N_garden : ∀ f ∈ (["pots", "cans", "week", "closed"] : List Str), NoAttr K garden f := fun f hf => (by simp only [List.mem_cons, List.mem_nil_iff, or_false] at hf; rcases hf with rfl | rfl | rfl | rfl; exact na_garden_pots; exact na_garden_cans; exact na_garden_week; exact na_garden_closed)
  obtain ⟨a, ea⟩ : ∃ a : Adr, a = ⟨pot, cactus, garden, badPot, tooMany, noState, noPot, gErr, badRow, badDay, fWh, fNm, fPI, fPG, fCI, fCG, fOwn, fCnt, fTwc, fGI, fSz, fCan, fWG, fPlc, fJoi, fa, fa, fa, fa, fa, (PySem.W.fnOf "is_whole" "is_whole" (defArgs sWhole) (defBody sWhole) (defScope sWhole) .none kVWh dcWh pmWh anWh cdWh ctWh), (PySem.W.fnOf "is_name" "is_name" (defArgs sIsName) (defBody sIsName) (defScope sIsName) .none kVNm dcNm pmNm anNm cdNm ctNm), (PySem.W.fnOf "__init__" "Pot.__init__" (defArgs sPotInit) (defBody sPotInit) (defScope sPotInit) .none kVPI dcPI pmPI anPI cdPI ctPI), (PySem.W.fnOf "with_gap" "Pot.with_gap" (defArgs sPotGap) (defBody sPotGap) (defScope sPotGap) .none kVPG dcPG pmPG anPG cdPG ctPG), (PySem.W.fnOf "__init__" "Cactus.__init__" (defArgs sCacInit) (defBody sCacInit) (defScope sCacInit) .none kVCI dcCI pmCI anCI cdCI ctCI), (PySem.W.fnOf "with_gap" "Cactus.with_gap" (defArgs sCacGap) (defBody sCacGap) (defScope sCacGap) .none kVCG dcCG pmCG anCG cdCG ctCG), (PySem.W.fnOf "own_pots" "own_pots" (defArgs sOwn) (defBody sOwn) (defScope sOwn) .none kVOwn dcOwn pmOwn anOwn cdOwn ctOwn), (PySem.W.fnOf "refuse_bad_counts" "refuse_bad_counts" (defArgs sCnt) (defBody sCnt) (defScope sCnt) .none kVCnt dcCnt pmCnt anCnt cdCnt ctCnt), (PySem.W.fnOf "refuse_name_twice" "refuse_name_twice" (defArgs sTwc) (defBody sTwc) (defScope sTwc) .none kVTwc dcTwc pmTwc anTwc cdTwc ctTwc), (PySem.W.fnOf "__init__" "Garden.__init__" (defArgs sGI) (defBody sGI) (defScope sGI) (.ref Td) kVGI dcGI pmGI anGI cdGI ctGI), (PySem.W.fnOf "size" "Garden.size" (defArgs sSize) (defBody sSize) (defScope sSize) .none kVSz dcSz pmSz anSz cdSz ctSz), (PySem.W.fnOf "with_cans" "with_cans" (defArgs sCans) (defBody sCans) (defScope sCans) .none kVCan dcCan pmCan anCan cdCan ctCan), (PySem.W.fnOf "with_gap" "with_gap" (defArgs sWGap) (defBody sWGap) (defScope sWGap) .none kVWG dcWG pmWG anWG cdWG ctWG), (PySem.W.fnOf "place_of" "place_of" (defArgs sPlc) (defBody sPlc) (defScope sPlc) .none kVPlc dcPlc pmPlc anPlc cdPlc ctPlc), (PySem.W.fnOf "joined" "joined" (defArgs sJoin) (defBody sJoin) (defScope sJoin) .none kVJoi dcJoi pmJoi anJoi cdJoi ctJoi), (PySem.W.fnOf "law" "law" (defArgs sLaw) (defBody sLaw) (defScope sLaw) .none kVLaw dcLaw pmLaw anLaw cdLaw ctLaw), (PySem.W.fnOf "law" "law" (defArgs sLaw) (defBody sLaw) (defScope sLaw) .none kVLaw dcLaw pmLaw anLaw cdLaw ctLaw), (PySem.W.fnOf "law" "law" (defArgs sLaw) (defBody sLaw) (defScope sLaw) .none kVLaw dcLaw pmLaw anLaw cdLaw ctLaw), (PySem.W.fnOf "law" "law" (defArgs sLaw) (defBody sLaw) (defScope sLaw) .none kVLaw dcLaw pmLaw anLaw cdLaw ctLaw), (PySem.W.fnOf "law" "law" (defArgs sLaw) (defBody sLaw) (defScope sLaw) .none kVLaw dcLaw pmLaw anLaw cdLaw ctLaw)⟩ := ⟨_, rfl⟩
  have B : Blt mg := ⟨PySem.W.mg_none_of X G z_isinstance, PySem.W.mg_none_of X G z_bool, PySem.W.mg_none_of X G z_int, PySem.W.mg_none_of X G z_str, PySem.W.mg_none_of X G z_list, PySem.W.mg_none_of X G z_tuple, PySem.W.mg_none_of X G z_len, PySem.W.mg_none_of X G z_all, PySem.W.mg_none_of X G z_set, PySem.W.mg_none_of X G z_zip, PySem.W.mg_none_of X G z_reversed, PySem.W.mg_none_of X G z_range⟩
  have T : TxtP K mg a := by subst ea; exact ⟨B, ⟨_, PySem.W.mg_of X G n_ln⟩, ⟨_, PySem.W.mg_of X G n_mg⟩, ⟨m_badPot, ex_badPot⟩, ⟨FWh, bWh⟩, mWh, ⟨FNm, bNm⟩, mNm, m_pot, m_cactus, T_pot, T_cactus, N_pot, N_cactus, ⟨FPI, bPI⟩, ⟨FPG, bPG⟩, ⟨FCI, bCI⟩, ⟨FCG, bCG⟩, ⟨mk_pot, aPI, iPI, kc_pot⟩, ⟨mk_cactus, aCI, iCI, kc_cactus⟩, ⟨aPG, iPG, kPG⟩, ⟨aCG, iCG, kCG⟩, ⟨rdP, gaP, atP, kPI⟩, ne⟩
  have kb : ∀ k : Kd, (∀ C, k ≠ .ins C) → PySem.W.kitOne K k.ty (.ref pot) = some false := fun k hk => (by cases k; exact kb_NoneType; exact kb_bool; exact kb_int; exact kb_str; exact kb_list; exact kb_tuple; exact absurd rfl (hk _))
  have U : TxtG K mg a := by subst ea; exact ⟨T, kpp, kcp, kb, ⟨FOwn, bOwn⟩, mOwn, ⟨FCnt, bCnt⟩, mCnt, ⟨FTwc, bTwc⟩, mTwc, ⟨m_tooMany, ex_tooMany⟩, ⟨_, PySem.W.mg_of X G n_mp⟩, ⟨_, PySem.W.mg_of X G n_mc⟩, ⟨_, PySem.W.mg_of X G n_mw⟩, ⟨_, PySem.W.mg_of X G n_ms⟩⟩
  have FGI : FunD K "__init__" "Garden.__init__" sGI (.ref Td) fGI (PySem.W.fnOf "__init__" "Garden.__init__" (defArgs sGI) (defBody sGI) (defScope sGI) (.ref Td) kVGI dcGI pmGI anGI cdGI ctGI) := ⟨⟨ocGI, odGI, kVGI, dcGI, pmGI, anGI, cdGI, ctGI, slGI, rfl, lGI, cGI⟩, kGI⟩
  have b4 : Binds K (PySem.W.fnOf "__init__" "Garden.__init__" (defArgs sGI) (defBody sGI) (defScope sGI) (.ref Td) kVGI dcGI pmGI anGI cdGI ctGI) ["self", "pots", "cans", "week", "closed"] [] := fun s us hK hl => match us, hl with | [_, _, _, _, _], _ => PySem.W.binds_K hK rfl lT rfl rfl rfl
  have b1 : Binds K (PySem.W.fnOf "__init__" "Garden.__init__" (defArgs sGI) (defBody sGI) (defScope sGI) (.ref Td) kVGI dcGI pmGI anGI cdGI ctGI) ["self", "pots", "cans", "week", "closed"] [.int 1 u1, .int 1 u2, .int 0 u3] := fun s us hK hl => (by obtain ⟨x, y, rfl⟩ := len2 (show us.length = 2 by simpa using hl); exact PySem.W.binds_K hK rfl lT rfl rfl rfl)
  have b2 : Binds K (PySem.W.fnOf "__init__" "Garden.__init__" (defArgs sGI) (defBody sGI) (defScope sGI) (.ref Td) kVGI dcGI pmGI anGI cdGI ctGI) ["self", "pots", "cans", "week", "closed"] [.int 1 u2, .int 0 u3] := fun s us hK hl => (by obtain ⟨x, y, z, rfl⟩ := len3 (show us.length = 3 by simpa using hl); exact PySem.W.binds_K hK rfl lT rfl rfl rfl)
  have Z : TxtH K mg a (.ref Td) := by subst ea; exact ⟨U, T_garden, m_garden, N_garden, FGI, b4, ⟨_, _, _, b1⟩, ⟨_, _, b2⟩, ⟨mk_garden, aGI, iGI, kc_garden⟩, ⟨FSz, bSz⟩, ⟨aSz, iSz, kSz⟩⟩
  have J : TxtJ K mg a (.ref Td) := by subst ea; exact ⟨Z, ⟨FCan, bCan⟩, mCan, ⟨FPlc, bPlc⟩, mPlc, ⟨FWG, bWG⟩, mWG, ⟨FJoi, bJoi⟩, mJoi, ⟨m_noPot, ex_noPot⟩⟩
  have N : XNames mg a := by subst ea; exact ⟨PySem.W.mg_none_of X G z_isinstance, PySem.W.mg_none_of X G z_ValueError, m_badPot, m_tooMany, m_noPot, m_badDay, m_badRow, m_noState, m_gErr⟩
  have X_badPot : XC K a badPot 0 := by subst ea; exact ⟨⟨xg_badPot, xk_badPot, xc_badPot, xa_badPot, gt, tk, xo_badPot, xb_badPot⟩, x0_badPot, x1_badPot, x2_badPot, x3_badPot, x4_badPot, x5_badPot, xv_badPot, xm_badPot⟩
  have X_tooMany : XC K a tooMany 1 := by subst ea; exact ⟨⟨xg_tooMany, xk_tooMany, xc_tooMany, xa_tooMany, gt, tk, xo_tooMany, xb_tooMany⟩, x0_tooMany, x1_tooMany, x2_tooMany, x3_tooMany, x4_tooMany, x5_tooMany, xv_tooMany, xm_tooMany⟩
  have X_noPot : XC K a noPot 2 := by subst ea; exact ⟨⟨xg_noPot, xk_noPot, xc_noPot, xa_noPot, gt, tk, xo_noPot, xb_noPot⟩, x0_noPot, x1_noPot, x2_noPot, x3_noPot, x4_noPot, x5_noPot, xv_noPot, xm_noPot⟩
  have L : TxtL K mg a (.ref Td) := by subst ea; exact ⟨J, N, X_badPot, X_tooMany, X_noPot, ⟨_, _, ⟨FSor, bSor⟩, mSor⟩, ⟨_, _, ⟨FKin, bKin⟩, mKin⟩⟩
  have M : TxtM K mg a (.ref Td) := ⟨L, ⟨_, _, ⟨FLP, bLP⟩, mLP⟩, ⟨_, _, ⟨FLG, bLG⟩, mLG⟩⟩
  have O : TxtO K mg a (.ref Td) := ⟨M, ⟨_, _, ⟨FCel, bCel⟩, mCel⟩, ⟨_, _, ⟨FRig, bRig⟩, mRig⟩, ⟨_, _, ⟨FChg, bChg⟩, mChg⟩⟩
  exact ⟨(PySem.W.fnOf "law" "law" (defArgs sLaw) (defBody sLaw) (defScope sLaw) .none kVLaw dcLaw pmLaw anLaw cdLaw ctLaw), fun s v => .of_eq rfl, fun base _ _ => ok_law FLaw O⟩
theorem walk {l : PySem.W.OpenLaw} {q : Program} {loose : List Str} {XP : (Str → Option Value) → Heap → Prop} {YP : World → Heap → Prop} {d : DefRec} {K : Params → PySem.W.Frag} (hn : l.most = some 63) (hdf : d.params.defaults = [])
    (hY : ∀ (w : World) (h : Heap), YP w h → (K w.params).In h)
    (F : ∀ (w : World) (mg : Str → Option Value) (fa : Addr) (h : Heap), (K w.params).In h → h.Ns mainGlobals mg → mg d.name = some (.ref fa) →
      ∃ fd : FuncData, (∀ (s : Shared) (u : Value), BindsTo s fd ⟨[u], []⟩ [("_law_script", u)]) ∧ ∀ base : Heap, (K w.params).In base → base.Ns mainGlobals mg → FnOk l.prog w (K w.params) mg base (CXg l.prog w) 12 fa fd ["_law_script"] (spLaw (K w.params))) :
    PySem.W.WalkO q loose XP YP l.row.toRowW d [] (fun f vs => PySem.call f vs) :=
  L2.walk_of (n := 63) (k := 12) (x := "_law_script") (CX := fun w => CXg l.prog w) (sp := fun w => spLaw (K w.params)) hn (by decide) hdf ⟨rfl, by decide, by decide⟩ hY F (fun _ _ a ns hl _ hS => ⟨a, ns, rfl, hS, fun _ => rfl⟩) fun _ _ _ _ _ z => by
    obtain ⟨_, _, _, _, _, _, _, _, _, _, _, _, _, _, _, z⟩ := z
    exact z
end Tw
open PySem PySem.W PyProof.Rows
set_option maxRecDepth 100000 in
set_option maxHeartbeats 0 in
theorem PySem.Challenge.cw_thirstwise_k10_refused_holds : PySem.Challenge.rw_thirstwise_k10_refused.Holds := by
  w_on; o_law
  refine PySem.W.holds_open (q := Tw.view) (loose := []) (Xt := fun s => xlAt Tw.view [] s && recOk (RowW.records (OpenRow.toRowW (OpenLaw.row PySem.Challenge.rw_thirstwise_k10_refused))) s) (XP := XL Tw.view []) (Yf := Hook.obs (PySem.W.kHook Tw.KK Tw.addrs (fun _ => by kernel_rfl))) (Ya := Hook.val (PySem.W.kHook Tw.KK Tw.addrs (fun _ => by kernel_rfl))) (YP := Hook.says (PySem.W.kHook Tw.KK Tw.addrs (fun _ => by kernel_rfl))) (N := 6810) Tw.hl (Hook.of (PySem.W.kHook Tw.KK Tw.addrs (fun _ => by kernel_rfl))) (Hook.keeps (PySem.W.kHook Tw.KK Tw.addrs (fun _ => by kernel_rfl)))
    (fun s e => xl_of s (Bool.and_eq_true_iff.mp e).1) XL.keeps (by rfl) (by rfl) (by rfl) (fun s e => recFacts_of (Bool.and_eq_true_iff.mp e).2) (by rfl) (by first | assumption | decide +kernel) (by decide +kernel) ⟨rfl, rfl, rfl, rfl, rfl, by decide +kernel⟩ ?hw ?hc
  case hw => w_witness2
  k_fill
  refine Tw.walk (l := PySem.Challenge.rw_thirstwise_k10_refused) rfl rfl (fun w h Y => PySem.W.kIn_of Y) ?F
  case F =>
    intro w mg fa h KX G hmg
    refine' Tw.all_mk KX G hmg ?z_isinstance ?z_bool ?z_int ?z_str ?z_list ?z_tuple ?z_len ?z_all ?z_set ?z_zip ?z_reversed ?z_range ?z_ValueError ?n_ln ?n_mg ?n_mp ?n_mc ?n_mw ?n_ms ?n_gErr ?n_badPot ?n_badRow ?n_tooMany ?n_noState ?n_noPot ?n_badDay ?n_pot ?n_cactus ?n_garden ?ne ?aWh ?lWh ?cWh ?kWh ?aNm ?lNm ?cNm ?kNm ?aPI ?iPI ?lPI ?cPI ?kPI ?aPG ?iPG ?lPG ?cPG ?kPG ?aCI ?iCI ?lCI ?cCI ?kCI ?aCG ?iCG ?lCG ?cCG ?kCG ?aOwn ?lOwn ?cOwn ?kOwn ?aCnt ?lCnt ?cCnt ?kCnt ?aTwc ?lTwc ?cTwc ?kTwc ?aGI ?iGI ?lGI ?cGI ?kGI ?lT ?aSz ?iSz ?lSz ?cSz ?kSz ?aCan ?lCan ?cCan ?kCan ?aPlc ?lPlc ?cPlc ?kPlc ?aWG ?lWG ?cWG ?kWG ?aJoi ?lJoi ?cJoi ?kJoi ?aCel ?lCel ?cCel ?kCel ?aSor ?lSor ?cSor ?kSor ?aKin ?lKin ?cKin ?kKin ?aLP ?lLP ?cLP ?kLP ?aLG ?lLG ?cLG ?kLG ?aRig ?lRig ?cRig ?kRig ?aChg ?lChg ?cChg ?kChg ?aLaw ?lLaw ?cLaw ?kLaw ?gt ?tk ?pg_pot ?hd_pot ?po_pot ?sa_pot ?ha_pot ?hm_pot ?no_pot_bool ?no_pot_int ?no_pot_str ?no_pot_list ?no_pot_tuple ?mk_pot ?kc_pot ?pg_cactus ?hd_cactus ?po_cactus ?sa_cactus ?ha_cactus ?hm_cactus ?no_cactus_bool ?no_cactus_int ?no_cactus_str ?no_cactus_list ?no_cactus_tuple ?mk_cactus ?kc_cactus ?pg_garden ?hd_garden ?po_garden ?sa_garden ?ha_garden ?hm_garden ?no_garden_bool ?no_garden_int ?no_garden_str ?no_garden_list ?no_garden_tuple ?mk_garden ?kc_garden ?na_pot_name ?na_pot_gap ?na_pot_rest ?na_cactus_name ?na_cactus_gap ?na_cactus_rest ?na_garden_pots ?na_garden_cans ?na_garden_week ?na_garden_closed ?rdP ?gaP ?atP ?kpp ?kcp ?kb_NoneType ?kb_bool ?kb_int ?kb_str ?kb_list ?kb_tuple ?ex_badPot ?xg_badPot ?xk_badPot ?xc_badPot ?xa_badPot ?xo_badPot ?xb_badPot ?x0_badPot ?x1_badPot ?x2_badPot ?x3_badPot ?x4_badPot ?x5_badPot ?xv_badPot ?xm_badPot ?ex_tooMany ?xg_tooMany ?xk_tooMany ?xc_tooMany ?xa_tooMany ?xo_tooMany ?xb_tooMany ?x0_tooMany ?x1_tooMany ?x2_tooMany ?x3_tooMany ?x4_tooMany ?x5_tooMany ?xv_tooMany ?xm_tooMany ?ex_noPot ?xg_noPot ?xk_noPot ?xc_noPot ?xa_noPot ?xo_noPot ?xb_noPot ?x0_noPot ?x1_noPot ?x2_noPot ?x3_noPot ?x4_noPot ?x5_noPot ?xv_noPot ?xm_noPot
    (case z_isinstance => k_is)
    (case z_bool => k_is)
    (case z_int => k_is)
    (case z_str => k_is)
    (case z_list => k_is)
    (case z_tuple => k_is)
    (case z_len => k_is)
    (case z_all => k_is)
    (case z_set => k_is)
    (case z_zip => k_is)
    (case z_reversed => k_is)
    (case z_range => k_is)
    (case z_ValueError => k_is)
    (case n_ln => k_is)
    (case n_mg => k_is)
    (case n_mp => k_is)
    (case n_mc => k_is)
    (case n_mw => k_is)
    (case n_ms => k_is)
    (case n_gErr => k_is)
    (case n_badPot => k_is)
    (case n_badRow => k_is)
    (case n_tooMany => k_is)
    (case n_noState => k_is)
    (case n_noPot => k_is)
    (case n_badDay => k_is)
    (case n_pot => k_is)
    (case n_cactus => k_is)
    (case n_garden => k_is)
    (case ne => decide)
    (case aWh => k_is)
    (case lWh => k_is)
    (case cWh => k_is)
    (case kWh => k_is)
    (case aNm => k_is)
    (case lNm => k_is)
    (case cNm => k_is)
    (case kNm => k_is)
    (case aPI => k_is)
    (case iPI => k_is)
    (case lPI => k_is)
    (case cPI => k_is)
    (case kPI => k_is)
    (case aPG => k_is)
    (case iPG => k_is)
    (case lPG => k_is)
    (case cPG => k_is)
    (case kPG => k_is)
    (case aCI => k_is)
    (case iCI => k_is)
    (case lCI => k_is)
    (case cCI => k_is)
    (case kCI => k_is)
    (case aCG => k_is)
    (case iCG => k_is)
    (case lCG => k_is)
    (case cCG => k_is)
    (case kCG => k_is)
    (case aOwn => k_is)
    (case lOwn => k_is)
    (case cOwn => k_is)
    (case kOwn => k_is)
    (case aCnt => k_is)
    (case lCnt => k_is)
    (case cCnt => k_is)
    (case kCnt => k_is)
    (case aTwc => k_is)
    (case lTwc => k_is)
    (case cTwc => k_is)
    (case kTwc => k_is)
    (case aGI => k_is)
    (case iGI => k_is)
    (case lGI => k_is)
    (case cGI => k_is)
    (case kGI => k_is)
    (case lT => k_is)
    (case aSz => k_is)
    (case iSz => k_is)
    (case lSz => k_is)
    (case cSz => k_is)
    (case kSz => k_is)
    (case aCan => k_is)
    (case lCan => k_is)
    (case cCan => k_is)
    (case kCan => k_is)
    (case aPlc => k_is)
    (case lPlc => k_is)
    (case cPlc => k_is)
    (case kPlc => k_is)
    (case aWG => k_is)
    (case lWG => k_is)
    (case cWG => k_is)
    (case kWG => k_is)
    (case aJoi => k_is)
    (case lJoi => k_is)
    (case cJoi => k_is)
    (case kJoi => k_is)
    (case aCel => k_is)
    (case lCel => k_is)
    (case cCel => k_is)
    (case kCel => k_is)
    (case aSor => k_is)
    (case lSor => k_is)
    (case cSor => k_is)
    (case kSor => k_is)
    (case aKin => k_is)
    (case lKin => k_is)
    (case cKin => k_is)
    (case kKin => k_is)
    (case aLP => k_is)
    (case lLP => k_is)
    (case cLP => k_is)
    (case kLP => k_is)
    (case aLG => k_is)
    (case lLG => k_is)
    (case cLG => k_is)
    (case kLG => k_is)
    (case aRig => k_is)
    (case lRig => k_is)
    (case cRig => k_is)
    (case kRig => k_is)
    (case aChg => k_is)
    (case lChg => k_is)
    (case cChg => k_is)
    (case kChg => k_is)
    (case aLaw => k_is)
    (case lLaw => k_is)
    (case cLaw => k_is)
    (case kLaw => k_is)
    (case gt => k_is)
    (case tk => k_is)
    (case pg_pot => k_is)
    (case hd_pot => k_is)
    (case po_pot => k_is)
    (case sa_pot => k_is)
    (case ha_pot => k_is)
    (case hm_pot => k_is)
    (case no_pot_bool => kit_is)
    (case no_pot_int => kit_is)
    (case no_pot_str => kit_is)
    (case no_pot_list => kit_is)
    (case no_pot_tuple => kit_is)
    (case mk_pot => k_is)
    (case kc_pot => k_is)
    (case pg_cactus => k_is)
    (case hd_cactus => k_is)
    (case po_cactus => k_is)
    (case sa_cactus => k_is)
    (case ha_cactus => k_is)
    (case hm_cactus => k_is)
    (case no_cactus_bool => kit_is)
    (case no_cactus_int => kit_is)
    (case no_cactus_str => kit_is)
    (case no_cactus_list => kit_is)
    (case no_cactus_tuple => kit_is)
    (case mk_cactus => k_is)
    (case kc_cactus => k_is)
    (case pg_garden => k_is)
    (case hd_garden => k_is)
    (case po_garden => k_is)
    (case sa_garden => k_is)
    (case ha_garden => k_is)
    (case hm_garden => k_is)
    (case no_garden_bool => kit_is)
    (case no_garden_int => kit_is)
    (case no_garden_str => kit_is)
    (case no_garden_list => kit_is)
    (case no_garden_tuple => kit_is)
    (case mk_garden => k_is)
    (case kc_garden => k_is)
    (case na_pot_name => k_is)
    (case na_pot_gap => k_is)
    (case na_pot_rest => k_is)
    (case na_cactus_name => k_is)
    (case na_cactus_gap => k_is)
    (case na_cactus_rest => k_is)
    (case na_garden_pots => k_is)
    (case na_garden_cans => k_is)
    (case na_garden_week => k_is)
    (case na_garden_closed => k_is)
    (case rdP => k_is)
    (case gaP => k_is)
    (case atP => k_is)
    (case kpp => kit_is)
    (case kcp => kit_is)
    (case kb_NoneType => kit_is)
    (case kb_bool => kit_is)
    (case kb_int => kit_is)
    (case kb_str => kit_is)
    (case kb_list => kit_is)
    (case kb_tuple => kit_is)
    (case ex_badPot => k_exc)
    (case xg_badPot => k_is)
    (case xk_badPot => k_is)
    (case xc_badPot => k_is)
    (case xa_badPot => k_is)
    (case xo_badPot => k_is)
    (case xb_badPot => k_is)
    (case x0_badPot => kit_is)
    (case x1_badPot => kit_is)
    (case x2_badPot => kit_is)
    (case x3_badPot => kit_is)
    (case x4_badPot => kit_is)
    (case x5_badPot => kit_is)
    (case xv_badPot => kit_is)
    (case xm_badPot => kts_exm)
    (case ex_tooMany => k_exc)
    (case xg_tooMany => k_is)
    (case xk_tooMany => k_is)
    (case xc_tooMany => k_is)
    (case xa_tooMany => k_is)
    (case xo_tooMany => k_is)
    (case xb_tooMany => k_is)
    (case x0_tooMany => kit_is)
    (case x1_tooMany => kit_is)
    (case x2_tooMany => kit_is)
    (case x3_tooMany => kit_is)
    (case x4_tooMany => kit_is)
    (case x5_tooMany => kit_is)
    (case xv_tooMany => kit_is)
    (case xm_tooMany => kts_exm)
    (case ex_noPot => k_exc)
    (case xg_noPot => k_is)
    (case xk_noPot => k_is)
    (case xc_noPot => k_is)
    (case xa_noPot => k_is)
    (case xo_noPot => k_is)
    (case xb_noPot => k_is)
    (case x0_noPot => kit_is)
    (case x1_noPot => kit_is)
    (case x2_noPot => kit_is)
    (case x3_noPot => kit_is)
    (case x4_noPot => kit_is)
    (case x5_noPot => kit_is)
    (case xv_noPot => kit_is)
    (case xm_noPot => kts_exm)
