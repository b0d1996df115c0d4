import PyProof.Rows.All
import Wide.All
import Wide.FinOn
import OpenK.KLine
import KE.KIsAll
import KE.RegKIsAll
import KE.RegKTryMore
import OpenK.KOwn
import KE.KRevIter
import KE.KRevSl
import KE.KItem
import KE.KxBytes
import Lean
import PyProof.EqAt
import PyProof.EqKinds
import PyProof.TupleCall
import PyProof.DictRoadsH
import PyProof.DictKinds
import PyProof.AttrMiss
import PyProof.IsiH_list
import PyProof.ListNew
import PyProof.FactsAll.dict
import KE.KLam
import KE.KMinKey
import PyProof.Rows.TupTab
import KE.KNest
import PyProof.Rows.SumAny
import PySem.Challenge.RW_thirstwise_k05_whole_wants
set_option compiler.extract_closed false
set_option genSizeOf false
set_option bootstrap.genMatcherCode false
noncomputable section
set_option Elab.async false
set_option linter.all false
set_option maxRecDepth 1000000
set_option maxHeartbeats 0
theorem zau0a (h:True:=by rfl):True:=trivial
abbrev zau0:=zau0a._auto_1
theorem zau1a (h:True:=by decide):True:=trivial
abbrev zau1:=zau1a._auto_1
theorem zau2a (h:True:=by first | exact .inl rfl | exact .inr rfl | assumption):True:=trivial
abbrev zau2:=zau2a._auto_1
theorem zau3a (h:True:=by intro _; rfl):True:=trivial
abbrev zau3:=zau3a._auto_1
theorem zau4a (h:True:=by with_unfolding_all rfl):True:=trivial
abbrev zau4:=zau4a._auto_1
theorem zau5a (h:True:=by first | exact Or.inl rfl | exact Or.inr (Or.inl rfl) | exact Or.inr (Or.inr rfl)):True:=trivial
abbrev zau5:=zau5a._auto_1
open PySem.W (CodeHd FnAt InstAt KitX Looks binds_K callWith_K callWith_K0 cellsFrom_some clsIn codeIn codeRec_of emptyDict envX excIn exmOne findCls findIn findObj fnOf handedIn hasDictIn instObj isFn keepIn kia_one kitOne kitx_dict kitx_list kla_fn kla_obj lookIn looks_findIn makesIn methodCall_KW methodObj mg_none_of mg_of mroIn nsIn nsOkIn plainGet plainGet_of plainOver readsIn specialIn subIn tabObj tailIn takerIn takesIn)
open List (Pairwise all_append all_cons all_eq_true all_map any_cons append_assoc append_nil countP_cons count_append count_cons ext_getElem? filterMap_cons filterMap_map filter_append flatMap_cons foldl_append foldl_cons getD length_append length_cons length_drop length_filter_le length_map length_range length_replicate length_set length_take length_zip lookup_cons map_append map_congr_left map_cons map_map map_nil map_set mem_append mem_append_left mem_append_right mem_cons mem_cons_of_mem mem_cons_self mem_filter mem_filterMap mem_map mem_nil_iff mem_of_getElem? mem_range mem_singleton nil_append nodup_append nodup_cons not_mem_nil of_mem_zip range_succ size_toArray sum_append sum_cons sum_nil take_append_drop take_length take_zero)
open PyProof.Rows (boot_all boot_any boot_dict boot_int boot_isinstance boot_list boot_max boot_set boot_sum callWith_type1)
abbrev aj := @PySem.wpAny_bind
abbrev ao := @PySem.wpAny_pure
abbrev dh := @PySem.codeAny_mono
abbrev aq := @PySem.Heap.get?_push_of_some
abbrev aN := @PySem.Heap.get?_push_size
abbrev aD := @List.getElem?_eq_some_iff
abbrev aA := @List.getElem?_eq_getElem
abbrev aF := @List.getElem?_map
abbrev au := @List.length_map
abbrev bx := @List.length_append
abbrev cg := @List.length_range
abbrev aL := @List.mem_singleton
abbrev bh := @List.mem_map
abbrev cN := @List.range_succ
abbrev aH := @List.mem_of_getElem?
abbrev aO := @decide_eq_true
abbrev aP := @decide_eq_false
abbrev aM := @Nat.le_refl
abbrev cM := @Nat.lt_irrefl
abbrev bH := @Nat.le_trans
abbrev cu := @Int.le_refl
abbrev bN := @Option.some.inj
abbrev bA := @Option.map_eq_some_iff
abbrev cU := @Nat.zero_le
abbrev aY := @List.map_append
abbrev fG := @List.map_map
abbrev cj := @List.map_cons
abbrev bO := @List.take_length
abbrev aQ := @List.mem_cons
abbrev aZ := @Nat.lt_of_lt_of_le
abbrev dj := @Int.natCast_nonneg
abbrev cZ := @List.append_nil
abbrev aC := PySem.Value
abbrev aB := PySem.Addr
abbrev aV := PySem.Shared
abbrev bZ := PySem.Program
abbrev d7 := PySem.FuncData
abbrev dB := PySem.Around
abbrev cX := PySem.Stmt
abbrev Fg := PySem.W.Frag
namespace L2
open PySem
def inClass (s:cX) (j:Nat):cX:=match s with
 | .ClassDef _ _ _ body _ _ _ _ _ _ _=>body.getD j (.Pass ⟨0,0,0,0⟩)
 | _=>.Pass ⟨0,0,0,0⟩
def jO (s:cX):Arguments:=match s with
 | .FunctionDef _ a _ _ _ _ _ _ _ _=>a
 | _=>{ posonlyargs:=[],args:=[],vararg:=none,kwonlyargs:=[],kw_defaults:=[],kwarg:=none,defaults:=[] }
def fQ (s:cX):List cX:=match s with
 | .FunctionDef _ _ b _ _ _ _ _ _ _=>b
 | _=>[]
def aW (s:cX):Scope:=match s with
 | .FunctionDef _ _ _ _ _ _ sc _ _ _=>sc
 | _=>{ kind:=.function,names:=[],isGenerator:=false,isCoroutine:=false }
end L2
namespace Tw
open PySem PySem.W L2
abbrev PW:bZ:=PySem.Challenge.pw_thirstwise_k05_whole_wants
def top (i:Nat):cX:=PySem.Challenge.pw_thirstwise_k05_whole_wants.main.body.getD i (.Pass ⟨0,0,0,0⟩)
noncomputable section
abbrev SS (s:String):Str:=Str.ofString s
abbrev VS (s:String) (n:Nat):aC:=Value.str (Str.ofString s) n
abbrev cP (n:Nat):aC:=Value.str (Str.ofString "/claim/cut.py") n
abbrev KH (P:Params) (s:Str):=PyData.keyHash P s
abbrev dE (P:Params) (s:String) (n:Nat) (v:aC):DictEntry:={ hash:=PyData.keyHash P (Str.ofString s),key:=Value.str (Str.ofString s) n,val:=v }
abbrev tU (a:Array aC):Obj:={ cls:=.type "tuple",data:=.seq a }
abbrev cO (a:Array aC):Obj:={ cls:=.type "code",data:=.fields a }
abbrev fR (a:Array (Option aC)):Obj:={ cls:=.type "frame",slots:=a }
abbrev dO (a:Array DictEntry) (n:Nat):Obj:={ cls:=.type "dict",data:=.dict a n }
noncomputable abbrev fO (n q:String) (s:cX) (dv m:aC) (c:Nat):Obj:={ cls:=.type "function",data:=.func { name:=Str.ofString n,qualname:=Str.ofString q,params:=jO s,body:=FuncBody.stmts (fQ s),scope:=aW s,globals:=3,closure:=[],defaults:=dv,kwdefaults:=.none,pyModule:=m,code:=.ref c } }
noncomputable abbrev fB (n q:String) (s:cX):Obj:={ cls:=.none,data:=.func { name:=SS n,qualname:=SS q,params:=jO s,body:=FuncBody.stmts (fQ s),scope:=aW s,globals:=0,closure:=[],defaults:=.none,kwdefaults:=.none } }
abbrev tB (a:Array aC):Obj:={ cls:=.none,data:=.fields a }
abbrev i0 (n:Int):aC:=.int n 0
abbrev lF (o:Obj):BT:=.node o .nil .nil
abbrev nD (o:Obj) (l r:BT):BT:=.node o l r
noncomputable abbrev awq (P:Params):Obj:=dO #[dE P "__name__" 165 (VS "thirstwise.pots" 347),dE P "__doc__" 166 .none,dE P "__package__" 167 .none,dE P "__loader__" 168 (.builtin "__main__.__loader__#opaque"),dE P "__spec__" 169 .none,dE P "__annotations__" 170 (.ref 6),dE P "__builtins__" 171 (.ref 4),dE P "__file__" 173 (cP 172),dE P "__cached__" 174 .none,dE P "_wall" 193 (.ref 21),dE P "is_whole" 204 (.ref 28),dE P "is_set" 212 (.ref 35),dE P "GardenError" 232 (.ref 45),dE P "BadPot" 248 (.ref 58),dE P "BadRow" 273 (.ref 77),dE P "TooMany" 289 (.ref 89),dE P "NoState" 305 (.ref 101),dE P "NoPot" 321 (.ref 113),dE P "BadDay" 346 (.ref 132),dE P "LONGEST_NAME" 350 (.int 12 349),dE P "MOST_GAP" 352 (.int 60 351),dE P "is_name" 358 (.ref 139),dE P "Pot" 419 (.ref 184)] 23
noncomputable abbrev abE (P:Params):Obj:=dO #[dE P "__name__" 165 (VS "law_thirstwise_k05_whole_wants" 741),dE P "__doc__" 166 .none,dE P "__package__" 167 .none,dE P "__loader__" 168 (.builtin "__main__.__loader__#opaque"),dE P "__spec__" 169 .none,dE P "__annotations__" 170 (.ref 6),dE P "__builtins__" 171 (.ref 4),dE P "__file__" 173 (cP 172),dE P "__cached__" 174 .none,dE P "_wall" 193 (.ref 21),dE P "is_whole" 204 (.ref 28),dE P "is_set" 212 (.ref 35),dE P "GardenError" 232 (.ref 45),dE P "BadPot" 248 (.ref 58),dE P "BadRow" 273 (.ref 77),dE P "TooMany" 289 (.ref 89),dE P "NoState" 305 (.ref 101),dE P "NoPot" 321 (.ref 113),dE P "BadDay" 346 (.ref 132),dE P "LONGEST_NAME" 350 (.int 12 349),dE P "MOST_GAP" 352 (.int 60 351),dE P "is_name" 358 (.ref 139),dE P "Pot" 419 (.ref 184),dE P "Cactus" 476 (.ref 233),dE P "MOST_POTS" 480 (.int 8 479),dE P "MOST_CANS" 482 (.int 8 481),dE P "MOST_WEEK" 484 (.int 14 483),dE P "MOST_STATES" 486 (.int 20000 485),dE P "own_pots" 492 (.ref 240),dE P "refuse_bad_counts" 502 (.ref 247),dE P "refuse_name_twice" 508 (.ref 252),dE P "is_state" 514 (.ref 257),dE P "refuse_no_state" 522 (.ref 264),dE P "Garden" 598 (.ref 308),dE P "with_cans" 606 (.ref 319),dE P "place_of" 612 (.ref 324),dE P "with_gap" 623 (.ref 331),dE P "cans_on" 633 (.ref 338),dE P "day_behind" 641 (.ref 345),dE P "without_water" 647 (.ref 350),dE P "with_water" 653 (.ref 355),dE P "choices" 659 (.ref 360),dE P "roads" 667 (.ref 365),dE P "table" 673 (.ref 370),dE P "told_or_fresh" 681 (.ref 377),dE P "days_of" 690 (.ref 385),dE P "least_for_ever" 704 (.ref 392),dE P "fewest_cans" 712 (.ref 399),dE P "least_gap" 723 (.ref 406),dE P "common_divisor" 734 (.ref 413),dE P "load" 740 (.ref 418),dE P "_law_cell_at" 750 (.ref 425),dE P "_law_draw" 761 (.ref 432),dE P "_law_spec" 781 (.ref 439),dE P "_law_garden" 792 (.ref 446),dE P "_law_same" 798 (.ref 451),dE P "_law_cans_due" 806 (.ref 458),dE P "_law_gap_due" 819 (.ref 465),dE P "_law_sorts" 827 (.ref 472),dE P "_law_refused" 836 (.ref 479),dE P "_law_load" 842 (.ref 484),dE P "law" 858 (.ref 491)] 62
abbrev o11:Obj:=tU #[]
abbrev o12:Obj:=tB #[]
noncomputable abbrev alg:Obj:=tB #[i0 1,i0 0,.ref 20,i0 5,i0 0,.ref 27,i0 9,i0 0,.ref 34,i0 12,i0 0,.ref 41,i0 14,i0 0,.ref 54,i0 16,i0 0,.ref 66,i0 21,i0 0,.ref 85,i0 23,i0 0,.ref 97,i0 25,i0 0,.ref 109,i0 27,i0 0,.ref 121,i0 35,i0 0,.ref 138,i0 39,i0 0,.ref 145]
noncomputable abbrev Y9:Obj:=tB #[i0 1,i0 0,.ref 20,i0 5,i0 0,.ref 27,i0 9,i0 0,.ref 34,i0 12,i0 0,.ref 41,i0 14,i0 0,.ref 54,i0 16,i0 0,.ref 66,i0 21,i0 0,.ref 85,i0 23,i0 0,.ref 97,i0 25,i0 0,.ref 109,i0 27,i0 0,.ref 121,i0 35,i0 0,.ref 138,i0 39,i0 0,.ref 145,i0 60,i0 0,.ref 194,i0 84,i0 0,.ref 239,i0 91,i0 0,.ref 246,i0 100,i0 0,.ref 251,i0 103,i0 0,.ref 256,i0 113,i0 0,.ref 263,i0 116,i0 0,.ref 270,i0 154,i0 0,.ref 318,i0 156,i0 0,.ref 323,i0 161,i0 0,.ref 330,i0 167,i0 0,.ref 337,i0 169,i0 0,.ref 344,i0 171,i0 0,.ref 349,i0 175,i0 0,.ref 354,i0 179,i0 0,.ref 359,i0 190,i0 0,.ref 364,i0 201,i0 0,.ref 369,i0 219,i0 0,.ref 376,i0 224,i0 0,.ref 384,i0 228,i0 0,.ref 391,i0 240,i0 0,.ref 398,i0 242,i0 0,.ref 405,i0 245,i0 0,.ref 412,i0 253,i0 0,.ref 417,i0 261,i0 0,.ref 424,i0 265,i0 0,.ref 431,i0 269,i0 0,.ref 438,i0 297,i0 0,.ref 445,i0 305,i0 0,.ref 450,i0 309,i0 0,.ref 457,i0 314,i0 0,.ref 464,i0 321,i0 0,.ref 471,i0 324,i0 0,.ref 478,i0 330,i0 0,.ref 483,i0 341,i0 0,.ref 490]
abbrev o13:Obj:=cO #[VS "<module>" 182,VS "<module>" 183,cP 184,i0 1,i0 0,i0 0,i0 0,i0 0,.ref 11,.bool false,i0 181,.ref 12,.none,.none,.none,.none,i0 185,i0 1,cP 186]
abbrev o14:Obj:=fR #[some (.ref 13),some (.ref 3),some (.ref 3),none,some (VS "__main__" 164),none,some (.ref 0)]
abbrev o15:Obj:=tU #[]
abbrev o16:Obj:=tB #[]
abbrev o17:Obj:=tU #[VS "k" 190]
abbrev o18:Obj:=tU #[]
abbrev o19:Obj:=fB "_wall" "_wall" (top 0)
abbrev o20:Obj:=cO #[VS "_wall" 187,VS "_wall" 188,cP 189,i0 1,i0 1,i0 0,i0 0,i0 3,.ref 15,.bool true,i0 181,.ref 16,.none,.ref 17,.ref 18,.ref 19,i0 191,i0 1,cP 192]
abbrev o21:Obj:=fO "_wall" "_wall" (top 0) .none (VS "__main__" 164) 20
abbrev o22:Obj:=tU #[]
abbrev o23:Obj:=tB #[]
abbrev o24:Obj:=tU #[VS "value" 199,VS "least" 200,VS "most" 201]
abbrev o25:Obj:=tU #[]
abbrev o26:Obj:=fB "is_whole" "is_whole" (top 2)
abbrev o27:Obj:=cO #[VS "is_whole" 196,VS "is_whole" 197,cP 198,i0 5,i0 3,i0 0,i0 0,i0 3,.ref 22,.bool true,i0 181,.ref 23,.none,.ref 24,.ref 25,.ref 26,i0 202,i0 5,cP 203]
abbrev o28:Obj:=fO "is_whole" "is_whole" (top 2) .none (VS "thirstwise.checks" 194) 27
abbrev o29:Obj:=tU #[]
abbrev o30:Obj:=tB #[]
abbrev o31:Obj:=tU #[VS "number" 208,VS "bit" 209]
abbrev o32:Obj:=tU #[]
abbrev o33:Obj:=fB "is_set" "is_set" (top 3)
abbrev o34:Obj:=cO #[VS "is_set" 205,VS "is_set" 206,cP 207,i0 9,i0 2,i0 0,i0 0,i0 3,.ref 29,.bool true,i0 181,.ref 30,.none,.ref 31,.ref 32,.ref 33,i0 210,i0 9,cP 211]
abbrev o35:Obj:=fO "is_set" "is_set" (top 3) .none (VS "thirstwise.checks" 194) 34
abbrev o36:Obj:=tU #[.type "ValueError"]
abbrev o37:Obj:={ cls:=.type "builtin_function_or_method",data:=.fields #[.builtin "type.__prepare__",.type "type"] }
noncomputable abbrev o38 (P:Params):Obj:=dO #[dE P "__module__" 222 (VS "thirstwise.errors" 213),dE P "__qualname__" 224 (VS "GardenError" 223),dE P "__firstlineno__" 226 (.int 12 225),dE P "__static_attributes__" 227 (.ref 43)] 4
abbrev o39:Obj:=tU #[]
abbrev o40:Obj:=tB #[]
abbrev o41:Obj:=cO #[VS "GardenError" 217,VS "GardenError" 218,cP 219,i0 12,i0 0,i0 0,i0 0,i0 0,.ref 39,.bool false,i0 181,.ref 40,.none,.none,.none,.none,i0 220,i0 12,cP 221]
abbrev o42:Obj:=fR #[some (.ref 41),some (.ref 3),some (.ref 38),none,some (VS "thirstwise.errors" 213),none,some (.ref 0)]
abbrev o43:Obj:=tU #[]
noncomputable abbrev o44 (P:Params):Obj:=dO #[dE P "__module__" 222 (VS "thirstwise.errors" 213),dE P "__firstlineno__" 226 (.int 12 225),dE P "__static_attributes__" 227 (.ref 43),dE P "__weakref__" 229 (.ref 46),dE P "__doc__" 230 .none] 3
noncomputable abbrev o45:Obj:={ cls:=.type "type",data:=.cls { name:=SS "GardenError",bases:=[.type "ValueError"],mro:=[.ref 45,.type "ValueError",.type "Exception",.type "BaseException",.type "object"],ns:=44,qualname:=SS "GardenError",subclasses:=[.ref 58,.ref 77,.ref 89,.ref 101,.ref 113,.ref 132] },slots:=#[some (.ref 36),none,some (VS "GardenError" 215),some (VS "GardenError" 223),some (.builtin "ValueError.__new__"),some (.bool true)] }
abbrev o46:Obj:={ cls:=.type "getset_descriptor",data:=.fields #[VS "__weakref__" 228,.ref 45,.builtin "ExceptionGroup.__weakref__",.none] }
abbrev o47:Obj:={ cls:=.type "super",data:=.fields #[.ref 45,.ref 45,.ref 45] }
abbrev o48:Obj:={ cls:=.type "builtin_function_or_method",data:=.fields #[.builtin "object.__init_subclass__",.ref 45] }
abbrev o49:Obj:=tU #[.ref 45]
abbrev o50:Obj:={ cls:=.type "builtin_function_or_method",data:=.fields #[.builtin "type.__prepare__",.type "type"] }
noncomputable abbrev o51 (P:Params):Obj:=dO #[dE P "__module__" 240 (VS "thirstwise.errors" 213),dE P "__qualname__" 242 (VS "BadPot" 241),dE P "__firstlineno__" 244 (.int 14 243),dE P "__static_attributes__" 245 (.ref 56)] 4
abbrev o52:Obj:=tU #[]
abbrev o53:Obj:=tB #[]
abbrev o54:Obj:=cO #[VS "BadPot" 235,VS "BadPot" 236,cP 237,i0 14,i0 0,i0 0,i0 0,i0 0,.ref 52,.bool false,i0 181,.ref 53,.none,.none,.none,.none,i0 238,i0 14,cP 239]
abbrev o55:Obj:=fR #[some (.ref 54),some (.ref 3),some (.ref 51),none,some (VS "thirstwise.errors" 213),none,some (.ref 0)]
abbrev o56:Obj:=tU #[]
abbrev o57 (P:Params):Obj:=dO #[dE P "__module__" 240 (VS "thirstwise.errors" 213),dE P "__firstlineno__" 244 (.int 14 243),dE P "__static_attributes__" 245 (.ref 56),dE P "__doc__" 246 .none] 2
noncomputable abbrev o58:Obj:={ cls:=.type "type",data:=.cls { name:=SS "BadPot",bases:=[.ref 45],mro:=[.ref 58,.ref 45,.type "ValueError",.type "Exception",.type "BaseException",.type "object"],ns:=57,qualname:=SS "BadPot" },slots:=#[some (.ref 49),none,some (VS "BadPot" 233),some (VS "BadPot" 241),some (.builtin "ValueError.__new__"),some (.bool true)] }
abbrev o59:Obj:={ cls:=.type "super",data:=.fields #[.ref 58,.ref 58,.ref 58] }
abbrev o60:Obj:={ cls:=.type "builtin_function_or_method",data:=.fields #[.builtin "object.__init_subclass__",.ref 58] }
abbrev o61:Obj:=tU #[.ref 45]
abbrev o62:Obj:={ cls:=.type "builtin_function_or_method",data:=.fields #[.builtin "type.__prepare__",.type "type"] }
noncomputable abbrev o63 (P:Params):Obj:=dO #[dE P "__module__" 256 (VS "thirstwise.errors" 213),dE P "__qualname__" 258 (VS "BadRow" 257),dE P "__firstlineno__" 260 (.int 16 259),dE P "__init__" 268 (.ref 74),dE P "__static_attributes__" 270 (.ref 75)] 5
abbrev o64:Obj:=tU #[]
abbrev o65:Obj:=tB #[i0 18,i0 4,.ref 73]
abbrev o66:Obj:=cO #[VS "BadRow" 251,VS "BadRow" 252,cP 253,i0 16,i0 0,i0 0,i0 0,i0 0,.ref 64,.bool false,i0 181,.ref 65,.none,.none,.none,.none,i0 254,i0 16,cP 255]
abbrev o67:Obj:=fR #[some (.ref 66),some (.ref 3),some (.ref 63),none,some (VS "thirstwise.errors" 213),none,some (.ref 0)]
abbrev o68:Obj:=tU #[]
abbrev o69:Obj:=tB #[]
abbrev o70:Obj:=tU #[VS "self" 264,VS "row" 265]
abbrev o71:Obj:=tU #[]
abbrev o72:Obj:=fB "__init__" "BadRow.__init__" (inClass (top 7) 0)
abbrev o73:Obj:=cO #[VS "__init__" 261,VS "BadRow.__init__" 262,cP 263,i0 18,i0 2,i0 0,i0 0,i0 3,.ref 68,.bool true,i0 181,.ref 69,.none,.ref 70,.ref 71,.ref 72,i0 266,i0 18,cP 267]
abbrev o74:Obj:=fO "__init__" "BadRow.__init__" (inClass (top 7) 0) .none (VS "thirstwise.errors" 213) 73
abbrev o75:Obj:=tU #[VS "row" 269]
noncomputable abbrev o76 (P:Params):Obj:=dO #[dE P "__module__" 256 (VS "thirstwise.errors" 213),dE P "__firstlineno__" 260 (.int 16 259),dE P "__init__" 268 (.ref 74),dE P "__static_attributes__" 270 (.ref 75),dE P "__doc__" 271 .none] 2
noncomputable abbrev o77:Obj:={ cls:=.type "type",data:=.cls { name:=SS "BadRow",bases:=[.ref 45],mro:=[.ref 77,.ref 45,.type "ValueError",.type "Exception",.type "BaseException",.type "object"],ns:=76,qualname:=SS "BadRow" },slots:=#[some (.ref 61),none,some (VS "BadRow" 249),some (VS "BadRow" 257),some (.builtin "ValueError.__new__"),some (.bool true)] }
abbrev o78:Obj:={ cls:=.type "super",data:=.fields #[.ref 77,.ref 77,.ref 77] }
abbrev o79:Obj:={ cls:=.type "builtin_function_or_method",data:=.fields #[.builtin "object.__init_subclass__",.ref 77] }
abbrev o80:Obj:=tU #[.ref 45]
abbrev o81:Obj:={ cls:=.type "builtin_function_or_method",data:=.fields #[.builtin "type.__prepare__",.type "type"] }
noncomputable abbrev o82 (P:Params):Obj:=dO #[dE P "__module__" 281 (VS "thirstwise.errors" 213),dE P "__qualname__" 283 (VS "TooMany" 282),dE P "__firstlineno__" 285 (.int 21 284),dE P "__static_attributes__" 286 (.ref 87)] 4
abbrev o83:Obj:=tU #[]
abbrev o84:Obj:=tB #[]
abbrev o85:Obj:=cO #[VS "TooMany" 276,VS "TooMany" 277,cP 278,i0 21,i0 0,i0 0,i0 0,i0 0,.ref 83,.bool false,i0 181,.ref 84,.none,.none,.none,.none,i0 279,i0 21,cP 280]
abbrev o86:Obj:=fR #[some (.ref 85),some (.ref 3),some (.ref 82),none,some (VS "thirstwise.errors" 213),none,some (.ref 0)]
abbrev o87:Obj:=tU #[]
abbrev o88 (P:Params):Obj:=dO #[dE P "__module__" 281 (VS "thirstwise.errors" 213),dE P "__firstlineno__" 285 (.int 21 284),dE P "__static_attributes__" 286 (.ref 87),dE P "__doc__" 287 .none] 2
noncomputable abbrev o89:Obj:={ cls:=.type "type",data:=.cls { name:=SS "TooMany",bases:=[.ref 45],mro:=[.ref 89,.ref 45,.type "ValueError",.type "Exception",.type "BaseException",.type "object"],ns:=88,qualname:=SS "TooMany" },slots:=#[some (.ref 80),none,some (VS "TooMany" 274),some (VS "TooMany" 282),some (.builtin "ValueError.__new__"),some (.bool true)] }
abbrev o90:Obj:={ cls:=.type "super",data:=.fields #[.ref 89,.ref 89,.ref 89] }
abbrev o91:Obj:={ cls:=.type "builtin_function_or_method",data:=.fields #[.builtin "object.__init_subclass__",.ref 89] }
abbrev o92:Obj:=tU #[.ref 45]
abbrev o93:Obj:={ cls:=.type "builtin_function_or_method",data:=.fields #[.builtin "type.__prepare__",.type "type"] }
noncomputable abbrev o94 (P:Params):Obj:=dO #[dE P "__module__" 297 (VS "thirstwise.errors" 213),dE P "__qualname__" 299 (VS "NoState" 298),dE P "__firstlineno__" 301 (.int 23 300),dE P "__static_attributes__" 302 (.ref 99)] 4
abbrev o95:Obj:=tU #[]
abbrev o96:Obj:=tB #[]
abbrev o97:Obj:=cO #[VS "NoState" 292,VS "NoState" 293,cP 294,i0 23,i0 0,i0 0,i0 0,i0 0,.ref 95,.bool false,i0 181,.ref 96,.none,.none,.none,.none,i0 295,i0 23,cP 296]
abbrev o98:Obj:=fR #[some (.ref 97),some (.ref 3),some (.ref 94),none,some (VS "thirstwise.errors" 213),none,some (.ref 0)]
abbrev o99:Obj:=tU #[]
abbrev o100 (P:Params):Obj:=dO #[dE P "__module__" 297 (VS "thirstwise.errors" 213),dE P "__firstlineno__" 301 (.int 23 300),dE P "__static_attributes__" 302 (.ref 99),dE P "__doc__" 303 .none] 2
noncomputable abbrev Vy:Obj:={ cls:=.type "type",data:=.cls { name:=SS "NoState",bases:=[.ref 45],mro:=[.ref 101,.ref 45,.type "ValueError",.type "Exception",.type "BaseException",.type "object"],ns:=100,qualname:=SS "NoState" },slots:=#[some (.ref 92),none,some (VS "NoState" 290),some (VS "NoState" 298),some (.builtin "ValueError.__new__"),some (.bool true)] }
abbrev abF:Obj:={ cls:=.type "super",data:=.fields #[.ref 101,.ref 101,.ref 101] }
abbrev abG:Obj:={ cls:=.type "builtin_function_or_method",data:=.fields #[.builtin "object.__init_subclass__",.ref 101] }
abbrev Vz:Obj:=tU #[.ref 45]
abbrev abH:Obj:={ cls:=.type "builtin_function_or_method",data:=.fields #[.builtin "type.__prepare__",.type "type"] }
noncomputable abbrev abI (P:Params):Obj:=dO #[dE P "__module__" 313 (VS "thirstwise.errors" 213),dE P "__qualname__" 315 (VS "NoPot" 314),dE P "__firstlineno__" 317 (.int 25 316),dE P "__static_attributes__" 318 (.ref 111)] 4
abbrev abJ:Obj:=tU #[]
abbrev abK:Obj:=tB #[]
abbrev abL:Obj:=cO #[VS "NoPot" 308,VS "NoPot" 309,cP 310,i0 25,i0 0,i0 0,i0 0,i0 0,.ref 107,.bool false,i0 181,.ref 108,.none,.none,.none,.none,i0 311,i0 25,cP 312]
abbrev abM:Obj:=fR #[some (.ref 109),some (.ref 3),some (.ref 106),none,some (VS "thirstwise.errors" 213),none,some (.ref 0)]
abbrev o111:Obj:=tU #[]
abbrev VB (P:Params):Obj:=dO #[dE P "__module__" 313 (VS "thirstwise.errors" 213),dE P "__firstlineno__" 317 (.int 25 316),dE P "__static_attributes__" 318 (.ref 111),dE P "__doc__" 319 .none] 2
noncomputable abbrev VD:Obj:={ cls:=.type "type",data:=.cls { name:=SS "NoPot",bases:=[.ref 45],mro:=[.ref 113,.ref 45,.type "ValueError",.type "Exception",.type "BaseException",.type "object"],ns:=112,qualname:=SS "NoPot" },slots:=#[some (.ref 104),none,some (VS "NoPot" 306),some (VS "NoPot" 314),some (.builtin "ValueError.__new__"),some (.bool true)] }
abbrev abN:Obj:={ cls:=.type "super",data:=.fields #[.ref 113,.ref 113,.ref 113] }
abbrev abO:Obj:={ cls:=.type "builtin_function_or_method",data:=.fields #[.builtin "object.__init_subclass__",.ref 113] }
abbrev VF:Obj:=tU #[.ref 45]
abbrev abP:Obj:={ cls:=.type "builtin_function_or_method",data:=.fields #[.builtin "type.__prepare__",.type "type"] }
noncomputable abbrev abQ (P:Params):Obj:=dO #[dE P "__module__" 329 (VS "thirstwise.errors" 213),dE P "__qualname__" 331 (VS "BadDay" 330),dE P "__firstlineno__" 333 (.int 27 332),dE P "__init__" 341 (.ref 129),dE P "__static_attributes__" 343 (.ref 130)] 5
abbrev abR:Obj:=tU #[]
abbrev abS:Obj:=tB #[i0 29,i0 4,.ref 128]
abbrev abT:Obj:=cO #[VS "BadDay" 324,VS "BadDay" 325,cP 326,i0 27,i0 0,i0 0,i0 0,i0 0,.ref 119,.bool false,i0 181,.ref 120,.none,.none,.none,.none,i0 327,i0 27,cP 328]
abbrev abU:Obj:=fR #[some (.ref 121),some (.ref 3),some (.ref 118),none,some (VS "thirstwise.errors" 213),none,some (.ref 0)]
abbrev VG:Obj:=tU #[]
abbrev abV:Obj:=tB #[]
abbrev VH:Obj:=tU #[VS "self" 337,VS "day" 338]
abbrev VJ:Obj:=tU #[]
abbrev abW:Obj:=fB "__init__" "BadDay.__init__" (inClass (top 11) 0)
abbrev VL:Obj:=cO #[VS "__init__" 334,VS "BadDay.__init__" 335,cP 336,i0 29,i0 2,i0 0,i0 0,i0 3,.ref 123,.bool true,i0 181,.ref 124,.none,.ref 125,.ref 126,.ref 127,i0 339,i0 29,cP 340]
abbrev VN:Obj:=fO "__init__" "BadDay.__init__" (inClass (top 11) 0) .none (VS "thirstwise.errors" 213) 128
abbrev VP:Obj:=tU #[VS "day" 342]
noncomputable abbrev VR (P:Params):Obj:=dO #[dE P "__module__" 329 (VS "thirstwise.errors" 213),dE P "__firstlineno__" 333 (.int 27 332),dE P "__init__" 341 (.ref 129),dE P "__static_attributes__" 343 (.ref 130),dE P "__doc__" 344 .none] 2
noncomputable abbrev V0:Obj:={ cls:=.type "type",data:=.cls { name:=SS "BadDay",bases:=[.ref 45],mro:=[.ref 132,.ref 45,.type "ValueError",.type "Exception",.type "BaseException",.type "object"],ns:=131,qualname:=SS "BadDay" },slots:=#[some (.ref 116),none,some (VS "BadDay" 322),some (VS "BadDay" 330),some (.builtin "ValueError.__new__"),some (.bool true)] }
abbrev abX:Obj:={ cls:=.type "super",data:=.fields #[.ref 132,.ref 132,.ref 132] }
abbrev abY:Obj:={ cls:=.type "builtin_function_or_method",data:=.fields #[.builtin "object.__init_subclass__",.ref 132] }
abbrev V1:Obj:=tU #[]
abbrev abZ:Obj:=tB #[]
abbrev ab0:Obj:=fB "is_name" "is_name" (top 15)
abbrev V2:Obj:=cO #[VS "is_name" 353,VS "is_name" 354,cP 355,i0 35,i0 1,i0 0,i0 0,i0 3,.ref 135,.bool true,i0 181,.ref 136,.none,.none,.none,.ref 137,i0 356,i0 35,cP 357]
abbrev V3:Obj:=fO "is_name" "is_name" (top 15) .none (VS "thirstwise.pots" 347) 138
abbrev ab1:Obj:=tU #[]
abbrev ab2:Obj:={ cls:=.type "builtin_function_or_method",data:=.fields #[.builtin "type.__prepare__",.type "type"] }
noncomputable abbrev ab3 (P:Params):Obj:=dO #[dE P "__module__" 366 (VS "thirstwise.pots" 347),dE P "__qualname__" 368 (VS "Pot" 367),dE P "__firstlineno__" 370 (.int 39 369),dE P "__init__" 379 (.ref 153),dE P "may" 387 (.ref 160),dE P "words" 394 (.ref 167),dE P "with_gap" 402 (.ref 174),dE P "shortest" 409 (.ref 181),dE P "__static_attributes__" 412 (.ref 182)] 9
abbrev ab4:Obj:=tU #[]
abbrev ab5:Obj:=tB #[i0 41,i0 4,.ref 152,i0 49,i0 4,.ref 159,i0 52,i0 4,.ref 166,i0 55,i0 4,.ref 173,i0 58,i0 4,.ref 180]
abbrev ab6:Obj:=cO #[VS "Pot" 361,VS "Pot" 362,cP 363,i0 39,i0 0,i0 0,i0 0,i0 0,.ref 143,.bool false,i0 181,.ref 144,.none,.none,.none,.none,i0 364,i0 39,cP 365]
abbrev ab7:Obj:=fR #[some (.ref 145),some (.ref 3),some (.ref 142),none,some (VS "thirstwise.pots" 347),none,some (.ref 0)]
abbrev V4:Obj:=tU #[]
abbrev ab8:Obj:=tB #[]
abbrev V5:Obj:=tU #[VS "self" 374,VS "name" 375,VS "gap" 376]
abbrev V6:Obj:=tU #[]
abbrev ab9:Obj:=fB "__init__" "Pot.__init__" (inClass (top 16) 0)
abbrev V7:Obj:=cO #[VS "__init__" 371,VS "Pot.__init__" 372,cP 373,i0 41,i0 3,i0 0,i0 0,i0 3,.ref 147,.bool true,i0 181,.ref 148,.none,.ref 149,.ref 150,.ref 151,i0 377,i0 41,cP 378]
abbrev V8:Obj:=fO "__init__" "Pot.__init__" (inClass (top 16) 0) .none (VS "thirstwise.pots" 347) 152
abbrev V9:Obj:=tU #[]
abbrev acd:Obj:=tB #[]
abbrev Wa:Obj:=tU #[VS "self" 383,VS "since" 384]
abbrev Wb:Obj:=tU #[]
abbrev ace:Obj:=fB "may" "Pot.may" (inClass (top 16) 1)
abbrev Wc:Obj:=cO #[VS "may" 380,VS "Pot.may" 381,cP 382,i0 49,i0 2,i0 0,i0 0,i0 3,.ref 154,.bool true,i0 181,.ref 155,.none,.ref 156,.ref 157,.ref 158,i0 385,i0 49,cP 386]
abbrev Wd:Obj:=fO "may" "Pot.may" (inClass (top 16) 1) .none (VS "thirstwise.pots" 347) 159
abbrev Wf:Obj:=tU #[]
abbrev acf:Obj:=tB #[]
abbrev Wg:Obj:=tU #[VS "self" 391]
abbrev Wh:Obj:=tU #[]
abbrev acg:Obj:=fB "words" "Pot.words" (inClass (top 16) 2)
abbrev Wi:Obj:=cO #[VS "words" 388,VS "Pot.words" 389,cP 390,i0 52,i0 1,i0 0,i0 0,i0 3,.ref 161,.bool true,i0 181,.ref 162,.none,.ref 163,.ref 164,.ref 165,i0 392,i0 52,cP 393]
abbrev ach:Obj:=fO "words" "Pot.words" (inClass (top 16) 2) .none (VS "thirstwise.pots" 347) 166
abbrev Wj:Obj:=tU #[]
abbrev aci:Obj:=tB #[]
abbrev Wk:Obj:=tU #[VS "self" 398,VS "gap" 399]
abbrev Wl:Obj:=tU #[]
abbrev acj:Obj:=fB "with_gap" "Pot.with_gap" (inClass (top 16) 3)
abbrev Wm:Obj:=cO #[VS "with_gap" 395,VS "Pot.with_gap" 396,cP 397,i0 55,i0 2,i0 0,i0 0,i0 3,.ref 168,.bool true,i0 181,.ref 169,.none,.ref 170,.ref 171,.ref 172,i0 400,i0 55,cP 401]
abbrev Wn:Obj:=fO "with_gap" "Pot.with_gap" (inClass (top 16) 3) .none (VS "thirstwise.pots" 347) 173
abbrev Wo:Obj:=tU #[]
abbrev acn:Obj:=tB #[]
abbrev Wq:Obj:=tU #[VS "self" 406]
abbrev Wr:Obj:=tU #[]
abbrev aco:Obj:=fB "shortest" "Pot.shortest" (inClass (top 16) 4)
abbrev Ws:Obj:=cO #[VS "shortest" 403,VS "Pot.shortest" 404,cP 405,i0 58,i0 1,i0 0,i0 0,i0 3,.ref 175,.bool true,i0 181,.ref 176,.none,.ref 177,.ref 178,.ref 179,i0 407,i0 58,cP 408]
abbrev Wt:Obj:=fO "shortest" "Pot.shortest" (inClass (top 16) 4) .none (VS "thirstwise.pots" 347) 180
abbrev Wu:Obj:=tU #[VS "gap" 410,VS "name" 411]
noncomputable abbrev Wv (P:Params):Obj:=dO #[dE P "__module__" 366 (VS "thirstwise.pots" 347),dE P "__firstlineno__" 370 (.int 39 369),dE P "__init__" 379 (.ref 153),dE P "may" 387 (.ref 160),dE P "words" 394 (.ref 167),dE P "with_gap" 402 (.ref 174),dE P "shortest" 409 (.ref 181),dE P "__static_attributes__" 412 (.ref 182),dE P "__dict__" 414 (.ref 185),dE P "__weakref__" 416 (.ref 186),dE P "__doc__" 417 .none] 4
noncomputable abbrev axc:Obj:={ cls:=.type "type",data:=.cls { name:=SS "Pot",bases:=[.type "object"],mro:=[.ref 184,.type "object"],ns:=183,qualname:=SS "Pot" },slots:=#[none,none,some (VS "Pot" 359),some (VS "Pot" 367),some (.builtin "object.__new__"),some (.bool true)] }
noncomputable abbrev HS:Obj:={ cls:=.type "type",data:=.cls { name:=SS "Pot",bases:=[.type "object"],mro:=[.ref 184,.type "object"],ns:=183,qualname:=SS "Pot",subclasses:=[.ref 233] },slots:=#[none,none,some (VS "Pot" 359),some (VS "Pot" 367),some (.builtin "object.__new__"),some (.bool true)] }
abbrev Ww:Obj:={ cls:=.type "getset_descriptor",data:=.fields #[VS "__dict__" 413,.ref 184,.builtin "function.__dict__",.builtin "function.__dict__#set"] }
abbrev Wx:Obj:={ cls:=.type "getset_descriptor",data:=.fields #[VS "__weakref__" 415,.ref 184,.builtin "ExceptionGroup.__weakref__",.none] }
abbrev acp:Obj:={ cls:=.type "super",data:=.fields #[.ref 184,.ref 184,.ref 184] }
abbrev acq:Obj:={ cls:=.type "builtin_function_or_method",data:=.fields #[.builtin "object.__init_subclass__",.ref 184] }
abbrev acr:Obj:=tU #[.ref 184]
abbrev alj:Obj:={ cls:=.type "builtin_function_or_method",data:=.fields #[.builtin "type.__prepare__",.type "type"] }
noncomputable abbrev alk (P:Params):Obj:=dO #[dE P "__module__" 427 (VS "thirstwise.pots" 347),dE P "__qualname__" 429 (VS "Cactus" 428),dE P "__firstlineno__" 431 (.int 60 430),dE P "__init__" 441 (.ref 202),dE P "may" 449 (.ref 209),dE P "words" 456 (.ref 216),dE P "with_gap" 464 (.ref 223),dE P "shortest" 471 (.ref 230),dE P "__static_attributes__" 473 (.ref 231)] 9
abbrev alm:Obj:=tU #[]
abbrev aln:Obj:=tB #[i0 62,i0 4,.ref 201,i0 68,i0 4,.ref 208,i0 71,i0 4,.ref 215,i0 74,i0 4,.ref 222,i0 77,i0 4,.ref 229]
abbrev alo:Obj:=cO #[VS "Cactus" 422,VS "Cactus" 423,cP 424,i0 60,i0 0,i0 0,i0 0,i0 0,.ref 192,.bool false,i0 181,.ref 193,.none,.none,.none,.none,i0 425,i0 60,cP 426]
abbrev alp:Obj:=fR #[some (.ref 194),some (.ref 3),some (.ref 191),none,some (VS "thirstwise.pots" 347),none,some (.ref 0)]
abbrev acs:Obj:=tU #[]
abbrev alq:Obj:=tB #[]
abbrev acu:Obj:=tU #[VS "self" 435,VS "name" 436,VS "gap" 437,VS "rest" 438]
abbrev acv:Obj:=tU #[]
abbrev o200:Obj:=fB "__init__" "Cactus.__init__" (inClass (top 17) 0)
abbrev acw:Obj:=cO #[VS "__init__" 432,VS "Cactus.__init__" 433,cP 434,i0 62,i0 4,i0 0,i0 0,i0 3,.ref 196,.bool true,i0 181,.ref 197,.none,.ref 198,.ref 199,.ref 200,i0 439,i0 62,cP 440]
abbrev acy:Obj:=fO "__init__" "Cactus.__init__" (inClass (top 17) 0) .none (VS "thirstwise.pots" 347) 201
abbrev acz:Obj:=tU #[]
abbrev alr:Obj:=tB #[]
abbrev acA:Obj:=tU #[VS "self" 445,VS "since" 446]
abbrev acB:Obj:=tU #[]
abbrev als:Obj:=fB "may" "Cactus.may" (inClass (top 17) 1)
abbrev acC:Obj:=cO #[VS "may" 442,VS "Cactus.may" 443,cP 444,i0 68,i0 2,i0 0,i0 0,i0 3,.ref 203,.bool true,i0 181,.ref 204,.none,.ref 205,.ref 206,.ref 207,i0 447,i0 68,cP 448]
abbrev acD:Obj:=fO "may" "Cactus.may" (inClass (top 17) 1) .none (VS "thirstwise.pots" 347) 208
abbrev acE:Obj:=tU #[]
abbrev alu:Obj:=tB #[]
abbrev acF:Obj:=tU #[VS "self" 453]
abbrev acG:Obj:=tU #[]
abbrev alv:Obj:=fB "words" "Cactus.words" (inClass (top 17) 2)
abbrev acH:Obj:=cO #[VS "words" 450,VS "Cactus.words" 451,cP 452,i0 71,i0 1,i0 0,i0 0,i0 3,.ref 210,.bool true,i0 181,.ref 211,.none,.ref 212,.ref 213,.ref 214,i0 454,i0 71,cP 455]
abbrev alw:Obj:=fO "words" "Cactus.words" (inClass (top 17) 2) .none (VS "thirstwise.pots" 347) 215
abbrev acI:Obj:=tU #[]
abbrev alx:Obj:=tB #[]
abbrev acJ:Obj:=tU #[VS "self" 460,VS "gap" 461]
abbrev acK:Obj:=tU #[]
abbrev aly:Obj:=fB "with_gap" "Cactus.with_gap" (inClass (top 17) 3)
abbrev acL:Obj:=cO #[VS "with_gap" 457,VS "Cactus.with_gap" 458,cP 459,i0 74,i0 2,i0 0,i0 0,i0 3,.ref 217,.bool true,i0 181,.ref 218,.none,.ref 219,.ref 220,.ref 221,i0 462,i0 74,cP 463]
abbrev acM:Obj:=fO "with_gap" "Cactus.with_gap" (inClass (top 17) 3) .none (VS "thirstwise.pots" 347) 222
abbrev acN:Obj:=tU #[]
abbrev alz:Obj:=tB #[]
abbrev acO:Obj:=tU #[VS "self" 468]
abbrev acP:Obj:=tU #[]
abbrev alA:Obj:=fB "shortest" "Cactus.shortest" (inClass (top 17) 4)
abbrev acQ:Obj:=cO #[VS "shortest" 465,VS "Cactus.shortest" 466,cP 467,i0 77,i0 1,i0 0,i0 0,i0 3,.ref 224,.bool true,i0 181,.ref 225,.none,.ref 226,.ref 227,.ref 228,i0 469,i0 77,cP 470]
abbrev acR:Obj:=fO "shortest" "Cactus.shortest" (inClass (top 17) 4) .none (VS "thirstwise.pots" 347) 229
abbrev acS:Obj:=tU #[VS "rest" 472]
noncomputable abbrev acT (P:Params):Obj:=dO #[dE P "__module__" 427 (VS "thirstwise.pots" 347),dE P "__firstlineno__" 431 (.int 60 430),dE P "__init__" 441 (.ref 202),dE P "may" 449 (.ref 209),dE P "words" 456 (.ref 216),dE P "with_gap" 464 (.ref 223),dE P "shortest" 471 (.ref 230),dE P "__static_attributes__" 473 (.ref 231),dE P "__doc__" 474 .none] 2
noncomputable abbrev acU:Obj:={ cls:=.type "type",data:=.cls { name:=SS "Cactus",bases:=[.ref 184],mro:=[.ref 233,.ref 184,.type "object"],ns:=232,qualname:=SS "Cactus" },slots:=#[some (.ref 189),none,some (VS "Cactus" 420),some (VS "Cactus" 428),some (.builtin "object.__new__"),some (.bool true)] }
abbrev alB:Obj:={ cls:=.type "super",data:=.fields #[.ref 233,.ref 233,.ref 233] }
abbrev alC:Obj:={ cls:=.type "builtin_function_or_method",data:=.fields #[.builtin "object.__init_subclass__",.ref 233] }
abbrev acV:Obj:=tU #[]
abbrev alD:Obj:=tB #[]
abbrev alE:Obj:=fB "own_pots" "own_pots" (top 23)
abbrev acW:Obj:=cO #[VS "own_pots" 487,VS "own_pots" 488,cP 489,i0 84,i0 1,i0 0,i0 0,i0 3,.ref 236,.bool true,i0 181,.ref 237,.none,.none,.none,.ref 238,i0 490,i0 84,cP 491]
abbrev acX:Obj:=fO "own_pots" "own_pots" (top 23) .none (VS "thirstwise.gardens" 477) 239
abbrev acY:Obj:=tU #[]
abbrev alF:Obj:=tB #[]
abbrev acZ:Obj:=tU #[VS "pots" 496,VS "cans" 497,VS "week" 498,VS "closed" 499]
abbrev ac0:Obj:=tU #[]
abbrev alG:Obj:=fB "refuse_bad_counts" "refuse_bad_counts" (top 24)
abbrev ac2:Obj:=cO #[VS "refuse_bad_counts" 493,VS "refuse_bad_counts" 494,cP 495,i0 91,i0 4,i0 0,i0 0,i0 3,.ref 241,.bool true,i0 181,.ref 242,.none,.ref 243,.ref 244,.ref 245,i0 500,i0 91,cP 501]
abbrev ac3:Obj:=fO "refuse_bad_counts" "refuse_bad_counts" (top 24) .none (VS "thirstwise.gardens" 477) 246
abbrev ac4:Obj:=tU #[]
abbrev alH:Obj:=tB #[]
abbrev alI:Obj:=fB "refuse_name_twice" "refuse_name_twice" (top 25)
abbrev ac5:Obj:=cO #[VS "refuse_name_twice" 503,VS "refuse_name_twice" 504,cP 505,i0 100,i0 1,i0 0,i0 0,i0 3,.ref 248,.bool true,i0 181,.ref 249,.none,.none,.none,.ref 250,i0 506,i0 100,cP 507]
abbrev ac6:Obj:=fO "refuse_name_twice" "refuse_name_twice" (top 25) .none (VS "thirstwise.gardens" 477) 251
abbrev ac7:Obj:=tU #[]
abbrev alJ:Obj:=tB #[]
abbrev alK:Obj:=fB "is_state" "is_state" (top 26)
abbrev ac8:Obj:=cO #[VS "is_state" 509,VS "is_state" 510,cP 511,i0 103,i0 2,i0 0,i0 0,i0 3,.ref 253,.bool true,i0 181,.ref 254,.none,.none,.none,.ref 255,i0 512,i0 103,cP 513]
abbrev ac9:Obj:=fO "is_state" "is_state" (top 26) .none (VS "thirstwise.gardens" 477) 256
abbrev ada:Obj:=tU #[]
abbrev alL:Obj:=tB #[]
abbrev adb:Obj:=tU #[VS "garden" 518,VS "value" 519]
abbrev ade:Obj:=tU #[]
abbrev alM:Obj:=fB "refuse_no_state" "refuse_no_state" (top 27)
abbrev adf:Obj:=cO #[VS "refuse_no_state" 515,VS "refuse_no_state" 516,cP 517,i0 113,i0 2,i0 0,i0 0,i0 3,.ref 258,.bool true,i0 181,.ref 259,.none,.ref 260,.ref 261,.ref 262,i0 520,i0 113,cP 521]
abbrev adg:Obj:=fO "refuse_no_state" "refuse_no_state" (top 27) .none (VS "thirstwise.gardens" 477) 263
abbrev alN:Obj:=tU #[]
abbrev alO:Obj:={ cls:=.type "builtin_function_or_method",data:=.fields #[.builtin "type.__prepare__",.type "type"] }
noncomputable abbrev alP (P:Params):Obj:=dO #[dE P "__module__" 530 (VS "thirstwise.gardens" 477),dE P "__qualname__" 532 (VS "Garden" 531),dE P "__firstlineno__" 534 (.int 116 533),dE P "__init__" 549 (.ref 279),dE P "size" 558 (.ref 286),dE P "number" 569 (.ref 293),dE P "state" 580 (.ref 300),dE P "fresh" 586 (.ref 305),dE P "__static_attributes__" 591 (.ref 306)] 9
abbrev alQ:Obj:=tU #[]
abbrev alR:Obj:=tB #[i0 118,i0 4,.ref 278,i0 129,i0 4,.ref 285,i0 135,i0 4,.ref 292,i0 142,i0 4,.ref 299,i0 152,i0 4,.ref 304]
abbrev alS:Obj:=cO #[VS "Garden" 525,VS "Garden" 526,cP 527,i0 116,i0 0,i0 0,i0 0,i0 0,.ref 268,.bool false,i0 181,.ref 269,.none,.none,.none,.none,i0 528,i0 116,cP 529]
abbrev alT:Obj:=fR #[some (.ref 270),some (.ref 3),some (.ref 267),none,some (VS "thirstwise.gardens" 477),none,some (.ref 0)]
abbrev adh:Obj:=tU #[.int 1 535,.int 1 536,.int 0 537]
abbrev adi:Obj:=tU #[]
abbrev alU:Obj:=tB #[]
abbrev adk:Obj:=tU #[VS "self" 541,VS "pots" 542,VS "cans" 543,VS "week" 544,VS "closed" 545,VS "copies" 546]
abbrev adl:Obj:=tU #[]
abbrev alV:Obj:=fB "__init__" "Garden.__init__" (inClass (top 28) 0)
abbrev adn:Obj:=cO #[VS "__init__" 538,VS "Garden.__init__" 539,cP 540,i0 118,i0 5,i0 0,i0 0,i0 3,.ref 273,.bool true,i0 181,.ref 274,.none,.ref 275,.ref 276,.ref 277,i0 547,i0 118,cP 548]
abbrev ado:Obj:=fO "__init__" "Garden.__init__" (inClass (top 28) 0) (.ref 272) (VS "thirstwise.gardens" 477) 278
abbrev adp:Obj:=tU #[]
abbrev alW:Obj:=tB #[]
abbrev adq:Obj:=tU #[VS "self" 553,VS "states" 554,VS "pot" 555]
abbrev adt:Obj:=tU #[]
abbrev alX:Obj:=fB "size" "Garden.size" (inClass (top 28) 1)
abbrev adu:Obj:=cO #[VS "size" 550,VS "Garden.size" 551,cP 552,i0 129,i0 1,i0 0,i0 0,i0 3,.ref 280,.bool true,i0 181,.ref 281,.none,.ref 282,.ref 283,.ref 284,i0 556,i0 129,cP 557]
abbrev adv:Obj:=fO "size" "Garden.size" (inClass (top 28) 1) .none (VS "thirstwise.gardens" 477) 285
abbrev adw:Obj:=tU #[]
abbrev alY:Obj:=tB #[]
abbrev adx:Obj:=tU #[VS "self" 562,VS "state" 563,VS "count" 564,VS "days" 565,VS "pot" 566]
abbrev ady:Obj:=tU #[]
abbrev alZ:Obj:=fB "number" "Garden.number" (inClass (top 28) 2)
abbrev adz:Obj:=cO #[VS "number" 559,VS "Garden.number" 560,cP 561,i0 135,i0 2,i0 0,i0 0,i0 3,.ref 287,.bool true,i0 181,.ref 288,.none,.ref 289,.ref 290,.ref 291,i0 567,i0 135,cP 568]
abbrev adA:Obj:=fO "number" "Garden.number" (inClass (top 28) 2) .none (VS "thirstwise.gardens" 477) 292
abbrev adB:Obj:=tU #[]
abbrev al0:Obj:=tB #[]
abbrev adC:Obj:=tU #[VS "self" 573,VS "number" 574,VS "left" 575,VS "since" 576,VS "pot" 577]
abbrev adD:Obj:=tU #[]
abbrev al1:Obj:=fB "state" "Garden.state" (inClass (top 28) 3)
abbrev adE:Obj:=cO #[VS "state" 570,VS "Garden.state" 571,cP 572,i0 142,i0 2,i0 0,i0 0,i0 3,.ref 294,.bool true,i0 181,.ref 295,.none,.ref 296,.ref 297,.ref 298,i0 578,i0 142,cP 579]
abbrev o300:Obj:=fO "state" "Garden.state" (inClass (top 28) 3) .none (VS "thirstwise.gardens" 477) 299
abbrev adF:Obj:=tU #[]
abbrev al2:Obj:=tB #[]
abbrev al3:Obj:=fB "fresh" "Garden.fresh" (inClass (top 28) 4)
abbrev adG:Obj:=cO #[VS "fresh" 581,VS "Garden.fresh" 582,cP 583,i0 152,i0 1,i0 0,i0 0,i0 3,.ref 301,.bool true,i0 181,.ref 302,.none,.none,.none,.ref 303,i0 584,i0 152,cP 585]
abbrev adH:Obj:=fO "fresh" "Garden.fresh" (inClass (top 28) 4) .none (VS "thirstwise.gardens" 477) 304
abbrev adI:Obj:=tU #[VS "cans" 587,VS "closed" 588,VS "pots" 589,VS "week" 590]
noncomputable abbrev adJ (P:Params):Obj:=dO #[dE P "__module__" 530 (VS "thirstwise.gardens" 477),dE P "__firstlineno__" 534 (.int 116 533),dE P "__init__" 549 (.ref 279),dE P "size" 558 (.ref 286),dE P "number" 569 (.ref 293),dE P "state" 580 (.ref 300),dE P "fresh" 586 (.ref 305),dE P "__static_attributes__" 591 (.ref 306),dE P "__dict__" 593 (.ref 309),dE P "__weakref__" 595 (.ref 310),dE P "__doc__" 596 .none] 4
noncomputable abbrev adK:Obj:={ cls:=.type "type",data:=.cls { name:=SS "Garden",bases:=[.type "object"],mro:=[.ref 308,.type "object"],ns:=307,qualname:=SS "Garden" },slots:=#[none,none,some (VS "Garden" 523),some (VS "Garden" 531),some (.builtin "object.__new__"),some (.bool true)] }
abbrev adL:Obj:={ cls:=.type "getset_descriptor",data:=.fields #[VS "__dict__" 592,.ref 308,.builtin "function.__dict__",.builtin "function.__dict__#set"] }
abbrev adM:Obj:={ cls:=.type "getset_descriptor",data:=.fields #[VS "__weakref__" 594,.ref 308,.builtin "ExceptionGroup.__weakref__",.none] }
abbrev al4:Obj:={ cls:=.type "super",data:=.fields #[.ref 308,.ref 308,.ref 308] }
abbrev al5:Obj:={ cls:=.type "builtin_function_or_method",data:=.fields #[.builtin "object.__init_subclass__",.ref 308] }
abbrev adN:Obj:=tU #[]
abbrev al6:Obj:=tB #[]
abbrev adO:Obj:=tU #[VS "garden" 602,VS "cans" 603]
abbrev adP:Obj:=tU #[]
abbrev al7:Obj:=fB "with_cans" "with_cans" (top 29)
abbrev adQ:Obj:=cO #[VS "with_cans" 599,VS "with_cans" 600,cP 601,i0 154,i0 2,i0 0,i0 0,i0 3,.ref 313,.bool true,i0 181,.ref 314,.none,.ref 315,.ref 316,.ref 317,i0 604,i0 154,cP 605]
abbrev adR:Obj:=fO "with_cans" "with_cans" (top 29) .none (VS "thirstwise.gardens" 477) 318
abbrev adS:Obj:=tU #[]
abbrev al8:Obj:=tB #[]
abbrev al9:Obj:=fB "place_of" "place_of" (top 30)
abbrev adT:Obj:=cO #[VS "place_of" 607,VS "place_of" 608,cP 609,i0 156,i0 2,i0 0,i0 0,i0 3,.ref 320,.bool true,i0 181,.ref 321,.none,.none,.none,.ref 322,i0 610,i0 156,cP 611]
abbrev adU:Obj:=fO "place_of" "place_of" (top 30) .none (VS "thirstwise.gardens" 477) 323
abbrev adV:Obj:=tU #[]
abbrev ama:Obj:=tB #[]
abbrev adW:Obj:=tU #[VS "garden" 616,VS "name" 617,VS "gap" 618,VS "place" 619,VS "pots" 620]
abbrev adX:Obj:=tU #[]
abbrev amb:Obj:=fB "with_gap" "with_gap" (top 31)
abbrev adY:Obj:=cO #[VS "with_gap" 613,VS "with_gap" 614,cP 615,i0 161,i0 3,i0 0,i0 0,i0 3,.ref 325,.bool true,i0 181,.ref 326,.none,.ref 327,.ref 328,.ref 329,i0 621,i0 161,cP 622]
abbrev adZ:Obj:=fO "with_gap" "with_gap" (top 31) .none (VS "thirstwise.gardens" 477) 330
abbrev ad0:Obj:=tU #[]
abbrev amc:Obj:=tB #[]
abbrev ad1:Obj:=tU #[VS "garden" 629,VS "day" 630]
abbrev ad2:Obj:=tU #[]
abbrev amd:Obj:=fB "cans_on" "cans_on" (top 33)
abbrev ad3:Obj:=cO #[VS "cans_on" 626,VS "cans_on" 627,cP 628,i0 167,i0 2,i0 0,i0 0,i0 3,.ref 332,.bool true,i0 181,.ref 333,.none,.ref 334,.ref 335,.ref 336,i0 631,i0 167,cP 632]
abbrev ad4:Obj:=fO "cans_on" "cans_on" (top 33) .none (VS "thirstwise.choices" 624) 337
abbrev ad5:Obj:=tU #[]
abbrev ame:Obj:=tB #[]
abbrev ad6:Obj:=tU #[VS "garden" 637,VS "day" 638]
abbrev ad7:Obj:=tU #[]
abbrev amf:Obj:=fB "day_behind" "day_behind" (top 34)
abbrev ad8:Obj:=cO #[VS "day_behind" 634,VS "day_behind" 635,cP 636,i0 169,i0 2,i0 0,i0 0,i0 3,.ref 339,.bool true,i0 181,.ref 340,.none,.ref 341,.ref 342,.ref 343,i0 639,i0 169,cP 640]
abbrev ad9:Obj:=fO "day_behind" "day_behind" (top 34) .none (VS "thirstwise.choices" 624) 344
abbrev aea:Obj:=tU #[]
abbrev amg:Obj:=tB #[]
abbrev amh:Obj:=fB "without_water" "without_water" (top 35)
abbrev aeb:Obj:=cO #[VS "without_water" 642,VS "without_water" 643,cP 644,i0 171,i0 3,i0 0,i0 0,i0 3,.ref 346,.bool true,i0 181,.ref 347,.none,.none,.none,.ref 348,i0 645,i0 171,cP 646]
abbrev aec:Obj:=fO "without_water" "without_water" (top 35) .none (VS "thirstwise.choices" 624) 349
abbrev aed:Obj:=tU #[]
abbrev ami:Obj:=tB #[]
abbrev amj:Obj:=fB "with_water" "with_water" (top 36)
abbrev aee:Obj:=cO #[VS "with_water" 648,VS "with_water" 649,cP 650,i0 175,i0 4,i0 0,i0 0,i0 3,.ref 351,.bool true,i0 181,.ref 352,.none,.none,.none,.ref 353,i0 651,i0 175,cP 652]
abbrev aef:Obj:=fO "with_water" "with_water" (top 36) .none (VS "thirstwise.choices" 624) 354
abbrev aeg:Obj:=tU #[]
abbrev amk:Obj:=tB #[]
abbrev aml:Obj:=fB "choices" "choices" (top 37)
abbrev aeh:Obj:=cO #[VS "choices" 654,VS "choices" 655,cP 656,i0 179,i0 2,i0 0,i0 0,i0 3,.ref 356,.bool true,i0 181,.ref 357,.none,.none,.none,.ref 358,i0 657,i0 179,cP 658]
abbrev aei:Obj:=fO "choices" "choices" (top 37) .none (VS "thirstwise.choices" 624) 359
abbrev aej:Obj:=tU #[]
abbrev amm:Obj:=tB #[]
abbrev amn:Obj:=fB "roads" "roads" (top 39)
abbrev aek:Obj:=cO #[VS "roads" 662,VS "roads" 663,cP 664,i0 190,i0 1,i0 0,i0 0,i0 3,.ref 361,.bool true,i0 181,.ref 362,.none,.none,.none,.ref 363,i0 665,i0 190,cP 666]
abbrev ael:Obj:=fO "roads" "roads" (top 39) .none (VS "thirstwise.lives" 660) 364
abbrev aem:Obj:=tU #[]
abbrev amo:Obj:=tB #[]
abbrev amq:Obj:=fB "table" "table" (top 40)
abbrev aen:Obj:=cO #[VS "table" 668,VS "table" 669,cP 670,i0 201,i0 1,i0 0,i0 0,i0 3,.ref 366,.bool true,i0 181,.ref 367,.none,.none,.none,.ref 368,i0 671,i0 201,cP 672]
abbrev aeo:Obj:=fO "table" "table" (top 40) .none (VS "thirstwise.lives" 660) 369
abbrev aep:Obj:=tU #[]
abbrev amr:Obj:=tB #[]
abbrev aer:Obj:=tU #[VS "garden" 677,VS "state" 678]
abbrev aes:Obj:=tU #[]
abbrev ams:Obj:=fB "told_or_fresh" "told_or_fresh" (top 41)
abbrev aeu:Obj:=cO #[VS "told_or_fresh" 674,VS "told_or_fresh" 675,cP 676,i0 219,i0 2,i0 0,i0 0,i0 3,.ref 371,.bool true,i0 181,.ref 372,.none,.ref 373,.ref 374,.ref 375,i0 679,i0 219,cP 680]
abbrev o377:Obj:=fO "told_or_fresh" "told_or_fresh" (top 41) .none (VS "thirstwise.lives" 660) 376
abbrev aev:Obj:=tU #[.none]
abbrev aew:Obj:=tU #[]
abbrev amt:Obj:=tB #[]
abbrev aex:Obj:=tU #[VS "garden" 685,VS "state" 686,VS "here" 687]
abbrev aey:Obj:=tU #[]
abbrev amu:Obj:=fB "days_of" "days_of" (top 42)
abbrev aez:Obj:=cO #[VS "days_of" 682,VS "days_of" 683,cP 684,i0 224,i0 2,i0 0,i0 0,i0 3,.ref 379,.bool true,i0 181,.ref 380,.none,.ref 381,.ref 382,.ref 383,i0 688,i0 224,cP 689]
abbrev aeA:Obj:=fO "days_of" "days_of" (top 42) (.ref 378) (VS "thirstwise.lives" 660) 384
abbrev aeB:Obj:=tU #[]
abbrev amv:Obj:=tB #[]
abbrev aeC:Obj:=tU #[VS "least" 696,VS "most" 697,VS "garden_with" 698,VS "low" 699,VS "high" 700,VS "middle" 701]
abbrev aeD:Obj:=tU #[]
abbrev amw:Obj:=fB "least_for_ever" "least_for_ever" (top 44)
abbrev aeE:Obj:=cO #[VS "least_for_ever" 693,VS "least_for_ever" 694,cP 695,i0 228,i0 3,i0 0,i0 0,i0 3,.ref 386,.bool true,i0 181,.ref 387,.none,.ref 388,.ref 389,.ref 390,i0 702,i0 228,cP 703]
abbrev aeF:Obj:=fO "least_for_ever" "least_for_ever" (top 44) .none (VS "thirstwise.wants" 691) 391
abbrev aeG:Obj:=tU #[]
abbrev aeH:Obj:=tB #[]
abbrev aeI:Obj:=tU #[VS "garden" 708]
abbrev aeJ:Obj:=tU #[VS "garden" 709]
abbrev amx:Obj:=fB "fewest_cans" "fewest_cans" (top 45)
abbrev aeK:Obj:=cO #[VS "fewest_cans" 705,VS "fewest_cans" 706,cP 707,i0 240,i0 1,i0 0,i0 0,i0 3,.ref 393,.bool true,i0 181,.ref 394,.none,.ref 395,.ref 396,.ref 397,i0 710,i0 240,cP 711]
abbrev aeL:Obj:=fO "fewest_cans" "fewest_cans" (top 45) .none (VS "thirstwise.wants" 691) 398
abbrev o400:Obj:=tU #[]
abbrev aeM:Obj:=tB #[]
abbrev aeN:Obj:=tU #[VS "garden" 716,VS "name" 717,VS "pot" 718]
abbrev aeO:Obj:=tU #[VS "garden" 719,VS "name" 720]
abbrev amy:Obj:=fB "least_gap" "least_gap" (top 46)
abbrev aeP:Obj:=cO #[VS "least_gap" 713,VS "least_gap" 714,cP 715,i0 242,i0 2,i0 0,i0 0,i0 3,.ref 400,.bool true,i0 181,.ref 401,.none,.ref 402,.ref 403,.ref 404,i0 721,i0 242,cP 722]
abbrev aeQ:Obj:=fO "least_gap" "least_gap" (top 46) .none (VS "thirstwise.wants" 691) 405
abbrev aeR:Obj:=tU #[]
abbrev amz:Obj:=tB #[]
abbrev aeS:Obj:=tU #[VS "one" 727,VS "other" 728,VS "larger" 729,VS "smaller" 730,VS "rest" 731]
abbrev aeT:Obj:=tU #[]
abbrev amA:Obj:=fB "common_divisor" "common_divisor" (top 47)
abbrev aeU:Obj:=cO #[VS "common_divisor" 724,VS "common_divisor" 725,cP 726,i0 245,i0 2,i0 0,i0 0,i0 3,.ref 407,.bool true,i0 181,.ref 408,.none,.ref 409,.ref 410,.ref 411,i0 732,i0 245,cP 733]
abbrev aeV:Obj:=fO "common_divisor" "common_divisor" (top 47) .none (VS "thirstwise.wants" 691) 412
abbrev aeW:Obj:=tU #[]
abbrev amB:Obj:=tB #[]
abbrev amC:Obj:=fB "load" "load" (top 48)
abbrev aeX:Obj:=cO #[VS "load" 735,VS "load" 736,cP 737,i0 253,i0 1,i0 0,i0 0,i0 3,.ref 414,.bool true,i0 181,.ref 415,.none,.none,.none,.ref 416,i0 738,i0 253,cP 739]
abbrev aeY:Obj:=fO "load" "load" (top 48) .none (VS "thirstwise.wants" 691) 417
abbrev aeZ:Obj:=tU #[]
abbrev amD:Obj:=tB #[]
abbrev ae0:Obj:=tU #[VS "_law_script" 746,VS "_law_k" 747]
abbrev ae1:Obj:=tU #[]
abbrev amE:Obj:=fB "_law_cell_at" "_law_cell_at" (top 50)
abbrev ae2:Obj:=cO #[VS "_law_cell_at" 743,VS "_law_cell_at" 744,cP 745,i0 261,i0 2,i0 0,i0 0,i0 3,.ref 419,.bool true,i0 181,.ref 420,.none,.ref 421,.ref 422,.ref 423,i0 748,i0 261,cP 749]
abbrev ae3:Obj:=fO "_law_cell_at" "_law_cell_at" (top 50) .none (VS "law_thirstwise_k05_whole_wants" 741) 424
abbrev ae4:Obj:=tU #[]
abbrev amF:Obj:=tB #[]
abbrev ae5:Obj:=tU #[VS "_law_cell" 754,VS "_law_k" 755,VS "_law_many" 756,VS "_law_primes" 757,VS "_law_blend" 758]
abbrev ae6:Obj:=tU #[]
abbrev amG:Obj:=fB "_law_draw" "_law_draw" (top 51)
abbrev ae7:Obj:=cO #[VS "_law_draw" 751,VS "_law_draw" 752,cP 753,i0 265,i0 3,i0 0,i0 0,i0 3,.ref 426,.bool true,i0 181,.ref 427,.none,.ref 428,.ref 429,.ref 430,i0 759,i0 265,cP 760]
abbrev ae8:Obj:=fO "_law_draw" "_law_draw" (top 51) .none (VS "law_thirstwise_k05_whole_wants" 741) 431
abbrev ae9:Obj:=tU #[]
abbrev amH:Obj:=tB #[]
noncomputable abbrev afa:Obj:=tU #[VS "_law_script" 765,VS "_law_first" 766,VS "_law_cell" 767,VS "_law_other" 768,VS "_law_third" 769,VS "_law_count" 770,VS "_law_most" 771,VS "_law_names" 772,VS "_law_pots" 773,VS "_law_k" 774,VS "_law_gap" 775,VS "_law_rest" 776,VS "_law_week" 777,VS "_law_closed" 778]
abbrev afb:Obj:=tU #[]
abbrev amI:Obj:=fB "_law_spec" "_law_spec" (top 52)
abbrev afc:Obj:=cO #[VS "_law_spec" 762,VS "_law_spec" 763,cP 764,i0 269,i0 2,i0 0,i0 0,i0 3,.ref 433,.bool true,i0 181,.ref 434,.none,.ref 435,.ref 436,.ref 437,i0 779,i0 269,cP 780]
abbrev afd:Obj:=fO "_law_spec" "_law_spec" (top 52) .none (VS "law_thirstwise_k05_whole_wants" 741) 438
abbrev afe:Obj:=tU #[]
abbrev amJ:Obj:=tB #[]
abbrev afg:Obj:=tU #[VS "_law_spec_here" 785,VS "_law_pots" 786,VS "_law_name" 787,VS "_law_gap" 788,VS "_law_rest" 789]
abbrev afh:Obj:=tU #[]
abbrev o444:Obj:=fB "_law_garden" "_law_garden" (top 53)
abbrev afi:Obj:=cO #[VS "_law_garden" 782,VS "_law_garden" 783,cP 784,i0 297,i0 1,i0 0,i0 0,i0 3,.ref 440,.bool true,i0 181,.ref 441,.none,.ref 442,.ref 443,.ref 444,i0 790,i0 297,cP 791]
abbrev afj:Obj:=fO "_law_garden" "_law_garden" (top 53) .none (VS "law_thirstwise_k05_whole_wants" 741) 445
abbrev afk:Obj:=tU #[]
abbrev amK:Obj:=tB #[]
abbrev amL:Obj:=fB "_law_same" "_law_same" (top 54)
abbrev afl:Obj:=cO #[VS "_law_same" 793,VS "_law_same" 794,cP 795,i0 305,i0 2,i0 0,i0 0,i0 3,.ref 447,.bool true,i0 181,.ref 448,.none,.none,.none,.ref 449,i0 796,i0 305,cP 797]
abbrev afm:Obj:=fO "_law_same" "_law_same" (top 54) .none (VS "law_thirstwise_k05_whole_wants" 741) 450
abbrev afn:Obj:=tU #[]
abbrev amM:Obj:=tB #[]
abbrev afo:Obj:=tU #[VS "_law_spec_here" 802,VS "_law_cans" 803]
abbrev afp:Obj:=tU #[]
abbrev amN:Obj:=fB "_law_cans_due" "_law_cans_due" (top 55)
abbrev afq:Obj:=cO #[VS "_law_cans_due" 799,VS "_law_cans_due" 800,cP 801,i0 309,i0 1,i0 0,i0 0,i0 3,.ref 452,.bool true,i0 181,.ref 453,.none,.ref 454,.ref 455,.ref 456,i0 804,i0 309,cP 805]
abbrev afr:Obj:=fO "_law_cans_due" "_law_cans_due" (top 55) .none (VS "law_thirstwise_k05_whole_wants" 741) 457
abbrev afs:Obj:=tU #[]
abbrev amO:Obj:=tB #[]
abbrev aft:Obj:=tU #[VS "_law_spec_here" 810,VS "_law_k" 811,VS "_law_name" 812,VS "_law_gap" 813,VS "_law_rest" 814,VS "_law_less" 815,VS "_law_pots" 816]
abbrev afu:Obj:=tU #[]
abbrev amP:Obj:=fB "_law_gap_due" "_law_gap_due" (top 56)
abbrev afv:Obj:=cO #[VS "_law_gap_due" 807,VS "_law_gap_due" 808,cP 809,i0 314,i0 2,i0 0,i0 0,i0 3,.ref 459,.bool true,i0 181,.ref 460,.none,.ref 461,.ref 462,.ref 463,i0 817,i0 314,cP 818]
abbrev afw:Obj:=fO "_law_gap_due" "_law_gap_due" (top 56) .none (VS "law_thirstwise_k05_whole_wants" 741) 464
abbrev afx:Obj:=tU #[]
abbrev amQ:Obj:=tB #[]
abbrev afy:Obj:=tU #[VS "_law_error" 823,VS "_law_found" 824]
abbrev afz:Obj:=tU #[]
abbrev amR:Obj:=fB "_law_sorts" "_law_sorts" (top 57)
abbrev afA:Obj:=cO #[VS "_law_sorts" 820,VS "_law_sorts" 821,cP 822,i0 321,i0 1,i0 0,i0 0,i0 3,.ref 466,.bool true,i0 181,.ref 467,.none,.ref 468,.ref 469,.ref 470,i0 825,i0 321,cP 826]
abbrev afB:Obj:=fO "_law_sorts" "_law_sorts" (top 57) .none (VS "law_thirstwise_k05_whole_wants" 741) 471
abbrev afC:Obj:=tU #[]
abbrev amS:Obj:=tB #[]
abbrev afD:Obj:=tU #[VS "_law_garden_here" 831,VS "_law_name" 832,VS "_law_error" 833]
abbrev afE:Obj:=tU #[]
abbrev amT:Obj:=fB "_law_refused" "_law_refused" (top 58)
abbrev afF:Obj:=cO #[VS "_law_refused" 828,VS "_law_refused" 829,cP 830,i0 324,i0 2,i0 0,i0 0,i0 3,.ref 473,.bool true,i0 181,.ref 474,.none,.ref 475,.ref 476,.ref 477,i0 834,i0 324,cP 835]
abbrev afG:Obj:=fO "_law_refused" "_law_refused" (top 58) .none (VS "law_thirstwise_k05_whole_wants" 741) 478
abbrev afH:Obj:=tU #[]
abbrev amU:Obj:=tB #[]
abbrev amV:Obj:=fB "_law_load" "_law_load" (top 59)
abbrev afI:Obj:=cO #[VS "_law_load" 837,VS "_law_load" 838,cP 839,i0 330,i0 1,i0 0,i0 0,i0 3,.ref 480,.bool true,i0 181,.ref 481,.none,.none,.none,.ref 482,i0 840,i0 330,cP 841]
abbrev afJ:Obj:=fO "_law_load" "_law_load" (top 59) .none (VS "law_thirstwise_k05_whole_wants" 741) 483
abbrev afK:Obj:=tU #[]
abbrev amW:Obj:=tB #[]
noncomputable abbrev afL:Obj:=tU #[VS "_law_script" 846,VS "_law_spec_here" 847,VS "_law_garden_here" 848,VS "_law_cans" 849,VS "_law_k" 850,VS "_law_name" 851,VS "_law_gap" 852,VS "_law_rest" 853,VS "_law_more" 854,VS "_law_pots" 855]
abbrev afM:Obj:=tU #[]
abbrev amX:Obj:=fB "law" "law" (top 60)
abbrev afN:Obj:=cO #[VS "law" 843,VS "law" 844,cP 845,i0 341,i0 1,i0 0,i0 0,i0 3,.ref 485,.bool true,i0 181,.ref 486,.none,.ref 487,.ref 488,.ref 489,i0 856,i0 341,cP 857]
abbrev afO:Obj:=fO "law" "law" (top 60) .none (VS "law_thirstwise_k05_whole_wants" 741) 490
noncomputable def KK:Params->Frag:=fun P=>(nat_lit 2,(boot_o_2 P))::(nat_lit 3,(abE P))::(nat_lit 15,o15)::(nat_lit 17,o17)::(nat_lit 18,o18)::(nat_lit 20,o20)::(nat_lit 22,o22)::(nat_lit 24,o24)::(nat_lit 25,o25)::(nat_lit 27,o27)::(nat_lit 28,o28)::(nat_lit 29,o29)::(nat_lit 31,o31)::(nat_lit 32,o32)::(nat_lit 34,o34)::(nat_lit 35,o35)::(nat_lit 36,o36)::(nat_lit 43,o43)::(nat_lit 44,(o44 P))::(nat_lit 45,o45)::(nat_lit 46,o46)::(nat_lit 49,o49)::(nat_lit 56,o56)::(nat_lit 57,(o57 P))::(nat_lit 58,o58)::(nat_lit 61,o61)::(nat_lit 68,o68)::(nat_lit 70,o70)::(nat_lit 71,o71)::(nat_lit 73,o73)::(nat_lit 74,o74)::(nat_lit 75,o75)::(nat_lit 76,(o76 P))::(nat_lit 77,o77)::(nat_lit 80,o80)::(nat_lit 87,o87)::(nat_lit 88,(o88 P))::(nat_lit 89,o89)::(nat_lit 92,o92)::(nat_lit 99,o99)::(nat_lit 100,(o100 P))::(nat_lit 101,Vy)::(nat_lit 104,Vz)::(nat_lit 111,o111)::(nat_lit 112,(VB P))::(nat_lit 113,VD)::(nat_lit 116,VF)::(nat_lit 123,VG)::(nat_lit 125,VH)::(nat_lit 126,VJ)::(nat_lit 128,VL)::(nat_lit 129,VN)::(nat_lit 130,VP)::(nat_lit 131,(VR P))::(nat_lit 132,V0)::(nat_lit 135,V1)::(nat_lit 138,V2)::(nat_lit 139,V3)::(nat_lit 147,V4)::(nat_lit 149,V5)::(nat_lit 150,V6)::(nat_lit 152,V7)::(nat_lit 153,V8)::(nat_lit 154,V9)::(nat_lit 156,Wa)::(nat_lit 157,Wb)::(nat_lit 159,Wc)::(nat_lit 160,Wd)::(nat_lit 161,Wf)::(nat_lit 163,Wg)::(nat_lit 164,Wh)::(nat_lit 166,Wi)::(nat_lit 168,Wj)::(nat_lit 170,Wk)::(nat_lit 171,Wl)::(nat_lit 173,Wm)::(nat_lit 174,Wn)::(nat_lit 175,Wo)::(nat_lit 177,Wq)::(nat_lit 178,Wr)::(nat_lit 180,Ws)::(nat_lit 181,Wt)::(nat_lit 182,Wu)::(nat_lit 183,(Wv P))::(nat_lit 184,HS)::(nat_lit 185,Ww)::(nat_lit 186,Wx)::(nat_lit 189,acr)::(nat_lit 196,acs)::(nat_lit 198,acu)::(nat_lit 199,acv)::(nat_lit 201,acw)::(nat_lit 202,acy)::(nat_lit 203,acz)::(nat_lit 205,acA)::(nat_lit 206,acB)::(nat_lit 208,acC)::(nat_lit 209,acD)::(nat_lit 210,acE)::(nat_lit 212,acF)::(nat_lit 213,acG)::(nat_lit 215,acH)::(nat_lit 217,acI)::(nat_lit 219,acJ)::(nat_lit 220,acK)::(nat_lit 222,acL)::(nat_lit 223,acM)::(nat_lit 224,acN)::(nat_lit 226,acO)::(nat_lit 227,acP)::(nat_lit 229,acQ)::(nat_lit 230,acR)::(nat_lit 231,acS)::(nat_lit 232,(acT P))::(nat_lit 233,acU)::(nat_lit 236,acV)::(nat_lit 239,acW)::(nat_lit 240,acX)::(nat_lit 241,acY)::(nat_lit 243,acZ)::(nat_lit 244,ac0)::(nat_lit 246,ac2)::(nat_lit 247,ac3)::(nat_lit 248,ac4)::(nat_lit 251,ac5)::(nat_lit 252,ac6)::(nat_lit 253,ac7)::(nat_lit 256,ac8)::(nat_lit 257,ac9)::(nat_lit 258,ada)::(nat_lit 260,adb)::(nat_lit 261,ade)::(nat_lit 263,adf)::(nat_lit 264,adg)::(nat_lit 272,adh)::(nat_lit 273,adi)::(nat_lit 275,adk)::(nat_lit 276,adl)::(nat_lit 278,adn)::(nat_lit 279,ado)::(nat_lit 280,adp)::(nat_lit 282,adq)::(nat_lit 283,adt)::(nat_lit 285,adu)::(nat_lit 286,adv)::(nat_lit 287,adw)::(nat_lit 289,adx)::(nat_lit 290,ady)::(nat_lit 292,adz)::(nat_lit 293,adA)::(nat_lit 294,adB)::(nat_lit 296,adC)::(nat_lit 297,adD)::(nat_lit 299,adE)::(nat_lit 300,o300)::(nat_lit 301,adF)::(nat_lit 304,adG)::(nat_lit 305,adH)::(nat_lit 306,adI)::(nat_lit 307,(adJ P))::(nat_lit 308,adK)::(nat_lit 309,adL)::(nat_lit 310,adM)::(nat_lit 313,adN)::(nat_lit 315,adO)::(nat_lit 316,adP)::(nat_lit 318,adQ)::(nat_lit 319,adR)::(nat_lit 320,adS)::(nat_lit 323,adT)::(nat_lit 324,adU)::(nat_lit 325,adV)::(nat_lit 327,adW)::(nat_lit 328,adX)::(nat_lit 330,adY)::(nat_lit 331,adZ)::(nat_lit 332,ad0)::(nat_lit 334,ad1)::(nat_lit 335,ad2)::(nat_lit 337,ad3)::(nat_lit 338,ad4)::(nat_lit 339,ad5)::(nat_lit 341,ad6)::(nat_lit 342,ad7)::(nat_lit 344,ad8)::(nat_lit 345,ad9)::(nat_lit 346,aea)::(nat_lit 349,aeb)::(nat_lit 350,aec)::(nat_lit 351,aed)::(nat_lit 354,aee)::(nat_lit 355,aef)::(nat_lit 356,aeg)::(nat_lit 359,aeh)::(nat_lit 360,aei)::(nat_lit 361,aej)::(nat_lit 364,aek)::(nat_lit 365,ael)::(nat_lit 366,aem)::(nat_lit 369,aen)::(nat_lit 370,aeo)::(nat_lit 371,aep)::(nat_lit 373,aer)::(nat_lit 374,aes)::(nat_lit 376,aeu)::(nat_lit 377,o377)::(nat_lit 378,aev)::(nat_lit 379,aew)::(nat_lit 381,aex)::(nat_lit 382,aey)::(nat_lit 384,aez)::(nat_lit 385,aeA)::(nat_lit 386,aeB)::(nat_lit 388,aeC)::(nat_lit 389,aeD)::(nat_lit 391,aeE)::(nat_lit 392,aeF)::(nat_lit 393,aeG)::(nat_lit 395,aeI)::(nat_lit 396,aeJ)::(nat_lit 398,aeK)::(nat_lit 399,aeL)::(nat_lit 400,o400)::(nat_lit 402,aeN)::(nat_lit 403,aeO)::(nat_lit 405,aeP)::(nat_lit 406,aeQ)::(nat_lit 407,aeR)::(nat_lit 409,aeS)::(nat_lit 410,aeT)::(nat_lit 412,aeU)::(nat_lit 413,aeV)::(nat_lit 414,aeW)::(nat_lit 417,aeX)::(nat_lit 418,aeY)::(nat_lit 419,aeZ)::(nat_lit 421,ae0)::(nat_lit 422,ae1)::(nat_lit 424,ae2)::(nat_lit 425,ae3)::(nat_lit 426,ae4)::(nat_lit 428,ae5)::(nat_lit 429,ae6)::(nat_lit 431,ae7)::(nat_lit 432,ae8)::(nat_lit 433,ae9)::(nat_lit 435,afa)::(nat_lit 436,afb)::(nat_lit 438,afc)::(nat_lit 439,afd)::(nat_lit 440,afe)::(nat_lit 442,afg)::(nat_lit 443,afh)::(nat_lit 445,afi)::(nat_lit 446,afj)::(nat_lit 447,afk)::(nat_lit 450,afl)::(nat_lit 451,afm)::(nat_lit 452,afn)::(nat_lit 454,afo)::(nat_lit 455,afp)::(nat_lit 457,afq)::(nat_lit 458,afr)::(nat_lit 459,afs)::(nat_lit 461,aft)::(nat_lit 462,afu)::(nat_lit 464,afv)::(nat_lit 465,afw)::(nat_lit 466,afx)::(nat_lit 468,afy)::(nat_lit 469,afz)::(nat_lit 471,afA)::(nat_lit 472,afB)::(nat_lit 473,afC)::(nat_lit 475,afD)::(nat_lit 476,afE)::(nat_lit 478,afF)::(nat_lit 479,afG)::(nat_lit 480,afH)::(nat_lit 483,afI)::(nat_lit 484,afJ)::(nat_lit 485,afK)::(nat_lit 487,afL)::(nat_lit 488,afM)::(nat_lit 490,afN)::(nat_lit 491,afO)::[]
abbrev aPF:aB:=nat_lit 394
abbrev aCF:aB:=nat_lit 398
abbrev aPG:aB:=nat_lit 401
abbrev aCG:aB:=nat_lit 405
def KF:Params->Frag:=fun P=>(nat_lit 394,aeH)::(nat_lit 401,aeM)::KK P
noncomputable def addrs:List aB:=[394,401,2,3,15,17,18,20,22,24,25,27,28,29,31,32,34,35,36,43,44,45,46,49,56,57,58,61,68,70,71,73,74,75,76,77,80,87,88,89,92,99,100,101,104,111,112,113,116,123,125,126,128,129,130,131,132,135,138,139,147,149,150,152,153,154,156,157,159,160,161,163,164,166,168,170,171,173,174,175,177,178,180,181,182,183,184,185,186,189,196,198,199,201,202,203,205,206,208,209,210,212,213,215,217,219,220,222,223,224,226,227,229,230,231,232,233,236,239,240,241,243,244,246,247,248,251,252,253,256,257,258,260,261,263,264,272,273,275,276,278,279,280,282,283,285,286,287,289,290,292,293,294,296,297,299,300,301,304,305,306,307,308,309,310,313,315,316,318,319,320,323,324,325,327,328,330,331,332,334,335,337,338,339,341,342,344,345,346,349,350,351,354,355,356,359,360,361,364,365,366,369,370,371,373,374,376,377,378,379,381,382,384,385,386,388,389,391,392,393,395,396,398,399,400,402,403,405,406,407,409,410,412,413,414,417,418,419,421,422,424,425,426,428,429,431,432,433,435,436,438,439,440,442,443,445,446,447,450,451,452,454,455,457,458,459,461,462,464,465,466,468,469,471,472,473,475,476,478,479,480,483,484,485,487,488,490,491]
abbrev LO:List Str:=["days_of"]
noncomputable def view:bZ:={ PySem.Challenge.pw_thirstwise_k05_whole_wants with main:={ PySem.Challenge.pw_thirstwise_k05_whole_wants.main with body:=[top 0,top 2,top 3,top 5,top 6,top 7,top 8,top 9,top 10,top 11,top 13,top 14,top 15,top 16,top 17,top 19,top 20,top 21,top 22,top 23,top 24,top 25,top 26,top 27,top 28,top 29,top 30,top 31,top 33,top 34,top 35,top 36,top 37,top 39,top 40,top 41,top 44,top 45,top 46,top 47,top 48,top 50,top 51,top 52,top 53,top 54,top 55,top 56,top 57,top 58,top 59,top 60] } }
abbrev ANN:Option aC:=some (Value.ref 6)
abbrev QQ:Pos:={ line:=0,col:=0,endLine:=0,endCol:=0 }
abbrev BODY:List cX:=behindTheImports PySem.Challenge.pw_thirstwise_k05_whole_wants
abbrev ENV:Env:={ scope:=PySem.Challenge.pw_thirstwise_k05_whole_wants.main.scope,locals:=mainNs,globals:=mainNs,cells:=[],code:=Value.ref 13,frame:=some 14 }
abbrev CE:Code:=Code.body BODY ENV
abbrev aBM:Life:={ }
abbrev am0:Life:={ }
noncomputable def Za:Params->Heap:=fun P=>Heap.mk (Array.mk [(boot_o_0 P),(boot_o_1 P),(boot_o_2 P),(boot_o_3 P),(boot_o_4 P),(boot_o_5 P),(boot_o_6 P),(boot_o_7 P),(boot_o_8 P),(boot_o_9 P),(boot_o_10 P),o11,o12,o13,o14]) am0
abbrev Zb:Life:={ }
noncomputable def Zc:Params->BT:=fun P=>(nD (boot_o_0 P) (nD (boot_o_1 P) (nD (boot_o_3 P) (lF (boot_o_7 P)) (lF o11)) (nD (boot_o_5 P) (lF (boot_o_9 P)) (lF o13))) (nD (boot_o_2 P) (nD (boot_o_4 P) (lF (boot_o_8 P)) (lF o12)) (nD (boot_o_6 P) (lF (boot_o_10 P)) (lF o14))))
abbrev Zd:Life:={ }
noncomputable def Ze:Params->BT:=fun P=>(nD (boot_o_0 P) (nD (boot_o_1 P) (nD (awq P) (nD (boot_o_7 P) (nD o15 (nD o31 (nD (o63 P) (lF abW) .nil) (nD o95 (lF Wc) .nil)) (nD o47 (nD o79 (lF ab4) .nil) (nD o111 (lF Wo) .nil))) (nD o23 (nD o39 (nD o71 (lF V1) .nil) (nD abG (lF ach) .nil)) (nD o55 (nD o87 (lF ab9) .nil) (nD abR (lF (Wv P)) .nil)))) (nD o11 (nD o19 (nD o35 (nD o67 (lF (VR P)) .nil) (nD o99 (lF Wg) .nil)) (nD (o51 P) (nD o83 (lF V4) .nil) (nD abO (lF aco) .nil))) (nD o27 (nD o43 (nD o75 (lF V3) .nil) (nD abJ (lF Wl) .nil)) (nD o59 (nD o91 (lF acd) .nil) (nD VG (lF acp) .nil))))) (nD (boot_o_5 P) (nD (boot_o_9 P) (nD o17 (nD o33 (nD o65 (lF VN) .nil) (nD o97 (lF Wf) .nil)) (nD o49 (nD o81 (lF ab6) .nil) (nD VD (lF Wq) .nil))) (nD o25 (nD o41 (nD o73 (lF ab0) .nil) (nD abH (lF aci) .nil)) (nD (o57 P) (nD o89 (lF V8) .nil) (nD abT (lF Ww) .nil)))) (nD o13 (nD o21 (nD o37 (nD o69 (lF abX) .nil) (nD Vy (lF acg) .nil)) (nD o53 (nD o85 (lF V5) .nil) (nD abP (lF Wt) .nil))) (nD o29 (nD o45 (nD o77 (lF ab2) .nil) (nD abL (lF Wm) .nil)) (nD o61 (nD o93 (lF Wb) .nil) (lF VH)))))) (nD (boot_o_2 P) (nD (boot_o_4 P) (nD (boot_o_8 P) (nD o16 (nD o32 (nD o64 (lF VL) .nil) (nD o96 (lF Wd) .nil)) (nD o48 (nD o80 (lF ab5) .nil) (nD (VB P) (lF acn) .nil))) (nD o24 (nD o40 (nD o72 (lF abZ) .nil) (nD Vz (lF Wj) .nil)) (nD o56 (nD (o88 P) (lF V7) .nil) (nD abS (lF axc) .nil)))) (nD alg (nD o20 (nD o36 (nD o68 (lF V0) .nil) (nD (o100 P) (lF Wh) .nil)) (nD o52 (nD o84 (lF ab8) .nil) (nD VF (lF Ws) .nil))) (nD o28 (nD (o44 P) (nD (o76 P) (lF ab1) .nil) (nD abK (lF acj) .nil)) (nD o60 (nD o92 (lF Wa) .nil) (nD abV (lF acq) .nil))))) (nD (boot_o_6 P) (nD (boot_o_10 P) (nD o18 (nD o34 (nD o66 (lF VP) .nil) (nD o98 (lF acf) .nil)) (nD o50 (nD (o82 P) (lF ab7) .nil) (nD abN (lF Wr) .nil))) (nD o26 (nD o42 (nD o74 (lF V2) .nil) (nD (abI P) (lF Wk) .nil)) (nD o58 (nD o90 (lF V9) .nil) (nD abU (lF Wx) .nil)))) (nD o14 (nD o22 (nD (o38 P) (nD o70 (lF abY) .nil) (nD abF (lF Wi) .nil)) (nD o54 (nD o86 (lF V6) .nil) (nD (abQ P) (lF Wu) .nil))) (nD o30 (nD o46 (nD o78 (lF (ab3 P)) .nil) (nD abM (lF Wn) .nil)) (nD o62 (nD (o94 P) (lF ace) .nil) (lF VJ)))))))
abbrev Zf:Life:={ }
noncomputable def Zg:Params->BT:=fun P=>(nD (boot_o_0 P) (nD (boot_o_1 P) (nD (abE P) (nD (boot_o_7 P) (nD o15 (nD o31 (nD (o63 P) (nD abW (lF alK) (lF amu)) (nD (alk P) (lF adR) (lF afk))) (nD o95 (nD Wc (lF adw) (lF amB)) (nD acM (lF aed) (lF afG)))) (nD o47 (nD o79 (nD ab4 (lF alT) (lF aeL)) (nD als (lF ad2) (lF amP))) (nD o111 (nD Wo (lF al3) (lF ae7)) (nD acW (lF amo) .nil)))) (nD o23 (nD o39 (nD o71 (nD V1 (lF adf) (lF aeE)) (nD acv (lF adW) (lF afp))) (nD abG (nD ach (lF al0) (lF amE)) (nD acS (lF aeh) (lF afL)))) (nD o55 (nD o87 (nD ab9 (lF ado) (lF aeR)) (nD acH (lF amf) (lF afA))) (nD abR (nD (Wv P) (lF al4) (lF afd)) (nD ac3 (lF ams) .nil))))) (nD o11 (nD o19 (nD o35 (nD o67 (nD (VR P) (lF alL) (lF amv)) (nD alp (lF adT) (lF afm))) (nD o99 (nD Wg (lF alZ) (lF aeZ)) (nD acP (lF aef) (lF afI)))) (nD (o51 P) (nD o83 (nD V4 (lF adk) (lF aeO)) (nD alu (lF ad5) (lF amQ))) (nD abO (nD aco (lF (adJ P)) (lF afa)) (nD acZ (lF aep) .nil)))) (nD o27 (nD o43 (nD o75 (nD V3 (lF (alP P)) (lF aeI)) (nD acz (lF adZ) (lF afs))) (nD abJ (nD Wl (lF adE) (lF amF)) (nD alC (lF amn) (lF afO)))) (nD o59 (nD o91 (nD acd (lF adt) (lF amA)) (nD acJ (lF amg) (lF afD))) (nD VG (nD acp (lF adO) (lF afh)) (nD ac5 (lF aew) .nil)))))) (nD (boot_o_5 P) (nD (boot_o_9 P) (nD o17 (nD o33 (nD o65 (nD VN (lF ac9) (lF aeA)) (nD aln (lF al8) (lF amL))) (nD o97 (nD Wf (lF adx) (lF aeX)) (nD alz (lF amj) (lF amU)))) (nD o49 (nD o81 (nD ab6 (lF adi) (lF aeM)) (nD acD (lF ad3) (lF afw))) (nD VD (nD Wq (lF adH) (lF ae9)) (nD acY (lF aen) .nil)))) (nD o25 (nD o41 (nD o73 (nD ab0 (lF alN) (lF aeG)) (nD acw (lF amb) (lF afq))) (nD abH (nD aci (lF adD) (lF ae3)) (nD acU (lF aej) (lF amX)))) (nD (o57 P) (nD o89 (nD V8 (lF alW) (lF aeS)) (nD acI (lF ad9) (lF afC))) (nD abT (nD Ww (lF adN) (lF amJ)) (nD alH (lF o377) .nil))))) (nD o13 (nD o21 (nD o37 (nD o69 (nD abX (lF ade) (lF aeD)) (nD alq (lF adV) (lF amM))) (nD Vy (nD acg (lF adA) (lF ae0)) (nD acQ (lF amk) (lF afK)))) (nD o53 (nD o85 (nD V5 (lF alV) (lF aeP)) (nD acG (lF ad6) (lF afz))) (nD abP (nD Wt (lF adL) (lF amI)) (nD alG (lF aer) .nil)))) (nD o29 (nD o45 (nD o77 (nD ab2 (lF alR) (lF amx)) (nD acA (lF amc) (lF aft))) (nD abL (nD Wm (lF adF) (lF ae6)) (nD alD (lF ael) .nil))) (nD o61 (nD o93 (nD Wb (lF adu) (lF aeV)) (nD aly (lF aeb) (lF amT))) (nD VH (nD acr (lF al7) (lF afi)) (nD ac7 (lF aex) .nil))))))) (nD (boot_o_2 P) (nD (boot_o_4 P) (nD (boot_o_8 P) (nD o16 (nD o32 (nD o64 (nD VL (lF ac8) (lF aez)) (nD alm (lF adS) (lF amK))) (nD o96 (nD Wd (lF alY) (lF amC)) (nD acN (lF ami) (lF afH)))) (nD o48 (nD o80 (nD ab5 (lF adh) (lF o400)) (nD acC (lF amd) (lF afv))) (nD (VB P) (nD acn (lF adG) (lF ae8)) (nD acX (lF amq) .nil)))) (nD o24 (nD o40 (nD o72 (nD abZ (lF adg) (lF aeF)) (nD o200 (lF adX) (lF amN))) (nD Vz (nD Wj (lF adC) (lF ae2)) (nD (acT P) (lF aei) (lF afM)))) (nD o56 (nD (o88 P) (nD V7 (lF adp) (lF amz)) (nD alw (lF ad8) (lF afB))) (nD abS (nD HS (lF al5) (lF afe)) (nD ac4 (lF aeu) .nil))))) (nD Y9 (nD o20 (nD o36 (nD o68 (nD V0 (lF adb) (lF aeC)) (nD acs (lF adU) (lF afn))) (nD (o100 P) (nD Wh (lF adz) (lF amD)) (nD alA (lF aeg) (lF afJ)))) (nD o52 (nD o84 (nD ab8 (lF adl) (lF amy)) (nD acF (lF ame) (lF afy))) (nD VF (nD Ws (lF adK) (lF afb)) (nD ac0 (lF amr) .nil)))) (nD o28 (nD (o44 P) (nD (o76 P) (nD ab1 (lF alQ) (lF aeJ)) (nD alr (lF ad0) (lF amO))) (nD abK (nD acj (lF o300) (lF ae5)) (nD acV (lF aek) .nil))) (nD o60 (nD o92 (nD Wa (lF alX) (lF aeU)) (nD acK (lF amh) (lF afE))) (nD abV (nD acq (lF adP) (lF o444)) (nD ac6 (lF amt) .nil)))))) (nD (boot_o_6 P) (nD (boot_o_10 P) (nD o18 (nD o34 (nD o66 (nD VP (lF ada) (lF aeB)) (nD alo (lF al9) (lF afl))) (nD o98 (nD acf (lF ady) (lF aeY)) (nD acO (lF aee) (lF amV)))) (nD o50 (nD (o82 P) (nD ab7 (lF alU) (lF aeN)) (nD acE (lF ad4) (lF afx))) (nD abN (nD Wr (lF adI) (lF amH)) (nD alF (lF aeo) .nil)))) (nD o26 (nD o42 (nD o74 (nD V2 (lF alO) (lF aeH)) (nD acy (lF adY) (lF afr))) (nD (abI P) (nD Wk (lF al1) (lF ae4)) (nD alB (lF amm) (lF afN)))) (nD o58 (nD o90 (nD V9 (lF adq) (lF aeT)) (nD alx (lF aea) (lF amS))) (nD abU (nD Wx (lF al6) (lF afg)) (nD alI (lF aev) .nil))))) (nD o14 (nD o22 (nD (o38 P) (nD o70 (nD abY (lF alM) (lF amw)) (nD acu (lF ama) (lF afo))) (nD abF (nD Wi (lF adB) (lF ae1)) (nD acR (lF aml) (lF amW)))) (nD o54 (nD o86 (nD V6 (lF adn) (lF aeQ)) (nD alv (lF ad7) (lF amR))) (nD (abQ P) (nD Wu (lF adM) (lF afc)) (nD ac2 (lF aes) .nil)))) (nD o30 (nD o46 (nD o78 (nD (ab3 P) (lF alS) (lF aeK)) (nD acB (lF ad1) (lF afu))) (nD abM (nD Wn (lF al2) (lF amG)) (nD alE (lF aem) .nil))) (nD o62 (nD (o94 P) (nD ace (lF adv) (lF aeW)) (nD acL (lF aec) (lF afF))) (nD VJ (nD alj (lF adQ) (lF afj)) (nD alJ (lF aey) .nil))))))))
abbrev am1:Life:={ }
noncomputable def rP:Params->Heap:=fun P=>Heap.mk (Array.mk [(boot_o_0 P),(boot_o_1 P),(boot_o_2 P),(abE P),(boot_o_4 P),(boot_o_5 P),(boot_o_6 P),(boot_o_7 P),(boot_o_8 P),(boot_o_9 P),(boot_o_10 P),o11,Y9,o13,o14,o15,o16,o17,o18,o19,o20,o21,o22,o23,o24,o25,o26,o27,o28,o29,o30,o31,o32,o33,o34,o35,o36,o37,(o38 P),o39,o40,o41,o42,o43,(o44 P),o45,o46,o47,o48,o49,o50,(o51 P),o52,o53,o54,o55,o56,(o57 P),o58,o59,o60,o61,o62,(o63 P),o64,o65,o66,o67,o68,o69,o70,o71,o72,o73,o74,o75,(o76 P),o77,o78,o79,o80,o81,(o82 P),o83,o84,o85,o86,o87,(o88 P),o89,o90,o91,o92,o93,(o94 P),o95,o96,o97,o98,o99,(o100 P),Vy,abF,abG,Vz,abH,(abI P),abJ,abK,abL,abM,o111,(VB P),VD,abN,abO,VF,abP,(abQ P),abR,abS,abT,abU,VG,abV,VH,VJ,abW,VL,VN,VP,(VR P),V0,abX,abY,V1,abZ,ab0,V2,V3,ab1,ab2,(ab3 P),ab4,ab5,ab6,ab7,V4,ab8,V5,V6,ab9,V7,V8,V9,acd,Wa,Wb,ace,Wc,Wd,Wf,acf,Wg,Wh,acg,Wi,ach,Wj,aci,Wk,Wl,acj,Wm,Wn,Wo,acn,Wq,Wr,aco,Ws,Wt,Wu,(Wv P),HS,Ww,Wx,acp,acq,acr,alj,(alk P),alm,aln,alo,alp,acs,alq,acu,acv,o200,acw,acy,acz,alr,acA,acB,als,acC,acD,acE,alu,acF,acG,alv,acH,alw,acI,alx,acJ,acK,aly,acL,acM,acN,alz,acO,acP,alA,acQ,acR,acS,(acT P),acU,alB,alC,acV,alD,alE,acW,acX,acY,alF,acZ,ac0,alG,ac2,ac3,ac4,alH,alI,ac5,ac6,ac7,alJ,alK,ac8,ac9,ada,alL,adb,ade,alM,adf,adg,alN,alO,(alP P),alQ,alR,alS,alT,adh,adi,alU,adk,adl,alV,adn,ado,adp,alW,adq,adt,alX,adu,adv,adw,alY,adx,ady,alZ,adz,adA,adB,al0,adC,adD,al1,adE,o300,adF,al2,al3,adG,adH,adI,(adJ P),adK,adL,adM,al4,al5,adN,al6,adO,adP,al7,adQ,adR,adS,al8,al9,adT,adU,adV,ama,adW,adX,amb,adY,adZ,ad0,amc,ad1,ad2,amd,ad3,ad4,ad5,ame,ad6,ad7,amf,ad8,ad9,aea,amg,amh,aeb,aec,aed,ami,amj,aee,aef,aeg,amk,aml,aeh,aei,aej,amm,amn,aek,ael,aem,amo,amq,aen,aeo,aep,amr,aer,aes,ams,aeu,o377,aev,aew,amt,aex,aey,amu,aez,aeA,aeB,amv,aeC,aeD,amw,aeE,aeF,aeG,aeH,aeI,aeJ,amx,aeK,aeL,o400,aeM,aeN,aeO,amy,aeP,aeQ,aeR,amz,aeS,aeT,amA,aeU,aeV,aeW,amB,amC,aeX,aeY,aeZ,amD,ae0,ae1,amE,ae2,ae3,ae4,amF,ae5,ae6,amG,ae7,ae8,ae9,amH,afa,afb,amI,afc,afd,afe,amJ,afg,afh,o444,afi,afj,afk,amK,amL,afl,afm,afn,amM,afo,afp,amN,afq,afr,afs,amO,aft,afu,amP,afv,afw,afx,amQ,afy,afz,amR,afA,afB,afC,amS,afD,afE,amT,afF,afG,afH,amU,amV,afI,afJ,afK,amW,afL,afM,amX,afN,afO]) am1
end
theorem Zh {tb:String->Option Builtin} {p:bZ} {w:World} {n₀:Nat} {ann:Option aC} {env:Env} {q:Pos} {n N:Nat} {s s' r:aV} {b:List cX} {c:Code} {pos p':Pos} (i k:Nat) (h:segRun tb p w n₀ ann 1 n s (piecesOf ((b.drop i).take k) env c pos [topFrame q])=some (.next,s',c,p')) (g:topRun tb p w n₀ ann N s' (restOf (b.drop (i + k)) env c p' [topFrame q])=some r):topRun tb p w n₀ ann (n + N) s (restOf (b.drop i) env c pos [topFrame q])=some r:=by
 have e:b.drop i=(b.drop i).take k++b.drop (i + k):=by rw [<- List.drop_drop,take_append_drop]
 rw [e];exact piece_app h g
theorem Px:∀ w:World,(fun os=>topGo treeTable PySem.Challenge.pw_thirstwise_k05_whole_wants w 11 ANN 12 (Shared.mk (boot_heap w.params) (Array.mk []) boot_drawn boot_toks os) (topStub PySem.Challenge.pw_thirstwise_k05_whole_wants))=fun os=>some ((Shared.mk (Za w.params) (Array.mk []) boot_drawn 187 os),Thread.mk (denote treeTable CE) CE { line:=0,col:=0,endLine:=0,endCol:=0 } [topFrame QQ]):=by
 intro w; kernel_rfl
theorem HW:∀ w:World,(fun os=>segRun treeTable PySem.Challenge.pw_thirstwise_k05_whole_wants w 11 ANN 1 1 (Shared.mk (Za w.params) (Array.mk []) boot_drawn 187 os) (blockOf BODY ENV CE { line:=0,col:=0,endLine:=0,endCol:=0 } [topFrame QQ]))=fun os=>some (Flow.next,(SharedT.abs (SharedT.mk (Zc w.params) 15 Zb (Array.mk []) boot_drawn 187 os)),CE,{ line:=0,col:=0,endLine:=0,endCol:=0 }):=by
 intro w; kernel_rfl
theorem am2:∀ w:World,(fun os=>segRunT treeTable PySem.Challenge.pw_thirstwise_k05_whole_wants w 11 ANN 1 2040 (SharedT.mk (Zc w.params) 15 Zb (Array.mk []) boot_drawn 187 os) (piecesOf ((BODY.drop 0).take 17) ENV CE { line:=0,col:=0,endLine:=0,endCol:=0 } [topFrame QQ]))=fun os=>some (Flow.next,(SharedT.mk (Ze w.params) 189 Zd (Array.mk []) boot_drawn 420 os),CE,{ line:=39,col:=0,endLine:=59,endCol:=16 }):=by
 intro w; kernel_rfl
theorem am3:∀ w:World,(fun os=>segRunT treeTable PySem.Challenge.pw_thirstwise_k05_whole_wants w 11 ANN 1 1810 (SharedT.mk (Ze w.params) 189 Zd (Array.mk []) boot_drawn 420 os) (piecesOf ((BODY.drop 17).take 44) ENV CE { line:=39,col:=0,endLine:=59,endCol:=16 } [topFrame QQ]))=fun os=>some (Flow.next,(SharedT.mk (Zg w.params) 492 Zf (Array.mk []) boot_drawn 859 os),CE,{ line:=341,col:=0,endLine:=360,endCol:=157 }):=by
 intro w; kernel_rfl
theorem Py:∀ w:World,(fun os=>topRun treeTable PySem.Challenge.pw_thirstwise_k05_whole_wants w 11 ANN 2 (SharedT.abs (SharedT.mk (Zg w.params) 492 Zf (Array.mk []) boot_drawn 859 os)) (restOf (BODY.drop 61) ENV CE { line:=341,col:=0,endLine:=360,endCol:=157 } [topFrame QQ]))=fun os=>some (Shared.mk (rP w.params) (Array.mk []) boot_drawn 859 os):=by
 intro w; kernel_rfl
theorem axd (w:World) (os:OsState):topRun treeTable PySem.Challenge.pw_thirstwise_k05_whole_wants w 11 ANN (12 + (1 + (2040 + (1810 + (2))))) (Shared.mk (boot_heap w.params) (Array.mk []) boot_drawn boot_toks os) (topStub PySem.Challenge.pw_thirstwise_k05_whole_wants)=some (Shared.mk (rP w.params) (Array.mk []) boot_drawn 859 os) := go_top (congrFun (Px w) os) (piece_block (congrFun (HW w) os) (Zh 0 17 (segRun_of (congrFun (am2 w) os)) (Zh 17 44 (segRun_of (congrFun (am3 w) os)) (congrFun (Py w) os))))
theorem lk1:∀ w:World,(fun os=>(staticsOk (importedModules PySem.Challenge.pw_thirstwise_k05_whole_wants.main.body) (boot_heap w.params) (rP w.params) && namesBound PySem.Challenge.pw_thirstwise_k05_whole_wants (rP w.params) && gensDone (Shared.mk (rP w.params) (Array.mk []) boot_drawn 859 os) && laidKept (boot_heap w.params) (rP w.params)))=fun _=>true:=by
 intro w; kernel_rfl
theorem lk2:∀ w:World,(fun os=>openSeen view LO (importedModules PySem.Challenge.pw_thirstwise_k05_whole_wants.main.body) (fun s=>xlAt view [] s && recOk (RowW.records (OpenRow.toRowW (OpenLaw.row PySem.Challenge.rw_thirstwise_k05_whole_wants))) s) true (Shared.mk (rP w.params) (Array.mk []) boot_drawn 859 os))=fun _=>openGood view LO:=by
 intro w; kernel_rfl
theorem lk3:∀ w:World,(fun os=>Hook.obs (kHook KF addrs (fun _=>by kernel_rfl)) (Shared.mk (rP w.params) (Array.mk []) boot_drawn 859 os))=fun _=>Hook.val (kHook KF addrs (fun _=>by kernel_rfl)) w:=by
 intro w; kernel_rfl
theorem opn:∀ w:World,(fencedOpening treeTable PySem.Challenge.pw_thirstwise_k05_whole_wants w 7822).map (fun s=>(s.heap,s.gens,s.drawn,s.toks))=some (boot_heap w.params,Array.mk [],boot_drawn,boot_toks):=boot_open (by kernel_rfl) (by kernel_rfl) (fun s=>by kernel_rfl)
theorem siz:∀ w:World,((boot_heap w.params).isNs mainGlobals && (Array.mk []:Array GenState).size == 0,(boot_heap w.params).objs.size,(boot_heap w.params).nsMap mainGlobals "__annotations__")=(true,11,ANN):=by
 intro w; kernel_rfl
theorem hl:LeftO PySem.Challenge.rw_thirstwise_k05_whole_wants.row.prog view LO (fun s=>xlAt view [] s && recOk (RowW.records (OpenRow.toRowW (OpenLaw.row PySem.Challenge.rw_thirstwise_k05_whole_wants))) s) (Hook.obs (kHook KF addrs (fun _=>by kernel_rfl))) (Hook.val (kHook KF addrs (fun _=>by kernel_rfl))) 7822 := LeftO.of_pieces (p:=PySem.Challenge.pw_thirstwise_k05_whole_wants) (q:=view) (loose:=LO) (Xt:=(fun s=>xlAt view [] s && recOk (RowW.records (OpenRow.toRowW (OpenLaw.row PySem.Challenge.rw_thirstwise_k05_whole_wants))) s)) (Yf:=Hook.obs (kHook KF addrs (fun _=>by kernel_rfl))) (Ya:=Hook.val (kHook KF addrs (fun _=>by kernel_rfl))) (N:=7822) (g0:=true) (H₀:=boot_heap) (H₁:=rP) (gs₀:=Array.mk []) (gs₁:=(Array.mk [])) (d₀:=boot_drawn) (d₁:=boot_drawn) (k₀:=boot_toks) (k₁:=859) (m₀:=11) (ann:=ANN) (M:=12 + (1 + (2040 + (1810 + (2))))) opn siz axd (by kernel_rfl) (fun w=>funext fun os=>Prod.ext (congrFun (lk1 w) os) (Prod.ext (congrFun (lk2 w) os) (congrFun (lk3 w) os)))
end Tw
namespace L2
open PySem PySem.Spec PyProof.Rows
abbrev Key:=Sum Int Str
def Zi:Key->aC->Bool
 | .inl k,v=>Value.isInt k v
 | .inr x,v=>Value.isStrOf x v
def axe (w:World):Key->Int
 | .inl k=>hashInt k
 | .inr x=>hashStr w x
theorem gh:∀ {k:Key} {v:aC},Zi k v=true->(∃ i t,k=Sum.inl i/\v=Value.int i t)\/(∃ x t,k=Sum.inr x/\v=Value.str x t)
 | .inl i,v,h=>by
  obtain ⟨t,e⟩:=Value.isInt_shape (k:=i) (v:=v) h;exact .inl ⟨i,t,rfl,e⟩
 | .inr x,v,h=>by
  obtain ⟨t,e⟩:=Value.isStrOf_shape (x:=x) (v:=v) h;exact .inr ⟨x,t,rfl,e⟩
theorem afP (a b:Int):decide ((Sum.inl a:Key)=Sum.inl b)=(a == b):=by
 by_cases e:a=b
 ·subst e; simp
 ·have h:¬ (Sum.inl a:Key)=Sum.inl b:=fun q=>e (Sum.inl.inj q)
  rw [aP h];exact (beq_eq_false_iff_ne.mpr e).symm
theorem afQ (a b:Str):decide ((Sum.inr a:Key)=Sum.inr b)=decide (a=b):=by
 by_cases e:a=b
 ·subst e; simp
 ·have h:¬ (Sum.inr a:Key)=Sum.inr b:=fun q=>e (Sum.inr.inj q)
  rw [aP h,aP e]
theorem afR (a:Int) (b:Str):decide ((Sum.inl a:Key)=Sum.inr b)=false:=aP (fun q=>nomatch q)
theorem afS (a:Str) (b:Int):decide ((Sum.inr a:Key)=Sum.inl b)=false:=aP (fun q=>nomatch q)
noncomputable def Ci (prog:bZ) (w:World):PySem.KeyKind prog w Key where
 is:=Zi
 hash:=axe w
 inj:=fun v a b ha hb=>by
  rcases gh ha with ⟨i,t,rfl,rfl⟩ | ⟨x,t,rfl,rfl⟩
  ·rcases gh hb with ⟨j,u,rfl,e⟩ | ⟨y,u,rfl,e⟩
   ·injection e with e1 _; rw [e1]
   ·exact nomatch e
  ·rcases gh hb with ⟨j,u,rfl,e⟩ | ⟨y,u,rfl,e⟩
   ·exact nomatch e
   ·injection e with e1 _; rw [e1]
 byValue:=fun k v h=>by
  rcases gh h with ⟨i,t,rfl,rfl⟩ | ⟨x,t,rfl,rfl⟩ <;> rfl
 pyHash:=fun hv h=>by
  rcases gh hv with ⟨i,t,rfl,rfl⟩ | ⟨x,t,rfl,rfl⟩
  ·exact wpAny_pyHash_int h
  ·exact wpAny_pyHash_str h
 eqBool:=fun hu hv h=>by
  rcases gh hu with ⟨i,t,rfl,rfl⟩ | ⟨x,t,rfl,rfl⟩
  ·rcases gh hv with ⟨j,u,rfl,rfl⟩ | ⟨y,u,rfl,rfl⟩
   ·rw [afP] at h; exact wpAny_eqBool_int h
   ·rw [afR] at h; exact SeqAt.EqAt.int_str i t y u _ _ _ _ h
  ·rcases gh hv with ⟨j,u,rfl,rfl⟩ | ⟨y,u,rfl,rfl⟩
   ·rw [afS] at h; exact SeqAt.EqAt.str_int x t j u _ _ _ _ h
   ·rw [afQ] at h; exact wpAny_eqBool_str h
 «strs»:=fun k x t v h=>by
  rcases gh h with ⟨i,u,rfl,e⟩ | ⟨y,u,rfl,e⟩
  ·exact nomatch e
  ·injection e with e1 _
   subst e1;cases v <;> rfl
inductive V where
 | non | bl (b:Bool) | int (i:Int) | str (x:Str) | KD (b:Array UInt8) | flt (b:UInt64) | ref (a:aB) | ty (n:String)
 deriving DecidableEq
noncomputable def RelV:V->aC->Prop
 | .non,u=>u=Value.none
 | .bl b,u=>u=Value.bool b
 | .int i,u=>∃ t,u=Value.int i t
 | .str x,u=>∃ t,u=Value.str x t
 | .KD b,u=>∃ t,u=Value.bytes b t
 | .flt b,u=>∃ t,u=Value.float b t
 | .ref a,u=>u=Value.ref a
 | .ty n,u=>u=Value.type n
abbrev Vals:List V->List aC->Prop:=Paired RelV
theorem Vals.length {xs:List V} {us:List aC} (r:Vals xs us):xs.length=us.length:=Paired.length r
theorem Vals.get:∀ {xs:List V} {us:List aC} {i:Nat} {x:V},Vals xs us->xs[i]?=some x->∃ u,us[i]?=some u/\RelV x u
 | _,_,_,_,.nil,e=>by simp at e
 | _,_,0,_,.cons r _,e=>by simp at e; subst e; exact ⟨_,rfl,r⟩
 | _,_,i + 1,x,.cons _ t,e=>by
  obtain ⟨u,h1,h2⟩:=Vals.get (i:=i) (x:=x) t (by simpa using e);exact ⟨u,by simpa using h1,h2⟩
theorem Vals.set {x:V} {u:aC} (r:RelV x u):∀ {xs:List V} {us:List aC} (i:Nat),Vals xs us->Vals (xs.set i x) (us.set i u)
 | _,_,_,.nil=>.nil
 | _,_,0,.cons _ t=>.cons r t
 | _,_,i + 1,.cons q t=>.cons q (Vals.set r i t)
theorem Vals.append:∀ {xs ys:List V} {us ws:List aC},Vals xs us->Vals ys ws->Vals (xs++ys) (us++ws)
 | _,_,_,_,.nil,s=>s
 | _,_,_,_,.cons r t,s=>.cons r (Vals.append t s)
theorem Vals.take:∀ {xs:List V} {us:List aC} (n:Nat),Vals xs us->Vals (xs.take n) (us.take n)
 | _,_,0,_=>.nil
 | _,_,_ + 1,.nil=>.nil
 | _,_,n + 1,.cons r t=>.cons r (Vals.take n t)
theorem Vals.drop:∀ {xs:List V} {us:List aC} (n:Nat),Vals xs us->Vals (xs.drop n) (us.drop n)
 | _,_,0,r=>r
 | _,_,_ + 1,.nil=>.nil
 | _,_,n + 1,.cons _ t=>Vals.drop n t
theorem Vals.none_of:∀ {xs:List V} {us:List aC} {i:Nat},Vals xs us->xs[i]?=none->us[i]?=none:=fun {xs us i} r e=>by
 have h1:=r.length;have h2:xs.length<=i:=List.getElem?_eq_none_iff.mp e;exact List.getElem?_eq_none_iff.mpr (by omega)
def zM:Option V->Option aC->Prop
 | some v,some u=>RelV v u
 | none,none=>True
 | _,_=>False
def KV {κ:Type}:List (κ × V)->List (κ × aC)->Prop:=Paired fun (p:κ × V) (q:κ × aC)=>p.1=q.1/\RelV p.2 q.2
def kV:Key->V
 | .inl i=>.int i
 | .inr x=>.str x
inductive HO where
 | lst (xs:List V)
 | tup (xs:List V)
 | dK (kvs:List (Key × V)) | dT (kvs:List (List Key × V))
 | set (S:Int->Bool) (n:Nat)
 | ins (C dx:aB) (fs:List (Str × V))
 | own (x:aB)
 | xd (fs:List (Str × V))
 | met (f x:aB)
 | rng (lo hi:Int)
 | Cj (o:Obj) (u:HO)
 | xg (ps:Array aC)
 | ext (φ:Heap->Prop)
abbrev Hp:=aB->Option HO
def upd (H:Hp) (a:aB) (o:HO):Hp:=fun b=>if b=a then some o else H b
theorem aG {H:Hp} {a:aB} {o:HO}:upd H a o a=some o:=by unfold upd; rw [if_pos rfl]
theorem bw {H:Hp} {a b:aB} {o:HO} (h:b≠a):upd H a o b=H b:=by unfold upd; rw [if_neg h]
theorem lK {H:Hp} {a:aB} {o u:HO}:upd (upd H a o) a u=upd H a u:=by
 funext b; unfold upd; split <;> rfl
theorem vR {H:Hp} {a b:aB} {o u:HO} (h:H a=some o) (h':H b=some u) (d:o≠u):a≠b:=by
 intro e; subst e; rw [h] at h'; exact d (bN h')
theorem cV {H:Hp} {a b:aB} {o:HO} (h:H a=some o) (h':H b=none):a≠b:=by
 intro e; subst e; rw [h] at h'; cases h'
section
variable (P:bZ) (w:World)
noncomputable def fV (H:Hp) (h:Heap) (a:aB):HO->Prop
 | .lst xs=>xs.length<=sizeLine/\∃ (its:List aC) (n:Nat),Vals xs its/\h.get? a=some { cls:=.type "list",data:=.seq its.toArray n }
 | .tup xs=>xs.length<=sizeLine/\∃ its:List aC,Vals xs its/\IsTup h a its.toArray
 | .dK kvs=>kvs.length<=sizeLine/\(a == sysModules)=false/\∃ vs,KV kvs vs/\h.DictOf (Ci P w) a vs
 | .dT kvs=>kvs.length<=sizeLine/\(a == sysModules)=false/\∃ xs:List (List Key × aB × aC),Paired (fun (p:List Key × V) (q:List Key × aB × aC)=>p.1=q.1/\H q.2.1=some (.tup (p.1.map kV))/\RelV p.2 q.2.2) kvs xs /\ ∃ o es ep,h.get? a=some o/\o.ExactDict/\o.data=.dict es ep/\es.toList=xs.map (entryOfKey (tupleKind (Ci P w)))/\(xs.map (·.1)).Nodup
 | .set S n=>h.SetOf (intKind P w) a S n
 | .ins C dx fs=>H dx=some (.own a)/\fs.length<=1000/\dx≠a/\h.get? a=some (instObj C dx) /\ ∃ mA,h.Ns1 dx mA/\(∀ f,zM (fs.lookup f) (mA f))/\PySem.Within mA (fs.map (·.1))
 | .own _=>∃ o,h.get? a=some o
 | .xd fs=>∃ mA,h.Ns1 a mA/\∀ f,zM (fs.lookup f) (mA f)
 | .rng lo hi=>∃ t u v,h.get? a=some { cls:=.type "range",data:=.fields #[.int lo t,.int hi u,.int 1 v] }
 | .Cj o u=>h.get? a=some o/\fV H h a u
 | .xg ps=>h.get? a=some { cls:=.none,data:=.fields ps }
 | .met f x=>h.get? a=some (methodObj (.ref f) (.ref x))
 | .ext φ=>φ h/\(∃ o,h.get? a=some o)/\∀ h1 h2:Heap,φ h1->(∀ o,h1.get? a=some o->h2.get? a=some o)->φ h2
def uw (H:Hp) (h:Heap):Prop:=∀ a o,H a=some o->fV P w H h a o
end
section
variable {P:bZ} {w:World} {H H':Hp} {h h':Heap} {a:aB} {o:HO}
theorem fV.lt (x:fV P w H h a o):a < h.objs.size:=by
 cases o with
 | lst xs=>obtain ⟨_,_,_,_,e⟩:=x; exact Heap.lt_size e
 | tup xs=>obtain ⟨_,_,_,p⟩:=x; exact p.lt
 | dK kvs=>obtain ⟨_,_,_,_,o,_,_,e,_⟩:=x; exact Heap.lt_size e
 | dT kvs=>obtain ⟨_,_,_,_,o,_,_,e,_⟩:=x; exact Heap.lt_size e
 | set S n=>obtain ⟨o,_,_,_,e,_⟩:=x; exact Heap.lt_size e
 | ins C dx fs=>obtain ⟨_,_,_,e,_⟩:=x; exact Heap.lt_size e
 | own y=>obtain ⟨_,e⟩:=x; exact Heap.lt_size e
 | xd fs=>obtain ⟨_,⟨_,_,_,e,_⟩,_⟩:=x; exact Heap.lt_size e
 | rng lo hi=>obtain ⟨_,_,_,e⟩:=x; exact Heap.lt_size e
 | Cj ob u=>obtain ⟨e,_⟩:=x; exact Heap.lt_size e
 | xg ps=>exact Heap.lt_size (show h.get? a=some _ from x)
 | met f y=>exact Heap.lt_size (show h.get? a=some _ from x)
 | ext φ=>obtain ⟨_,⟨_,e⟩,_⟩:=x; exact Heap.lt_size e
theorem Paired.jd {α β:Type} {F G:α->β->Prop}:∀ {l₁:List α} {l₂:List β},Paired F l₁ l₂->(∀ a b,F a b->G a b)->Paired G l₁ l₂
 | _,_,.nil,_=>.nil
 | _,_,.cons r t,f=>.cons (f _ _ r) (Paired.jd t f)
theorem fV.stay (x:fV P w H h a o) (k:∀ b u,(b=a\/H b=some (.own a))->h.get? b=some u->h'.get? b=some u) (ho:∀ b,H b=some (.own a)->H' b=some (.own a)) (ht:∀ b xs,H b=some (.tup xs)->H' b=some (.tup xs)):fV P w H' h' a o:=by
 induction o with
 | lst xs=>obtain ⟨z,its,n,r,e⟩:=x; exact ⟨z,its,n,r,k _ _ (.inl rfl) e⟩
 | tup xs=>obtain ⟨z,its,r,ob,e,c⟩:=x; exact ⟨z,its,r,ob,k _ _ (.inl rfl) e,c⟩
 | dK kvs=>obtain ⟨z,y,vs,r,ob,es,ep,e,c⟩:=x; exact ⟨z,y,vs,r,ob,es,ep,k _ _ (.inl rfl) e,c⟩
 | dT kvs =>
  obtain ⟨z,y,xs,r,ob,es,ep,e,c⟩:=x;exact ⟨z,y,xs,Paired.jd r fun p q z=>⟨z.1,ht _ _ z.2.1,z.2.2⟩,ob,es,ep,k _ _ (.inl rfl) e,c⟩
 | set S n=>obtain ⟨ob,es,ep,t,e,c⟩:=x; exact ⟨ob,es,ep,t,k _ _ (.inl rfl) e,c⟩
 | ins C dx fs =>
  obtain ⟨d,z,ne,e,mA,⟨od,es,ep,e2,c⟩,r⟩:=x;exact ⟨ho _ d,z,ne,k _ _ (.inl rfl) e,mA,⟨od,es,ep,k _ _ (.inr d) e2,c⟩,r⟩
 | own y=>obtain ⟨ob,e⟩:=x; exact ⟨ob,k _ _ (.inl rfl) e⟩
 | xd fs=>obtain ⟨mA,⟨od,es,ep,e,c⟩,r⟩:=x; exact ⟨mA,⟨od,es,ep,k _ _ (.inl rfl) e,c⟩,r⟩
 | rng lo hi=>obtain ⟨t,u,v,e⟩:=x; exact ⟨t,u,v,k _ _ (.inl rfl) e⟩
 | Cj ob u ih=>obtain ⟨e,q⟩:=x; exact ⟨k _ _ (.inl rfl) e,ih q⟩
 | xg ps =>
  have e:h.get? a=some { cls:=.none,data:=.fields ps }:=x
  show h'.get? a=some { cls:=.none,data:=.fields ps }
  exact k a _ (.inl rfl) e
 | met f y =>
  have e:h.get? a=some (methodObj (.ref f) (.ref y)):=x
  show h'.get? a=some (methodObj (.ref f) (.ref y))
  exact k a _ (.inl rfl) e
 | ext φ=>obtain ⟨p,⟨o,e⟩,st⟩:=x; exact ⟨st _ _ p fun o q=>k _ _ (.inl rfl) q,⟨o,k _ _ (.inl rfl) e⟩,st⟩
theorem uw.lt (x:uw P w H h) (e:H a=some o):a < h.objs.size:=(x a o e).lt
theorem uw.fresh (x:uw P w H h) (e:h.objs.size<=a):H a=none:=by
 cases q:H a with
 | none=>rfl
 | some u=>exact absurd (aZ (x.lt q) e) (cM _)
theorem uw.kept (x:uw P w H h) (k:∀ b u,h.get? b=some u->h'.get? b=some u):uw P w H h':=fun a o e =>
 (x a o e).stay (fun b u _ q=>k b u q) (fun _ q=>q) fun _ _ q=>q
theorem uw.laid (x:uw P w H h) (k:∀ b u,h.get? b=some u->h'.get? b=some u) (hp:h.objs.size<=a) (new:fV P w (upd H a o) h' a o):uw P w (upd H a o) h':=fun b u e=>by
 have hn:=x.fresh hp
 by_cases hb:b=a
 ·subst hb; rw [aG] at e; cases e; exact new
 ·rw [bw hb] at e;exact (x b u e).stay (fun c v _ q=>k c v q) (fun c q=>by rw [bw (cV q hn)]; exact q) fun c xs q=>by rw [bw (cV q hn)]; exact q
end
def Rd (H:Hp) (a:aB) (u:HO):Prop:=H a=some u\/∃ o,H a=some (.Cj o u)
theorem Rd.ok {P:bZ} {w:World} {H:Hp} {h:Heap} {a:aB} {u:HO} (r:Rd H a u) (x:uw P w H h):fV P w H h a u:=by
 rcases r with r | ⟨o,r⟩
 ·exact x a u r
 ·obtain ⟨_,q⟩:=x a _ r;exact q
def Mut:Option HO->Prop
 | some (.lst _)=>True
 | some (.dK _)=>True
 | some (.dT _)=>True
 | some (.set _ _)=>True
 | some (.ins _ _ _)=>True
 | some (.ext _)=>True
 | _=>False
section
variable {P:bZ} {w:World} {H:Hp} {h h':Heap} {x e:aB} {o':HO}
theorem uw.write (ok:uw P w H h) (mu:Mut (H x)) (he:e=x\/H e=some (.own x)) (k:∀ b u,b≠e->h.get? b=some u->h'.get? b=some u) (heo:∃ u,h'.get? e=some u) (new:fV P w (upd H x o') h' x o'):uw P w (upd H x o') h':=fun b u q=>by
 have am4:∀ c y,H c=some (.own y)->c≠x:=fun c y r z=>by subst z; rw [r] at mu; exact mu
 have axf:∀ c xs,H c=some (.tup xs)->c≠x:=fun c xs r z=>by subst z; rw [r] at mu; exact mu
 by_cases hb:b=x
 ·subst hb; rw [aG] at q; cases q; exact new
 ·rw [bw hb] at q
  by_cases hbe:b=e
  ·have q':H b=some (.own x):=by
    rcases he with z | z
    ·exact absurd (hbe.trans z) hb
    ·rw [hbe]; exact z
   rw [q] at q'; cases q';obtain ⟨v,hv⟩:=heo;exact ⟨v,by rw [hbe]; exact hv⟩
  ·refine (ok b u q).stay (fun c v hc r=>k c v ?_ r) (fun c r=>by rw [bw (am4 c b r)]; exact r) fun c xs r=>by rw [bw (axf c xs r)]; exact r
   rcases hc with rfl | hc
   ·exact hbe
   ·rintro rfl;rcases he with z | z
    ·exact am4 c b hc z
    ·rw [hc] at z; cases z; exact hb rfl
end
structure Un (fs ex:List aB) (H H':Hp) (h h':Heap):Prop where
 keep:∀ b o,h.get? b=some o->H b=none->b ∉ fs->b ∉ ex->h'.get? b=some o
 slot:∀ b o,h.get? b=some o->H b=none->b ∈ fs->b ∉ ex->∃ sl,h'.get? b=some { o with slots:=sl }
 free:∀ b o,h.get? b=some o->H b=none->b ∉ ex->H' b=none
 there:∀ b o,h.get? b=some o->b ∉ ex->∃ o',h'.get? b=some o'
 tups:∀ b xs,H b=some (.tup xs)->H' b=some (.tup xs)
 wu:∀ b o u,H b=some (.Cj o u)->H' b=some (.Cj o u)
 wz:∀ b ps,H b=some (.xg ps)->∃ more,H' b=some (.xg (ps++more))
section
variable {fs fs' ex ex':List aB} {H H1 H2:Hp} {h h1 h2 h':Heap} {a x e:aB} {o:HO}
theorem Un.any (u:Un fs ex H H1 h h1) {b:aB} {ob:Obj} (q:h.get? b=some ob) (n:H b=none) (hx:b ∉ ex):∃ sl,h1.get? b=some { ob with slots:=sl }:=by
 by_cases hb:b ∈ fs
 ·exact u.slot b ob q n hb hx
 ·exact ⟨ob.slots,u.keep b ob q n hb hx⟩
theorem Un.kept (k:∀ b u,h.get? b=some u->h'.get? b=some u):Un fs ex H H h h' := ⟨fun b ob q _ _ _=>k b ob q,fun b ob q _ _ _=>⟨ob.slots,k b ob q⟩,fun _ _ _ n _=>n,fun b ob q _=>⟨ob,k b ob q⟩,fun _ _ q=>q,fun _ _ _ q=>q,fun _ ps q=>⟨#[],by rw [q]; simp⟩⟩
theorem Un.refl:Un fs ex H H h h:=Un.kept fun _ _ q=>q
theorem Un.laid (k:∀ b u,h.get? b=some u->h'.get? b=some u) (hp:h.objs.size<=a) (hn:H a=none):Un fs ex H (upd H a o) h h' where
 keep:=fun b u q _ _ _=>k b u q
 slot:=fun b u q _ _ _=>⟨u.slots,k b u q⟩
 free:=fun b u q n _=>by rw [bw (Nat.ne_of_lt (aZ (Heap.lt_size q) hp))]; exact n
 there:=fun b u q _=>⟨u,k b u q⟩
 tups:=fun b xs q=>by rw [bw (cV q hn)]; exact q
 wu:=fun b u xs q=>by rw [bw (cV q hn)]; exact q
 wz:=fun b ps q=>⟨#[],by rw [bw (cV q hn),q]; simp⟩
theorem Un.write (mu:Mut (H x)) (he:e=x\/H e=some (.own x)) (k:∀ b u,b≠e->h.get? b=some u->h'.get? b=some u) (heo:∃ u,h'.get? e=some u):Un fs ex H (upd H x o) h h':=by
 have hx:∀ b,H b=none->b≠x:=fun b n z=>by subst z; rw [n] at mu; exact mu
 have hb:∀ b,H b=none->b≠e:=fun b n z=>by
  subst z;rcases he with r | r
  ·exact hx b n r
  ·rw [n] at r; cases r
 have hm:∀ b u,H b=some u->¬ Mut (some u)->b≠x:=fun b u q nm z=>by subst z; rw [q] at mu; exact nm mu
 refine ⟨fun b u q n _ _=>k b u (hb b n) q,fun b u q n _ _=>⟨u.slots,k b u (hb b n) q⟩,fun b u q n _=>by rw [bw (hx b n)]; exact n,fun b u q _=>?_,fun b xs q=>by rw [bw (hm b _ q fun z=>z)]; exact q,fun b u xs q=>by rw [bw (hm b _ q fun z=>z)]; exact q,fun b ps q=>⟨#[],by rw [bw (hm b _ q fun z=>z),q]; simp⟩⟩
 by_cases hbe:b=e
 ·subst hbe; exact heo
 ·exact ⟨u,k b u hbe q⟩
end
def trk (h:Heap) (H:Hp):List aB:=(List.range h.objs.size).filter fun a=>(H a).isSome
def rQ (h:Heap) (H:Hp):Heap:=PySem.W.hideAll h (trk h H)
theorem z8 (h:Heap) (H:Hp):(rQ h H).objs.size=h.objs.size:=PySem.W.hideAll_size _ _
theorem xq {h:Heap} {H:Hp} {b:aB} {o:Obj} (e:h.get? b=some o) (n:H b=none):(rQ h H).get? b=some o := PySem.W.hideAll_get _ e fun hm=>by
 have q:(H b).isSome=true:=(mem_filter.mp hm).2;rw [n] at q; simp at q
theorem Ck {h:Heap} {H:Hp} {b:aB} {o:Obj} (e:(rQ h H).get? b=some o):h.get? b=some o/\H b=none:=by
 have e':h.get? b=some o:=PySem.W.of_hideAll (trk h H) e;refine ⟨e',?_⟩;cases q:H b with
 | none=>rfl
 | some x =>
  have hm:b ∈ trk h H:=mem_filter.mpr ⟨mem_range.mpr (Heap.lt_size e'),by simp [q]⟩;have z:(rQ h H).get? b=none:=PySem.W.hideAll_none (trk h H) hm;rw [z] at e; cases e
structure Mod (K:Fg) (mg:Str->Option aC) (base:Heap):Prop where
 Pq:K.In base
 glob:base.Ns mainGlobals mg
 blt:∃ mb,base.Ns builtinsNs mb/\∀ x:Str,x≠"__name__"->mb x=bootBuiltins x
 nolimit:base.NoLimit
structure Cx where
 prog:bZ
 w:World
 K:Fg
 mg:Str->Option aC
 base:Heap
 A:dB
 N:List Str
 s₀:aV
 H₀:Hp
 env:Env
 outer:List Env
 stack:List Env
 ex:List aB
 fn:Str->Bool
 calm:Bool
 pn:List (aB × Obj)
 xe:aC->aV->Prop
def frs (l:List Env):List aB:=l.filterMap (·.frame)
abbrev Cx.fs (X:Cx):List aB:=frs X.outer
def Vis (sc:Scope) (x:Str):Prop:=sc.names.lookup x=some .local\/sc.names.lookup x=some .cell\/sc.names.lookup x=some .free
def Loc (sc:Scope) (x:Str):Prop:=sc.names.lookup x=some .local\/sc.names.lookup x=some .cell
noncomputable def Look (env:Env) (h:Heap) (m:Str->Option aC) (x:Str) (u:aC):Prop := (env.kindOf x=some .local/\m x=some u)\/((env.kindOf x=some .cell\/env.kindOf x=some .free)/\∃ c,env.cells.lookup x=some c/\h.IsCell c (some u))
structure Cx.Ok (X:Cx):Prop where
 mod:Mod X.K X.mg X.base
 kind:X.env.scope.kind=.function
 glob:X.env.globals=mainGlobals
 blt:X.env.builtins=builtinsNs
 above:X.s₀.heap.objs.size<=X.env.locals
 inj:∀ x y c,X.env.cells.lookup x=some c->X.env.cells.lookup y=some c->x=y
 has:∀ x,(X.env.kindOf x=some .cell\/X.env.kindOf x=some .free)->∃ c,X.env.cells.lookup x=some c
 cab:∀ x c,X.fn x=true->X.env.cells.lookup x=some c->X.s₀.heap.objs.size<=c
 hd:X.calm=true->X.A.handled=none
 frames:X.A.frames=some X.stack
 stk:X.stack=X.outer\/(X.stack=X.env::X.outer/\X.env.frame=some X.env.locals)
 exf:∀ b ∈ X.ex,b≠X.env.locals/\∀ x c,X.env.cells.lookup x=some c->c≠b
 bs:∀ b o,X.base.get? b=some o->X.s₀.heap.get? b=some o/\X.H₀ b=none
 M9:X.base.objs.size<=X.s₀.heap.objs.size
 Nb:∀ b o,X.base.get? b=some o->b ∉ X.ex
 Pz:∀ b ∈ X.ex,b ∉ X.fs
 oV:X.s₀.heap.FunFrames X.base X.outer
 Vs:∀ b ∈ X.fs,X.H₀ b=none
structure Inv (X:Cx) (pins:List (aB × Obj)) (σ:List (Option V)) (H:Hp) (s:aV):Prop where
 ok:X.Ok
 os:s.os=X.s₀.os
 bare:AllBare s.gens
 base:Un X.fs X.ex X.H₀ H X.s₀.heap s.heap
 loc:∃ m,s.heap.Ns X.env.locals m/\∀ (i:Nat) (x:Str) (v:V),X.N[i]?=some x->σ[i]?=some (some v)->Vis X.env.scope x->∃ u,RelV v u/\Look X.env s.heap m x u
 cell:∀ x c,X.env.cells.lookup x=some c->∃ v,s.heap.IsCell c v
 free:H X.env.locals=none
 jr:∀ x c,X.env.cells.lookup x=some c->H c=none
 pin:∀ p ∈ X.pn++pins,s.heap.get? p.1=some p.2/\H p.1=none/\p.1≠X.env.locals/\p.1 ∉ X.fs/\∀ v,p.2.data≠.cell v
 hok:uw X.prog X.w H s.heap
 len:σ.length=X.N.length
section
variable {X:Cx} {pins:List (aB × Obj)} {σ:List (Option V)} {H H':Hp} {s:aV} {h':Heap}
theorem Cx.Ok.axh (ok:X.Ok) {b:aB} {o:Obj} (e:X.base.get? b=some o):b ∉ X.fs:=fun hb=>by
 have:=(ok.oV.mem hb).1;rw [e] at this; cases this
theorem Inv.bs (I:Inv X pins σ H s):∀ b o,X.base.get? b=some o->s.heap.get? b=some o/\H b=none:=fun b o e =>
 ⟨I.base.keep b o (I.ok.bs b o e).1 (I.ok.bs b o e).2 (I.ok.axh e) (I.ok.Nb b o e),I.base.free b o (I.ok.bs b o e).1 (I.ok.bs b o e).2 (I.ok.Nb b o e)⟩
theorem Inv.bk (I:Inv X pins σ H s):∀ b o,X.base.get? b=some o->s.heap.get? b=some o:=fun b o e=>(I.bs b o e).1
theorem Inv.mod (I:Inv X pins σ H s):Mod X.K X.mg X.base:=I.ok.mod
theorem Inv.oU (I:Inv X pins σ H s):X.K.In s.heap:=I.ok.mod.Pq.keeps I.bk
theorem Inv.fr (I:Inv X pins σ H s):∃ m,Fr X.base X.env.locals s.heap m := let ⟨m,hn,_⟩:=I.loc
 ⟨m,hn,I.bk,bH I.ok.M9 I.ok.above⟩
theorem Inv.lt (I:Inv X pins σ H s):X.env.locals < s.heap.objs.size:=let ⟨_,hn,_⟩:=I.loc; hn.lt
theorem Inv.sz (I:Inv X pins σ H s):X.s₀.heap.objs.size<=s.heap.objs.size:=bH I.ok.above (Nat.le_of_lt I.lt)
theorem Inv.axi (I:Inv X pins σ H s) {a:aB} (h:s.heap.objs.size<=a):a ∉ X.fs:=fun hb=>by
 obtain ⟨_,o,ho,_⟩:=I.ok.oV.mem hb;exact absurd (aZ (Heap.lt_size ho) (bH I.sz h)) (cM _)
theorem Inv.Zj (I:Inv X pins σ H s):∀ x c,X.env.cells.lookup x=some c->c≠X.env.locals:=fun x c e z=>by
 obtain ⟨v,o,ho,hd⟩:=I.cell x c e;obtain ⟨m,⟨o',es,ep,ho',hd',_⟩,_⟩:=I.loc;rw [z,ho'] at ho; cases ho; rw [hd'] at hd; cases hd
theorem Inv.oV (I:Inv X pins σ H s):s.heap.FunFrames X.base X.outer:=by
 have all:∀ (l:List Env),(∀ b ∈ frs l,b ∈ X.fs)->X.s₀.heap.FunFrames X.base l->s.heap.FunFrames X.base l:=by
  intro l
  induction l with
  | nil=>intro _ _; trivial
  | cons env r ih =>
   intro hs hl;obtain ⟨hk,⟨L,o,hf,hn,ho,hd⟩,hr⟩:=hl;have hL:L ∈ X.fs:=hs L (by unfold frs; rw [filterMap_cons,hf]; exact mem_cons_self);obtain ⟨sl,e⟩:=I.base.slot L o ho (I.ok.Vs L hL) hL fun z=>I.ok.Pz L z hL
   exact ⟨hk,⟨L,_,hf,hn,e,hd⟩,ih (fun b hb=>hs b (by unfold frs; rw [filterMap_cons,hf]; exact mem_cons_of_mem _ hb)) hr⟩
 exact all X.outer (fun _ hb=>hb) I.ok.oV
theorem Inv.stack (I:Inv X pins σ H s):s.heap.FunFrames X.base X.stack:=by
 rcases I.ok.stk with e | ⟨e,hf⟩
 ·rw [e]; exact I.oV
 ·rw [e];obtain ⟨m,hn,_⟩:=I.loc;refine .cons (by rw [I.ok.kind]; decide) hf hn ?_ I.oV;exact Heap.get?_none_of_le (bH I.ok.M9 I.ok.above)
theorem Inv.qK (I:Inv X pins σ H s):∀ b ∈ frs X.stack,b ∈ X.env.locals::X.fs:=fun b hb=>by
 rcases I.ok.stk with e | ⟨e,hf⟩
 ·rw [e] at hb; exact mem_cons_of_mem _ hb
 ·rw [e] at hb;unfold frs at hb;rw [filterMap_cons,hf] at hb;exact hb
theorem Inv.wJ (I:Inv X pins σ H s):∀ b ∈ frs X.stack,H b=none:=fun b hb=>by
 rcases aQ.mp (I.qK b hb) with e | hb
 ·rw [e]; exact I.free
 ·obtain ⟨_,o,ho,_⟩:=I.ok.oV.mem hb;exact I.base.free b o ho (I.ok.Vs b hb) fun z=>I.ok.Pz b z hb
theorem Inv.step {g':Array GenState} {t':Nat} {d':Drawn} {ch:List aB} (I:Inv X pins σ H s) (hch:∀ b ∈ ch,(b ∈ X.ex\/X.s₀.heap.objs.size<=b)/\b≠X.env.locals/\(∀ x c,X.env.cells.lookup x=some c->c≠b)/\∀ p ∈ X.pn++pins,p.1≠b) (keep:∀ b o,b≠X.env.locals->b ∉ X.fs->b ∉ ch->s.heap.get? b=some o->H b=none->h'.get? b=some o) (slot:∀ b o,b≠X.env.locals->b ∈ X.fs->b ∉ ch->s.heap.get? b=some o->H b=none->∃ sl,h'.get? b=some { o with slots:=sl }) (free:∀ b o,b ∉ ch->s.heap.get? b=some o->H b=none->H' b=none) (there:∀ b o,b ∉ ch->s.heap.get? b=some o->∃ o',h'.get? b=some o') (tups:∀ b xs,H b=some (.tup xs)->H' b=some (.tup xs)) (wu:∀ b o u,H b=some (.Cj o u)->H' b=some (.Cj o u)) (wz:∀ b ps,H b=some (.xg ps)->∃ more,H' b=some (.xg (ps++more))) (ns:∀ m,s.heap.Ns X.env.locals m->h'.Ns X.env.locals m) (hok:uw X.prog X.w H' h') (hg:AllBare g') : Inv X pins σ H' { s with heap:=h',gens:=g',drawn:=d',toks:=t' }:=by
 have Zk:∀ b o,X.s₀.heap.get? b=some o->b≠X.env.locals:=fun b o e=>Nat.ne_of_lt (aZ (Heap.lt_size e) I.ok.above)
 have Zm:∀ b o,X.s₀.heap.get? b=some o->b ∉ X.ex->b ∉ ch:=fun b o e hx hb=>by
  rcases (hch b hb).1 with z | z
  ·exact hx z
  ·exact absurd (aZ (Heap.lt_size e) z) (cM _)
 have cellK:∀ x c,X.env.cells.lookup x=some c->∀ v,s.heap.IsCell c v->h'.IsCell c v:=fun x c e v ⟨o,ho,hd⟩=>by
  have PJ:c ∉ ch:=fun z=>(hch c z).2.2.1 x c e rfl
  by_cases hc:c ∈ X.fs
  ·obtain ⟨sl,q⟩:=slot c o (I.Zj x c e) hc PJ ho (I.jr x c e);exact ⟨_,q,hd⟩
  ·exact ⟨o,keep c o (I.Zj x c e) hc PJ ho (I.jr x c e),hd⟩
 refine ⟨I.ok,I.os,hg,⟨fun b o e n hb hx=>?_,fun b o e n hb hx=>?_,fun b o e n hx=>?_,fun b o e hx=>?_,fun b xs e=>tups b xs (I.base.tups b xs e),fun b o xs e=>wu b o xs (I.base.wu b o xs e),fun b ps e=>?_⟩,?_,fun x c e=>?_,?_,fun x c e=>?_,fun p hp=>?_,hok,I.len⟩
 ·exact keep b o (Zk b o e) hb (Zm b o e hx) (I.base.keep b o e n hb hx) (I.base.free b o e n hx)
 ·obtain ⟨sl,e1⟩:=I.base.slot b o e n hb hx;obtain ⟨sl',e2⟩:=slot b _ (Zk b o e) hb (Zm b o e hx) e1 (I.base.free b o e n hx);exact ⟨sl',e2⟩
 ·obtain ⟨o',e1⟩:=I.base.there b o e hx;exact free b o' (Zm b o e hx) e1 (I.base.free b o e n hx)
 ·obtain ⟨o',e1⟩:=I.base.there b o e hx;exact there b o' (Zm b o e hx) e1
 ·obtain ⟨m1,e1⟩:=I.base.wz b ps e;obtain ⟨m2,e2⟩:=wz b _ e1;exact ⟨m1++m2,by rw [e2,Array.append_assoc]⟩
 ·obtain ⟨m,hn,hl⟩:=I.loc;refine ⟨m,ns m hn,fun i x v e1 e2 e3=>?_⟩;obtain ⟨u,r,l⟩:=hl i x v e1 e2 e3;refine ⟨u,r,?_⟩;rcases l with l | ⟨k,c,e,z⟩
  ·exact .inl l
  ·exact .inr ⟨k,c,e,cellK x c e _ z⟩
 ·obtain ⟨v,z⟩:=I.cell x c e;exact ⟨v,cellK x c e v z⟩
 ·obtain ⟨m,⟨o,_,_,ho,_⟩,_⟩:=I.loc;exact free _ o (fun z=>(hch _ z).2.1 rfl) ho I.free
 ·obtain ⟨v,o,ho,hd⟩:=I.cell x c e;exact free c o (fun z=>(hch c z).2.2.1 x c e rfl) ho (I.jr x c e)
 ·obtain ⟨e,n,ne,nf,d⟩:=I.pin p hp;have PJ:p.1 ∉ ch:=fun z=>(hch p.1 z).2.2.2 p hp rfl
  exact ⟨keep p.1 p.2 ne nf PJ e n,free p.1 p.2 PJ e n,ne,nf,d⟩
theorem Inv.un {t':Nat} (I:Inv X pins σ H s) (u:Un X.fs [] H H' s.heap h') (hok:uw X.prog X.w H' h'):Inv X pins σ H' { s with heap:=h',toks:=t' }:=by
 obtain ⟨m,⟨o,es,ep,ho,r⟩,_⟩:=id I.loc;obtain ⟨sl,hL⟩:=u.any ho I.free (by simp);exact I.step (g':=s.gens) (d':=s.drawn) (ch:=[]) (fun _ z=>nomatch z) (fun b o _ hb _ e n=>u.keep b o e n hb (by simp)) (fun b o _ hb _ e n=>u.slot b o e n hb (by simp)) (fun b o _ e n=>u.free b o e n (by simp)) (fun b o _ e=>u.there b o e (by simp)) u.tups u.wu u.wz (fun m' hm=>by
  obtain ⟨o',es',ep',ho',r'⟩:=hm;rw [ho] at ho'; cases ho';exact ⟨_,es',ep',hL,r'⟩) hok I.bare
theorem Inv.call {g':Array GenState} {t':Nat} {d':Drawn} {ch:List aB} (I:Inv X pins σ H s) (u:Un (frs X.stack) ch H H' s.heap h') (hok:uw X.prog X.w H' h') (hg:AllBare g') (hch:∀ b ∈ ch,(b ∈ X.ex\/X.s₀.heap.objs.size<=b)/\b≠X.env.locals/\(∀ x c,X.env.cells.lookup x=some c->c≠b)/\∀ p ∈ X.pn++pins,p.1≠b) : Inv X pins σ H' { s with heap:=h',gens:=g',drawn:=d',toks:=t' }:=by
 obtain ⟨m,⟨o,es,ep,ho,r⟩,_⟩:=id I.loc;obtain ⟨sl,hL⟩:=u.any ho I.free fun z=>(hch _ z).2.1 rfl
 exact I.step (ch:=ch) hch (fun b o hL hb hc e n=>u.keep b o e n (fun z=>(aQ.mp (I.qK b z)).elim hL hb) hc) (fun b o _ _ hc e n=>u.any e n hc) (fun b o hc e n=>u.free b o e n hc) (fun b o hc e=>u.there b o e hc) u.tups u.wu u.wz (fun m' hm=>by
  obtain ⟨o',es',ep',ho',r'⟩:=hm;rw [ho] at ho'; cases ho';exact ⟨_,es',ep',hL,r'⟩) hok hg
theorem Inv.turned {t':Nat} {it:aB} (I:Inv X pins σ H s) (k:∀ b o,b≠it->s.heap.get? b=some o->h'.get? b=some o) (hn:H it=none) (hL:it≠X.env.locals) (h1:it ∈ X.ex\/X.s₀.heap.objs.size<=it) (h2:∀ x c,X.env.cells.lookup x=some c->c≠it) (h3:∀ p ∈ X.pn++pins,p.1≠it):Inv X pins σ H { s with heap:=h',toks:=t' }:=by
 have nit:∀ b u,H b=some u->b≠it:=fun b u e z=>by rw [z,hn] at e; cases e
 refine I.step (g':=s.gens) (d':=s.drawn) (ch:=[it]) (fun b hb=>?_) (fun b o _ _ hc e _=>k b o (fun z=>hc (by simp [z])) e) (fun b o _ _ hc e _=>⟨o.slots,k b o (fun z=>hc (by simp [z])) e⟩) (fun _ _ _ _ n=>n) (fun b o hc e=>⟨o,k b o (fun z=>hc (by simp [z])) e⟩) (fun _ _ e=>e) (fun _ _ _ e=>e) (fun b ps e=>⟨#[],by rw [e]; simp⟩) (fun m hm=>?_) (fun b u e=>?_) I.bare
 ·have e:b=it:=by simpa using hb
  subst e;exact ⟨h1,hL,h2,h3⟩
 ·obtain ⟨o,es,ep,ho,r⟩:=hm;exact ⟨o,es,ep,k _ o (Ne.symm hL) ho,r⟩
 ·refine (I.hok b u e).stay (fun c v hc q=>k c v ?_ q) (fun _ q=>q) fun _ _ q=>q
  rcases hc with z | z
  ·rw [z]; exact nit b u e
  ·exact nit c _ z
theorem Inv.tok (I:Inv X pins σ H s) (t:Nat):Inv X pins σ H { s with toks:=t }:=I.un (h':=s.heap) (t':=t) Un.refl I.hok
theorem Inv.kept {t':Nat} (I:Inv X pins σ H s) (k:∀ b u,s.heap.get? b=some u->h'.get? b=some u):Inv X pins σ H { s with heap:=h',toks:=t' }:=I.un (Un.kept k) (I.hok.kept k)
theorem Inv.laid {a:aB} {o:HO} {t':Nat} (I:Inv X pins σ H s) (k:∀ b u,s.heap.get? b=some u->h'.get? b=some u) (hp:s.heap.objs.size<=a) (new:fV X.prog X.w (upd H a o) h' a o) : Inv X pins σ (upd H a o) { s with heap:=h',toks:=t' }:=I.un (Un.laid k hp (I.hok.fresh hp)) (I.hok.laid k hp new)
theorem Inv.write {x e:aB} {o:HO} {t':Nat} (I:Inv X pins σ H s) (mu:Mut (H x)) (he:e=x\/H e=some (.own x)) (k:∀ b u,b≠e->s.heap.get? b=some u->h'.get? b=some u) (heo:∃ u,h'.get? e=some u) (new:fV X.prog X.w (upd H x o) h' x o):Inv X pins σ (upd H x o) { s with heap:=h',toks:=t' }:=I.un (Un.write mu he k heo) (I.hok.write mu he k heo new)
theorem Inv.weak {σ':List (Option V)} (I:Inv X pins σ H s) (hl:σ'.length=σ.length) (w:∀ (i:Nat) v,σ'[i]?=some (some v)->σ[i]?=some (some v)):Inv X pins σ' H s := ⟨I.ok,I.os,I.bare,I.base,let ⟨m,hn,hl'⟩:=I.loc; ⟨m,hn,fun i x v e1 e2 e3=>hl' i x v e1 (w i v e2) e3⟩,I.cell,I.free,I.jr,I.pin,I.hok,hl.trans I.len⟩
theorem Inv.KJ {oH:List (aB × Obj)} (I:Inv X pins σ H s) (h:∀ p ∈ oH,s.heap.get? p.1=some p.2/\H p.1=none/\p.1≠X.env.locals/\p.1 ∉ X.fs/\∀ v,p.2.data≠.cell v):Inv X oH σ H s := ⟨I.ok,I.os,I.bare,I.base,I.loc,I.cell,I.free,I.jr,fun p hp=>(mem_append.mp hp).elim (fun z=>I.pin p (mem_append_left _ z)) (h p),I.hok,I.len⟩
theorem El {N:List Str} (hN:N.Nodup) {i j:Nat} {x:Str} (a:N[i]?=some x) (b:N[j]?=some x):i=j:=by
 obtain ⟨h1,e1⟩:=aD.mp a;obtain ⟨h2,e2⟩:=aD.mp b;exact (List.getElem_inj hN).mp (e1.trans e2.symm)
theorem z9 {M:Model} {A:dB} {E:aC->aV->Prop} {i:Nat} {x:Str} {v:V} {u:aC} {Q:Unit->aV->Prop} (I:Inv X pins σ H s) (hN:X.N.Nodup) (hi:X.N[i]?=some x) (hx:Loc X.env.scope x) (r:RelV v u) (h:∀ s',Inv X pins (σ.set i (some v)) H s'->(∃ a,Heap.SameBut a s.heap s'.heap/\(a=X.env.locals\/X.env.cells.lookup x=some a))->Q () s') (hf:autoParam (X.fn x=true\/X.env.scope.names.lookup x=some .local) zau2):wpAny M A (storeName X.env x u) Q E s:=by
 obtain ⟨m,hn,hl⟩:=id I.loc;have hcls:(X.env.scope.kind == .class || (X.env.scope.kind == .module && X.env.locals != X.env.globals))=false:=by rw [I.ok.kind]; rfl
 have hiσ:i < σ.length:=by rw [I.len]; exact (aD.mp hi).1
 have Zj:=I.Zj;have tracked:∀ {a:aB} {h':Heap},(∃ o,s.heap.get? a=some o/\H a=none)->Heap.SameBut a s.heap h'->uw X.prog X.w H h':=fun {a h'} ha hs b ob e=>by
  obtain ⟨_,_,hfree⟩:=ha;refine (I.hok b ob e).stay (fun c w' hc q=>(hs.2 c ?_).trans q) (fun _ q=>q) fun _ _ q=>q
  rintro rfl;rcases hc with rfl | hc
  ·rw [hfree] at e; cases e
  ·rw [hfree] at hc; cases hc
 rcases hx with hk | hk
 ·refine wpAny_storeName_local hk hn (fun h' hn' hs=>?_) hcls;obtain ⟨oL,_,_,hoL,_⟩:=id hn;refine h _ ⟨I.ok,I.os,I.bare,⟨fun b o e n hb hx=>?_,fun b o e n hb hx=>?_,I.base.free,fun b o e hx=>?_,I.base.tups,I.base.wu,I.base.wz⟩,⟨_,hn',fun j y v' e1 e2 e3=>?_⟩,fun y c e=>?_,I.free,I.jr,fun p hp=>?_,tracked ⟨oL,hoL,I.free⟩ hs,by simpa using I.len⟩ ⟨_,hs,.inl rfl⟩
  ·exact (hs.2 b (Nat.ne_of_lt (aZ (Heap.lt_size e) I.ok.above))).trans (I.base.keep b o e n hb hx)
  ·obtain ⟨sl,e1⟩:=I.base.slot b o e n hb hx;exact ⟨sl,(hs.2 b (Nat.ne_of_lt (aZ (Heap.lt_size e) I.ok.above))).trans e1⟩
  ·obtain ⟨o',e1⟩:=I.base.there b o e hx;exact ⟨o',(hs.2 b (Nat.ne_of_lt (aZ (Heap.lt_size e) I.ok.above))).trans e1⟩
  ·by_cases hj:j=i
   ·subst hj;rw [hi] at e1; cases e1;rw [List.getElem?_set_self hiσ] at e2;cases e2;exact ⟨u,r,.inl ⟨hk,by simp⟩⟩
   ·rw [List.getElem?_set_ne (Ne.symm hj)] at e2;obtain ⟨u',r',q⟩:=hl j y v' e1 e2 e3;refine ⟨u',r',?_⟩;rcases q with ⟨k,e⟩ | ⟨k,c,e,z⟩
    ·refine .inl ⟨k,?_⟩;have:y≠x:=fun e=>hj (El hN e1 (e ▸ hi))
     simp [this,e]
    ·exact .inr ⟨k,c,e,z.sameBut hs (Zj y c e)⟩
  ·obtain ⟨w',z⟩:=I.cell y c e;exact ⟨w',z.sameBut hs (Zj y c e)⟩
  ·obtain ⟨e,n,ne,nf,d⟩:=I.pin p hp;exact ⟨(hs.2 p.1 ne).trans e,n,ne,nf,d⟩
 ·have hfn:X.fn x=true:=by
   rcases hf with z | z
   ·exact z
   ·rw [z] at hk; cases hk
  obtain ⟨c,hc⟩:=I.ok.has x (.inl hk);obtain ⟨w',z⟩:=I.cell x c hc;refine wpAny_storeName_cell I.ok.kind hk hc z (fun h' hc' hs=>?_);obtain ⟨oc,hoc,axj⟩:=id z;refine h { s with heap:=h' } ⟨I.ok,I.os,I.bare,⟨fun b o e n hb hx=>?_,fun b o e n hb hx=>?_,I.base.free,fun b o e hx=>?_,I.base.tups,I.base.wu,I.base.wz⟩,⟨m,hn.sameBut hs (Ne.symm (Zj x c hc)),fun j y v' e1 e2 e3=>?_⟩,fun y c' e=>?_,I.free,I.jr,fun p hp=>?_,tracked ⟨oc,hoc,I.jr x c hc⟩ hs,by simpa using I.len⟩ ⟨c,hs,.inr hc⟩
  ·exact (hs.2 b (Nat.ne_of_lt (aZ (Heap.lt_size e) (I.ok.cab x c hfn hc)))).trans (I.base.keep b o e n hb hx)
  ·obtain ⟨sl,e1⟩:=I.base.slot b o e n hb hx;exact ⟨sl,(hs.2 b (Nat.ne_of_lt (aZ (Heap.lt_size e) (I.ok.cab x c hfn hc)))).trans e1⟩
  ·obtain ⟨o',e1⟩:=I.base.there b o e hx;exact ⟨o',(hs.2 b (Nat.ne_of_lt (aZ (Heap.lt_size e) (I.ok.cab x c hfn hc)))).trans e1⟩
  ·by_cases hj:j=i
   ·subst hj;rw [hi] at e1; cases e1;rw [List.getElem?_set_self hiσ] at e2;cases e2;exact ⟨u,r,.inr ⟨.inl hk,c,hc,hc'⟩⟩
   ·rw [List.getElem?_set_ne (Ne.symm hj)] at e2;obtain ⟨u',r',q⟩:=hl j y v' e1 e2 e3;refine ⟨u',r',?_⟩;rcases q with q | ⟨k,c',e,z'⟩
    ·exact .inl q
    ·refine .inr ⟨k,c',e,z'.sameBut hs ?_⟩;rintro rfl;exact hj (El hN e1 (I.ok.inj _ _ _ e hc ▸ hi))
  ·by_cases hcc:c'=c
   ·subst hcc; exact ⟨_,hc'⟩
   ·obtain ⟨w2,z2⟩:=I.cell y c' e;exact ⟨w2,z2.sameBut hs hcc⟩
  ·obtain ⟨e,n,ne,nf,d⟩:=I.pin p hp;refine ⟨(hs.2 p.1 ?_).trans e,n,ne,nf,d⟩;intro q;rw [q,hoc] at e;have q':oc=p.2:=bN e;exact d w' (by rw [<- q']; exact axj)
theorem rR {M:Model} {A:dB} {E:aC->aV->Prop} {i:Nat} {x:Str} {v:V} {u:aC} {Q:Unit->aV->Prop} (I:Inv X pins σ H s) (hN:X.N.Nodup) (hi:X.N[i]?=some x) (hx:Loc X.env.scope x) (r:RelV v u) (h:∀ s',Inv X pins (σ.set i (some v)) H s'->Q () s') (hf:autoParam (X.fn x=true\/X.env.scope.names.lookup x=some .local) zau2):wpAny M A (storeName X.env x u) Q E s := z9 I hN hi hx r (fun s' I' _=>h s' I') hf
theorem Inv.call' {s':aV} {ch:List aB} (I:Inv X pins σ H s) (ho:s'.os=s.os) (u:Un (frs X.stack) ch H H' s.heap s'.heap) (hok:uw X.prog X.w H' s'.heap) (hg:AllBare s'.gens) (hch:∀ b ∈ ch,(b ∈ X.ex\/X.s₀.heap.objs.size<=b)/\b≠X.env.locals/\(∀ x c,X.env.cells.lookup x=some c->c≠b)/\∀ p ∈ X.pn++pins,p.1≠b):Inv X pins σ H' s':=by
 obtain ⟨h',g',d',t',o'⟩:=s';have e:o'=s.os:=ho;subst e;exact I.call (g':=g') (t':=t') (d':=d') u hok hg hch
end
abbrev XK:=aC->Option aB->Hp->Prop
abbrev St:=List (Option V)
abbrev VK:=V->Hp->Prop
abbrev TE:=St->Hp->VK->Prop
abbrev TT:=St->Hp->(Bool->Hp->Prop)->Prop
abbrev TA:=St->Hp->(List V->Hp->Prop)->Prop
structure Ends where
 nx:St->Hp->Prop
 rt:VK
 bk:St->Hp->Prop:=fun _ _=>False
 ct:St->Hp->Prop:=fun _ _=>False
abbrev TS:=Ends->St->Hp->Prop
def EP (X:Cx) (pins:List (aB × Obj)) (σ:St) (Q:VK) (u:aC) (s':aV):Prop:=∃ v H',Inv X pins σ H' s'/\RelV v u/\Q v H'
def TP (X:Cx) (pins:List (aB × Obj)) (σ:St) (Q:Bool->Hp->Prop) (b:Bool) (s':aV):Prop:=∃ H',Inv X pins σ H' s'/\Q b H'
def AP (X:Cx) (pins:List (aB × Obj)) (σ:St) (Q:List V->Hp->Prop) (us:List aC) (s':aV):Prop:=∃ vs H',Inv X pins σ H' s'/\Vals vs us/\Q vs H'
noncomputable def SP (X:Cx) (pins:List (aB × Obj)) (D:Ends) (f:Flow) (s':aV):Prop := match f with
 | .next=>∃ σ' H',Inv X pins σ' H' s'/\D.nx σ' H'
 | .brk=>∃ σ' H',Inv X pins σ' H' s'/\D.bk σ' H'
 | .cont=>∃ σ' H',Inv X pins σ' H' s'/\D.ct σ' H'
 | .ret u=>∃ v σ' H',Inv X pins σ' H' s'/\RelV v u/\D.rt v H'
def PE (X:Cx) (e:Expr) (t:TE):Prop := ∀ (pins:List (aB × Obj)) (s:aV) (σ:St) (H:Hp) (Q:VK),Inv X pins σ H s->t σ H Q->wpAny (model X.prog X.w) X.A (eval e X.env) (EP X pins σ Q) X.xe s
noncomputable def PT (X:Cx) (e:Expr) (t:TT):Prop := ∀ (pins:List (aB × Obj)) (s:aV) (σ:St) (H:Hp) (Q:Bool->Hp->Prop),Inv X pins σ H s->t σ H Q->wpAny (model X.prog X.w) X.A (isTrue e X.env (eval e X.env)) (TP X pins σ Q) X.xe s
noncomputable def PW (X:Cx) (e:Expr) (t:TT):Prop := ∀ (whole:Sem aC) (pins:List (aB × Obj)) (s:aV) (σ:St) (H:Hp) (Q:Bool->Hp->Prop),Inv X pins σ H s->t σ H Q->wpAny (model X.prog X.w) X.A (isTrue e X.env whole) (TP X pins σ Q) X.xe s
theorem PW.pt {X:Cx} {e:Expr} {t:TT} (h:PW X e t):PT X e t:=h _
noncomputable def PA (X:Cx) (es:List Expr) (t:TA):Prop := ∀ (pos:Pos) (pins:List (aB × Obj)) (s:aV) (σ:St) (H:Hp) (Q:List V->Hp->Prop),Inv X pins σ H s->t σ H Q->wpAny (model X.prog X.w) X.A (spliced (backTo pos (starEach es X.env))) (AP X pins σ Q) X.xe s
def PS (X:Cx) (st:cX) (t:TS):Prop := ∀ (pins:List (aB × Obj)) (s:aV) (σ:St) (H:Hp) (D:Ends),Inv X pins σ H s->t D σ H->wpAny (model X.prog X.w) X.A (exec st X.env) (SP X pins D) X.xe s
def zH (X:Cx) (st:List cX) (t:TS):Prop := ∀ (pins:List (aB × Obj)) (s:aV) (σ:St) (H:Hp) (D:Ends),Inv X pins σ H s->t D σ H->wpAny (model X.prog X.w) X.A (execs st X.env) (SP X pins D) X.xe s
theorem eY {α:Type} {t:Sem α} {Q Q':α->aV->Prop} {M:Model} {A:dB} {E:aC->aV->Prop} {s:aV} (h:wpAny M A t Q E s) (hQ:∀ a s,Q a s->Q' a s):wpAny M A t Q' E s:=wpAny_mono h hQ fun _ _ x=>x
section
variable {X:Cx}
theorem bin {a b:Expr} {ta tb:TE} (ha:PE X a ta) (hb:PE X b tb) {pins:List (aB × Obj)} {s:aV} {σ:St} {H:Hp} {R:V->V->Hp->Prop} (I:Inv X pins σ H s) (h:ta σ H fun x H1=>tb σ H1 fun y H2=>R x y H2) {α:Type} {Q:α->aV->Prop} {f:aC->aC->Sem α} (hf:∀ v u s2 x y H2,Inv X pins σ H2 s2->RelV x v->RelV y u->R x y H2->wpAny (model X.prog X.w) X.A (f v u) Q X.xe s2) : wpAny (model X.prog X.w) X.A (eval a X.env) (fun v s₁=>wpAny (model X.prog X.w) X.A (eval b X.env) (fun u s₂=>wpAny (model X.prog X.w) X.A (f v u) Q X.xe s₂) X.xe s₁) X.xe s:=by
 refine eY (ha pins s σ H _ I h) fun v s1 ⟨x,H1,I1,r1,q1⟩=>?_
 refine eY (hb pins s1 σ H1 _ I1 q1) fun u s2 ⟨y,H2,I2,r2,q2⟩=>?_
 exact hf v u s2 x y H2 I2 r1 r2 q2
def afT (i:Nat):TE:=fun σ H Q=>∃ v,σ[i]?=some (some v)/\Q v H
def tC (v:V):TE:=fun _ H Q=>Q v H
theorem PL {i:Nat} {x:Str} {pos:Pos} (hN:X.N[i]?=some x) (hv:Vis X.env.scope x) (hd:autoParam ((x == ("__debug__":Str))=false) zau1) (hcd:autoParam ((x == ("__classdict__":Str))=false) zau1):PE X (.Name x pos) (afT i):=by
 intro pins s σ H Q I h;obtain ⟨v,e,h⟩:=h;obtain ⟨m,hn,hl⟩:=I.loc;obtain ⟨u,r,l⟩:=hl i x v hN e hv;have fin:EP X pins σ Q u s:=⟨v,H,I,r,h⟩;rcases l with ⟨hk,hm⟩ | ⟨hk,c,hc,hcell⟩
 ·exact wpAny_Name (wpAny_loadName_local I.ok.kind hk hn hm fin) hd
 ·rcases hk with hk | hk
  ·exact wpAny_Name (wpAny_loadName_cell I.ok.kind hk hc hcell fin) hd
  ·exact wpAny_Name (wpAny_loadName_free I.ok.kind hk hc hcell fin hcd) hd
theorem aR {i j pos}:PE X (.Constant (.int i) j pos) (tC (.int i)):=fun _ _ _ H _ I h=>wpAny_Constant_int ⟨.int i,H,I.tok _,⟨_,rfl⟩,h⟩
theorem lM {b j pos}:PE X (.Constant (.bool b) j pos) (tC (.bl b)):=fun _ _ _ H _ I h=>Constant_bool ⟨.bl b,H,I,rfl,h⟩
theorem jJ {j pos}:PE X (.Constant .none j pos) (tC .non):=fun _ _ _ H _ I h=>Constant_none ⟨.non,H,I,rfl,h⟩
theorem ig {x j pos}:PE X (.Constant (.str x) j pos) (tC (.str x)):=fun _ _ _ H _ I h=>Calls.Constant_str ⟨.str x,H,I.tok _,⟨_,rfl⟩,h⟩
def Gl (X:Cx) (x:Str):Prop:=X.env.kindOf x=some .globalImplicit
theorem lO {E:aC->aV->Prop} {pins:List (aB × Obj)} {s:aV} {σ:St} {H:Hp} {x:Str} {u:aC} {pos:Pos} {Q:aC->aV->Prop} (I:Inv X pins σ H s) (hg:Gl X x) (hm:X.mg x=some u) (h:Q u s) (hd:autoParam ((x == ("__debug__":Str))=false) zau1):wpAny (model X.prog X.w) X.A (eval (.Name x pos) X.env) Q E s := Calls.Name_function_global I.ok.kind hg (Calls.loadGlobal_global (by rw [I.ok.glob]; exact I.mod.glob.keeps I.bk) hm h) hd
theorem lV {E:aC->aV->Prop} {pins:List (aB × Obj)} {s:aV} {σ:St} {H:Hp} {x:Str} {u:aC} {pos:Pos} {Q:aC->aV->Prop} (I:Inv X pins σ H s) (hg:Gl X x) (hm:X.mg x=none) (hv:bootBuiltins x=some u) (h:Q u s) (hn:autoParam (x≠"__name__") zau1) (hd:autoParam ((x == ("__debug__":Str))=false) zau1):wpAny (model X.prog X.w) X.A (eval (.Name x pos) X.env) Q E s:=by
 obtain ⟨mb,h1,h2⟩:=I.mod.blt;exact Calls.Name_function_global I.ok.kind hg (Calls.loadGlobal_builtin (by rw [I.ok.glob]; exact I.mod.glob.keeps I.bk) hm (by rw [I.ok.blt]; exact h1.keeps I.bk) ((h2 x hn).trans hv) h) hd
theorem KN {x:Str} {v:V} {u:aC} {pos:Pos} (hg:Gl X x) (hm:X.mg x=some u) (r:RelV v u) (hd:autoParam ((x == ("__debug__":Str))=false) zau1):PE X (.Name x pos) (tC v) := fun _ _ _ H _ I h=>lO I hg hm ⟨v,H,I,r,h⟩ hd
theorem Wy {x:Str} {v:V} {u:aC} {pos:Pos} (hg:Gl X x) (hm:X.mg x=none) (hv:bootBuiltins x=some u) (r:RelV v u) (hn:autoParam (x≠"__name__") zau1) (hd:autoParam ((x == ("__debug__":Str))=false) zau1):PE X (.Name x pos) (tC v) := fun _ _ _ H _ I h=>lV I hg hm hv ⟨v,H,I,r,h⟩ hn hd
variable {a b:Expr} {ta tb:TE} {pos:Pos}
noncomputable def PC (X:Cx) (op:CmpOp) (a b:Expr) (t:TE):Prop := ∀ (pins:List (aB × Obj)) (s:aV) (σ:St) (H:Hp) (Q:VK),Inv X pins σ H s->t σ H Q -> wpAny (model X.prog X.w) X.A (eval a X.env) (fun v s₁=>wpAny (model X.prog X.w) X.A (eval b X.env) (fun u s₂=>wpAny (model X.prog X.w) X.A (compareOp op v u) (EP X pins σ Q) X.xe s₂) X.xe s₁) X.xe s
def tB (t:TE):TT:=fun σ H Q=>t σ H fun x H1=>∃ c,x=.bl c/\Q c H1
theorem axk {op:CmpOp} {t:TE} (h:PC X op a b t) (h1:behindInMarks op b=false:=by first | exact am6 _ (by decide) (by decide) | rfl):PT X (.Compare a [op] [b] pos) (tB t):=by
 intro pins s σ H Q I hw;refine wpAny_isTrue_Compare1 (eY (h pins s σ H _ I hw) fun v s1 h1=>eY h1 fun u s2 h2=>eY h2 fun c s3 ⟨x,H1,I1,r1,q1⟩=>?_) h1;obtain ⟨d,rfl,q⟩:=q1;cases r1;exact wpAny_truthy_bool ⟨H1,I1,q⟩
theorem fW {e:Expr} {t:TE} (h:PE X e t) (he:autoParam (∀ whole,isTrue e X.env whole=(do let v <- whole; standAt e.pos; holding [v] (truthy v))) zau3):PT X e (tB t):=by
 intro pins s σ H Q I hw;refine isTrue_plain (eY (h pins s σ H _ I hw) fun v s1 ⟨x,H1,I1,r1,q1⟩=>?_) (he _);obtain ⟨d,rfl,q⟩:=q1;cases r1;exact wpAny_truthy_bool ⟨H1,I1,q⟩
variable {tA tB':TT} {rest:List Expr}
def axl (t u:TT):TT:=fun σ H Q=>t σ H fun c H1=>if c=true then u σ H1 Q else Q false H1
def tOr (t u:TT):TT:=fun σ H Q=>t σ H fun c H1=>if c=true then Q true H1 else u σ H1 Q
def axm (t:TT):TT:=fun σ H Q=>t σ H fun c H1=>Q (!c) H1
theorem pw_and1 (ha:PT X a tA):PW X (.BoolOp .And [a] pos) tA:=by
 intro wh pins s σ H Q I h;refine isTrue_and (eY (ha pins s σ H Q I h) fun c s1 e=>?_);cases c with
 | true=>exact isTrue_and_nil e
 | false=>exact e
theorem pw_or1 (ha:PT X a tA):PW X (.BoolOp .Or [a] pos) tA:=by
 intro wh pins s σ H Q I h;refine isTrue_or (eY (ha pins s σ H Q I h) fun c s1 e=>?_);cases c with
 | false=>exact isTrue_or_nil e
 | true=>exact e
theorem pw_and (ha:PT X a tA) (hb:PW X (.BoolOp .And (b::rest) pos) tB'):PW X (.BoolOp .And (a::b::rest) pos) (axl tA tB'):=by
 intro wh pins s σ H Q I h;refine isTrue_and (eY (ha pins s σ H _ I h) fun c s1 ⟨H1,I1,q1⟩=>?_);cases c with
 | true=>exact hb wh pins s1 σ H1 Q I1 q1
 | false=>exact ⟨H1,I1,q1⟩
theorem pw_or (ha:PT X a tA) (hb:PW X (.BoolOp .Or (b::rest) pos) tB'):PW X (.BoolOp .Or (a::b::rest) pos) (tOr tA tB'):=by
 intro wh pins s σ H Q I h;refine isTrue_or (eY (ha pins s σ H _ I h) fun c s1 ⟨H1,I1,q1⟩=>?_);cases c with
 | true=>exact ⟨H1,I1,q1⟩
 | false=>exact hb wh pins s1 σ H1 Q I1 q1
theorem gq (ha:PT X a tA):PT X (.UnaryOp .Not a pos) (axm tA):=by
 intro pins s σ H Q I h;exact isTrue_not (ha pins s σ H (fun c H1=>Q (!c) H1) I h)
def am7 (ta tb:TE):TE:=fun σ H Q=>ta σ H fun x H1=>∃ c,x=.bl c/\if c=true then tb σ H1 Q else Q (.bl false) H1
theorem PN {op} {t:TE} (h:PE X a t):PE X (.BoolOp op [a] pos) t:=fun pins s σ H Q I hw=>BoolOp_one (h pins s σ H Q I hw)
theorem HX (ha:PE X a ta) (hb:PE X (.BoolOp .And (b::rest) pos) tb):PE X (.BoolOp .And (a::b::rest) pos) (am7 ta tb):=by
 intro pins s σ H Q I h;refine BoolOp_and (eY (ha pins s σ H _ I h) fun v s1 ⟨x,H1,I1,r1,q1⟩=>?_);obtain ⟨c,rfl,q1⟩:=q1;cases r1;refine wpAny_truthy_bool ?_;cases c with
 | true=>exact hb pins s1 σ H1 Q I1 q1
 | false=>exact ⟨.bl false,H1,I1,rfl,q1⟩
def tIf (t:TT) (ta tb:TE):TE:=fun σ H Q=>t σ H fun c H1=>if c=true then ta σ H1 Q else tb σ H1 Q
theorem xr {c:Expr} (hc:PT X c tA) (ha:PE X a ta) (hb:PE X b tb):PE X (.IfExp c a b pos) (tIf tA ta tb):=by
 intro pins s σ H Q I h;refine wpAny_IfExp (eY (hc pins s σ H _ I h) fun d s1 ⟨H1,I1,q1⟩=>?_);cases d with
 | true=>exact ha pins s1 σ H1 Q I1 q1
 | false=>exact hb pins s1 σ H1 Q I1 q1
end
noncomputable def cW (K:Fg) (H:Hp) (a:aB) (xs:List V):Prop := Rd H a (.lst xs) \/ ∃ (o:Obj) (its:Array aC) (n:Nat),K.lookup a=some o/\o.cls=.type "list"/\o.dict=none/\o.data=.seq its n/\its.size<=sizeLine/\Vals xs its.toList
def d8 (K:Fg) (H:Hp) (a:aB) (xs:List V):Prop := Rd H a (.tup xs) \/ ∃ (o:Obj) (its:Array aC) (n:Nat),K.lookup a=some o/\o.cls=.type "tuple"/\o.data=.seq its n/\its.size<=sizeLine/\Vals xs its.toList
noncomputable def axn:aC->Option V
 | .none=>some .non
 | .bool b=>some (.bl b)
 | .int i _=>some (.int i)
 | .str x _=>some (.str x)
 | .bytes b _=>some (.KD b)
 | .float b _=>some (.flt b)
 | .ref a=>some (.ref a)
 | .type n=>some (.ty n)
 | _=>none
theorem RelV.abs {x:V} {u:aC} (r:RelV x u):axn u=some x:=by
 cases x with
 | non=>cases r; rfl
 | bl _=>cases r; rfl
 | int _=>obtain ⟨t,rfl⟩:=r; rfl
 | str _=>obtain ⟨t,rfl⟩:=r; rfl
 | KD _=>obtain ⟨t,rfl⟩:=r; rfl
 | flt _=>obtain ⟨t,rfl⟩:=r; rfl
 | ref _=>cases r; rfl
 | ty _=>cases r; rfl
theorem RelV.inj {x y:V} {u:aC} (r:RelV x u) (q:RelV y u):x=y:=bN (r.abs.symm.trans q.abs)
theorem Vals.inj:∀ {xs ys:List V} {us:List aC},Vals xs us->Vals ys us->xs=ys
 | _,_,_,.nil,.nil=>rfl
 | _,_,_,.cons r t,.cons r' t'=>by rw [r.inj r',Vals.inj t t']
section
variable {X:Cx} {pins:List (aB × Obj)} {σ:St} {H:Hp} {s:aV} {a:aB} {xs ys:List V}
theorem cW.of {K:Fg} (h:H a=some (.lst xs)):cW K H a xs:=.inl (.inl h)
theorem d8.of {K:Fg} (h:H a=some (.tup xs)):d8 K H a xs:=.inl (.inl h)
theorem Inv.list (I:Inv X pins σ H s) (h:cW X.K H a xs):∃ its:List aC,Vals xs its/\PlainL s.heap a its.toArray/\xs.length<=sizeLine:=by
 rcases h with h | ⟨o,its,n,hk,hc,hd,hs,hz,r⟩
 ·obtain ⟨z,its,n,r,e⟩:=h.ok I.hok;exact ⟨its,r,⟨_,n,e,rfl,rfl,rfl⟩,z⟩
 ·refine ⟨its.toList,r,⟨o,n,I.oU a o hk,hc,hd,by simpa using hs⟩,?_⟩;have e:=r.length;simp only [Array.length_toList] at e;omega
theorem Inv.tuple (I:Inv X pins σ H s) (h:d8 X.K H a xs):∃ its:List aC,Vals xs its/\IsTup s.heap a its.toArray/\xs.length<=sizeLine:=by
 rcases h with h | ⟨o,its,n,hk,hc,hs,hz,r⟩
 ·obtain ⟨z,its,r,p⟩:=h.ok I.hok;exact ⟨its,r,p,z⟩
 ·refine ⟨its.toList,r,⟨o,I.oU a o hk,hc,n,by simpa using hs⟩,?_⟩;have e:=r.length;simp only [Array.length_toList] at e;omega
theorem Inv.rT (I:Inv X pins σ H s) (h:cW X.K H a xs) (h':cW X.K H a ys):xs=ys:=by
 obtain ⟨its,r,⟨o,n,e,_,_,d⟩,_⟩:=I.list h;obtain ⟨its',r',⟨o',n',e',_,_,d'⟩,_⟩:=I.list h';rw [e] at e'; cases e';rw [d] at d';injection d' with d1 _;have:its=its':=by simpa using congrArg Array.toList d1
 subst this;exact r.inj r'
theorem Inv.Nf (I:Inv X pins σ H s) (h:d8 X.K H a xs) (h':d8 X.K H a ys):xs=ys:=by
 obtain ⟨its,r,⟨o,e,_,n,d⟩,_⟩:=I.tuple h;obtain ⟨its',r',⟨o',e',_,n',d'⟩,_⟩:=I.tuple h';rw [e] at e'; cases e';rw [d] at d';injection d' with d1 _;have:its=its':=by simpa using congrArg Array.toList d1
 subst this;exact r.inj r'
end
section
variable {X:Cx} {pins:List (aB × Obj)} {σ:St} {H:Hp} {s:aV} {E:aC->aV->Prop}
end
section
variable {X:Cx} {st:cX} {rest:List cX} {t u:TS} {e:Expr} {te:TE} {pos:Pos}
def am8:TS:=fun D σ H=>D.nx σ H
def axo (t u:TS):TS:=fun D σ H=>t { D with nx:=u D } σ H
theorem cA:zH X [] am8:=fun _ _ σ H _ I h=>wpAny_execs_nil ⟨σ,H,I,h⟩
theorem aJ (h1:PS X st t) (h2:zH X rest u):zH X (st::rest) (axo t u):=by
 intro pins s σ H D I h;refine wpAny_execs_cons (eY (h1 pins s σ H { D with nx:=u D } I h) fun f s1 q=>?_);cases f with
 | next =>
  obtain ⟨σ',H',I',q⟩:=q;exact h2 pins s1 σ' H' D I' q
 | ret v=>exact q
 | brk=>exact q
 | cont=>exact q
theorem aU (h1:PS X st t):zH X [st] t:=by
 intro pins s σ H D I h;refine wpAny_execs_cons (eY (h1 pins s σ H D I h) fun f s1 q=>?_);cases f with
 | next=>exact wpAny_execs_nil q
 | ret v=>exact q
 | brk=>exact q
 | cont=>exact q
theorem Inv.quiet {pins:List (aB × Obj)} {σ:St} {H:Hp} {s:aV} (I:Inv X pins σ H s):interactive X.env=false:=by simp [interactive,I.ok.kind]
def am9 (te:TE):TS:=fun D σ H=>te σ H fun _ H1=>D.nx σ H1
theorem iu (he:PE X e te) (hs:autoParam (swapsWith e none pos.line X.env=pure false) zau0):PS X (.Expr e pos) (am9 te):=by
 intro pins s σ H D I h;exact wpAny_Expr_any (eY (he pins s σ H _ I h) fun v s1 ⟨x,H1,I1,r1,q1⟩=>⟨σ,H1,I1,q1⟩) I.quiet hs
def axp (te:TE):TS:=fun D σ H=>te σ H D.rt
theorem bU (he:PE X e te):PS X (.Return (some e) pos) (axp te):=by
 intro pins s σ H D I h;exact wpAny_Return_some (eY (he pins s σ H _ I h) fun v s1 ⟨x,H1,I1,r1,q1⟩=>⟨x,σ,H1,I1,r1,q1⟩)
def axq (c:TT) (t u:TS):TS:=fun D σ H=>c σ H fun b H1=>if b=true then t D σ H1 else u D σ H1
theorem eE {c:Expr} {a b:List cX} {tc:TT} (hc:PT X c tc) (ha:zH X a t) (hb:zH X b u):PS X (.If c a b pos) (axq tc t u):=by
 intro pins s σ H D I h;refine wpAny_If (eY (hc pins s σ H _ I h) fun d s1 ⟨H1,I1,q1⟩=>?_);cases d with
 | true=>exact ha pins s1 σ H1 D I1 q1
 | false=>exact hb pins s1 σ H1 D I1 q1
end
abbrev TG:=V->St->Hp->(St->Hp->Prop)->Prop
abbrev Zn:=List V->St->Hp->(St->Hp->Prop)->Prop
noncomputable def PG (X:Cx) (target:Expr) (t:TG):Prop := ∀ (pins:List (aB × Obj)) (s:aV) (σ:St) (H:Hp) (v:V) (u:aC) (Q:St->Hp->Prop),Inv X pins σ H s->RelV v u->t v σ H Q -> wpAny (model X.prog X.w) X.A (assign target X.env u) (fun _ s'=>∃ σ' H',Inv X pins σ' H' s'/\Q σ' H') X.xe s
noncomputable def PGs (X:Cx) (ts:List Expr) (t:Zn):Prop := ∀ (pins:List (aB × Obj)) (s:aV) (σ:St) (H:Hp) (vs:List V) (us:List aC) (Q:St->Hp->Prop),Inv X pins σ H s->Vals vs us->t vs σ H Q -> wpAny (model X.prog X.w) X.A (assignInOrder ((assignEach ts X.env).map (·.2)) us) (fun _ s'=>∃ σ' H',Inv X pins σ' H' s'/\Q σ' H') X.xe s
abbrev PX:=V->V->V->Hp->(Hp->Prop)->Prop
noncomputable def afU (X:Cx) (t:PX):Prop := ∀ (pins:List (aB × Obj)) (s:aV) (σ:St) (H:Hp) (o i v:V) (ov iv u:aC) (Q:Hp->Prop),Inv X pins σ H s->RelV o ov->RelV i iv->RelV v u->t o i v H Q -> wpAny (model X.prog X.w) X.A (setItem ov iv u) (fun _ s'=>∃ H',Inv X pins σ H' s'/\Q H') X.xe s
abbrev TIp:=V->V->Hp->VK->Prop
noncomputable def PIp (X:Cx) (op:Operator) (t:TIp):Prop := ∀ (pins:List (aB × Obj)) (s:aV) (σ:St) (H:Hp) (x y:V) (v u:aC) (Q:VK),Inv X pins σ H s->RelV x v->RelV y u->t x y H Q -> wpAny (model X.prog X.w) X.A (inplaceOp op v u) (EP X pins σ Q) X.xe s
section
variable {X:Cx} {pos:Pos}
def Em (i:Nat):TG:=fun v σ H Q=>Q (σ.set i (some v)) H
theorem Wz {i:Nat} {x:Str} (hN:X.N.Nodup) (hi:X.N[i]?=some x) (hx:Loc X.env.scope x) (hf:autoParam (X.fn x=true\/X.env.scope.names.lookup x=some .local) zau2):PG X (.Name x pos) (Em i):=by
 intro pins s σ H v u Q I r h;exact wpAny_assign_Name (rR I hN hi hx r (fun s' I'=>⟨_,H,I',h⟩) hf)
def axr:Zn:=fun vs σ H Q=>vs=[]/\Q σ H
def anb (t:TG) (u:Zn):Zn:=fun vs σ H Q=>∃ v r,vs=v::r/\t v σ H fun σ' H'=>u r σ' H' Q
theorem gQ:PGs X [] axr:=by
 intro pins s σ H vs us Q I r h;obtain ⟨e,h⟩:=h;subst e;cases r;exact assignInOrder_nil ⟨σ,H,I,h⟩
theorem bY {e:Expr} {es:List Expr} {t:TG} {u:Zn} (h1:PG X e t) (h2:PGs X es u) (hs:autoParam ((assignEach (e::es) X.env).map (·.2)=assign e X.env::(assignEach es X.env).map (·.2)) zau0):PGs X (e::es) (anb t u):=by
 intro pins s σ H vs us Q I r h;obtain ⟨v,vr,e1,h⟩:=h;subst e1;cases r with
 | cons r rr =>
  rw [hs];refine assignInOrder_cons (eY (h1 pins s σ H _ _ _ I r h) fun _ s1 ⟨σ1,H1,I1,q1⟩=>?_);exact h2 pins s1 σ1 H1 _ _ Q I1 rr q1
def anc (K:Fg) (n:Nat) (t:Zn):TG:=fun v σ H Q=>∃ a xs,v=.ref a/\d8 K H a xs/\xs.length=n/\t xs σ H Q
theorem nM {es:List Expr} {k:Nat} {t:Zn} {n:Nat} (hc:X.calm=true) (h:PGs X es t) (hn:autoParam ((assignEach es X.env).length=n) zau0) (hst:autoParam ((assignEach es X.env).findIdx? (·.1)=none) zau0):PG X (.Tuple es k pos) (anc X.K n t):=by
 intro pins s σ H v u Q I r hw;obtain ⟨a,xs,e1,hq,hl,hw⟩:=hw;subst e1;cases r;obtain ⟨its,rv,ht,hz⟩:=I.tuple hq;refine assign_Tuple_tuple (I.ok.hd hc) ht (by simp [hn,<- hl,rv.length]) hst fun h' hx=>?_
 have I1:Inv X pins σ H { s with heap:=h' }:=I.kept (t':=s.toks) fun b o e=>hx b o (Nat.ne_of_lt (Heap.lt_size e)) e
 exact h pins _ σ H xs _ Q I1 (by simpa using rv) hw
def axt (to ti:TE) (t:PX):TG:=fun v σ H Q=>to σ H fun o H1=>ti σ H1 fun i H2=>t o i v H2 fun H3=>Q σ H3
theorem P0 {o i:Expr} {to ti:TE} {t:PX} (ho:PE X o to) (hi:PE X i ti) (hs:afU X t) (ha:autoParam (∀ v,assign (.Subscript o i pos) X.env v=(do
  let ov <- holding [v] (eval o X.env)
  let iv <- holding [v,ov] (eval i X.env)
  standAt pos
  holding [v,ov,iv] (setItem ov iv v)
  release [v,ov,iv] [])) zau3):PG X (.Subscript o i pos) (axt to ti t):=by
 intro pins s σ H v u Q I r h;rw [ha];refine aj (wpAny_holding (eY (ho pins s σ H _ I h) fun ov s1 ⟨x,H1,I1,r1,q1⟩=>?_));refine aj (wpAny_holding (eY (hi pins s1 σ H1 _ I1 q1) fun iv s2 ⟨y,H2,I2,r2,q2⟩=>?_));refine aj (wpAny_standAt (aj (wpAny_holding (eY (hs pins s2 σ H2 x y v ov iv u _ I2 r1 r2 r q2) fun _ s3 ⟨H3,I3,q3⟩=>?_))));exact wpAny_release ⟨σ,H3,I3,q3⟩
def afV (te:TE) (g:TG):TS:=fun D σ H=>te σ H fun x H1=>g x σ H1 D.nx
theorem Cm {tg e:Expr} {te:TE} {g:TG} (he:PE X e te) (hg:PG X tg g) (hs:autoParam (swapsWithSole [tg] e pos.line X.env=pure false) zau0) (hw:autoParam (swappedStores [tg] e X.env=pure none) zau0) (h1:autoParam ((assignEach [tg] X.env).map (·.2)=[assign tg X.env]) zau0):PS X (.Assign [tg] e pos) (afV te g):=by
 intro pins s σ H D I h;refine wpAny_Assign_stores (eY (he pins s σ H _ I h) fun v s1 ⟨x,H1,I1,r1,q1⟩=>?_) hs hw;rw [h1];exact eY (hg pins s1 σ H1 x v _ I1 r1 q1) fun _ s2 q=>q
theorem bF {i:Nat} {x:Str} {e:Expr} {te:TE} {pos':Pos} (hN:X.N.Nodup) (hi:X.N[i]?=some x) (hx:Loc X.env.scope x) (he:PE X e te) (hs:autoParam (swapsWith e (some (.Name x pos')) pos.line X.env=pure false) zau0) (hf:autoParam (X.fn x=true\/X.env.scope.names.lookup x=some .local) zau2) : PS X (.Assign [.Name x pos'] e pos) (afV te (Em i)):=by
 intro pins s σ H D I h;refine wpAny_Assign_Name (eY (he pins s σ H _ I h) fun v s1 ⟨y,H1,I1,r1,q1⟩=>?_) hs;exact rR I1 hN hi hx r1 (fun s2 I2=>⟨_,H1,I2,q1⟩) hf
def axu (i:Nat) (te:TE) (ti:TIp):TS:=fun D σ H=>∃ x,σ[i]?=some (some x)/\te σ H fun y H1=>ti x y H1 fun z H2=>D.nx (σ.set i (some z)) H2
theorem afW {i:Nat} {x:Str} {e:Expr} {te:TE} {op:Operator} {ti:TIp} {pos':Pos} (hN:X.N.Nodup) (hi:X.N[i]?=some x) (hx:Loc X.env.scope x) (he:PE X e te) (ho:PIp X op ti) (hf:autoParam (X.fn x=true\/X.env.scope.names.lookup x=some .local) zau2) : PS X (.AugAssign (.Name x pos') op e pos) (axu i te ti):=by
 intro pins s σ H D I h;obtain ⟨v,e1,h⟩:=h;obtain ⟨m,hn,hl⟩:=I.loc;have vis:Vis X.env.scope x:=by rcases hx with k | k; exact .inl k; exact .inr (.inl k)
 obtain ⟨u,r,l⟩:=hl i x v hi e1 vis;refine wpAny_AugAssign_Name ?_;have go:wpAny (model X.prog X.w) X.A (eval e X.env) (fun w s₂=>wpAny (model X.prog X.w) X.A (inplaceOp op u w) (fun r s₃=>wpAny (model X.prog X.w) X.A (storeName X.env x r) (fun _=>SP X pins D .next) X.xe s₃) X.xe s₂) X.xe s:=by
  refine eY (he pins s σ H _ I h) fun w s1 ⟨y,H1,I1,r1,q1⟩=>?_
  refine eY (ho pins s1 σ H1 v y u w _ I1 r r1 q1) fun z s2 ⟨zv,H2,I2,r2,q2⟩=>?_
  exact rR I2 hN hi hx r2 (fun s3 I3=>⟨_,H2,I3,q2⟩) hf
 rcases l with ⟨hk,hm⟩ | ⟨hk,c,hc,hcell⟩
 ·exact wpAny_loadName_local I.ok.kind hk hn hm go
 ·rcases hk with hk | hk
  ·exact wpAny_loadName_cell I.ok.kind hk hc hcell go
  ·rcases hx with k | k
   ·have:X.env.scope.names.lookup x=some .free:=hk;rw [k] at this; cases this
   ·have:X.env.scope.names.lookup x=some .free:=hk;rw [k] at this; cases this
noncomputable def ane (to ti te:TE) (WD:V->V->Hp->VK->Prop) (tip:TIp) (WK:PX):TS:=fun D σ H=>to σ H fun o H1=>ti σ H1 fun i H2=>WD o i H2 fun x H3=>te σ H3 fun y H4=>tip x y H4 fun z H5=>WK o i z H5 fun H6=>D.nx σ H6
noncomputable def anf (X:Cx) (t:V->V->Hp->VK->Prop):Prop := ∀ (pins:List (aB × Obj)) (s:aV) (σ:St) (H:Hp) (o i:V) (ov iv:aC) (Q:VK),Inv X pins σ H s->RelV o ov->RelV i iv->t o i H Q -> wpAny (model X.prog X.w) X.A (getItem ov iv) (EP X pins σ Q) X.xe s
theorem WL {o i e:Expr} {to ti te:TE} {WD:V->V->Hp->VK->Prop} {tip:TIp} {WK:PX} {op:Operator} {tpos:Pos} (ho:PE X o to) (hi:PE X i ti) (hg:anf X WD) (he:PE X e te) (hp:PIp X op tip) (hs:afU X WK) (ha:∀ ov iv new,augStore i ov iv new=(do holding [new,ov,iv] (setItem ov iv new); release [new,ov,iv] []; pure .next):=by intros; rfl):PS X (.AugAssign (.Subscript o i tpos) op e pos) (ane to ti te WD tip WK):=by
 intro pins s σ H D I h;refine wpAny_AugAssign_SubscriptAny (eY (ho pins s σ H _ I h) fun ov s1 ⟨x1,H1,I1,r1,q1⟩=>?_) ha;refine eY (hi pins s1 σ H1 _ I1 q1) fun iv s2 ⟨x2,H2,I2,r2,q2⟩=>?_
 refine eY (hg pins s2 σ H2 x1 x2 ov iv _ I2 r1 r2 q2) fun old s3 ⟨x3,H3,I3,r3,q3⟩=>?_
 refine eY (he pins s3 σ H3 _ I3 q3) fun v s4 ⟨x4,H4,I4,r4,q4⟩=>?_
 refine eY (hp pins s4 σ H4 x3 x4 old v _ I4 r3 r4 q4) fun new s5 ⟨x5,H5,I5,r5,q5⟩=>?_
 exact eY (hs pins s5 σ H5 x1 x2 x5 ov iv new _ I5 r1 r2 r5 q5) fun _ s6 ⟨H6,I6,q6⟩=>⟨σ,H6,I6,q6⟩
def ipI (f:Int->Int->Int):TIp:=fun x y H Q=>∃ i j,x=.int i/\y=.int j/\Q (.int (f i j)) H
theorem afX:PIp X .Add (ipI fun i j=>i + j):=by
 intro pins s σ H x y v u Q I r1 r2 h;obtain ⟨i,j,e1,e2,q⟩:=h;subst e1; subst e2;obtain ⟨t,rfl⟩:=r1;obtain ⟨t',rfl⟩:=r2;exact iadd_int ⟨.int _,H,I.tok _,⟨_,rfl⟩,q⟩
theorem afY:PIp X .Sub (ipI fun i j=>i - j):=by
 intro pins s σ H x y v u Q I r1 r2 h;obtain ⟨i,j,e1,e2,q⟩:=h;subst e1; subst e2;obtain ⟨t,rfl⟩:=r1;obtain ⟨t',rfl⟩:=r2;exact isub_int ⟨.int _,H,I.tok _,⟨_,rfl⟩,q⟩
end
section
variable {X:Cx} {pos:Pos}
noncomputable def afZ (c:TT) (tb:TS):TS:=fun D σ H=>∃ W:Nat->St->Hp->Prop,(∃ m,W m σ H)/\∀ m σ H,W m σ H -> c σ H fun b H1=>if b=true then ∃ N:St->Hp->Prop,(∀ σ' H',N σ' H'->∃ m',m' < m/\W m' σ' H')/\tb { D with nx:=N,ct:=N,bk:=D.nx } σ H1 else D.nx σ H1
theorem rW {c:Expr} {body:List cX} {tc:TT} {tb:TS} (hp:PassesOwn (model X.prog X.w) X.A X.env X.xe) (hc:PT X c tc) (hb:zH X body tb):PS X (.While c body [] pos) (afZ tc tb):=by
 intro pins s σ H D I h;obtain ⟨W,⟨m0,w0⟩,turn⟩:=h;refine wpAny_While (codeAny_whileLoop (fun n s'=>∃ σ' H',Inv X pins σ' H' s'/\W n σ' H') ?_ m0 ⟨σ,H,I,w0⟩);rintro n s1 ⟨σ1,H1,I1,w1⟩;refine wpAny_passesOwn hp (eY (hc pins s1 σ1 H1 _ I1 (turn n σ1 H1 w1)) fun b s2 ⟨H2,I2,q2⟩=>?_);cases b with
 | true =>
  obtain ⟨N,hN,q2⟩:=q2;rw [if_pos rfl];refine wpAny_passesOwn hp (eY (hb pins s2 σ1 H2 _ I2 q2) fun f s3 q3=>?_);cases f with
  | next =>
   obtain ⟨σ3,H3,I3,n3⟩:=q3;obtain ⟨m',hm,w3⟩:=hN σ3 H3 n3;exact ⟨m',hm,σ3,H3,I3,w3⟩
  | cont =>
   obtain ⟨σ3,H3,I3,n3⟩:=q3;obtain ⟨m',hm,w3⟩:=hN σ3 H3 n3;exact ⟨m',hm,σ3,H3,I3,w3⟩
  | brk=>exact q3
  | ret v=>exact q3
 | false =>
  rw [if_neg Bool.false_ne_true];exact wpAny_execs_nil ⟨σ1,H2,I2,q2⟩
end
structure It where
 go:Nat->Hp->Prop
 Qa:Nat->Hp->V->Hp->Prop
 stop:Nat->Hp->Prop
def oR (X:Cx) (pins:List (aB × Obj)) (H:Hp) (b:aB):Prop := H b=none/\b≠X.env.locals/\b ∉ X.fs/\(b ∈ X.ex\/X.s₀.heap.objs.size<=b)/\(∀ x c,X.env.cells.lookup x=some c->c≠b)/\∀ p ∈ X.pn++pins,p.1≠b
theorem Inv.Cq {X:Cx} {pins:List (aB × Obj)} {σ:St} {H H':Hp} {s:aV} {b:aB} (I:Inv X pins σ H s) (hb:s.heap.objs.size<=b) (hn:H' b=none):oR X pins H' b:=by
 refine ⟨hn,Nat.ne_of_gt (aZ I.lt hb),I.axi hb,.inr (bH I.sz hb),fun x c e z=>?_,fun p hp z=>?_⟩
 ·obtain ⟨v,q⟩:=I.cell x c e;exact absurd (aZ q.lt (by rw [z]; exact hb)) (cM _)
 ·exact absurd (aZ (Heap.lt_size (I.pin p hp).1) (by rw [z]; exact hb)) (cM _)
structure Turn (P:bZ) (w:World) (K:Fg) (tg:Expr) (J:It) (fp:List aB) (it:aB) (tn:Nat->Heap->Prop):Prop where
 mem:it ∈ fp
 obj:∀ i h,tn i h->∀ b ∈ fp,∃ o,h.get? b=some o/\∀ v,o.data≠.cell v
 keep:∀ i h h',tn i h->(∀ b ∈ fp,∀ o,h.get? b=some o->h'.get? b=some o)->tn i h'
 item:∀ (X:Cx),X.prog=P->X.w=w->X.K=K->X.calm=true->∀ (i:Nat) (pins:List (aB × Obj)) (s:aV) (σ:St) (H:Hp) (E:aC->aV->Prop),Inv X pins σ H s->(∀ b ∈ fp,oR X pins H b)->tn i s.heap->J.go i H -> wpAny (model P w) X.A (pyNext (.ref it)) (fun r s1=>∃ u,r=some u /\ wpAny (model P w) X.A (letOwnedTupleGo tg (.ref it) u) (fun _ s2=>∃ x H',Inv X pins σ H' s2/\RelV x u/\J.Qa i H x H'/\tn (i + 1) s2.heap/\∀ b ∈ fp,H' b=none) E s1) E s
 done:∀ (X:Cx),X.prog=P->X.w=w->X.K=K->X.calm=true->∀ (i:Nat) (pins:List (aB × Obj)) (s:aV) (σ:St) (H:Hp) (E:aC->aV->Prop),Inv X pins σ H s->(∀ b ∈ fp,oR X pins H b)->tn i s.heap->J.stop i H -> wpAny (model P w) X.A (pyNext (.ref it)) (fun r s1=>r=none/\Inv X pins σ H s1) E s
 self:∀ (A:dB) (i:Nat) (s:aV) (Q:aC->aV->Prop) (E:aC->aV->Prop),tn i s.heap->Q (.ref it) s->wpAny (model P w) A (pyIter (.ref it)) Q E s
abbrev TI:=St->Hp->(It->Hp->Prop)->Prop
noncomputable def PIE (X:Cx) (pins:List (aB × Obj)) (σ:St) (tg:Expr) (R:It->Hp->Prop) (itv:aC) (s2:aV):Prop := ∃ (it:aB) (fp:List aB) (tn:Nat->Heap->Prop) (J:It) (H':Hp),itv=.ref it/\Inv X pins σ H' s2/\Turn X.prog X.w X.K tg J fp it tn/\tn 0 s2.heap/\(∀ b ∈ fp,oR X pins H' b)/\R J H'
noncomputable def PI (X:Cx) (tg iter:Expr) (wi:TI):Prop := ∀ (pins:List (aB × Obj)) (s:aV) (σ:St) (H:Hp) (R:It->Hp->Prop),Inv X pins σ H s->wi σ H R -> wpAny (model X.prog X.w) X.A (eval iter X.env) (fun v s1=>wpAny (model X.prog X.w) X.A (pyIter v) (PIE X pins σ tg R) X.xe s1) X.xe s
theorem Qd {M:Model} {A:dB} {E:aC->aV->Prop} {s:aV} {tg:Expr} {it:aB} {u:aC} {o:Obj} {n:String} {vs:Array aC} {Q:Unit->aV->Prop} (ho:s.heap.get? it=some o) (hc:o.cls=.type n) (hd:o.data=.fields vs) (hn:["enumerate","zip","dict_itemiterator","dict_reverseitemiterator","odict_iterator","itertools.zip_longest","itertools.pairwise"].contains n=false) (hQ:Q () s):wpAny M A (letOwnedTupleGo tg (.ref it) u) Q E s:=by
 unfold letOwnedTupleGo;cases tg <;> first
  | exact ao hQ
  | (cases u <;> first
   | exact ao hQ
   | (
    refine aj (wpAny_load ho (?_));rw [hc,hd]
    show wpAny M A (if (["enumerate","zip","dict_itemiterator","dict_reverseitemiterator","odict_iterator","itertools.zip_longest","itertools.pairwise"].contains n && vs[0]? == some (rawInt _))=true then _ else _) Q E s
    rw [if_neg (by intro h; rw [hn,Bool.false_and] at h; cases h)];exact ao hQ))
def Zo (K:Fg) (a:aB):It := ⟨fun i H=>∃ xs x,cW K H a xs/\xs[i]?=some x,fun i H x H'=>H'=H/\∀ xs,cW K H a xs->xs[i]?=some x,fun i H=>∃ xs,cW K H a xs/\xs.length<=i⟩
def Zq (lo:Int) (n:Nat):It:=⟨fun i _=>i < n,fun i H x H'=>H'=H/\x=.int (lo + i),fun i _=>n<=i⟩
theorem Ng {P:bZ} {w:World} {K:Fg} {tg:Expr} (a it:aB):Turn P w K tg (Zo K a) [it] it (fun i h=>h.IsListIter it a i) where
 mem:=by simp
 obj:=fun i h st b hb=>by
  have e:b=it:=by simpa using hb
  subst e;obtain ⟨o,e,c,d⟩:=st;exact ⟨o,e,fun v z=>by rw [d] at z; cases z⟩
 keep:=fun i h h' st k=>st.at fun o e=>k it (by simp) o e
 item:=by
  intro X hP hw hK hc i pins s σ H E I hf st hg;subst hP hw hK;obtain ⟨xs,x,hq,hx⟩:=hg;obtain ⟨its,rv,p,hz⟩:=I.list hq;obtain ⟨u,hu,ru⟩:=rv.get hx;obtain ⟨f0,f1,f2,f3,f4,f5⟩:=hf it (by simp);refine wpAny_pyNext_list_item st p.isList (x:=u) (by simpa using hu) fun h' st' sb=>?_
  have I1:Inv X pins σ H { s with heap:=h' }:=I.turned (t':=s.toks) (fun b o hb e=>(sb.2 b hb).trans e) f0 f1 f3 f4 f5;obtain ⟨o,e,c,d⟩:=id st';exact ⟨u,rfl,Qd (s:={ s with heap:=h' }) e c d (by decide) ⟨x,H,I1,ru,⟨rfl,fun ys hy=>by rw [I.rT hy hq]; exact hx⟩,st',fun b hb=>(hf b hb).1⟩⟩
 done:=by
  intro X hP hw hK hc i pins s σ H E I hf st hg;subst hP hw hK;obtain ⟨xs,hq,hx⟩:=hg;obtain ⟨its,rv,p,hz⟩:=I.list hq;obtain ⟨f0,f1,f2,f3,f4,f5⟩:=hf it (by simp);have hl:=rv.length;exact wpAny_pyNext_list_end (I.ok.hd hc) st p.isList (by simp; omega) fun h' eb=>⟨rfl,I.turned (t':=s.toks) (fun b o hb e=>eb b o hb e) f0 f1 f3 f4 f5⟩
 self:=fun _ _ _ _ _ st h=>wpAny_pyIter_listiter st h
theorem HY {P:bZ} {w:World} {K:Fg} {tg:Expr} (it:aB) (lo:Int) (n:Nat):Turn P w K tg (Zq lo n) [it] it (fun i h=>IsRangeIter h it (lo + (i:Nat) * 1) ((n:Int) - (i:Nat)) 1) where
 mem:=by simp
 obj:=fun i h st b hb=>by
  have e:b=it:=by simpa using hb
  subst e;exact ⟨_,st,fun v z=>by
   have z':Data.fields _=Data.cell v:=z;cases z'⟩
 keep:=fun i h h' st k=>k it (by simp) _ st
 item:=by
  intro X hP hw hK hc i pins s σ H E I hf st hg;subst hP hw hK;obtain ⟨f0,f1,f2,f3,f4,f5⟩:=hf it (by simp);have W:=Walks.range (prog:=X.prog) (w:=X.w) (I.ok.hd hc) it lo 1 n;refine W.item i s _ _ hg st fun v h' tk hv st' kk=>?_
  obtain ⟨t,rfl⟩:=hv;have I1:Inv X pins σ H { s with heap:=h',toks:=tk }:=I.turned (fun b o hb e=>kk b o (by simpa using hb) e) f0 f1 f3 f4 f5;refine ⟨_,rfl,Qd (s:={ s with heap:=h',toks:=tk }) (n:="range_iterator") st' rfl rfl (by decide) ⟨.int (lo + i),H,I1,⟨t,?_⟩,⟨rfl,rfl⟩,st',fun b hb=>(hf b hb).1⟩⟩;rw [Int.mul_one]
 done:=by
  intro X hP hw hK hc i pins s σ H E I hf st hg;subst hP hw hK;obtain ⟨f0,f1,f2,f3,f4,f5⟩:=hf it (by simp);exact wpAny_pyNext_range_end (I.ok.hd hc) st (by have:n<=i:=hg; omega) fun h' eb=>⟨rfl,I.turned (t':=s.toks) (fun b o hb e=>eb b o hb e) f0 f1 f3 f4 f5⟩
 self:=fun _ _ _ _ _ st h=>wpAny_pyIter_rangeiter st h
section
variable {X:Cx} {tg:Expr}
def ang (K:Fg) (tl:TE):TI:=fun σ H R=>tl σ H fun x H1=>∃ a,x=.ref a/\(∃ xs,cW K H1 a xs)/\R (Zo K a) H1
theorem fu {l:Expr} {tl:TE} (hl:PE X l tl):PI X tg l (ang X.K tl):=by
 intro pins s σ H R I h;refine eY (hl pins s σ H _ I h) fun v s1 ⟨x,H1,I1,r1,q1⟩=>?_
 obtain ⟨a,e,⟨xs,hq⟩,q⟩:=q1;subst e;cases r1;obtain ⟨its,rv,p,hz⟩:=I1.list hq;refine wpAny_pyIter_list p.isList ?_;refine ⟨s1.heap.objs.size,[s1.heap.objs.size],_,_,H1,rfl,I1.kept (t':=s1.toks) fun b o e=>aq _ e,Ng a _,⟨_,aN _ rfl,rfl,rfl⟩,fun b hb=>?_,q⟩;have e:b=s1.heap.objs.size:=by simpa using hb
 subst e;exact I1.Cq (aM _) (I1.hok.fresh (aM _))
theorem En {pins:List (aB × Obj)} {σ:St} {H:Hp} {s:aV} {R:It->Hp->Prop} {E:aC->aV->Prop} {lo hi:Int} {t u v:Tok} {tk:Nat} (I:Inv X pins σ H s) (h1:-(2 ^ 62)<=lo) (h2:lo < 2 ^ 62) (h3:-(2 ^ 62)<=hi) (h4:hi < 2 ^ 62) (q:R (Zq lo (hi - lo).toNat) H):wpAny (model X.prog X.w) X.A (pyIter (.ref s.heap.objs.size)) (PIE X pins σ tg R) E { s with heap:=s.heap.push { cls:=.type "range",data:=.fields #[.int lo t,.int hi u,.int 1 v] },toks:=tk }:=by
 refine wpAny_pyIter_range (IsRange.new ..) (small_one h1 h2 h3 h4) ?_;have I1:Inv X pins σ H { s with heap:=s.heap.push { cls:=.type "range",data:=.fields #[.int lo t,.int hi u,.int 1 v] },toks:=tk }:=I.kept fun b o e=>aq _ e
 refine ⟨(s.heap.push { cls:=.type "range",data:=.fields #[.int lo t,.int hi u,.int 1 v] }).objs.size,[(s.heap.push { cls:=.type "range",data:=.fields #[.int lo t,.int hi u,.int 1 v] }).objs.size],_,_,H,rfl,I1.kept (t':=tk) fun b o e=>aq _ e,HY _ lo (hi - lo).toNat,?_,fun b hb=>?_,q⟩
 ·have e1:lo + ((0:Nat):Int) * 1=lo:=by simp
  have e2:(((hi - lo).toNat:Nat):Int) - ((0:Nat):Int)=Builtin.Range.rangeSize lo hi 1:=by rw [rangeSize_one]; split <;> omega
  show IsRangeIter _ _ (lo + ((0:Nat):Int) * 1) ((((hi - lo).toNat:Nat):Int) - ((0:Nat):Int)) 1
  rw [e1,e2];exact aN _ rfl
 ·have e:b=(s.heap.push { cls:=.type "range",data:=.fields #[.int lo t,.int hi u,.int 1 v] }).objs.size:=by simpa using hb
  subst e;exact I1.Cq (aM _) (I1.hok.fresh (aM _))
def anh (ta:TA):TI:=fun σ H R=>ta σ H fun vs H1=>∃ j:Int,vs=[.int j]/\-(2 ^ 62)<=j/\j < 2 ^ 62/\R (Zq 0 j.toNat) H1
def ani (ta:TA):TI:=fun σ H R=>ta σ H fun vs H1=>∃ i j:Int,vs=[.int i,.int j]/\(-(2 ^ 62)<=i/\i < 2 ^ 62/\-(2 ^ 62)<=j/\j < 2 ^ 62)/\R (Zq i (j - i).toNat) H1
theorem mV {a:Expr} {ta:TA} {p pos:Pos} (hg:Gl X "range") (hm:X.mg "range"=none) (ha:PA X [a] ta) (hs:autoParam (starEach [a] X.env=[(false,eval a X.env)]) zau0):PI X tg (.Call (.Name "range" p) [a] [] pos) (anh ta):=by
 intro pins s σ H R I h;refine Call_ (lV I hg hm boot_range (callWith_type1 (eY (ha pos pins s σ H _ I h) fun us s1 ⟨vs,H1,I1,r1,q1⟩=>?_) hs rfl));obtain ⟨j,e,q1,q2,q⟩:=q1;subst e;cases r1 with
 | cons r rr =>
  cases rr;obtain ⟨t,rfl⟩:=r;exact call_range_1 (En I1 (by omega) (by omega) q1 q2 (by simpa using q))
theorem Nh {a b:Expr} {ta:TA} {p pos:Pos} (hg:Gl X "range") (hm:X.mg "range"=none) (ha:PA X [a,b] ta) (hs:autoParam (starEach [a,b] X.env=[(false,eval a X.env),(false,eval b X.env)]) zau0) (hs2:autoParam (starEach [b] X.env=[(false,eval b X.env)]) zau0) : PI X tg (.Call (.Name "range" p) [a,b] [] pos) (ani ta):=by
 intro pins s σ H R I h;refine Call_ (lV I hg hm boot_range (callWith_type1 (eY (ha pos pins s σ H _ I h) fun us s1 ⟨vs,H1,I1,r1,q1⟩=>?_) (by rw [hs,hs2]) (by rw [hs2]; rfl)));obtain ⟨i,j,e,⟨q1,q2,q3,q4⟩,q⟩:=q1;subst e;cases r1 with
 | cons r rr =>
  cases rr with
  | cons r' rr =>
   cases rr;obtain ⟨t,rfl⟩:=r;obtain ⟨t',rfl⟩:=r';exact call_range_2 (En I1 q1 q2 q3 q4 q)
noncomputable def axv (wi:TI) (g:TG) (tb:TS):TS:=fun D σ H=>wi σ H fun J H1=>∃ W:Nat->Nat->St->Hp->Prop,(∃ m,W 0 m σ H1)/\∀ i m σ H,W i m σ H -> (J.stop i H/\D.nx σ H)\/(J.go i H/\∃ N:St->Hp->Prop,(∀ σ' H',N σ' H'->∃ m',m' < m/\W (i + 1) m' σ' H')/\∀ x H',J.Qa i H x H'->g x σ H' fun σ2 H2=>tb { D with nx:=N,ct:=N,bk:=D.nx } σ2 H2)
def oW (fp:List aB) (h:Heap):List (aB × Obj):=fp.filterMap fun b=>(h.get? b).map fun o=>(b,o)
theorem nO {fp:List aB} {h:Heap} {b:aB} {o:Obj} (hb:b ∈ fp) (e:h.get? b=some o):(b,o) ∈ oW fp h:=mem_filterMap.mpr ⟨b,hb,by rw [e]; rfl⟩
theorem Ni {fp:List aB} {h:Heap} {p:aB × Obj} (hp:p ∈ oW fp h):p.1 ∈ fp/\h.get? p.1=some p.2:=by
 obtain ⟨b,hb,e⟩:=mem_filterMap.mp hp;cases q:h.get? b with
 | none=>rw [q] at e; cases e
 | some o =>
  rw [q] at e;have e':(b,o)=p:=bN e;subst e';exact ⟨hb,q⟩
theorem Inv.pinned {pins:List (aB × Obj)} {σ:St} {H:Hp} {s:aV} {fp:List aB} (I:Inv X pins σ H s) (hf:∀ b ∈ fp,oR X pins H b) (ho:∀ b ∈ fp,∃ o,s.heap.get? b=some o/\∀ v,o.data≠.cell v):Inv X (pins++oW fp s.heap) σ H s := I.KJ fun p hp=>(mem_append.mp hp).elim (fun z=>I.pin p (mem_append_right _ z)) fun z=>by
 obtain ⟨hb,e⟩:=Ni z;obtain ⟨f0,f1,f2,_⟩:=hf p.1 hb;obtain ⟨o,e',d⟩:=ho p.1 hb;rw [e] at e'; cases e';exact ⟨e,f0,f1,f2,d⟩
theorem Inv.rY {pins pl:List (aB × Obj)} {σ:St} {H:Hp} {s:aV} (I:Inv X (pins++pl) σ H s):Inv X pins σ H s:=I.KJ fun p hp=>I.pin p (mem_append_right _ (mem_append_left _ hp))
theorem iw {iter:Expr} {body:List cX} {wi:TI} {g:TG} {tb:TS} {pos:Pos} (hp:PassesOwn (model X.prog X.w) X.A X.env X.xe) (hc:X.calm=true) (hi:PI X tg iter wi) (hg:PG X tg g) (hb:zH X body tb) (hs:autoParam (∀ x,foldedSetIterable iter X.env x=pure x) zau3):PS X (.For tg iter body [] pos) (axv wi g tb):=by
 intro pins s σ H D I h;refine wpAny_For (eY (hi pins s σ H _ I h) fun v s1 h1=>eY h1 fun itv s2 h2=>?_) hs;obtain ⟨it,fp,tn,J,H2,e,I2,T,st2,f2,W,⟨m0,w0⟩,turn⟩:=h2;subst e;have stat:∀ {H':Hp},(∀ b ∈ fp,H' b=none)->∀ b ∈ fp,oR X pins H' b:=fun hn b hb=>⟨hn b hb,(f2 b hb).2⟩
 refine codeAny_forLoop_any (fun n s'=>∃ i σ' H',Inv X pins σ' H' s'/\tn i s'.heap/\(∀ b ∈ fp,H' b=none)/\W i n σ' H') ?_ m0 ⟨0,σ,H2,I2,st2,fun b hb=>(f2 b hb).1,w0⟩;rintro n s3 ⟨i,σ3,H3,I3,st3,fr3,w3⟩;rcases turn i n σ3 H3 w3 with ⟨stop,qn⟩ | ⟨go,N,hN,step⟩
 ·refine wpAny_passesOwn hp (eY (T.done X rfl rfl rfl hc i pins s3 σ3 H3 X.xe I3 (stat fr3) st3 stop) fun r s4 ⟨hr,I4⟩=>?_);subst hr;exact wpAny_execs_nil ⟨σ3,H3,I4,qn⟩
 ·refine wpAny_passesOwn hp (eY (T.item X rfl rfl rfl hc i pins s3 σ3 H3 X.xe I3 (stat fr3) st3 go) fun r s4 ⟨u,hr,h4⟩=>?_);subst hr;refine wpAny_passesOwn hp (eY h4 fun _ s5 ⟨x,H5,I5,r5,y5,st5,fr5⟩=>?_);have I5':=I5.pinned (stat fr5) (T.obj _ _ st5);refine wpAny_passesOwn hp (eY (hg _ s5 σ3 H5 x u _ I5' r5 (step x H5 y5)) fun _ s6 ⟨σ6,H6,I6,q6⟩=>?_);refine wpAny_passesOwn hp (eY (hb _ s6 σ6 H6 _ I6 q6) fun f s7 q7=>?_);have again:∀ {σ7:St} {H7:Hp},Inv X (pins++oW fp s5.heap) σ7 H7 s7->N σ7 H7->∃ m,m < n/\∃ i σ' H',Inv X pins σ' H' s7/\tn i s7.heap/\(∀ b ∈ fp,H' b=none)/\W i m σ' H':=fun {σ7 H7} I7 n7=>by
   obtain ⟨m',hm,w7⟩:=hN σ7 H7 n7;refine ⟨m',hm,i + 1,σ7,H7,I7.rY,T.keep _ _ _ st5 fun b hb o e=>(I7.pin (b,o) (mem_append_right _ (mem_append_right _ (nO hb e)))).1,fun b hb=>?_,w7⟩;obtain ⟨o,e,d⟩:=T.obj _ _ st5 b hb;exact (I7.pin (b,o) (mem_append_right _ (mem_append_right _ (nO hb e)))).2.1
  cases f with
  | next=>obtain ⟨σ7,H7,I7,n7⟩:=q7; exact again I7 n7
  | cont=>obtain ⟨σ7,H7,I7,n7⟩:=q7; exact again I7 n7
  | brk=>obtain ⟨σ7,H7,I7,q7⟩:=q7; exact ⟨σ7,H7,I7.rY,q7⟩
  | ret v=>obtain ⟨x7,σ7,H7,I7,r7,q7⟩:=q7; exact ⟨x7,σ7,H7,I7.rY,r7,q7⟩
end
theorem je {K:Fg} {a:aB} {xs:List V} {g:TG} {tb:TS} {D:Ends} {σ:St} {H:Hp} (Pv:Nat->St->Hp->Prop) (h0:Pv 0 σ H) (hl:∀ i σ H,i<=xs.length->Pv i σ H->cW K H a xs) (hs:∀ i x σ H,xs[i]?=some x->Pv i σ H->g x σ H fun σ2 H2=>tb { D with nx:=Pv (i + 1),ct:=Pv (i + 1),bk:=D.nx } σ2 H2) (hd:∀ σ H,Pv xs.length σ H->D.nx σ H) : ∃ W:Nat->Nat->St->Hp->Prop,(∃ m,W 0 m σ H)/\∀ i m σ H,W i m σ H -> ((Zo K a).stop i H/\D.nx σ H)\/((Zo K a).go i H/\∃ N:St->Hp->Prop,(∀ σ' H',N σ' H'->∃ m',m' < m/\W (i + 1) m' σ' H')/\∀ x H',(Zo K a).Qa i H x H'->g x σ H' fun σ2 H2=>tb { D with nx:=N,ct:=N,bk:=D.nx } σ2 H2):=by
 refine ⟨fun i m σ H=>m=xs.length - i/\i<=xs.length/\Pv i σ H,⟨xs.length,by simp,cU _,h0⟩,?_⟩;rintro i m σ H ⟨rfl,hi,p⟩;have q:=hl i σ H hi p
 by_cases hlt:i < xs.length
 ·refine .inr ⟨⟨xs,xs[i],q,by simp [hlt]⟩,Pv (i + 1),fun σ' H' p'=>⟨xs.length - (i + 1),by omega,rfl,hlt,p'⟩,fun x H' y=>?_⟩;obtain ⟨e,y⟩:=y;subst e;exact hs i x σ _ (y xs q) p
 ·have e:i=xs.length:=by omega
  subst e;exact .inl ⟨⟨xs,q,aM _⟩,hd σ H p⟩
theorem qb {lo:Int} {n:Nat} {g:TG} {tb:TS} {D:Ends} {σ:St} {H:Hp} (Pv:Nat->St->Hp->Prop) (h0:Pv 0 σ H) (hs:∀ i σ H,i < n->Pv i σ H->g (.int (lo + i)) σ H fun σ2 H2=>tb { D with nx:=Pv (i + 1),ct:=Pv (i + 1),bk:=D.nx } σ2 H2) (hd:∀ σ H,Pv n σ H->D.nx σ H) : ∃ W:Nat->Nat->St->Hp->Prop,(∃ m,W 0 m σ H)/\∀ i m σ H,W i m σ H -> ((Zq lo n).stop i H/\D.nx σ H)\/((Zq lo n).go i H/\∃ N:St->Hp->Prop,(∀ σ' H',N σ' H'->∃ m',m' < m/\W (i + 1) m' σ' H')/\∀ x H',(Zq lo n).Qa i H x H'->g x σ H' fun σ2 H2=>tb { D with nx:=N,ct:=N,bk:=D.nx } σ2 H2):=by
 refine ⟨fun i m σ H=>m=n - i/\i<=n/\Pv i σ H,⟨n,by simp,cU _,h0⟩,?_⟩;rintro i m σ H ⟨rfl,hi,p⟩
 by_cases hlt:i < n
 ·refine .inr ⟨hlt,Pv (i + 1),fun σ' H' p'=>⟨n - (i + 1),by omega,rfl,hlt,p'⟩,fun x H' y=>?_⟩;obtain ⟨e,y⟩:=y;subst e y;exact hs i σ _ hlt p
 ·have e:i=n:=by omega
  subst e;exact .inl ⟨aM _,hd σ H p⟩
abbrev R2:=V->V->Hp->VK->Prop
noncomputable def oJ (X:Cx) (f:aC->aC->Sem aC) (r:R2):Prop := ∀ (pins:List (aB × Obj)) (s:aV) (σ:St) (H:Hp) (x y:V) (v u:aC) (Q:VK),Inv X pins σ H s->RelV x v->RelV y u->r x y H Q -> wpAny (model X.prog X.w) X.A (f v u) (EP X pins σ Q) X.xe s
noncomputable def UnR (X:Cx) (f:aC->Sem aC) (r:V->Hp->VK->Prop):Prop := ∀ (pins:List (aB × Obj)) (s:aV) (σ:St) (H:Hp) (x:V) (v:aC) (Q:VK),Inv X pins σ H s->RelV x v->r x H Q -> wpAny (model X.prog X.w) X.A (f v) (EP X pins σ Q) X.xe s
noncomputable def iy (X:Cx) (f:aC) (r:List V->Hp->VK->Prop):Prop := ∀ (pins:List (aB × Obj)) (s:aV) (σ:St) (H:Hp) (xs:List V) (us:List aC) (Q:VK),Inv X pins σ H s->Vals xs us->r xs H Q -> wpAny (model X.prog X.w) X.A (call f us) (EP X pins σ Q) X.xe s
noncomputable def axx (X:Cx) (r:V->Hp->(Bool->Hp->Prop)->Prop):Prop := ∀ (pins:List (aB × Obj)) (s:aV) (σ:St) (H:Hp) (x:V) (v:aC) (Q:Bool->Hp->Prop),Inv X pins σ H s->RelV x v->r x H Q -> wpAny (model X.prog X.w) X.A (truthy v) (TP X pins σ Q) X.xe s
def tOp (r:R2) (ta tb:TE):TE:=fun σ H Q=>ta σ H fun x H1=>tb σ H1 fun y H2=>r x y H2 Q
def tUn (r:V->Hp->VK->Prop) (ta:TE):TE:=fun σ H Q=>ta σ H fun x H1=>r x H1 Q
def rI (C:Int->Int->Prop) (g:Int->Int->V):R2:=fun x y H Q=>∃ i j,x=.int i/\y=.int j/\C i j/\Q (g i j) H
def WM (g:Int->Int->V):R2:=fun x y H Q=>∃ i j,x=.int i/\y=.int j/\Q (g i j) H
def rU (g:Int->V):V->Hp->VK->Prop:=fun x H Q=>∃ i,x=.int i/\Q (g i) H
section
variable {X:Cx} {a b c:Expr} {ta tb tc:TE} {pos:Pos}
theorem af0 (ha:PE X a ta) (hb:PE X b tb) {pins:List (aB × Obj)} {s:aV} {σ:St} {H:Hp} {R:V->V->Hp->Prop} (I:Inv X pins σ H s) (h:ta σ H fun x H1=>tb σ H1 fun y H2=>R x y H2) {Q:aC->aV->Prop} {f:aC->aC->Sem aC} (hf:∀ v u s2 x y H2,Inv X pins σ H2 s2->RelV x v->RelV y u->R x y H2->wpAny (model X.prog X.w) X.A (f v u) Q X.xe s2) : wpAny (model X.prog X.w) X.A (eval a X.env) (fun v s₁=>wpAny (model X.prog X.w) X.A (eval b X.env) (fun u s₂=>wpAny (model X.prog X.w) X.A (f v u) Q X.xe s₂) X.xe s₁) X.xe s:=by
 refine eY (ha pins s σ H _ I h) fun v s1 ⟨x,H1,I1,r1,q1⟩=>?_
 refine eY (hb pins s1 σ H1 _ I1 q1) fun u s2 ⟨y,H2,I2,r2,q2⟩=>?_
 exact hf v u s2 x y H2 I2 r1 r2 q2
theorem bI {op:Operator} {r:R2} (ho:oJ X (binaryOp op) r) (ha:PE X a ta) (hb:PE X b tb):PE X (.BinOp a op b pos) (tOp r ta tb):=by
 intro pins s σ H Q I h;exact wpAny_BinOp (af0 ha hb I h fun v u s2 x y H2 I2 rx ry q=>ho pins s2 σ H2 x y v u Q I2 rx ry q)
theorem Qf {op:UnaryOp} {r:V->Hp->VK->Prop} (ho:UnR X (unaryOp op) r) (ha:PE X a ta):PE X (.UnaryOp op a pos) (tUn r ta):=by
 intro pins s σ H Q I h;exact UnaryOp_ (eY (ha pins s σ H _ I h) fun v s1 ⟨x,H1,I1,r1,q1⟩=>ho pins s1 σ H1 x v Q I1 r1 q1)
theorem opI {f:aC->aC->Sem aC} {C:Int->Int->Prop} {g:Int->Int->Int} (rule:∀ (i j:Int) (t u:Tok) (s:aV) (Q:aC->aV->Prop) (E:aC->aV->Prop),C i j->Q (.int (g i j) s.toks) { s with toks:=s.toks + 1 }->wpAny (model X.prog X.w) X.A (f (.int i t) (.int j u)) Q E s) : oJ X f (rI C fun i j=>.int (g i j)):=by
 intro pins s σ H x y v u Q I rx ry h;obtain ⟨i,j,rfl,rfl,hc,q⟩:=h;obtain ⟨t,rfl⟩:=rx;obtain ⟨t',rfl⟩:=ry;exact rule i j t t' s _ _ hc ⟨.int (g i j),H,I.tok _,⟨_,rfl⟩,q⟩
theorem af2 {f:aC->aC->Sem aC} {g:Int->Int->Int} (rule:∀ (i j:Int) (t u:Tok) (s:aV) (Q:aC->aV->Prop) (E:aC->aV->Prop),Q (.int (g i j) s.toks) { s with toks:=s.toks + 1 }->wpAny (model X.prog X.w) X.A (f (.int i t) (.int j u)) Q E s) : oJ X f (WM fun i j=>.int (g i j)):=by
 intro pins s σ H x y v u Q I rx ry h;obtain ⟨i,j,rfl,rfl,q⟩:=h;obtain ⟨t,rfl⟩:=rx;obtain ⟨t',rfl⟩:=ry;exact rule i j t t' s _ _ ⟨.int (g i j),H,I.tok _,⟨_,rfl⟩,q⟩
theorem WQ {f:aC->aC->Sem aC} {g:Int->Int->Bool} (rule:∀ (i j:Int) (t u:Tok) (s:aV) (Q:aC->aV->Prop) (E:aC->aV->Prop),Q (.bool (g i j)) s->wpAny (model X.prog X.w) X.A (f (.int i t) (.int j u)) Q E s) : oJ X f (WM fun i j=>.bl (g i j)):=by
 intro pins s σ H x y v u Q I rx ry h;obtain ⟨i,j,rfl,rfl,q⟩:=h;obtain ⟨t,rfl⟩:=rx;obtain ⟨t',rfl⟩:=ry;exact rule i j t t' s _ _ ⟨.bl (g i j),H,I,rfl,q⟩
def axy (i j:Int):Prop:=0 < j/\j < 1073741824
def axz (i j:Int):Prop:=0<=j/\j<=1000000/\i.natAbs < 2 ^ 64
def af3 (i j:Int):Prop:=(-(2 ^ 64) < i/\i < 2 ^ 64)\/(-(2 ^ 64) < j/\j < 2 ^ 64)
theorem af3.ok {i j:Int} (h:af3 i j):IntMulOk i j:=by
 rcases h with ⟨h1,h2⟩ | ⟨h1,h2⟩
 ·exact .of_left (intBits_le_64 h1 h2)
 ·exact .of_right (intBits_le_64 h1 h2)
theorem Ia (k:Nat):(0:Int)<=2 ^ k:=by
 rw [two_pow_cast];exact dj _
theorem eO:oJ X (binaryOp .Add) (WM fun i j=>.int (i + j)):=af2 fun _ _ _ _ _ _ _ q=>add_int q
theorem uD:oJ X (binaryOp .Sub) (WM fun i j=>.int (i - j)):=af2 fun _ _ _ _ _ _ _ q=>sub_int q
theorem oX:oJ X (binaryOp .Mult) (rI af3 fun i j=>.int (i * j)):=opI fun _ _ _ _ _ _ _ hc q=>mul_int q hc.ok
theorem gH:oJ X (binaryOp .FloorDiv) (rI axy fun i j=>.int (i / j)):=opI fun i j _ _ _ _ _ hc q=>by
 have h1:(0:Int) < j:=hc.1;have h2:j < 1073741824:=hc.2;exact floordiv_int (by omega) (by rw [Int.fdiv_eq_ediv_of_nonneg i (by omega)]; exact q) (.inl (PyProof.noPylong_small (by omega)))
theorem fU:oJ X (binaryOp .Mod) (rI (fun _ j=>0 < j) fun i j=>.int (i % j)):=opI fun i j _ _ _ _ _ hc q=>by
 have h1:(0:Int) < j:=hc;exact mod_int' (by omega) (by rw [Int.fmod_eq_emod_of_nonneg i (by omega)]; exact q)
theorem Qg:oJ X (binaryOp .LShift) (rI axz fun i j=>.int (i * 2 ^ j.toNat)):=opI fun _ _ _ _ _ _ _ hc q=>lshift_int_small hc.1 hc.2.1 hc.2.2 q
theorem Qh:oJ X (binaryOp .RShift) (rI (fun _ j=>0<=j) fun i j=>.int (i / 2 ^ j.toNat)):=opI fun i j _ _ _ _ _ hc q =>
 rshift_int hc (by rw [Int.fdiv_eq_ediv_of_nonneg i (Ia _)]; exact q)
theorem Qi:oJ X (binaryOp .BitAnd) (WM fun i j=>.int (Builtin.bitAnd i j)):=af2 fun _ _ _ _ _ _ _ q=>and_int q
theorem unI {f:aC->Sem aC} {g:Int->Int} (rule:∀ (i:Int) (t:Tok) (s:aV) (Q:aC->aV->Prop) (E:aC->aV->Prop),Q (.int (g i) s.toks) { s with toks:=s.toks + 1 }->wpAny (model X.prog X.w) X.A (f (.int i t)) Q E s) : UnR X f (rU fun i=>.int (g i)):=by
 intro pins s σ H x v Q I rx h;obtain ⟨i,rfl,q⟩:=h;obtain ⟨t,rfl⟩:=rx;exact rule i t s _ _ ⟨.int (g i),H,I.tok _,⟨_,rfl⟩,q⟩
theorem Ib:UnR X (unaryOp .USub) (rU fun i=>.int (-i)):=unI fun _ _ _ _ _ q=>neg_int q
end
noncomputable def af4:V->V->Bool
 | .non,.non=>true | .non,.int _=>true | .int _,.non=>true | .non,.bl _=>true | .bl _,.non=>true | .non,.str _=>true | .str _,.non=>true
 | .int _,.int _=>true | .bl _,.bl _=>true | .str _,.str _=>true | .KD _,.KD _=>true
 | .int _,.str _=>true | .str _,.int _=>true | .bl _,.str _=>true | .str _,.bl _=>true
 | _,_=>false
def rEq:R2:=fun x y H Q=>af4 x y=true/\Q (.bl (decide (x=y))) H
def rNe:R2:=fun x y H Q=>af4 x y=true/\Q (.bl (!decide (x=y))) H
theorem KQ {i j:Int}:decide (V.int i=V.int j)=(i == j):=by
 rw [Bool.eq_iff_iff];simp
theorem Qj {i j:Bool}:decide (V.bl i=V.bl j)=(i == j):=by
 rw [Bool.eq_iff_iff];simp
theorem KR {i j:Str}:decide (V.str i=V.str j)=(i == j):=by
 rw [Bool.eq_iff_iff];simp
theorem KY {i j:Array UInt8}:decide (V.KD i=V.KD j)=(i.toList == j.toList):=by
 rw [Bool.eq_iff_iff];cases i;cases j;simp
section
variable {X:Cx} {a b c:Expr} {ta tb tc:TE} {pos:Pos}
theorem dX {pins:List (aB × Obj)} {σ:St} {H:Hp} {s:aV} {Q:VK} {k k':Bool} (I:Inv X pins σ H s) (q:Q (.bl k) H) (e:k=k'):EP X pins σ Q (.bool k') s:=by
 subst e;exact ⟨.bl k,H,I,rfl,q⟩
theorem oK:oJ X (compareOp .Eq) rEq:=by
 intro pins s σ H x y v u Q I rx ry h;obtain ⟨hs,q⟩:=h;cases x with
 | non =>
  cases rx;cases y with
  | non=>cases ry; exact PySem.EqNone.eq_none_none (dX I q (by simp))
  | bl j=>cases ry; exact PySem.EqNone.eq_none_bool (dX I q (by simp))
  | int j=>obtain ⟨t',rfl⟩:=ry; exact PySem.EqNone.eq_none_int (dX I q (by simp))
  | str j=>obtain ⟨t',rfl⟩:=ry; exact PySem.EqNone.eq_none_str (dX I q (by simp))
  | _=>exact absurd (show false=true from hs) Bool.false_ne_true
 | bl i =>
  cases rx;cases y with
  | non=>cases ry; exact PySem.EqNone.eq_bool_none (dX I q (by simp))
  | bl j=>cases ry; exact eq_bool (dX I q Qj)
  | str j=>obtain ⟨t',rfl⟩:=ry; exact PySem.EqMixed.eq_bool_str (dX I q (by simp))
  | _=>exact absurd (show false=true from hs) Bool.false_ne_true
 | int i =>
  obtain ⟨t,rfl⟩:=rx;cases y with
  | non=>cases ry; exact PySem.EqNone.eq_int_none (dX I q (by simp))
  | int j=>obtain ⟨t',rfl⟩:=ry; exact eq_int (dX I q KQ)
  | str j=>obtain ⟨t',rfl⟩:=ry; exact PySem.EqMixed.eq_int_str (dX I q (by simp))
  | _=>exact absurd (show false=true from hs) Bool.false_ne_true
 | str i =>
  obtain ⟨t,rfl⟩:=rx;cases y with
  | non=>cases ry; exact PySem.EqNone.eq_str_none (dX I q (by simp))
  | bl j=>cases ry; exact PySem.EqMixed.eq_str_bool (dX I q (by simp))
  | int j=>obtain ⟨t',rfl⟩:=ry; exact PySem.EqMixed.eq_str_int (dX I q (by simp))
  | str j=>obtain ⟨t',rfl⟩:=ry; exact eq_str (dX I q KR)
  | _=>exact absurd (show false=true from hs) Bool.false_ne_true
 | KD i =>
  obtain ⟨t,rfl⟩:=rx;cases y with
  | KD j=>obtain ⟨t',rfl⟩:=ry; exact PySem.W.eq_bytes (dX I q KY)
  | _=>exact absurd (show false=true from hs) Bool.false_ne_true
 | _=>cases y <;> exact absurd (show false=true from hs) Bool.false_ne_true
theorem Aa:oJ X (compareOp .NotEq) rNe:=by
 intro pins s σ H x y v u Q I rx ry h;obtain ⟨hs,q⟩:=h;cases x with
 | non =>
  cases rx;cases y with
  | non=>cases ry; exact PySem.EqNone.ne_none_none (dX I q (by simp))
  | bl j=>cases ry; exact PySem.EqNone.ne_none_bool (dX I q (by simp))
  | int j=>obtain ⟨t',rfl⟩:=ry; exact PySem.EqNone.ne_none_int (dX I q (by simp))
  | str j=>obtain ⟨t',rfl⟩:=ry; exact PySem.EqNone.ne_none_str (dX I q (by simp))
  | _=>exact absurd (show false=true from hs) Bool.false_ne_true
 | bl i =>
  cases rx;cases y with
  | non=>cases ry; exact PySem.EqNone.ne_bool_none (dX I q (by simp))
  | bl j=>cases ry; exact ne_bool (dX I q (congrArg not Qj))
  | str j=>obtain ⟨t',rfl⟩:=ry; exact PySem.EqMixed.ne_bool_str (dX I q (by simp))
  | _=>exact absurd (show false=true from hs) Bool.false_ne_true
 | int i =>
  obtain ⟨t,rfl⟩:=rx;cases y with
  | non=>cases ry; exact PySem.EqNone.ne_int_none (dX I q (by simp))
  | int j=>obtain ⟨t',rfl⟩:=ry; exact ne_int (dX I q (congrArg not KQ))
  | str j=>obtain ⟨t',rfl⟩:=ry; exact PySem.EqMixed.ne_int_str (dX I q (by simp))
  | _=>exact absurd (show false=true from hs) Bool.false_ne_true
 | str i =>
  obtain ⟨t,rfl⟩:=rx;cases y with
  | non=>cases ry; exact PySem.EqNone.ne_str_none (dX I q (by simp))
  | bl j=>cases ry; exact PySem.EqMixed.ne_str_bool (dX I q (by simp))
  | int j=>obtain ⟨t',rfl⟩:=ry; exact PySem.EqMixed.ne_str_int (dX I q (by simp))
  | str j=>obtain ⟨t',rfl⟩:=ry; exact ne_str (dX I q (congrArg not KR))
  | _=>exact absurd (show false=true from hs) Bool.false_ne_true
 | KD i =>
  obtain ⟨t,rfl⟩:=rx;cases y with
  | KD j=>obtain ⟨t',rfl⟩:=ry; exact PySem.W.ne_bytes (dX I q (congrArg not KY))
  | _=>exact absurd (show false=true from hs) Bool.false_ne_true
 | _=>cases y <;> exact absurd (show false=true from hs) Bool.false_ne_true
theorem Qk:oJ X (compareOp .Lt) (WM fun i j=>.bl (decide (i < j))):=WQ fun _ _ _ _ _ _ _ q=>lt_int q
theorem Ab:oJ X (compareOp .LtE) (WM fun i j=>.bl (decide (i<=j))):=WQ fun _ _ _ _ _ _ _ q=>le_int q
theorem Eo:oJ X (compareOp .Gt) (WM fun i j=>.bl (decide (j < i))):=WQ fun _ _ _ _ _ _ _ q=>gt_int q
theorem ank:oJ X (compareOp .GtE) (WM fun i j=>.bl (decide (j<=i))):=WQ fun _ _ _ _ _ _ _ q=>ge_int q
theorem xu:oJ X (compareOp .Is) (fun x y H Q=>y=.non/\Q (.bl (decide (x=.non))) H):=by
 intro pins s σ H x y v u Q I rx ry h;obtain ⟨rfl,q⟩:=h;cases ry;refine is_none_gen (dX I q ?_);cases x <;> first
  | (cases rx; rfl)
  | (obtain ⟨t,rfl⟩:=rx; rfl)
theorem WR:oJ X (compareOp .IsNot) (fun x y H Q=>y=.non/\Q (.bl (!decide (x=.non))) H):=by
 intro pins s σ H x y v u Q I rx ry h;obtain ⟨rfl,q⟩:=h;cases ry;refine isnot_none_gen (dX I q ?_);cases x <;> first
  | (cases rx; rfl)
  | (obtain ⟨t,rfl⟩:=rx; rfl)
theorem dH (b:Expr) {op:CmpOp} (h:autoParam (op≠.In) zau1) (h2:autoParam (op≠.NotIn) zau1):behindInMarks op b=false:=by
 have e1:(op == CmpOp.In)=false:=by cases op <;> first | rfl | exact absurd rfl h
 have e2:(op == CmpOp.NotIn)=false:=by cases op <;> first | rfl | exact absurd rfl h2
 cases b <;> simp [behindInMarks,e1,e2]
theorem qd {op:CmpOp} {r:R2} (ho:oJ X (compareOp op) r) (ha:PE X a ta) (hb:PE X b tb) (hm:behindInMarks op b=false):PE X (.Compare a [op] [b] pos) (tOp r ta tb):=by
 intro pins s σ H Q I h;exact wpAny_Compare1 (af0 ha hb I h fun v u s2 x y H2 I2 rx ry q=>ho pins s2 σ H2 x y v u Q I2 rx ry q) hm
def Zr (t:TE):TT:=fun σ H Q=>t σ H fun x H'=>∃ k,x=.bl k/\Q k H'
theorem c7 {op:CmpOp} {r:R2} (ho:oJ X (compareOp op) r) (ha:PE X a ta) (hb:PE X b tb) (hm:behindInMarks op b=false):PT X (.Compare a [op] [b] pos) (Zr (tOp r ta tb)):=by
 intro pins s σ H Q I h;refine wpAny_isTrue_Compare1 (eY (ha pins s σ H _ I h) fun v s1 ⟨x,H1,I1,r1,q1⟩=>eY (hb pins s1 σ H1 _ I1 q1) fun u s2 ⟨y,H2,I2,r2,q2⟩ =>
  eY (ho pins s2 σ H2 x y v u _ I2 r1 r2 q2) fun c s3 ⟨z,H3,I3,r3,k,e,q3⟩=>?_) hm
 subst e;cases r3;exact wpAny_truthy_bool ⟨H3,I3,q3⟩
def Ql (r r':R2) (ta tb tc:TE):TE:=fun σ H Q=>ta σ H fun x H1=>tb σ H1 fun y H2=>r x y H2 fun z H3=>∃ k,z=.bl k /\ (if k=true then tc σ H3 fun w' H4=>r' y w' H4 Q else Q (.bl false) H3)
theorem Ep {op op':CmpOp} {r r':R2} (ho:oJ X (compareOp op) r) (ho':oJ X (compareOp op') r') (ha:PE X a ta) (hb:PE X b tb) (hc:PE X c tc) (hm:autoParam (lastMarks [op,op'] [b,c]=false) zau4):PE X (.Compare a [op,op'] [b,c] pos) (Ql r r' ta tb tc):=by
 intro pins s σ H Q I h;refine Compare_chain (eY (ha pins s σ H _ I h) fun v s1 ⟨x,H1,I1,r1,q1⟩=>chain_link (eY (hb pins s1 σ H1 _ I1 q1) fun u s2 ⟨y,H2,I2,r2,q2⟩ =>
  eY (ho pins s2 σ H2 x y v u _ I2 r1 r2 q2) fun d s3 ⟨z,H3,I3,r3,k,e,q3⟩=>?_)) hm
 subst e;cases r3;refine wpAny_truthy_bool ?_;cases k with
 | false=>exact ite_ff ⟨.bl false,H3,I3,rfl,q3⟩
 | true=>exact ite_tt (chain_last (eY (hc pins s3 σ H3 _ I3 q3) fun w' s4 ⟨z',H4,I4,r4,q4⟩=>ho' pins s4 σ H4 y z' u w' Q I4 r2 r4 q4))
theorem Er {op op':CmpOp} {r r':R2} (ho:oJ X (compareOp op) r) (ho':oJ X (compareOp op') r') (ha:PE X a ta) (hb:PE X b tb) (hc:PE X c tc) (hm:autoParam (lastMarks [op,op'] [b,c]=false) zau4):PT X (.Compare a [op,op'] [b,c] pos) (Zr (Ql r r' ta tb tc)):=by
 intro pins s σ H Q I h;refine isTrue_chain (eY (ha pins s σ H _ I h) fun v s1 ⟨x,H1,I1,r1,q1⟩=>test_link (eY (hb pins s1 σ H1 _ I1 q1) fun u s2 ⟨y,H2,I2,r2,q2⟩ =>
  eY (ho pins s2 σ H2 x y v u _ I2 r1 r2 q2) fun d s3 ⟨z,H3,I3,r3,k,e,q3⟩=>?_)) hm
 subst e;cases r3;refine wpAny_truthy_bool ?_;cases k with
 | false =>
  obtain ⟨k',e',q'⟩:=q3;cases e';exact ite_ff ⟨H3,I3,q'⟩
 | true =>
  refine ite_tt (test_last (eY (hc pins s3 σ H3 _ I3 q3) fun w' s4 ⟨z',H4,I4,r4,q4⟩=>eY (ho' pins s4 σ H4 y z' u w' _ I4 r2 r4 q4) fun d' s5 ⟨z2,H5,I5,r5,k2,e2,q5⟩=>?_));subst e2;cases r5;exact wpAny_truthy_bool ⟨H5,I5,q5⟩
noncomputable def anl (K:Fg) (x:V) (H:Hp) (k:Bool):Prop := match x with
 | .non=>k=false
 | .bl b=>k=b
 | .int i=>k=(i != 0)
 | .str y=>y.length<=sizeLine/\k=((y.length:Int) != 0)
 | .KD y=>y.size<=sizeLine/\k=((y.size:Int) != 0)
 | .ref p=>(∃ xs,cW K H p xs/\k=!xs.isEmpty)\/(∃ xs,d8 K H p xs/\k=!xs.isEmpty)\/∃ kvs,H p=some (.dK kvs)/\k=!kvs.isEmpty
 | _=>False
theorem Ie {κ:Type} {kvs:List (κ × V)} {vs:List (κ × aC)} (r:KV kvs vs):(!vs.isEmpty)=!kvs.isEmpty:=by
 cases r <;> rfl
theorem xG {xs:List V} {its:List aC} (r:Vals xs its):(!its.toArray.isEmpty)=!xs.isEmpty:=by
 cases r <;> simp
theorem qL:(sizeLine:Nat) < 2 ^ 63:=by rw [sizeLine_eq]; decide
theorem af5:axx X (fun x H Q=>∃ k,anl X.K x H k/\Q k H):=by
 intro pins s σ H x v Q I rx h;obtain ⟨k,e,q⟩:=h;have hl:=qL;have hs:sizeLine=16777216:=sizeLine_eq;cases x with
 | non =>
  cases rx;have e':k=false:=e;subst e';exact truthy_none ⟨H,I,q⟩
 | bl b =>
  cases rx;have e':k=b:=e;subst e';exact wpAny_truthy_bool ⟨H,I,q⟩
 | int i =>
  obtain ⟨t,rfl⟩:=rx;have e':k=(i != 0):=e;subst e';exact PySem.P.truthy_int ⟨H,I,q⟩
 | str y =>
  obtain ⟨t,rfl⟩:=rx;obtain ⟨hy,e'⟩:y.length<=sizeLine/\k=((y.length:Int) != 0):=e;subst e';exact PySem.P.truthy_str (by omega) ⟨H,I.tok _,q⟩
 | KD y =>
  obtain ⟨t,rfl⟩:=rx;obtain ⟨hy,e'⟩:y.size<=sizeLine/\k=((y.size:Int) != 0):=e;subst e';exact PySem.W.truthy_bytes (by omega) ⟨H,I.tok _,q⟩
 | ref p =>
  cases rx;have e':(∃ xs,cW X.K H p xs/\k=!xs.isEmpty)\/(∃ xs,d8 X.K H p xs/\k=!xs.isEmpty)\/∃ kvs,H p=some (.dK kvs)/\k=!kvs.isEmpty:=e;rcases e' with ⟨xs,hx,e'⟩ | ⟨xs,hx,e'⟩ | ⟨kvs,hx,e'⟩
  ·subst e';obtain ⟨its,r,pl,hz⟩:=I.list hx;have hlen:=r.length;exact wpAny_truthy_list pl.isList (by simp only [size_toArray]; omega) ⟨H,I.tok _,by rw [xG r]; exact q⟩
  ·subst e';obtain ⟨its,r,pl,hz⟩:=I.tuple hx;have hlen:=r.length;exact truthy_tuple pl (by simp only [size_toArray]; omega) ⟨H,I.tok _,by rw [xG r]; exact q⟩
  ·subst e';obtain ⟨hz,hS,vs,r,m⟩:kvs.length<=sizeLine/\(p == sysModules)=false/\∃ vs,KV kvs vs/\s.heap.DictOf (Ci X.prog X.w) p vs:=I.hok p _ hx;have hlen:kvs.length=vs.length:=Paired.length r;exact wpAny_truthy_dict hS m (by omega) ⟨H,I.tok _,by rw [Ie r]; exact q⟩
 | _=>exact (show False from e).elim
theorem Qm (ha:PE X a ta) (he:∀ whole,isTrue a X.env whole=(do let v <- whole; standAt a.pos; holding [v] (truthy v))) :
  PT X a (fun σ H Q=>ta σ H fun x H'=>∃ k,anl X.K x H' k/\Q k H'):=by
 intro pins s σ H Q I h;exact isTrue_plain (eY (ha pins s σ H _ I h) fun v s1 ⟨x,H1,I1,r1,q1⟩=>af5 pins s1 σ H1 x v Q I1 r1 q1) (he _)
theorem Ig:oJ X (binaryOp .Add) (fun x y H Q=>∃ i j,x=.str i/\y=.str j/\i.length + j.length<=sizeLine/\Q (.str (i++j)) H):=by
 intro pins s σ H x y v u Q I rx ry h;obtain ⟨i,j,rfl,rfl,hz,q⟩:=h;obtain ⟨t,rfl⟩:=rx;obtain ⟨t',rfl⟩:=ry;exact add_str (fun t' tk=>⟨.str (i++j),H,I.tok _,⟨_,rfl⟩,q⟩) hz
theorem vals1 {x:V} {us:List aC} (r:Vals [x] us):∃ u,us=[u]/\RelV x u:=by
 cases r with
 | cons r1 r2=>cases r2; exact ⟨_,rfl,r1⟩
theorem vals2 {x y:V} {us:List aC} (r:Vals [x,y] us):∃ u w',us=[u,w']/\RelV x u/\RelV y w':=by
 cases r with
 | cons r1 r2 =>
  cases r2 with
  | cons r3 r4=>cases r4; exact ⟨_,_,rfl,r1,r3⟩
theorem Nj (hc:X.calm=true):iy X (.builtin "max") (fun xs H Q=>∃ i j,xs=[.int i,.int j]/\Q (.int (if j > i then j else i)) H):=by
 intro pins s σ H xs us Q I r h;obtain ⟨i,j,rfl,q⟩:=h;obtain ⟨u,w',rfl,⟨t,rfl⟩,⟨t',rfl⟩⟩:=vals2 r;refine max_two_ints (I.ok.hd hc) fun h' tk k=>⟨_,H,I.kept k,?_,q⟩
 by_cases hj:j > i
 ·rw [if_pos hj,if_pos hj]; exact ⟨_,rfl⟩
 ·rw [if_neg hj,if_neg hj]; exact ⟨_,rfl⟩
theorem Nk:iy X (.type "int") (fun xs H Q=>(∃ i,xs=[.int i]/\Q (.int i) H)\/∃ k,xs=[.bl k]/\Q (.int (if k then 1 else 0)) H):=by
 intro pins s σ H xs us Q I r h;rcases h with ⟨i,rfl,q⟩ | ⟨k,rfl,q⟩
 ·obtain ⟨u,rfl,t,rfl⟩:=vals1 r;exact call_int_int ⟨.int i,H,I,⟨_,rfl⟩,q⟩
 ·obtain ⟨u,rfl,r1⟩:=vals1 r;cases r1;exact call_int_bool ⟨.int (if k then 1 else 0),H,I.tok _,⟨_,rfl⟩,q⟩
end
structure Ih (h:Heap) (x dx C:aB) (mA:Str->Option aC):Prop where
 obj:h.get? x=some (instObj C dx)
 ns:h.Ns1 dx mA
 ne:dx≠x
theorem Nm {h:Heap} {dx:aB} {mA:Str->Option aC} (n:h.Ns1 dx mA):∃ od,h.get? dx=some od/\∀ name,lookIn name od=some (mA name):=by
 obtain ⟨o,es,ep,ho,hd,hk,_,hm⟩:=n;refine ⟨o,ho,fun name=>?_⟩;have e:=hm name;unfold nsFind findBy at e;rw [<- Array.find?_toList] at e;unfold lookIn;rw [hd];dsimp only
 split
 ·rename_i y q
  rw [q] at e;exact congrArg some e
 ·rename_i q
  rw [q] at e;have a:es.toList.any (·.refKey)=false:=by
   rw [List.any_eq_false];intro y hy;obtain ⟨z,t,hkey⟩:=hk y (Array.mem_toList_iff.mp hy);simp [DictEntry.refKey,hkey]
  have a':¬ es.toList.any (·.refKey)=true:=by rw [a]; exact Bool.false_ne_true
  rw [if_neg a'];exact congrArg some e
theorem Ih.look {h:Heap} {x dx C:aB} {mA:Str->Option aC} (I:Ih h x dx C mA):∃ od,InstAt h x (instObj C dx) C (some od)/\∀ name,lookIn name od=some (mA name) := let ⟨od,ho,hl⟩:=Nm I.ns
 ⟨od,⟨I.obj,rfl,rfl,ho⟩,hl⟩
section
variable {prog:bZ} {w:World} {A:dB} {E:aC->aV->Prop} {s:aV} {K:Fg} {x dx C f:aB} {mA:Str->Option aC} {name:Str} {v:aC}
theorem get_map {expr:Bool} {Q:aC->aV->Prop} (X:K.In s.heap) (I:Ih s.heap x dx C mA) (hg:plainGet K C name=true) (hh:hasDictIn K C=true) (ha:findIn K (.ref C) name=some none) (hv:mA name=some v) (hv':handedIn v=true) (h:Q v { s with toks:=s.toks + 1 }) : wpAny (model prog w) A (getAttr (.ref x) name expr) Q E s:=by
 obtain ⟨od,J,hl⟩:=I.look;exact PySem.W.get_value X J (plainGet_of hg).1 (PySem.W.findObj_own hh ha rfl (by rw [hl,hv])) hv' h
theorem Qo {pl:Sem Bool} {Q:aC × List aC->aV->Prop} (X:K.In s.heap) (I:Ih s.heap x dx C mA) (hg:plainGet K C name=true) (hf:findIn K (.ref C) name=some (some (.ref f))) (ht:isFn K (.ref f)=true) (hv:mA name=none) (h:Q (.ref f,[.ref x]) s) : wpAny (model prog w) A (getMethod (.ref x) name pl) Q E s:=by
 obtain ⟨od,J,hl⟩:=I.look;exact PySem.W.method_fn X J (plainGet_of hg).1 (plainGet_of hg).2 hf (beq_iff_eq.mp ht) (by show (lookIn name od).map (·.isSome)=some false; rw [hl,hv]; rfl) h
theorem WT {ns:List Str} {Q:Unit->aV->Prop} (X:K.In s.heap) (I:Ih s.heap x dx C mA) (hs:findIn K (.ref C) "__setattr__"=some (some (.builtin "object.__setattr__"))) (hp:plainOver K C=true) (ht:takerIn K C name=some none) (hh:hasDictIn K C=true) (hw:PySem.Within mA ns) (hsz:ns.length<=sizeLine) (h:∀ h',Ih h' x dx C (fun y=>if y=name then some v else mA y)->Heap.SameBut dx s.heap h'->Q () { s with heap:=h',toks:=s.toks + 2 }) : wpAny (model prog w) A (setAttr (.ref x) name v) Q E s:=by
 obtain ⟨od,J,hl⟩:=I.look;refine PySem.W.set_plain X J hs (PySem.W.osa_open (s:={ s with toks:=s.toks + 1 }) (r:=none) X J hp ht fun b=>?_);obtain ⟨cd,hc,hd'⟩:=PySem.W.any_some hh;have hx:s.heap.get? x=some ⟨.ref C,some dx,.plain,#[]⟩:=I.obj;refine aj (ao (aj (aj (wpAny_loadPart hx (aj (Looks.here (s:={ s with toks:=s.toks + 1 }) (PySem.W.looks_clsIn X hc) ?_))))));rw [hd'];refine ao (a:=some dx) (aj (ao (aj ?_)));refine wpAny_nsSet1 (s:={ s with toks:=s.toks + 1 }) I.ns fun h' hn2 hs2=>?_
 obtain ⟨oD,esD,epD,hoD,hdD,hcD⟩:=hn2.count (PySem.Within.cons name v hw);refine aj (wpAny_lookBehind hoD (by rw [hdD]; exact pastItsLine_dict (bH hcD (by rw [length_cons]; omega))) ?_);exact ao (h _ ⟨(hs2.2 _ (Ne.symm I.ne)).trans I.obj,hn2,I.ne⟩ hs2)
theorem Qp {R:Result->aV->Prop} {vs:List aC} {kw:List (Str × aC)} (X:K.In s.heap) (hm:makesIn K C=true) (hi:findIn K (.ref C) "__init__"=some (some (.ref f))) (hf:PySem.W.typeIn K (.ref f)=some (.type "function")) (h:codeAny (model prog w) (A.under (.builtin "type.__call__" ⟨.ref C::vs,kw⟩)) (.call (.ref f) ⟨.ref (s.heap.objs.size + 1)::vs,kw⟩) (PySem.W.InitBack (s.heap.objs.size + 1) R) { s with heap:=(s.heap.push emptyDict).push (instObj C s.heap.objs.size) }) : codeAny (model prog w) A (.call (.ref C) ⟨vs,kw⟩) R s:=by
 obtain ⟨hh,g,d,t,os⟩:=s;exact PySem.W.make_core (PySem.W.makes_of X hm) (looks_findIn X hi) (fun self=>PySem.W.bind_fn X self hf) (.inl rfl) h
end
def iB (f:Str) (v:V):List (Str × V)->List (Str × V)
 | []=>[(f,v)]
 | (g,x)::r=>if g=f then (g,v)::r else (g,x)::iB f v r
theorem vU (f g:Str) (v:V):∀ fs:List (Str × V),(iB f v fs).lookup g=if g=f then some v else fs.lookup g
 | []=>by
  show List.lookup g [(f,v)]=_
  by_cases h:g=f
  ·have hb:(g == f)=true:=beq_iff_eq.mpr h;simp only [List.lookup,hb,if_pos h]
  ·have hb:(g == f)=false:=beq_eq_false_iff_ne.mpr h;simp only [List.lookup,hb,if_neg h]
 | (k,x)::r=>by
  have ih:=vU f g v r;rw [show iB f v ((k,x)::r)=(if k=f then (k,v)::r else (k,x)::iB f v r) from rfl]
  by_cases hk:k=f
  ·rw [if_pos hk]
   by_cases h:g=k
   ·have hb:(g == k)=true:=beq_iff_eq.mpr h;simp only [List.lookup,hb,if_pos (h.trans hk)]
   ·have hb:(g == k)=false:=beq_eq_false_iff_ne.mpr h;simp only [List.lookup,hb,if_neg (fun e:g=f=>h (e.trans hk.symm))]
  ·rw [if_neg hk]
   by_cases h:g=k
   ·have hb:(g == k)=true:=beq_iff_eq.mpr h;simp only [List.lookup,hb,if_neg (fun e:g=f=>hk (h.symm.trans e))]
   ·have hb:(g == k)=false:=beq_eq_false_iff_ne.mpr h;simp only [List.lookup,hb];exact ih
theorem uE (f:Str) (v:V):∀ fs:List (Str × V),f ∈ (iB f v fs).map (·.1)/\∀ g,g ∈ fs.map (·.1)->g ∈ (iB f v fs).map (·.1)
 | []=>⟨by simp [iB],fun g h=>by simp at h⟩
 | (k,x)::r=>by
  obtain ⟨i1,i2⟩:=uE f v r;rw [show iB f v ((k,x)::r)=(if k=f then (k,v)::r else (k,x)::iB f v r) from rfl]
  by_cases hk:k=f
  ·rw [if_pos hk];subst hk;exact ⟨by simp,fun g h=>by simpa using h⟩
  ·rw [if_neg hk];refine ⟨?_,fun g h=>?_⟩
   ·rw [cj];exact mem_cons_of_mem _ i1
   ·rw [cj] at h ⊢;rcases aQ.mp h with e | e
    ·exact aQ.mpr (.inl e)
    ·exact mem_cons_of_mem _ (i2 g e)
theorem jF (f:Str) (v:V):∀ fs:List (Str × V),(iB f v fs).length<=fs.length + 1
 | []=>by simp [iB]
 | (k,x)::r=>by
  have ih:=jF f v r;rw [show iB f v ((k,x)::r)=(if k=f then (k,v)::r else (k,x)::iB f v r) from rfl]
  by_cases hk:k=f
  ·rw [if_pos hk,length_cons,length_cons]; omega
  ·rw [if_neg hk,length_cons,length_cons]; omega
theorem zM.some_of {v:V} {o:Option aC} (r:zM (some v) o):∃ u,o=some u/\RelV v u:=by
 cases o with
 | none=>exact (show False from r).elim
 | some u=>exact ⟨u,rfl,r⟩
theorem zM.none_of {o:Option aC} (r:zM none o):o=none:=by
 cases o with
 | none=>rfl
 | some u=>exact (show False from r).elim
theorem Np {v:V} {u:aC} (r:RelV v u):handedIn u=true:=by
 cases v with
 | non=>cases (show u=Value.none from r); rfl
 | bl b=>cases (show u=Value.bool b from r); rfl
 | int i=>obtain ⟨t,e⟩:=(show ∃ t,u=Value.int i t from r); cases e; rfl
 | str x=>obtain ⟨t,e⟩:=(show ∃ t,u=Value.str x t from r); cases e; rfl
 | KD b=>obtain ⟨t,e⟩:=(show ∃ t,u=Value.bytes b t from r); cases e; rfl
 | flt b=>obtain ⟨t,e⟩:=(show ∃ t,u=Value.float b t from r); cases e; rfl
 | ref a=>cases (show u=Value.ref a from r); rfl
 | ty n=>cases (show u=Value.type n from r); rfl
section
variable {P:bZ} {w:World} {H H':Hp} {h h':Heap} {a C dx:aB} {fs fs':List (Str × V)}
theorem wK (hok:uw P w H h) (e:H a=some (.ins C dx fs)):∃ mA,Ih h a dx C mA/\(∀ f,zM (fs.lookup f) (mA f))/\PySem.Within mA (fs.map (·.1))/\fs.length<=1000/\H dx=some (.own a):=by
 obtain ⟨d,z,ne,ob,mA,n,r,q⟩:=(show fV P w H h a (.ins C dx fs) from hok a _ e);exact ⟨mA,⟨ob,n,ne⟩,r,q,z,d⟩
end
structure Cls (K:Fg) (C:aB):Prop where
 pg:plainGet K C Str.empty=true
 hd:hasDictIn K C=true
 po:plainOver K C=true
 sa:findIn K (.ref C) "__setattr__"=some (some (.builtin "object.__setattr__"))
theorem Cls.get {K:Fg} {C:aB} (c:Cls K C) (f:Str):plainGet K C f=true:=c.pg
def jy (K:Fg) (C:aB) (f:Str):Prop:=findIn K (.ref C) f=some none
theorem jy.taker {K:Fg} {C:aB} {f:Str} (n:jy K C f):takerIn K C f=some none:=by
 unfold takerIn;rw [show findIn K (.ref C) f=some none from n];rfl
structure Meth (K:Fg) (C:aB) (m:Str) (f:aB):Prop where
 at_:findIn K (.ref C) m=some (some (.ref f))
 fn:isFn K (.ref f)=true
 kp:keepIn K (.ref f)=true
section
variable {X:Cx} {pins:List (aB × Obj)} {σ:St} {H:Hp} {s:aV} {a C dx:aB} {fs:List (Str × V)} {f:Str} {v:V} {A:dB} {E:aC->aV->Prop}
theorem Ij {b:Bool} {Q:aC->aV->Prop} (I:Inv X pins σ H s) (e:H a=some (.ins C dx fs)) (c:Cls X.K C) (n:jy X.K C f) (l:fs.lookup f=some v) (h:∀ u s',Inv X pins σ H s'->RelV v u->Q u s'):wpAny (model X.prog X.w) A (getAttr (.ref a) f b) Q E s:=by
 obtain ⟨mA,O,r,_,_,_⟩:=wK I.hok e;obtain ⟨u,hu,ru⟩:=zM.some_of (v:=v) (o:=mA f) (by rw [<- l]; exact r f);exact get_map I.oU O (c.get f) c.hd n hu (Np ru) (h u _ (I.tok _) ru)
theorem jQ {m:Str} {g:aB} {pl:Sem Bool} {Q:aC × List aC->aV->Prop} (I:Inv X pins σ H s) (e:H a=some (.ins C dx fs)) (c:Cls X.K C) (k:Meth X.K C m g) (l:fs.lookup m=none) (h:Q (.ref g,[.ref a]) s):wpAny (model X.prog X.w) A (getMethod (.ref a) m pl) Q E s:=by
 obtain ⟨mA,O,r,_,_,_⟩:=wK I.hok e;have hn:mA m=none:=zM.none_of (by rw [<- l]; exact r m);exact Qo I.oU O (c.get m) k.at_ k.fn hn h
theorem Ik {y:V} {u:aC} {Q:Unit->aV->Prop} (I:Inv X pins σ H s) (e:H a=some (.ins C dx fs)) (c:Cls X.K C) (n:jy X.K C f) (hl:fs.length < 1000) (ry:RelV y u) (h:∀ s',Inv X pins σ (upd H a (.ins C dx (iB f y fs))) s'->Q () s'):wpAny (model X.prog X.w) A (setAttr (.ref a) f u) Q E s:=by
 obtain ⟨mA,O,r,wi,_,ho⟩:=wK I.hok e;have hz:(fs.map (·.1)).length<=sizeLine:=by rw [au,sizeLine_eq]; omega
 refine WT I.oU O c.sa c.po n.taker c.hd wi hz fun h' O' sb=>h _ ?_
 have hd:∃ o,h'.get? dx=some o:=let ⟨o,_,_,e',_⟩:=O'.ns; ⟨o,e'⟩;refine I.write (x:=a) (e:=dx) (by rw [e]; exact True.intro) (.inr ho) (fun b q hb z=>(sb.2 b hb).trans z) hd ?_;refine ⟨by rw [bw O.ne]; exact ho,?_,O.ne,O'.obj,_,O'.ns,fun g=>?_,fun g hg=>?_⟩
 ·have:=jF f y fs; omega
 ·show zM ((iB f y fs).lookup g) (if g=f then some u else mA g)
  rw [vU]
  by_cases q:g=f
  ·rw [if_pos q,if_pos q]; exact ry
  ·rw [if_neg q,if_neg q]; exact r g
 ·by_cases q:g=f
  ·rw [q]; exact (uE f y fs).1
  ·refine (uE f y fs).2 g (wi g fun z=>hg ?_)
   show (if g=f then some u else mA g)=none
   rw [if_neg q]; exact z
theorem Inv.made (I:Inv X pins σ H s):Inv X pins σ (upd (upd H s.heap.objs.size (.own (s.heap.objs.size + 1))) (s.heap.objs.size + 1) (.ins C s.heap.objs.size [])) { s with heap:=(s.heap.push emptyDict).push (instObj C s.heap.objs.size) }:=by
 have e1:(s.heap.push emptyDict).get? s.heap.objs.size=some emptyDict:=aN s.heap rfl;have e2:((s.heap.push emptyDict).push (instObj C s.heap.objs.size)).get? (s.heap.objs.size + 1)=some (instObj C s.heap.objs.size):=by
  have:=aN (s.heap.push emptyDict) (o:=instObj C s.heap.objs.size) rfl
  rwa [Heap.size_push] at this
 have e3:(s.heap.push emptyDict).Ns s.heap.objs.size (fun _=>none):=⟨emptyDict,#[],_,e1,rfl,(fun e he=>absurd he (by simp)),fun _=>rfl⟩;have I1:=I.laid (a:=s.heap.objs.size) (o:=.own (s.heap.objs.size + 1)) (h':=s.heap.push emptyDict) (t':=s.toks) (fun b u q=>aq _ q) (aM _) ⟨_,e1⟩;refine I1.laid (a:=s.heap.objs.size + 1) (o:=.ins C s.heap.objs.size []) (t':=s.toks) (fun b u q=>aq _ q) (Nat.le_of_eq (Heap.size_push _ _)) ?_;have ne:s.heap.objs.size≠s.heap.objs.size + 1:=Nat.ne_of_lt (Nat.lt_succ_self _);refine ⟨by rw [bw ne,aG],cU _,ne,e2,fun _=>none,(Heap.Ns1.of_empty e3).at fun o q=>aq _ q,fun _=>True.intro,fun y hy=>absurd rfl hy⟩
theorem WW {prog:bZ} {w:World} {env:Env} {e:Expr} {f:Str} {pos:Pos} {s:aV} {Q:aC->aV->Prop} (hb:attributeBase e f env (eval e env)=eval e env) (h:wpAny (model prog w) A (eval e env) (fun o s₁=>wpAny (model prog w) A (getAttr o f true) Q E s₁) E s):wpAny (model prog w) A (eval (.Attribute e f pos) env) Q E s := Attribute_any_ h (by rw [arm_eval_Attribute,hb])
end
def af6 (K:Fg) (ta:TE) (f:Str):TE:=fun σ H Q=>ta σ H fun x H1=>∃ a C dx fs v,x=.ref a/\H1 a=some (.ins C dx fs)/\Cls K C/\jy K C f/\fs.lookup f=some v/\Q v H1
noncomputable def axA (K:Fg) (ta tv:TE) (f:Str):TS:=fun D σ H=>tv σ H fun y H1=>ta σ H1 fun x H2=>∃ a C dx fs,x=.ref a/\H2 a=some (.ins C dx fs)/\Cls K C/\jy K C f/\fs.length < 1000 /\ D.nx σ (upd H2 a (.ins C dx (iB f y fs)))
section
variable {X:Cx} {o e value:Expr} {f:Str} {pos pos' tpos:Pos} {ta tv:TE}
theorem cJ (he:PE X e ta) (hb:attributeBase e f X.env (eval e X.env)=eval e X.env):PE X (.Attribute e f pos) (af6 X.K ta f):=by
 intro pins s σ H Q I h;refine WW hb (eY (he pins s σ H _ I h) fun u s1 ⟨x,H1,I1,rx,a,C,dx,fs,v,ex,ea,c,n,l,q⟩=>?_);subst ex;obtain rfl:u=Value.ref a:=rx;exact Ij I1 ea c n l fun u' s2 I2 ru=>⟨v,H1,I2,ru,q⟩
theorem qM (ha:PE X o ta) (hv:PE X value tv) (hs:swapsWith value (some (.Attribute o f pos')) pos.line X.env=pure false):PS X (.Assign [.Attribute o f pos'] value pos) (axA X.K ta tv f):=by
 intro pins s σ H D I h;refine plainObj_wpAny_Assign_Attribute (eY (hv pins s σ H _ I h) fun u s1 ⟨y,H1,I1,ry,q⟩=>eY (ha pins s1 σ H1 _ I1 q) fun ov s2 ⟨x,H2,I2,rx,a,C,dx,fs,ex,ea,c,n,l,q2⟩=>?_) hs;subst ex;obtain rfl:ov=Value.ref a:=rx;exact Ik I2 ea c n l ry fun s3 I3=>⟨σ,_,I3,q2⟩
theorem Zt {pl:Sem Bool} {m:Str} {apos:Pos} {args:List Expr} {pins:List (aB × Obj)} {s:aV} {σ:St} {H:Hp} {Q:aC->aV->Prop} {te:TE} (he:PE X e te) (I:Inv X pins σ H s) (h:te σ H fun x H1=>∃ a C dx fs g,x=.ref a/\H1 a=some (.ins C dx fs)/\Cls X.K C/\Meth X.K C m g/\fs.lookup m=none /\ ∀ s1,Inv X pins σ H1 s1->wpAny (model X.prog X.w) X.A (callWith pos (.ref g) [.ref a] (backTo pos (starEach args X.env)) (backToKw pos (keywordEach [] X.env))) Q X.xe s1) (ht:eval (.Call (.Attribute e m apos) args [] pos) X.env=(do
   let ov <- eval e X.env
   standAt apos.atName
   let (f,first) <- holding [ov] (getMethod ov m pl)
   callWith pos f first (backTo pos (starEach args X.env)) (backToKw pos (keywordEach [] X.env)))) :
  wpAny (model X.prog X.w) X.A (eval (.Call (.Attribute e m apos) args [] pos) X.env) Q X.xe s:=by
 refine methodCall_KW (pl:=pl) (eY (he pins s σ H _ I h) fun u s1 ⟨x,H1,I1,rx,a,C,dx,fs,g,ex,ea,c,k,l,q⟩=>?_) ht;subst ex;obtain rfl:u=Value.ref a:=rx;exact jQ I1 ea c k l (q s1 I1)
end
section
variable {X:Cx} {pins:List (aB × Obj)} {σ:St} {H:Hp} {s:aV} {A:dB} {E:aC->aV->Prop} {Q:aC->aV->Prop} {c:aC} {b:Bool}
inductive qN (K:Fg) (H:Hp):V->aC->Prop where
 | non:qN K H .non (.type "NoneType")
 | bl (x:Bool):qN K H (.bl x) (.type "bool")
 | int (i:Int):qN K H (.int i) (.type "int")
 | str (x:Str):qN K H (.str x) (.type "str")
 | flt (x:UInt64):qN K H (.flt x) (.type "float")
 | lst {a:aB} {xs:List V} (e:H a=some (.lst xs)):qN K H (.ref a) (.type "list")
 | Cj {a:aB} {o:Obj} {xs:List V} (e:H a=some (.Cj o (.lst xs))):qN K H (.ref a) (.type "list")
 | tup {a:aB} {xs:List V} (e:H a=some (.tup xs)):qN K H (.ref a) (.type "tuple")
 | dK {a:aB} {kvs:List (Key × V)} (e:H a=some (.dK kvs)):qN K H (.ref a) (.type "dict")
 | dT {a:aB} {kvs:List (List Key × V)} (e:H a=some (.dT kvs)):qN K H (.ref a) (.type "dict")
 | ins {a C dx:aB} {fs:List (Str × V)} (e:H a=some (.ins C dx fs)) (cl:Cls K C) (ha:findIn K (.ref C) "__class__"=some (some (.builtin "object.__class__"))) (hn:specialIn K (.builtin "object.__class__") "__get__"=some (some (.builtin "getset_descriptor.__get__"))) (htk:takesIn K (.builtin "object.__class__")=some true) (hm:mroIn K C (.type "object")=some true):qN K H (.ref a) (.ref C)
theorem Ac {x:V} {u t:aC} (I:Inv X pins σ H s) (rx:RelV x u) (ty:qN X.K H x t) (e:kitOne X.K t c=some b) (h:∀ tk,Q (.bool b) { s with toks:=tk }) : wpAny (model X.prog X.w) A (call (.builtin "isinstance") [u,c]) Q E s:=by
 cases ty with
 | non=>cases (show u=Value.none from rx); exact kia_one PySem.W.kitx_none I.oU True.intro e (fun z=>nomatch z) h
 | bl y=>cases (show u=Value.bool y from rx); exact kia_one PySem.W.kitx_bool I.oU True.intro e (fun z=>nomatch z) h
 | int i=>obtain ⟨t,q⟩:=(show ∃ t,u=Value.int i t from rx); cases q; exact kia_one PySem.W.kitx_int I.oU True.intro e (fun z=>nomatch z) h
 | str y=>obtain ⟨t,q⟩:=(show ∃ t,u=Value.str y t from rx); cases q; exact kia_one PySem.W.kitx_str I.oU True.intro e (fun z=>nomatch z) h
 | flt y=>obtain ⟨t,q⟩:=(show ∃ t,u=Value.float y t from rx); cases q; exact kia_one PySem.W.kitx_float I.oU True.intro e (fun z=>nomatch z) h
 | @lst a xs ea =>
  cases (show u=Value.ref a from rx);obtain ⟨_,_,n,_,h1⟩:=(show fV X.prog X.w H s.heap a (.lst xs) from I.hok a _ ea);exact kia_one kitx_list I.oU ⟨_,h1,rfl⟩ e (fun z=>nomatch z) h
 | @Cj a ob xs ea =>
  cases (show u=Value.ref a from rx);obtain ⟨_,_,_,n,_,h1⟩:=(show fV X.prog X.w H s.heap a (.Cj ob (.lst xs)) from I.hok a _ ea);exact kia_one kitx_list I.oU ⟨_,h1,rfl⟩ e (fun z=>nomatch z) h
 | @tup a xs ea =>
  cases (show u=Value.ref a from rx);obtain ⟨_,_,_,p⟩:=(show fV X.prog X.w H s.heap a (.tup xs) from I.hok a _ ea);obtain ⟨o,h1,h2,_⟩:=p;exact kia_one PySem.W.kitx_tuple I.oU ⟨o,h1,h2⟩ e (fun z=>nomatch z) h
 | @dK a kvs ea =>
  cases (show u=Value.ref a from rx);obtain ⟨_,_,vs,_,p⟩:=(show fV X.prog X.w H s.heap a (.dK kvs) from I.hok a _ ea);obtain ⟨o,es,ep,h1,h2,_⟩:=p;exact kia_one kitx_dict I.oU ⟨o,h1,h2.1⟩ e (fun z=>nomatch z) h
 | @dT a kvs ea =>
  cases (show u=Value.ref a from rx);obtain ⟨_,_,xs,_,o,es,ep,h1,h2,_⟩:=(show fV X.prog X.w H s.heap a (.dT kvs) from I.hok a _ ea);exact kia_one kitx_dict I.oU ⟨o,h1,h2.1⟩ e (fun z=>nomatch z) h
 | @ins a C dx fs ea cl ha hn htk hm =>
  cases (show u=Value.ref a from rx);obtain ⟨mA,O,_⟩:=wK I.hok ea;obtain ⟨od,J,_⟩:=O.look;exact kia_one (PySem.W.kitx_own (cl.get _) cl.hd ha hn htk hm) I.oU J e (fun z=>nomatch z) h
end
structure dJ (k:Nat) (A:dB):Prop where
 hd:A.handled=none
 dp:A.depth + 3 * k + 5 < recursionLimit
 un:A.units + 16 * k + 200 < cLine
theorem dJ.mono {j k:Nat} {A:dB} (r:dJ k A) (h:j<=k):dJ j A:=⟨r.hd,by have:=r.dp; omega,by have:=r.un; omega⟩
theorem dJ.deeper {k:Nat} {A:dB} (r:dJ (k + 1) A) (env:Env):dJ k (A.deeper env) := ⟨r.hd,by have:=r.dp; show A.depth + 1 + 3 * k + 5 < _; omega,by have:=r.un; show A.units + 3 + 16 * k + 200 < _; omega⟩
theorem Il {A:dB} {C:aB} {us:List aC} {kw:List (Str × aC)}:(A.under (.builtin "type.__call__" ⟨.ref C::us,kw⟩)).depth=A.depth + 1:=by
 first | rfl | simp [Around.under,Code.weight,Code.isCreation,Code.isGuard,Code.isCaller,Code.frames,Code.isFrame,guardIds]
theorem Im {A:dB} {C:aB} {us:List aC} {kw:List (Str × aC)}:(A.under (.builtin "type.__call__" ⟨.ref C::us,kw⟩)).units=A.units + 1:=by
 first | rfl | simp [Around.under,Code.cUnits,Code.frames,Code.isFrame]
theorem dJ.make {k:Nat} {A:dB} (r:dJ (k + 1) A) (C:aB) (us:List aC) (kw:List (Str × aC)):dJ k (A.under (.builtin "type.__call__" ⟨.ref C::us,kw⟩)) := ⟨r.hd,by have:=r.dp; rw [Il]; omega,by have:=r.un; rw [Im]; omega⟩
theorem dJ.depth {k:Nat} {A:dB} (r:dJ k A):A.depth < recursionLimit:=by have:=r.dp; omega
theorem dJ.units {k:Nat} {A:dB} (r:dJ k A):A.units + 64 < cLine:=by have:=r.un; omega
def Nq:TA:=fun _ H Q=>Q [] H
def xH (ta:TE) (tr:TA):TA:=fun σ H Q=>ta σ H fun x H1=>tr σ H1 fun xs H2=>Q (x::xs) H2
section
variable {X:Cx} {e:Expr} {es:List Expr} {te:TE} {t:TA} {pos:Pos}
theorem aK:PA X [] Nq:=fun _ _ _ _ H Q I h=>Calls.spliced_nil ⟨[],H,I,.nil,h⟩
theorem ak (ha:PE X e te) (hr:PA X es t) (hs:autoParam (starEach (e::es) X.env=(false,eval e X.env)::starEach es X.env) zau0):PA X (e::es) (xH te t):=by
 intro pos pins s σ H Q I h;rw [hs]
 show wpAny _ _ (spliced ((false,eval e X.env)::backTo pos (starEach es X.env))) _ _ s
 refine Calls.spliced_cons (eY (ha pins s σ H _ I h) fun u s1 ⟨x,H1,I1,r1,q1⟩=>?_);exact eY (hr pos pins s1 σ H1 _ I1 q1) fun us s2 ⟨xs,H2,I2,r2,q2⟩=>⟨x::xs,H2,I2,.cons r1 r2,q2⟩
def axB (t:TA):TE:=fun σ H Q=>t σ H fun xs H1=>xs.length<=sizeLine/\∀ p,H1 p=none->Q (.ref p) (upd H1 p (.tup xs))
def axC (t:TA):TE:=fun σ H Q=>t σ H fun xs H1=>xs.length<=sizeLine/\∀ p,H1 p=none->Q (.ref p) (upd H1 p (.lst xs))
theorem eX {x1} (h:PA X es t):PE X (.Tuple es x1 pos) (axB t):=by
 intro pins s σ H Q I hq;refine wpAny_Tuple_spliced (eY (h pos pins s σ H _ I hq) fun us s1 ⟨xs,H1,I1,r,z,q⟩=>⟨by rw [<- r.length]; exact z,?_⟩);have hf:H1 s1.heap.objs.size=none:=I1.hok.fresh (aM _);refine ⟨.ref s1.heap.objs.size,upd H1 s1.heap.objs.size (.tup xs),I1.laid (t':=s1.toks) (fun b u e=>aq _ e) (aM _) ?_,rfl,q _ hf⟩;exact ⟨z,us,r,⟨_,aN _ rfl,rfl,_,rfl⟩⟩
theorem iG (h:PA X es t):PE X (.List es pos) (axC t):=by
 intro pins s σ H Q I hq;refine wpAny_List_spliced (eY (h pos pins s σ H _ I hq) fun us s1 ⟨xs,H1,I1,r,z,q⟩=>⟨by rw [<- r.length]; exact z,?_⟩);have hf:H1 s1.heap.objs.size=none:=I1.hok.fresh (aM _);refine ⟨.ref s1.heap.objs.size,upd H1 s1.heap.objs.size (.lst xs),I1.laid (t':=s1.toks) (fun b u e=>aq _ e) (aM _) ?_,rfl,q _ hf⟩;exact ⟨z,us,0,r,aN _ rfl⟩
end
abbrev Sp:=List V->Hp->VK->XK->Prop
abbrev zJ:=List Env->Hp->aV->XK->aC->aV->Prop
structure Cr (P:bZ) (w:World) (K:Fg) (mg:Str->Option aC) (base:Heap) (A:dB) (outer:List Env) (s:aV) (H:Hp):Prop where
 frames:A.frames=some outer
 mod:Mod K mg base
 bs:∀ b o,base.get? b=some o->s.heap.get? b=some o/\H b=none
 M9:base.objs.size<=s.heap.objs.size
 oV:s.heap.FunFrames base outer
 Vs:∀ b ∈ frs outer,H b=none
 hok:uw P w H s.heap
 bare:AllBare s.gens
def CE (outer:List Env) (P:bZ) (w:World) (H:Hp) (s:aV) (Q:VK) (u:aC) (s':aV):Prop := ∃ v H',s'.os=s.os/\AllBare s'.gens/\Un (frs outer) [] H H' s.heap s'.heap/\uw P w H' s'.heap/\RelV v u/\Q v H'
noncomputable def CR (CX:zJ) (outer:List Env) (P:bZ) (w:World) (H:Hp) (s:aV) (Q:VK) (E:XK) (r:Result) (s':aV):Prop := match r with
 | .ok (.ret u)=>CE outer P w H s Q u s'
 | .ok _=>False
 | .error e=>CX outer H s E e s'
structure bT (P:bZ) (w:World) (K:Fg) (mg:Str->Option aC) (base:Heap) (CX:zJ) (k:Nat) (f:aB) (fd:d7) (ps:List Str) (sp:Sp):Prop where
 len:∀ vs H Q E,sp vs H Q E->vs.length=ps.length
 run:∀ (A:dB) (outer:List Env) (s:aV) (H:Hp) (args:Args) (us:List aC) (vs:List V) (Q:VK) (E:XK),dJ k A->Cr P w K mg base A outer s H->BindsTo s fd args (ps.zip us)->Vals vs us->sp vs H Q E -> codeAny (model P w) A (.call (.ref f) args) (CR CX outer P w H s Q E) s
theorem bT.mono {P:bZ} {w:World} {K:Fg} {mg:Str->Option aC} {base:Heap} {CX:zJ} {j k:Nat} {f:aB} {fd:d7} {ps:List Str} {sp:Sp} (F:bT P w K mg base CX j f fd ps sp) (h:j<=k) : bT P w K mg base CX k f fd ps sp:=⟨F.len,fun A outer s H args us vs Q E hr=>F.run A outer s H args us vs Q E (hr.mono h)⟩
theorem Cr.make {P:bZ} {w:World} {K:Fg} {mg:Str->Option aC} {base:Heap} {A:dB} {outer:List Env} {s:aV} {H:Hp} (e:Cr P w K mg base A outer s H) (C:aB) (us:List aC) (kw:List (Str × aC)) : Cr P w K mg base (A.under (.builtin "type.__call__" ⟨.ref C::us,kw⟩)) outer s H:=⟨by first | exact e.frames | (simpa [Around.under,Code.envs,Code.isFrame,pushEnvs] using e.frames),e.mod,e.bs,e.M9,e.oV,e.Vs,e.hok,e.bare⟩
section
variable {X:Cx} {pins:List (aB × Obj)} {σ:St} {H:Hp} {s s':aV}
theorem Inv.env0 (I:Inv X pins σ H s):Cr X.prog X.w X.K X.mg X.base X.A X.stack s H := ⟨I.ok.frames,I.ok.mod,I.bs,bH I.ok.M9 I.sz,I.stack,I.wJ,I.hok,I.bare⟩
theorem Inv.after {Q:VK} {u:aC} (I:Inv X pins σ H s) (h:CE X.stack X.prog X.w H s Q u s'):EP X pins σ Q u s':=by
 obtain ⟨v,H',os,bare,un,hok,r,q⟩:=h;obtain ⟨hh,g,d,t,os'⟩:=s';obtain rfl:os'=s.os:=os;exact ⟨v,H',I.call (h':=hh) (g':=g) (d':=d) (t':=t) (ch:=[]) un hok bare (fun b z=>absurd z (by simp)),r,q⟩
end
def KZ (sp:Sp) (qD:List V) (E:XK) (t:TA):TE:=fun σ H Q=>t σ H fun vs H1=>sp (vs++qD) H1 Q E
noncomputable def Zu (C:aB) (m:Str) (sp:Sp) (qD:List V) (E:XK) (ta:TE) (t:TA):TE:=fun σ H Q=>ta σ H fun x H1=>∃ a dx fs,x=.ref a/\H1 a=some (.ins C dx fs)/\fs.lookup m=none /\ t σ H1 fun vs H2=>sp (x::(vs++qD)) H2 Q E
noncomputable def Zv (C:aB) (sp:Sp) (qD:List V) (E:XK) (t:TA):TE:=fun σ H Q=>t σ H fun vs H1=>∀ x dx,H1 x=none->H1 dx=none->dx≠x -> sp (.ref x::(vs++qD)) (upd (upd H1 dx (.own x)) x (.ins C dx [])) (fun v H2=>v=.non/\Q (.ref x) H2) E
def Binds (K:Fg) (fd:d7) (ps:List Str) (ds:List aC):Prop := ∀ (s:aV) (us:List aC),K.In s.heap->(us++ds).length=ps.length->BindsTo s fd ⟨us,[]⟩ (ps.zip (us++ds))
theorem Binds.all {K:Fg} {fd:d7} {ps:List Str} (h:∀ us:List aC,us.length=ps.length->bindArgs fd ⟨us,[]⟩=pure (ps.zip us)):Binds K fd ps []:=fun s us _ hl=>by
 rw [cZ] at hl ⊢;exact .of_eq (h us hl)
def Passes (CX:zJ) (X:Cx) (E:XK):Prop:=∀ (pins:List (aB × Obj)) (σ:St) (H:Hp) (s:aV) (e:aC) (s':aV),Inv X pins σ H s->CX X.stack H s E e s'->X.xe e s'
section
variable {X:Cx} {CX:zJ} {k:Nat} {f C:aB} {fd:d7} {ps:List Str} {sp:Sp} {qD:List V} {ds:List aC} {E:XK} {x m:Str} {p pos apos:Pos} {e o:Expr} {es:List Expr} {ta:TE} {t:TA}
theorem qO {pins:List (aB × Obj)} {σ:St} {H:Hp} {s:aV} {Q:VK} {us:List aC} {vs:List V} (F:bT X.prog X.w X.K X.mg X.base CX k f fd ps sp) (hr:dJ k X.A) (hb:Binds X.K fd ps ds) (hd:Vals qD ds) (hx:Passes CX X E) (I:Inv X pins σ H s) (r:Vals vs us) (h:sp (vs++qD) H Q E):wpAny (model X.prog X.w) X.A (call (.ref f) us) (EP X pins σ Q) X.xe s:=by
 have r2:Vals (vs++qD) (us++ds):=r.append hd;have hl:(us++ds).length=ps.length:=by rw [<- r2.length]; exact F.len _ _ _ _ h
 refine wpAny_call (dh (F.run X.A X.stack s H ⟨us,[]⟩ (us++ds) (vs++qD) Q E hr I.env0 (hb s us I.oU hl) r2 h) fun r s' hq=>?_);cases r with
 | error e=>exact hx pins σ H s e s' I hq
 | ok fl =>
  cases fl with
  | ret u=>exact I.after hq
  | next=>exact False.elim hq
  | brk=>exact False.elim hq
  | cont=>exact False.elim hq
theorem qg (F:bT X.prog X.w X.K X.mg X.base CX k f fd ps sp) (hr:dJ k X.A) (hg:Gl X x) (hm:X.mg x=some (.ref f)) (hk:keepIn X.K (.ref f)=true) (hb:Binds X.K fd ps ds) (hd:Vals qD ds) (hx:Passes CX X E) (ha:PA X (e::es) t) (hdb:autoParam ((x == ("__debug__":Str))=false) zau1) (he:autoParam (starEach (e::es) X.env=(false,eval e X.env)::starEach es X.env) zau0) (hpl:autoParam ((backTo pos (starEach es X.env)).any (·.1)=false) zau0) : PE X (.Call (.Name x p) (e::es) [] pos) (KZ sp qD E t):=by
 intro pins s σ H Q I h;refine wpAny_Call_Name_kw (lO I hg hm ?_ hdb);refine callWith_K (h₀:=X.base) I.ok.mod.Pq hk (eY (ha pos pins s σ H _ I h) fun us s1 ⟨vs,H1,I1,r,q⟩=>⟨I1.oU,?_⟩) he hpl;exact qO F hr hb hd hx I1 r q
theorem K1 {pl:Sem Bool} (he:PE X o ta) (c:Cls X.K C) (hm:Meth X.K C m f) (F:bT X.prog X.w X.K X.mg X.base CX k f fd ps sp) (hr:dJ k X.A) (hb:Binds X.K fd ps ds) (hd:Vals qD ds) (hx:Passes CX X E) (ha:PA X (e::es) t) (hst:autoParam (starEach (e::es) X.env=(false,eval e X.env)::starEach es X.env) zau0) (hpl:autoParam ((backTo pos (starEach es X.env)).any (·.1)=false) zau0) (ht:autoParam (eval (.Call (.Attribute o m apos) (e::es) [] pos) X.env=(do
   let ov <- eval o X.env
   standAt apos.atName
   let (f,first) <- holding [ov] (getMethod ov m pl)
   callWith pos f first (backTo pos (starEach (e::es) X.env)) (backToKw pos (keywordEach [] X.env)))) zau0) :
  PE X (.Call (.Attribute o m apos) (e::es) [] pos) (Zu C m sp qD E ta t):=by
 intro pins s σ H Q I h;refine methodCall_KW (pl:=pl) (eY (he pins s σ H _ I h) fun u s1 ⟨x,H1,I1,rx,a,dx,fs,ex,ea,l,q⟩=>?_) ht;subst ex;obtain rfl:u=Value.ref a:=rx;refine jQ I1 ea c hm l ?_;refine callWith_K (first:=[.ref a]) (h₀:=X.base) I.ok.mod.Pq hm.kp (eY (ha pos pins s1 σ H1 _ I1 q) fun us s2 ⟨vs,H2,I2,r,q2⟩=>⟨I2.oU,?_⟩) hst hpl;exact qO (us:=.ref a::us) (vs:=.ref a::vs) F hr hb hd hx I2 (.cons rfl r) q2
theorem rZ {pl:Sem Bool} (he:PE X o ta) (c:Cls X.K C) (hm:Meth X.K C m f) (F:bT X.prog X.w X.K X.mg X.base CX k f fd ps sp) (hr:dJ k X.A) (hb:Binds X.K fd ps ds) (hd:Vals qD ds) (hx:Passes CX X E) (ht:autoParam (eval (.Call (.Attribute o m apos) [] [] pos) X.env=(do
   let ov <- eval o X.env
   standAt apos.atName
   let (f,first) <- holding [ov] (getMethod ov m pl)
   callWith pos f first (backTo pos (starEach [] X.env)) (backToKw pos (keywordEach [] X.env)))) zau0) :
  PE X (.Call (.Attribute o m apos) [] [] pos) (Zu C m sp qD E ta Nq):=by
 intro pins s σ H Q I h;refine methodCall_KW (pl:=pl) (eY (he pins s σ H _ I h) fun u s1 ⟨x,H1,I1,rx,a,dx,fs,ex,ea,l,q⟩=>?_) ht;subst ex;obtain rfl:u=Value.ref a:=rx;refine jQ I1 ea c hm l ?_;exact callWith_K0 (first:=[.ref a]) I1.oU hm.kp (qO (us:=[.ref a]) (vs:=[.ref a]) F hr hb hd hx I1 (.cons rfl .nil) q)
structure Mk (K:Fg) (C f:aB):Prop where
 makes:makesIn K C=true
 init:findIn K (.ref C) "__init__"=some (some (.ref f))
 fn:isFn K (.ref f)=true
 kp:keepIn K (.ref C)=true
theorem Qq {pins:List (aB × Obj)} {σ:St} {H:Hp} {s:aV} {Q:VK} {us:List aC} {vs:List V} (M:Mk X.K C f) (F:bT X.prog X.w X.K X.mg X.base CX k f fd ps sp) (hr:dJ (k + 1) X.A) (hb:Binds X.K fd ps ds) (hd:Vals qD ds) (hx:Passes CX X E) (I:Inv X pins σ H s) (r:Vals vs us) (h:∀ x dx,H x=none->H dx=none->dx≠x->sp (.ref x::(vs++qD)) (upd (upd H dx (.own x)) x (.ins C dx [])) (fun v H2=>v=.non/\Q (.ref x) H2) E) : wpAny (model X.prog X.w) X.A (call (.ref C) us) (EP X pins σ Q) X.xe s:=by
 have hq:=h (s.heap.objs.size + 1) s.heap.objs.size (I.hok.fresh (Nat.le_succ _)) (I.hok.fresh (aM _)) (Nat.ne_of_lt (Nat.lt_succ_self _));have I2:=Inv.made (C:=C) I;have r2:Vals (V.ref (s.heap.objs.size + 1)::(vs++qD)) (Value.ref (s.heap.objs.size + 1)::(us++ds)):=.cons rfl (r.append hd);have hl:(Value.ref (s.heap.objs.size + 1)::us++ds).length=ps.length:=by
  have e:=r2.length;rw [F.len _ _ _ _ hq] at e;exact e.symm
 refine wpAny_call (Qp (f:=f) I.oU M.makes M.init (beq_iff_eq.mp M.fn) (dh (F.run _ X.stack _ _ ⟨Value.ref (s.heap.objs.size + 1)::us,[]⟩ (Value.ref (s.heap.objs.size + 1)::(us++ds)) _ _ E (hr.make C us []) (I2.env0.make C us []) (hb _ (Value.ref (s.heap.objs.size + 1)::us) I2.oU hl) r2 hq) fun r s' hq'=>?_));cases r with
 | error e=>exact hx pins σ _ _ e s' I2 hq'
 | ok fl =>
  cases fl with
  | ret u =>
   obtain ⟨v,H',I3,rv,ev,q3⟩:=I2.after hq';subst ev;exact ⟨rv,⟨V.ref (s.heap.objs.size + 1),H',I3,rfl,q3⟩⟩
  | next=>exact False.elim hq'
  | brk=>exact False.elim hq'
  | cont=>exact False.elim hq'
theorem WX (M:Mk X.K C f) (F:bT X.prog X.w X.K X.mg X.base CX k f fd ps sp) (hr:dJ (k + 1) X.A) (hg:Gl X x) (hm:X.mg x=some (.ref C)) (hb:Binds X.K fd ps ds) (hd:Vals qD ds) (hx:Passes CX X E) (ha:PA X (e::es) t) (hdb:autoParam ((x == ("__debug__":Str))=false) zau1) (he:autoParam (starEach (e::es) X.env=(false,eval e X.env)::starEach es X.env) zau0) (hpl:autoParam ((backTo pos (starEach es X.env)).any (·.1)=false) zau0) : PE X (.Call (.Name x p) (e::es) [] pos) (Zv C sp qD E t):=by
 intro pins s σ H Q I h;refine wpAny_Call_Name_kw (lO I hg hm ?_ hdb);refine callWith_K (h₀:=X.base) I.ok.mod.Pq M.kp (eY (ha pos pins s σ H _ I h) fun us s1 ⟨vs,H1,I1,r,q⟩=>⟨I1.oU,?_⟩) he hpl;exact Qq M F hr hb hd hx I1 r q
end
section
variable {X:Cx} {CX:zJ} {k:Nat} {f C:aB} {fd:d7} {ps ks:List Str} {sp:Sp} {E:XK} {x m:Str} {p pos apos kpos:Pos} {e o:Expr} {es:List Expr} {kws:List Keyword} {te ta:TE} {t tk:TA} {nm:Option Str}
variable {g:List aC->List aC->List aC} {gV:List V->List V->List V}
end
structure bM (N P:List Str) (sc:Scope):Prop where
 kind:sc.kind=.function
 co:sc.isCoroutine=false
 gen:sc.isGenerator=false
 nd:N.Nodup
 pre:N.take P.length=P
 par:∀ x ∈ P,sc.names.lookup x=some .local\/sc.names.lookup x=some .cell
 af7:∀ y ∈ sc.names,y.2≠.free
theorem dI {N P:List Str} {sc:Scope} (h:sc.kind=.function/\sc.isCoroutine=false/\sc.isGenerator=false/\N.Nodup/\N.take P.length=P/\(∀ x ∈ P,sc.names.lookup x=some .local\/sc.names.lookup x=some .cell)/\∀ y ∈ sc.names,y.2≠.free):bM N P sc:=⟨h.1,h.2.1,h.2.2.1,h.2.2.2.1,h.2.2.2.2.1,h.2.2.2.2.2.1,h.2.2.2.2.2.2⟩
theorem Ad {kindOf:Str->Option NameKind} {x:Str}:∀ {binds:List (Str × aC)} {m:Str->Option aC},(∀ v,(x,v) ∉ binds)->bindL kindOf binds m x=m x
 | [],_,_=>rfl
 | (n,v)::r,m,h=>by
  unfold bindL;rw [Ad fun w hw=>h w (mem_cons_of_mem _ hw)]
  split
  ·have:x≠n:=by rintro rfl; exact h v mem_cons_self
   simp [this]
  ·rfl
theorem Ae {kindOf:Str->Option NameKind} {x:Str}:∀ {binds:List (Str × aC)} {m:Str->Option aC},(∀ v,(x,v) ∉ binds)->bindC kindOf binds m x=m x
 | [],_,_=>rfl
 | (n,v)::r,m,h=>by
  unfold bindC;rw [Ae fun w hw=>h w (mem_cons_of_mem _ hw)]
  split
  ·rfl
  ·have:x≠n:=by rintro rfl; exact h v mem_cons_self
   simp [this]
theorem Af {kindOf:Str->Option NameKind} {x:Str} {v:aC}:∀ {P:List Str} {vs:List aC} {i:Nat} {m:Str->Option aC},P.Nodup->P[i]?=some x->vs[i]?=some v->kindOf x=some .local -> bindL kindOf (P.zip vs) m x=some v
 | [],_,_,_,_,h,_,_=>by simp at h
 | _::_,[],_,_,_,_,h,_=>by simp at h
 | p::P,w::vs,0,m,nd,h1,h2,hk=>by
  simp at h1 h2; subst h1; subst h2
  show bindL kindOf ((p,w)::P.zip vs) m p=_
  unfold bindL;rw [Ad fun v hv=>(nodup_cons.mp nd).1 (of_mem_zip hv).1,if_pos hk];simp
 | p::P,w::vs,i + 1,m,nd,h1,h2,hk=>by
  show bindL kindOf ((p,w)::P.zip vs) m x=_
  unfold bindL;exact Af (i:=i) (nodup_cons.mp nd).2 (by simpa using h1) (by simpa using h2) hk
theorem Ag {kindOf:Str->Option NameKind} {x:Str} {v:aC}:∀ {P:List Str} {vs:List aC} {i:Nat} {m:Str->Option aC},P.Nodup->P[i]?=some x->vs[i]?=some v->kindOf x≠some .local -> bindC kindOf (P.zip vs) m x=some v
 | [],_,_,_,_,h,_,_=>by simp at h
 | _::_,[],_,_,_,_,h,_=>by simp at h
 | p::P,w::vs,0,m,nd,h1,h2,hk=>by
  simp at h1 h2; subst h1; subst h2
  show bindC kindOf ((p,w)::P.zip vs) m p=_
  unfold bindC;rw [Ae fun v hv=>(nodup_cons.mp nd).1 (of_mem_zip hv).1,if_neg hk];simp
 | p::P,w::vs,i + 1,m,nd,h1,h2,hk=>by
  show bindC kindOf ((p,w)::P.zip vs) m x=_
  unfold bindC;exact Ag (i:=i) (nodup_cons.mp nd).2 (by simpa using h1) (by simpa using h2) hk
def start (N:List Str) (vs:List V):St:=vs.map some++List.replicate (N.length - vs.length) none
noncomputable def oY (CX:zJ) (P:bZ) (w:World) (K:Fg) (mg:Str->Option aC) (base:Heap) (N:List Str) (qual:Str) (scope:Scope) (f:aB) (cd:aC) (A:dB) (outer:List Env) (s:aV) (H:Hp) (E:XK):Cx where
 prog:=P
 w:=w
 K:=K
 mg:=mg
 base:=base
 A:=A.deeper (envOfC qual scope s.heap.objs.size f cd)
 N:=N
 s₀:=s
 H₀:=H
 env:=envOfC qual scope s.heap.objs.size f cd
 outer:=outer
 stack:=envOfC qual scope s.heap.objs.size f cd::outer
 ex:=[]
 calm:=true
 fn:=fun _=>true
 pn:=[]
 xe:=fun e s'=>wpAny (model P w) (A.deeper (envOfC qual scope s.heap.objs.size f cd)) (leaving (envOfC qual scope s.heap.objs.size f cd) e) (fun _ s''=>CX outer H s E e s'') (fun e' s''=>CX outer H s E e' s'') s'
theorem Es {sc:Scope} {n:Nat} {x:Str} (h:sc.names.lookup x=some .cell):∃ c,(cellsFrom n sc.names []).lookup x=some c:=by
 have q:=cellsFrom_some sc.names n [] (.inl h);exact Option.isSome_iff_exists.mp q
theorem Ah {CX:zJ} {P:bZ} {w:World} {K:Fg} {mg:Str->Option aC} {base:Heap} {N ps:List Str} {qual:Str} {scope:Scope} {f:aB} {cd:aC} {A:dB} {outer:List Env} {s s1:aV} {H:Hp} {E:XK} {us:List aC} {vs:List V} (S:bM N ps scope) (hd:A.handled=none) (e0:Cr P w K mg base A outer s H) (hl:vs.length=ps.length) (r:Vals vs us) (x:InCallC s s.heap.objs.size (bindL (envOfC qual scope s.heap.objs.size f cd).kindOf (ps.zip us) fun _=>none) (cellsFrom (s.heap.objs.size + 1) scope.names []) (bindC (envOfC qual scope s.heap.objs.size f cd).kindOf (ps.zip us) fun _=>none) s1) : Inv (oY CX P w K mg base N qual scope f cd A outer s H E) [] (start N vs) H s1:=by
 have hpl:ps.length<=N.length:=by have:=congrArg List.length S.pre; rw [length_take] at this; omega
 obtain ⟨h1,tk,rfl,hk⟩:=x.done;have noA:∀ b:aB,b ∉ (oY CX P w K mg base N qual scope f cd A outer s H E).ex:=fun b z=>absurd (show b ∈ ([]:List aB) from z) (by simp)
 refine ⟨⟨e0.mod,S.kind,rfl,rfl,aM _,fun y z c h1 h2=>?_,fun y hy=>?_,fun y c _ h=>?_,fun _=>hd,Around.frames_deeper e0.frames,.inr ⟨rfl,rfl⟩,fun b z=>absurd z (noA b),e0.bs,e0.M9,fun b _ _=>noA b,fun b z=>absurd z (noA b),e0.oV,e0.Vs⟩,rfl,e0.bare,Un.kept hk,⟨_,x.toInCall.ns,fun i y v h1 h2 h3=>?_⟩,fun y c h=>⟨_,x.cell y c h⟩,e0.hok.fresh (aM _),fun y c h=>?_,fun p hp=>absurd (show p ∈ ([]:List (aB × Obj)) from hp) (by simp),e0.hok.kept hk,?_⟩
 ·exact name_of_addr x.apart (PySem.mem_of_lookup h1) (PySem.mem_of_lookup h2)
 ·have hy:scope.names.lookup y=some .cell\/scope.names.lookup y=some .free:=hy;rcases hy with hy | hy
  ·exact Es hy
  ·exact absurd rfl (S.af7 _ (PySem.mem_of_lookup hy))
 ·exact Nat.le_of_lt (x.above y c (PySem.mem_of_lookup h))
 ·have hi:i < vs.length:=by
   unfold start at h2
   by_cases hi:i < vs.length
   ·exact hi
   ·rw [List.getElem?_append_right (by simpa using hi)] at h2;rw [List.getElem?_replicate] at h2
    split at h2 <;> cases h2
  have ha:vs[i]?=some v:=by
   unfold start at h2;rw [List.getElem?_append_left (by simpa using hi),aF] at h2;cases e:vs[i]? with
   | none=>rw [e] at h2; cases h2
   | some a=>rw [e] at h2; cases h2; rfl
  obtain ⟨u,hu,rv⟩:=r.get ha;have hp:ps[i]?=some y:=by
   rw [<- S.pre,List.getElem?_take_of_lt (by omega)]; exact h1
  have ndP:ps.Nodup:=by rw [<- S.pre]; exact S.nd.sublist (List.take_sublist _ _)
  refine ⟨u,rv,?_⟩;rcases S.par y (aH hp) with k | k
  ·exact .inl ⟨k,Af ndP hp hu k⟩
  ·obtain ⟨c,e⟩:=Es (n:=s.heap.objs.size + 1) k;refine .inr ⟨.inl k,c,e,?_⟩;have q:=x.cell y c e;rw [Ag ndP hp hu (by show scope.names.lookup y≠_; rw [k]; decide)] at q;exact q
 ·exact e0.hok.fresh (Nat.le_of_lt (x.above y c (PySem.mem_of_lookup h)))
 ·unfold start
  show _=N.length
  rw [bx,au,length_replicate];omega
theorem Qs {CX:zJ} {P:bZ} {w:World} {K:Fg} {mg:Str->Option aC} {base:Heap} {k:Nat} {f:aB} {name qual:Str} {params:Arguments} {body:List cX} {scope:Scope} {dV kV doc pm cdv ct oc:aC} {an od:Option aB} {osl:Array (Option aC)} {N ps:List Str} {sp:Sp} (lk:K.lookup f=some ⟨oc,od,.func (fnOf name qual params body scope dV kV doc pm an cdv ct),osl⟩) (hcd:codeIn K cdv qual=true) (S:bM N ps scope) (len:∀ vs H Q E,sp vs H Q E->vs.length=ps.length) (hbody:∀ (A:dB) (outer:List Env) (s:aV) (H:Hp) (vs:List V) (Q:VK) (E:XK),dJ k (A.deeper (envOfC qual scope s.heap.objs.size f cdv))->sp vs H Q E -> ∃ t,zH (oY CX P w K mg base N qual scope f cdv A outer s H E) body t/\t { nx:=fun _ H'=>Q .non H',rt:=Q } (start N vs) H) : bT P w K mg base CX (k + 1) f (fnOf name qual params body scope dV kV doc pm an cdv ct) ps sp:=by
 refine ⟨len,fun A outer s H args us vs Q E hr e0 hb r hsp=>?_⟩;have hl:=len _ _ _ _ hsp;have KX:K.In s.heap:=e0.mod.Pq.keeps fun b o e=>(e0.bs b o e).1
 have lim:s.heap.NoLimit:=e0.mod.nolimit.keeps fun b o e=>(e0.bs b o e).1
 have hkind:∀ y ∈ ps.zip us,scope.names.lookup y.1=some .local\/(scope.names.lookup y.1=some .cell/\((cellsFrom (s.heap.objs.size + 1) scope.names []).lookup y.1).isSome=true):=fun ⟨n,v⟩ hy=>by
  rcases S.par n (of_mem_zip hy).1 with q | q
  ·exact .inl q
  ·exact .inr ⟨q,cellsFrom_some _ _ _ (.inl q)⟩
 refine codeAny_call_function hr.depth (KX _ _ lk) rfl S.co S.gen rfl (codeRec_of KX hcd) (hb _ _ _ _ ?_);refine wpAny_newFunctionEnv_cells S.kind hkind fun env he s1 x=>?_
 subst he;refine ⟨lim.keeps x.toInCall.keep,codeAny_func ?_⟩;obtain ⟨t,ht,hq⟩:=hbody A outer s H vs Q E (hr.deeper _) hsp;have I:Inv (oY CX P w K mg base N qual scope f cdv A outer s H E) [] (start N vs) H s1:=Ah S hr.hd e0 hl r x;refine wpAny_mono (ht [] s1 (start N vs) H _ I hq) (fun fl s' hs=>?_) fun e s' hs=>hs
 have fin:∀ {σ':St} {H':Hp} {v:V} {u:aC},Inv (oY CX P w K mg base N qual scope f cdv A outer s H E) [] σ' H' s'->RelV v u->Q v H'->CE outer P w H s Q u s' :=
  fun {σ' H' v u} J rv q=>⟨v,H',J.os,J.bare,J.base,J.hok,rv,q⟩
 cases fl with
 | ret u =>
  obtain ⟨v,σ',H',J,rv,q⟩:=hs;exact fin J rv q
 | next =>
  obtain ⟨σ',H',J,q⟩:=hs;exact fin (v:=V.non) (u:=Value.none) J rfl q
 | brk =>
  obtain ⟨_,_,_,q⟩:=hs;exact False.elim q
 | cont =>
  obtain ⟨_,_,_,q⟩:=hs;exact False.elim q
section
variable {X:Cx} {x:Str} {p pos:Pos} {e:Expr} {es:List Expr} {t:TA} {id T:String} {r:List V->Hp->VK->Prop}
def tCB (r:List V->Hp->VK->Prop) (t:TA):TE:=fun σ H Q=>t σ H fun vs H1=>r vs H1 Q
theorem xJ (hc:iy X (.builtin id) r) (hg:Gl X x) (hm:X.mg x=none) (hv:bootBuiltins x=some (.builtin id)) (ha:PA X (e::es) t) (hn:autoParam (x≠"__name__") zau1) (hdb:autoParam ((x == ("__debug__":Str))=false) zau1) (he:autoParam (starEach (e::es) X.env=(false,eval e X.env)::starEach es X.env) zau0) (hpl:autoParam ((backTo pos (starEach es X.env)).any (·.1)=false) zau0):PE X (.Call (.Name x p) (e::es) [] pos) (tCB r t):=by
 intro pins s σ H Q I h;refine wpAny_Call_Name_kw (lV I hg hm hv ?_ hn hdb);exact PyProof.Rows.callWith_builtin1 (eY (ha pos pins s σ H _ I h) fun us s1 ⟨vs,H1,I1,r1,q1⟩=>hc pins s1 σ H1 vs us Q I1 r1 q1) he hpl
theorem Nr (hc:iy X (.type T) r) (hg:Gl X x) (hm:X.mg x=none) (hv:bootBuiltins x=some (.type T)) (ha:PA X (e::es) t) (hn:autoParam (x≠"__name__") zau1) (hdb:autoParam ((x == ("__debug__":Str))=false) zau1) (he:autoParam (starEach (e::es) X.env=(false,eval e X.env)::starEach es X.env) zau0) (hpl:autoParam ((backTo pos (starEach es X.env)).any (·.1)=false) zau0):PE X (.Call (.Name x p) (e::es) [] pos) (tCB r t):=by
 intro pins s σ H Q I h;refine wpAny_Call_Name_kw (lV I hg hm hv ?_ hn hdb);exact callWith_type1 (eY (ha pos pins s σ H _ I h) fun us s1 ⟨vs,H1,I1,r1,q1⟩=>hc pins s1 σ H1 vs us Q I1 r1 q1) he hpl
end
end L2
namespace HT
open PySem PyProof.Rows
section
open PySem.SeqAt
open PySem.AutoSeq1 (wpAny_loadPart')
open PySem.MeetsSeq PySem.MeetsSeq2 PySem.MeetsSeq3
end
section
variable {prog:bZ} {w:World} {A:dB} {E:aC->aV->Prop} {s:aV}
theorem WY {t b:aB} {vs ws:List aC} {Q:aC->aV->Prop} (ht:IsTup s.heap t vs.toArray) (hb:IsTup s.heap b ws.toArray) (hv:vs≠[]) (h1:ws=[]->Q (.ref t) s) (h2:ws≠[]->Q (.ref s.heap.objs.size) { s with heap:=s.heap.push { cls:=.type "tuple",data:=.seq (vs++ws).toArray } }) (hsz:vs.length + ws.length<=sizeLine):wpAny (model prog w) A (binaryOp .Add (.ref t) (.ref b)) Q E s:=by
 obtain ⟨⟨cls,dd,data,sl⟩,ho,hc,n,hd⟩:=id ht;obtain ⟨⟨cls2,dd2,data2,sl2⟩,ho2,hc2,n2,hd2⟩:=id hb;simp only at hc hd hc2 hd2;subst hc hd hc2 hd2;have e:vs.toArray++ws.toArray=(vs++ws).toArray:=by simp
 by_cases hw:ws=[]
 ·exact concat_meets ⟨_,ho,rfl⟩ ⟨_,ho2,rfl⟩ noFill_tuple_add seq_tuple_add PySem.F.slot_tuple_add PySem.F.entry_tuple_add (PySem.F.args_tuple_add_2 _ _) (tuple_addW1 t b vs.toArray ws.toArray n n2 dd dd2 sl sl2 (by simpa using hv) (by simp [hw])) ⟨ho,ho2,h1 hw⟩
 ·refine concat_meets ⟨_,ho,rfl⟩ ⟨_,ho2,rfl⟩ noFill_tuple_add seq_tuple_add PySem.F.slot_tuple_add PySem.F.entry_tuple_add (PySem.F.args_tuple_add_2 _ _) (tuple_addW2 t b vs.toArray ws.toArray n n2 dd dd2 sl sl2 (by simpa using hv) (by simpa using hw) (by rw [size_toArray,size_toArray]; exact hsz)) ⟨ho,ho2,?_⟩;rw [e];exact h2 hw
def iZ (n d:Nat):Option Int->Nat
 | none=>d
 | some v=>if v < 0 then (v + (n:Int)).toNat else min v.toNat n
theorem Cu (n d k:Nat):iZ n d (some (k:Int))=min k n:=by
 show (if (k:Int) < 0 then ((k:Int) + (n:Int)).toNat else min (k:Int).toNat n)=min k n
 rw [if_neg (by omega),Int.toNat_natCast]
theorem af9 (n d:Nat) (hd:d<=n) (o:Option Int):iZ n d o<=n:=by
 cases o with
 | none=>exact hd
 | some v =>
  show (if v < 0 then (v + (n:Int)).toNat else min v.toNat n)<=n
  by_cases hv:v < 0
  ·rw [if_pos hv]; omega
  ·rw [if_neg hv]; exact Nat.min_le_right _ _
theorem K3 (v:Int) (n d:Nat):(if v < 0 then max (v + (n:Int)) 0 else min v (n:Int))=((iZ n d (some v):Nat):Int):=by
 show (if v < 0 then max (v + (n:Int)) 0 else min v (n:Int))=(((if v < 0 then (v + (n:Int)).toNat else min v.toNat n):Nat):Int)
 by_cases hv:v < 0
 ·simp only [if_pos hv]; omega
 ·simp only [if_neg hv]; omega
theorem Io (lo hi:Option Int) (n:Nat):Builtin.Slice.sliceAdjust lo hi 1 (n:Int)=(((iZ n 0 lo:Nat):Int),((iZ n n hi:Nat):Int)):=by
 have h1:¬ ((1:Int) < 0):=by omega
 unfold Builtin.Slice.sliceAdjust;simp only [h1,if_false];refine Prod.ext ?_ ?_
 ·cases lo with
  | none=>rfl
  | some v=>exact K3 v n 0
 ·cases hi with
  | none=>rfl
  | some v=>exact K3 v n n
theorem Ip (i j:Nat):Builtin.Slice.slicePlaces (i:Int) (j:Int) 1=j - i:=by
 unfold Builtin.Slice.slicePlaces;have h1:(1:Int) > 0:=by omega
 simp only [h1,if_true,Int.ediv_one]
 split <;> omega
theorem xK {v:aC} {o:Option Int} {Q:Option Int->aV->Prop} (p:IsPart v o) (h:Q o s):wpAny (model prog w) A (Builtin.Slice.slicePartIndex v) Q E s:=by
 cases p with
 | none=>exact slicePart_none h
 | int i t=>exact slicePart_int h
theorem uF {sl:aB} {vl vu:aC} {lo hi:Option Int} {n:Nat} {Q:Int × Int × Nat->aV->Prop} (hs:s.heap.IsSliceOf sl vl vu .none) (pl:IsPart vl lo) (pu:IsPart vu hi) (h:Q (((iZ n 0 lo:Nat):Int),1,iZ n n hi - iZ n 0 lo) s):wpAny (model prog w) A (Builtin.Slice.sliceApplied (.ref sl) (pure (n:Int))) Q E s:=by
 obtain ⟨os,hos,hcs,hds⟩:=id hs;unfold Builtin.Slice.sliceApplied Builtin.Slice.sliceFields;refine aj (aj (wpAny_field hos hds (x:=vl) rfl (aj (wpAny_field hos hds (x:=vu) rfl (aj (wpAny_field hos hds (x:=.none) rfl (ao ?_)))))));refine aj (slicePart_none ?_)
 show wpAny _ _ (if ((1:Int) == 0)=true then _ else _) _ _ s
 rw [if_neg (by decide)];refine aj (xK pl (aj (xK pu (aj (ao ?_)))))
 show wpAny _ _ (match Builtin.Slice.sliceAdjust lo hi 1 (n:Int) with | (lo,hi)=>pure (lo,(1:Int),Builtin.Slice.slicePlaces lo hi 1)) _ _ s
 rw [Io lo hi n]
 show wpAny _ _ (pure (((iZ n 0 lo:Nat):Int),(1:Int),Builtin.Slice.slicePlaces ((iZ n 0 lo:Nat):Int) ((iZ n n hi:Nat):Int) 1)) _ _ s
 rw [Ip];exact ao h
theorem Qt (xs:Array aC) (i k:Nat):((List.range k).filterMap fun (m:Nat)=>xs[((i:Int) + (m:Int) * 1).toNat]?).toArray=((xs.toList.drop i).take k).toArray:=by
 have e:(fun (m:Nat)=>xs[((i:Int) + (m:Int) * 1).toNat]?)=fun m=>xs[i + m]?:=by
  funext m
  have:((i:Int) + (m:Int) * 1).toNat=i + m:=by omega
  rw [this]
 rw [e];have:=pick_run xs i k;rw [filterMap_map] at this;have e2:((fun x=>xs[x]?) ∘ fun x=>i + x)=fun m=>xs[i + m]?:=rfl
 rw [e2] at this;rw [this]
theorem sE {t sl:aB} {items:Array aC} {vl vu:aC} {lo hi:Option Int} {Q:aC->aV->Prop} (ht:IsTup s.heap t items) (hs:s.heap.IsSliceOf sl vl vu .none) (pl:IsPart vl lo) (pu:IsPart vu hi) (hw:¬ (iZ items.size 0 lo=0/\iZ items.size items.size hi=items.size)) (h:Q (.ref s.heap.objs.size) { s with heap:=s.heap.push { cls:=.type "tuple",data:=.seq ((items.toList.drop (iZ items.size 0 lo)).take (iZ items.size items.size hi - iZ items.size 0 lo)).toArray } }) (hsz:items.size<=sizeLine):wpAny (model prog w) A (getItem (.ref t) (.ref sl)) Q E s:=by
 have K4:sizeOk (.seq ((items.toList.drop (iZ items.size 0 lo)).take (iZ items.size items.size hi - iZ items.size 0 lo)).toArray):=by
  show ((items.toList.drop (iZ items.size 0 lo)).take (iZ items.size items.size hi - iZ items.size 0 lo)).toArray.size<=sizeLine
  rw [size_toArray,length_take,length_drop,Array.length_toList];omega
 have hj:iZ items.size items.size hi<=items.size:=af9 _ _ (aM _) hi;obtain ⟨os,hos,hcs,hds⟩:=id hs;have hTs:s.TypeIs (.ref sl) "slice":=⟨os,hos,hcs⟩;unfold getItem
 try with_reducible refine wpAny_holding ?_
 first | refine aj (ao ?_) | skip
 refine aj (wpAny_sequenceKey ht.typeIs (by decide) ?_);refine aj (wpAny_callSpecial?_slot (name:=Str.ofString "__getitem__") ht.typeIs PyProof.Rows.slot_tuple_getitem (wpAny_call_entry PyProof.Rows.slot_tuple_getitem ht.typeIs entry_tuple_getitem ?_ (args_tuple_getitem _ _)))
 show wpAny _ _ (Builtin.Tuple.tupleItemsOf (.ref t) >>= _) _ _ s
 refine aj (tupleItemsOf_ ht ?_);refine aj (wpAny_typeOf hTs ?_);rw [if_pos (by decide)];refine aj (uF hs pl pu ?_);have hno:¬ ((((iZ items.size 0 lo:Nat):Int) == 0 && (1:Int) == 1 && (iZ items.size items.size hi - iZ items.size 0 lo) == items.size)=true):=by
  intro q;rw [Bool.and_eq_true,Bool.and_eq_true] at q;have q1:((iZ items.size 0 lo:Nat):Int)=0:=eq_of_beq q.1.1;have q2:iZ items.size items.size hi - iZ items.size 0 lo=items.size:=eq_of_beq q.2;exact hw ⟨by omega,by omega⟩
 show wpAny _ _ (if (((iZ items.size 0 lo:Nat):Int) == 0 && (1:Int) == 1 && (iZ items.size items.size hi - iZ items.size 0 lo) == items.size)=true then _ else _) _ _ s
 rw [if_neg hno,Qt]
 first
  | exact aj (m:=Builtin.Tuple.tupleExact _) (wpAny_newObj_type (ao ⟨_,rfl,ao h⟩) K4)
  | exact aj (m:=Builtin.Tuple.tupleExact _) (wpAny_newObj_type (aj (ao (ao ⟨_,rfl,ao h⟩))) K4)
  | exact aj (aj (m:=Builtin.Tuple.tupleExact _) (wpAny_newObj_type (ao (ao ⟨_,rfl,ao h⟩)) K4))
  | exact aj (aj (m:=Builtin.Tuple.tupleExact _) (wpAny_newObj_type (ao ⟨_,rfl,ao h⟩) K4))
end
end HT
namespace L2
open PySem PySem.Spec PyProof.Rows
abbrev TO:=St->Hp->(Option Int->Hp->Prop)->Prop
noncomputable def PO (X:Cx) (e:Option Expr) (t:TO):Prop := ∀ (pins:List (aB × Obj)) (s:aV) (σ:St) (H:Hp) (Q:Option Int->Hp->Prop),Inv X pins σ H s->t σ H Q -> wpAny (model X.prog X.w) X.A (evalPart e X.env) (fun u s'=>∃ o H',Inv X pins σ H' s'/\IsPart u o/\Q o H') X.xe s
def W0:TO:=fun _ H Q=>Q none H
def anm (t:TE):TO:=fun σ H Q=>t σ H fun x H1=>∃ i,x=.int i/\Q (some i) H1
section
variable {X:Cx} {e:Expr} {te:TE} {lo hi:Option Expr} {tl th:TO} {pos p2:Pos}
theorem nQ:PO X none W0:=by
 intro pins s σ H Q I h;rw [evalPart_none];exact ao ⟨none,H,I,.none,h⟩
theorem nR (h:PE X e te):PO X (some e) (anm te):=by
 intro pins s σ H Q I hw;rw [evalPart_some];refine eY (h pins s σ H _ I hw) fun u s1 ⟨x,H1,I1,r1,q1⟩=>?_
 obtain ⟨i,rfl,q⟩:=q1;obtain ⟨t,rfl⟩:=r1;exact ⟨some i,H1,I1,.int i t,q⟩
noncomputable def SlR (X:Cx) (r:V->Option Int->Option Int->Hp->VK->Prop):Prop := ∀ (pins:List (aB × Obj)) (s:aV) (σ:St) (H:Hp) (x:V) (v vl vu:aC) (lo hi:Option Int) (sl:aB) (Q:VK),Inv X pins σ H s->RelV x v->s.heap.IsSliceOf sl vl vu .none->IsPart vl lo->IsPart vu hi->r x lo hi H Q -> ∃ T id,typeLookup (.type T) "__getitem__"=pure (some (.builtin id))/\s.TypeIs v T/\wpAny (model X.prog X.w) X.A (getItem v (.ref sl)) (EP X pins σ Q) X.xe s
def tSl (r:V->Option Int->Option Int->Hp->VK->Prop) (te:TE) (tl th:TO):TE:=fun σ H Q=>te σ H fun x H1=>tl σ H1 fun l H2=>th σ H2 fun u H3=>r x l u H3 Q
theorem jR {r:V->Option Int->Option Int->Hp->VK->Prop} (hr:SlR X r) (he:PE X e te) (hl:PO X lo tl) (hu:PO X hi th):PE X (.Subscript e (.Slice lo hi none p2) pos) (tSl r te tl th):=by
 intro pins s σ H Q I h;refine Subscript_ (eY (he pins s σ H _ I h) fun v s1 ⟨x,H1,I1,r1,q1⟩=>?_);refine wpAny_Slice (eY (hl pins s1 σ H1 _ I1 q1) fun vl s2 ⟨l,H2,I2,pl,q2⟩=>eY (hu pins s2 σ H2 _ I2 q2) fun vu s3 ⟨u,H3,I3,pu,q3⟩=>?_);rw [evalPart_none];refine ao ?_;have I4:Inv X pins σ H3 { s3 with heap:=s3.heap.push { cls:=.type "slice",data:=.fields #[vl,vu,.none] } }:=I3.kept (t':=s3.toks) fun b ob q=>aq _ q
 obtain ⟨T,id,hT,ht,hg⟩:=hr pins { s3 with heap:=s3.heap.push { cls:=.type "slice",data:=.fields #[vl,vu,.none] } } σ H3 x v vl vu l u s3.heap.objs.size Q I4 r1 (Heap.IsSliceOf.new ..) pl pu q3
 show wpAny (model X.prog X.w) X.A (subscriptTail e (.Slice lo hi none p2) v (.ref s3.heap.objs.size)) (EP X pins σ Q) X.xe { s3 with heap:=s3.heap.push { cls:=.type "slice",data:=.fields #[vl,vu,.none] } }
 exact tail_any (ops:=[.ref s3.heap.objs.size,v]) ht hT hg (by with_unfolding_all rfl)
def fY (xs:List V) (lo hi:Option Int):List V:=(xs.drop (HT.iZ xs.length 0 lo)).take (HT.iZ xs.length xs.length hi - HT.iZ xs.length 0 lo)
theorem iT (xs:List V) (lo hi:Option Int):(fY xs lo hi).length<=xs.length:=by
 unfold fY;rw [length_take,length_drop];omega
noncomputable def axF (K:Fg):V->Option Int->Option Int->Hp->VK->Prop:=fun x lo hi H Q=>∃ a xs,x=.ref a/\d8 K H a xs /\ ¬ (HT.iZ xs.length 0 lo=0/\HT.iZ xs.length xs.length hi=xs.length)/\∀ p,H p=none->Q (.ref p) (upd H p (.tup (fY xs lo hi)))
theorem Qw:SlR X (axF X.K):=by
 intro pins s σ H x v vl vu lo hi sl Q I rx hs pl pu h;obtain ⟨a,xs,rfl,hx,hw,q⟩:=h;cases rx;obtain ⟨its,r,ht,hz⟩:=I.tuple hx;have hlen:its.toArray.size=xs.length:=by rw [size_toArray]; exact r.length.symm
 refine ⟨"tuple",_,PyProof.Rows.slot_tuple_getitem.lookup,ht.typeIs,?_⟩;refine HT.sE ht hs pl pu (by rw [hlen]; exact hw) ?_ (by rw [hlen]; exact hz);rw [hlen];refine ⟨.ref s.heap.objs.size,_,I.laid (t':=s.toks) (o:=.tup (fY xs lo hi)) (fun b ob q=>aq _ q) (aM _) ?_,rfl,q _ (I.hok.fresh (aM _))⟩;exact ⟨bH (iT xs lo hi) hz,_,(r.drop (HT.iZ xs.length 0 lo)).take (HT.iZ xs.length xs.length hi - HT.iZ xs.length 0 lo),IsTup.new _ _⟩
noncomputable def ano (K:Fg):R2:=fun x y H Q=>∃ a b xs ys,x=.ref a/\y=.ref b/\d8 K H a xs/\d8 K H b ys/\xs≠[]/\xs.length + ys.length<=sizeLine /\ (ys=[]->Q (.ref a) H)/\(ys≠[]->∀ p,H p=none->Q (.ref p) (upd H p (.tup (xs++ys))))
theorem Vals.Cv {xs:List V} {us:List aC} (r:Vals xs us):us=[] ↔ xs=[]:=by
 cases r with
 | nil=>simp
 | cons _ _=>simp
theorem K5:oJ X (binaryOp .Add) (ano X.K):=by
 intro pins s σ H x y v u Q I rx ry h;obtain ⟨a,b,xs,ys,rfl,rfl,ha,hb,hx,hz,q1,q2⟩:=h;cases rx;cases ry;obtain ⟨its,r1,p1,_⟩:=I.tuple ha;obtain ⟨its2,r2,p2,_⟩:=I.tuple hb;refine HT.WY p1 p2 (fun z=>hx (r1.Cv.mp z)) (fun z=>⟨.ref a,H,I,rfl,q1 (r2.Cv.mp z)⟩) (fun z=>?_) (by rw [<- r1.length,<- r2.length]; exact hz);refine ⟨.ref s.heap.objs.size,_,I.laid (t':=s.toks) (o:=.tup (xs++ys)) (fun b ob q=>aq _ q) (aM _) ?_,rfl,q2 (fun w=>z (r2.Cv.mpr w)) _ (I.hok.fresh (aM _))⟩;exact ⟨by rw [bx]; exact hz,_,r1.append r2,IsTup.new _ _⟩
end
def Qx (n:Nat) (i:Int):Option Nat:=if 0<=i then (if i < n then some i.toNat else none) else if -(n:Int)<=i then some (i + n).toNat else none
def W2 {α:Type} (xs:List α) (i:Int):Option α:=(Qx xs.length i).bind fun j=>xs[j]?
theorem K6 {n:Nat} {i:Int} {j:Nat} (h:Qx n i=some j):seqIndex? i n=some j/\j < n/\-(n:Int)<=i/\i < n:=by
 unfold Qx at h
 by_cases h0:0<=i
 ·rw [if_pos h0] at h
  by_cases h1:i < n
  ·rw [if_pos h1] at h;have e:i.toNat=j:=bN h;exact ⟨by rw [seqIndex_of h0 h1,e],by omega,by omega,h1⟩
  ·rw [if_neg h1] at h; cases h
 ·rw [if_neg h0] at h
  by_cases h1:-(n:Int)<=i
  ·rw [if_pos h1] at h;have e:(i + n).toNat=j:=bN h;exact ⟨by rw [seqIndex_neg (by omega) h1,e],by omega,h1,by omega⟩
  ·rw [if_neg h1] at h; cases h
theorem K7 {α:Type} {xs:List α} {i:Int} {v:α} (h:W2 xs i=some v):∃ j,seqIndex? i xs.length=some j/\xs[j]?=some v/\j < xs.length/\-(xs.length:Int)<=i/\i < xs.length:=by
 unfold W2 at h;cases e:Qx xs.length i with
 | none=>rw [e] at h; cases h
 | some j =>
  rw [e] at h;obtain ⟨h1,h2,h3,h4⟩:=K6 e;exact ⟨j,h1,h,h2,h3,h4⟩
theorem jh {α:Type} {xs:List α} {j:Nat} {v:α} (h:xs[j]?=some v):W2 xs (j:Int)=some v:=by
 have hj:j < xs.length:=(aD.mp h).1;have e:Qx xs.length (j:Int)=some j:=by
  unfold Qx;rw [if_pos (by omega),if_pos (by omega)]; simp
 unfold W2; rw [e]; exact h
def W3 (b:Expr):Prop:=∀ o i,subscripted b false o i=operate [o,i] (getItem o i)
noncomputable def IxR (X:Cx) (r:R2):Prop := ∀ (value slice:Expr) (pins:List (aB × Obj)) (s:aV) (σ:St) (H:Hp) (x y:V) (v u:aC) (Q:VK),Inv X pins σ H s->RelV x v->RelV y u->r x y H Q -> subscripted slice false v u=operate [v,u] (getItem v u)->wpAny (model X.prog X.w) X.A (subscriptTail value slice v u) (EP X pins σ Q) X.xe s
noncomputable def MtR (X:Cx) (id:String) (r:V->List V->Hp->VK->Prop):Prop := ∀ (pins:List (aB × Obj)) (s:aV) (σ:St) (H:Hp) (x:V) (xs:List V) (v:aC) (us:List aC) (Q:VK),Inv X pins σ H s->RelV x v->Vals xs us->r x xs H Q -> wpAny (model X.prog X.w) X.A (call (.builtin id) (v::us)) (EP X pins σ Q) X.xe s
section
variable {X:Cx} {a b:Expr} {ta tb:TE} {pos:Pos}
theorem cQ {r:R2} (hr:IxR X r) (ha:PE X a ta) (hb:PE X b tb) (hs:W3 b):PE X (.Subscript a b pos) (tOp r ta tb):=by
 intro pins s σ H Q I h;exact Subscript_ (af0 ha hb I h fun v u s2 x y H2 I2 rx ry q=>hr a b pins s2 σ H2 x y v u Q I2 rx ry q (hs _ _))
def axG (K:Fg):R2:=fun x y H Q=>∃ p xs i v,x=.ref p/\y=.int i/\cW K H p xs/\W2 xs i=some v/\Q v H
def axH (K:Fg):R2:=fun x y H Q=>∃ p xs i v,x=.ref p/\y=.int i/\d8 K H p xs/\W2 xs i=some v/\Q v H
theorem jC:IxR X (axG X.K):=by
 intro value slice pins s σ H x y v u Q I rx ry h hs;obtain ⟨p,xs,i,z,rfl,rfl,hq,he,q⟩:=h;cases rx;obtain ⟨t,rfl⟩:=ry;obtain ⟨its,r,pl,hz⟩:=I.list hq;obtain ⟨j,h1,h2,h3,h4,h5⟩:=K7 he;obtain ⟨w,ew,rw'⟩:=r.get h2;have hl:=r.length;have hn:=qL;have fin:EP X pins σ Q w s:=⟨z,H,I,rw',q⟩
 by_cases h0:0<=i
 ·have hj:i.toNat=j:=by
   rw [seqIndex_of h0 h5] at h1;exact bN h1
  exact item_listR pl.isList h0 (by omega) (by rw [hj]; simpa using ew) fin hs
 ·have hj:(i + (its.toArray.size:Int)).toNat=j:=by
   rw [seqIndex_neg (by omega) h4] at h1;rw [size_toArray,<- hl];exact bN h1
  exact subscriptTail_builtinR (x:=w) pl.isList.typeIs slot_list_getitem.lookup (wpAny_getItem_list_neg (Q:=fun r s'=>r=w/\EP X pins σ Q r s') pl.isList (by omega) (by rw [size_toArray] <;> omega) (by omega) (by rw [hj]; simpa using ew) ⟨rfl,fin⟩) hs
theorem cB:IxR X (axH X.K):=by
 intro value slice pins s σ H x y v u Q I rx ry h hs;obtain ⟨p,xs,i,z,rfl,rfl,hq,he,q⟩:=h;cases rx;obtain ⟨t,rfl⟩:=ry;obtain ⟨its,r,pl,hz⟩:=I.tuple hq;obtain ⟨j,h1,h2,h3,h4,h5⟩:=K7 he;obtain ⟨w,ew,rw'⟩:=r.get h2;have hl:=r.length;have hn:=qL;have fin:EP X pins σ Q w s:=⟨z,H,I,rw',q⟩;exact subscriptTail_builtinR (x:=w) pl.typeIs slot_tuple_getitem.lookup (getItem_tuple (j:=j) (Q:=fun r s'=>r=w/\EP X pins σ Q r s') pl (by omega) (by omega) (by rw [size_toArray,<- hl]; exact h1) (by simpa using ew) ⟨rfl,fin⟩) hs
theorem Ir (its:List aC) (n j:Nat) (u:aC):Obj.mapSeq (·.setIfInBounds j u) { cls:=.type "list",data:=.seq its.toArray n }={ cls:=.type "list",data:=.seq (its.set j u).toArray n }:=by
 simp [Obj.mapSeq]
theorem Inv.lst {pins:List (aB × Obj)} {σ:St} {H:Hp} {s:aV} {p:aB} {xs:List V} (I:Inv X pins σ H s) (h:H p=some (.lst xs)) : ∃ (its:List aC) (n:Nat),Vals xs its/\s.heap.get? p=some { cls:=.type "list",data:=.seq its.toArray n }/\xs.length<=sizeLine:=by
 obtain ⟨z,its,n,r,e⟩:=I.hok p _ h;exact ⟨its,n,r,e,z⟩
theorem Inv.aga {pins:List (aB × Obj)} {σ:St} {H:Hp} {s:aV} {p:aB} {xs ys:List V} {its its':List aC} {n n':Nat} {f:Obj->Obj} (I:Inv X pins σ H s) (h:H p=some (.lst xs)) (ho:s.heap.get? p=some { cls:=.type "list",data:=.seq its.toArray n }) (hf:f { cls:=.type "list",data:=.seq its.toArray n }={ cls:=.type "list",data:=.seq its'.toArray n' }) (r:Vals ys its') (hz:ys.length<=sizeLine) (t:Nat) : Inv X pins σ (upd H p (.lst ys)) { s with heap:=s.heap.update p f,toks:=t }:=by
 have e:(s.heap.update p f).get? p=some { cls:=.type "list",data:=.seq its'.toArray n' }:=by
  rw [Heap.get?_update_self f ho (by rw [hf] <;> rfl),hf]
 refine I.write (x:=p) (e:=p) (by rw [h]; trivial) (.inl rfl) (fun b u hb q=>(Heap.get?_update_other _ _ (Ne.symm hb)).trans q) ⟨_,e⟩ ?_;exact ⟨hz,its',n',r,e⟩
def anr:V->V->V->Hp->(Hp->Prop)->Prop:=fun o i v H Q=>∃ p xs k j,o=.ref p/\i=.int k/\H p=some (.lst xs)/\Qx xs.length k=some j/\Q (upd H p (.lst (xs.set j v)))
theorem set_list:afU X anr:=by
 intro pins s σ H o i v ov iv u Q I ro ri rv h;obtain ⟨p,xs,k,j,rfl,rfl,hp,hj,q⟩:=h;cases ro;obtain ⟨t,rfl⟩:=ri;obtain ⟨its,n,r,ho,hz⟩:=I.lst hp;obtain ⟨h1,h2,h3,h4⟩:=K6 hj;have hl:=r.length;have hn:=qL;have I':Inv X pins σ (upd H p (.lst (xs.set j v))) { s with heap:=s.heap.update p (Obj.mapSeq (·.setIfInBounds j u)) } :=
  I.aga hp ho (Ir its n j u) (r.set rv j) (by rw [length_set]; exact hz) s.toks
 by_cases h0:0<=k
 ·have hk:k.toNat=j:=by
   rw [seqIndex_of h0 h4] at h1;exact bN h1
  exact PySem.W.ki_setAt ho h0 (by omega) (by rw [size_toArray,<- hl]; exact h4) (by rw [hk]; exact ⟨_,I',q⟩)
 ·have hk:(k + (its.toArray.size:Int)).toNat=j:=by
   rw [seqIndex_neg (by omega) h3] at h1;rw [size_toArray,<- hl];exact bN h1
  exact PySem.W.ki_setBack ho (by omega) (by rw [size_toArray,<- hl]; exact h3) (by omega) (by rw [hk]; exact ⟨_,I',q⟩)
theorem Cw (lo hi:Option Int) (n:Nat):(sliceBounds lo hi none n).1=((HT.iZ n 0 lo:Nat):Int)/\(sliceBounds lo hi none n).2.1=((HT.iZ n n hi:Nat):Int)/\(sliceBounds lo hi none n).2.2=1:=by
 refine ⟨?_,?_,rfl⟩
 ·cases lo with
  | none=>simp [sliceBounds,HT.iZ]
  | some i =>
   simp only [sliceBounds,HT.iZ,Option.getD_none,show (1:Int) > 0 by decide,if_true]
   by_cases h:i < 0
   ·simp only [h,if_true] <;> omega
   ·simp only [h,if_false] <;> omega
 ·cases hi with
  | none=>simp [sliceBounds,HT.iZ]
  | some i =>
   simp only [sliceBounds,HT.iZ,Option.getD_none,show (1:Int) > 0 by decide,if_true]
   by_cases h:i < 0
   ·simp only [h,if_true] <;> omega
   ·simp only [h,if_false] <;> omega
theorem zN (its:List aC) (lo hi:Option Int):slicePick its.toArray lo hi none=((its.drop (HT.iZ its.length 0 lo)).take (HT.iZ its.length its.length hi - HT.iZ its.length 0 lo)).toArray:=by
 obtain ⟨h1,h2,h3⟩:=Cw lo hi its.toArray.size;unfold slicePick;rw [h1,h2,h3];simp only [sliceRange_one,pick_run,size_toArray] <;> rfl
def axI (K:Fg):V->Option Int->Option Int->Hp->VK->Prop:=fun x lo hi H Q=>∃ a xs,x=.ref a/\cW K H a xs/\∀ p,H p=none->Q (.ref p) (upd H p (.lst (fY xs lo hi)))
theorem sG:SlR X (axI X.K):=by
 intro pins s σ H x v vl vu lo hi sl Q I rx hs pl pu h;obtain ⟨a,xs,rfl,hx,q⟩:=h;cases rx;obtain ⟨its,r,ht,hz⟩:=I.list hx;have hlen:=r.length;refine ⟨"list",_,slot_list_getitem.lookup,ht.isList.typeIs,?_⟩;refine wpAny_getItem_list_slice ht.isList hs pl pu .none (by simp) ?_ (by rw [size_toArray] <;> omega);rw [zN,<- hlen];refine ⟨.ref s.heap.objs.size,_,I.laid (t':=s.toks) (o:=.lst (fY xs lo hi)) (fun b ob q=>aq _ q) (aM _) ?_,rfl,q _ (I.hok.fresh (aM _))⟩;exact ⟨bH (iT xs lo hi) hz,_,0,(r.drop (HT.iZ xs.length 0 lo)).take (HT.iZ xs.length xs.length hi - HT.iZ xs.length 0 lo),aN _ rfl⟩
def jt:V->Bool
 | .non=>true
 | .bl _=>true
 | .int _=>true
 | .str _=>true
 | _=>false
noncomputable def HD:V->V->Bool
 | .non,.non=>true
 | .bl a,.bl b=>a == b
 | .bl a,.int b=>(if a then 1 else 0) == b
 | .int a,.bl b=>a == (if b then 1 else 0)
 | .int a,.int b=>a == b
 | .str a,.str b=>a == b
 | _,_=>false
theorem Qy {A:dB} {s:aV} {y x:V} {u v:aC} (ry:RelV y u) (rx:RelV x v) (fy:jt y=true) (fx:jt x=true):SeqAt.EqAt A s u v (HD y x):=by
 cases y with
 | non =>
  cases ry;cases x with
  | non=>cases rx; exact SeqAt.EqAt.same _
  | bl b=>cases rx; exact SeqAt.EqAt.none_bool b
  | int b=>obtain ⟨t,rfl⟩:=rx; exact SeqAt.EqAt.none_int b t
  | str b=>obtain ⟨t,rfl⟩:=rx; exact SeqAt.EqAt.none_str b t
  | _=>exact absurd (show false=true from fx) Bool.false_ne_true
 | bl a =>
  cases ry;cases x with
  | non=>cases rx; exact SeqAt.EqAt.bool_none a
  | bl b=>cases rx; exact SeqAt.EqAt.bool_bool a b
  | int b=>obtain ⟨t,rfl⟩:=rx; exact SeqAt.EqAt.bool_int a b t
  | str b=>obtain ⟨t,rfl⟩:=rx; exact SeqAt.EqAt.bool_str a b t
  | _=>exact absurd (show false=true from fx) Bool.false_ne_true
 | int a =>
  obtain ⟨t',rfl⟩:=ry;cases x with
  | non=>cases rx; exact SeqAt.EqAt.int_none a t'
  | bl b=>cases rx; exact SeqAt.EqAt.int_bool a t' b
  | int b=>obtain ⟨t,rfl⟩:=rx; exact SeqAt.EqAt.int_int a t' b t
  | str b=>obtain ⟨t,rfl⟩:=rx; exact SeqAt.EqAt.int_str a t' b t
  | _=>exact absurd (show false=true from fx) Bool.false_ne_true
 | str a =>
  obtain ⟨t',rfl⟩:=ry;cases x with
  | non=>cases rx; exact SeqAt.EqAt.str_none a t'
  | bl b=>cases rx; exact SeqAt.EqAt.str_bool a t' b
  | int b=>obtain ⟨t,rfl⟩:=rx; exact SeqAt.EqAt.str_int a t' b t
  | str b=>obtain ⟨t,rfl⟩:=rx; exact SeqAt.EqAt.str_str a t' b t
  | _=>exact absurd (show false=true from fx) Bool.false_ne_true
 | _=>exact absurd (show false=true from fy) Bool.false_ne_true
def Qz (x:V) (u:aC):Bool:=match u with
 | .none=>HD .non x
 | .bool b=>HD (.bl b) x
 | .int i _=>HD (.int i) x
 | .str z _=>HD (.str z) x
 | _=>false
theorem Iu {x y:V} {u:aC} (r:RelV y u) (f:jt y=true):Qz x u=HD y x:=by
 cases y with
 | non=>cases r; rfl
 | bl b=>cases r; rfl
 | int i=>obtain ⟨t,rfl⟩:=r; rfl
 | str z=>obtain ⟨t,rfl⟩:=r; rfl
 | _=>exact absurd (show false=true from f) Bool.false_ne_true
theorem Cy {x:V}:∀ {xs:List V} {us:List aC},Vals xs us->xs.all jt=true->us.any (Qz x)=xs.any fun y=>HD y x
 | _,_,.nil,_=>rfl
 | y::xs,u::us,.cons r t,f=>by
  rw [all_cons,Bool.and_eq_true] at f;rw [any_cons,any_cons,Iu r f.1,Cy t f.2]
theorem sI {A:dB} {s:aV} {x:V} {v:aC} (rx:RelV x v) (fx:jt x=true):∀ {xs:List V} {us:List aC},Vals xs us->xs.all jt=true->∀ u ∈ us,SeqAt.EqAt A s u v (Qz x u)
 | _,_,.nil,_=>fun u hu=>by cases hu
 | y::xs,u::us,.cons r t,f=>fun u' hu=>by
  rw [all_cons,Bool.and_eq_true] at f;rcases aQ.mp hu with rfl | hu
  ·rw [Iu r f.1]; exact Qy r rx f.1 fx
  ·exact sI rx fx t f.2 u' hu
def inV (x:V) (xs:List V):Bool:=xs.any fun y=>HD y x
def rIn (K:Fg) (neg:Bool):R2:=fun x y H Q=>∃ p xs,y=.ref p/\(cW K H p xs\/d8 K H p xs)/\jt x=true/\xs.all jt=true/\Q (.bl (if neg then !inV x xs else inV x xs)) H
theorem sJ:oJ X (compareOp .NotIn) (rIn X.K true):=by
 intro pins s σ H x y v u Q I rx ry h;obtain ⟨p,xs,rfl,hq,fx,fs,q⟩:=h;cases ry;rcases hq with hq | hq
 ·obtain ⟨its,r,pl,hz⟩:=I.list hq;refine SeqAt.notIn_listAt (Qz x) pl.isList (fun w hw=>sI rx fx r fs w (by simpa using hw)) ⟨.bl _,H,I,rfl,?_⟩;rw [show its.toArray.any (Qz x)=its.any (Qz x) by simp,Cy r fs];exact q
 ·obtain ⟨its,r,pl,hz⟩:=I.tuple hq;refine SeqAt.notIn_tupleAt (Qz x) pl (fun w hw=>sI rx fx r fs w (by simpa using hw)) ⟨.bl _,H,I,rfl,?_⟩;rw [show its.toArray.any (Qz x)=its.any (Qz x) by simp,Cy r fs];exact q
theorem fD:iy X (.builtin "len") (fun xs H Q=>∃ p ys,xs=[.ref p]/\(cW X.K H p ys\/d8 X.K H p ys)/\Q (.int ys.length) H):=by
 intro pins s σ H xs us Q I r h;obtain ⟨p,ys,rfl,hq,q⟩:=h;obtain ⟨u,rfl,rx⟩:=vals1 r;cases rx;have hn:=qL;rcases hq with hq | hq
 ·obtain ⟨its,r',pl,hz⟩:=I.list hq;have hlen:=r'.length;exact Calls.call_len_list pl.isList (by simp only [size_toArray] <;> omega) ⟨.int ys.length,H,I.tok _,⟨s.toks + 1,by rw [size_toArray,hlen]⟩,q⟩
 ·obtain ⟨its,r',pl,hz⟩:=I.tuple hq;have hlen:=r'.length;exact len_tuple pl (by simp only [size_toArray] <;> omega) ⟨.int ys.length,H,I.tok _,⟨s.toks + 1,by rw [size_toArray,hlen]⟩,q⟩
theorem Cz:iy X (.builtin "len") (fun xs H Q=>∃ z,xs=[.str z]/\z.length<=sizeLine/\Q (.int z.length) H):=by
 intro pins s σ H xs us Q I r h;obtain ⟨z,rfl,hz,q⟩:=h;obtain ⟨u,rfl,t,rfl⟩:=vals1 r;have hn:=qL;exact len_str (by omega) ⟨.int z.length,H,I.tok _,⟨_,rfl⟩,q⟩
theorem CJ:iy X (.type "list") (fun xs H Q=>∃ p ys,xs=[.ref p]/\(cW X.K H p ys\/d8 X.K H p ys)/\∀ l,H l=none->Q (.ref l) (upd H l (.lst ys))):=by
 intro pins s σ H xs us Q I r h;obtain ⟨p,ys,rfl,hq,q⟩:=h;obtain ⟨u,rfl,rx⟩:=vals1 r;cases rx;have fin:∀ (its:List aC),Vals ys its->ys.length<=sizeLine->∀ (h':Heap) (c':Nat),(∀ b o',s.heap.get? b=some o'->h'.get? b=some o') ->
   h'.get? s.heap.objs.size=some { cls:=.type "list",dict:=none,data:=.seq its.toArray c',slots:=#[] }->EP X pins σ Q (.ref s.heap.objs.size) { s with heap:=h' }:=fun its r' hz h' c' kp e =>
  ⟨.ref s.heap.objs.size,_,I.laid (t':=s.toks) kp (aM _) (show fV X.prog X.w _ h' _ (.lst ys) from ⟨hz,its,c',r',e⟩),rfl,q _ (I.hok.fresh (aM _))⟩
 rcases hq with hq | hq
 ·obtain ⟨its,r',pl,hz⟩:=I.list hq;have hlen:=r'.length;obtain ⟨o,ho,hc,n,hd⟩:=pl.isList;exact call_list_seq p (.inl rfl) ho hc hd (fun h' c' kp e=>fin its r' hz h' c' kp e) (by simp only [size_toArray] <;> omega)
 ·obtain ⟨its,r',pl,hz⟩:=I.tuple hq;have hlen:=r'.length;obtain ⟨o,ho,hc,n,hd⟩:=pl;exact call_list_seq p (.inr rfl) ho hc hd (fun h' c' kp e=>fin its r' hz h' c' kp e) (by simp only [size_toArray] <;> omega)
theorem zO:iy X (.type "tuple") (fun xs H Q=>∃ p ys,xs=[.ref p]/\((cW X.K H p ys/\∀ l,H l=none->Q (.ref l) (upd H l (.tup ys)))\/(d8 X.K H p ys/\Q (.ref p) H))):=by
 intro pins s σ H xs us Q I r h;obtain ⟨p,ys,rfl,h⟩:=h;obtain ⟨u,rfl,rx⟩:=vals1 r;cases rx;rcases h with ⟨hq,q⟩ | ⟨hq,q⟩
 ·obtain ⟨its,r',pl,hz⟩:=I.list hq;have hlen:=r'.length;refine call_tuple_list pl.isList (fun h' kp=>?_) (by simp only [size_toArray] <;> omega);have I1:Inv X pins σ H { s with heap:=h' }:=I.kept (t':=s.toks) kp;have I2:Inv X pins σ (upd H h'.objs.size (.tup ys)) { s with heap:=h'.push { cls:=.type "tuple",data:=.seq its.toArray } } :=
   I1.laid (t':=s.toks) (fun b o e=>aq _ e) (aM _) (show fV X.prog X.w _ _ _ (.tup ys) from ⟨hz,its,r',IsTup.new _ _⟩)
  exact ⟨.ref h'.objs.size,_,I2,rfl,q _ (I1.hok.fresh (aM _))⟩
 ·obtain ⟨its,r',pl,hz⟩:=I.tuple hq;exact call_tuple_same pl ⟨.ref p,H,I,rfl,q⟩
noncomputable def tyV (K:Fg) (T:String) (x:V) (H:Hp):Prop:=match x with
 | .str _=>T="str"
 | .int _=>T="int"
 | .ref p=>(T="list"/\∃ xs,cW K H p xs)\/(T="tuple"/\∃ o,K.lookup p=some o/\o.cls=.type "tuple"/\o.dict=none) \/ (T="dict"/\((∃ kvs,H p=some (.dK kvs))\/∃ kvs,H p=some (.dT kvs)))\/(T="set"/\∃ S n,H p=some (.set S n))
 | _=>False
theorem agb {pins:List (aB × Obj)} {σ:St} {H:Hp} {s:aV} {T:String} {x:V} {v:aC} (I:Inv X pins σ H s) (r:RelV x v) (ty:tyV X.K T x H) : s.TypeIs v T/\∀ a,v=.ref a->∃ ob,s.heap.get? a=some ob/\ob.dict=none:=by
 cases x with
 | str z =>
  obtain ⟨t,rfl⟩:=r;cases (show T="str" from ty);exact ⟨typeIs_str s z t,fun _ e=>nomatch e⟩
 | int i =>
  obtain ⟨t,rfl⟩:=r;cases (show T="int" from ty);exact ⟨typeIs_int s i t,fun _ e=>nomatch e⟩
 | ref p =>
  cases r;rcases ty with ⟨rfl,xs,hq⟩ | ⟨rfl,o,hk,hc,hd⟩ | ⟨rfl,hk⟩ | ⟨rfl,S,n,hk⟩
  ·obtain ⟨its,_,pl,_⟩:=I.list hq;refine ⟨pl.isList.typeIs,fun a e=>?_⟩;cases e;obtain ⟨o,n,e,c,hd,_⟩:=pl;exact ⟨o,e,hd⟩
  ·refine ⟨⟨o,I.oU p o hk,hc⟩,fun a e=>?_⟩;cases e;exact ⟨o,I.oU _ o hk,hd⟩
  ·have z:∃ o,s.heap.get? p=some o/\o.ExactDict:=by
    rcases hk with ⟨kvs,hk⟩ | ⟨kvs,hk⟩
    ·obtain ⟨_,_,_,_,o,_,_,e,ex,_⟩:=I.hok p _ hk;exact ⟨o,e,ex⟩
    ·obtain ⟨_,_,_,_,o,_,_,e,ex,_⟩:=I.hok p _ hk;exact ⟨o,e,ex⟩
   obtain ⟨o,e,ex⟩:=z;refine ⟨⟨o,e,ex.1⟩,fun a e2=>?_⟩;cases e2;exact ⟨o,e,ex.2.1⟩
  ·obtain ⟨o,_,_,_,e,ex,_⟩:=I.hok p _ hk;refine ⟨⟨o,e,ex.1⟩,fun a e2=>?_⟩;cases e2;exact ⟨o,e,ex.2.1⟩
 | _=>exact False.elim ty
def tBM (K:Fg) (T:String) (r:V->List V->Hp->VK->Prop) (to:TE) (t:TA):TE:=fun σ H Q=>to σ H fun x H1=>tyV K T x H1/\t σ H1 fun xs H2=>r x xs H2 Q
variable {o e:Expr} {es:List Expr} {to:TE} {t:TA} {name:Str} {apos cpos:Pos} {T id:String} {r:V->List V->Hp->VK->Prop}
theorem vV (pa:PlainAttrs T) (slot:Slot T name id) (hty:typeOf (.builtin id)=pure (.type "method_descriptor")) (hm:MtR X id r) (ho:PE X o to) (ha:PA X (e::es) t) (hbase:autoParam (attributeBase o name X.env (eval o X.env)=eval o X.env) zau0) (hfew:autoParam (((backTo cpos (starEach (e::es) X.env)).all (fun x=>!x.1) && (backToKw cpos (keywordEach [] X.env)).all (fun x=>x.1.isSome) && decide ((e::es).length + ([]:List Keyword).length + (if ([]:List Keyword).isEmpty then 0 else 1) < 30))=true) zau0) (hline:autoParam ((apos.endLine == cpos.line)=true) zau0) (hs:autoParam (starEach (e::es) X.env=(false,eval e X.env)::starEach es X.env) zau0) (hplain:autoParam ((backTo cpos (starEach es X.env)).any (·.1)=false) zau0) : PE X (.Call (.Attribute o name apos) (e::es) [] cpos) (tBM X.K T r to t):=by
 intro pins s σ H Q I h;refine wpAny_Call_method_late hbase hfew hline rfl (eY (ho pins s σ H _ I h) fun v s1 ⟨x,H1,I1,r1,ty,q1⟩=>?_);obtain ⟨h1,h2⟩:=agb I1 r1 ty;refine ⟨T,id,pa,slot,hty,h1,h2,?_⟩;have hA:=ha cpos pins s1 σ H1 _ I1 q1;rw [hs] at hA ⊢;refine Calls.callWith_builtin (by show (false || (backTo cpos (starEach es X.env)).any (·.1))=false; rw [hplain] <;> rfl) (Calls.evalArgs_plain ?_);exact eY hA fun us s2 ⟨vs,H2,I2,r2,q2⟩=>hm pins s2 σ H2 x vs v us Q I2 r1 r2 q2
end
noncomputable def MtM (X:Cx) (id:String) (r:V->List V->Hp->VK->Prop):Prop := ∀ (pins:List (aB × Obj)) (s:aV) (σ:St) (H:Hp) (x:V) (xs:List V) (v:aC) (us:List aC) (Q:VK),Inv X pins σ H s->RelV x v->Vals xs us->r x xs H Q -> wpAny (model X.prog X.w) X.A (call (.builtin id) (v::us)) (EP X pins σ Q) X.xe s
theorem Vals.one:∀ {x:V} {us:List aC},Vals [x] us->∃ u,us=[u]/\RelV x u
 | _,_,.cons r .nil=>⟨_,rfl,r⟩
theorem Vals.two:∀ {x y:V} {us:List aC},Vals [x,y] us->∃ u v,us=[u,v]/\RelV x u/\RelV y v
 | _,_,_,.cons r (.cons q .nil)=>⟨_,_,rfl,r,q⟩
section
variable {X:Cx} {pins:List (aB × Obj)} {σ:St} {H:Hp} {s:aV} {l b:aB} {xs ys zs:List V}
theorem Inv.ant {its its':List aC} {n:Nat} {f:Array aC->Array aC} {t':Nat} (I:Inv X pins σ H s) (hH:H l=some (.lst xs)) (e:s.heap.get? l=some { cls:=.type "list",data:=.seq its.toArray n }) (hf:f its.toArray=its'.toArray) (hv:Vals ys its') (hz:ys.length<=sizeLine) : Inv X pins σ (upd H l (.lst ys)) { s with heap:=s.heap.update l (Obj.mapSeq f),toks:=t' }:=by
 have q:=PySem.IsL.update e f;rw [hf] at q;refine I.write (x:=l) (e:=l) (by rw [hH]; exact trivial) (.inl rfl) (fun b' u hb hu=>(Heap.get?_update_other s.heap (Obj.mapSeq f) (Ne.symm hb)).trans hu) ⟨_,q⟩ ?_;exact ⟨hz,its',_,hv,q⟩
theorem Inv.axK {its:List aC} {t':Nat} (I:Inv X pins σ H s) (hv:Vals ys its) (hz:ys.length<=sizeLine) : Inv X pins σ (upd H s.heap.objs.size (.lst ys)) { s with heap:=s.heap.push { cls:=.type "list",data:=.seq its.toArray },toks:=t' } := I.laid (fun _ _ q=>aq _ q) (aM _) ⟨hz,its,0,hv,aN _ rfl⟩
theorem Inv.fresh (I:Inv X pins σ H s):H s.heap.objs.size=none:=I.hok.fresh (aM _)
theorem Inv.Nt (I:Inv X pins σ H s) (hH:H l=some (.lst xs)):xs.length<=sizeLine/\∃ (its:List aC) (n:Nat),Vals xs its/\xs.length=its.length/\s.heap.get? l=some { cls:=.type "list",data:=.seq its.toArray n }:=by
 obtain ⟨z,its,n,r,e⟩:=I.hok l _ hH;exact ⟨z,its,n,r,r.length,e⟩
theorem QB {n:Nat} (h:n<=sizeLine):Builtin.List.listTooLong n=false:=by
 unfold Builtin.List.listTooLong;exact aP (by omega)
end
section
variable {X:Cx}
def W4:V->List V->Hp->VK->Prop:=fun x vs H Q=>∃ l xs y,x=.ref l/\vs=[y]/\H l=some (.lst xs)/\xs.length < sizeLine/\Q .non (upd H l (.lst (xs++[y])))
theorem iU:MtM X "list.append" W4:=by
 intro pins s σ H x vs v us Q I rx rv h;obtain ⟨l,xs,y,rfl,rfl,hH,hz,q⟩:=h;cases rx;obtain ⟨u,rfl,ru⟩:=rv.one;obtain ⟨z,its,n,r,hl,e⟩:=I.Nt hH;refine call_meets F.slot_list_append ⟨_,e,rfl⟩ F.entry_list_append (F.args_list_append_2 _ _) (PySem.list_append l its.toArray n u (by rw [size_toArray]; omega)) ⟨e,?_⟩;refine ⟨.non,_,I.ant (its':=its++[u]) hH e (by simp) (r.append (.cons ru .nil)) ?_,rfl,q⟩;rw [bx,List.length_singleton];omega
def W5:V->List V->Hp->VK->Prop:=fun x vs H Q=>∃ l b xs zs,x=.ref l/\vs=[.ref b]/\H l=some (.lst xs)/\H b=some (.lst zs)/\xs.length + zs.length<=sizeLine/\Q .non (upd H l (.lst (xs++zs)))
theorem ak3:MtM X "list.extend" W5:=by
 intro pins s σ H x vs v us Q I rx rv h;obtain ⟨l,b,xs,zs,rfl,rfl,hH,hB,hz,q⟩:=h;cases rx;obtain ⟨u,rfl,ru⟩:=rv.one;cases ru;obtain ⟨z,its,n,r,hl,e⟩:=I.Nt hH;obtain ⟨z2,its2,n2,r2,hl2,e2⟩:=I.Nt hB;have hsz:its.toArray.size + its2.toArray.size<=sizeLine:=by rw [size_toArray,size_toArray]; omega
 have anu:¬ (!its.toArray.isEmpty && Builtin.List.listTooLong (its.toArray.size + its2.toArray.size))=true:=by
  rw [QB hsz,Bool.and_false];exact Bool.false_ne_true
 refine call_meets F.slot_list_extend ⟨_,e,rfl⟩ F.entry_list_extend (F.args_list_extend_2 _ _) (AutoSeq1.list_extend_list_list_0 l its.toArray n b its2.toArray n2 anu (by rw [size_toArray]; omega) (by omega)) ⟨e,e2,?_⟩;refine ⟨.non,_,I.ant (its':=its++its2) hH e (by simp) (r.append r2) ?_,rfl,q⟩;rw [bx];omega
def axL:R2:=fun x y H Q=>∃ l b xs zs,x=.ref l/\y=.ref b/\H l=some (.lst xs)/\H b=some (.lst zs)/\xs.length + zs.length<=sizeLine/\∀ p,H p=none->Q (.ref p) (upd H p (.lst (xs++zs)))
theorem uG:oJ X (binaryOp .Add) axL:=by
 intro pins s σ H x y v u Q I rx ry h;obtain ⟨l,b,xs,zs,rfl,rfl,hH,hB,hz,q⟩:=h;cases rx;cases ry;obtain ⟨z,its,n,r,hl,e⟩:=I.Nt hH;obtain ⟨z2,its2,n2,r2,hl2,e2⟩:=I.Nt hB;refine PySem.P.add_list e e2 ?_ (by rw [size_toArray,size_toArray]; omega);have ea:its.toArray++its2.toArray=(its++its2).toArray:=by simp
 rw [ea];exact ⟨.ref _,_,I.axK (t':=s.toks) (r.append r2) (by rw [bx]; omega),rfl,q _ I.fresh⟩
end
section
variable {prog:bZ} {w:World} {A:dB} {E:aC->aV->Prop} {s:aV}
set_option maxRecDepth 100000 in
end
section
variable {X:Cx}
end
end L2
namespace Att
open PySem PySem.W PySem.Calls PyProof.Rows
theorem wA {P:Params} {h:Heap}:∀ (ns:List Int) (vs:List aC),WellAll P h vs (ns.map WData.int)->IntsAre vs ns:=by
 intro ns
 induction ns with
 | nil =>
  intro vs w;rw [map_nil] at w;cases w;exact .nil
 | cons n ns ih =>
  intro vs w;rw [cj] at w;cases w with
  | cons a b =>
   cases a;exact .cons _ _ (ih _ b)
theorem Nu {l:OpenLaw} {n:Nat} (hn:l.most=some n) {P:Params} {h:Heap} {args:List WData} {vals:List aC} (hpre:l.row.toRowW.claim.pre args=true) (hwl:WellAll P h vals args) : ∃ a vs ns,vals=[Value.ref a]/\args=[WData.list (ns.map WData.int)]/\h.get? a=some { cls:=.type "list",data:=.seq vs.toArray }/\IntsAre vs ns/\ns.length<=n:=by
 have hsh:WShape.hasAll [] args [.list .int]=true:=(pre_splitW hpre).1;have hc:l.pre.holds [] { args:=args }=true:=(pre_splitW hpre).2;obtain ⟨d,r,rfl,h1,h2⟩:=hasAllW_cons hsh;obtain rfl:=hasAllW_nil h2;obtain ⟨xs,rfl,h3⟩:=hasW_list h1;obtain ⟨ns,rfl⟩:=items_int h3;have hlen:ns.length<=n:=by
  unfold OpenLaw.pre at hc;have h4:(WTm.not (.lt (.lit (.int (n:Int))) (.len (.arg 0)))).holds [] { args:=[.list (ns.map .int)] }=true:=by
   have h4:=(holds_andW hc).1;rw [hn] at h4;exact h4
  have h5:=condW_of h4 (w_not (w_lt w_lit (w_len_list (w_arg rfl))));rw [au] at h5;refine Nat.le_of_not_lt fun q=>?_
  have q':(n:Int) < ((ns.length:Nat):Int):=by omega
  first
   | (rw [aO q'] at h5; exact absurd h5 (by decide))
   | (simp at h5; omega)
 cases hwl with
 | cons w1 w2 =>
  cases w2;cases w1 with
  | list ho hall=>exact ⟨_,_,ns,rfl,rfl,ho,wA ns _ hall,hlen⟩
theorem Nv (l:OpenLaw) (args:List WData):l.row.toRowW.claim.post args (.bool true) args=true := postW_of (r:=l.row.toRowW) (X:=(true == true)) (show WShape.has [] (.bool true) .bool=true by first | rfl | decide | simp [WShape.has,WShape.arms,WShape.armsAll]) (show (WTm.eq .res (.lit (.bool true))).value [] { args:=args,res:=some (.bool true),after:=args }=some (.bool (true == true)) from w_eq_bool (w_res rfl) w_lit) rfl
theorem Et {l:OpenLaw} {n:Nat} {q:bZ} {loose:List Str} {XP:(Str->Option aC)->Heap->Prop} {YP:World->Heap->Prop} {d:DefRec} (hn:l.most=some n) (hdf:d.params.defaults=[]) (call:∀ (w:World) (s₀ s₁:aV) (mg mb:Str->Option aC) (fa:aB) (o:Obj) (pm cd doc:aC) (a:aB) (vs:List aC) (ns:List Int),Ground q loose [] XP w s₀ mg mb s₁.heap->YP w s₁.heap -> s₁.heap.get? fa=some o->o.data=.func (docDef d.name d.params d.body d.scope pm cd doc)->s₁.heap.CodeRec cd d.name->mg d.name=some (.ref fa) -> s₁.heap.get? a=some { cls:=.type "list",data:=.seq vs.toArray }->IntsAre vs ns->ns.length<=n->s₁.gens=#[] -> codeAny (model l.prog w) callerA (.call (.ref fa) ⟨[.ref a],[]⟩) (fun r s'=>r=.ok (.ret (.bool true))/\OldK s₁.heap s'.heap/\s'.os=s₁.os/\AllBare s'.gens) s₁) : WalkO q loose XP YP l.row.toRowW d [] (fun f vs=>PySem.call f vs):=by
 intro w s₀ s₁ mg mb G Y fa o pm cd doc dV kV ho hd hcd hD hmg hg args vals as hpre hlay hrd hwl hlo;obtain rfl:dV=.none:=Dflts.none hD hdf;obtain rfl:kV=.none:=Dflts.noKw hD;obtain ⟨a,vs,ns,rfl,rfl,hobj,hints,hlen⟩:=Nu hn hpre hwl;refine enter_call (dh (call w s₀ s₁ mg mb fa o pm cd doc a vs ns G Y ho (fd_plain hd) hcd hmg hobj hints hlen hg) fun r s' hq=>?_);obtain ⟨rfl,h2,h3,h4⟩:=hq;exact ⟨.inl ⟨.bool true,.bool true,[],rfl,fun _=>rfl,.bool true,Nv l _,fun _=>⟨Pairwise.nil,fun _ hm=>(nomatch hm)⟩⟩,h2,h3,h4⟩
section
variable {prog:bZ} {w:World} {A:dB} {E:aC->aV->Prop} {s:aV} {K:Frag}
end
end Att
namespace L2
open PySem PySem.Spec PyProof.Rows
theorem Ai:∀ {vs:List aC} {ns:List Int},IntsAre vs ns->Vals (ns.map V.int) vs
 | _,_,.nil=>.nil
 | _,_,.cons n t h=>.cons ⟨t,rfl⟩ (Ai h)
structure lB (K:Fg) (x qual:Str) (st:cX) (f:aB) (fd:d7):Prop where
 ex:∃ (oc:aC) (od:Option aB) (kV doc pm:aC) (an:Option aB) (cdv ct:aC) (osl:Array (Option aC)),fd=fnOf x qual (jO st) (fQ st) (aW st) .none kV doc pm an cdv ct/\K.lookup f=some ⟨oc,od,.func fd,osl⟩/\codeIn K cdv qual=true
 kp:keepIn K (.ref f)=true
section
variable {P:bZ} {w:World} {K:Fg} {mg:Str->Option aC} {base:Heap}
theorem lB.binds {x qual:Str} {st:cX} {f:aB} {fd:d7} {ps:List Str} (F:lB K x qual st f fd) (h:∀ (kV doc pm:aC) (an:Option aB) (cdv ct:aC) (us:List aC),us.length=ps.length->bindArgs (fnOf x qual (jO st) (fQ st) (aW st) .none kV doc pm an cdv ct) ⟨us,[]⟩=pure (ps.zip us)):Binds K fd ps []:=by
 obtain ⟨oc,od,kV,doc,pm,an,cdv,ct,osl,rfl,lk,hcd⟩:=F.ex;exact .all (h kV doc pm an cdv ct)
theorem cC {x qual:Str} {st:cX} {f:aB} {oc:aC} {od an:Option aB} {osl:Array (Option aC)} {kV doc pm cdv ct:aC} (l:K.lookup f=some ⟨oc,od,.func (fnOf x qual (jO st) (fQ st) (aW st) .none kV doc pm an cdv ct),osl⟩) (c:codeIn K cdv qual=true) (k:keepIn K (.ref f)=true):lB K x qual st f (fnOf x qual (jO st) (fQ st) (aW st) .none kV doc pm an cdv ct):=⟨⟨oc,od,kV,doc,pm,an,cdv,ct,osl,rfl,l,c⟩,k⟩
end
section
variable {X:Cx}
theorem pv (i:Nat) {x:Str} {pos:Pos} (hN:autoParam (X.N[i]?=some x) zau0) (hv:autoParam (Vis X.env.scope x) zau5) (hd:autoParam ((x == ("__debug__":Str))=false) zau1) (hcd:autoParam ((x == ("__classdict__":Str))=false) zau1):PE X (.Name x pos) (afT i):=PL hN hv hd hcd
end
theorem dU {A B:Prop} (h:B):if false=true then A else B:=by
 rw [if_neg Bool.false_ne_true];exact h
theorem dN {A B:Prop} (h:A):if true=true then A else B:=by
 rw [if_pos rfl];exact h
theorem Eu {c A B:Prop} [Decidable c] (h1:c->A) (h2:¬ c->B):if c then A else B:=by
 by_cases h:c
 ·rw [if_pos h];exact h1 h
 ·rw [if_neg h];exact h2 h
def Same (H H':Hp):Prop:=∀ b o,H b=some o->H' b=some o
theorem Same.refl (H:Hp):Same H H:=fun _ _ h=>h
theorem Same.trans {H H1 H2:Hp} (a:Same H H1) (b:Same H1 H2):Same H H2:=fun c o h=>b c o (a c o h)
theorem Same.free {H H':Hp} (e:Same H H') {l:aB} (h:H' l=Option.none):H l=Option.none:=by
 cases q:H l with
 | none=>rfl
 | some o =>
  rw [e l o q] at h;cases h
theorem Same.seq {K:Fg} {H H':Hp} {a:aB} {xs:List V} (e:Same H H') (h:cW K H a xs):cW K H' a xs:=by
 rcases h with (h | ⟨o,h⟩) | h
 ·exact .inl (.inl (e _ _ h))
 ·exact .inl (.inr ⟨o,e _ _ h⟩)
 ·exact .inr h
theorem xM (o:Obj) (f:Array aC->Array aC):(o.mapFields f).dict=o.dict:=by
 obtain ⟨c,d,dt,sl⟩:=o;cases dt <;> rfl
noncomputable def Exc (h:Heap) (e:aB) (cls:aC) (dx:Option aB) (T:Option aB):Prop := ∃ oe vs,h.get? e=some oe/\oe.cls=cls/\oe.dict=dx/\oe.data=.fields vs /\ match T with
 | none=>vs[1]?=some Value.none
 | some t=>vs[1]?=some (.ref t)/\t≠e/\∃ oT ts fl,h.get? t=some oT/\oT.data=.fields ts/\ts[3]?=some fl
theorem Exc.keeps {h h':Heap} {e:aB} {cls:aC} {dx T:Option aB} (x:Exc h e cls dx T) (k:∀ b o,(b=e\/T=some b)->h.get? b=some o->h'.get? b=some o):Exc h' e cls dx T:=by
 obtain ⟨oe,vs,he,hc,hx,hd,hT⟩:=x;refine ⟨oe,vs,k _ _ (.inl rfl) he,hc,hx,hd,?_⟩;cases T with
 | none=>exact hT
 | some t =>
  obtain ⟨h1,hne,oT,ts,fl,h2,h3,h4⟩:=hT;exact ⟨h1,hne,oT,ts,fl,k _ _ (.inr rfl) h2,h3,h4⟩
def Ew (head:aC) (L:aB) (pl:List aC):Obj := { cls:=.type "traceback",dict:=none,data:=.fields ([head,.ref L,.none,rawInt L,.none]++(if pl.isEmpty then List.replicate 6 Value.none else pl)).toArray }
theorem CK (head:aC) (L:aB) (pl:List aC):∃ ts,(Ew head L pl).data=.fields ts/\ts[3]?=some (rawInt L):=⟨_,rfl,by simp⟩
structure Ey (fr:List aB) (e:aB) (T:Option aB) (h h':Heap):Prop where
 same:∀ b o,b ∉ fr->b≠e->T≠some b->h.get? b=some o->h'.get? b=some o
 upto:∀ b o,b≠e->T≠some b->h.get? b=some o->∃ sl,h'.get? b=some { o with slots:=sl }
abbrev nU (l:List Env):List aB:=l.filterMap (·.frame)
section
variable {M:Model} {A:dB} {E:aC->aV->Prop} {Q:Unit->aV->Prop}
variable {s:aV} {base:Heap} {env top:Env} {rest:List Env} {L e:aB} {cls:aC} {dx:Option aB}
theorem QC {Qv:aC->aV->Prop} (st:A.frames=some (top::rest)) (Iv:s.heap.FunFrames base (top::rest)) (e0:top.frame=some L) (e1:env.frame=some L) (k:∀ h',Heap.SlotsOnly (nU (top::rest)) s.heap h'->Qv (.ref L) { s with heap:=h' }):wpAny M A (PySem.frameOf env) Qv E s:=by
 have swap:PySem.frameOf env=PySem.frameOf top:=by unfold PySem.frameOf; rw [e0,e1]
 rw [swap];exact wpAny_frameOf_fun st Iv e0 k
theorem Aj {oe:Obj} {vs:Array aC} {head:aC} {b₀:Bool} (st:A.frames=some (top::rest)) (Iv:s.heap.FunFrames base (top::rest)) (e0:top.frame=some L) (e1:env.frame=some L) (at_:s.heap.get? e=some oe) (nW:oe.data=.fields vs) (two:1 < vs.size) (k:∀ h' T,Ey (nU (top::rest)) e none s.heap h'->s.heap.get? T=none->Exc h' e oe.cls oe.dict (some T)->Q () { s with heap:=h' }) : wpAny M A (PySem.frameOf env >>= fun a=>entryPlaceOf L b₀ >>= fun pl=>EntryCells.newEntry head a .none (rawInt L) .none pl >>= fun r=>setField (.ref e) 1 r) Q E s:=by
 refine aj (QC st Iv e0 e1 fun g sg=>aj (wpAny_entryPlaceOf fun pl ok=>?_));have out:e ∉ nU (top::rest):=fun q=>(Iv.mem q).2.elim fun o z=>z.2 vs (by rw [at_] at z; rw [<- bN z.1]; exact nW)
 have g_e:g.get? e=some oe:=(sg.2.1 e out).trans at_;have apart:g.objs.size≠e:=Nat.ne_of_gt (Heap.lt_size g_e)
 let g1:=g.push (Ew head L pl)
 have anv:g1.get? e=some oe:=aq (Ew head L pl) g_e;have axM:g1.get? g.objs.size=some (Ew head L pl):=aN g rfl
 let turn:Obj->Obj:=Obj.mapFields fun xs=>xs.setIfInBounds 1 (Value.ref g.objs.size)
 have now:(turn oe).data=.fields (vs.setIfInBounds 1 (.ref g.objs.size)):=Obj.data_mapFields nW _;have self:(g1.update e turn).get? e=some (turn oe):=Heap.get?_update_self turn anv (Obj.isFreed_of_fields now);have others:∀ b,b≠e->(g1.update e turn).get? b=g1.get? b:=fun b nb=>Heap.get?_update_other g1 turn (Ne.symm nb)
 have up:∀ b o,b≠e->g.get? b=some o->(g1.update e turn).get? b=some o:=fun b o nb q=>(others b nb).trans (aq (Ew head L pl) q)
 refine aj (wpAny_newObj_type ?_ (ok.sizeOk5 _ _ _ _ _));refine wpAny_setField (s:={ s with heap:=g1 }) anv nW two ?_;refine k (g1.update e turn) g.objs.size ⟨fun b o nf nb _ q=>up b o nb ((sg.2.1 b nf).trans q),fun b o nb _ q=>?_⟩ ?_ ?_
 ·obtain ⟨sl,z⟩:=sg.2.2 b o q;exact ⟨sl,up b _ nb z⟩
 ·exact Heap.get?_none_of_le (Nat.le_of_eq sg.1.symm)
 ·obtain ⟨ts,d,f⟩:=CK head L pl;exact ⟨turn oe,_,self,Obj.cls_mapFields _ _,xM _ _,now,by simp [two],apart,_,ts,_,(others _ apart).trans axM,d,f⟩
theorem Ey.weaken {fr:List aB} {T:Option aB} {h h':Heap} (n:Ey fr e none h h'):Ey fr e T h h':=⟨fun b o a c _ q=>n.same b o a c (fun z=>nomatch z) q,fun b o c _ q=>n.upto b o c (fun z=>nomatch z) q⟩
theorem QD {T:Option aB} (st:A.frames=some (top::rest)) (Iv:s.heap.FunFrames base (top::rest)) (e0:top.frame=some L) (e1:env.frame=some L) (x:Exc s.heap e cls dx T) (k:∀ h' T',Ey (nU (top::rest)) e T s.heap h'->(s.heap.get? T'=none\/T=some T')->Exc h' e cls dx (some T')->Q () { s with heap:=h' }):wpAny M A (noteFrame (.ref e) env) Q E s:=by
 obtain ⟨oe,vs,at_,rfl,rfl,nW,more⟩:=id x;unfold noteFrame;simp only [e1];cases T with
 | none =>
  have nil:vs[1]?=some Value.none:=more;refine aj (wpAny_field at_ nW nil ?_);rw [if_neg (show ¬ (Value.none != Value.none)=true by decide)];exact Aj st Iv e0 e1 at_ nW (Array.getElem?_eq_some_iff.mp nil).1 fun h' T' n new y=>k h' T' n (.inl new) y
 | some t =>
  obtain ⟨one,apart,oT,ts,fl,tAt,tF,three⟩:=more;have Vt:=(Array.getElem?_eq_some_iff.mp one).1;have lt3:=(Array.getElem?_eq_some_iff.mp three).1;refine aj (wpAny_field at_ nW (x:=.ref t) one ?_);have has:(Value.ref t != Value.none)=true:=rfl;simp only [has,if_true];refine aj (wpAny_field tAt tF three ?_)
  by_cases here:(fl == rawInt L)=true
  ·simp only [here,if_true];exact ao (k s.heap t ⟨fun _ _ _ _ _ q=>q,fun _ o _ _ q=>⟨o.slots,q⟩⟩ (.inr rfl) x)
  ·rw [if_neg here]
   let off:Obj->Obj:=Obj.mapFields fun xs=>xs.setIfInBounds 3 Value.none
   have else_:∀ b,b≠t->(s.heap.update t off).get? b=s.heap.get? b:=fun b nb=>Heap.get?_update_other s.heap off (Ne.symm nb)
   have frames':(s.heap.update t off).FunFrames base (top::rest):=Iv.of_keeps fun b o q nf=>⟨o,(else_ b fun z=>nf ts (by rw [z,tAt] at q; rw [<- bN q]; exact tF)).trans q,rfl⟩
   refine aj (wpAny_setField tAt tF lt3 (Aj (s:={ s with heap:=s.heap.update t off }) st frames' e0 e1 ((else_ e (Ne.symm apart)).trans at_) nW Vt fun h' T' n new y=>k h' T' ?_ ?_ y))
   ·exact ⟨fun b o a c d q=>n.same b o a c (fun z=>nomatch z) ((else_ b fun z=>d (congrArg some z.symm)).trans q),fun b o c d q=>n.upto b o c (fun z=>nomatch z) ((else_ b fun z=>d (congrArg some z.symm)).trans q)⟩
   ·by_cases z:T'=t
    ·exact .inr (congrArg some z.symm)
    ·exact .inl ((else_ T' z).symm.trans new)
theorem Iw {t:aB} {fr:Option aB} (x:Exc s.heap e cls dx (some t)) (k:∀ h',(∀ b o,b≠t->s.heap.get? b=some o->h'.get? b=some o)->Exc h' e cls dx (some t)->Q () { s with heap:=h' }) : wpAny M A (setFlight (.ref e) fr) Q E s:=by
 obtain ⟨oe,vs,at_,rfl,rfl,nW,one,apart,oT,ts,fl,tAt,tF,three⟩:=x;have lt3:=(Array.getElem?_eq_some_iff.mp three).1;have has:(Value.ref t != Value.none)=true:=rfl;unfold setFlight;refine aj (wpAny_field at_ nW one ?_);simp only [has,if_true]
 let mark:aC:=fr.elim Value.none fun f=>rawInt f
 have tF':(oT.mapFields fun xs=>xs.setIfInBounds 3 mark).data=.fields (ts.setIfInBounds 3 mark):=Obj.data_mapFields tF _;refine wpAny_setField tAt tF lt3 (k _ (fun b o nb q=>(Heap.get?_update_other s.heap _ (Ne.symm nb)).trans q) ?_);exact ⟨oe,vs,(Heap.get?_update_other s.heap _ apart).trans at_,rfl,rfl,nW,one,apart,_,_,mark,Heap.get?_update_self _ tAt (Obj.isFreed_of_fields tF'),tF',by simp [lt3]⟩
end
theorem fV.there {P:bZ} {w:World} {H:Hp} {h:Heap} {a:aB} {o:HO} (x:fV P w H h a o):∃ ob,h.get? a=some ob:=by
 cases o with
 | lst xs=>obtain ⟨_,_,_,_,e⟩:=x; exact ⟨_,e⟩
 | tup xs=>obtain ⟨_,_,_,ob,e,_⟩:=x; exact ⟨_,e⟩
 | dK kvs=>obtain ⟨_,_,_,_,o,_,_,e,_⟩:=x; exact ⟨_,e⟩
 | dT kvs=>obtain ⟨_,_,_,_,o,_,_,e,_⟩:=x; exact ⟨_,e⟩
 | set S n=>obtain ⟨o,_,_,_,e,_⟩:=x; exact ⟨_,e⟩
 | ins C dx fs=>obtain ⟨_,_,_,e,_⟩:=x; exact ⟨_,e⟩
 | own y=>exact x
 | xd fs=>obtain ⟨_,⟨_,_,_,e,_⟩,_⟩:=x; exact ⟨_,e⟩
 | rng lo hi=>obtain ⟨_,_,_,e⟩:=x; exact ⟨_,e⟩
 | Cj ob u=>obtain ⟨e,_⟩:=x; exact ⟨_,e⟩
 | xg ps=>exact ⟨_,(show h.get? a=some _ from x)⟩
 | met f y=>exact ⟨_,(show h.get? a=some _ from x)⟩
 | ext φ=>obtain ⟨_,e,_⟩:=x; exact e
theorem uw.none_of {P:bZ} {w:World} {H:Hp} {h:Heap} {b:aB} (x:uw P w H h) (hb:h.get? b=none):H b=none:=by
 cases q:H b with
 | none=>rfl
 | some o =>
  obtain ⟨ob,e⟩:=(x b o q).there;rw [hb] at e; cases e
def Loose (X:Cx) (pins:List (aB × Obj)) (H:Hp) (b:aB):Prop := H b=none/\b≠X.env.locals/\b ∉ X.fs/\(b ∉ X.ex->X.s₀.heap.get? b=none)/\(∀ x c,X.env.cells.lookup x=some c->c≠b)/\∀ p ∈ X.pn++pins,p.1≠b
section
variable {X:Cx} {pins:List (aB × Obj)} {σ:St} {H:Hp} {s:aV} {b:aB}
theorem Inv.mX (I:Inv X pins σ H s) (hb:s.heap.get? b=none):Loose X pins H b:=by
 refine ⟨I.hok.none_of hb,fun z=>?_,fun z=>?_,fun z=>?_,fun x c e z=>?_,fun p hp z=>?_⟩
 ·obtain ⟨m,⟨o,_,_,ho,_⟩,_⟩:=I.loc;rw [<- z,hb] at ho; cases ho
 ·obtain ⟨_,o,ho,_⟩:=I.oV.mem z;rw [hb] at ho; cases ho
 ·cases q:X.s₀.heap.get? b with
  | none=>rfl
  | some o =>
   obtain ⟨o',e⟩:=I.base.there b o q z;rw [hb] at e; cases e
 ·obtain ⟨v,o,ho,_⟩:=I.cell x c e;rw [z,hb] at ho; cases ho
 ·have e:=(I.pin p hp).1;rw [z,hb] at e; cases e
theorem Inv.oZ {h':Heap} {t':Nat} {ch:List aB} (I:Inv X pins σ H s) (hch:∀ b ∈ ch,Loose X pins H b) (keep:∀ b o,b ∉ frs X.stack->b ∉ ch->s.heap.get? b=some o->h'.get? b=some o) (slot:∀ b o,b ∉ ch->s.heap.get? b=some o->∃ sl,h'.get? b=some { o with slots:=sl }):Inv X pins σ H { s with heap:=h',toks:=t' }:=by
 have Zk:∀ b o,X.s₀.heap.get? b=some o->b≠X.env.locals:=fun b o e=>Nat.ne_of_lt (aZ (Heap.lt_size e) I.ok.above)
 have Zm:∀ b o,X.s₀.heap.get? b=some o->b ∉ X.ex->b ∉ ch:=fun b o e hx hb=>by
  have:=(hch b hb).2.2.2.1 hx;rw [e] at this; cases this
 have stk:∀ b,b≠X.env.locals->b ∉ X.fs->b ∉ frs X.stack:=fun b h1 h2 hb=>(aQ.mp (I.qK b hb)).elim h1 h2
 have cellK:∀ x c,X.env.cells.lookup x=some c->∀ v,s.heap.IsCell c v->h'.IsCell c v:=fun x c e v ⟨o,ho,hd⟩=>by
  obtain ⟨sl,q⟩:=slot c o (fun z=>(hch c z).2.2.2.2.1 x c e rfl) ho;exact ⟨_,q,hd⟩
 refine ⟨I.ok,I.os,I.bare,⟨fun b o e n hb hx=>?_,fun b o e n hb hx=>?_,I.base.free,fun b o e hx=>?_,I.base.tups,I.base.wu,I.base.wz⟩,?_,fun x c e=>?_,I.free,I.jr,fun p hp=>?_,fun a u e=>?_,I.len⟩
 ·exact keep b o (stk b (Zk b o e) hb) (Zm b o e hx) (I.base.keep b o e n hb hx)
 ·obtain ⟨sl,e1⟩:=I.base.slot b o e n hb hx;obtain ⟨sl',e2⟩:=slot b _ (Zm b o e hx) e1;exact ⟨sl',e2⟩
 ·obtain ⟨o',e1⟩:=I.base.there b o e hx;obtain ⟨sl',e2⟩:=slot b _ (Zm b o e hx) e1;exact ⟨_,e2⟩
 ·obtain ⟨m,⟨o,es,ep,ho,r⟩,hl⟩:=I.loc;obtain ⟨sl,e⟩:=slot _ o (fun z=>(hch _ z).2.1 rfl) ho;refine ⟨m,⟨_,es,ep,e,r⟩,fun i x v e1 e2 e3=>?_⟩;obtain ⟨u,ru,l⟩:=hl i x v e1 e2 e3;refine ⟨u,ru,?_⟩;rcases l with l | ⟨k,c,e,z⟩
  ·exact .inl l
  ·exact .inr ⟨k,c,e,cellK x c e _ z⟩
 ·obtain ⟨v,z⟩:=I.cell x c e;exact ⟨v,cellK x c e v z⟩
 ·obtain ⟨e,n,ne,nf,d⟩:=I.pin p hp;exact ⟨keep p.1 p.2 (stk _ ne nf) (fun z=>(hch _ z).2.2.2.2.2 p hp rfl) e,n,ne,nf,d⟩
 ·refine (I.hok a u e).stay (fun c v hc q=>?_) (fun _ q=>q) fun _ _ q=>q
  have ht:∃ z,H c=some z:=by
   rcases hc with z | z
   ·exact ⟨u,by rw [z]; exact e⟩
   ·exact ⟨_,z⟩
  obtain ⟨z,hz⟩:=ht;refine keep c v (fun y=>?_) (fun y=>?_) q
  ·have:=I.wJ c y;rw [hz] at this; cases this
  ·have:=(hch c y).1;rw [hz] at this; cases this
end
def Fly (X:Cx) (pins:List (aB × Obj)) (H:Hp) (s:aV) (e:aB) (cls:aC) (dx:Option aB):Prop := ∃ T,Exc s.heap e cls dx T/\Loose X pins H e/\∀ t,T=some t->Loose X pins H t
def QF (X:Cx) (pins:List (aB × Obj)) (H:Hp) (s:aV) (e:aB) (cls:aC) (dx:Option aB):Prop := ∃ t,Exc s.heap e cls dx (some t)/\Loose X pins H e/\Loose X pins H t
theorem QF.fly {X:Cx} {pins:List (aB × Obj)} {H:Hp} {s:aV} {e:aB} {cls:aC} {dx:Option aB} (f:QF X pins H s e cls dx):Fly X pins H s e cls dx:=by
 obtain ⟨t,x,l1,l2⟩:=f;exact ⟨some t,x,l1,fun y z=>by cases z; exact l2⟩
def sO (X:Cx) (L:aB):Prop:=∃ env₀ outer,X.stack=env₀::outer/\env₀.frame=some L/\X.env.frame=some L
section
variable {X:Cx} {pins:List (aB × Obj)} {σ:St} {H:Hp} {s:aV} {e L:aB} {cls:aC} {dx:Option aB} {M:Model} {A:dB} {E:aC->aV->Prop} {Q:Unit->aV->Prop}
theorem Iz (I:Inv X pins σ H s) (hA:A.frames=some X.stack) (F:sO X L) (f:Fly X pins H s e cls dx) (h:∀ s',Inv X pins σ H s'->QF X pins H s' e cls dx->Q () s') : wpAny M A (noteFrame (.ref e) X.env) Q E s:=by
 obtain ⟨T,x,le,lt⟩:=f;obtain ⟨env₀,outer,es,hf₀,hf⟩:=F;refine QD (base:=X.base) (by rw [hA,es]) (by rw [<- es]; exact I.stack) hf₀ hf x fun h' T' nt k3 x'=>?_
 have hch:∀ b ∈ e::T.toList,Loose X pins H b:=fun b hb=>by
  rcases aQ.mp hb with z | z
  ·rw [z]; exact le
  ·exact lt b (by simpa using z)
 have I':Inv X pins σ H { s with heap:=h',toks:=s.toks }:=I.oZ (ch:=e::T.toList) hch
  (fun b o hb hc q=>nt.same b o (by unfold frs at hb; rw [es] at hb; exact hb) (fun z=>hc (by rw [z]; exact mem_cons_self)) (fun z=>hc (mem_cons_of_mem _ (by simp [z]))) q)
  (fun b o hc q=>nt.upto b o (fun z=>hc (by rw [z]; exact mem_cons_self)) (fun z=>hc (mem_cons_of_mem _ (by simp [z]))) q)
 refine h _ I' ⟨T',x',le,?_⟩;rcases k3 with z | z
 ·exact I.mX z
 ·exact lt T' z
theorem sU {fr:Option aB} (I:Inv X pins σ H s) (f:QF X pins H s e cls dx) (h:∀ s',Inv X pins σ H s'->QF X pins H s' e cls dx->Q () s') : wpAny M A (setFlight (.ref e) fr) Q E s:=by
 obtain ⟨t,x,le,lt⟩:=f;refine Iw x fun h' k x'=>?_
 have I':Inv X pins σ H { s with heap:=h',toks:=s.toks }:=I.oZ (ch:=[t]) (fun b hb=>by rw [aL.mp hb]; exact lt)
  (fun b o _ hc q=>k b o (fun z=>hc (by rw [z]; exact mem_cons_self)) q) (fun b o hc q=>⟨o.slots,k b o (fun z=>hc (by rw [z]; exact mem_cons_self)) q⟩)
 exact h _ I' ⟨t,x',le,lt⟩
end
noncomputable def d9 (P:bZ) (w:World):zJ:=fun outer H s E ev s'=>∃ e cls dx H' t,ev=.ref e/\s'.os=s.os/\AllBare s'.gens/\Un (frs outer) [] H H' s.heap s'.heap/\uw P w H' s'.heap /\ Exc s'.heap e cls dx (some t)/\H' e=none/\H' t=none/\s.heap.get? e=none/\s.heap.get? t=none/\E cls dx H'
def wB (X:Cx) (E:XK):Prop:=∀ pins σ H s e cls dx,Inv X pins σ H s->Fly X pins H s e cls dx->E cls dx H->X.xe (.ref e) s
theorem cY {X:Cx} {E:XK} (acc:wB X E):Passes (d9 X.prog X.w) X E:=by
 intro pins σ H s ev s' I h;obtain ⟨e,cls,dx,H',t,rfl,os,bare,un,hok,x,ne,nt,fe,ft,q⟩:=h;have I':Inv X pins σ H' s':=I.call' (ch:=[]) os un hok bare (fun b z=>nomatch z);refine acc pins σ H' s' e cls dx I' ⟨some t,x,⟨ne,(I.mX fe).2⟩,fun y z=>?_⟩ q;cases z;exact ⟨nt,(I.mX ft).2⟩
theorem bf {X:Cx} {P:bZ} {w:World}:Passes (d9 P w) X (fun _ _ _=>False):=by
 intro pins σ H s ev s' I h;obtain ⟨_,_,_,_,_,_,_,_,_,_,_,_,_,_,_,q⟩:=h;exact q.elim
theorem bQ {P:bZ} {w:World} {K:Fg} {mg:Str->Option aC} {base:Heap} {N:List Str} {qual:Str} {scope:Scope} {f:aB} {cd:aC} {A:dB} {outer:List Env} {s:aV} {H:Hp} {E:XK} : wB (oY (d9 P w) P w K mg base N qual scope f cd A outer s H E) E:=by
 intro pins σ H' s' e cls dx I fl q
 show wpAny (model P w) _ (leaving _ (.ref e)) _ _ s'
 unfold leaving;refine aj (Iz I I.ok.frames ⟨_,_,rfl,rfl,rfl⟩ fl fun s1 I1 f1=>?_);refine sU I1 f1 fun s2 I2 f2=>?_
 obtain ⟨t,x2,le,lt⟩:=f2;exact ⟨e,cls,dx,H',t,rfl,I2.os,I2.bare,I2.base,I2.hok,x2,le.1,lt.1,le.2.2.2.1 (fun z=>nomatch z),lt.2.2.2.1 (fun z=>nomatch z),q⟩
theorem dY {P:bZ} {w:World} {K:Fg} {mg:Str->Option aC} {base:Heap} {N:List Str} {qual:Str} {scope:Scope} {f:aB} {cd:aC} {A:dB} {outer:List Env} {s:aV} {H:Hp} {E:XK} {CX:zJ} : PassesOwn (model P w) (oY CX P w K mg base N qual scope f cd A outer s H E).A (oY CX P w K mg base N qual scope f cd A outer s H E).env (oY CX P w K mg base N qual scope f cd A outer s H E).xe:=PassesOwn.leaving
theorem Ez {K:Fg} {C:aB} {base:List aC} {new:String} (q:excIn K C base new=true) : ∃ dd cd up a b c d f,K.lookup C=some ⟨.type "type",dd,.cls cd,#[a,b,c,d,some (.builtin new),f]⟩/\cd.mro=.ref C::up/\cd.hasDel=false/\tailIn K base up=true/\nsOkIn K cd.ns=true/\nsIn K cd.ns "__init__"=some none:=by
 unfold excIn at q
 split at q
 ·rename_i dd cd sl look
  split at q
  ·rename_i C' up a b c d anx f mro slots
   have q':((((C'=C/\anx=new)/\cd.hasDel=false)/\tailIn K base up=true)/\nsOkIn K cd.ns=true)/\nsIn K cd.ns "__init__"=some none:=by simpa using q
   obtain ⟨⟨⟨⟨⟨i1,i2⟩,i3⟩,i4⟩,i5⟩,i6⟩:=q';subst i1; subst i2;have as_array:sl=#[a,b,c,d,some (.builtin anx),f]:=Array.toList_inj.mp slots;exact ⟨dd,cd,up,a,b,c,d,f,as_array ▸ look,mro,i3,i4,i5,i6⟩
  ·exact absurd q Bool.false_ne_true
 ·exact absurd q Bool.false_ne_true
theorem agc {K:Fg} {h:Heap} {mg:Str->Option aC} {x:Str} {C:aB} {base:List aC} {new:String} (k:K.In h) (named:mg x=some (.ref C)) (q:excIn K C base new=true):OwnCls x C base new mg h:=by
 obtain ⟨dd,cd,up,a,b,c,d,f,look,mro,del,tl,ok,ini⟩:=Ez q;obtain ⟨nm,bs,aDu,ns,qn,hd,sn,sub,ab,col,aDv⟩:=cd;cases mro; cases del;exact ⟨named,up,ns,nm,qn,bs,hd,sn,sub,ab,col,dd,a,b,c,d,f,_,k C _ look,Heap.Ns.of_isNs (PySem.W.isNs_of_in k ok),PySem.W.nsMap_none_of_in k ok ini,PySem.W.tail_of_in k tl⟩
def agd (C:aB) (E:XK) (ta:TA):TS:=fun _ σ H=>ta σ H fun vs H1=>vs.length<=sizeLine/\E (.ref C) none H1
section
variable {X:Cx} {E:XK} {x:Str} {C:aB} {bmB:List aC} {B newId initId:String} {np cpos pos:Pos} {e₀:Expr} {rest:List Expr} {ta:TA}
theorem gj (acc:wB X E) (hc:X.calm=true) (hg:Gl X x) (hm:X.mg x=some (.ref C)) (q:excIn X.K C bmB newId=true) (FB:ExcBaseFacts B newId initId bmB) (ha:PA X (e₀::rest) ta) (he:autoParam (starEach (e₀::rest) X.env=(false,eval e₀ X.env)::starEach rest X.env) zau0) (hpl:autoParam ((backTo cpos (starEach rest X.env)).any (·.1)=false) zau0) (hdb:autoParam ((x == ("__debug__":Str))=false) zau1) : PS X (.Raise (some (.Call (.Name x np) (e₀::rest) [] cpos)) none pos) (agd C E ta):=by
 intro pins s σ H D I h;obtain ⟨tl,N,nm,qn,bs,hdct,sn,sub,ab,col,dd,k0,k1,k2,k3,k5,mN,hC,hN,hni,T⟩:=(agc (mg:=X.mg) I.mod.Pq hm q).obj;refine wpAny_Raise_call_subT (C:=C) (nm:=nm) (q:=qn) (N:=N) (bs:=bs) (bm:=tl) (hdct:=hdct) (sn:=sn) (sub:=sub) (ab:=ab) (col:=col) (dd:=dd) (k0:=k0) (k1:=k1) (k2:=k2) (k3:=k3) (k5:=k5) FB (mN:=mN) (T.hasType FB.hasBase) (I.ok.hd hc) (by rw [he]; show (false || (backTo cpos (starEach rest X.env)).any (·.1))=false; rw [hpl]; rfl) hni (lO I hg hm ⟨rfl,?_⟩ hdb);have hA:=ha cpos pins s σ H _ I h;rw [he] at hA ⊢;refine Calls.evalArgs_plain (eY hA fun us s2 h2=>?_);obtain ⟨vs,H1,I1,rv,hz,hE⟩:=h2;refine ⟨rfl,by rw [<- rv.length]; exact hz,I1.bk _ _ hC,hN.keeps I1.bk,T.keeps I1.bk,fun h' e hm'=>?_⟩;have I2:Inv X pins σ H1 { s2 with heap:=h' }:=I1.kept (t':=s2.toks) hm'.keeps;obtain ⟨t,hte,_,_⟩:=hm'.there;refine acc pins σ H1 _ e (.ref C) none I2 ⟨none,⟨_,_,hte,rfl,rfl,rfl,rfl⟩,I1.mX hm'.new,fun _ z=>nomatch z⟩ hE
end
def CN (e:aB) (cls:aC) (dx:Option aB):HO:=.ext fun h=>∃ oe vs,h.get? e=some oe/\oe.cls=cls/\oe.dict=dx/\oe.data=.fields vs
def blank (n:Nat):St:=List.replicate n none
theorem EY {n i:Nat} {v:V}:¬ (blank n)[i]?=some (some v):=by
 unfold blank;rw [List.getElem?_replicate]
 split <;> intro h <;> cases h
section
variable {X:Cx} {pins:List (aB × Obj)} {σ:St} {H:Hp} {s:aV}
theorem Inv.adopt {b:aB} {o:HO} (I:Inv X pins σ H s) (l:Loose X pins H b) (hx:b ∉ X.ex) (new:fV X.prog X.w (upd H b o) s.heap b o):Inv X pins σ (upd H b o) s:=by
 have h0:=l.2.2.2.1 hx;have ne:∀ c u,H c=some u->c≠b:=fun c u e z=>by rw [z,l.1] at e; cases e
 refine ⟨I.ok,I.os,I.bare,⟨I.base.keep,I.base.slot,fun c u e n hxc=>?_,I.base.there,fun c xs e=>?_,fun c u xs e=>?_,fun c ps e=>?_⟩,I.loc,I.cell,?_,fun x c e=>?_,fun p hp=>?_,fun c u e=>?_,I.len⟩
 ·rw [bw (fun z=>by rw [z,h0] at e; cases e)];exact I.base.free c u e n hxc
 ·have q:=I.base.tups c xs e;rw [bw (ne _ _ q)]; exact q
 ·have q:=I.base.wu c u xs e;rw [bw (ne _ _ q)]; exact q
 ·obtain ⟨m,q⟩:=I.base.wz c ps e;exact ⟨m,by rw [bw (ne _ _ q)]; exact q⟩
 ·rw [bw (Ne.symm l.2.1)]; exact I.free
 ·rw [bw (l.2.2.2.2.1 x c e)]; exact I.jr x c e
 ·obtain ⟨e,n,r⟩:=I.pin p hp;exact ⟨e,by rw [bw (l.2.2.2.2.2 p hp)]; exact n,r⟩
 ·by_cases z:c=b
  ·subst z;rw [aG] at e; cases e; exact new
  ·rw [bw z] at e;exact (I.hok c u e).stay (fun _ _ _ q=>q) (fun d q=>by rw [bw (ne _ _ q)]; exact q) fun d xs q=>by rw [bw (ne _ _ q)]; exact q
theorem Inv.QG {h':Heap} {t':Nat} {m':Str->Option aC} (I:Inv X pins σ H s) (hn:h'.Ns X.env.locals m') (sb:Heap.SameBut X.env.locals s.heap h'):Inv X pins (blank X.N.length) H { s with heap:=h',toks:=t' }:=by
 obtain ⟨m,⟨oL,_,_,hoL,_⟩,_⟩:=id I.loc;have Zk:∀ b o,X.s₀.heap.get? b=some o->b≠X.env.locals:=fun b o e=>Nat.ne_of_lt (aZ (Heap.lt_size e) I.ok.above)
 have k:∀ b o,b≠X.env.locals->s.heap.get? b=some o->h'.get? b=some o:=fun b o ne e=>(sb.2 b ne).trans e
 refine ⟨I.ok,I.os,I.bare,⟨fun b o e n hb hx=>?_,fun b o e n hb hx=>?_,I.base.free,fun b o e hx=>?_,I.base.tups,I.base.wu,I.base.wz⟩,⟨m',hn,fun i x v _ e2 _=>absurd e2 EY⟩,fun x c e=>?_,I.free,I.jr,fun p hp=>?_,fun a u e=>?_,by simp [blank]⟩
 ·exact k b o (Zk b o e) (I.base.keep b o e n hb hx)
 ·obtain ⟨sl,e1⟩:=I.base.slot b o e n hb hx;exact ⟨sl,k b _ (Zk b o e) e1⟩
 ·obtain ⟨o',e1⟩:=I.base.there b o e hx;exact ⟨o',k b _ (Zk b o e) e1⟩
 ·obtain ⟨v,o,ho,hd⟩:=I.cell x c e;exact ⟨v,o,k c o (I.Zj x c e) ho,hd⟩
 ·obtain ⟨e,n,ne,nf,d⟩:=I.pin p hp;exact ⟨k p.1 p.2 ne e,n,ne,nf,d⟩
 ·refine (I.hok a u e).stay (fun c v hc q=>k c v (fun z=>?_) q) (fun _ q=>q) fun _ _ q=>q
  have hf:=I.free;rw [<- z] at hf;rcases hc with y | y
  ·rw [y,e] at hf; cases hf
  ·rw [y] at hf; cases hf
end
abbrev Cx.zQ (X:Cx) (E':aC->aV->Prop) (qF:List (aB × Obj)):Cx:={ X with xe:=E',pn:=qF }
abbrev Cx.hand (X:Cx) (e:aB):Cx:={ X with A:=X.A.mark (some (.ref e)),calm:=false,xe:=fun _ _=>False }
section
variable {X:Cx} {pins qF:List (aB × Obj)} {σ:St} {H:Hp} {s:aV} {E':aC->aV->Prop}
theorem Inv.zQ (I:Inv X pins σ H s) (E':aC->aV->Prop):Inv (X.zQ E' (X.pn++pins)) [] σ H s := ⟨⟨I.ok.mod,I.ok.kind,I.ok.glob,I.ok.blt,I.ok.above,I.ok.inj,I.ok.has,I.ok.cab,I.ok.hd,I.ok.frames,I.ok.stk,I.ok.exf,I.ok.bs,I.ok.M9,I.ok.Nb,I.ok.Pz,I.ok.oV,I.ok.Vs⟩,I.os,I.bare,I.base,I.loc,I.cell,I.free,I.jr,fun p hp=>I.pin p (by simpa using hp),I.hok,I.len⟩
theorem Inv.CP {oH:List (aB × Obj)} (ok:X.Ok) (I:Inv (X.zQ E' (X.pn++pins)) oH σ H s):Inv X pins σ H s := ⟨ok,I.os,I.bare,I.base,I.loc,I.cell,I.free,I.jr,fun p hp=>I.pin p (mem_append_left _ hp),I.hok,I.len⟩
theorem Inv.hand (I:Inv X pins σ H s) (e:aB):Inv (X.hand e) pins σ H s := ⟨⟨I.ok.mod,I.ok.kind,I.ok.glob,I.ok.blt,I.ok.above,I.ok.inj,I.ok.has,I.ok.cab,(fun z=>nomatch z),I.ok.frames,I.ok.stk,I.ok.exf,I.ok.bs,I.ok.M9,I.ok.Nb,I.ok.Pz,I.ok.oV,I.ok.Vs⟩,I.os,I.bare,I.base,I.loc,I.cell,I.free,I.jr,I.pin,I.hok,I.len⟩
theorem Inv.agf {e:aB} (ok:X.Ok) (I:Inv (X.hand e) pins σ H s):Inv X pins σ H s := ⟨ok,I.os,I.bare,I.base,I.loc,I.cell,I.free,I.jr,I.pin,I.hok,I.len⟩
end
noncomputable def agg (N i:Nat) (hit:aC->Prop) (tb:XK->TS) (ts:TS):TS:=fun D σ H =>
 tb (fun cls dx H'=>hit cls/\∀ e,H' e=none->ts { nx:=fun _ H2=>D.nx (blank N) H2,rt:=D.rt } ((blank N).set i (some (.ref e))) (upd H' e (CN e cls dx))) D σ H
section
variable {X:Cx} {x n:Str} {c:aC} {i:Nat} {np hpos pos:Pos} {body suite:List cX} {b₀:cX} {tb:XK->TS} {ts:TS} {L:aB} {hit:aC->Prop}
theorem QH (hex:X.ex=[]) (F:sO X L) (hN:X.N.Nodup) (hi:X.N[i]?=some n) (hln:X.env.scope.names.lookup n=some .local) (hg:Gl X x) (hm:X.mg x=some c) (axP:∀ cls,hit cls->exmOne X.K cls c=some true) (hb:∀ (E':aC->aV->Prop) (qF:List (aB × Obj)) (Eb:XK),wB (X.zQ E' qF) Eb->zH (X.zQ E' qF) body (tb Eb)) (hs:∀ e,zH (X.hand e) (b₀::suite) ts) (hdb:autoParam ((x == ("__debug__":Str))=false) zau1) : PS X (.Try body [.ExceptHandler (some (.Name x np)) (some n) (b₀::suite) hpos] [] [] pos) (agg X.N.length i hit tb ts):=by
 intro pins s σ H D I h;have hcls:(X.env.scope.kind == .class || (X.env.scope.kind == .module && X.env.locals != X.env.globals))=false:=by rw [I.ok.kind]; rfl
 refine wpAny_Try_except ?_
 let Eb:XK:=fun cls dx H'=>hit cls/\∀ e,H' e=none->ts { nx:=fun _ H2=>D.nx (blank X.N.length) H2,rt:=D.rt } ((blank X.N.length).set i (some (.ref e))) (upd H' e (CN e cls dx))
 let E':aC->aV->Prop:=fun ev s₁=>wpAny (model X.prog X.w) X.A (noteFrame ev X.env) (fun _ s₂=>wpAny (model X.prog X.w) X.A (setFlight ev none) (fun _ s₃ =>
   wpAny (model X.prog X.w) X.A (handleBy ev X.env [.ExceptHandler (some (.Name x np)) (some n) (b₀::suite) hpos]) (SP X pins D) X.xe s₃) X.xe s₂) X.xe s₁
 suffices acc:wB (X.zQ E' (X.pn++pins)) Eb by
  refine wpAny_mono (hb E' (X.pn++pins) Eb acc [] s σ H D (I.zQ E') h) (fun f s1 h1=>?_) fun ev s1 h1=>h1
  have un:∀ {σ':St} {H':Hp},Inv (X.zQ E' (X.pn++pins)) [] σ' H' s1->Inv X pins σ' H' s1:=fun J=>J.CP I.ok
  cases f with
  | next=>obtain ⟨σ',H',J,q⟩:=h1; exact wpAny_execs_nil ⟨σ',H',un J,q⟩
  | brk=>obtain ⟨σ',H',J,q⟩:=h1; exact ⟨σ',H',un J,q⟩
  | cont=>obtain ⟨σ',H',J,q⟩:=h1; exact ⟨σ',H',un J,q⟩
  | ret u=>obtain ⟨v,σ',H',J,r,q⟩:=h1; exact ⟨v,σ',H',un J,r,q⟩
 ·intro oH σ' H' s' e cls dx I' fl q;obtain ⟨hh,q⟩:=q;refine Iz (X:=X.zQ E' (X.pn++pins)) I' I'.ok.frames F fl fun s1 I1 f1=>?_
  refine sU I1 f1 fun s2 I2 f2=>?_
  obtain ⟨t2,x2,le2,Pr⟩:=f2;have J2:Inv X pins σ' H' s2:=I2.CP I.ok;have J2h:=J2.hand e;refine wpAny_handleBy_cons (codeAny_handlers_test ?_) (by intro z; cases z);refine lO (X:=X.hand e) J2h hg hm ?_ hdb;obtain ⟨oe,vs,he,hc,hd,hv,_⟩:=id x2;have ty:Looks (model X.prog X.w) s2.heap (typeOf (.ref e)) cls:=hc ▸ (Looks.ld he).andThen .now;refine (PySem.W.exm_one J2.oU ty (axP cls hh)).here ?_;refine codeAny_handlers_suite_as (sU I2 ⟨t2,x2,le2,Pr⟩ fun s3 I3 f3=>?_);obtain ⟨t3,x3,le3,lt3⟩:=f3;obtain ⟨oe3,vs3,he3,hc3,hd3,hv3,_⟩:=id x3;have J3:Inv X pins σ' H' s3:=I3.CP I.ok;have lX:Loose X pins H' e:=⟨le3.1,le3.2.1,le3.2.2.1,le3.2.2.2.1,le3.2.2.2.2.1,fun p hp=>le3.2.2.2.2.2 p (mem_append_left _ hp)⟩;have J4:Inv X pins σ' (upd H' e (CN e cls dx)) s3:=J3.adopt lX (by rw [hex]; exact fun z=>nomatch z) (by
   refine ⟨⟨oe3,vs3,he3,hc3,hd3,hv3⟩,⟨oe3,he3⟩,fun h1 h2 p k=>?_⟩;obtain ⟨o,v,a,b⟩:=p;exact ⟨o,v,k o a,b⟩)
  have J5:Inv X pins (blank X.N.length) (upd H' e (CN e cls dx)) s3:=J4.weak (by simp [blank,J4.len]) fun i v z=>absurd z EY
  refine rR (X:=X.hand e) (J5.hand e) hN hi (.inl hln) (show RelV (.ref e) (.ref e) from rfl) (fun s4 I4=>?_) (.inr hln);refine wpAny_mono (hs e pins s4 _ _ _ I4 (q e le3.1)) (fun f s5 h5=>?_) fun _ _ z=>z.elim
  have gone:∀ {σ5:St} {H5:Hp} (Q:aV->Prop),Inv (X.hand e) pins σ5 H5 s5->(∀ s6,Inv X pins (blank X.N.length) H5 s6->Q s6) ->
    wpAny (model X.prog X.w) X.A (do bindName X.env n .none; unbindBehindTheSuite X.env n hpos) (fun _ s6=>Q s6) X.xe s5:=fun {σ5 H5} Q I5 k=>by
   obtain ⟨m,hn,_⟩:=I5.loc;exact wpAny_nameGoes hln hn hcls fun h' m' hn' sb=>k _ (Inv.QG (I5.agf I.ok) hn' sb)
  cases f with
  | next =>
   obtain ⟨σ5,H5,I5,q5⟩:=h5;exact gone (fun s6=>SP X pins D .next s6) I5 fun s6 I6=>⟨_,H5,I6,q5⟩
  | ret u =>
   obtain ⟨v,σ5,H5,I5,r5,q5⟩:=h5;exact gone (fun s6=>SP X pins D (.ret u) s6) I5 fun s6 I6=>⟨v,_,H5,I6,r5,q5⟩
  | brk=>obtain ⟨_,_,_,z⟩:=h5; exact z.elim
  | cont=>obtain ⟨_,_,_,z⟩:=h5; exact z.elim
end
def jT (cap:List (Option Nat)) (σ:St):St:=cap.map fun o=>o.bind fun j=>(σ[j]?).join
noncomputable abbrev iz (X:Cx) (scope:Scope) (cl:List (Str × aB)) (N':List Str) (s₀:aV) (H₀:Hp) (fp:List aB) (qF:List (aB × Obj)) (E':aC->aV->Prop):Cx := { X with N:=N',s₀:=s₀,H₀:=H₀,env:=compEnvC scope cl s₀.heap.objs.size X.env,outer:=X.stack,ex:=fp,fn:=fun _=>false,pn:=qF,xe:=E' }
structure gR (X:Cx) (scope:Scope) (cl:List (Str × aB)) (N':List Str) (cap:List (Option Nat)):Prop where
 kind:scope.kind=.function
 o7:∀ y ∈ scope.names,y.2≠.cell
 names:∀ y ∈ scope.names,y.2=.local->scope.names.lookup y.1=some .local
 clos:closureFor scope X.env=pure cl
 sub:∀ n c,cl.lookup n=some c->X.env.cells.lookup n=some c
 has:∀ n,((relabel scope X.env).names.lookup n=some .cell\/(relabel scope X.env).names.lookup n=some .free)->∃ c,cl.lookup n=some c
 len:cap.length=N'.length
 axQ:∀ (i j:Nat) (x:Str),cap[i]?=some (some j)->N'[i]?=some x->X.N[j]?=some x/\X.env.scope.names.lookup x=some .cell/\(relabel scope X.env).names.lookup x=some .cell
theorem gR.plain {X:Cx} {scope:Scope} {N':List Str} (kind:scope.kind=.function) (names:∀ y ∈ scope.names,y.2=.local\/y.2=.globalImplicit) (look:∀ y ∈ scope.names,y.2=.local->scope.names.lookup y.1=some .local) : gR X scope [] N' (List.replicate N'.length none):=by
 have nf:∀ y ∈ scope.names,y.2≠.free:=fun y hy z=>by rcases names y hy with q | q <;> rw [q] at z <;> cases z
 have same:(relabel scope X.env).names=scope.names:=by
  unfold relabel;refine map_eq_self fun y hy=>?_
  obtain ⟨n,k⟩:=y;have:(k == NameKind.free)=false:=by simpa using nf _ hy
  simp [this]
 refine ⟨kind,fun y hy z=>?_,look,closureFor_none nf,fun n c h=>?_,fun n h=>?_,by simp,fun i j x h=>?_⟩
 ·rcases names y hy with q | q <;> rw [q] at z <;> cases z
 ·simp at h
 ·rw [same] at h;rcases h with h | h
  ·have:=names _ (PySem.mem_of_lookup h);simp at this
  ·have:=names _ (PySem.mem_of_lookup h);simp at this
 ·rw [List.getElem?_replicate] at h
  split at h <;> simp at h
section
variable {X:Cx} {pins qF:List (aB × Obj)} {σ:St} {H:Hp} {s:aV} {scope:Scope} {cl:List (Str × aB)} {N':List Str} {cap:List (Option Nat)} {fp:List aB} {E':aC->aV->Prop}
theorem W6 (I:Inv X pins σ H s) (O:gR X scope cl N' cap) (hf:∀ b ∈ fp,oR X pins H b) (hlt:∀ b ∈ fp,b < s.heap.objs.size):(iz X scope cl N' s H fp qF E').Ok:=by
 refine ⟨I.ok.mod,O.kind,I.ok.glob,I.ok.blt,aM _,fun x y c h1 h2=>I.ok.inj x y c (O.sub _ _ h1) (O.sub _ _ h2),fun x hx=>O.has x hx,(fun x c h=>nomatch h),I.ok.hd,I.ok.frames,.inl rfl,fun b hb=>⟨Nat.ne_of_lt (hlt b hb),fun x c e=>(hf b hb).2.2.2.2.1 x c (O.sub _ _ e)⟩,I.bs,bH I.ok.M9 I.sz,fun b o e hb=>?_,fun b hb z=>?_,I.stack,I.wJ⟩
 ·rcases (hf b hb).2.2.2.1 with z | z
  ·exact I.ok.Nb b o e z
  ·exact absurd (aZ (Heap.lt_size e) (bH I.ok.M9 z)) (cM _)
 ·exact (aQ.mp (I.qK b z)).elim (fun y=>(hf b hb).2.1 y) fun y=>(hf b hb).2.2.1 y
theorem QJ {h':Heap} {t':Nat} {m':Str->Option aC} (I:Inv X pins σ H s) (O:gR X scope cl N' cap) (hf:∀ b ∈ fp,oR X pins H b) (hlt:∀ b ∈ fp,b < s.heap.objs.size) (hn:h'.Ns s.heap.objs.size m') (hk:∀ b o,s.heap.get? b=some o->h'.get? b=some o) : Inv (iz X scope cl N' s H fp (X.pn++pins) E') [] (jT cap σ) H { s with heap:=h',toks:=t' }:=by
 refine ⟨W6 I O hf hlt,rfl,I.bare,Un.kept hk,⟨m',hn,fun i x v e1 e2 e3=>?_⟩,fun x c e=>?_,I.hok.fresh (aM _),fun x c e=>I.jr x c (O.sub _ _ e),fun p hp=>?_,I.hok.kept hk,?_⟩
 ·unfold jT at e2;rw [aF] at e2;cases q:cap[i]? with
  | none=>rw [q] at e2; cases e2
  | some o =>
   rw [q] at e2;cases o with
   | none=>cases e2
   | some j =>
    have e2':(σ[j]?).join=some v:=by simpa using e2
    have e4:σ[j]?=some (some v):=by
     cases z:σ[j]? with
     | none=>rw [z] at e2'; cases e2'
     | some y=>rw [z] at e2'; simp at e2'; rw [e2']
    obtain ⟨h1,h2,h3⟩:=O.axQ i j x q e1;obtain ⟨m,_,hl⟩:=I.loc;obtain ⟨u,ru,l⟩:=hl j x v h1 e4 (.inr (.inl h2));rcases l with ⟨l,_⟩ | ⟨_,c,l,z⟩
    ·have l':X.env.scope.names.lookup x=some .local:=l;rw [h2] at l'; cases l'
    ·obtain ⟨c',hc'⟩:=O.has x (.inl h3);have:=O.sub _ _ hc';rw [l] at this; cases this;exact ⟨u,ru,.inr ⟨.inl h3,c,hc',z.keeps hk⟩⟩
 ·obtain ⟨v,z⟩:=I.cell x c (O.sub _ _ e);exact ⟨v,z.keeps hk⟩
 ·obtain ⟨e,n,ne,nf,d⟩:=I.pin p (by simpa using hp);refine ⟨hk _ _ e,n,Nat.ne_of_lt (Heap.lt_size e),fun z=>?_,d⟩;exact (aQ.mp (I.qK _ z)).elim ne nf
 ·simp [jT,O.len]
theorem comp_back {oH:List (aB × Obj)} {σ':St} {H':Hp} {s':aV} (I:Inv X pins σ H s) (hf:∀ b ∈ fp,oR X pins H b) (J:Inv (iz X scope cl N' s H fp qF E') oH σ' H' s'):Inv X pins σ H' s' := I.call' (ch:=fp) J.os J.base J.hok J.bare fun b hb=>⟨(hf b hb).2.2.2.1,(hf b hb).2.1,(hf b hb).2.2.2.2.1,(hf b hb).2.2.2.2.2⟩
end
abbrev Fb (ifs:List Expr) (env:Env):Sem Bool := forIn ifs true fun c r=>if r=true then do let ok <- isTrue c env (eval c env); pure (ForInStep.yield ok) else pure (ForInStep.yield r)
section
variable {prog:bZ} {w:World} {A:dB} {s:aV} {R:Result->aV->Prop} {elt target iter:Expr} {ifs:List Expr} {scope:Scope} {pos:Pos} {it acc:aC} {env:Env}
abbrev qP (prog:bZ) (w:World) (A:dB) (env:Env) (R:Result->aV->Prop):aC->aV->Prop:=notedBy (model prog w) A env fun x s'=>R (.error x) s'
noncomputable abbrev turnOf (prog:bZ) (w:World) (A:dB) (env:Env) (R:Result->aV->Prop) (target elt:Expr) (ifs:List Expr) (it acc:aC) (J:Nat->aV->Prop) (n:Nat):Option aC->aV->Prop
 | none,s₁=>R (.ok .next) s₁
 | some v,s₁=>wpAny (model prog w) A (letOwnedTupleGo target it v) (fun _ a=>wpAny (model prog w) A (assign target env v) (fun _ b=>wpAny (model prog w) A (Fb ifs env) (fun ok c =>
  if ok=true then wpAny (model prog w) A (eval elt env) (fun y d=>wpAny (model prog w) A (call (.builtin "list.append") [acc,y]) (fun _ z=>∃ m,m < n/\J m z) (qP prog w A env R) d) (qP prog w A env R) c
  else ∃ m,m < n/\J m c) (qP prog w A env R) b) (qP prog w A env R) a) (qP prog w A env R) s₁
theorem CQ (J:Nat->aV->Prop) (go:∀ n s,J n s->wpAny (model prog w) A (pyNext it) (turnOf prog w A env R target elt ifs it acc J n) (qP prog w A env R) s) (n:Nat) (h:J n s) : codeAny (model prog w) A (.compLoop (.ListComp elt [⟨target,iter,ifs,0⟩] scope pos) 0 it acc env) R s := codeAny_loop rfl J (fun m a ha=>wpAny_noted (by
 rw [compTurn_list];refine aj (wpAny_standAt (aj (eY (go m a ha) fun r b hb=>?_)))
 match r,hb with
 | none,hb=>exact ao hb
 | some v,hb =>
  refine aj (eY hb fun _ c hc=>aj (eY hc fun _ d hd=>aj (eY hd fun ok f hf=>?_)))
  match ok,hf with
  | false,hf=>exact ao ⟨rfl,hf⟩
  | true,hf=>exact aj (aj (eY hf fun y g hg=>aj (eY hg fun _ z hz=>ao (ao ⟨rfl,hz⟩)))))) n h
end
noncomputable def PTs (X:Cx) (ifs:List Expr) (t:TT):Prop := ∀ (pins:List (aB × Obj)) (s:aV) (σ:St) (H:Hp) (Q:Bool->Hp->Prop),Inv X pins σ H s->t σ H Q -> wpAny (model X.prog X.w) X.A (Fb ifs X.env) (TP X pins σ Q) X.xe s
def Fd:TT:=fun _ H Q=>Q true H
theorem gJ {X:Cx}:PTs X [] Fd:=fun _ _ _ H _ I h=>wpAny_tests_nil ⟨H,I,h⟩
theorem K8 {X:Cx} {c:Expr} {t:TT} (h:PT X c t):PTs X [c] t:=fun pins s σ H Q I hw=>wpAny_tests_one (h pins s σ H Q I hw)
def qG (σ0 σ2:St):Prop:=∀ (j:Nat) v,σ0[j]?=some (some v)->σ2[j]?=some (some v)
theorem Fe {n j:Nat} {σ:St} {v:V}:¬ (jT (List.replicate n none) σ)[j]?=some (some v):=by
 unfold jT;rw [aF,List.getElem?_replicate]
 split <;> intro h <;> simp at h
theorem fH {n:Nat} {σ σ2:St}:qG (jT (List.replicate n none) σ) σ2:=fun _ _ h=>absurd h Fe
noncomputable def sV (D:aB) (J:It) (σ0:St) (g:TG) (tc:TT) (te:TE) (Qe:Hp->Prop) (W:Nat->Nat->List V->Hp->Prop):Prop := ∀ i m acc H',W i m acc H'->H' D=some (.lst acc)/\((J.stop i H'/\Qe H')\/(J.go i H'/\acc.length < sizeLine /\ ∀ x Eh,J.Qa i H' x Eh->g x σ0 Eh fun σ2 H2=>qG σ0 σ2/\tc σ2 H2 fun b H3=>if b=true then te σ2 H3 fun y H4=>H4 D=some (.lst acc)/\∃ m',m' < m/\W (i + 1) m' (acc++[y]) (upd H4 D (.lst (acc++[y])))
 else ∃ m',m' < m/\W (i + 1) m' acc H3))
noncomputable def Zw (cap:List (Option Nat)) (wi:TI) (g:TG) (tc:TT) (te:TE):TE:=fun σ H Q=>wi σ H fun J H1=>∀ D,H1 D=none -> ∃ W:Nat->Nat->List V->Hp->Prop,(∃ m,W 0 m [] (upd H1 D (.lst [])))/\sV D J (jT cap σ) g tc te (Q (.ref D)) W
section
variable {X:Cx} {scope:Scope} {cl:List (Str × aB)} {N':List Str} {cap:List (Option Nat)} {target iter elt:Expr} {ifs:List Expr} {pos:Pos} {wi:TI} {g:TG} {tc:TT} {te:TE} {E:XK} {L:aB}
theorem xO {pins:List (aB × Obj)} {σ:St} {H2:Hp} {s2:aV} {it:aB} {fp:List aB} {tn:Nat->Heap->Prop} {J:It} {Qe:aB->Hp->Prop} {E₀:aC->aV->Prop} {RR:aC->aB->Result->aV->Prop} (acc:wB X E) (hc:X.calm=true) (F:sO X L) (O:gR X scope cl N' cap) (hg:∀ s₀ H₀ fp qF E',PG (iz X scope cl N' s₀ H₀ fp qF E') target g) (ht:∀ s₀ H₀ fp qF E',PTs (iz X scope cl N' s₀ H₀ fp qF E') ifs tc) (he:∀ s₀ H₀ fp qF E',wB (iz X scope cl N' s₀ H₀ fp qF E') E->PE (iz X scope cl N' s₀ H₀ fp qF E') elt te) (I2:Inv X pins σ H2 s2) (T:Turn X.prog X.w X.K target J fp it tn) (st2:tn 0 s2.heap) (f2:∀ b ∈ fp,oR X pins H2 b) (hq:∀ D,H2 D=none->∃ W:Nat->Nat->List V->Hp->Prop,(∃ m,W 0 m [] (upd H2 D (.lst [])))/\sV D J (jT cap σ) g tc te (Qe D) W) (hok:∀ D C s',(∃ m,s'.heap.Ns C m)->Loose X pins (fun _=>none) C->(∃ H',Inv X pins σ H' s'/\H' C=none/\Qe D H')->RR (.ref D) C (.ok .next) s') (axR:∀ D C x s',(∃ m,s'.heap.Ns C m)->(∀ h',Heap.SameBut C s'.heap h'->∀ cenv:Env,cenv.locals=C->wpAny (model X.prog X.w) X.A (passOn "comprehension.variables-let-go" x cenv:Sem aC) (fun _ _=>False) X.xe { s' with heap:=h' })->RR (.ref D) C (.error x) s') :
  wpAny (model X.prog X.w) X.A (newList []) (fun Nx s₃=>wpAny (model X.prog X.w) X.A (newFunctionEnv scope X.env.globals cl [] X.env.qual none .none (some X.env)) (fun cenv s₄ =>
   codeAny (model X.prog X.w) X.A (.compStart (.ListComp elt [⟨target,iter,ifs,0⟩] scope pos) 0 (.ref it) Nx { cenv with scope:=relabel scope X.env }) (RR Nx cenv.locals) s₄) E₀ s₃) E₀ s2:=by
 refine wpAny_newObj_type ?_;obtain ⟨W,⟨m0,w0⟩,turn⟩:=hq s2.heap.objs.size (I2.hok.fresh (aM _));have I3:Inv X pins σ (upd H2 s2.heap.objs.size (.lst [])) { s2 with heap:=s2.heap.push { cls:=.type "list",dict:=none,data:=.seq ([]:List aC).toArray } } :=
  I2.laid (t':=s2.toks) (fun b u e=>aq _ e) (aM _) ⟨cU _,[],_,.nil,aN _ rfl⟩
 have hfD:∀ b ∈ fp,b≠s2.heap.objs.size:=fun b hb z=>by
  obtain ⟨o,e,_⟩:=T.obj 0 _ st2 b hb;exact absurd (Heap.lt_size e) (by rw [z]; exact cM _)
 generalize hs3:({ s2 with heap:=s2.heap.push { cls:=.type "list",dict:=none,data:=.seq ([]:List aC).toArray } }:aV)=s3 at I3 ⊢;have k23:∀ b o,s2.heap.get? b=some o->s3.heap.get? b=some o:=fun b o e=>by rw [<- hs3]; exact aq _ e
 have f3:∀ b ∈ fp,oR X pins (upd H2 s2.heap.objs.size (.lst [])) b:=fun b hb=>⟨by rw [bw (hfD b hb)]; exact (f2 b hb).1,(f2 b hb).2⟩
 have hlt:∀ b ∈ fp,b < s3.heap.objs.size:=fun b hb=>by
  obtain ⟨o,e,_⟩:=T.obj 0 _ st2 b hb;exact Heap.lt_size (k23 b o e)
 have st3:tn 0 s3.heap:=T.keep 0 _ _ st2 fun b _ o e=>k23 b o e
 refine wpAny_newFunctionEnv O.o7 (fun x hx=>nomatch hx) (fun h' hns hsb=>?_) O.kind;have k34:∀ b o,s3.heap.get? b=some o->h'.get? b=some o:=fun b o e=>(hsb.2 b (Nat.ne_of_lt (Heap.lt_size e))).trans (aq _ e)
 have lC:Loose X pins (upd H2 s2.heap.objs.size (.lst [])) s3.heap.objs.size:=I3.mX (Heap.get?_none_of_le (aM _));have lC0:Loose X pins (fun _=>none) s3.heap.objs.size:=⟨rfl,lC.2⟩
 let NE:aC->aV->Prop:=qP X.prog X.w X.A (compEnvC scope cl s3.heap.objs.size X.env) (RR (.ref s2.heap.objs.size) s3.heap.objs.size)
 let Y0:Cx:=iz X scope cl N' s3 (upd H2 s2.heap.objs.size (.lst [])) fp (X.pn++pins) NE
 have I4:∀ t',Inv Y0 [] (jT cap σ) (upd H2 s2.heap.objs.size (.lst [])) { s3 with heap:=h',toks:=t' }:=fun t'=>QJ I3 O f3 hlt hns k34
 have loop:∀ s4:aV,Inv Y0 [] (jT cap σ) (upd H2 s2.heap.objs.size (.lst [])) s4->tn 0 s4.heap ->
   codeAny (model X.prog X.w) X.A (.compLoop (.ListComp elt [⟨target,iter,ifs,0⟩] scope pos) 0 (.ref it) (.ref s2.heap.objs.size) (compEnvC scope cl s3.heap.objs.size X.env)) (RR (.ref s2.heap.objs.size) s3.heap.objs.size) s4:=by
  intro s4 I4 st4;have stat:∀ {H':Hp},(∀ b ∈ fp,H' b=none)->∀ b ∈ fp,oR Y0 [] H' b:=fun {H'} hn b hb =>
   ⟨hn b hb,Nat.ne_of_lt (hlt b hb),fun z=>(aQ.mp (I3.qK b z)).elim (fun y=>(f3 b hb).2.1 y) fun y=>(f3 b hb).2.2.1 y,.inl hb,fun x c e=>(f3 b hb).2.2.2.2.1 x c (O.sub _ _ e),fun p hp=>(f3 b hb).2.2.2.2.2 p (by have q:p ∈ (X.pn++pins)++[]:=hp; simpa using q)⟩
  refine CQ (fun n s'=>∃ i ac H',Inv Y0 [] (jT cap σ) H' s'/\tn i s'.heap/\(∀ b ∈ fp,H' b=none)/\W i n ac H') ?_ m0 ⟨0,[],_,I4,st4,fun b hb=>(f3 b hb).1,w0⟩;rintro n s5 ⟨i,ac,H5,I5,st5,fr5,w5⟩;obtain ⟨hD5,alt⟩:=turn i n ac H5 w5;rcases alt with ⟨stop,qe⟩ | ⟨go,hsz,step⟩
  ·refine eY (T.done Y0 rfl rfl rfl hc i [] s5 _ H5 NE I5 (stat fr5) st5 stop) fun r s6 ⟨hr,I6⟩=>?_
   subst hr;obtain ⟨m,hn,_⟩:=I6.loc;exact hok _ _ s6 ⟨m,hn⟩ lC0 ⟨H5,comp_back I3 f3 I6,I6.free,qe⟩
  ·refine eY (T.item Y0 rfl rfl rfl hc i [] s5 _ H5 NE I5 (stat fr5) st5 go) fun r s6 ⟨u,hr,h6⟩=>?_
   subst hr;refine eY h6 fun _ s7 ⟨x,H7,I7,r7,y7,st7,fr7⟩=>?_
   have I7p:=I7.pinned (stat fr7) (T.obj _ _ st7);have I7t:=I7p.zQ NE
   let Y1:Cx:=iz X scope cl N' s3 (upd H2 s2.heap.objs.size (.lst [])) fp ((X.pn++pins)++([]++oW fp s7.heap)) NE
   have I7y:Inv Y1 [] (jT cap σ) H7 s7:=I7t;have ac1:wB Y1 E:=by
    intro oH σ' H' s' e cls dx I' fl q;have nfp:e ∉ fp/\∀ t,Loose Y1 oH H' t->t ∉ fp:=by
     have nn:∀ t,Loose Y1 oH H' t->t ∉ fp:=fun t l hb=>by
      obtain ⟨o,eo,_⟩:=T.obj _ _ st7 t hb;exact l.2.2.2.2.2 (t,o) (mem_append_left _ (mem_append_right _ (mem_append_right _ (nO hb eo)))) rfl
     obtain ⟨_,_,l,_⟩:=fl;exact ⟨nn e l,nn⟩
    show wpAny (model X.prog X.w) X.A (noteFrame (.ref e) _) _ _ s'
    obtain ⟨env₀,outer,es,hf₀,hf⟩:=F;refine Iz (X:=Y1) I' I'.ok.frames ⟨env₀,outer,es,hf₀,hf⟩ fl fun s8 I8 f8=>?_
    obtain ⟨t8,x8,le8,lt8⟩:=f8;obtain ⟨m,hn8,_⟩:=id I8.loc;refine axR _ _ _ s8 ⟨m,hn8⟩ fun h' sb cenv hcl=>?_
    have J8:Inv X pins σ H' s8:=comp_back I3 f3 I8;have lX:∀ b,Loose Y1 oH H' b->Loose X pins H' b:=fun b l=>⟨l.1,(I3.mX (l.2.2.2.1 (nfp.2 b l))).2⟩
    have nC:∀ b,Loose Y1 oH H' b->b≠s3.heap.objs.size:=fun b l=>l.2.1
    have J9:Inv X pins σ H' { s8 with heap:=h' }:=J8.oZ (t':=s8.toks) (ch:=[s3.heap.objs.size]) (fun b hb=>by rw [aL.mp hb]; exact ⟨I8.free,lC.2⟩)
     (fun b o _ hc' z=>(sb.2 b fun y=>hc' (by rw [y]; exact mem_cons_self)).trans z) (fun b o hc' z=>⟨o.slots,(sb.2 b fun y=>hc' (by rw [y]; exact mem_cons_self)).trans z⟩)
    have x9:Exc h' e cls dx (some t8):=x8.keeps fun b o hb z=>(sb.2 b (by
     rcases hb with y | y
     ·rw [y]; exact nC e le8
     ·cases y; exact nC _ lt8)).trans z
    unfold PySem.passOn;obtain ⟨oe,vs,he9,hc9,hd9,hv9,h19,_⟩:=id x9;refine aj (wpAny_field he9 hv9 h19 ?_);rw [if_neg (by simp)];refine aj (sU (X:=X) J9 ⟨t8,x9,lX _ le8,lX _ lt8⟩ fun Vu I10 f10=>?_);exact wpAny_throw (acc pins σ H' Vu e cls dx I10 f10.fly q)
   refine eY (hg s3 _ fp _ NE [] s7 _ H7 x u _ I7y r7 (step x H7 y7)) fun _ s8 ⟨σ8,H8,I8,kp8,q8⟩=>?_
   refine eY (ht s3 _ fp _ NE [] s8 σ8 H8 _ I8 q8) fun ok s9 ⟨H9,I9,q9⟩=>?_
   have again:∀ {H':Hp} {s':aV} {ac':List V},Inv Y1 [] σ8 H' s'->(∃ m',m' < n/\W (i + 1) m' ac' H') ->
     ∃ m,m < n/\∃ i ac H',Inv Y0 [] (jT cap σ) H' s'/\tn i s'.heap/\(∀ b ∈ fp,H' b=none)/\W i m ac H':=fun {H' s' ac'} I' ⟨m',hm,w'⟩=>by
    have I0:Inv Y0 ([]++oW fp s7.heap) σ8 H' s':=Inv.CP (X:=Y0) (pins:=[]++oW fp s7.heap) I5.ok I';have anA:∀ b ∈ fp,∀ o,s7.heap.get? b=some o->s'.heap.get? b=some o/\H' b=none:=fun b hb o e=>by
     have z:=I0.pin (b,o) (mem_append_right _ (mem_append_right _ (nO hb e)));exact ⟨z.1,z.2.1⟩
    refine ⟨m',hm,i + 1,ac',H',(Inv.rY (pins:=[]) (pl:=oW fp s7.heap) I0).weak (by rw [I0.len]; show _=N'.length; simp [jT,O.len]) kp8,T.keep _ _ _ st7 fun b hb o e=>(anA b hb o e).1,fun b hb=>?_,w'⟩;obtain ⟨o,e,_⟩:=T.obj _ _ st7 b hb;exact (anA b hb o e).2
   cases ok with
   | false =>
    rw [if_neg Bool.false_ne_true] at q9 ⊢;exact again I9 q9
   | true =>
    rw [if_pos rfl] at q9 ⊢;refine eY (he s3 _ fp _ NE ac1 [] s9 σ8 H9 _ I9 q9) fun yv Vu ⟨y,H10,I10,r10,axU,q10⟩=>?_
    refine eY (iU (X:=Y1) [] Vu σ8 H10 (.ref s2.heap.objs.size) [y] (.ref s2.heap.objs.size) [yv] (fun _ H'=>H'=upd H10 s2.heap.objs.size (.lst (ac++[y]))) I10 rfl (.cons r10 .nil) ⟨_,ac,y,rfl,rfl,axU,hsz,rfl⟩) fun _ s11 ⟨_,H11,I11,_,e11⟩=>?_
    subst e11;exact again I11 q10
 have agj:tn 0 h':=T.keep 0 _ _ st3 fun b _ o e=>k34 b o e
 exact codeAny_compStart_list (loop _ (I4 _) agj) (T.self _ 0 _ _ _ agj (loop _ (I4 _) agj))
theorem iC (acc:wB X E) (hc:X.calm=true) (F:sO X L) (O:gR X scope cl N' cap) (hi:PI X target iter wi) (hg:∀ s₀ H₀ fp qF E',PG (iz X scope cl N' s₀ H₀ fp qF E') target g) (ht:∀ s₀ H₀ fp qF E',PTs (iz X scope cl N' s₀ H₀ fp qF E') ifs tc) (he:∀ s₀ H₀ fp qF E',wB (iz X scope cl N' s₀ H₀ fp qF E') E->PE (iz X scope cl N' s₀ H₀ fp qF E') elt te) (hs:autoParam (∀ x,foldedSetIterable iter X.env x=pure x) zau3):PE X (.ListComp elt [⟨target,iter,ifs,0⟩] scope pos) (Zw cap wi g tc te):=by
 intro pins s σ H Q I h;rw [eval_ListComp];refine wpAny_comprehension_free (use:=none) rfl hs O.clos O.kind O.names (eY (hi pins s σ H _ I h) fun xv s₁ h₁=>eY h₁ fun itv s₂ h₂=>?_);obtain ⟨it,fp,tn,J,H2,e,I2,T,st2,f2,q⟩:=h₂;subst e;refine xO (RR:=fun Nx C=>compPost (model X.prog X.w) X.A X.xe none (EP X pins σ Q) Nx C) (Qe:=fun D=>Q (.ref D)) acc hc F O hg ht he I2 T st2 f2 q ?_ ?_
 ·rintro D C s' ⟨m,hn⟩ lC ⟨H',I',hC,q'⟩;refine ⟨m,hn,fun h' sb=>⟨.ref D,H',I'.oZ (t':=s'.toks) (ch:=[C]) (fun b hb=>by rw [aL.mp hb]; exact ⟨hC,lC.2⟩) (fun b o _ hc' z=>(sb.2 b fun y=>hc' (by rw [y]; exact mem_cons_self)).trans z) (fun b o hc' z=>⟨o.slots,(sb.2 b fun y=>hc' (by rw [y]; exact mem_cons_self)).trans z⟩),rfl,q'⟩⟩
 ·rintro D C x s' ⟨m,hn⟩ k;exact ⟨m,hn,k⟩
theorem sW {i:Nat} {y:Str} {py spos:Pos} (hN:X.N.Nodup) (hi':X.N[i]?=some y) (hx:Loc X.env.scope y) (acc:wB X E) (hc:X.calm=true) (F:sO X L) (O:gR X scope cl N' cap) (hi:PI X target iter wi) (hg:∀ s₀ H₀ fp qF E',PG (iz X scope cl N' s₀ H₀ fp qF E') target g) (ht:∀ s₀ H₀ fp qF E',PTs (iz X scope cl N' s₀ H₀ fp qF E') ifs tc) (he:∀ s₀ H₀ fp qF E',wB (iz X scope cl N' s₀ H₀ fp qF E') E->PE (iz X scope cl N' s₀ H₀ fp qF E') elt te) (hsw:autoParam (swapsWith (.ListComp elt [⟨target,iter,ifs,0⟩] scope pos) (some (.Name y py)) spos.line X.env=pure true) zau0) (hs:autoParam (∀ x,foldedSetIterable iter X.env x=pure x) zau3) (hf:autoParam (X.fn y=true\/X.env.scope.names.lookup y=some .local) zau2) : PS X (.Assign [.Name y py] (.ListComp elt [⟨target,iter,ifs,0⟩] scope pos) spos) (afV (Zw cap wi g tc te) (Em i)):=by
 intro pins s σ H D I h;rw [exec_Assign_Name_used y py _ spos hsw];refine aj (wpAny_standAt ?_);refine aj ?_
 show wpAny _ X.A (do let _ <- comprehension (.ListComp elt [⟨target,iter,ifs,0⟩] scope pos) scope X.env _ (newList []) false (eval iter X.env) (some (assign (.Name y py) X.env))) _ _ s
 refine aj (wpAny_mono (wpAny_comprehension_free (use:=some (assign (.Name y py) X.env)) (Q:=fun _ s'=>SP X pins D .next s') rfl hs O.clos O.kind O.names (eY (hi pins s σ H _ I h) fun xv s₁ h₁=>eY h₁ fun itv s₂ h₂=>?_)) (fun _ s' hq=>ao (ao hq)) fun _ _ e=>e);obtain ⟨it,fp,tn,J,H2,e,I2,T,st2,f2,q⟩:=h₂;subst e;refine xO (RR:=fun Nx C=>compPost (model X.prog X.w) X.A X.xe (some (assign (.Name y py) X.env)) (fun _ s'=>SP X pins D .next s') Nx C) (Qe:=fun Dl H1=>D.nx (σ.set i (some (.ref Dl))) H1) acc hc F O hg ht he I2 T st2 f2 q ?_ ?_
 ·rintro Dl C s' ⟨m,hn⟩ lC ⟨H',I',hC,q'⟩
  show wpAny _ X.A (assign (.Name y py) X.env (.ref Dl)) _ _ s'
  refine wpAny_assign_Name (z9 I' hN hi' hx (show RelV (.ref Dl) (.ref Dl) from rfl) (fun s'' I'' hsb=>?_) hf);obtain ⟨a,sba,ha⟩:=hsb;have nCa:C≠a:=by
   rcases ha with z | z
   ·rw [z]; exact lC.2.1
   ·exact Ne.symm (lC.2.2.2.2.1 _ _ z)
  refine ⟨m,hn.sameBut sba nCa,fun h' sb=>⟨_,H',I''.oZ (t':=s''.toks) (ch:=[C]) (fun b hb=>by rw [aL.mp hb]; exact ⟨hC,lC.2⟩) (fun b o _ hc' z=>(sb.2 b fun y=>hc' (by rw [y]; exact mem_cons_self)).trans z) (fun b o hc' z=>⟨o.slots,(sb.2 b fun y=>hc' (by rw [y]; exact mem_cons_self)).trans z⟩),q'⟩⟩
 ·rintro D C x s' ⟨m,hn⟩ k;exact ⟨m,hn,k⟩
end
structure mY (k:Nat) (A:dB):Prop where
 dp:A.depth + 3 * k + 5 < recursionLimit
 un:A.units + 16 * k + 200 < cLine
theorem dJ.toH {k:Nat} {A:dB} (r:dJ k A):mY k A:=⟨r.dp,r.un⟩
theorem mY.deeper {k:Nat} {A:dB} (r:mY (k + 1) A) (env:Env):mY k (A.deeper env) := ⟨by have:=r.dp; show A.depth + 1 + 3 * k + 5 < _; omega,by have:=r.un; show A.units + 3 + 16 * k + 200 < _; omega⟩
structure Ak (P:bZ) (w:World) (K:Fg) (mg:Str->Option aC) (base:Heap) (CX:zJ) (k:Nat) (f:aB) (fd:d7) (ps:List Str) (sp:Sp):Prop where
 len:∀ vs H Q E,sp vs H Q E->vs.length=ps.length
 run:∀ (A:dB) (outer:List Env) (s:aV) (H:Hp) (args:Args) (us:List aC) (vs:List V) (Q:VK) (E:XK),mY k A->Cr P w K mg base A outer s H->BindsTo s fd args (ps.zip us)->Vals vs us->sp vs H Q E -> codeAny (model P w) A (.call (.ref f) args) (CR CX outer P w H s Q E) s
noncomputable abbrev K9 (CX:zJ) (P:bZ) (w:World) (K:Fg) (mg:Str->Option aC) (base:Heap) (N:List Str) (qual:Str) (scope:Scope) (f:aB) (cd:aC) (A:dB) (outer:List Env) (s:aV) (H:Hp) (E:XK):Cx := { oY CX P w K mg base N qual scope f cd A outer s H E with calm:=false }
theorem agk {CX:zJ} {P:bZ} {w:World} {K:Fg} {mg:Str->Option aC} {base:Heap} {k:Nat} {f:aB} {name qual:Str} {params:Arguments} {body:List cX} {scope:Scope} {dV kV doc pm cdv ct oc:aC} {an od:Option aB} {osl:Array (Option aC)} {N ps:List Str} {sp:Sp} (lk:K.lookup f=some ⟨oc,od,.func (fnOf name qual params body scope dV kV doc pm an cdv ct),osl⟩) (hcd:codeIn K cdv qual=true) (S:bM N ps scope) (len:∀ vs H Q E,sp vs H Q E->vs.length=ps.length) (hbody:∀ (A:dB) (outer:List Env) (s:aV) (H:Hp) (vs:List V) (Q:VK) (E:XK),mY k (A.deeper (envOfC qual scope s.heap.objs.size f cdv))->sp vs H Q E -> ∃ t,zH (K9 CX P w K mg base N qual scope f cdv A outer s H E) body t/\t { nx:=fun _ H'=>Q .non H',rt:=Q } (start N vs) H) : Ak P w K mg base CX (k + 1) f (fnOf name qual params body scope dV kV doc pm an cdv ct) ps sp:=by
 refine ⟨len,fun A outer s H args us vs Q E hr e0 hb r hsp=>?_⟩;have hl:=len _ _ _ _ hsp;have KX:K.In s.heap:=e0.mod.Pq.keeps fun b o e=>(e0.bs b o e).1
 have lim:s.heap.NoLimit:=e0.mod.nolimit.keeps fun b o e=>(e0.bs b o e).1
 have hkind:∀ y ∈ ps.zip us,scope.names.lookup y.1=some .local\/(scope.names.lookup y.1=some .cell/\((cellsFrom (s.heap.objs.size + 1) scope.names []).lookup y.1).isSome=true):=fun ⟨n,v⟩ hy=>by
  rcases S.par n (of_mem_zip hy).1 with q | q
  ·exact .inl q
  ·exact .inr ⟨q,cellsFrom_some _ _ _ (.inl q)⟩
 have axV:A.depth < recursionLimit:=by have:=hr.dp; omega
 refine codeAny_call_function axV (KX _ _ lk) rfl S.co S.gen rfl (codeRec_of KX hcd) (hb _ _ _ _ ?_);refine wpAny_newFunctionEnv_cells S.kind hkind fun env he s1 x=>?_
 subst he;refine ⟨lim.keeps x.toInCall.keep,codeAny_func ?_⟩;obtain ⟨t,ht,hq⟩:=hbody A outer s H vs Q E (hr.deeper _) hsp;have I0:Inv (oY CX P w K mg base N qual scope f cdv { A with handled:=none } outer s H E) [] (start N vs) H s1 :=
  Ah S rfl ⟨e0.frames,e0.mod,e0.bs,e0.M9,e0.oV,e0.Vs,e0.hok,e0.bare⟩ hl r x
 have I:Inv (K9 CX P w K mg base N qual scope f cdv A outer s H E) [] (start N vs) H s1 :=
  ⟨⟨I0.ok.mod,I0.ok.kind,I0.ok.glob,I0.ok.blt,I0.ok.above,I0.ok.inj,I0.ok.has,I0.ok.cab,(fun z=>nomatch z),Around.frames_deeper e0.frames,I0.ok.stk,I0.ok.exf,I0.ok.bs,I0.ok.M9,I0.ok.Nb,I0.ok.Pz,I0.ok.oV,I0.ok.Vs⟩,I0.os,I0.bare,I0.base,I0.loc,I0.cell,I0.free,I0.jr,I0.pin,I0.hok,I0.len⟩
 refine wpAny_mono (ht [] s1 (start N vs) H _ I hq) (fun fl s' hs=>?_) fun e s' hs=>hs
 have fin:∀ {σ':St} {H':Hp} {v:V} {u:aC},Inv (K9 CX P w K mg base N qual scope f cdv A outer s H E) [] σ' H' s'->RelV v u->Q v H'->CE outer P w H s Q u s' :=
  fun {σ' H' v u} J rv q=>⟨v,H',J.os,J.bare,J.base,J.hok,rv,q⟩
 cases fl with
 | ret u =>
  obtain ⟨v,σ',H',J,rv,q⟩:=hs;exact fin J rv q
 | next =>
  obtain ⟨σ',H',J,q⟩:=hs;exact fin (v:=V.non) (u:=Value.none) J rfl q
 | brk =>
  obtain ⟨_,_,_,q⟩:=hs;exact False.elim q
 | cont =>
  obtain ⟨_,_,_,q⟩:=hs;exact False.elim q
section
variable {X:Cx} {CX:zJ} {k:Nat} {f:aB} {fd:d7} {ps:List Str} {sp:Sp} {qD:List V} {ds:List aC} {E:XK} {x:Str} {p pos:Pos} {e:Expr} {es:List Expr} {t:TA}
theorem W7 {pins:List (aB × Obj)} {σ:St} {H:Hp} {s:aV} {Q:VK} {us:List aC} {vs:List V} (F:Ak X.prog X.w X.K X.mg X.base CX k f fd ps sp) (hr:mY k X.A) (hb:Binds X.K fd ps ds) (hd:Vals qD ds) (hx:Passes CX X E) (I:Inv X pins σ H s) (r:Vals vs us) (h:sp (vs++qD) H Q E):wpAny (model X.prog X.w) X.A (call (.ref f) us) (EP X pins σ Q) X.xe s:=by
 have r2:Vals (vs++qD) (us++ds):=r.append hd;have hl:(us++ds).length=ps.length:=by rw [<- r2.length]; exact F.len _ _ _ _ h
 refine wpAny_call (dh (F.run X.A X.stack s H ⟨us,[]⟩ (us++ds) (vs++qD) Q E hr I.env0 (hb s us I.oU hl) r2 h) fun r s' hq=>?_);cases r with
 | error e=>exact hx pins σ H s e s' I hq
 | ok fl =>
  cases fl with
  | ret u=>exact I.after hq
  | next=>exact False.elim hq
  | brk=>exact False.elim hq
  | cont=>exact False.elim hq
theorem QK (F:Ak X.prog X.w X.K X.mg X.base CX k f fd ps sp) (hr:mY k X.A) (hg:Gl X x) (hm:X.mg x=some (.ref f)) (hk:keepIn X.K (.ref f)=true) (hb:Binds X.K fd ps ds) (hd:Vals qD ds) (hx:Passes CX X E) (ha:PA X (e::es) t) (hdb:autoParam ((x == ("__debug__":Str))=false) zau1) (he:autoParam (starEach (e::es) X.env=(false,eval e X.env)::starEach es X.env) zau0) (hpl:autoParam ((backTo pos (starEach es X.env)).any (·.1)=false) zau0) : PE X (.Call (.Name x p) (e::es) [] pos) (KZ sp qD E t):=by
 intro pins s σ H Q I h;refine wpAny_Call_Name_kw (lO I hg hm ?_ hdb);refine callWith_K (h₀:=X.base) I.ok.mod.Pq hk (eY (ha pos pins s σ H _ I h) fun us s1 ⟨vs,H1,I1,r,q⟩=>⟨I1.oU,?_⟩) he hpl;exact W7 F hr hb hd hx I1 r q
end
def ji:List Str->List Str
 | []=>[]
 | x::l=>x::(ji l).filter fun y=>decide (y≠x)
theorem xP {y:Str}:∀ {l:List Str},y ∈ ji l ↔ y ∈ l
 | []=>Iff.rfl
 | x::l=>by
  by_cases e:y=x
  ·simp [ji,e]
  ·simp [ji,e,xP (l:=l)]
theorem CT:∀ l:List Str,(ji l).length<=l.length
 | []=>aM _
 | _::l=>Nat.succ_le_succ (bH (length_filter_le _ _) (CT l))
theorem Al (v:Str):∀ l:List Str,ji (l++[v])=if v ∈ l then ji l else ji l++[v]
 | []=>by simp [ji]
 | x::l=>by
  have ih:=Al v l
  by_cases e:v=x
  ·subst e
   by_cases m:v ∈ l <;> simp [ji,ih,m,filter_append]
  ·by_cases m:v ∈ l <;> simp [ji,ih,m,e,filter_append]
theorem La:∀ l:List Str,(ji l).length=l.length ↔ l.Nodup
 | []=>by simp [ji]
 | x::l=>by
  have le1:=length_filter_le (fun y=>decide (y≠x)) (ji l);have le2:=CT l;have ih:=La l;have all:((ji l).filter fun y=>decide (y≠x)).length=(ji l).length ↔ ¬ x ∈ l:=by
   rw [List.length_filter_eq_length_iff];constructor
   ·intro h m;simpa using h x (xP.mpr m)
   ·intro h y hy;simpa using fun z:y=x=>h (z ▸ xP.mp hy)
  simp only [ji,length_cons,nodup_cons];constructor
  ·intro h;exact ⟨all.mp (by omega),ih.mp (by omega)⟩
  ·rintro ⟨h1,h2⟩;have:=all.mpr h1;have:=ih.mpr h2;omega
section
variable {prog:bZ} {w:World} {A:dB} {E:aC->aV->Prop} {Q:aC->aV->Prop} {s:aV}
theorem CV {T newId initId:String} {args:List aC} (ft:TypeCalled T newId initId) (ok:checkTypeCall T ⟨args,[]⟩=pure ()) (mk:codeAny (model prog w) A.in1 (.call (.builtin newId) ⟨.type T::args,[]⟩) (wants (fun obj a=>a.TypeIs obj T/\codeAny (model prog w) A.in1 (.call (.builtin initId) ⟨obj::args,[]⟩) (wants (fun r b=>r=.none/\Q obj b) E) a) E) s):wpAny (model prog w) A (call (.type T) args) Q E s:=by
 obtain ⟨c,tl,mro⟩:=ft.mro;have made:=ft.made; have sub:=ft.sub; have n1:=ft.notType; have n2:=ft.canCreate;have look:=ft.init.lookup;refine wpAny_call (codeAny_of_tree (show wpAny _ _ (callAny (.type T) _) _ _ _ from ao ⟨Code.quiet_builtin _ (by decide +kernel),codeAny_builtin PySem.F.entry_type_call ?_⟩));have plain:=Around.under_plain (A:=A) (weight_type_call_type T args []) (units_type_call_type T args []);rw [plain]
 repeat any_goals first | assumption | wp_step
 refine dh mk fun r a ha=>?_
 match r,ha with
 | .error _,ha=>exact ha
 | .ok (.ret obj),ha =>
  obtain ⟨ty,ini⟩:=ha;have bnd:=ft.init.bind obj
  repeat any_goals first | assumption | wp_step
  refine dh ini fun r b hb=>?_
  match r,hb with
  | .error _,hb=>exact hb
  | .ok (.ret v),hb =>
   obtain ⟨rfl,q⟩:=hb
   repeat any_goals first | assumption | wp_step
theorem W8 {S:aB} {done:List Str} {x:Str} {t:Tok} {Qu:Bool->aV->Prop} (small:(ji done).length + 1 < scanBound) (at_:s.heap.SetOf (strKind prog w) S (fun k=>decide (k ∈ done)) (ji done).length) (k:∀ h' tk b,Heap.SameBut S s.heap h'->h'.SetOf (strKind prog w) S (fun k=>decide (k ∈ done++[x])) (ji (done++[x])).length->Qu b { s with heap:=h',toks:=tk }):wpAny (model prog w) A (setAdd S (.str x t)) Qu E s:=by
 have is:(strKind prog w).is x (.str x t)=true:=by show Value.isStrOf x (.str x t)=true; simp [Value.isStrOf]
 unfold setAdd;refine wpAny_holding (aj ((strKind prog w).pyHash (k:=x) is (wpAny_setAddHashed_of (knd:=strKind prog w) (s:={ s with toks:=s.toks + 1 }) is rfl at_ small fun h' sb set=>k h' _ _ sb ?_)));refine SetOf_congr set (fun y=>?_) ?_
 ·simp [mem_append,Bool.decide_or]
 ·rw [Al]
  by_cases m:x ∈ done <;> simp [m]
theorem Fi {S I l:aB} {its:List aC} {ls:List Str} (calm:A.handled=none) (SI:S≠I) (Sl:S≠l) (lI:l≠I) (txt:Paired (fun x v=>∃ t,v=Value.str x t) ls its) (small:ls.length + 1 < scanBound) {R:Result->aV->Prop} : ∀ (todo done:List Str) (s:aV),ls=done++todo->s.heap.IsListIter I l done.length->s.heap.IsList l its.toArray->s.heap.SetOf (strKind prog w) S (fun k=>decide (k ∈ done)) (ji done).length -> (∀ h' tk,(∀ b o,b≠S->b≠I->s.heap.get? b=some o->h'.get? b=some o)->h'.SetOf (strKind prog w) S (fun k=>decide (k ∈ ls)) (ji ls).length->R (.ok (.ret .none)) { s with heap:=h',toks:=tk }) -> codeAny (model prog w) A (.builtin "set.update.loop" ⟨[.ref S,.ref I],[]⟩) R s
 | [],done,s,e,it,li,at_,k=>by
  have e':ls=done:=by simpa using e
  have len:=txt.length;refine codeAny_builtin PyProof.Rows.F.entry_set_update_loop ?_;rw [Around.under_plainId PyProof.Rows.F.plain_set_update_loop _];refine aj (m:=pyNext (.ref I)) (wpAny_pyNext_list_end (by simpa using calm) it li (by rw [<- e']; simp [len]) fun h' ext=>?_);obtain ⟨o,es,ep,t,ho,more⟩:=at_;subst e';exact ao (k h' s.toks (fun b o _ nI q=>ext b o nI q) ⟨o,es,ep,t,ext S o SI ho,more⟩)
 | x::todo,done,s,e,it,li,at_,k=>by
  have anB:done.length < ls.length:=by rw [e,bx,length_cons]; omega
  have item:∃ t,its[done.length]?=some (Value.str x t):=by
   have at1:ls[done.length]?=some x:=by rw [e]; simp
   clear e it li at_ k anB small
   induction txt generalizing done with
   | nil=>simp at at1
   | @cons a b l₁ l₂ r rr ih =>
    cases done with
    | nil=>simp at at1; subst at1; obtain ⟨t,q⟩:=r; exact ⟨t,by simp [q]⟩
    | cons y ys=>exact ih ys (by simpa using at1)
  obtain ⟨t,item⟩:=item;have room:(ji done).length + 1 < scanBound:=by have:=CT done; omega
  refine codeAny_builtin PyProof.Rows.F.entry_set_update_loop ?_;rw [Around.under_plainId PyProof.Rows.F.plain_set_update_loop _];refine aj (m:=pyNext (.ref I)) (wpAny_pyNext_list_item it li (x:=Value.str x t) (by simpa using item) fun h' it' sb=>?_);obtain ⟨o,es,ep,tb,ho,more⟩:=at_;refine aj (wpAny_holding (W8 (s:={ s with heap:=h' }) room ⟨o,es,ep,tb,(sb.2 S SI).trans ho,more⟩ fun g tk b sg set=>?_));refine ao ⟨plainId_quiet PyProof.Rows.F.plain_set_update_loop _,Fi calm SI Sl lI txt small todo (done++[x]) _ (by simp [e]) ?_ ?_ set fun g' tk' keep fin=>?_⟩
  ·rw [bx];exact it'.at fun o q=>(sg.2 I (Ne.symm SI)).trans q
  ·exact (li.at fun o q=>(sb.2 l lI).trans q).at fun o q=>(sg.2 l (Ne.symm Sl)).trans q
  ·exact k g' tk' (fun b o nS nI q=>keep b o nS nI ((sg.2 b nS).trans ((sb.2 b nI).trans q))) fin
theorem zR {l:aB} {its:List aC} {ls:List Str} (calm:A.handled=none) (li:s.heap.IsList l its.toArray) (txt:Paired (fun x v=>∃ t,v=Value.str x t) ls its) (small:ls.length + 1 < scanBound) (k:∀ h' tk,h'.SetOf (strKind prog w) s.heap.objs.size (fun y=>decide (y ∈ ls)) (ji ls).length->(∀ b o,s.heap.get? b=some o->h'.get? b=some o)->Q (.ref s.heap.objs.size) { s with heap:=h',toks:=tk }) : wpAny (model prog w) A (call (Value.type "set") [Value.ref l]) Q E s:=by
 refine CV PySem.F.called_set (PySem.F.typeCall_set_1 _) (code_set_new_1 (.ref l) fun led=>?_)
 let o₀:Obj:={ cls:=.type "set",dict:=none,data:=.set #[] 0 (.fresh 0 0 led) }
 have there:(s.heap.push o₀).get? s.heap.objs.size=some o₀:=aN s.heap rfl;have ty:Shared.TypeIs { s with heap:=s.heap.push o₀ } (.ref s.heap.objs.size) "set":=⟨o₀,there,rfl⟩;refine ⟨ty,codeAny_call_builtin PySem.F.called_set.init.plain PySem.F.entry_set_init (check_set_init_1 ty ?_)⟩;have lt:l < s.heap.objs.size:=by obtain ⟨o,q,_⟩:=li; exact Heap.lt_size q
 have li1:(s.heap.push o₀).IsList l its.toArray:=li.push o₀;obtain ⟨⟨c,d,dt,sl⟩,get,rfl,n,rfl⟩:=id li1;have axW:=PySem.F.sub_list_set; have ak5:=PySem.F.sub_list_frozenset;have notDict:(Value.type "list" == Value.type "dict")=false:=by decide
 unfold Builtin.«set.__init__»;unfold noKeywords;unfold Builtin.Frozenset.updateFrom;generalize QL:pyIter=PI
 wp_walk
 subst QL;refine wpAny_pyIter_list li1 (aj (wpAny_runValue ?_))
 let it₀:Obj:={ cls:=.type "list_iterator",data:=.fields #[.ref l,.int 0 0] }
 have QM:(s.heap.push o₀).objs.size=s.heap.objs.size + 1:=Heap.size_push _ _;refine Fi (its:=its) (ls:=ls) (by simpa using calm) (by rw [QM]; exact Nat.ne_of_lt (Nat.lt_succ_self _)) (Nat.ne_of_gt lt) (by rw [QM]; exact Nat.ne_of_lt (Nat.lt_succ_of_lt lt)) txt small ls [] _ rfl ⟨it₀,aN _ rfl,rfl,rfl⟩ (li1.push it₀) ?_ fun h' tk keep fin=>?_
 ·exact SetOf_congr ((setObjOf_fresh (knd:=strKind prog w) led).setOf (aq it₀ there) (by unfold scanBound; omega)) (fun y=>by simp) (by simp [ji])
 ·refine ao (show wpAny _ _ (ret Value.none) _ _ _ from ao ⟨rfl,k h' tk fin fun b o q=>?_⟩);have below:=Heap.lt_size q;exact keep b o (Nat.ne_of_lt below) (by rw [QM]; exact Nat.ne_of_lt (Nat.lt_succ_of_lt below)) (aq it₀ (aq o₀ q))
end
def xQ (P:bZ) (w:World) (a:aB) (n:Nat):HO:=.ext fun h=>∃ S,h.SetOf (strKind P w) a S n
theorem Fj:∀ {ls:List Str} {us:List aC},Vals (ls.map V.str) us->Paired (fun x v=>∃ t,v=Value.str x t) ls us
 | [],_,r=>by cases r; exact .nil
 | x::ls,_,r=>by cases r with | cons r rr=>exact .cons r (Fj rr)
section
variable {X:Cx}
theorem Ny (hc:X.calm=true):iy X (.type "set") (fun xs H Q=>∃ p ls,xs=[.ref p]/\cW X.K H p (ls.map V.str)/\ls.length + 1 < scanBound/\∀ l,H l=none->Q (.ref l) (upd H l (xQ X.prog X.w l (ji ls).length))):=by
 intro pins s σ H xs us Q I r h;obtain ⟨p,ls,rfl,hq,hb,q⟩:=h;obtain ⟨u,rfl,rx⟩:=Vals.one r;cases rx;obtain ⟨its,rv,pl,hz⟩:=I.list hq;refine zR (I.ok.hd hc) pl.isList (Fj rv) hb fun h' tk hS hk=>?_
 refine ⟨.ref s.heap.objs.size,_,I.laid (a:=s.heap.objs.size) (o:=xQ X.prog X.w s.heap.objs.size (ji ls).length) hk (aM _) ?_,rfl,q _ (I.hok.fresh (aM _))⟩;obtain ⟨o,es,ep,t,ho,rest⟩:=id hS;refine ⟨⟨_,hS⟩,⟨o,ho⟩,fun h1 h2 p k=>?_⟩;obtain ⟨S,o,es,ep,t,ho,rest⟩:=p;exact ⟨S,o,es,ep,t,k o ho,rest⟩
theorem Nz:iy X (.builtin "len") (fun xs H Q=>∃ p n,xs=[.ref p]/\H p=some (xQ X.prog X.w p n)/\Q (.int n) H):=by
 intro pins s σ H xs us Q I r h;obtain ⟨p,n,rfl,e,q⟩:=h;obtain ⟨u,rfl,rx⟩:=Vals.one r;cases rx;obtain ⟨⟨S,o,es,ep,t,ho,hex,hd,hel,hm,hb,hf,hn⟩,_⟩:=(show fV X.prog X.w H s.heap p (xQ X.prog X.w p n) from I.hok p _ e);subst hn;refine call_len_set ho hex hd hf (by unfold scanBound at hb; omega) ⟨.int es.size,H,I.tok _,⟨_,rfl⟩,q⟩
end
def anC (fp:List aB) (P:Heap->Prop):Prop:=∀ h h',P h->(∀ b ∈ fp,∀ o,h.get? b=some o->h'.get? b=some o)->P h'
def IK (h:Heap) (e:aB):Prop:=∃ o,h.get? e=some o/\o.cls=.type "StopIteration"
noncomputable def Draws (prog:bZ) (w:World) (A:dB) (it:aB) (P:Heap->Prop) (x:aC) (P':Heap->Prop):Prop := ∀ (s:aV) (Q:aC->aV->Prop) (E:aC->aV->Prop),P s.heap->(∀ h',P' h'->Heap.SameBut it s.heap h'->Q x { s with heap:=h' })->wpAny (model prog w) A (Builtin.SmallTypes.nextOf (.ref it)) Q E s
noncomputable def anD (prog:bZ) (w:World) (A:dB) (it:aB) (P:Heap->Prop):Prop := ∀ (s:aV) (Q:aC->aV->Prop) (E:aC->aV->Prop),P s.heap->(∀ h' e,Heap.ExtBut it s.heap h'->IK h' e->E (.ref e) { s with heap:=h' })->wpAny (model prog w) A (Builtin.SmallTypes.nextOf (.ref it)) Q E s
inductive Over (h:Heap) (it l:aB) (xs:Array aC) (k:Nat):Bool->Prop
 | lst (a:h.IsListIter it l k) (b:h.IsList l xs):Over h it l xs k false
 | tup (a:h.IsTupleIter it l k) (b:h.IsTuple l xs):Over h it l xs k true
section
variable {prog:bZ} {w:World} {A:dB} {it l:aB} {xs:Array aC} {k:Nat} {tu:Bool}
theorem gA:anC [it,l] (fun h=>Over h it l xs k tu):=fun h h' o keep=>by
 have k1:=keep it (by simp);have k2:=keep l (by simp);cases o with
 | lst a b=>exact .lst (a.at k1) (b.at k2)
 | tup a b =>
  obtain ⟨o1,q1,r1⟩:=a;obtain ⟨o2,q2,r2⟩:=b;exact .tup ⟨o1,k1 o1 q1,r1⟩ ⟨o2,k2 o2 q2,r2⟩
theorem mZ {s:aV} {Q:aC->aV->Prop} {E:aC->aV->Prop} {o:Obj} (at_:s.heap.get? it=some o) (c:o.cls=.type "tuple_iterator") (nW:o.data=.fields #[.ref l,.int k 0]) {ol:Obj} {n:Nat} (sq:s.heap.get? l=some ol) (its:ol.data=.seq xs n) : (∀ x,xs[k]?=some x->(∀ h',h'.IsTupleIter it l (k + 1)->Heap.SameBut it s.heap h'->Q x { s with heap:=h' })->wpAny (model prog w) A (Builtin.SmallTypes.nextOf (.ref it)) Q E s) /\ (xs[k]?=none->A.handled=none->(∀ h' e,Heap.ExtBut it s.heap h'->IK h' e->E (.ref e) { s with heap:=h' })->wpAny (model prog w) A (Builtin.SmallTypes.nextOf (.ref it)) Q E s):=by
 have ty:s.TypeIs (.ref it) "tuple_iterator":=⟨o,at_,c⟩;have Fl:¬ (Value.ref l == Value.none)=true:=Bool.false_ne_true;constructor
 ·intro x hx q;have Zx:=Obj.data_mapFields nW fun v=>v.setIfInBounds 1 (rawInt ((k:Int) + 1))
  refine aj (wpAny_callSpecial?_slot (name:=Str.ofString "__next__") ty PySem.F.slot_tuple_iterator_next (wpAny_call_entry PySem.F.slot_tuple_iterator_next ty PySem.F.entry_tuple_iterator_next ?_ (PySem.F.args_tuple_iterator_next_1 _)));refine aj (m:=field (.ref it) 0) (wpAny_field at_ nW (x:=.ref l) rfl ?_);rw [if_neg Fl];refine aj (m:=field (.ref it) 1) (wpAny_field at_ nW (x:=.int k 0) rfl (aj (m:=seqItems? (.ref l)) (wpAny_seqItems sq its ?_)));simp only [show ((k:Int)).toNat=k from Int.toNat_natCast k,hx];refine aj (wpAny_setField at_ nW (by simp) (ao ⟨x,rfl,ao (q _ ⟨_,Heap.get?_update_self _ at_ (Obj.isFreed_of_fields Zx),(Obj.cls_mapFields ..).trans c,?_⟩ (Heap.SameBut.update ..))⟩));rw [Zx]; simp [rawInt]
 ·intro hx calm q;refine aj (wpAny_callSpecial?_slot (name:=Str.ofString "__next__") ty PySem.F.slot_tuple_iterator_next (wpAny_call_entry PySem.F.slot_tuple_iterator_next ty PySem.F.entry_tuple_iterator_next ?_ (PySem.F.args_tuple_iterator_next_1 _)));refine aj (m:=field (.ref it) 0) (wpAny_field at_ nW (x:=.ref l) rfl ?_);rw [if_neg Fl];refine aj (m:=field (.ref it) 1) (wpAny_field at_ nW (x:=.int k 0) rfl (aj (m:=seqItems? (.ref l)) (wpAny_seqItems sq its ?_)));simp only [show ((k:Int)).toNat=k from Int.toNat_natCast k,hx];refine aj (wpAny_rule (aj (wpAny_setField at_ nW (by simp) (aj (m:=newExc (.type "StopIteration") []) ?_))));simp only [newExc,newTuple];refine aj (wpAny_newObj_type (aj (m:=firstArgMember _ _) (wpAny_of_eq (a:=Value.none) (by first | rfl | (simp only [firstArgMember]; rfl)) (wpAny_newObj_type ?_ (by size_fits)))) (by size_fits));exact wpAny_raiseNew_none (show A.in1.handled=none from calm) (q _ _ (((Heap.SameBut.update ..).extBut.push _).push _) ⟨_,aN _ rfl,rfl⟩)
theorem qQ {x:aC} (ne:l≠it) (hx:xs[k]?=some x):Draws prog w A it (fun h=>Over h it l xs k tu) x (fun h=>Over h it l xs (k + 1) tu):=by
 intro s Q E o q;cases o with
 | lst a b=>exact wpAny_nextOf_list_item a b hx fun h' a' sb=>q h' (.lst a' (b.at fun _ z=>(sb.2 l ne).trans z)) sb
 | tup a b =>
  obtain ⟨ob,z,c,d⟩:=a;obtain ⟨ol,y,r,n,its⟩:=b;exact (mZ z c d y its).1 x hx fun h' a' sb=>q h' (.tup a' ⟨ol,(sb.2 l ne).trans y,r,n,its⟩) sb
theorem Am (hx:xs[k]?=none) (calm:A.handled=none):anD prog w A it (fun h=>Over h it l xs k tu):=by
 intro s Q E o q;cases o with
 | lst a b=>exact wpAny_nextOf_list_end calm a b hx q
 | tup a b =>
  obtain ⟨ob,z,c,d⟩:=a;obtain ⟨ol,y,_,n,its⟩:=b;exact (mZ z c d y its).2 hx calm q
end
structure jG (z ti to a b l m:aB):Prop where
 own:[z,to,a,b].Nodup
 tis:ti ∉ [z,to,a,b]
 ls:l ∉ [z,to,a,b]
 ms:m ∉ [z,to,a,b]
section
variable {prog:bZ} {w:World} {A:dB} {E:aC->aV->Prop} {s:aV} {z ti to a b l m:aB} {xs ys:Array aC} {i j:Nat} {u v:aC} {t1 t2:Bool}
theorem jG.ne (D:jG z ti to a b l m):to≠z/\a≠z/\b≠z/\a≠to/\b≠to/\b≠a:=by
 have:=D.own;simp only [nodup_cons,aQ,not_mem_nil,or_false,not_or] at this;obtain ⟨⟨h1,h2,h3⟩,⟨h4,h5⟩,h6,_⟩:=this;exact ⟨Ne.symm h1,Ne.symm h2,Ne.symm h3,Ne.symm h4,Ne.symm h5,Ne.symm h6⟩
theorem four {c x y p q:aB} (h:c ∉ [x,y,p,q]):c≠x/\c≠y/\c≠p/\c≠q:=by simpa using h
def Fo (z to a b:aB) (h h':Heap):Prop:=∀ c o,c ∉ [z,to,a,b]->h.get? c=some o->h'.get? c=some o
structure o8 (t1 t2:Bool) (z ti to a b l m:aB) (xs ys:Array aC) (f:aC) (i j:Nat) (h:Heap):Prop where
 cell:IsZip h z ti to f
 its:IsPair h ti (.ref a) (.ref b)
 kept:∃ u v,IsPair h to u v
 one:Over h a l xs i t1
 two:Over h b m ys j t2
theorem o8.moved {f f':aC} {h h':Heap} {i' j':Nat} (Z:o8 t1 t2 z ti to a b l m xs ys f i j h) (D:jG z ti to a b l m) (past:Fo z to a b h h') (r:IsZip h' z ti to f') (k:∃ u v,IsPair h' to u v) (o:Over h' a l xs i' t1) (t:Over h' b m ys j' t2) : o8 t1 t2 z ti to a b l m xs ys f' i' j' h':=⟨r,past ti _ D.tis Z.its,k,o,t⟩
theorem xR {t:aB} {n:Nat} {x:aC} {Q:Unit->aV->Prop} (P:IsPair s.heap t u v) (k:∀ h',h'.get? t=some { cls:=.type "tuple",data:=.seq ((#[u,v]:Array aC).setIfInBounds n x) }->Heap.SameBut t s.heap h'->Q () { s with heap:=h' }) : wpAny (model prog w) A (updateSeq t (·.setIfInBounds n x)) Q E s:=wpAny_updateSeq_pair P k
theorem QS {x y:aC} {Q:Option aC->aV->Prop} (D:jG z ti to a b l m) (Z:o8 t1 t2 z ti to a b l m xs ys .none i j s.heap) (hx:xs[i]?=some x) (hy:ys[j]?=some y) (k:∀ h',o8 t1 t2 z ti to a b l m xs ys (rawInt s.heap.objs.size) (i + 1) (j + 1) h'->IsPair h' s.heap.objs.size x y->Fo z to a b s.heap h'->Q (some (.ref s.heap.objs.size)) { s with heap:=h' }):wpAny (model prog w) A (pyNext (.ref z)) Q E s:=by
 obtain ⟨W9,az,bz,ato,bto,ba⟩:=D.ne;obtain ⟨lz,lto,la,lb⟩:=four D.ls;obtain ⟨mz,mto,ma,mb⟩:=four D.ms;obtain ⟨cell,its,⟨u,v,kept⟩,one,two⟩:=id Z;have ty:s.TypeIs (.ref z) "zip":=⟨_,cell,rfl⟩;refine aj (wpAny_attempt (wpAny_callSpecial?_slot (name:=Str.ofString "__next__") ty PySem.F.slot_zip_next (wpAny_call_entry PySem.F.slot_zip_next ty PySem.F.entry_zip_next ?_ (PySem.F.args_zip_next_1 _))));refine aj (m:=field (.ref z) 2) (wpAny_field cell rfl (x:=.bool false) rfl (aj (m:=field (.ref z) 3) (wpAny_field cell rfl (x:=.ref ti) rfl (aj (wpAny_seqItems its rfl ?_)))));refine aj (m:=Builtin.SmallTypes.ownedTupleIsFree (.ref z)) (aj (m:=field (.ref z) 0) (wpAny_field cell rfl (x:=.none) rfl (ao ?_)));simp only [if_true];refine aj (wpAny_rule (aj (wpAny_field cell rfl (x:=.ref to) rfl (aj (wpAny_setField_rec cell (by simp) fun h1 Lb s1=>aj ?_)))));simp only [List.forIn_nil,List.forIn_cons,List.zipIdx_nil,List.zipIdx_cons];refine aj (aj (wpAny_onRaise (aj (m:=Builtin.SmallTypes.nextOf (.ref a)) (qQ la hx { s with heap:=h1 } _ _ (gA _ _ one fun c hc o q=>s1.extBut c o ?_ q) fun h2 anF s2=>ao ?_))))
 ·rcases aQ.mp hc with e | e
  ·exact e ▸ az
  ·exact aL.mp e ▸ lz
 have kept2:IsPair h2 to u v:=s2.extBut _ _ (Ne.symm ato) (s1.extBut _ _ W9 kept);refine aj (wpAny_seqItems kept2 rfl (aj (xR (s:={ s with heap:=h2 }) kept2 fun h3 Ld s3=>aj (wpAny_letGo (ao ?_)))));have Ld:IsPair h3 to x v:=Ld;have agm:Over h3 b m ys j t2:=gA _ _ two fun c hc o q=>by
  have cz:c≠z/\c≠a/\c≠to:=by
   rcases aQ.mp hc with e | e
   ·exact e ▸ ⟨bz,ba,bto⟩
   ·exact aL.mp e ▸ ⟨mz,ma,mto⟩
  exact s3.extBut c o cz.2.2 (s2.extBut c o cz.2.1 (s1.extBut c o cz.1 q))
 refine aj (aj (wpAny_onRaise (aj (m:=Builtin.SmallTypes.nextOf (.ref b)) (qQ mb hy { s with heap:=h3 } _ _ agm fun h4 axX s4=>ao ?_))));have Zy:IsPair h4 to x v:=s4.extBut _ _ (Ne.symm bto) Ld;refine aj (wpAny_seqItems Zy rfl (aj (xR (s:={ s with heap:=h4 }) Zy fun h5 Le s5=>aj (wpAny_letGo (ao (ao ?_))))));have Le:IsPair h5 to x y:=Le;refine aj (wpAny_seqItems Le rfl (aj (wpAny_newTuple (aj ?_))));have QT:h5.objs.size=s.heap.objs.size:=by rw [s5.1,s4.1,s3.1,s2.1,s1.1]
 have Zz:IsZip h5 z ti to .ellipsis:=s5.extBut _ _ (Ne.symm W9) (s4.extBut _ _ (Ne.symm bz) (s3.extBut _ _ (Ne.symm W9) (s2.extBut _ _ (Ne.symm az) Lb)));have ZC:Fo z to a b s.heap h5:=fun c o out q=>by
  obtain ⟨c1,c2,c3,c4⟩:=four out;exact s5.extBut c o c2 (s4.extBut c o c4 (s3.extBut c o c2 (s2.extBut c o c3 (s1.extBut c o c1 q))))
 have axY:Over h5 a l xs (i + 1) t1:=gA _ _ anF fun c hc o q=>by
  have cz:c≠to/\c≠b:=by
   rcases aQ.mp hc with e | e
   ·exact e ▸ ⟨ato,Ne.symm ba⟩
   ·exact aL.mp e ▸ ⟨lto,lb⟩
  exact s5.extBut c o cz.1 (s4.extBut c o cz.2 (s3.extBut c o cz.1 q))
 have axZ:Over h5 b m ys (j + 1) t2:=gA _ _ axX fun c hc o q=>by
  refine s5.extBut c o ?_ q;rcases aQ.mp hc with e | e
  ·exact e ▸ bto
  ·exact aL.mp e ▸ mto
 let pr:Obj:={ cls:=.type "tuple",data:=.seq #[x,y] }
 have zlt:=Heap.lt_size Zz;refine (?_:wpAny _ _ (Builtin.SmallTypes.ownedTupleHandOut (.ref z) (.ref h5.objs.size)) _ _ _);refine aj (wpAny_setField_rec (aq pr Zz) (by simp) fun h6 anG s6=>wpAny_setField_rec (s:={ s with heap:=h6 }) anG (by simp) fun h7 anH s7=>?_);have up:∀ c o,c≠z->h5.get? c=some o->h7.get? c=some o:=fun c o nz q=>s7.extBut c o nz (s6.extBut c o nz (aq pr q))
 have fresh:h7.get? h5.objs.size=some pr:=s7.extBut _ _ (Nat.ne_of_gt zlt) (s6.extBut _ _ (Nat.ne_of_gt zlt) (aN h5 rfl));refine ao ⟨_,rfl,ao ?_⟩;rw [QT] at fresh
 show Q (some (.ref h5.objs.size)) _
 rw [QT];refine k h7 (Z.moved D (fun c o out q=>up c o (four out).1 (ZC c o out q)) ?_ ⟨x,y,up _ _ W9 Le⟩ (gA _ _ axY fun c hc o q=>up c o ?_ q) (gA _ _ axZ fun c hc o q=>up c o ?_ q)) fresh fun c o out q=>up c o (four out).1 (ZC c o out q)
 ·have:=anH;rw [QT] at this;exact this
 ·rcases aQ.mp hc with e | e
  ·exact e ▸ az
  ·exact aL.mp e ▸ lz
 ·rcases aQ.mp hc with e | e
  ·exact e ▸ bz
  ·exact aL.mp e ▸ mz
theorem QV {Q:Option aC->aV->Prop} (calm:A.handled=none) (D:jG z ti to a b l m) (Z:o8 t1 t2 z ti to a b l m xs ys .none i j s.heap) (hend:xs[i]?=none\/(∃ x,xs[i]?=some x)/\ys[j]?=none) (k:∀ h',Fo z to a b s.heap h'->Q none { s with heap:=h' }):wpAny (model prog w) A (pyNext (.ref z)) Q E s:=by
 obtain ⟨W9,az,bz,ato,bto,ba⟩:=D.ne;obtain ⟨lz,lto,la,lb⟩:=four D.ls;obtain ⟨mz,mto,ma,mb⟩:=four D.ms;obtain ⟨cell,its,⟨u,v,kept⟩,one,two⟩:=id Z;have ty:s.TypeIs (.ref z) "zip":=⟨_,cell,rfl⟩;have ZD:A.in1.handled=none:=calm;have over:∀ (h':Heap) (e:aB),Fo z to a b s.heap h'->IK h' e ->
   wpAny (model prog w) A (do if <- isInstance (.ref e) (.type "StopIteration") then pure none else throw (.ref e)) Q E { s with heap:=h' }:=fun h' e past st=>by
  obtain ⟨o,q,c⟩:=st;exact aj (wpAny_isInstance (T:="StopIteration") (b:=true) ⟨o,q,c⟩ isSubtype_stop (ao (k h' past)))
 refine aj (wpAny_attempt (wpAny_callSpecial?_slot (name:=Str.ofString "__next__") ty PySem.F.slot_zip_next (wpAny_call_entry PySem.F.slot_zip_next ty PySem.F.entry_zip_next ?_ (PySem.F.args_zip_next_1 _))));refine aj (m:=field (.ref z) 2) (wpAny_field cell rfl (x:=.bool false) rfl (aj (m:=field (.ref z) 3) (wpAny_field cell rfl (x:=.ref ti) rfl (aj (wpAny_seqItems its rfl ?_)))));refine aj (m:=Builtin.SmallTypes.ownedTupleIsFree (.ref z)) (aj (m:=field (.ref z) 0) (wpAny_field cell rfl (x:=.none) rfl (ao ?_)));simp only [if_true];refine aj (wpAny_rule (aj (wpAny_field cell rfl (x:=.ref to) rfl (aj (wpAny_setField_rec cell (by simp) fun h1 Lb s1=>aj ?_)))));simp only [List.forIn_nil,List.forIn_cons,List.zipIdx_nil,List.zipIdx_cons];have anI:Over h1 a l xs i t1:=gA _ _ one fun c hc o q=>s1.extBut c o (by
  rcases aQ.mp hc with e | e
  ·exact e ▸ az
  ·exact aL.mp e ▸ lz) q
 rcases hend with anJ | ⟨⟨x,hx⟩,anK⟩
 ·refine aj (aj (wpAny_onRaise (aj (m:=Builtin.SmallTypes.nextOf (.ref a)) (Am anJ ZD { s with heap:=h1 } _ _ anI fun h2 e s2 st=>?_))));have ZF:IsZip h2 z ti to .ellipsis:=s2 _ _ (Ne.symm az) Lb;obtain ⟨oe,qe,ce⟩:=st;have ez:e≠z:=fun y=>by rw [y,ZF] at qe; cases qe; simp at ce
  refine wpAny_setField_rec (s:={ s with heap:=h2 }) ZF (by simp) fun h3 _ s3=>over h3 e (fun c o out q=>?_) ⟨oe,s3.extBut _ _ ez qe,ce⟩
  exact s3.extBut c o (four out).1 (s2 c o (four out).2.2.1 (s1.extBut c o (four out).1 q))
 ·refine aj (aj (wpAny_onRaise (aj (m:=Builtin.SmallTypes.nextOf (.ref a)) (qQ la hx { s with heap:=h1 } _ _ anI fun h2 anF s2=>ao ?_))));have kept2:IsPair h2 to u v:=s2.extBut _ _ (Ne.symm ato) (s1.extBut _ _ W9 kept);refine aj (wpAny_seqItems kept2 rfl (aj (xR (s:={ s with heap:=h2 }) kept2 fun h3 Ld s3=>aj (wpAny_letGo (ao ?_)))));have agm:Over h3 b m ys j t2:=gA _ _ two fun c hc o q=>by
   have cz:c≠z/\c≠a/\c≠to:=by
    rcases aQ.mp hc with e | e
    ·exact e ▸ ⟨bz,ba,bto⟩
    ·exact aL.mp e ▸ ⟨mz,ma,mto⟩
   exact s3.extBut c o cz.2.2 (s2.extBut c o cz.2.1 (s1.extBut c o cz.1 q))
  refine aj (aj (wpAny_onRaise (aj (m:=Builtin.SmallTypes.nextOf (.ref b)) (Am anK ZD { s with heap:=h3 } _ _ agm fun h4 e s4 st=>?_))));have o9:IsZip h4 z ti to .ellipsis:=s4 _ _ (Ne.symm bz) (s3.extBut _ _ (Ne.symm W9) (s2.extBut _ _ (Ne.symm az) Lb));obtain ⟨oe,qe,ce⟩:=st;have ez:e≠z:=fun y=>by rw [y,o9] at qe; cases qe; simp at ce
  refine wpAny_setField_rec (s:={ s with heap:=h4 }) o9 (by simp) fun h5 _ s5=>over h5 e (fun c o out q=>?_) ⟨oe,s5.extBut _ _ ez qe,ce⟩
  obtain ⟨c1,c2,c3,c4⟩:=four out;exact s5.extBut c o c1 (s4 c o c4 (s3.extBut c o c2 (s2.extBut c o c3 (s1.extBut c o c1 q))))
theorem NP {elts:List Expr} {k:Nat} {pos:Pos} {T:aB} {Q:Unit->aV->Prop} (D:jG z ti to a b l m) (Z:o8 t1 t2 z ti to a b l m xs ys (rawInt T) i j s.heap) (q:∀ h',o8 t1 t2 z ti to a b l m xs ys .none i j h'->Heap.SameBut z s.heap h'->Q () { s with heap:=h' }):wpAny (model prog w) A (letOwnedTupleGo (.Tuple elts k pos) (.ref z) (.ref T)) Q E s:=by
 obtain ⟨W9,az,bz,ato,bto,ba⟩:=D.ne;obtain ⟨u,v,kept⟩:=Z.kept;refine wpAny_letOwnedTupleGo_zip Z.cell fun h' cell' sb=>q h' (Z.moved D (fun c o out y=>sb.extBut c o (four out).1 y) cell' ⟨u,v,sb.extBut _ _ W9 kept⟩ (gA _ _ Z.one fun c hc o y=>sb.extBut c o ?_ y) (gA _ _ Z.two fun c hc o y=>sb.extBut c o ?_ y)) sb
 ·rcases aQ.mp hc with e | e
  ·exact e ▸ az
  ·exact aL.mp e ▸ (four D.ls).1
 ·rcases aQ.mp hc with e | e
  ·exact e ▸ bz
  ·exact aL.mp e ▸ (four D.ms).1
def NQ (l:aB):Obj:={ cls:=.type "tuple_iterator",data:=.fields #[.ref l,.int 0 0] }
def zip2 (m:aB):Obj:={ cls:=.type "list_iterator",data:=.fields #[.ref m,.int 0 0] }
def pairOf (u v:aC):Obj:={ cls:=.type "tuple",data:=.seq #[u,v] }
def anL (ti to:aB):Obj:={ cls:=.type "zip",data:=.fields #[.none,.bool false,.bool false,.ref ti,.ref to] }
def nY (h:Heap) (l m:aB):Heap := ((((h.push (NQ l)).push (zip2 m)).push (pairOf (.ref h.objs.size) (.ref (h.objs.size + 1)))).push (pairOf .none .none)).push (anL (h.objs.size + 2) (h.objs.size + 3))
theorem zT (l m:aB) (xs ys:Array aC):Meets (Builtin.«zip.__new__» ⟨[.type "zip",.ref l,.ref m],[]⟩) (fun _ R s=>s.heap.IsTuple l xs/\s.heap.IsList m ys/\R (.ok (.ret (.ref (s.heap.objs.size + 4)))) { s with heap:=nY s.heap l m }) := .of_wp fun prog w A R s h=>by
 obtain ⟨hp,g,d,tk,os⟩:=s; obtain ⟨q1,q2,r⟩:=h; have sub:=sub_zip;have q1':Heap.IsTuple (Shared.heap ⟨hp,g,d,tk,os⟩) l xs:=q1;have q2':Heap.IsList (Shared.heap ⟨hp.push { cls:=.type "tuple_iterator",data:=.fields #[.ref l,.int 0 0] },g,d,tk,os⟩) m ys:=Heap.IsList.push q2 _
 wp_walk using wpAny_pyIter_tuple q1',wpAny_pyIter_list q2'
 refine ⟨_,rfl,?_⟩;simp only [Heap.size_push];exact r
theorem QW {Q:aC->aV->Prop} (q1:s.heap.IsTuple l xs) (q2:s.heap.IsList m ys) (k:∀ h',jG (s.heap.objs.size + 4) (s.heap.objs.size + 2) (s.heap.objs.size + 3) s.heap.objs.size (s.heap.objs.size + 1) l m -> o8 true false (s.heap.objs.size + 4) (s.heap.objs.size + 2) (s.heap.objs.size + 3) s.heap.objs.size (s.heap.objs.size + 1) l m xs ys .none 0 0 h'->(∀ c o,s.heap.get? c=some o->h'.get? c=some o)->Q (.ref (s.heap.objs.size + 4)) { s with heap:=h' }) : wpAny (model prog w) A (call (.type "zip") [.ref l,.ref m]) Q E s:=by
 have Vt:l < s.heap.objs.size:=by obtain ⟨o,q,_⟩:=q1; exact Heap.lt_size q
 have Pr:m < s.heap.objs.size:=by obtain ⟨o,q,_⟩:=q2; exact Heap.lt_size q
 have old:∀ c o,s.heap.get? c=some o->(nY s.heap l m).get? c=some o:=fun c o q=>aq _ (aq _ (aq _ (aq _ (aq _ q))))
 have z1:(s.heap.push (NQ l)).objs.size=s.heap.objs.size + 1:=Heap.size_push _ _;have z2:((s.heap.push (NQ l)).push (zip2 m)).objs.size=s.heap.objs.size + 2:=by rw [Heap.size_push,z1]
 have z3:(((s.heap.push (NQ l)).push (zip2 m)).push (pairOf (.ref s.heap.objs.size) (.ref (s.heap.objs.size + 1)))).objs.size=s.heap.objs.size + 3:=by rw [Heap.size_push,z2]
 have z4:((((s.heap.push (NQ l)).push (zip2 m)).push (pairOf (.ref s.heap.objs.size) (.ref (s.heap.objs.size + 1)))).push (pairOf .none .none)).objs.size=s.heap.objs.size + 4:=by rw [Heap.size_push,z3]
 have g1:(nY s.heap l m).get? s.heap.objs.size=some (NQ l):=aq _ (aq _ (aq _ (aq _ (aN _ rfl))));have g2:(nY s.heap l m).get? (s.heap.objs.size + 1)=some (zip2 m):=by rw [<- z1]; exact aq _ (aq _ (aq _ (aN _ rfl)))
 have g3:(nY s.heap l m).get? (s.heap.objs.size + 2)=some (pairOf (.ref s.heap.objs.size) (.ref (s.heap.objs.size + 1))):=by rw [<- z2]; exact aq _ (aq _ (aN _ rfl))
 have g4:(nY s.heap l m).get? (s.heap.objs.size + 3)=some (pairOf .none .none):=by rw [<- z3]; exact aq _ (aN _ rfl)
 have g5:(nY s.heap l m).get? (s.heap.objs.size + 4)=some (anL (s.heap.objs.size + 2) (s.heap.objs.size + 3)):=by rw [<- z4]; exact aN _ rfl
 refine callType_new PySem.F.called_zip (by decide) (PySem.F.typeCall_zip_2 _ _) (PySem.F.newCall_zip_2 _ _) (fun obj=>PySem.F.args_object_init_3 obj _ _) PySem.F.entry_zip_new (zT l m xs ys) ⟨q1,q2,⟨_,g5,rfl⟩,k _ ?_ ?_ old⟩
 ·have n1:∀ i j:Nat,i≠j->s.heap.objs.size + i≠s.heap.objs.size + j:=fun i j h e=>h (Nat.add_left_cancel e)
  have out:∀ c,c < s.heap.objs.size->∀ i:Nat,c≠s.heap.objs.size + i:=fun c h i=>Nat.ne_of_lt (aZ h (Nat.le_add_right _ _))
  refine ⟨?_,?_,?_,?_⟩
  ·simp only [nodup_cons,aQ,not_mem_nil,or_false,not_or,not_false_eq_true,List.nodup_nil,and_true];exact ⟨⟨n1 4 3 (by decide),n1 4 0 (by decide),n1 4 1 (by decide)⟩,⟨n1 3 0 (by decide),n1 3 1 (by decide)⟩,n1 0 1 (by decide)⟩
  ·simp only [aQ,not_mem_nil,or_false,not_or];exact ⟨n1 2 4 (by decide),n1 2 3 (by decide),n1 2 0 (by decide),n1 2 1 (by decide)⟩
  ·simp only [aQ,not_mem_nil,or_false,not_or];exact ⟨out l Vt 4,out l Vt 3,out l Vt 0,out l Vt 1⟩
  ·simp only [aQ,not_mem_nil,or_false,not_or];exact ⟨out m Pr 4,out m Pr 3,out m Pr 0,out m Pr 1⟩
 ·obtain ⟨o1,y1,r1⟩:=q1;obtain ⟨o2,y2,r2⟩:=q2;exact ⟨g5,g3,⟨_,_,g4⟩,.tup ⟨_,g1,rfl,rfl⟩ ⟨o1,old _ _ y1,r1⟩,.lst ⟨_,g2,rfl,rfl⟩ ⟨o2,old _ _ y2,r2⟩⟩
end
section
variable {X:Cx} {pins:List (aB × Obj)} {σ:St} {H:Hp} {s:aV}
theorem Inv.drawn {h':Heap} {t':Nat} {T:aB} {o:HO} {ch:List aB} (I:Inv X pins σ H s) (hch:∀ b ∈ ch,oR X pins H b) (keep:∀ b ob,b ∉ ch->s.heap.get? b=some ob->h'.get? b=some ob) (fr:s.heap.get? T=none) (new:fV X.prog X.w (upd H T o) h' T o):Inv X pins σ (upd H T o) { s with heap:=h',toks:=t' }:=by
 have hT:H T=none:=I.hok.none_of fr;have nT:∀ b u,H b=some u->b≠T:=fun b u e z=>by rw [z,hT] at e; cases e
 have PJ:∀ b u,H b=some u->b ∉ ch:=fun b u e z=>by rw [(hch b z).1] at e; cases e
 refine I.call (ch:=ch) (g':=s.gens) (d':=s.drawn) ⟨fun b ob e _ _ hx=>keep b ob hx e,fun b ob e _ _ hx=>⟨ob.slots,keep b ob hx e⟩,fun b ob e n hx=>?_,fun b ob e hx=>⟨ob,keep b ob hx e⟩,fun b xs e=>?_,fun b ob xs e=>?_,fun b ps e=>⟨#[],?_⟩⟩ (fun c u e=>?_) I.bare fun b hb=>⟨(hch b hb).2.2.2.1,(hch b hb).2.1,(hch b hb).2.2.2.2.1,(hch b hb).2.2.2.2.2⟩
 ·rw [bw (fun z=>by rw [z,fr] at e; cases e)]; exact n
 ·rw [bw (nT _ _ e)]; exact e
 ·rw [bw (nT _ _ e)]; exact e
 ·rw [bw (nT _ _ e),e]; simp
 ·by_cases z:c=T
  ·subst z; rw [aG] at e; cases e; exact new
  ·rw [bw z] at e;refine (I.hok c u e).stay (fun d v hd q=>keep d v ?_ q) (fun d q=>by rw [bw (nT _ _ q)]; exact q) fun d xs q=>by rw [bw (nT _ _ q)]; exact q
   rcases hd with y | y
   ·rw [y]; exact PJ c u e
   ·exact PJ d _ y
theorem Inv.turns {h':Heap} {t':Nat} {ch:List aB} (I:Inv X pins σ H s) (hch:∀ b ∈ ch,oR X pins H b) (keep:∀ b ob,b ∉ ch->s.heap.get? b=some ob->h'.get? b=some ob):Inv X pins σ H { s with heap:=h',toks:=t' }:=by
 have PJ:∀ b u,H b=some u->b ∉ ch:=fun b u e z=>by rw [(hch b z).1] at e; cases e
 refine I.call (ch:=ch) (g':=s.gens) (d':=s.drawn) ⟨fun b ob e _ _ hx=>keep b ob hx e,fun b ob e _ _ hx=>⟨ob.slots,keep b ob hx e⟩,fun b ob e n hx=>n,fun b ob e hx=>⟨ob,keep b ob hx e⟩,fun b xs e=>e,fun b ob xs e=>e,fun b ps e=>⟨#[],by rw [e]; simp⟩⟩ (fun c u e=>?_) I.bare fun b hb=>⟨(hch b hb).2.2.2.1,(hch b hb).2.1,(hch b hb).2.2.2.2.1,(hch b hb).2.2.2.2.2⟩
 refine (I.hok c u e).stay (fun d v hd q=>keep d v ?_ q) (fun d q=>q) fun d xs q=>q
 rcases hd with y | y
 ·rw [y]; exact PJ c u e
 ·exact PJ d _ y
end
theorem Lf:2<=sizeLine:=by decide
noncomputable def Itz (K:Fg) (l m:aB):It := ⟨fun i H=>∃ xs ys x y,d8 K H l xs/\cW K H m ys/\xs[i]?=some x/\ys[i]?=some y,fun i H v H'=>∃ T,H T=none/\v=.ref T/\∀ xs ys x y,d8 K H l xs->cW K H m ys->xs[i]?=some x->ys[i]?=some y->H'=upd H T (.tup [x,y]),fun i H=>∃ xs ys,d8 K H l xs/\cW K H m ys/\(xs.length<=i\/ys.length<=i)⟩
structure agn (z ti to a b l m:aB) (i:Nat) (h:Heap):Prop where
 cell:IsZip h z ti to .none
 its:IsPair h ti (.ref a) (.ref b)
 kept:∃ u v,IsPair h to u v
 one:h.IsTupleIter a l i
 two:h.IsListIter b m i
theorem QX {P:bZ} {w:World} {K:Fg} {elts:List Expr} {k:Nat} {pos:Pos} {z ti to a b l m:aB} (D:jG z ti to a b l m):Turn P w K (.Tuple elts k pos) (Itz K l m) [z,ti,to,a,b] z (agn z ti to a b l m) where
 mem:=by simp
 obj:=fun i h R c hc=>by
  obtain ⟨u,v,kept⟩:=R.kept;obtain ⟨o1,q1,_,d1⟩:=R.one;obtain ⟨o2,q2,_,d2⟩:=R.two;simp only [aQ,not_mem_nil,or_false] at hc;rcases hc with rfl | rfl | rfl | rfl | rfl
  ·exact ⟨_,R.cell,fun v q=>by cases q⟩
  ·exact ⟨_,R.its,fun v q=>by cases q⟩
  ·exact ⟨_,kept,fun v q=>by cases q⟩
  ·exact ⟨o1,q1,fun v q=>by rw [d1] at q; cases q⟩
  ·exact ⟨o2,q2,fun v q=>by rw [d2] at q; cases q⟩
 keep:=fun i h h' R kp=>by
  obtain ⟨u,v,kept⟩:=R.kept;obtain ⟨o1,q1,r1⟩:=R.one;obtain ⟨o2,q2,r2⟩:=R.two;exact ⟨kp z (by simp) _ R.cell,kp ti (by simp) _ R.its,⟨u,v,kp to (by simp) _ kept⟩,⟨o1,kp a (by simp) _ q1,r1⟩,⟨o2,kp b (by simp) _ q2,r2⟩⟩
 item:=by
  intro X hP hw hK hc i pins s σ H E I hf R go;subst hP hw hK;obtain ⟨xs,ys,x,y,sx,sy,hx,hy⟩:=go;obtain ⟨Fp,v1,p1,_⟩:=I.tuple sx;obtain ⟨its2,v2,p2,_⟩:=I.list sy;obtain ⟨ux,gx,rx⟩:=v1.get hx;obtain ⟨uy,gy,ry⟩:=v2.get hy;have Z:o8 true false z ti to a b l m Fp.toArray its2.toArray .none i i s.heap:=⟨R.cell,R.its,R.kept,.tup R.one p1,.lst R.two p2.isList⟩;have fr:s.heap.get? s.heap.objs.size=none:=Heap.get?_none_of_le (aM _);have there:∀ c ∈ [z,ti,to,a,b],∃ o,s.heap.get? c=some o:=fun c hc=>by
   obtain ⟨u,v,kept⟩:=R.kept;obtain ⟨o1,q1,_⟩:=R.one;obtain ⟨o2,q2,_⟩:=R.two;simp only [aQ,not_mem_nil,or_false] at hc;rcases hc with e | e | e | e | e <;> rw [e]
   ·exact ⟨_,R.cell⟩
   ·exact ⟨_,R.its⟩
   ·exact ⟨_,kept⟩
   ·exact ⟨_,q1⟩
   ·exact ⟨_,q2⟩
  have h4:∀ c ∈ [z,to,a,b],oR X pins H c:=fun c hc=>hf c (by simp at hc ⊢; rcases hc with r | r | r | r <;> simp [r])
  refine QS D Z (x:=ux) (y:=uy) (by simpa using gx) (by simpa using gy) fun h1 Z1 pr past=>⟨.ref s.heap.objs.size,rfl,NP D (s:={ s with heap:=h1 }) Z1 fun h2 Z2 sb=>?_⟩
  have zlt:s.heap.objs.size≠z:=Nat.ne_of_gt (Heap.lt_size R.cell);have pr2:IsPair h2 s.heap.objs.size ux uy:=sb.extBut _ _ zlt pr;refine ⟨.ref s.heap.objs.size,upd H s.heap.objs.size (.tup [x,y]),Inv.drawn (h':=h2) (t':=s.toks) (ch:=[z,to,a,b]) (s:=s) I h4 (fun c o out q=>sb.extBut c o (four out).1 (past c o out q)) fr ⟨Lf,[ux,uy],.cons rx (.cons ry .nil),⟨_,pr2,rfl,_,rfl⟩⟩,rfl,⟨_,I.hok.none_of fr,rfl,fun xs' ys' x' y' sx' sy' hx' hy'=>?_⟩,?_,fun c hc=>?_⟩
  ·have e1:=I.Nf sx' sx;have e2:=I.rT sy' sy;subst e1; subst e2;rw [hx] at hx'; rw [hy] at hy';cases hx'; cases hy'; rfl
  ·refine ⟨Z2.cell,Z2.its,Z2.kept,?_,?_⟩
   ·cases Z2.one with
    | tup q _=>exact q
   ·cases Z2.two with
    | lst q _=>exact q
  ·obtain ⟨o,q⟩:=there c hc;rw [bw (fun e=>by rw [e,fr] at q; cases q)];exact (hf c hc).1
 done:=by
  intro X hP hw hK hc i pins s σ H E I hf R stop;subst hP hw hK;obtain ⟨xs,ys,sx,sy,le⟩:=stop;obtain ⟨Fp,v1,p1,_⟩:=I.tuple sx;obtain ⟨its2,v2,p2,_⟩:=I.list sy;have Z:o8 true false z ti to a b l m Fp.toArray its2.toArray .none i i s.heap:=⟨R.cell,R.its,R.kept,.tup R.one p1,.lst R.two p2.isList⟩;have h4:∀ c ∈ [z,to,a,b],oR X pins H c:=fun c hc=>hf c (by simp at hc ⊢; rcases hc with r | r | r | r <;> simp [r])
  have l1:=v1.length;have l2:=v2.length;have hend:Fp.toArray[i]?=none\/(∃ x,Fp.toArray[i]?=some x)/\its2.toArray[i]?=none:=by
   by_cases q:Fp.length<=i
   ·exact .inl (by simp [q])
   ·exact .inr ⟨⟨Fp[i]'(by omega),by simp⟩,by simp; omega⟩
  exact QV (I.ok.hd hc) D Z hend fun h' past=>⟨rfl,I.turns (t':=s.toks) h4 past⟩
 self:=fun _ _ _ _ _ R q=>wpAny_pyIter_zip R.cell q
section
variable {X:Cx}
def ax2 (K:Fg) (ta:TA):TI:=fun σ H R=>ta σ H fun vs H1=>∃ l m xs ys,vs=[.ref l,.ref m]/\d8 K H1 l xs/\cW K H1 m ys/\R (Itz K l m) H1
theorem IV {e1 e2:Expr} {elts:List Expr} {k:Nat} {tp p pos:Pos} {ta:TA} (hg:Gl X "zip") (hm:X.mg "zip"=none) (ha:PA X [e1,e2] ta) (st1:autoParam (starEach [e1,e2] X.env=[(false,eval e1 X.env),(false,eval e2 X.env)]) zau0) (st2:autoParam (starEach [e2] X.env=[(false,eval e2 X.env)]) zau0) : PI X (.Tuple elts k tp) (.Call (.Name "zip" p) [e1,e2] [] pos) (ax2 X.K ta):=by
 intro pins s σ H R I h;refine Call_ (lV I hg hm boot_zip (callWith_type1 (eY (ha pos pins s σ H _ I h) fun us a ⟨vs,H1,I1,r,q⟩=>?_) (by rw [st1,st2]) (by rw [st2]; rfl)));obtain ⟨l,m,xs,ys,e,sx,sy,q⟩:=q;subst e;obtain ⟨u1,u2,e,r1,r2⟩:=Vals.two r;subst e;cases r1; cases r2;obtain ⟨Fp,v1,p1,_⟩:=I1.tuple sx;obtain ⟨its2,v2,p2,_⟩:=I1.list sy;refine QW p1 p2.isList fun h' D Z old=>?_
 have I2:Inv X pins σ H1 { a with heap:=h' }:=I1.kept (t':=a.toks) old;refine wpAny_pyIter_zip (s:={ a with heap:=h' }) Z.cell ⟨_,[a.heap.objs.size + 4,a.heap.objs.size + 2,a.heap.objs.size + 3,a.heap.objs.size,a.heap.objs.size + 1],_,_,H1,rfl,I2,QX D,⟨Z.cell,Z.its,Z.kept,?_,?_⟩,fun b hb=>?_,q⟩
 ·cases Z.one with
  | tup q _=>exact q
 ·cases Z.two with
  | lst q _=>exact q
 ·have le:a.heap.objs.size<=b:=by
   have hb5:b=a.heap.objs.size + 4\/b=a.heap.objs.size + 2\/b=a.heap.objs.size + 3\/b=a.heap.objs.size\/b=a.heap.objs.size + 1:=by simpa using hb
   rcases hb5 with e | e | e | e | e <;> rw [e] <;> first | exact Nat.le_add_right _ _ | exact aM _
  have f:=I1.Cq (H':=H1) le (I1.hok.fresh le);exact f
theorem Lg {K:Fg} {l m:aB} {xs ys:List V} {g:TG} {tb:TS} {D:Ends} {σ:St} {H:Hp} (Pv:Nat->St->Hp->Prop) (len:xs.length=ys.length) (h0:Pv 0 σ H) (hl:∀ i σ H,i<=xs.length->Pv i σ H->d8 K H l xs/\cW K H m ys) (hs:∀ i x y T σ H,xs[i]?=some x->ys[i]?=some y->Pv i σ H->H T=none->g (.ref T) σ (upd H T (.tup [x,y])) fun σ2 H2=>tb { D with nx:=Pv (i + 1),ct:=Pv (i + 1),bk:=D.nx } σ2 H2) (hd:∀ σ H,Pv xs.length σ H->D.nx σ H) : ∃ W:Nat->Nat->St->Hp->Prop,(∃ k,W 0 k σ H)/\∀ i k σ H,W i k σ H -> ((Itz K l m).stop i H/\D.nx σ H)\/((Itz K l m).go i H/\∃ N:St->Hp->Prop,(∀ σ' H',N σ' H'->∃ k',k' < k/\W (i + 1) k' σ' H')/\∀ x H',(Itz K l m).Qa i H x H'->g x σ H' fun σ2 H2=>tb { D with nx:=N,ct:=N,bk:=D.nx } σ2 H2):=by
 refine ⟨fun i k σ H=>k=xs.length - i/\i<=xs.length/\Pv i σ H,⟨xs.length,by simp,cU _,h0⟩,?_⟩;rintro i k σ H ⟨rfl,hi,p⟩;obtain ⟨q1,q2⟩:=hl i σ H hi p
 by_cases lt:i < xs.length
 ·have Pr:i < ys.length:=len ▸ lt;refine .inr ⟨⟨xs,ys,xs[i],ys[i],q1,q2,by simp [lt],by simp [Pr]⟩,Pv (i + 1),fun σ' H' p'=>⟨xs.length - (i + 1),by omega,rfl,lt,p'⟩,fun x H' y=>?_⟩;obtain ⟨T,hT,rfl,y⟩:=y;rw [y xs ys xs[i] ys[i] q1 q2 (by simp [lt]) (by simp [Pr])];exact hs i xs[i] ys[i] T σ H (by simp [lt]) (by simp [Pr]) p hT
 ·have e:i=xs.length:=by omega
  subst e;exact .inl ⟨⟨xs,ys,q1,q2,.inl (aM _)⟩,hd σ H p⟩
theorem Fq {bs:List Bool} {us:List aC} (r:Vals (bs.map V.bl) us) {i:Nat} {v:aC} (h:us[i]?=some v):∃ b,bs[i]?=some b/\v=.bool b:=by
 cases q:bs[i]? with
 | none =>
  have z:=r.none_of (i:=i) (by rw [aF,q]; rfl);rw [h] at z; cases z
 | some b =>
  obtain ⟨u,hu,ru⟩:=r.get (i:=i) (x:=.bl b) (by rw [aF,q]; rfl);rw [h] at hu; cases hu;exact ⟨b,rfl,ru⟩
theorem all_range:∀ bs:List Bool,((List.range bs.length).all fun i=>(bs[i]?).getD true)=bs.all id
 | []=>rfl
 | b::bs=>by
  have ih:=all_range bs;simp only [length_cons,List.range_succ_eq_map,all_cons,all_map,List.getElem?_cons_zero,Option.getD_some];exact congrArg (b && ·) ih
theorem Ao (hc:X.calm=true):iy X (.builtin "all") (fun xs H Q=>∃ (p:aB) (bs:List Bool),xs=[.ref p]/\cW X.K H p (bs.map V.bl)/\Q (.bl (bs.all id)) H):=by
 intro pins s σ H xs us Q I r h;obtain ⟨p,bs,rfl,sq,q⟩:=h;obtain ⟨u,rfl,rx⟩:=Vals.one r;cases rx;obtain ⟨its,rv,pl,_⟩:=I.list sq;have lt:p < s.heap.objs.size:=by obtain ⟨o,e,_⟩:=pl.isList; exact Heap.lt_size e
 have len:its.length=bs.length:=by have:=rv.length; simpa using this.symm
 refine call_all_walk (wpAny_pyIter_list pl.isList ⟨_,[s.heap.objs.size,p],[s.heap.objs.size],its.toArray.size,_,_,fun i=>(bs[i]?).getD true,rfl,Walks.list (A:=X.A.in1) (I.ok.hd hc) _ p (Nat.ne_of_lt lt) its.toArray,⟨⟨_,aN _ rfl,rfl,rfl⟩,pl.isList.push _⟩,fun i v s' Q' E' hv hq=>?_,fun h' tk keep=>?_⟩)
 ·obtain ⟨b,hb,rfl⟩:=Fq rv (i:=i) (v:=v) (by simpa using hv);have hq:Q' ((bs[i]?).getD true) s':=hq;rw [hb] at hq;exact wpAny_truthy_bool hq
 ·rw [size_toArray,len,all_range];refine ⟨.bl _,H,I.kept (h':=h') (t':=tk) fun b o e=>keep b o ?_ (aq _ e),rfl,q⟩;rw [aL];exact Nat.ne_of_lt (Heap.lt_size e)
theorem Ft:iy X (.builtin "isinstance") (fun xs H Q=>∃ x c cv t b,xs=[x,c]/\(c=.ref cv/\kitOne X.K t (.ref cv)=some b)/\qN X.K H x t/\Q (.bl b) H):=by
 intro pins s σ H xs us Q I r h;obtain ⟨x,c,cv,t,b,rfl,⟨rfl,e⟩,ty,q⟩:=h;obtain ⟨u,v,rfl,rx,rc⟩:=Vals.two r;cases rc;exact Ac I rx ty e fun tk=>⟨.bl b,H,I.tok tk,rfl,q⟩
theorem CW:iy X (.builtin "isinstance") (fun xs H Q=>∃ x T t b,xs=[x,.ty T]/\kitOne X.K t (.type T)=some b/\qN X.K H x t/\Q (.bl b) H):=by
 intro pins s σ H xs us Q I r h;obtain ⟨x,T,t,b,rfl,e,ty,q⟩:=h;obtain ⟨u,v,rfl,rx,rc⟩:=Vals.two r;cases rc;exact Ac I rx ty e fun tk=>⟨.bl b,H,I.tok tk,rfl,q⟩
end
def Itv (K:Fg) (a:aB) (n:Nat):It := ⟨fun i H=>i < n/\∃ xs,cW K H a xs/\xs.length=n,fun i H x H'=>H'=H/\∀ xs,cW K H a xs->xs[n - 1 - i]?=some x,fun i _=>i=n⟩
theorem QZ {P:bZ} {w:World} {K:Fg} {tg:Expr} (a it:aB) (n:Nat):Turn P w K tg (Itv K a n) [it] it (fun i h=>i<=n/\h.IsRevIter it a ((n:Int) - 1 - (i:Int))) where
 mem:=by simp
 obj:=fun i h st b hb=>by
  obtain ⟨o,e,c,d⟩:=st.2;rw [aL.mp hb];exact ⟨o,e,fun v z=>by rw [d] at z; cases z⟩
 keep:=fun i h h' st k=>⟨st.1,st.2.at fun o e=>k it (by simp) o e⟩
 item:=by
  intro X hP hw hK hc i pins s σ H E I hf st go;subst hP hw hK;obtain ⟨lt,xs,sq,len⟩:=go;obtain ⟨its,rv,p,hz⟩:=I.list sq;have lx:n - 1 - i < xs.length:=by omega
  obtain ⟨u,hu,ru⟩:=rv.get (i:=n - 1 - i) (x:=xs[n - 1 - i]) (by simp [lx]);obtain ⟨f0,f1,f2,f3,f4,f5⟩:=hf it (by simp);have st2:=st.2;have e1:(n:Int) - 1 - (i:Int)=((n - 1 - i:Nat):Int):=by omega
  rw [e1] at st2;refine wpAny_pyNext_rev_item st2 p.isList (x:=u) (by simpa using hu) fun h' st' sb=>?_
  have e2:((n - 1 - i:Nat):Int) - 1=(n:Int) - 1 - ((i + 1:Nat):Int):=by omega
  rw [e2] at st';have I1:Inv X pins σ H { s with heap:=h' }:=I.turned (t':=s.toks) (fun b o hb e=>(sb.2 b hb).trans e) f0 f1 f3 f4 f5;obtain ⟨o,e,c,d⟩:=id st';exact ⟨u,rfl,Qd (s:={ s with heap:=h' }) e c d (by decide) ⟨xs[n - 1 - i],H,I1,ru,⟨rfl,fun ys hy=>by rw [I.rT hy sq]; simp [lx]⟩,⟨by omega,st'⟩,fun b hb=>(hf b hb).1⟩⟩
 done:=by
  intro X hP hw hK hc i pins s σ H E I hf st stop;subst hP hw hK;have e:i=n:=stop;subst e;obtain ⟨f0,f1,f2,f3,f4,f5⟩:=hf it (by simp);have st2:=st.2;have e1:(i:Int) - 1 - (i:Int)=-1:=by omega
  rw [e1] at st2;exact wpAny_pyNext_rev_end (I.ok.hd hc) st2 fun h' eb=>⟨rfl,I.turned (t':=s.toks) (fun b o hb e=>eb b o hb e) f0 f1 f3 f4 f5⟩
 self:=fun _ _ _ _ _ st h=>wpAny_pyIter_revIter st.2 h
section
variable {X:Cx}
def ax3 (K:Fg) (ta:TA):TI:=fun σ H R=>ta σ H fun vs H1=>∃ l xs,vs=[.ref l]/\cW K H1 l xs/\R (Itv K l xs.length) H1
theorem ago {tg e:Expr} {p pos:Pos} {ta:TA} (hg:Gl X "reversed") (hm:X.mg "reversed"=none) (ha:PA X [e] ta) (st:autoParam (starEach [e] X.env=[(false,eval e X.env)]) zau0) : PI X tg (.Call (.Name "reversed" p) [e] [] pos) (ax3 X.K ta):=by
 intro pins s σ H R I h;refine Call_ (lV I hg hm boot_reversed (callWith_type1 (eY (ha pos pins s σ H _ I h) fun us a ⟨vs,H1,I1,r,q⟩=>?_) st rfl));obtain ⟨l,xs,e,sq,q⟩:=q;subst e;obtain ⟨u,e,r1⟩:=Vals.one r;subst e;cases r1;obtain ⟨its,rv,p,_⟩:=I1.list sq;have len:=rv.length;refine call_reversed_list p.isList ?_;have at0:(a.heap.push (revObj l ((its.toArray.size:Int) - 1))).IsRevIter a.heap.objs.size l ((xs.length:Int) - 1 - ((0:Nat):Int)):=⟨_,aN _ rfl,rfl,by simp [revObj,len]⟩;refine wpAny_pyIter_revIter at0 ⟨_,[a.heap.objs.size],_,_,H1,rfl,I1.kept (t':=a.toks) fun b o e=>aq _ e,QZ l _ xs.length,⟨cU _,at0⟩,fun b hb=>?_,q⟩;rw [aL.mp hb];exact I1.Cq (aM _) (I1.hok.fresh (aM _))
end
section
variable {P:bZ} {w:World} {K:Fg} {mg:Str->Option aC} {base:Heap} {x qual:Str} {st:cX} {f:aB} {fd:d7} {N ps:List Str} {k:Nat} {sp:Sp}
theorem lB.jU (F:lB K x qual st f fd) (S:bM N ps (aW st)) (len:∀ vs H Q E,sp vs H Q E->vs.length=ps.length) (body:∀ (cdv:aC) (A:dB) (outer:List Env) (s:aV) (H:Hp) (vs:List V) (Q:VK) (E:XK),dJ k (A.deeper (envOfC qual (aW st) s.heap.objs.size f cdv))->sp vs H Q E -> ∃ t,zH (oY (d9 P w) P w K mg base N qual (aW st) f cdv A outer s H E) (fQ st) t/\t { nx:=fun _ H'=>Q .non H',rt:=Q } (start N vs) H):bT P w K mg base (d9 P w) (k + 1) f fd ps sp:=by
 obtain ⟨oc,od,kV,doc,pm,an,cdv,ct,osl,rfl,lk,hcd⟩:=F.ex;exact Qs lk hcd S len fun A outer s H vs Q E hr h=>body cdv A outer s H vs Q E hr h
theorem lB.okH (F:lB K x qual st f fd) (S:bM N ps (aW st)) (len:∀ vs H Q E,sp vs H Q E->vs.length=ps.length) (body:∀ (cdv:aC) (A:dB) (outer:List Env) (s:aV) (H:Hp) (vs:List V) (Q:VK) (E:XK),mY k (A.deeper (envOfC qual (aW st) s.heap.objs.size f cdv))->sp vs H Q E -> ∃ t,zH (K9 (d9 P w) P w K mg base N qual (aW st) f cdv A outer s H E) (fQ st) t/\t { nx:=fun _ H'=>Q .non H',rt:=Q } (start N vs) H):Ak P w K mg base (d9 P w) (k + 1) f fd ps sp:=by
 obtain ⟨oc,od,kV,doc,pm,an,cdv,ct,osl,rfl,lk,hcd⟩:=F.ex;exact agk lk hcd S len fun A outer s H vs Q E hr h=>body cdv A outer s H vs Q E hr h
end
theorem Lh {X:Cx} {x:Str} {T:String} {pos:Pos} (hg:Gl X x) (hm:X.mg x=none) (hv:bootBuiltins x=some (.type T)) (hn:autoParam (x≠"__name__") zau1) (hd:autoParam ((x == ("__debug__":Str))=false) zau1):PE X (.Name x pos) (tC (.ty T)) := Wy hg hm hv rfl hn hd
def Its (x:Str):It:=⟨fun i _=>i < x.cps.size,fun i H v H'=>H'=H/\∃ c,x.cps[i]?=some c/\v=.str ⟨#[c]⟩,fun i _=>i=x.cps.size⟩
theorem Fv {P:bZ} {w:World} {K:Fg} {n ty:Str} {np:Pos} {k:String} (x:Str) (t:Tok) (it:aB) (W:∀ A:dB,A.handled=none->Walks P w A it [it] [it] x.cps.size (SignAt x) (fun i h=>h.IsStrIter it k x t i)) (self:∀ (A:dB) (i:Nat) (s:aV) (Q:aC->aV->Prop) (E:aC->aV->Prop),s.heap.IsStrIter it k x t i->Q (.ref it) s->wpAny (model P w) A (pyIter (.ref it)) Q E s) : Turn P w K (.Name n np) (Its x) [it] it (fun i h=>h.IsStrIter it k x t i) where
 mem:=by simp
 obj:=fun i h st b hb=>by
  obtain ⟨o,e,c,d⟩:=st;rw [aL.mp hb];exact ⟨o,e,fun v z=>by rw [d] at z; cases z⟩
 keep:=fun i h h' st kp=>by
  obtain ⟨o,e,r⟩:=st;exact ⟨o,kp it (by simp) o e,r⟩
 item:=by
  intro X hP hw hK hc i pins s σ H E I hf st go;subst hP hw hK;obtain ⟨f0,f1,f2,f3,f4,f5⟩:=hf it (by simp);refine (W X.A (I.ok.hd hc)).item i s _ _ go st fun v h' tk sg st' kk=>?_
  obtain ⟨c,u,hx,rfl⟩:=sg;have I1:Inv X pins σ H { s with heap:=h',toks:=tk }:=I.turned (fun b o hb e=>kk b o (by simpa using hb) e) f0 f1 f3 f4 f5;exact ⟨_,rfl,ao ⟨.str ⟨#[c]⟩,H,I1,⟨u,rfl⟩,⟨rfl,c,hx,rfl⟩,st',fun b hb=>(hf b hb).1⟩⟩
 done:=by
  intro X hP hw hK hc i pins s σ H E I hf st stop;subst hP hw hK;have e:i=x.cps.size:=stop;subst e;obtain ⟨f0,f1,f2,f3,f4,f5⟩:=hf it (by simp);exact (W X.A (I.ok.hd hc)).done s _ _ st fun h' tk kk=>⟨rfl,I.turned (fun b o hb e=>kk b o (by simpa using hb) e) f0 f1 f3 f4 f5⟩
 self:=fun A i s Q E st h=>self A i s Q E st h
section
variable {X:Cx}
def ax4 (tl:TE):TI:=fun σ H R=>tl σ H fun v H1=>∃ x,v=.str x/\R (Its x) H1
theorem agp {n:Str} {np:Pos} {l:Expr} {tl:TE} (hl:PE X l tl):PI X (.Name n np) l (ax4 tl):=by
 intro pins s σ H R I h;refine eY (hl pins s σ H _ I h) fun v a ⟨y,H1,I1,r1,x,e,q⟩=>?_
 subst e;obtain ⟨t,rfl⟩:=r1;have I2:∀ o,Inv X pins σ H1 { a with heap:=a.heap.push o }:=fun o=>I1.kept (t':=a.toks) fun b ob e=>aq _ e
 have fp:∀ b ∈ [a.heap.objs.size],oR X pins H1 b:=fun b hb=>by
  rw [aL.mp hb];exact I1.Cq (aM _) (I1.hok.fresh (aM _))
 cases ha:x.cps.all (· < 128) with
 | false=>exact wpAny_pyIter_wide ha ⟨_,[a.heap.objs.size],_,_,H1,rfl,I2 _,Fv (ty:=n) x t _ (fun A hA=>Walks.strWide hA _ x t) (fun A i s Q E st q=>wpAny_pyIter_striter_wide st q),⟨_,aN _ rfl,rfl,rfl⟩,fp,q⟩
 | true=>exact wpAny_pyIter_ascii ha ⟨_,[a.heap.objs.size],_,_,H1,rfl,I2 _,Fv (ty:=n) x t _ (fun A hA=>Walks.strAscii hA _ x t) (fun A i s Q E st q=>wpAny_pyIter_striter_ascii st q),⟨_,aN _ rfl,rfl,rfl⟩,fp,q⟩
theorem Aq:oJ X (compareOp .LtE) (fun x y H Q=>∃ i j,x=.str i/\y=.str j/\Q (.bl (!decide (j.cps.toList < i.cps.toList))) H):=by
 intro pins s σ H x y v u Q I rx ry h;obtain ⟨i,j,rfl,rfl,q⟩:=h;obtain ⟨t,rfl⟩:=rx;obtain ⟨t',rfl⟩:=ry;exact PySem.P.le_str ⟨.bl _,H,I,rfl,q⟩
end
structure ZG (K:Fg) (C:aB):Prop where
 ga:findIn K (.ref C) "__getattribute__"=some (some (.builtin "BaseException.__getattribute__"))
 hk:findIn K (.ref C) "__getattr__"=some none
 cls:(clsIn K C).isSome=true
 at_:findIn K (.ref C) "__class__"=some (some (.builtin "object.__class__"))
 gt:specialIn K (.builtin "object.__class__") "__get__"=some (some (.builtin "getset_descriptor.__get__"))
 tk:takesIn K (.builtin "object.__class__")=some true
 ob:mroIn K C (.type "object")=some true
 be:subIn K (.ref C) (.type "BaseException")=some true
section
variable {prog:bZ} {w:World} {A:dB} {E:aC->aV->Prop} {s:aV} {K:Fg} {e C:aB} {oe:Obj} {od:Option Obj}
theorem NT {tk:Tok} {Q:Fin->aV->Prop} (k:K.In s.heap) (t:ZG K C) (I:InstAt s.heap e oe C od) (h:Q (.done (.ret (.ref C))) s) : wpAny (model prog w) A (Builtin.«object.__getattribute__» ⟨[.ref e,.str "__class__" tk],[]⟩) Q E s:=by
 obtain ⟨h0,g0,d0,tt,o0⟩:=s;have ht:=I.type (M:=model prog w);have hf:findObj K C od "__class__"=some (.bind (.builtin "getset_descriptor.__get__") (.builtin "object.__class__")) :=
  by obtain ⟨cd,hc⟩:=Option.isSome_iff_exists.mp t.cls; simp only [findObj,hc,Option.bind_some,t.at_,t.gt,t.tk]
 have lf:=PySem.W.looks_find (M:=model prog w) k I hf
 (unfold Builtin.«object.__getattribute__»; refine aj (ao (aj (ao (aj (ht.at (aj (lf.at ?_))))))))
 show wpAny _ _ (holding [Value.builtin "object.__class__"] (call (.builtin "getset_descriptor.__get__") [.builtin "object.__class__",.ref e,.ref C]) >>= ret) _ _ _
 refine aj (wpAny_holding (wpAny_call ?_));refine PySem.W.class_get (s:=⟨h0,g0,d0,tt,o0⟩) k I t.ob ?_
 show wpAny (model prog w) A (ret (Value.ref C)) Q E _
 exact ao h
theorem NZ {Q:Option aC->aV->Prop} (k:K.In s.heap) (t:ZG K C) (I:InstAt s.heap e oe C od) (h:Q (some (.ref C)) { s with toks:=s.toks + 1 }) : wpAny (model prog w) A (getAttr? (.ref e) "__class__") Q E s:=by
 obtain ⟨h0,g0,d0,tt,o0⟩:=s;have ht:=I.type (M:=model prog w);have lg:=looks_findIn (M:=model prog w) k t.ga;have lk:=looks_findIn (M:=model prog w) k t.hk;have isB:Looks (model prog w) h0 (isInstance (.ref e) (.type "BaseException")) true:=ht.andThen (PySem.W.looks_subIn k t.be)
 (unfold getAttr? getAttrBy? getAttrBy; refine aj (wpAny_mkText (aj (wpAny_attempt (wpAny_holding (aj (ht.at (aj (lg.at ?_)))))))))
 have no:(onTheHeap (Value.ref C) && Value.builtin "BaseException.__getattribute__" == Value.builtin "object.__getattribute__")=false:=by
  rw [show (Value.builtin "BaseException.__getattribute__" == Value.builtin "object.__getattribute__")=false by decide +kernel]; rfl
 dsimp only;rw [no,if_neg Bool.false_ne_true];unfold getAttrByItsOwn hookBefore;rw [if_pos (show onTheHeap (Value.ref C)=true from rfl)];refine aj (lk.at (aj (wpAny_attempt (wpAny_holding ?_))));unfold callGetattribute;rw [Bool.false_and,if_neg Bool.false_ne_true];unfold boundAndCalled;rw [(F.attr_ValueError).ga.bind];refine aj (ao ?_)
 show wpAny _ _ (call (.builtin "BaseException.__getattribute__") [.ref e,.str "__class__" tt]) _ _ _
 refine wpAny_call (codeAny_call_builtin (F.attr_ValueError).ga.plain F.entry_bexc_ga ?_);have hB:builtinKind "BaseException.__getattribute__"=some .slot:=by decide +kernel
 have hS:splitId "BaseException.__getattribute__"=some ("BaseException","__getattribute__"):=by decide +kernel
 have hA:=F.args_bexc_ga (.ref e) (.str "__class__" tt);refine @PySem.W.check_slot (model prog w) _ _ ⟨h0,g0,d0,tt + 1,o0⟩ _ _ _ (.ref e) [.str "__class__" tt] [] _ hB hS isB hA ?_;refine NT (s:=⟨h0,g0,d0,tt + 1,o0⟩) k t I ?_
 show wpAny (model prog w) A (handedOut (Value.ref C)) _ _ _
 exact PySem.W.handed_on rfl (ao h)
def Li (e C:aB) (h:Heap):Prop:=∃ oe vs,h.get? e=some oe/\oe.cls=.ref C/\oe.dict=none/\oe.data=.fields vs
theorem Li.inst {h:Heap} (x:Li e C h):∃ oe,InstAt h e oe C none:=by
 obtain ⟨oe,vs,e1,e2,e3,e4⟩:=x;exact ⟨oe,e1,e2,by unfold PySem.W.notCls; rw [e4],by rw [e3]; trivial⟩
theorem ZG.obj (t:ZG K C):∃ c dd cd sl,K.lookup C=some ⟨c,dd,.cls cd,sl⟩:=by
 obtain ⟨cd,hc⟩:=Option.isSome_iff_exists.mp t.cls;unfold clsIn at hc
 split at hc
 ·rename_i c dd cd' sl q
  exact ⟨c,dd,cd',sl,q⟩
 ·cases hc
theorem Xa (t:ZG K C):KitX K (.ref e) (.ref C) (Li e C) where
 ty:=fun M h k x=>by
  obtain ⟨oe,I⟩:=x.inst;exact I.type
 it:=fun M h k x=>by
  obtain ⟨c,dd,cd,sl,q⟩:=t.obj;intro A' Q' E' s' keep hq;unfold isType loadHead;exact aj (wpAny_loadPart (keep C _ (k C _ q)) (ao hq))
 ne:=fun h tp dd its n sl k q=>by
  obtain ⟨c,d',cd,sl',q'⟩:=t.obj;cases z:(Value.ref C == Value.ref tp) with
  | false=>rfl
  | true =>
   obtain rfl:=Value.ref.inj (beq_iff_eq.mp z);rw [k C _ q'] at q;cases q
 ca:=fun k x h=>by
  obtain ⟨oe,I⟩:=x.inst;exact NZ k t I h
end
section
variable {X:Cx}
theorem jV:iy X (.builtin "isinstance") (fun xs H Q=>∃ e C c cv b,xs=[.ref e,c]/\RelV c cv/\(∃ C',c=.ref C'\/∃ T,c=.ty T)/\H e=some (CN e (.ref C) none)/\ZG X.K C/\kitOne X.K (.ref C) cv=some b/\Q (.bl b) H):=by
 intro pins s σ H xs us Q I r h;obtain ⟨e,C,c,cv,b,rfl,rc,kd,he,t,k1,q⟩:=h;obtain ⟨u,v,rfl,ru,rv⟩:=Vals.two r;obtain rfl:u=Value.ref e:=ru;have x:Li e C s.heap:=by
  obtain ⟨⟨oe,vs,p⟩,_⟩:=(show fV X.prog X.w H s.heap e (CN e (.ref C) none) from I.hok e _ he);exact ⟨oe,vs,p⟩
 have ev:v=cv:=by
  obtain ⟨C',rfl | ⟨T,rfl⟩⟩:=kd
  ·exact rv.trans (Eq.symm rc)
  ·exact rv.trans (Eq.symm rc)
 subst ev;exact kia_one (Xa t) I.oU x k1 (by
  obtain ⟨C',rfl | ⟨T,rfl⟩⟩:=kd
  ·intro z; obtain rfl:v=Value.ref C':=rv; cases z
  ·intro z; obtain rfl:v=Value.type T:=rv; cases z) fun tk=>⟨.bl b,H,I.tok tk,rfl,q⟩
end
inductive Ei (K:Fg) (H:Hp):Nat->V->V->Bool->Prop where
 | flat {n:Nat} {x y:V} (fx:jt x=true) (fy:jt y=true):Ei K H n x y (HD x y)
 | self {n:Nat} {a:aB}:Ei K H n (.ref a) (.ref a) true
 | tup {n:Nat} {a b:aB} {xs ys:List V} {e:Nat->Bool} (ne:a≠b) (ha:d8 K H a xs) (hb:d8 K H b ys) (h:∀ (j:Nat) x y,xs[j]?=some x->ys[j]?=some y->Ei K H n x y (e j)) : Ei K H (n + 1) (.ref a) (.ref b) ((List.range (min xs.length ys.length)).all e && xs.length == ys.length)
 | lst {n:Nat} {a b:aB} {xs ys:List V} {e:Nat->Bool} (ne:a≠b) (ha:cW K H a xs) (hb:cW K H b ys) (len:xs.length=ys.length) (h:∀ (j:Nat) x y,xs[j]?=some x->ys[j]?=some y->Ei K H n x y (e j)) : Ei K H (n + 1) (.ref a) (.ref b) ((List.range xs.length).all e)
 | ax5 {n:Nat} {a b:aB} {xs ys:List V} (ne:a≠b) (ha:cW K H a xs) (hb:cW K H b ys) (len:xs.length≠ys.length):Ei K H (n + 1) (.ref a) (.ref b) false
theorem Vals.item {xs:List V} {us:List aC} (r:Vals xs us) {j:Nat} (h:j < us.toArray.size):∃ x,xs[j]?=some x/\RelV x us.toArray[j]:=by
 have h':j < us.length:=by simpa using h
 have hx:j < xs.length:=by rw [r.length]; exact h'
 obtain ⟨u,e1,e2⟩:=r.get (aA hx);refine ⟨_,aA hx,?_⟩;rw [aA h'] at e1;cases e1;simpa using e2
theorem Ei.at_ {X:Cx} {pins:List (aB × Obj)} {σ:St} {H:Hp} {s:aV} (I:Inv X pins σ H s) {n:Nat} {x y:V} {b:Bool} (d:Ei X.K H n x y b) : ∀ (A:dB) (u v:aC),A.units + n < cLine->RelV x u->RelV y v->SeqAt.EqAt A s u v b:=by
 induction d with
 | flat fx fy=>exact fun A u v _ ru rv=>Qy ru rv fx fy
 | self =>
  intro A u v _ ru rv;cases ru;cases rv;exact SeqAt.EqAt.same _
 | tup ne ha hb _ ih =>
  intro A u v hu ru rv;cases ru;cases rv;obtain ⟨us,r1,p1,_⟩:=I.tuple ha;obtain ⟨vs,r2,p2,_⟩:=I.tuple hb;have w:=SeqAt.RcAt.tuples (A:=A) p1 p2 (by omega) fun j h1 h2=>by
   obtain ⟨x,ex,rx⟩:=r1.item h1;obtain ⟨y,ey,ry⟩:=r2.item h2;exact ih j x y ex ey A.in1 _ _ (by rw [show ∀ A:dB,A.in1.units=A.units + 1 from fun _=>rfl]; omega) rx ry
  rw [size_toArray,size_toArray,<- r1.length,<- r2.length] at w;exact SeqAt.EqAt.of_refs ne w
 | lst ne ha hb len _ ih =>
  intro A u v hu ru rv;cases ru;cases rv;obtain ⟨us,r1,p1,_⟩:=I.list ha;obtain ⟨vs,r2,p2,_⟩:=I.list hb;have w:=SeqAt.RcAt.lists (A:=A) p1.isList p2.isList (by rw [size_toArray,size_toArray,<- r1.length,<- r2.length,len]) (by omega) fun j h1 h2=>by
   obtain ⟨x,ex,rx⟩:=r1.item h1;obtain ⟨y,ey,ry⟩:=r2.item h2;exact ih j x y ex ey A.in1 _ _ (by rw [show ∀ A:dB,A.in1.units=A.units + 1 from fun _=>rfl]; omega) rx ry
  rw [size_toArray,<- r1.length] at w;exact SeqAt.EqAt.of_refs ne w
 | ax5 ne ha hb len =>
  intro A u v hu ru rv;cases ru;cases rv;obtain ⟨us,r1,p1,_⟩:=I.list ha;obtain ⟨vs,r2,p2,_⟩:=I.list hb;refine SeqAt.EqAt.of_refs ne (SeqAt.RcAt.lists_lengths p1.isList p2.isList ?_ (by omega));rw [size_toArray,size_toArray,<- r1.length,<- r2.length];simpa using len
section
variable {X:Cx}
noncomputable def agq (K:Fg) (neg:Bool):R2:=fun x y H Q=>∃ a b xs ys n e,x=.ref a/\y=.ref b/\d8 K H a xs/\d8 K H b ys/\n<=50/\(∀ (j:Nat) x y,xs[j]?=some x->ys[j]?=some y->Ei K H n x y (e j)) /\ Q (.bl (neg ^^ ((List.range (min xs.length ys.length)).all e && xs.length == ys.length))) H
theorem agr (hu:X.A.units + 64 < cLine):oJ X (compareOp .Eq) (agq X.K false):=by
 intro pins s σ H x y v u Q I rx ry h;obtain ⟨a,b,xs,ys,n,e,rfl,rfl,ha,hb,hn,d,q⟩:=h;cases rx;cases ry;obtain ⟨us,r1,p1,_⟩:=I.tuple ha;obtain ⟨vs,r2,p2,_⟩:=I.tuple hb;have w:=SeqAt.RcAt.tuples (A:=X.A) (e:=e) p1 p2 (by omega) fun j h1 h2=>by
  obtain ⟨x,ex,rx⟩:=r1.item h1;obtain ⟨y,ey,ry⟩:=r2.item h2;exact (d j x y ex ey).at_ I X.A.in1 _ _ (by rw [show ∀ A:dB,A.in1.units=A.units + 1 from fun _=>rfl]; omega) rx ry
 rw [size_toArray,size_toArray,<- r1.length,<- r2.length] at w;rw [Bool.false_xor] at q;exact w X.prog X.w X.xe _ ⟨.bl _,H,I,rfl,q⟩
theorem ags (hu:X.A.units + 64 < cLine):oJ X (compareOp .NotEq) (agq X.K true):=by
 intro pins s σ H x y v u Q I rx ry h;obtain ⟨a,b,xs,ys,n,e,rfl,rfl,ha,hb,hn,d,q⟩:=h;cases rx;cases ry;obtain ⟨us,r1,p1,_⟩:=I.tuple ha;obtain ⟨vs,r2,p2,_⟩:=I.tuple hb;have w:=SeqAt.RcNeAt.tuples (A:=X.A) (e:=e) p1 p2 (by omega) fun j h1 h2=>by
  obtain ⟨x,ex,rx⟩:=r1.item h1;obtain ⟨y,ey,ry⟩:=r2.item h2;exact (d j x y ex ey).at_ I X.A.in1 _ _ (by rw [show ∀ A:dB,A.in1.units=A.units + 1 from fun _=>rfl]; omega) rx ry
 rw [size_toArray,size_toArray,<- r1.length,<- r2.length] at w;rw [Bool.true_xor] at q;exact w X.prog X.w X.xe _ ⟨.bl _,H,I,rfl,q⟩
noncomputable def Q0 (K:Fg) (neg:Bool):R2:=fun x y H Q=>∃ a b xs ys n e,x=.ref a/\y=.ref b/\cW K H a xs/\cW K H b ys/\n<=50/\(xs.length=ys.length->∀ (j:Nat) x y,xs[j]?=some x->ys[j]?=some y->Ei K H n x y (e j)) /\ (xs.length=ys.length->Q (.bl (neg ^^ (List.range xs.length).all e)) H)/\(xs.length≠ys.length->Q (.bl neg) H)
theorem agt (hu:X.A.units + 64 < cLine):oJ X (compareOp .Eq) (Q0 X.K false):=by
 intro pins s σ H x y v u Q I rx ry h;obtain ⟨a,b,xs,ys,n,e,rfl,rfl,ha,hb,hn,d,q1,q2⟩:=h;cases rx;cases ry;obtain ⟨us,r1,p1,_⟩:=I.list ha;obtain ⟨vs,r2,p2,_⟩:=I.list hb
 by_cases len:xs.length=ys.length
 ·have w:=SeqAt.RcAt.lists (A:=X.A) (e:=e) p1.isList p2.isList (by rw [size_toArray,size_toArray,<- r1.length,<- r2.length,len]) (by omega) fun j h1 h2=>by
   obtain ⟨x,ex,rx⟩:=r1.item h1;obtain ⟨y,ey,ry⟩:=r2.item h2;exact (d len j x y ex ey).at_ I X.A.in1 _ _ (by rw [show ∀ A:dB,A.in1.units=A.units + 1 from fun _=>rfl]; omega) rx ry
  rw [size_toArray,<- r1.length] at w;have q:=q1 len;rw [Bool.false_xor] at q;exact w X.prog X.w X.xe _ ⟨.bl _,H,I,rfl,q⟩
 ·have w:=SeqAt.RcAt.lists_lengths (A:=X.A) p1.isList p2.isList (by rw [size_toArray,size_toArray,<- r1.length,<- r2.length]; simpa using len) (by omega);exact w X.prog X.w X.xe _ ⟨.bl _,H,I,rfl,q2 len⟩
theorem agu (hu:X.A.units + 64 < cLine):oJ X (compareOp .NotEq) (Q0 X.K true):=by
 intro pins s σ H x y v u Q I rx ry h;obtain ⟨a,b,xs,ys,n,e,rfl,rfl,ha,hb,hn,d,q1,q2⟩:=h;cases rx;cases ry;obtain ⟨us,r1,p1,_⟩:=I.list ha;obtain ⟨vs,r2,p2,_⟩:=I.list hb
 by_cases len:xs.length=ys.length
 ·have w:=SeqAt.RcNeAt.lists (A:=X.A) (e:=e) p1.isList p2.isList (by rw [size_toArray,size_toArray,<- r1.length,<- r2.length,len]) (by omega) fun j h1 h2=>by
   obtain ⟨x,ex,rx⟩:=r1.item h1;obtain ⟨y,ey,ry⟩:=r2.item h2;exact (d len j x y ex ey).at_ I X.A.in1 _ _ (by rw [show ∀ A:dB,A.in1.units=A.units + 1 from fun _=>rfl]; omega) rx ry
  rw [size_toArray,<- r1.length] at w;have q:=q1 len;rw [Bool.true_xor] at q;exact w X.prog X.w X.xe _ ⟨.bl _,H,I,rfl,q⟩
 ·have w:=SeqAt.RcNeAt.lists_lengths (A:=X.A) p1.isList p2.isList (by rw [size_toArray,size_toArray,<- r1.length,<- r2.length]; simpa using len) (by omega);exact w X.prog X.w X.xe _ ⟨.bl _,H,I,rfl,q2 len⟩
noncomputable def agv:V->List V->Hp->VK->Prop:=fun x vs H Q=>∃ l xs y j,x=.ref l/\vs=[y]/\H l=some (.lst xs)/\jt y=true/\xs.all jt=true/\(∃ z,xs[j]?=some z/\HD z y=true)/\(∀ i z,i < j->xs[i]?=some z->HD z y=false)/\Q (.int (j:Nat)) H
theorem Q5:MtM X "list.index" agv:=by
 intro pins s σ H x vs v us Q I rx rv h;obtain ⟨l,xs,y,j,rfl,rfl,hH,fy,fs,⟨z,hz,ez⟩,no,q⟩:=h;cases rx;obtain ⟨u,rfl,ru⟩:=rv.one;obtain ⟨sz,its,n,r,hl,e⟩:=I.Nt hH;have fl:∀ (i:Nat) x,xs[i]?=some x->jt x=true:=fun i x hx=>all_eq_true.mp fs x (aH hx)
 have hj:j < its.toArray.size:=by
  have:=(aD.mp hz).1;rw [size_toArray]; omega
 have small:(j:Int) < 2 ^ 63 - 1:=by
  have h1:j < sizeLine:=by rw [size_toArray] at hj; omega
  have h2:(sizeLine:Nat) < 2 ^ 62:=by rw [sizeLine_eq]; decide
  omega
 have at_:∀ (m:Nat) (hm:m < its.toArray.size) x,xs[m]?=some x->Qz y its.toArray[m]=HD x y:=fun m hm x hx=>by
  obtain ⟨x',ex,rx'⟩:=r.item hm;rw [hx] at ex;cases ex;exact Iu rx' (fl m x hx)
 refine call_meets F.slot_list_index ⟨_,e,rfl⟩ F.entry_list_index (F.args_list_index_2 _ _) (SeqAt.list_indexAt l its.toArray n none #[] u (Qz y) j hj small (by rw [at_ j hj z hz]; exact ez) fun m hm lt=>?_) ⟨e,fun w hw=>sI ru fy r fs w (by simpa using hw),⟨.int _,H,I.tok _,⟨_,rfl⟩,q⟩⟩;obtain ⟨x',ex,_⟩:=r.item hm;rw [at_ m hm x' ex];exact no m x' lt ex
end
section
variable {X:Cx} {pos:Pos}
end
noncomputable def agw:Expr->Option V
 | .Constant (.int n) _ _=>some (V.int n)
 | .Constant (.str z) _ _=>some (V.str z)
 | .Constant (.bool b) _ _=>some (.bl b)
 | .Constant .none _ _=>some .non
 | .UnaryOp .USub (.Constant (.int n) _ _) _=>some (V.int (-n))
 | _=>none
def ZJ:List Expr->Option (List V)
 | []=>some []
 | e::es=>(agw e).bind fun v=>(ZJ es).map fun vs=>v::vs
section
variable {X:Cx}
theorem agx {e:Expr} {es:List Expr} {v:V} (h:agw e=some v):PE X e (tC v)/\starEach (e::es) X.env=(false,eval e X.env)::starEach es X.env:=by
 unfold agw at h
 split at h
 ·cases h; exact ⟨aR,rfl⟩
 ·cases h; exact ⟨ig,rfl⟩
 ·cases h; exact ⟨lM,rfl⟩
 ·cases h; exact ⟨jJ,rfl⟩
 ·cases h;refine ⟨fun pins s σ H Q I q=>?_,rfl⟩;exact Qf Ib aR pins s σ H Q I ⟨_,rfl,q⟩
 ·cases h
def anO (vs:List V):TA:=fun _ H Q=>Q vs H
theorem jD (vs:List V) {es:List Expr} (h:ZJ es=some vs):PA X es (anO vs):=by
 induction es generalizing vs with
 | nil =>
  cases h;exact fun pos pins s σ H Q I q=>aK pos pins s σ H Q I q
 | cons e es ih =>
  obtain ⟨v,hv,h⟩:=Option.bind_eq_some_iff.mp h;obtain ⟨ws,hw,rfl⟩:=bA.mp h;obtain ⟨p,st⟩:=agx (X:=X) (es:=es) hv;exact fun pos pins s σ H Q I q=>ak p (ih ws hw) st pos pins s σ H Q I q
end
theorem N5:typeLookup (.type "list_reverseiterator") "__len__"=pure none:=by rw [typeLookup_type,builtinLookup_eq_fast]; kernel_rfl
theorem Q6:typeLookup (.type "list_reverseiterator") "__length_hint__"=pure (some (.builtin "list_reverseiterator.__length_hint__")):=by rw [typeLookup_type,builtinLookup_eq_fast]; kernel_rfl
section
variable {prog:bZ} {w:World} {A:dB} {E:aC->aV->Prop} {s:aV} {J l:aB} {its:Array aC}
theorem IW {Q:Bool->aV->Prop} (hT:s.TypeIs (.ref J) "list_reverseiterator") (h:Q false s):wpAny (model prog w) A (Builtin.List.listLengthHint (.ref J)) Q E s:=by
 unfold Builtin.List.listLengthHint; refine aj (wpAny_specialOf hT N5 ?_)
 show wpAny _ A (specialOf (Value.ref J) (Str.ofString "__length_hint__") >>= _) _ _ s
 refine aj (wpAny_specialOf hT Q6 ?_);generalize hid:("list_reverseiterator.__length_hint__":String)=id0
 wp_delta
 rw [show splitId id0=some ("list_reverseiterator","__length_hint__") from by subst hid; decide +kernel];subst hid;refine aj (wpAny_isInstance (s:=s) (b:=true) hT (by rw [isSubtype_type]; kernel_rfl) ?_);exact ao h
abbrev Lj (J l:aB) (its:Array aC):Nat->aV->Prop:=fun i s=>i<=its.size/\s.heap.IsRevIter J l ((its.size:Int) - 1 - (i:Int))/\s.heap.IsList l its
theorem Fw {Q:List aC->aV->Prop} (hh:A.handled=none) (ne:l≠J) (st:Lj J l its 0 s) (hz:its.size<=sizeLine) (hQ:∀ s' acc,Moved [J] (fun a b=>b=a) s s'->ItemsOf (fun i v=>its[its.size - 1 - i]?=some v) acc its.size->Q acc.toList s'):wpAny (model prog w) A (collect (.ref J)) Q E s:=by
 have W:=(Walks.listRev (prog:=prog) (w:=w) (A:=A.in1) hh J l ne its).toS;obtain ⟨lJ,ll⟩:J < s.heap.objs.size/\l < s.heap.objs.size:=by
  obtain ⟨_,⟨o,e,_⟩,⟨o',e',_⟩⟩:=st;exact ⟨Heap.lt_size e,Heap.lt_size e'⟩
 have out:s.heap.objs.size ∉ [J,l]:=by
  intro m;simp only [aQ,mem_nil_iff,or_false] at m;rcases m with m | m
  ·exact cM _ (m ▸ lJ)
  ·exact cM _ (m ▸ ll)
 have neJ:s.heap.objs.size≠J:=fun m=>cM _ (m ▸ lJ)
 unfold collect; refine aj (wpAny_runValue (codeAny_builtin F.entry_proto_collect ?_)); rw [Around.under_plainId F.plain_proto_collect _]
 show wpAny _ A.in1 (newList [] >>= fun m=>again (.builtin "list.__iadd__" ⟨[m,.ref J],[]⟩)) _ _ s
 refine aj (wpAny_newObj_type (ao ⟨plainId_quiet F.plain_list_iadd _,codeAny_builtin F.entry_list_iadd ?_⟩)); rw [Around.under_plainId F.plain_list_iadd _];have st1:=W.frame 0 s (s.heap.push { cls:=.type "list",data:=.seq ([]:List aC).toArray }) s.toks st (aM _) (fun b _ o e=>aq _ e);have new1:(s.heap.push { cls:=.type "list",data:=.seq ([]:List aC).toArray }).get? s.heap.objs.size=some { cls:=.type "list",data:=.seq ([]:List aC).toArray }:=(aN _ rfl);have same:Builtin.List.listSameRef (.ref s.heap.objs.size) (.ref J)=false:=by simp [Builtin.List.listSameRef,neJ]
 show wpAny _ A.in1 (Builtin.List.listExtendWith (.ref s.heap.objs.size) (.ref J) (.ref s.heap.objs.size)) _ _ _; unfold Builtin.List.listExtendWith
 have tJ:Shared.TypeIs { s with heap:=s.heap.push { cls:=.type "list",data:=.seq ([]:List aC).toArray } } (.ref J) "list_reverseiterator":=st1.2.1.typeIs;refine aj (wpAny_typeOf tJ ?_);rw [if_neg (by rw [same]; decide)];refine aj (W.self 0 _ _ _ st1 (aj (wpAny_holding (IW tJ ?_))));rw [if_neg (by decide)];refine ao ⟨plainId_quiet F.plain_extend_loop _,codeAny_extend_loopS W hz _ out _ its.size 0 _ _ _ rfl (cU _) st1 new1 (ItemsOf.nil _) fun s' acc c hm hS ha=>?_⟩
 show wpAny _ A (load s.heap.objs.size >>= _) _ _ s'; exact aj (wpAny_load hS (ao (hQ s' acc (Moved.drop_new (o:={ cls:=.type "list",data:=.seq ([]:List aC).toArray }) (tk:=s.toks) hm (aM _)) ha)))
theorem zU {Q:aC->aV->Prop} (hh:A.handled=none) (ne:l≠J) (st:Lj J l its 0 s) (hz:its.size<=sizeLine) (hQ:∀ s' acc,Moved [J] (fun a b=>b=a) s s'->ItemsOf (fun i v=>its[its.size - 1 - i]?=some v) acc its.size->Q (.ref s'.heap.objs.size) { s' with heap:=s'.heap.push { cls:=.type "tuple",data:=.seq acc } }) : codeAny (model prog w) A (.call (.builtin "tuple.__new__") ⟨[.type "tuple",.ref J],[]⟩) (wants Q E) s:=by
 refine codeAny_of_tree ?_
 show wpAny _ A.in1 (do checkBuiltinCall "tuple.__new__" ⟨[.type "tuple",.ref J],[]⟩; again (.builtin "tuple.__new__" ⟨[.type "tuple",.ref J],[]⟩)) _ _ s
 refine aj (wpAny_of_eq (F.newCall_tuple_1 _) (ao ⟨plainId_quiet F.plain_tuple_new _,codeAny_builtin (F.entry_tuple_new) ?_⟩));rw [Around.under_plainId F.plain_tuple_new _]; have h1:=sub_tuple_self;have h2:=init_tuple_lookup;have h3:=madeHere_tuple;have tJ:=st.2.1.typeIs
 wp_walk using wpAny_typeOf tJ,Fw (A:=A.in1) hh ne st hz
 intro s' acc hm ha
 show wpAny _ _ (Builtin.Tuple.tupleExact acc.toList.toArray >>= fun v=>ret v) _ _ s'
 rw [show acc.toList.toArray=acc by simp]; unfold Builtin.Tuple.tupleExact; refine aj (wpAny_newObj_type (ao (hQ s' acc hm ha)) (by show acc.size<=sizeLine; rw [ha.1]; exact hz))
theorem N6 {Q:aC->aV->Prop} (hh:A.handled=none) (ne:l≠J) (st:Lj J l its 0 s) (hz:its.size<=sizeLine) (hQ:∀ s' acc,Moved [J] (fun a b=>b=a) s s'->ItemsOf (fun i v=>its[its.size - 1 - i]?=some v) acc its.size->Q (.ref s'.heap.objs.size) { s' with heap:=s'.heap.push { cls:=.type "tuple",data:=.seq acc } }) : wpAny (model prog w) A (call (.type "tuple") [.ref J]) Q E s:=by
 refine callType_codes (Q₁:=fun obj s1=>s1.TypeIs obj "tuple"/\Q obj s1) F.called_tuple (F.typeCall_tuple_1 _) F.entry_object_init (zU hh ne st hz fun s' acc hm ha=>⟨⟨_,aN _ rfl,rfl⟩,hQ s' acc hm ha⟩) fun obj s1 h1=>?_
 exact ⟨h1.1,F.args_object_init_2 obj _,object_init_meets F.called_tuple.init.lookup F.called_tuple.made (by decide) prog w A.in1 _ s1 ⟨h1.1,rfl,h1.2⟩⟩
theorem N7 {acc:Array aC} (h:ItemsOf (fun i v=>its[its.size - 1 - i]?=some v) acc its.size):acc.toList=its.toList.reverse:=by
 apply ext_getElem?;intro i
 by_cases lt:i < its.size
 ·have la:i < acc.size:=by rw [h.1]; exact lt
  have h2:=h.2 i acc[i] (by simp [la]);rw [List.getElem?_reverse (by simpa using lt)];simp only [Array.length_toList,Array.getElem?_toList];rw [h2];simp [la]
 ·have la:¬ i < acc.size:=by rw [h.1]; exact lt
  simp [lt,la]
end
theorem Q7 {xs:List V} {us:List aC} (r:Vals xs us):Vals xs.reverse us.reverse:=by
 induction r with
 | nil=>exact .nil
 | cons h t ih =>
  simp only [List.reverse_cons];exact Paired.snoc ih h
section
variable {X:Cx} {e:Expr} {te:TE} {p p2 pos pos2:Pos}
def Xb (K:Fg) (ta:TA):TE:=fun σ H Q=>ta σ H fun vs H1=>∃ l ys,vs=[.ref l]/\cW K H1 l ys/\∀ t,H1 t=none->Q (.ref t) (upd H1 t (.tup ys.reverse))
theorem N8 {ta:TA} (hc:X.calm=true) (hm:X.mg "tuple"=none) (hm2:X.mg "reversed"=none) (ha:PA X [e] ta) (hg:autoParam (Gl X "tuple") zau0) (hg2:autoParam (Gl X "reversed") zau0) (st:autoParam (starEach [e] X.env=[(false,eval e X.env)]) zau0) (st2:autoParam (starEach [.Call (.Name "reversed" p2) [e] [] pos2] X.env=[(false,eval (.Call (.Name "reversed" p2) [e] [] pos2) X.env)]) zau0) : PE X (.Call (.Name "tuple" p) [.Call (.Name "reversed" p2) [e] [] pos2] [] pos) (Xb X.K ta):=by
 intro pins s σ H Q I h;have inner:wpAny (model X.prog X.w) X.A (eval (.Call (.Name "reversed" p2) [e] [] pos2) X.env) (fun v s'=>∃ J l its ys H1,v=.ref J/\Inv X pins σ H1 s'/\oR X pins H1 J/\Lj J l (List.toArray its) 0 s'/\l≠J/\Vals ys its/\ys.length<=sizeLine/\∀ t,H1 t=none->Q (.ref t) (upd H1 t (.tup ys.reverse))) X.xe s:=by
  refine Call_ (lV I hg2 hm2 boot_reversed (callWith_type1 (eY (ha pos2 pins s σ H _ I h) fun us a ⟨vs,H1,I1,r,q⟩=>?_) st rfl));obtain ⟨l,ys,e,sq,q⟩:=q;subst e;obtain ⟨u,e,r1⟩:=Vals.one r;subst e;cases r1;obtain ⟨its,rv,pl,hz⟩:=I1.list sq;refine call_reversed_list pl.isList ⟨a.heap.objs.size,l,its,ys,H1,rfl,I1.kept (t':=a.toks) fun b o e=>aq _ e,I1.Cq (aM _) (I1.hok.fresh (aM _)),⟨cU _,⟨_,aN _ rfl,rfl,by simp [revObj]⟩,pl.isList.push _⟩,?_,rv,hz,q⟩;obtain ⟨o,eo,_⟩:=pl.isList;exact Nat.ne_of_lt (Heap.lt_size eo)
 refine Call_ (lV I hg hm boot_tuple (callWith_type1 ?_ st2 rfl))
 show wpAny _ _ (spliced (backTo pos (starEach [.Call (.Name "reversed" p2) [e] [] pos2] X.env))) _ _ s
 rw [st2];refine Calls.spliced_cons (eY inner fun v s1 ⟨J,l,its,ys,H1,ev,I1,fp,rs,ne,rv,hz,q⟩=>Calls.spliced_nil ?_);subst ev;have len:=rv.length;refine N6 (I1.ok.hd hc) ne rs (by simp only [size_toArray]; omega) fun s' acc hm ha=>?_
 have I2:Inv X pins σ H1 s':=by
  rw [hm.eq_with];exact I1.turns (t':=s'.toks) (ch:=[J]) (fun b hb=>by rw [aL.mp hb]; exact fp) hm.heap
 have hv:Vals ys.reverse acc.toList:=by rw [N7 ha]; simpa using Q7 rv
 refine ⟨.ref s'.heap.objs.size,_,I2.laid (t':=s'.toks) (o:=.tup ys.reverse) (fun b o e=>aq _ e) (aM _) ?_,rfl,q _ (I2.hok.fresh (aM _))⟩;exact ⟨by rw [List.length_reverse]; exact hz,acc.toList,hv,by simpa using IsTup.new s'.heap acc⟩
end
end L2
namespace Tw
open PySem L2
inductive Kd where
 | non | bl | int | str | lst | tup | ins (C:aB)
def Kd.ty:Kd->aC
 | .non=>.type "NoneType"
 | .bl=>.type "bool"
 | .int=>.type "int"
 | .str=>.type "str"
 | .lst=>.type "list"
 | .tup=>.type "tuple"
 | .ins C=>.ref C
inductive BT where
 | bool | int | str | list | tuple
def BT.nm:BT->String
 | .bool=>"bool" | .int=>"int" | .str=>"str" | .list=>"list" | .tuple=>"tuple"
def bi:Kd->BT->Bool
 | .bl,.bool=>true
 | .bl,.int=>true
 | .int,.int=>true
 | .str,.str=>true
 | .lst,.list=>true
 | .tup,.tuple=>true
 | _,_=>false
structure Fx (K:Fg) (C:aB):Prop where
 cl:Cls K C
 ha:findIn K (.ref C) "__class__"=some (some (.builtin "object.__class__"))
 hn:specialIn K (.builtin "object.__class__") "__get__"=some (some (.builtin "getset_descriptor.__get__"))
 htk:takesIn K (.builtin "object.__class__")=some true
 hm:mroIn K C (.type "object")=some true
 no:∀ b:BT,kitOne K (.ref C) (.type b.nm)=some false
noncomputable def fK (K:Fg) (H:Hp) (v:V):Kd->Prop
 | .non=>v=.non
 | .bl=>∃ b,v=.bl b
 | .int=>∃ i,v=.int i
 | .str=>∃ x,v=.str x
 | .lst=>∃ a xs,v=.ref a/\(H a=some (.lst xs)\/∃ o,H a=some (.Cj o (.lst xs)))
 | .tup=>∃ a xs,v=.ref a/\H a=some (.tup xs)
 | .ins C=>∃ a dx fs,v=.ref a/\H a=some (.ins C dx fs)/\Fx K C
theorem fK.tyOf {K:Fg} {H:Hp} {v:V} {k:Kd} (h:fK K H v k):qN K H v k.ty:=by
 cases k with
 | non=>cases h; exact .non
 | bl=>obtain ⟨b,rfl⟩:=h; exact .bl b
 | int=>obtain ⟨i,rfl⟩:=h; exact .int i
 | str=>obtain ⟨x,rfl⟩:=h; exact .str x
 | lst =>
  obtain ⟨a,xs,rfl,e | ⟨o,e⟩⟩:=h
  ·exact .lst e
  ·exact .Cj e
 | tup=>obtain ⟨a,xs,rfl,e⟩:=h; exact .tup e
 | ins C=>obtain ⟨a,dx,fs,rfl,e,t⟩:=h; exact .ins e t.cl t.ha t.hn t.htk t.hm
theorem fK.bi {K:Fg} {H:Hp} {v:V} {k:Kd} (h:fK K H v k) (b:BT):kitOne K k.ty (.type b.nm)=some (bi k b):=by
 cases k with
 | ins C=>obtain ⟨a,dx,fs,rfl,e,t⟩:=h; cases b <;> exact t.no _
 | _=>cases b <;> rfl
theorem fK.same {K:Fg} {H H':Hp} {v:V} {k:Kd} (h:fK K H v k) (s:Same H H'):fK K H' v k:=by
 cases k with
 | lst =>
  obtain ⟨a,xs,rfl,e | ⟨o,e⟩⟩:=h
  ·exact ⟨a,xs,rfl,.inl (s _ _ e)⟩
  ·exact ⟨a,xs,rfl,.inr ⟨o,s _ _ e⟩⟩
 | tup=>obtain ⟨a,xs,rfl,e⟩:=h; exact ⟨a,xs,rfl,s _ _ e⟩
 | ins C=>obtain ⟨a,dx,fs,rfl,e,t⟩:=h; exact ⟨a,dx,fs,rfl,s _ _ e,t⟩
 | _=>exact h
section
variable {X:Cx} {e:Expr} {te:TE} {p pos p2:Pos}
theorem Q8 (b:BT):iy X (.builtin "isinstance") (fun xs H Q=>∃ v k,xs=[v,.ty b.nm]/\fK X.K H v k/\Q (.bl (bi k b)) H):=by
 intro pins s σ H xs us Q I r h;obtain ⟨v,k,rfl,hk,q⟩:=h;exact CW pins s σ H _ us Q I r ⟨v,b.nm,k.ty,bi k b,rfl,hk.bi b,hk.tyOf,q⟩
theorem Q9:iy X (.builtin "isinstance") (fun xs H Q=>∃ v k C b,xs=[v,.ref C]/\fK X.K H v k/\kitOne X.K k.ty (.ref C)=some b/\Q (.bl b) H):=by
 intro pins s σ H xs us Q I r h;obtain ⟨v,k,C,b,rfl,hk,e,q⟩:=h;exact Ft pins s σ H _ us Q I r ⟨v,.ref C,C,k.ty,b,rfl,⟨rfl,e⟩,hk.tyOf,q⟩
theorem uH {x:Str} (b:BT) (hi:X.mg "isinstance"=none) (hx:X.mg x=none) (he:PE X e te) (hg:autoParam (Gl X "isinstance") zau0) (hgx:autoParam (Gl X x) zau0) (hv:bootBuiltins x=some (.type b.nm):=by decide +kernel) (hn:autoParam (x≠"__name__") zau1) (hd:autoParam ((x == ("__debug__":Str))=false) zau1) (h1:autoParam (starEach [e,.Name x p2] X.env=(false,eval e X.env)::starEach [.Name x p2] X.env) zau0) (h2:autoParam ((backTo pos (starEach [.Name x p2] X.env)).any (·.1)=false) zau0) (h3:autoParam (starEach [.Name x p2] X.env=(false,eval (.Name x p2) X.env)::starEach [] X.env) zau0) : PE X (.Call (.Name "isinstance" p) [e,.Name x p2] [] pos) (tCB (fun xs H Q=>∃ v k,xs=[v,.ty b.nm]/\fK X.K H v k/\Q (.bl (bi k b)) H) (xH te (xH (tC (.ty b.nm)) Nq))) := xJ (X:=X) (p:=p) (pos:=pos) (Q8 b) hg hi boot_isinstance (ak he (ak (Lh (T:=b.nm) (pos:=p2) hgx hx hv hn hd) aK h3) h1) (by decide) (by decide) h1 h2
theorem Ra {x:Str} {C:aB} (hi:X.mg "isinstance"=none) (hx:X.mg x=some (.ref C)) (he:PE X e te) (hg:autoParam (Gl X "isinstance") zau0) (hgx:autoParam (Gl X x) zau0) (hd:autoParam ((x == ("__debug__":Str))=false) zau1) (h1:autoParam (starEach [e,.Name x p2] X.env=(false,eval e X.env)::starEach [.Name x p2] X.env) zau0) (h2:autoParam ((backTo pos (starEach [.Name x p2] X.env)).any (·.1)=false) zau0) (h3:autoParam (starEach [.Name x p2] X.env=(false,eval (.Name x p2) X.env)::starEach [] X.env) zau0) : PE X (.Call (.Name "isinstance" p) [e,.Name x p2] [] pos) (tCB (fun xs H Q=>∃ v k C b,xs=[v,.ref C]/\fK X.K H v k/\kitOne X.K k.ty (.ref C)=some b/\Q (.bl b) H) (xH te (xH (tC (.ref C)) Nq))) := xJ (X:=X) (p:=p) (pos:=pos) Q9 hg hi boot_isinstance (ak he (ak (KN (v:=.ref C) (pos:=p2) hgx hx rfl hd) aK h3) h1) (by decide) (by decide) h1 h2
theorem wL {D:aB} {J:It} {σ0:St} {g:TG} {te:TE} {Qe:Hp->Prop} {H1:Hp} (n:Nat) (hn:n<=sizeLine) (y:Nat->V) (Pv:Nat->Hp->Prop) (start:Pv 0 (upd H1 D (.lst []))) (at_:∀ i H,i<=n->Pv i H->H D=some (.lst ((List.range i).map y))) (stop:∀ H,Pv n H->J.stop n H/\Qe H) (go:∀ i H,i < n->Pv i H->J.go i H/\∀ x H',J.Qa i H x H'->∀ Qc:VK,(∀ H3,H3 D=some (.lst ((List.range i).map y))->Pv (i + 1) (upd H3 D (.lst ((List.range (i + 1)).map y)))->Qc (y i) H3)->g x σ0 H' fun σ2 H2=>qG σ0 σ2/\te σ2 H2 Qc) : ∃ W:Nat->Nat->List V->Hp->Prop,(∃ m,W 0 m [] (upd H1 D (.lst [])))/\sV D J σ0 g Fd te Qe W:=by
 refine ⟨fun i m ac H=>i<=n/\m=n - i/\ac=(List.range i).map y/\Pv i H,⟨n,cU _,rfl,rfl,start⟩,?_⟩;rintro i m ac H ⟨le,rfl,rfl,p⟩;refine ⟨at_ i H le p,?_⟩
 by_cases lt:i < n
 ·obtain ⟨g1,step⟩:=go i H lt p;refine .inr ⟨g1,by rw [au,cg]; exact aZ lt hn,fun x H' yl=>?_⟩;simp only [Fd,if_true];refine step x H' yl _ fun H3 hD nx=>?_
  have e:(List.range i).map y++[y i]=(List.range (i + 1)).map y:=by rw [cN,aY]; rfl
  exact ⟨hD,n - (i + 1),by omega,lt,rfl,e,by rw [e]; exact nx⟩
 ·have e:i=n:=by omega
  subst e;exact .inl (stop H p)
theorem aX {H:Hp} {D:aB} {o:HO} (h:H D=none):Same H (upd H D o):=fun b u e=>by rw [bw (cV e h)]; exact e
theorem gZ {x:Str} {id:String} {r:List V->Hp->VK->Prop} {es:List Expr} {t:TA} (hc:iy X (.builtin id) r) (hm:X.mg x=none) (hv:bootBuiltins x=some (.builtin id)) (ha:PA X (e::es) t) (hg:autoParam (Gl X x) zau0) (hn:autoParam (x≠"__name__") zau1) (hdb:autoParam ((x == ("__debug__":Str))=false) zau1) (he:autoParam (starEach (e::es) X.env=(false,eval e X.env)::starEach es X.env) zau0) (hpl:autoParam ((backTo pos (starEach es X.env)).any (·.1)=false) zau0):PE X (.Call (.Name x p) (e::es) [] pos) (tCB r t):=xJ hc hg hm hv ha hn hdb he hpl
theorem oM {x:Str} {u:aC} (v:V) (hm:X.mg x=some u) (r:RelV v u) (hg:autoParam (Gl X x) zau0) (hd:autoParam ((x == ("__debug__":Str))=false) zau1):PE X (.Name x pos) (tC v):=KN hg hm r hd
theorem cL (i:Nat) {x:Str} (hN:X.N.Nodup) (hi:autoParam (X.N[i]?=some x) zau0) (hx:Loc X.env.scope x:=by exact Or.inl rfl) (hf:X.fn x=true\/X.env.scope.names.lookup x=some .local:=by first | exact .inl rfl | exact .inr rfl):PG X (.Name x pos) (Em i):=Wz hN hi hx hf
end
structure anQ (K:Fg) (C:aB) (m:Str) (f:aB):Prop where
 rd:readsIn K C (.type "type")=true
 ga:specialIn K (.ref C) "__getattribute__"=some (some (.builtin "type.__getattribute__"))
 at_:findCls K (.ref C) (.type "type") m=some (.val (.ref f))
 kp:keepIn K (.ref f)=true
section
variable {X:Cx} {CX:zJ} {k:Nat} {f C:aB} {fd:d7} {ps:List Str} {sp:Sp} {qD:List V} {ds:List aC} {E:XK} {x m:Str} {p pos apos:Pos} {e o:Expr} {es:List Expr} {ta:TE} {t:TA}
theorem cH (F:bT X.prog X.w X.K X.mg X.base CX k f fd ps sp) (hr:dJ k X.A) (hm:X.mg x=some (.ref f)) (hk:keepIn X.K (.ref f)=true) (hb:Binds X.K fd ps []) (hx:Passes CX X E) (ha:PA X (e::es) t) (hg:autoParam (Gl X x) zau0) (hdb:autoParam ((x == ("__debug__":Str))=false) zau1) (he:autoParam (starEach (e::es) X.env=(false,eval e X.env)::starEach es X.env) zau0) (hpl:autoParam ((backTo pos (starEach es X.env)).any (·.1)=false) zau0) : PE X (.Call (.Name x p) (e::es) [] pos) (KZ sp [] E t):=qg F hr hg hm hk hb .nil hx ha hdb he hpl
theorem xT (M:Mk X.K C f) (F:bT X.prog X.w X.K X.mg X.base CX k f fd ps sp) (hr:dJ (k + 1) X.A) (hm:X.mg x=some (.ref C)) (hb:Binds X.K fd ps []) (hx:Passes CX X E) (ha:PA X (e::es) t) (hg:autoParam (Gl X x) zau0) (hdb:autoParam ((x == ("__debug__":Str))=false) zau1) (he:autoParam (starEach (e::es) X.env=(false,eval e X.env)::starEach es X.env) zau0) (hpl:autoParam ((backTo pos (starEach es X.env)).any (·.1)=false) zau0) : PE X (.Call (.Name x p) (e::es) [] pos) (Zv C sp [] E t):=WX M F hr hg hm hb .nil hx ha hdb he hpl
theorem Xc {pl:Sem Bool} (hx:X.mg x=some (.ref C)) (hm:anQ X.K C m f) (F:bT X.prog X.w X.K X.mg X.base CX k f fd ps sp) (hr:dJ k X.A) (hb:Binds X.K fd ps []) (hp:Passes CX X E) (ha:PA X (e::es) t) (hg:autoParam (Gl X x) zau0) (hdb:autoParam ((x == ("__debug__":Str))=false) zau1) (hst:autoParam (starEach (e::es) X.env=(false,eval e X.env)::starEach es X.env) zau0) (hpl:autoParam ((backTo pos (starEach es X.env)).any (·.1)=false) zau0) (ht:autoParam (eval (.Call (.Attribute (.Name x p) m apos) (e::es) [] pos) X.env=(do
   let ov <- eval (.Name x p) X.env
   standAt apos.atName
   let (f,first) <- holding [ov] (getMethod ov m pl)
   callWith pos f first (backTo pos (starEach (e::es) X.env)) (backToKw pos (keywordEach [] X.env)))) zau0) :
  PE X (.Call (.Attribute (.Name x p) m apos) (e::es) [] pos) (KZ sp [] E t):=by
 intro pins s σ H Q I h;refine methodCall_KW (pl:=pl) (lO I hg hx ?_ hdb) ht;refine PySem.W.method_cls I.oU hm.ga (PySem.W.cls_value I.oU hm.rd hm.at_ rfl ?_);have I1:=I.tok (s.toks + 1);refine callWith_K (h₀:=X.base) I.ok.mod.Pq hm.kp (eY (ha pos pins _ σ H _ I1 h) fun us s2 ⟨vs,H2,I2,r,q2⟩=>⟨I2.oU,?_⟩) hst hpl;exact qO F hr hb .nil hp I2 r q2
noncomputable def Rb (Cs:aB->Prop) (m:Str) (sp:aB->Sp) (E:XK) (ta:TE) (t:TA):TE:=fun σ H Q=>ta σ H fun x H1=>∃ a C dx fs,x=.ref a/\H1 a=some (.ins C dx fs)/\Cs C/\fs.lookup m=none/\t σ H1 fun vs H2=>sp C (x::vs) H2 Q E
theorem Fy {pl:Sem Bool} {sp:aB->Sp} {Cs:aB->Prop} (he:PE X o ta) (hr:dJ k X.A) (hC:∀ C,Cs C->∃ f fd,Cls X.K C/\Meth X.K C m f/\bT X.prog X.w X.K X.mg X.base CX k f fd ps (sp C)/\Binds X.K fd ps []) (hx:Passes CX X E) (ha:PA X (e::es) t) (hst:autoParam (starEach (e::es) X.env=(false,eval e X.env)::starEach es X.env) zau0) (hpl:autoParam ((backTo pos (starEach es X.env)).any (·.1)=false) zau0) (ht:autoParam (eval (.Call (.Attribute o m apos) (e::es) [] pos) X.env=(do
   let ov <- eval o X.env
   standAt apos.atName
   let (f,first) <- holding [ov] (getMethod ov m pl)
   callWith pos f first (backTo pos (starEach (e::es) X.env)) (backToKw pos (keywordEach [] X.env)))) zau0) :
  PE X (.Call (.Attribute o m apos) (e::es) [] pos) (Rb Cs m sp E ta t):=by
 intro pins s σ H Q I h;refine methodCall_KW (pl:=pl) (eY (he pins s σ H _ I h) fun u s1 ⟨x,H1,I1,rx,a,C,dx,fs,ex,ea,cs,l,q⟩=>?_) ht;subst ex;obtain rfl:u=Value.ref a:=rx;obtain ⟨f,fd,c,hm,F,hb⟩:=hC C cs;refine jQ I1 ea c hm l ?_;refine callWith_K (first:=[.ref a]) (h₀:=X.base) I.ok.mod.Pq hm.kp (eY (ha pos pins s1 σ H1 _ I1 q) fun us s2 ⟨vs,H2,I2,r,q2⟩=>⟨I2.oU,?_⟩) hst hpl;have:=qO (us:=.ref a::us) (vs:=.ref a::vs) (qD:=[]) (ds:=[]) (Q:=Q) F hr hb .nil hx I2 (.cons rfl r) (by rw [cZ]; exact q2);exact this
theorem vW (K:Fg) {fl:Str} (he:PE X o ta) (hK:autoParam (X.K=K) zau0) (hb:autoParam (attributeBase o fl X.env (eval o X.env)=eval o X.env) zau0):PE X (.Attribute o fl pos) (af6 K ta fl):=by
 subst hK;exact cJ he hb
end
theorem jW {D:aB} {J:It} {σ0:St} {g:TG} {te:TE} {Qe:Hp->Prop} {H1:Hp} (n:Nat) (hn:n<=sizeLine) (Pv:Nat->List V->Hp->Prop) (start:Pv 0 [] (upd H1 D (.lst []))) (at_:∀ i acc H,i<=n->Pv i acc H->acc.length=i/\H D=some (.lst acc)) (stop:∀ acc H,Pv n acc H->J.stop n H/\Qe H) (go:∀ i acc H,i < n->Pv i acc H->J.go i H/\∀ x H',J.Qa i H x H'->∀ Qc:VK,(∀ v H3,H3 D=some (.lst acc)->Pv (i + 1) (acc++[v]) (upd H3 D (.lst (acc++[v])))->Qc v H3)->g x σ0 H' fun σ2 H2=>qG σ0 σ2/\te σ2 H2 Qc) : ∃ W:Nat->Nat->List V->Hp->Prop,(∃ m,W 0 m [] (upd H1 D (.lst [])))/\sV D J σ0 g Fd te Qe W:=by
 refine ⟨fun i m ac H=>i<=n/\m=n - i/\Pv i ac H,⟨n,cU _,rfl,start⟩,?_⟩;rintro i m ac H ⟨le,rfl,p⟩;obtain ⟨la,hD⟩:=at_ i ac H le p;refine ⟨hD,?_⟩
 by_cases lt:i < n
 ·obtain ⟨g1,step⟩:=go i ac H lt p;refine .inr ⟨g1,by rw [la]; exact aZ lt hn,fun x H' yl=>?_⟩;simp only [Fd,if_true];refine step x H' yl _ fun v H3 hD nx=>?_
  exact ⟨hD,n - (i + 1),by omega,lt,rfl,nx⟩
 ·have e:i=n:=by omega
  subst e;exact .inl (stop ac H p)
theorem Lk {D:aB} {J:It} {σ0:St} {g:TG} {tc:TT} {te:TE} {Qe:Hp->Prop} {H1:Hp} (n:Nat) (hn:n<=sizeLine) (Pv:Nat->List V->Hp->Prop) (start:Pv 0 [] (upd H1 D (.lst []))) (at_:∀ i acc H,i<=n->Pv i acc H->acc.length<=i/\H D=some (.lst acc)) (stop:∀ acc H,Pv n acc H->J.stop n H/\Qe H) (go:∀ i acc H,i < n->Pv i acc H->J.go i H/\∀ x H',J.Qa i H x H'->∀ (Qc:VK) (Qn:Hp->Prop),(∀ v H3,H3 D=some (.lst acc)->Pv (i + 1) (acc++[v]) (upd H3 D (.lst (acc++[v])))->Qc v H3)->(∀ H3,Pv (i + 1) acc H3->Qn H3) -> g x σ0 H' fun σ2 H2=>qG σ0 σ2/\tc σ2 H2 fun b H3=>if b=true then te σ2 H3 Qc else Qn H3) : ∃ W:Nat->Nat->List V->Hp->Prop,(∃ m,W 0 m [] (upd H1 D (.lst [])))/\sV D J σ0 g tc te Qe W:=by
 refine ⟨fun i m ac H=>i<=n/\m=n - i/\Pv i ac H,⟨n,cU _,rfl,start⟩,?_⟩;rintro i m ac H ⟨le,rfl,p⟩;obtain ⟨la,hD⟩:=at_ i ac H le p;refine ⟨hD,?_⟩
 by_cases lt:i < n
 ·obtain ⟨g1,step⟩:=go i ac H lt p;refine .inr ⟨g1,Nat.lt_of_le_of_lt la (aZ lt hn),fun x H' yl=>?_⟩;exact step x H' yl _ _ (fun v H3 hD nx=>⟨hD,n - (i + 1),by omega,lt,rfl,nx⟩) (fun H3 nx=>⟨n - (i + 1),by omega,lt,rfl,nx⟩)
 ·have e:i=n:=by omega
  subst e;exact .inl (stop ac H p)
theorem jz {X:Cx} {scope:Scope} {cl:List (Str × aB)} {N':List Str} (cap:List (Option Nat)) (N:List Str) (sn rn:List (Str × NameKind)) (ks:List Str) (kind:scope.kind=.function) (o7:∀ y ∈ scope.names,y.2≠.cell) (names:∀ y ∈ scope.names,y.2=.local->scope.names.lookup y.1=some .local) (clos:closureFor scope X.env=pure cl) (sub:∀ p ∈ cl,X.env.cells.lookup p.1=some p.2) (hN:X.N=N) (hs:X.env.scope.names=sn) (rel:(relabel scope X.env).names=rn) (hk:cl.map (·.1)=ks) (has:∀ y ∈ rn,(y.2=.cell\/y.2=.free)->y.1 ∈ ks) (len:cap.length=N'.length) (cp:∀ p ∈ cap.zip N',∀ j,p.1=some j->N[j]?=some p.2/\sn.lookup p.2=some .cell/\rn.lookup p.2=some .cell):gR X scope cl N' cap:=by
 refine ⟨kind,o7,names,clos,fun n c h=>?_,fun n h=>?_,len,fun i j x h1 h2=>?_⟩
 ·exact sub (n,c) (PySem.mem_of_lookup h)
 ·rw [rel] at h;have hm:n ∈ cl.map (·.1):=by
   rw [hk];rcases h with h | h
   ·exact has _ (PySem.mem_of_lookup h) (.inl rfl)
   ·exact has _ (PySem.mem_of_lookup h) (.inr rfl)
  obtain ⟨p,hp,rfl⟩:=bh.mp hm;cases e:cl.lookup p.1 with
  | some c=>exact ⟨c,rfl⟩
  | none =>
   rw [List.lookup_eq_none_iff] at e;exact absurd (beq_self_eq_true p.1) (by have:=e p hp; simpa using this)
 ·rw [hN,hs,rel];refine cp (some j,x) ?_ j rfl;rw [List.mem_iff_getElem?];exact ⟨i,by rw [List.getElem?_zip_eq_some]; exact ⟨h1,h2⟩⟩
theorem qR {r:St} {x:Option V}:qG (none::r) ((none::r).set 0 x):=by
 intro j v h;cases j with
 | zero=>simp at h
 | succ j=>exact h
theorem cD {α β:Type} {R:α->β->Prop}:∀ {xs:List α} {ys:List β} {i:Nat} {x:α},Paired R xs ys->xs[i]?=some x->∃ y,ys[i]?=some y/\R x y
 | _,_,_,_,.nil,e=>by simp at e
 | _,_,0,_,.cons r _,e=>by simp at e; subst e; exact ⟨_,rfl,r⟩
 | _,_,i + 1,_,.cons _ t,e=>cD (i:=i) t (by simpa using e)
theorem take_snoc {α:Type} {xs:List α} {i:Nat} {x:α} (h:xs[i]?=some x):xs.take (i + 1)=xs.take i++[x]:=by
 rw [List.take_add_one,h]; rfl
theorem Fz {x:V} (h:jt x=true):HD x x=true:=by
 cases x <;> first | rfl | (simp [HD]; done) | exact absurd h (by simp [jt])
abbrev Rep (α:Type):=Hp->V->α->Prop
structure zV {α:Type} [DecidableEq α] (K:Fg) (n:Nat) (R:Rep α):Prop where
 same:∀ {H H':Hp} {v:V} {x:α},R H v x->Same H H'->R H' v x
 one:∀ {H:Hp} {v:V} {x y:α},R H v x->R H v y->x=y
 eq:∀ {H:Hp} {v w:V} {x y:α},R H v x->R H w y->Ei K H n v w (decide (x=y))
def pA:Rep Int:=fun _ v i=>v=.int i
def Xd:Rep Str:=fun _ v x=>v=.str x
def FJ {α:Type} (R:Rep α):Rep (List α):=fun H v xs=>∃ t vs,v=.ref t/\H t=some (.tup vs)/\Paired (R H) vs xs
def jH {α:Type} (R:Rep α):Rep (List α):=fun H v xs=>∃ t vs,v=.ref t/\H t=some (.lst vs)/\Paired (R H) vs xs
def Rc {α β:Type} (R:Rep α) (S:Rep β):Rep (α × β):=fun H v c=>∃ t u w,v=.ref t/\H t=some (.tup [u,w])/\R H u c.1/\S H w c.2
def FN {α β γ:Type} (R:Rep α) (S:Rep β) (T:Rep γ):Rep (α × β × γ):=fun H v c=>∃ t u w z,v=.ref t/\H t=some (.tup [u,w,z])/\R H u c.1/\S H w c.2.1/\T H z c.2.2
section
variable {K:Fg} {α β γ:Type} [DecidableEq α] [DecidableEq β] [DecidableEq γ] {n:Nat} {R:Rep α} {S:Rep β} {T:Rep γ}
theorem eq_int:zV K n pA:=⟨fun h _=>h,fun h h'=>by cases h; cases h'; rfl,fun {H v w x y} h h'=>by
 cases h; cases h';have:=Ei.flat (K:=K) (H:=H) (n:=n) (x:=.int x) (y:=.int y) rfl rfl;have e:HD (.int x) (.int y)=decide (x=y):=by
  show (x == y)=_
  by_cases z:x=y <;> simp [z]
 rw [e] at this;exact this⟩
theorem eq_str:zV K n Xd:=⟨fun h _=>h,fun h h'=>by cases h; cases h'; rfl,fun {H v w x y} h h'=>by
 cases h; cases h';have:=Ei.flat (K:=K) (H:=H) (n:=n) (x:=.str x) (y:=.str y) rfl rfl;have e:HD (.str x) (.str y)=decide (x=y):=by
  show (x == y)=_
  by_cases z:x=y <;> simp [z]
 rw [e] at this;exact this⟩
theorem sX:∀ (xs ys:List α),((List.range (min xs.length ys.length)).all (fun j=>decide (xs[j]?=ys[j]?)) && xs.length == ys.length)=decide (xs=ys)
 | [],[]=>rfl
 | [],y::ys=>by simp
 | x::xs,[]=>by simp
 | x::xs,y::ys=>by
  have ih:=sX xs ys;have e:min (x::xs).length (y::ys).length=min xs.length ys.length + 1:=by simp only [length_cons]; omega
  rw [e,List.range_succ_eq_map,all_cons,all_map];have e2:((fun j=>decide ((x::xs)[j]?=(y::ys)[j]?)) ∘ Nat.succ)=fun j=>decide (xs[j]?=ys[j]?):=by
   funext j
   simp
  rw [e2];have e3:((x::xs).length == (y::ys).length)=(xs.length == ys.length):=by simp
  rw [e3,Bool.and_assoc,ih]
  by_cases z:x=y <;> by_cases z':xs=ys <;> simp [z,z']
theorem uI {H:Hp} (h:zV K n R) {vs ws:List V} {xs ys:List α} (p:Paired (R H) vs xs) (q:Paired (R H) ws ys):∀ (j:Nat) x y,vs[j]?=some x->ws[j]?=some y->Ei K H n x y (decide (xs[j]?=ys[j]?)):=by
 intro j v w hv hw;obtain ⟨x,hx,rx⟩:=cD p hv;obtain ⟨y,hy,ry⟩:=cD q hw;rw [hx,hy];have:=h.eq rx ry;have e:decide (some x=some y)=decide (x=y):=by by_cases z:x=y <;> simp [z]
 rw [e];exact this
theorem Xe (h:zV K n R) (g:zV K n S) (f:zV K n T):zV K (n + 1) (FN R S T):=by
 refine ⟨fun {H H' v xs} r s=>?_,fun {H v c c'} r r'=>?_,fun {H v w c c'} r r'=>?_⟩
 ·obtain ⟨t,u,w,z,e,ht,p,q,y⟩:=r;exact ⟨t,u,w,z,e,s _ _ ht,h.same p s,g.same q s,f.same y s⟩
 ·obtain ⟨t,u,w,z,rfl,ht,p,q,y⟩:=r;obtain ⟨t',u',w',z',e,ht',p',q',y'⟩:=r';cases e;rw [ht] at ht';cases ht';exact Prod.ext (h.one p p') (Prod.ext (g.one q q') (f.one y y'))
 ·obtain ⟨t,u,w,z,rfl,ht,p,q,y⟩:=r;obtain ⟨t',u',w',z',rfl,ht',p',q',y'⟩:=r'
  by_cases e:t=t'
  ·subst e;rw [ht] at ht';cases ht';rw [aO (Prod.ext (h.one p p') (Prod.ext (g.one q q') (f.one y y')))];exact .self
  ·have:=Ei.tup (n:=n) (e:=fun j=>if j=0 then decide (c.1=c'.1) else if j=1 then decide (c.2.1=c'.2.1) else decide (c.2.2=c'.2.2)) e (d8.of (K:=K) ht) (d8.of (K:=K) ht') fun j x y hx hy=>by
    rcases j with _ | _ | _ | j
    ·cases hx; cases hy; exact h.eq p p'
    ·cases hx; cases hy; exact g.eq q q'
    ·cases hx; cases hy; exact f.eq y y'
    ·cases hx
   have ee:((List.range (min [u,w,z].length [u',w',z'].length)).all (fun j=>if j=0 then decide (c.1=c'.1) else if j=1 then decide (c.2.1=c'.2.1) else decide (c.2.2=c'.2.2)) && [u,w,z].length == [u',w',z'].length)=decide (c=c'):=by
    show ((decide (c.1=c'.1) && (decide (c.2.1=c'.2.1) && (decide (c.2.2=c'.2.2) && true))) && true)=_
    obtain ⟨c1,c2,c3⟩:=c;obtain ⟨d1,d2,d3⟩:=c'
    by_cases z:c1=d1 <;> by_cases z':c2=d2 <;> by_cases z'':c3=d3 <;> simp [z,z',z'']
   rw [ee] at this;exact this
theorem ax6 {H:Hp} {Q:VK} {v w:V} {xs ys:List α} (h:zV K n R) (hn:n<=50) (r:jH R H v xs) (r':jH R H w ys) (q:Q (.bl (decide (xs=ys))) H):Q0 K false v w H Q:=by
 obtain ⟨t,vs,rfl,ht,p⟩:=r;obtain ⟨t',vs',rfl,ht',p'⟩:=r';have l1:=Paired.length p;have l2:=Paired.length p';refine ⟨t,t',vs,vs',n,_,rfl,rfl,cW.of ht,cW.of ht',hn,fun _=>uI h p p',fun len=>?_,fun len=>?_⟩
 ·have ea:=sX xs ys;have len':xs.length=ys.length:=by omega
  rw [len',Nat.min_self,beq_self_eq_true,Bool.and_true] at ea;rw [Bool.false_xor,l1,len',ea];exact q
 ·rw [aP (fun z=>len (by rw [l1,l2,z]))] at q;exact q
theorem agy {H:Hp} {Q:VK} {v w:V} {xs ys:List α} (h:zV K n R) (hn:n<=50) (r:jH R H v xs) (r':jH R H w ys) (q:Q (.bl (!decide (xs=ys))) H):Q0 K true v w H Q:=by
 obtain ⟨t,vs,rfl,ht,p⟩:=r;obtain ⟨t',vs',rfl,ht',p'⟩:=r';have l1:=Paired.length p;have l2:=Paired.length p';refine ⟨t,t',vs,vs',n,_,rfl,rfl,cW.of ht,cW.of ht',hn,fun _=>uI h p p',fun len=>?_,fun len=>?_⟩
 ·have ea:=sX xs ys;have len':xs.length=ys.length:=by omega
  rw [len',Nat.min_self,beq_self_eq_true,Bool.and_true] at ea;rw [Bool.true_xor,l1,len',ea];exact q
 ·rw [aP (fun z=>len (by rw [l1,l2,z]))] at q;exact q
end
end Tw
namespace L2
open PySem PySem.Spec PyProof.Rows
section
variable {X:Cx}
def anR:R2:=fun x y H Q=>∃ a b xs ys,x=.ref a/\y=.ref b/\H a=some (.tup xs)/\H b=some (.tup ys)/\xs.length + ys.length<=sizeLine/\∀ p H',Same H H'->H' p=some (.tup (xs++ys))->Q (.ref p) H'
theorem Ln:oJ X (binaryOp .Add) anR:=by
 intro pins s σ H x y v u Q I rx ry h;obtain ⟨a,b,xs,ys,rfl,rfl,ha,hb,hz,q⟩:=h
 by_cases hx:xs=[]
 ·subst hx;cases rx;cases ry;obtain ⟨its,r1,p1,_⟩:=I.tuple (d8.of (K:=X.K) ha);obtain ⟨its2,r2,p2,_⟩:=I.tuple (d8.of (K:=X.K) hb);cases r1;obtain ⟨⟨c1,d1,e1,l1⟩,ho,hc,n,hd⟩:=id p1;obtain ⟨⟨c2,d2,e2,l2⟩,ho2,hc2,n2,hd2⟩:=id p2;simp only at hc hd hc2 hd2;subst hc hd hc2 hd2;exact concat_meets ⟨_,ho,rfl⟩ ⟨_,ho2,rfl⟩ noFill_tuple_add seq_tuple_add PySem.F.slot_tuple_add PySem.F.entry_tuple_add (PySem.F.args_tuple_add_2 _ _) (tuple_addW0 a b _ _ n n2 d1 d2 l1 l2 rfl) ⟨ho,ho2,⟨.ref b,H,I,rfl,q b H (Same.refl _) hb⟩⟩
 ·refine K5 pins s σ H _ _ v u Q I rx ry ⟨a,b,xs,ys,rfl,rfl,d8.of ha,d8.of hb,hx,hz,fun z=>?_,fun _ p hp=>?_⟩
  ·subst z;exact q a H (Same.refl _) (by rw [cZ]; exact ha)
  ·exact q p _ (fun b o e=>by rw [bw (cV e hp)]; exact e) aG
end
def lY (n b:Int):Bool:=decide (Builtin.bitAnd (n / 2 ^ b.toNat) 1=1)
noncomputable def Ite (K:Fg) (l:aB):It := ⟨fun i H=>∃ xs x,cW K H l xs/\xs[i]?=some x,fun i H v H'=>∃ T,H T=none/\v=.ref T/\∀ xs x,cW K H l xs->xs[i]?=some x->H'=upd H T (.tup [.int (i:Nat),x]),fun i H=>∃ xs,cW K H l xs/\xs.length<=i⟩
structure Xf (e it l:aB) (i:Nat) (h:Heap):Prop where
 cell:∃ old,IsEnum h e it i old
 one:h.IsListIter it l i
theorem Oa {P:bZ} {w:World} {K:Fg} {elts:List Expr} {k:Nat} {pos:Pos} {e it l:aB} (ne:e≠it):Turn P w K (.Tuple elts k pos) (Ite K l) [e,it] e (Xf e it l) where
 mem:=by simp
 obj:=fun i h R c hc=>by
  obtain ⟨old,q0⟩:=R.cell;obtain ⟨o1,q1,_,d1⟩:=R.one;simp only [aQ,not_mem_nil,or_false] at hc;rcases hc with rfl | rfl
  ·exact ⟨_,q0,fun v q=>by cases q⟩
  ·exact ⟨o1,q1,fun v q=>by rw [d1] at q; cases q⟩
 keep:=fun i h h' R kp=>by
  obtain ⟨old,q0⟩:=R.cell;obtain ⟨o1,q1,r1⟩:=R.one;exact ⟨⟨old,kp e (by simp) _ q0⟩,⟨o1,kp it (by simp) _ q1,r1⟩⟩
 item:=by
  intro X hP hw hK hc i pins s σ H E I hf R go;subst hP hw hK;obtain ⟨xs,x,sx,hx⟩:=go;obtain ⟨its,v1,p1,_⟩:=I.list sx;obtain ⟨ux,gx,rx⟩:=v1.get hx;obtain ⟨old,q0⟩:=R.cell;have fr:s.heap.get? s.heap.objs.size=none:=Heap.get?_none_of_le (aM _);have there:∀ c ∈ [e,it],∃ o,s.heap.get? c=some o:=fun c hc=>by
   obtain ⟨o1,q1,_⟩:=R.one;simp only [aQ,not_mem_nil,or_false] at hc;rcases hc with z | z <;> rw [z]
   ·exact ⟨_,q0⟩
   ·exact ⟨_,q1⟩
  have elt:s.heap.objs.size≠e:=Nat.ne_of_gt (Heap.lt_size q0);refine wpAny_pyNext_enum_item q0 R.one p1.isList (x:=ux) (by simpa using gx) ne fun h1 c1 o1 pr _ past=>⟨.ref s.heap.objs.size,rfl,wpAny_letOwnedTupleGo_enum (s:={ s with heap:=h1,toks:=s.toks + 1 }) c1 fun h2 c2 sb=>?_⟩
  have pr2:=sb.extBut _ _ elt pr;refine ⟨.ref s.heap.objs.size,upd H s.heap.objs.size (.tup [.int (i:Nat),x]),Inv.drawn (h':=h2) (t':=s.toks + 1) (ch:=[e,it]) (s:=s) I hf (fun c o out q=>?_) fr ⟨Lf,[.int (i:Nat) s.toks,ux],.cons ⟨_,rfl⟩ (.cons rx .nil),⟨_,pr2,rfl,_,rfl⟩⟩,rfl,⟨_,I.hok.none_of fr,rfl,fun xs' x' sx' hx'=>?_⟩,⟨⟨_,c2⟩,?_⟩,fun c hc=>?_⟩
  ·simp only [aQ,not_mem_nil,or_false,not_or] at out;exact sb.extBut c o out.1 (past c o out.1 out.2 q)
  ·have e1:=I.rT sx' sx;subst e1;rw [hx] at hx';cases hx'; rfl
  ·exact o1.extBut sb.extBut (Ne.symm ne)
  ·obtain ⟨o,q⟩:=there c hc;rw [bw (fun z=>by rw [z,fr] at q; cases q)];exact (hf c hc).1
 done:=by
  intro X hP hw hK hc i pins s σ H E I hf R stop;subst hP hw hK;obtain ⟨xs,sx,le⟩:=stop;obtain ⟨its,v1,p1,_⟩:=I.list sx;obtain ⟨old,q0⟩:=R.cell;have l1:=v1.length;refine wpAny_pyNext_enum_end (I.ok.hd hc) q0 R.one p1.isList (by simp; omega) fun h' past=>⟨rfl,I.turns (t':=s.toks) (ch:=[e,it]) hf fun c o out q=>?_⟩
  simp only [aQ,not_mem_nil,or_false,not_or] at out;exact past c o out.2 q
 self:=fun _ _ _ _ _ R q=>by
  obtain ⟨old,q0⟩:=R.cell;exact wpAny_pyIter_enum q0 q
section
variable {X:Cx}
def anS (K:Fg) (ta:TA):TI:=fun σ H R=>ta σ H fun vs H1=>∃ l xs,vs=[.ref l]/\cW K H1 l xs/\R (Ite K l) H1
theorem CZ {e1:Expr} {elts:List Expr} {k:Nat} {tp p pos:Pos} {ta:TA} (hg:Gl X "enumerate") (hm:X.mg "enumerate"=none) (ha:PA X [e1] ta) (st1:autoParam (starEach [e1] X.env=[(false,eval e1 X.env)]) zau0) : PI X (.Tuple elts k tp) (.Call (.Name "enumerate" p) [e1] [] pos) (anS X.K ta):=by
 intro pins s σ H R I h;refine Call_ (lV I hg hm boot_enumerate (callWith_type1 (eY (ha pos pins s σ H _ I h) fun us a ⟨vs,H1,I1,r,q⟩=>?_) (by rw [st1]; rfl) (by rfl)));obtain ⟨l,xs,e,sx,q⟩:=q;subst e;obtain ⟨u1,e,r1⟩:=vals1 r;subst e;cases r1;obtain ⟨its,v1,p1,_⟩:=I1.list sx;refine call_enumerate_list p1.isList fun h' c1 o1 _ old=>?_
 have I2:Inv X pins σ H1 { a with heap:=h' }:=I1.kept (t':=a.toks) old;refine wpAny_pyIter_enum (s:={ a with heap:=h' }) c1 ⟨_,[a.heap.objs.size + 1,a.heap.objs.size],_,_,H1,rfl,I2,Oa (Nat.succ_ne_self _),⟨⟨_,c1⟩,o1⟩,fun b hb=>?_,q⟩;have le:a.heap.objs.size<=b:=by
  have hb2:b=a.heap.objs.size + 1\/b=a.heap.objs.size:=by simpa using hb
  rcases hb2 with e | e <;> rw [e] <;> first | exact Nat.le_add_right _ _ | exact aM _
 exact I1.Cq (H':=H1) le (I1.hok.fresh le)
end
end L2
namespace Tw
open PySem L2
theorem gK {H H':Hp} {D:aB} {o:HO} (s:Same H H') (h:H D=none):Same H (L2.upd H' D o):=fun b u e=>by rw [bw (cV e h)]; exact s b u e
structure xU {α:Type} (R:Rep α):Prop where
 same:∀ {H H':Hp} {v:V} {x:α},R H v x->Same H H'->R H' v x
 upd:∀ {H:Hp} {v:V} {x:α} {D:aB} {zs:List V} {o:HO},R H v x->H D=some (.lst zs)->R (L2.upd H D o) v x
section
variable {K:Fg} {α β γ:Type} {R:Rep α} {S:Rep β} {T:Rep γ}
theorem iM:xU pA:=⟨fun h _=>h,fun h _=>h⟩
theorem Xg:xU Xd:=⟨fun h _=>h,fun h _=>h⟩
theorem xV (s:xU R):xU (FJ R):=by
 refine ⟨fun {H H' v x} h q=>?_,fun {H v x D zs o} h q=>?_⟩
 ·obtain ⟨t,vs,e,ht,p⟩:=h;exact ⟨t,vs,e,q _ _ ht,Paired.jd p fun _ _ z=>s.same z q⟩
 ·obtain ⟨t,vs,e,ht,p⟩:=h;exact ⟨t,vs,e,by rw [bw (vR ht q (by intro z; cases z))]; exact ht,Paired.jd p fun _ _ z=>s.upd z q⟩
theorem xW (s:xU R) (s':xU S):xU (Rc R S):=by
 refine ⟨fun {H H' v x} h q=>?_,fun {H v x D zs o} h q=>?_⟩
 ·obtain ⟨t,u,w,e,ht,p,p'⟩:=h;exact ⟨t,u,w,e,q _ _ ht,s.same p q,s'.same p' q⟩
 ·obtain ⟨t,u,w,e,ht,p,p'⟩:=h;exact ⟨t,u,w,e,by rw [bw (vR ht q (by intro z; cases z))]; exact ht,s.upd p q,s'.upd p' q⟩
theorem FP (s:xU R) (s':xU S) (s'':xU T):xU (FN R S T):=by
 refine ⟨fun {H H' v x} h q=>?_,fun {H v x D zs o} h q=>?_⟩
 ·obtain ⟨t,u,w,z,e,ht,p,p',p''⟩:=h;exact ⟨t,u,w,z,e,q _ _ ht,s.same p q,s'.same p' q,s''.same p'' q⟩
 ·obtain ⟨t,u,w,z,e,ht,p,p',p''⟩:=h;exact ⟨t,u,w,z,e,by rw [bw (vR ht q (by intro z; cases z))]; exact ht,s.upd p q,s'.upd p' q,s''.upd p'' q⟩
theorem jH.same (s:xU R) {H H':Hp} {v:V} {xs:List α} (h:jH R H v xs) (q:Same H H'):jH R H' v xs:=by
 obtain ⟨t,vs,e,ht,p⟩:=h;exact ⟨t,vs,e,q _ _ ht,Paired.jd p fun _ _ z=>s.same z q⟩
theorem Ar {H:Hp} {vs:List V} {xs:List α} (p:Paired (R H) vs xs) {i:Nat} {x:α} (h:xs[i]?=some x):∃ v,vs[i]?=some v/\R H v x:=by
 have lt:i < vs.length:=by rw [Paired.length p]; exact (aD.mp h).1
 obtain ⟨y,hy,r⟩:=cD p (aA lt);rw [h] at hy;cases hy;exact ⟨_,aA lt,r⟩
theorem pB (sR:xU R) (sS:xU S) {l D:aB} {H:Hp} {xs:List α} {σ0:St} {g:TG} {te:TE} {Qe:Hp->Prop} (f:α->β) (hl:jH R H (.ref l) xs) (hz:xs.length<=sizeLine) (hD:H D=none) (body:∀ (i:Nat) x v H2,xs[i]?=some x->R H2 v x->Same H H2->∀ Qc:VK,(∀ u H3,Same H2 H3->S H3 u (f x)->Qc u H3)->g v σ0 H2 fun σ2 H'=>qG σ0 σ2/\te σ2 H' Qc) (q:∀ H',Same H H'->jH S H' (.ref D) (xs.map f)->Qe H') : ∃ W:Nat->Nat->List V->Hp->Prop,(∃ m,W 0 m [] (L2.upd H D (.lst [])))/\sV D (Zo K l) σ0 g Fd te Qe W:=by
 obtain ⟨l',vs,el,hv,pv⟩:=hl;cases el;have ln:=Paired.length pv;refine jW xs.length hz (fun i acc H'=>Same H H'/\H' D=some (.lst acc)/\Paired (S H') acc ((xs.take i).map f)) ⟨aX hD,aG,.nil⟩ (fun i acc H' le ⟨_,e,p⟩=>⟨?_,e⟩) ?_ ?_
 ·rw [Paired.length p,au,length_take]; omega
 ·rintro acc H' ⟨s',e,p⟩;rw [bO] at p;exact ⟨⟨vs,cW.of (s' _ _ hv),by omega⟩,q H' s' ⟨D,acc,rfl,e,p⟩⟩
 ·rintro i acc H' lt ⟨s',e,p⟩;have hx:xs[i]?=some xs[i]:=aA lt;obtain ⟨v,hvi,rv⟩:=Ar pv hx;have sq:cW K H' l vs:=cW.of (s' _ _ hv);refine ⟨⟨vs,v,sq,hvi⟩,?_⟩;rintro y Eh ⟨rfl,hy⟩ Qc k;have ey:=hy vs sq;rw [hvi] at ey;cases ey;refine body i xs[i] v Eh hx (sR.same rv s') s' Qc fun u H3 s3 ru=>?_
  have e3:=s3 _ _ e;refine k u H3 e3 ⟨gK (s'.trans s3) hD,aG,?_⟩;rw [take_snoc hx,aY];exact Paired.snoc (Paired.jd p fun _ _ z=>sS.upd (sS.same z s3) e3) (sS.upd ru e3)
theorem Ja (sR:xU R) (sS:xU S) {l D:aB} {H:Hp} {xs:List α} {σ0:St} {g:TG} {tc:TT} {te:TE} {Qe:Hp->Prop} (pr:α->Bool) (f:α->β) (hl:jH R H (.ref l) xs) (hz:xs.length<=sizeLine) (hD:H D=none) (body:∀ (i:Nat) x v H2,xs[i]?=some x->R H2 v x->Same H H2->∀ (Qc:VK) (Qn:Hp->Prop),(pr x=true->∀ u H3,Same H2 H3->S H3 u (f x)->Qc u H3)->(pr x=false->∀ H3,Same H2 H3->Qn H3) -> g v σ0 H2 fun σ2 H'=>qG σ0 σ2/\tc σ2 H' fun b H3=>if b=true then te σ2 H3 Qc else Qn H3) (q:∀ H',Same H H'->jH S H' (.ref D) ((xs.filter pr).map f)->Qe H') : ∃ W:Nat->Nat->List V->Hp->Prop,(∃ m,W 0 m [] (L2.upd H D (.lst [])))/\sV D (Zo K l) σ0 g tc te Qe W:=by
 obtain ⟨l',vs,el,hv,pv⟩:=hl;cases el;have ln:=Paired.length pv;refine Lk xs.length hz (fun i acc H'=>Same H H'/\H' D=some (.lst acc)/\Paired (S H') acc (((xs.take i).filter pr).map f)) ⟨aX hD,aG,.nil⟩ (fun i acc H' le ⟨_,e,p⟩=>⟨?_,e⟩) ?_ ?_
 ·rw [Paired.length p,au];exact bH (length_filter_le _ _) (by rw [length_take]; omega)
 ·rintro acc H' ⟨s',e,p⟩;rw [bO] at p;exact ⟨⟨vs,cW.of (s' _ _ hv),by omega⟩,q H' s' ⟨D,acc,rfl,e,p⟩⟩
 ·rintro i acc H' lt ⟨s',e,p⟩;have hx:xs[i]?=some xs[i]:=aA lt;obtain ⟨v,hvi,rv⟩:=Ar pv hx;have sq:cW K H' l vs:=cW.of (s' _ _ hv);refine ⟨⟨vs,v,sq,hvi⟩,?_⟩;rintro y Eh ⟨rfl,hy⟩ Qc Qn k kn;have ey:=hy vs sq;rw [hvi] at ey;cases ey;refine body i xs[i] v Eh hx (sR.same rv s') s' Qc Qn (fun ep u H3 s3 ru=>?_) (fun ep H3 s3=>?_)
  ·have e3:=s3 _ _ e;refine k u H3 e3 ⟨gK (s'.trans s3) hD,aG,?_⟩;rw [take_snoc hx,filter_append,aY];have ef:[xs[i]].filter pr=[xs[i]]:=by simp [ep]
   rw [ef];exact Paired.snoc (Paired.jd p fun _ _ z=>sS.upd (sS.same z s3) e3) (sS.upd ru e3)
  ·refine kn H3 ⟨s'.trans s3,s3 _ _ e,?_⟩;rw [take_snoc hx,filter_append];have ef:[xs[i]].filter pr=[]:=by simp [ep]
   rw [ef,cZ];exact Paired.jd p fun _ _ z=>sS.same z s3
end
section
variable {K:Fg} {β:Type} {S:Rep β}
theorem FQ (sS:xU S) {D:aB} {H:Hp} {n m:Nat} {σ0:St} {g:TG} {te:TE} {Qe:Hp->Prop} (f:Nat->β) (em:m=n) (hz:n<=sizeLine) (hD:H D=none) (body:∀ (i:Nat) H2,i < n->Same H H2->∀ Qc:VK,(∀ u H3,Same H2 H3->S H3 u (f i)->Qc u H3)->g (.int ((i:Nat):Int)) σ0 H2 fun σ2 H'=>qG σ0 σ2/\te σ2 H' Qc) (q:∀ H',Same H H'->jH S H' (.ref D) ((List.range n).map f)->Qe H') : ∃ W:Nat->Nat->List V->Hp->Prop,(∃ m,W 0 m [] (L2.upd H D (.lst [])))/\sV D (Zq 0 m) σ0 g Fd te Qe W:=by
 subst em;refine jW m hz (fun i acc H'=>Same H H'/\H' D=some (.lst acc)/\Paired (S H') acc ((List.range i).map f)) ⟨aX hD,aG,.nil⟩ (fun i acc H' le ⟨_,e,p⟩=>⟨?_,e⟩) ?_ ?_
 ·rw [Paired.length p,au,cg]
 ·rintro acc H' ⟨s',e,p⟩;exact ⟨(by show m<=m; omega),q H' s' ⟨D,acc,rfl,e,p⟩⟩
 ·rintro i acc H' lt ⟨s',e,p⟩;refine ⟨lt,?_⟩;rintro y Eh ⟨rfl,rfl⟩ Qc k;have e1:(0 + (i:Int))=((i:Nat):Int):=Int.zero_add _;rw [e1];refine body i Eh lt s' Qc fun u H3 s3 ru=>?_
  have e3:=s3 _ _ e;refine k u H3 e3 ⟨gK (s'.trans s3) hD,aG,?_⟩;rw [cN,aY];exact Paired.snoc (Paired.jd p fun _ _ z=>sS.upd (sS.same z s3) e3) (sS.upd ru e3)
end
end Tw
namespace Tw
def masks:Nat->List (List Bool)
 | 0=>[[]]
 | n + 1=>(masks n).map (·++[false])++(masks n).map (·++[true])
theorem qj:∀ n,(masks n).length=2 ^ n
 | 0=>rfl
 | n + 1=>by simp only [masks,bx,au,qj n]; omega
theorem iV:∀ {n:Nat} {m:List Bool},m ∈ masks n->m.length=n
 | 0,m,h=>by simp [masks] at h; simp [h]
 | n + 1,m,h=>by
  simp only [masks,mem_append,bh] at h;rcases h with ⟨m',h',rfl⟩ | ⟨m',h',rfl⟩ <;> simp [iV h']
def fL (n j:Nat):List Bool:=(List.range n).map fun k=>j.testBit k
theorem xX:∀ {n j:Nat},j < 2 ^ n->(masks n)[j]?=some (fL n j)
 | 0,j,h=>by
  have:j=0:=by simpa using h
  subst this;rfl
 | n + 1,j,h=>by
  have hl:=qj n;unfold fL;rw [cN,aY]
  by_cases lt:j < 2 ^ n
  ·have e:=xX (n:=n) lt;rw [masks,List.getElem?_append_left (by rw [au,hl]; exact lt),aF,e];have e2:j.testBit n=false:=Nat.testBit_lt_two_pow lt;simp [fL,e2]
  ·have h2:j - 2 ^ n < 2 ^ n:=by
    have:2 ^ (n + 1)=2 ^ n + 2 ^ n:=by omega
    omega
   have e:=xX (n:=n) h2;rw [masks,List.getElem?_append_right (by rw [au,hl]; omega),au,hl,aF,e];have ej:j=2 ^ n + (j - 2 ^ n):=by omega
   have e2:j.testBit n=true:=by
    rw [ej,Nat.testBit_two_pow_add_eq,Nat.testBit_lt_two_pow h2]; rfl
   have e3:(List.range n).map (fun k=>(j - 2 ^ n).testBit k)=(List.range n).map (fun k=>j.testBit k):=by
    apply map_congr_left;intro k hk;have hk:=mem_range.mp hk
    conv=>rhs; rw [ej]
    rw [Nat.testBit_two_pow_add_gt hk]
   simp [fL,e2,e3]
def uJ:List Bool->Nat
 | []=>0
 | b::m=>(if b then 1 else 0) + 2 * uJ m
theorem ql (b:Bool):∀ m:List Bool,uJ (m++[b])=uJ m + if b then 2 ^ m.length else 0
 | []=>by cases b <;> rfl
 | c::m=>by
  have ih:=ql b m;rw [List.cons_append,uJ,uJ,ih,length_cons];cases b with
  | false=>simp
  | true =>
   simp only [if_true];have:2 ^ (m.length + 1)=2 * 2 ^ m.length:=by omega
   omega
theorem uK:∀ {n j:Nat},j < 2 ^ n->uJ (fL n j)=j
 | 0,j,h=>by
  have:j=0:=by simpa using h
  subst this;rfl
 | n + 1,j,h=>by
  have hb:fL (n + 1) j=fL n j++[j.testBit n]:=by
   unfold fL;rw [cN,aY];rfl
  have hl:(fL n j).length=n:=by simp [fL]
  rw [hb,ql,hl]
  by_cases lt:j < 2 ^ n
  ·rw [uK lt,Nat.testBit_lt_two_pow lt];simp
  ·have h2:j - 2 ^ n < 2 ^ n:=by
    have:2 ^ (n + 1)=2 ^ n + 2 ^ n:=by omega
    omega
   have ej:j=2 ^ n + (j - 2 ^ n):=by omega
   have e2:j.testBit n=true:=by
    rw [ej,Nat.testBit_two_pow_add_eq,Nat.testBit_lt_two_pow h2]; rfl
   have e3:fL n j=fL n (j - 2 ^ n):=by
    unfold fL;apply map_congr_left;intro k hk;have hk:=mem_range.mp hk
    conv=>lhs; rw [ej]
    rw [Nat.testBit_two_pow_add_gt hk]
   rw [e2,e3,uK h2];simp only [if_true];omega
structure Cp where
 s:Int
 gap:Int
 rest:Int
def lD (m:List Bool):Int:=((m.filter id).length:Int)
def Ej (b:Bool) (c:Cp):Bool:=if b then decide (c.rest<=c.s) else decide (c.s + 1≠c.gap)
def FT (b:Bool) (c:Cp):Int:=if b then 0 else c.s + 1
def Ek (cans:Int) (l:List Cp) (m:List Bool):Bool:=((m.zip l).all fun q=>Ej q.1 q.2) && decide (lD m<=cans)
def lG (l:List Cp) (m:List Bool):List Int:=(m.zip l).map fun q=>FT q.1 q.2
def pC (cans:Int) (l:List Cp) (m:List Bool):Option (Int × Int × List Int):=if Ek cans l m then some ((uJ m:Int),cans - lD m,lG l m) else none
def gU (cans:Int) (l:List Cp) (i:Nat):List (Int × Int × List Int):=(masks i).filterMap (pC cans l)
def Rf (c:Cp) (ps:List (Int × Int × List Int)):List (Int × Int × List Int):=if c.s + 1=c.gap then [] else ps.map fun q=>(q.1,q.2.1,q.2.2++[c.s + 1])
def Rg (c:Cp) (bit:Int) (ps:List (Int × Int × List Int)):List (Int × Int × List Int):=if c.rest<=c.s then (ps.filter fun q=>decide (0 < q.2.1)).map fun q=>(q.1 + bit,q.2.1 - 1,q.2.2++[0]) else []
theorem pD {α β:Type}:∀ {m:List α} {l:List β} {b:α} {c:β},l[m.length]?=some c->(m++[b]).zip l=m.zip l++[(b,c)]
 | [],c'::l,b,c,h=>by simp at h; simp [h]
 | [],[],_,_,h=>by simp at h
 | x::m,y::l,b,c,h=>by
  have:=pD (m:=m) (l:=l) (b:=b) (c:=c) (by simpa using h);simp only [List.cons_append,List.zip_cons_cons,this]
 | x::m,[],_,_,h=>by simp at h
theorem sY {α β:Type} {f g:α->Option β}:∀ {l:List α},(∀ x ∈ l,f x=g x)->l.filterMap f=l.filterMap g
 | [],_=>rfl
 | x::l,h=>by
  rw [filterMap_cons,filterMap_cons,h x (by simp),sY fun y hy=>h y (by simp [hy])]
theorem qm (m:List Bool) (b:Bool):lD (m++[b])=lD m + if b then 1 else 0:=by
 unfold lD;rw [filter_append,bx];cases b <;> simp
theorem Av {cans:Int} {l:List Cp} {m:List Bool} {c:Cp} (h:l[m.length]?=some c):pC cans l (m++[false])=if c.s + 1=c.gap then none else (pC cans l m).map fun q=>(q.1,q.2.1,q.2.2++[c.s + 1]):=by
 have e1:Ek cans l (m++[false])=(decide (c.s + 1≠c.gap) && Ek cans l m):=by
  unfold Ek;rw [pD h,all_append,qm];generalize (m.zip l).all (fun q=>Ej q.1 q.2)=x;cases x <;> simp [Ej]
 have e2:lG l (m++[false])=lG l m++[c.s + 1]:=by
  unfold lG;rw [pD h,aY];simp [FT]
 unfold pC;rw [e1,e2,ql,qm]
 by_cases z:c.s + 1=c.gap
 ·simp [z]
 ·by_cases o:Ek cans l m=true
  ·simp [z,o]
  ·simp [z,o]
theorem FW {cans:Int} {l:List Cp} {m:List Bool} {c:Cp} (h:l[m.length]?=some c):pC cans l (m++[true])=if c.rest<=c.s then ((pC cans l m).filter fun q=>decide (0 < q.2.1)).map fun q=>(q.1 + (2:Int) ^ m.length,q.2.1 - 1,q.2.2++[0]) else none:=by
 have e2:lG l (m++[true])=lG l m++[0]:=by
  unfold lG;rw [pD h,aY];simp [FT]
 have e3:((uJ (m++[true]):Nat):Int)=(uJ m:Int) + (2:Int) ^ m.length:=by
  rw [ql];simp
 have e1:Ek cans l (m++[true])=(decide (c.rest<=c.s) && ((m.zip l).all (fun q=>Ej q.1 q.2) && decide (lD m + 1<=cans))):=by
  unfold Ek;rw [pD h,all_append,qm];generalize (m.zip l).all (fun q=>Ej q.1 q.2)=x;cases x <;> simp [Ej]
 unfold pC;rw [e1,e2,e3,qm]
 by_cases z:c.rest<=c.s
 ·unfold Ek
  by_cases o:(m.zip l).all (fun q=>Ej q.1 q.2)=true
  ·by_cases k:lD m + 1<=cans
   ·have k1:lD m<=cans:=by omega
    have k2:0 < cans - lD m:=by omega
    have k3:cans - (lD m + 1)=cans - lD m - 1:=by omega
    simp [z,o,k,k1,k3,Option.filter];omega
   ·have k2:¬ 0 < cans - lD m:=by omega
    by_cases k1:lD m<=cans
    ·simp [z,o,k,k1,Option.filter];omega
    ·simp [z,o,k,k1]
  ·simp [z,o]
 ·simp [z]
theorem Jb {cans:Int} {l:List Cp} {i:Nat} {c:Cp} (h:l[i]?=some c):Rf c (gU cans l i)++Rg c ((2:Int) ^ i) (gU cans l i)=gU cans l (i + 1):=by
 unfold gU;rw [masks,List.filterMap_append,filterMap_map,filterMap_map]
 congr 1
 ·unfold Rf
  by_cases z:c.s + 1=c.gap
  ·rw [if_pos z]
   symm
   rw [List.filterMap_eq_nil_iff];intro m hm;have hl:=iV hm
   show pC cans l (m++[false])=none
   rw [Av (by rw [hl]; exact h),if_pos z]
  ·rw [if_neg z,List.map_filterMap];apply sY;intro m hm;have hl:=iV hm
   show _=pC cans l (m++[false])
   rw [Av (by rw [hl]; exact h),if_neg z]
 ·unfold Rg
  by_cases z:c.rest<=c.s
  ·rw [if_pos z,List.filter_filterMap,List.map_filterMap];apply sY;intro m hm;have hl:=iV hm
   show _=pC cans l (m++[true])
   rw [FW (by rw [hl]; exact h),if_pos z,hl]
  ·rw [if_neg z]
   symm
   rw [List.filterMap_eq_nil_iff];intro m hm;have hl:=iV hm
   show pC cans l (m++[true])=none
   rw [FW (by rw [hl]; exact h),if_neg z]
theorem Jc {cans:Int} {l:List Cp} (h:0<=cans):gU cans l 0=[(0,cans,[])]:=by
 simp [gU,masks,pC,Ek,lD,lG,uJ,h]
inductive Bh (ν:Type) where
 | no
 | dry (nm:ν)
 | st (ds:List Int)
def sZ (cans:Int) (shut:Bool) (l:List Cp) (FZ:List Nat):Bool := !(!FZ.isEmpty && (shut || decide (cans < (FZ.length:Int)))) && FZ.all fun k=>(l[k]?.map fun c=>decide (c.rest<=c.s)).getD true
def Jd (l:List Cp) (FZ:List Nat):List Int:=(List.range l.length).map fun k=>if k ∈ FZ then 0 else (l[k]?.map fun c=>c.s + 1).getD 0
def Rh {ν:Type} (nms:List ν) (l:List Cp) (FZ:List Nat):Option ν:=(List.range l.length).findSome? fun k=>if (Jd l FZ)[k]?=l[k]?.map Cp.gap then nms[k]? else none
def Dc {ν:Type} (nms:List ν) (cans:Int) (shut:Bool) (l:List Cp) (FZ:List Nat):Bh ν := if sZ cans shut l FZ then match Rh nms l FZ with
  | some nm=>.dry nm
  | none=>.st (Jd l FZ)
 else .no
def lQ (n j:Nat):List Nat:=(List.range n).filter fun k=>j.testBit k
def Lp {ν:Type} (nms:List ν) (cans:Int) (shut:Bool) (l:List Cp) (j:Nat):Option (Int × List Int):=match Dc nms cans shut l (lQ l.length j) with
 | .st ds=>some ((j:Int),ds)
 | _=>none
def Dd {ν:Type} (nms:List ν) (cans:Int) (shut:Bool) (l:List Cp):List (Int × List Int):=(List.range (2 ^ l.length)).filterMap (Lp nms cans shut l)
def m6 (cans:Int) (l:List Cp):List (Int × List Int):=(gU cans l l.length).map fun q=>(q.1,q.2.2)
theorem Ob (n:Nat):masks n=(List.range (2 ^ n)).map (fL n):=by
 apply ext_getElem?;intro j
 by_cases h:j < 2 ^ n
 ·rw [xX h,aF,List.getElem?_range h];rfl
 ·rw [List.getElem?_eq_none (by rw [qj]; omega),List.getElem?_eq_none (by rw [au,cg]; omega)]
theorem wM {n j k:Nat} (h:k < n):(fL n j)[k]?=some (j.testBit k):=by
 unfold fL;rw [aF,List.getElem?_range h];rfl
theorem Ga (n j:Nat):(fL n j).length=n:=by simp [fL]
theorem Ri (n j:Nat):lD (fL n j)=((lQ n j).length:Int):=by
 unfold lD lQ fL;rw [List.filter_map,au];rfl
theorem wN {α β:Type} {p:α->β->Bool} {m:List α} {l:List β} (h:m.length=l.length):((m.zip l).all fun q=>p q.1 q.2)=true ↔ ∀ (k:Nat) b c,m[k]?=some b->l[k]?=some c->p b c=true:=by
 rw [all_eq_true];constructor
 ·intro a k b c hb hc;have:(m.zip l)[k]?=some (b,c):=by rw [List.getElem?_zip_eq_some]; exact ⟨hb,hc⟩
  exact a (b,c) (aH this)
 ·intro a q hq;obtain ⟨k,hk⟩:=List.mem_iff_getElem?.mp hq;obtain ⟨b,c⟩:=q;rw [List.getElem?_zip_eq_some] at hk;exact a k b c hk.1 hk.2
theorem qp {n j k:Nat}:k ∈ lQ n j ↔ k < n/\j.testBit k=true:=by
 unfold lQ;rw [mem_filter,mem_range]
theorem Df {l:List Cp} {FZ:List Nat} {k:Nat} {c:Cp} (h:l[k]?=some c):(Jd l FZ)[k]?=some (if k ∈ FZ then 0 else c.s + 1):=by
 have lt:k < l.length:=(aD.mp h).1;unfold Jd;rw [aF,List.getElem?_range lt,Option.map_some,h];rfl
theorem Gb {ν:Type} {nms:List ν} {l:List Cp} {FZ:List Nat} (hn:nms.length=l.length):Rh nms l FZ=none ↔ ∀ (k:Nat) c,l[k]?=some c->(if k ∈ FZ then 0 else c.s + 1)≠c.gap:=by
 unfold Rh;rw [List.findSome?_eq_none_iff];constructor
 ·intro a k c hc z;have lt:k < l.length:=(aD.mp hc).1;have:=a k (mem_range.mpr lt);rw [Df hc,hc,Option.map_some,z,if_pos rfl,aA (by omega)] at this;cases this
 ·intro a k hk;have lt:=mem_range.mp hk;have hc:l[k]?=some l[k]:=aA lt;rw [Df hc,hc,Option.map_some,if_neg];intro z;exact a k l[k] hc (bN z)
theorem Rj {l:List Cp} {j:Nat}:Jd l (lQ l.length j)=lG l (fL l.length j):=by
 apply ext_getElem?;intro k
 by_cases lt:k < l.length
 ·have hc:l[k]?=some l[k]:=aA lt;rw [Df hc];unfold lG;rw [aF];have hz:((fL l.length j).zip l)[k]?=some (j.testBit k,l[k]):=by rw [List.getElem?_zip_eq_some]; exact ⟨wM lt,hc⟩
  rw [hz];simp only [Option.map_some,FT,qp,lt,true_and]
 ·rw [List.getElem?_eq_none (by simp [Jd]; omega),List.getElem?_eq_none (by simp [lG,Ga]; omega)]
theorem Rk {ν:Type} {nms:List ν} {cans:Int} {shut:Bool} {l:List Cp} {j:Nat} (hn:nms.length=l.length) (hc0:0<=cans) (hg:∀ c ∈ l,1<=c.gap) (hj:j < 2 ^ l.length) : Lp nms cans shut l j=(pC (if shut then 0 else cans) l (fL l.length j)).map fun q=>(q.1,q.2.2):=by
 have ax7:=Ri l.length j;have e:(Ek (if shut then 0 else cans) l (fL l.length j)=true) ↔ (sZ cans shut l (lQ l.length j)=true/\Rh nms l (lQ l.length j)=none):=by
  rw [Gb hn];unfold Ek sZ;rw [Bool.and_eq_true,wN (Ga _ _),ax7,decide_eq_true_eq,Bool.and_eq_true];have e1:((!(!(lQ l.length j).isEmpty && (shut || decide (cans < ((lQ l.length j).length:Int)))))=true) ↔ ((lQ l.length j).length:Int)<=(if shut then 0 else cans):=by
   cases hw:lQ l.length j with
   | nil=>cases shut <;> simp [hc0]
   | cons a t =>
    cases shut with
    | true=>simp
    | false=>simp
  rw [e1,all_eq_true];constructor
  ·rintro ⟨a,b⟩;refine ⟨⟨b,fun k hk=>?_⟩,fun k c hc=>?_⟩
   ·obtain ⟨lt,ht⟩:=qp.mp hk;have hc:l[k]?=some l[k]:=aA lt;have:=a k true l[k] (by rw [wM lt,ht]) hc;rw [hc];simpa [Ej] using this
   ·have lt:k < l.length:=(aD.mp hc).1;have:=a k _ c (wM lt) hc;have g:=hg c (aH hc)
    by_cases ht:j.testBit k=true
    ·rw [if_pos (qp.mpr ⟨lt,ht⟩)]; omega
    ·rw [if_neg (fun z=>ht (qp.mp z).2)];have ht':j.testBit k=false:=by simpa using ht
     rw [ht'] at this;simpa [Ej] using this
  ·rintro ⟨⟨b,a1⟩,a2⟩;refine ⟨fun k x c hx hc=>?_,b⟩;have lt:k < l.length:=(aD.mp hc).1;rw [wM lt] at hx;cases hx;cases ht:j.testBit k with
   | true =>
    have:=a1 k (qp.mpr ⟨lt,ht⟩);rw [hc] at this;simpa [Ej] using this
   | false =>
    have:=a2 k c hc;rw [if_neg (fun z=>by rw [(qp.mp z).2] at ht; cases ht)] at this;simpa [Ej] using this
 unfold Lp Dc pC
 by_cases o:Ek (if shut then 0 else cans) l (fL l.length j)=true
 ·obtain ⟨h1,h2⟩:=e.mp o;rw [if_pos h1,if_pos o,h2];simp only [Option.map_some,uK hj,Rj]
 ·rw [if_neg o]
  by_cases h1:sZ cans shut l (lQ l.length j)=true
  ·rw [if_pos h1];cases h2:Rh nms l (lQ l.length j) with
   | some nm=>rfl
   | none=>exact absurd (e.mpr ⟨h1,h2⟩) o
  ·rw [if_neg h1];rfl
theorem zW {ν:Type} {nms:List ν} {cans:Int} {shut:Bool} {l:List Cp} (hn:nms.length=l.length) (hc0:0<=cans) (hg:∀ c ∈ l,1<=c.gap):m6 (if shut then 0 else cans) l=Dd nms cans shut l:=by
 unfold m6 gU Dd;rw [Ob,filterMap_map,List.map_filterMap];apply sY;intro j hj;rw [Rk hn hc0 hg (mem_range.mp hj)];rfl
end Tw
namespace L2
open PySem
abbrev NK:=Int × List Int
section
variable (prog:bZ) (w:World)
noncomputable def fZ (h:Heap) (k:NK) (a:aB):Prop := ∃ (b:aB) (v:aC) (o:Obj) (n:Nat),h.get? a=some o/\o.cls=.type "tuple"/\o.data=.seq #[v,.ref b] n/\(intKind prog w).is k.1 v=true/\IsTupleKey (intKind prog w) h k.2 b
def tD (k:NK):Int:=reduceHash (Builtin.Tuple.tupleHashOf [(intKind prog w).hash k.1,tupleKeyHash (intKind prog w) k.2])
end
section
variable {prog:bZ} {w:World} {A:dB} {E:aC->aV->Prop} {s:aV}
theorem fZ.ty {k:NK} {a:aB} (x:fZ prog w s.heap k a):s.TypeIs (.ref a) "tuple":=by
 obtain ⟨_,_,o,_,ho,hc,_⟩:=x;exact ⟨o,ho,hc⟩
theorem fZ.inj {h:Heap} {a:aB} {x y:NK} (p:fZ prog w h x a) (q:fZ prog w h y a):x=y:=by
 obtain ⟨b,v,o,n,ho,_,hd,h1,h2⟩:=p;obtain ⟨b',v',o',n',ho',_,hd',h1',h2'⟩:=q;rw [ho] at ho'; cases ho';rw [hd] at hd';injection hd' with e1 e2;have e:[v,Value.ref b]=[v',Value.ref b']:=congrArg Array.toList e1;cases e;exact Prod.ext ((intKind prog w).inj _ _ _ h1 h1') (h2.inj h2')
theorem fZ.keeps {h h':Heap} {k:NK} {a d:aB} {o:Obj} {es ep} (x:fZ prog w h k a) (ho:h.get? d=some o) (hd:o.data=.dict es ep) (sb:Heap.SameBut d h h'):fZ prog w h' k a:=by
 obtain ⟨b,v,oa,n,g1,c,g2,h1,h2⟩:=x;have ne:a≠d:=fun z=>by subst z; rw [g1] at ho; cases ho; rw [g2] at hd; cases hd
 exact ⟨b,v,oa,n,(sb.2 a ne).trans g1,c,g2,h1,h2.keeps ho hd sb⟩
theorem Oc {k:NK} {a:aB} {Q:Int->aV->Prop} (hu:A.units + 1 < cLine) (hk:fZ prog w s.heap k a) (q:Q (tD prog w k) { s with toks:=s.toks + (k.2.length + 3) }):wpAny (model prog w) A (pyHash (.ref a)) Q E s:=by
 have ty:=hk.ty;obtain ⟨b,v,o,n,ho,_,hd,hv,hb⟩:=hk
 show wpAny _ _ (pyHashByItsType (.ref a)) Q E s
 unfold pyHashByItsType;have lk:=PySem.F.slot_tuple_hash.lookup;refine aj (wpAny_cRoomFor_or (.inr (by omega)) (aj (wpAny_specialOf ty lk ?_)));rw [if_neg (show ¬ (some (Value.builtin "tuple.__hash__") == some Value.none)=true by rw [beq_builtin_none]; exact Bool.false_ne_true)];refine aj (wpAny_specialOf ty lk ?_)
 show wpAny _ _ (callSpecialIfBoundUnlessNone? (Value.ref a) "__hash__" _ >>= _) _ _ _
 refine aj (wpAny_callSpecialIfBoundUnlessNone?_slot ty PySem.F.slot_tuple_hash (wpAny_call_entry PySem.F.slot_tuple_hash ty PySem.F.entry_tuple_hash ?_ (PySem.F.args_tuple_hash_1 _)))
 show wpAny _ _ (Builtin.Tuple.tupleItemsOf (Value.ref a) >>= _) _ _ _
 refine aj (wpAny_tupleItemsOf ho hd (aj ?_));rw [<- Array.forIn_toList];refine wpAny_forIn_list _ (fun rest (hs:Array Int) s'=>(rest=[v,.ref b]/\hs=#[]/\s'=s)\/(rest=[.ref b]/\hs=#[(intKind prog w).hash k.1]/\s'={ s with toks:=s.toks + 1 }) \/ (rest=[]/\hs=#[(intKind prog w).hash k.1,tupleKeyHash (intKind prog w) k.2]/\s'={ s with toks:=s.toks + 1 + (k.2.length + 1) })) _ ?_ ?_ _ _ (.inl ⟨rfl,rfl,rfl⟩)
 ·rintro x rest hs s' (⟨e,rfl,rfl⟩ | ⟨e,rfl,rfl⟩ | ⟨e,_⟩)
  ·cases e;exact aj ((intKind prog w).pyHash hv (aj (ao (ao (.inr (.inl ⟨rfl,rfl,rfl⟩))))))
  ·cases e;exact aj (wpAny_pyHash_tuple (s:={ s with toks:=s.toks + 1 }) hu hb (aj (ao (ao (.inr (.inr ⟨rfl,rfl,rfl⟩))))))
  ·cases e
 ·rintro hs s' (⟨e,_⟩ | ⟨e,_⟩ | ⟨_,rfl,rfl⟩)
  ·cases e
  ·cases e
  ·have q':Q (tD prog w k) { s with toks:=s.toks + 1 + (k.2.length + 1) + 1 }:=by
    have e:s.toks + 1 + (k.2.length + 1) + 1=s.toks + (k.2.length + 3):=by omega
    rw [e]; exact q
   refine wpAny_ret_mkInt ?_;unfold tD reduceHash at q'
   show wpAny _ _ (pyHashByItsType.reduced (Builtin.Tuple.tupleHashOf [(intKind prog w).hash k.1,tupleKeyHash (intKind prog w) k.2])) Q E _
   generalize Builtin.Tuple.tupleHashOf [(intKind prog w).hash k.1,tupleKeyHash (intKind prog w) k.2]=z at q' ⊢;unfold pyHashByItsType.reduced
   split
   ·rename_i c
    rw [if_pos c] at q';exact ao q'
   ·rename_i c
    rw [if_neg c] at q';exact aj (wpAny_rule (ao q'))
theorem Od {x y:NK} {a b:aB} {R:Fin->aV->Prop} (hu:A.units < cLine) (hx:fZ prog w s.heap x a) (hy:fZ prog w s.heap y b) (q:R (.done (.ret (.bool (decide (x=y))))) s) : wpAny (model prog w) A (Builtin.«tuple.__eq__» ⟨[.ref a,.ref b],[]⟩) R E s:=by
 have ty:=hy.ty;obtain ⟨d,v,o,n,ho,_,hd,hv,hb⟩:=hx;obtain ⟨d',v',o',n',ho',_,hd',hv',hb'⟩:=hy
 show wpAny _ _ (isInstance (Value.ref b) (.type "tuple") >>= _) _ _ _
 refine aj (wpAny_isInstance ty isSubtype_tuple_tuple ?_);simp only [Bool.not_true,if_false,Bool.false_eq_true];refine aj (wpAny_tupleItemsOf ho hd (aj (wpAny_tupleItemsOf ho' hd' (aj ?_))));refine wpAny_forIn_list _ (fun rest r s'=>r.1=none/\s'=s/\((rest=[(v,v'),(.ref d,.ref d')])\/(rest=[(.ref d,.ref d')]/\x.1=y.1)\/(rest=[]/\x=y))) _ ?_ ?_ _ _ ⟨rfl,rfl,.inl rfl⟩
 ·rintro ⟨u1,u2⟩ rest r s' ⟨hr,rfl,e | ⟨e,e1⟩ | ⟨e,_⟩⟩
  ·cases e;refine aj ((intKind prog w).eqBool hv hv' ?_)
   by_cases hk:x.1=y.1
   ·rw [aO hk];simp only [Bool.not_true,if_false,Bool.false_eq_true];exact ao ⟨by first | rfl | trivial,rfl,.inr (.inl ⟨by first | rfl | trivial,hk⟩)⟩
   ·rw [aP hk];simp only [if_true,Bool.not_false];rw [aP (fun z:x=y=>hk (by rw [z]))] at q;exact aj (ao (ao (ao q)))
  ·cases e;refine aj (wpAny_eqBool_tuple hu hb hb' ?_)
   by_cases hk:x.2=y.2
   ·rw [aO hk];simp only [Bool.not_true,if_false,Bool.false_eq_true];exact ao ⟨by first | rfl | trivial,rfl,.inr (.inr ⟨by first | rfl | trivial,Prod.ext e1 hk⟩)⟩
   ·rw [aP hk];simp only [if_true,Bool.not_false];rw [aP (fun z:x=y=>hk (by rw [z]))] at q;exact aj (ao (ao (ao q)))
  ·cases e
 ·rintro ⟨r1,r2⟩ s' ⟨hr,rfl,e | ⟨e,_⟩ | ⟨_,e⟩⟩
  ·cases e
  ·cases e
  ·simp only at hr;subst hr;rw [aO e] at q;exact ao q
theorem Xh {x y:NK} {a b:aB} {Q:Bool->aV->Prop} (hu:A.units + 1 < cLine) (hx:fZ prog w s.heap x a) (hy:fZ prog w s.heap y b) (q:Q (decide (x=y)) s):wpAny (model prog w) A (eqBool (.ref a) (.ref b)) Q E s:=by
 unfold eqBool;refine wpAny_holding ?_
 by_cases ab:(Value.ref a == Value.ref b)=true
 ·have e:a=b:=by have:=eq_of_beq ab; injection this
  subst e;cases hx.inj hy;rw [aO rfl] at q;rw [if_pos ab];exact aj (wpAny_rule (ao q))
 ·rw [if_neg ab];exact aj (wpAny_richCompare_same_room (op:=.Eq) hx.ty hy.ty PySem.F.slot_tuple_eq (wpAny_call_entry PySem.F.slot_tuple_eq hx.ty PySem.F.entry_tuple_eq (Od hu hx hy ⟨_,rfl,(fun e=>nomatch e),wpAny_truthy_bool q⟩) (PySem.F.args_tuple_eq_2 _ _)) (by omega))
theorem vX {a:aB} {o:Obj} {its:Array aC} {n d:Nat} {Q:Bool->aV->Prop} (ho:s.heap.get? a=some o) (hc:o.cls=.type "tuple") (hd:o.data=.seq its n) (hq:∀ v ∈ its.toList,∀ R:Bool->aV->Prop,R true s->wpAny (model prog w) A (eqIsQuiet d v) R E s) (q:Q true s):wpAny (model prog w) A (eqIsQuiet (d + 1) (.ref a)) Q E s:=by
 have ty:s.TypeIs (.ref a) "tuple":=⟨o,ho,hc⟩;unfold eqIsQuiet;refine aj (wpAny_specialOf ty PySem.F.slot_tuple_eq.lookup ?_)
 show wpAny _ _ (isInstance (Value.ref a) (.type "tuple") >>= _) _ _ _
 refine aj (wpAny_isInstance ty isSubtype_tuple_tuple ?_);simp only [Bool.not_true,if_false,Bool.false_eq_true];refine aj (wpAny_seqItems ho hd (aj ?_))
 show wpAny _ _ (forIn its _ _) _ _ s
 rw [<- Array.forIn_toList];refine wpAny_forIn_list _ (fun rest r s'=>r.1=none/\s'=s/\∀ v ∈ rest,v ∈ its.toList) _ ?_ ?_ _ _ ⟨rfl,rfl,fun _ m=>m⟩
 ·rintro v rest r s' ⟨hr,rfl,all⟩;refine aj (hq v (all v (by simp)) _ ?_);simp only [Bool.not_true,if_false,Bool.false_eq_true];exact ao ⟨by first | rfl | trivial,rfl,fun u m=>all u (by simp [m])⟩
 ·rintro ⟨i,j⟩ s' ⟨hr,rfl,_⟩;simp only at hr;subst hr;exact ao q
theorem Je {k:NK} {a:aB} {Q:Bool->aV->Prop} (hk:fZ prog w s.heap k a) (q:Q true s):wpAny (model prog w) A (eqIsQuiet 8 (.ref a)) Q E s:=by
 obtain ⟨b,v,o,n,ho,hc,hd,hv,ob,its,nb,gb,cb,db,ib⟩:=hk;refine vX ho hc hd (fun u m R r=>?_) q;rcases aQ.mp m with rfl | m
 ·rw [eqIsQuiet_byValue _ ((intKind prog w).byValue _ _ hv)];exact ao r
 ·cases aL.mp m;refine vX gb cb db (fun u m R r=>?_) r;rw [eqIsQuiet_byValue _ (ib.byValue u m)];exact ao r
noncomputable def jj (prog:bZ) (w:World):HeapKind prog w NK where
 is:=fZ prog w
 hash:=tD prog w
 draws:=fun k=>k.2.length + 3
 room:=fun A=>A.units + 1 < cLine
 inj:=fun p q=>p.inj q
 keeps:=fun x ho hd sb=>x.keeps ho hd sb
 pyHash:=fun hu hk q=>Oc hu hk q
 eqBool:=fun hu hx hy q=>Xh hu hx hy q
 quiet:=fun hk q=>Je hk q
end
theorem Dg:typeLookup (.type "list") "keys"=pure none:=am_miss_of_fast (by kernel_rfl)
theorem Rm:entryFor table "dict.update.loop"=some Builtin.«dict.update.loop»:=entryFor_of_tree (by kernel_rfl)
theorem qt:plainId "dict.update.loop"=true:=by decide +kernel
section
variable {prog:bZ} {w:World} {A:dB} {E:aC->aV->Prop}
section
variable {h:Heap} {g:Array GenState} {d:Drawn} {t:Nat} {os:OsState} {a:aB} {its:Array aC} {n:Nat} {sl:Array (Option aC)}
theorem Oe {tk:Tok} {Q:Fin->aV->Prop} (hx:h.get? a=some { cls:=.type "list",dict:=none,data:=.seq its n,slots:=sl }) (calm:A.handled=none) (q:∀ h' tk' e,Heap.NewAttrErr h h' e (.ref a) "keys"->E (.ref e) ⟨h',g,d,tk',os⟩):wpAny (model prog w) A (Builtin.«object.__getattribute__» ⟨[.ref a,.str "keys" tk],[]⟩) Q E ⟨h,g,d,t,os⟩:=by
 have hT:(⟨h,g,d,t,os⟩:aV).TypeIs (.ref a) "list":=⟨_,hx,rfl⟩;have f4:=Dg
 repeat any_goals first | assumption | wp_step
 exact wpAny_raiseAttrError calm (fun h' tk' e x=>q h' tk' e x) (attrMsg_fits (by decide +kernel) (by decide +kernel))
theorem Og {Q:Option aC->aV->Prop} (hx:h.get? a=some { cls:=.type "list",dict:=none,data:=.seq its n,slots:=sl }) (calm:A.handled=none) (q:∀ h' tk',(∀ b ob,h.get? b=some ob->h'.get? b=some ob)->Q none ⟨h',g,d,tk',os⟩):wpAny (model prog w) A (getAttr? (.ref a) "keys") Q E ⟨h,g,d,t,os⟩:=by
 have hT:(⟨h,g,d,t + 1,os⟩:aV).TypeIs (.ref a) "list":=⟨_,hx,rfl⟩;have f2:=PySem.F.slot_list_getattribute.lookup;have f3:=PySem.F.slot_list_getattribute.bind (.ref a);unfold getAttr? getAttrBy?;refine aj (wpAny_mkText (aj (wpAny_attempt ?_)))
 repeat any_goals first | assumption | wp_step
 refine codeAny_call_builtin PySem.F.slot_list_getattribute.plain PySem.F.entry_list_ga (PySem.F.slot_list_getattribute.check _ _ _ _ _ _ _ _ hT (PySem.F.args_list_getattribute_2 _ _) (Oe hx (by simpa using calm) fun h' tk' e x=>?_));obtain ⟨u,v,there⟩:=x.there;have isE:(⟨h',g,d,tk',os⟩:aV).TypeIs (Value.ref e) "AttributeError":=⟨_,there,rfl⟩
 show wpAny _ _ (getattributeRaised (Value.ref a) _ _ _ _ _ _) _ _ _
 have f5:=sub_AttributeError;have f6:typeLookup (.type "list") "__getattr__"=pure none:=am_miss_of_fast (by kernel_rfl);unfold getattributeRaised
 repeat any_goals first | assumption | wp_step
 exact q h' tk' x.keeps
end
section
variable {s:aV}
theorem fZ.move {h h':Heap} {k:NK} {a:aB} (x:fZ prog w h k a) (keep:∀ b o,o.cls=.type "tuple"->h.get? b=some o->h'.get? b=some o):fZ prog w h' k a:=by
 obtain ⟨b,v,o,n,ho,c,hd,h1,ob,its,nb,gb,cb,db,ib⟩:=x;exact ⟨b,v,o,n,keep _ _ c ho,c,hd,h1,ob,its,nb,keep _ _ cb gb,cb,db,ib⟩
def Jf (h:Heap) (r:NK × aB × aC) (v:aC):Prop:=∃ p o n,v=.ref p/\h.get? p=some o/\o.cls=.type "tuple"/\o.data=.seq #[.ref r.2.1,r.2.2] n
theorem Jg {done:List (NK × aB × aC)} {r:NK × aB × aC} (nd:((done++[r]).map (·.1)).Nodup):atKey done r.1=none:=by
 refine atKey_none_of_get fun j p e=>?_
 rw [aY,nodup_append] at nd;exact nd.2.2 r.1 (bh.mpr ⟨_,aH e,rfl⟩) r.1 (by simp) rfl
theorem Aw {D I l:aB} {its:List aC} {rows:List (NK × aB × aC)} {h0:Heap} (calm:A.handled=none) (hu:A.units + 8 < cLine) (DI:D≠I) (Dl:D≠l) (lI:l≠I) (small:rows.length<=sizeLine) (len:rows.length=its.length) (pr:∀ (j:Nat) r v,rows[j]?=some r->its[j]?=some v->Jf h0 r v) (ky:∀ r ∈ rows,fZ prog w h0 r.1 r.2.1) (nd:(rows.map (·.1)).Nodup) {R:Result->aV->Prop} : ∀ (todo done:List (NK × aB × aC)) (i:Int) (ti:Tok) (s:aV),rows=done++todo->s.heap.IsListIter I l done.length->s.heap.IsList l its.toArray->s.heap.DictOfH (jj prog w) D done->(∀ b o,o.cls=.type "tuple"->h0.get? b=some o->s.heap.get? b=some o) -> (∀ h' tk,(∀ b o,b≠D->b≠I->s.heap.get? b=some o->h'.get? b=some o)->h'.DictOfH (jj prog w) D rows->R (.ok (.ret .none)) { s with heap:=h',toks:=tk }) -> codeAny (model prog w) A (.builtin "dict.update.loop" ⟨[.ref D,.ref I,.int i ti,.none],[]⟩) R s
 | [],done,i,ti,s,e,it,li,at_,keep,k=>by
  have e':rows=done:=by simpa using e
  refine codeAny_builtin Rm ?_;rw [Around.under_plainId qt _];refine aj (m:=pyNext (.ref I)) (wpAny_pyNext_list_end (by simpa using calm) it li (by rw [<- e']; simp [len]) fun h' ext=>?_);obtain ⟨o,es,ep,ho,c,dd,he,his,nn⟩:=at_;subst e';have isI:∃ oi,s.heap.get? I=some oi/\oi.cls=.type "list_iterator":=by obtain ⟨oi,g1,g2,_⟩:=it; exact ⟨oi,g1,g2⟩
  obtain ⟨oi,gi,ci⟩:=isI;refine aj (ao (ao (k h' s.toks (fun b o _ nI q=>ext b o nI q) ⟨o,es,ep,ext D o DI ho,c,dd,he,fun x hx=>(his x hx).move fun b ob cb gb=>ext b ob (fun z=>?_) gb,nn⟩)));subst z;rw [gi] at gb;cases gb;rw [ci] at cb;exact absurd cb (by decide)
 | r::todo,done,i,ti,s,e,it,li,at_,keep,k=>by
  have anB:done.length < rows.length:=by rw [e,bx,length_cons]; omega
  have hr:rows[done.length]?=some r:=by rw [e]; simp
  have hv:its[done.length]?=some its[done.length]:=aA (by omega);obtain ⟨p,op,np,ep,gp,cp,dp⟩:=pr _ _ _ hr hv;rw [ep] at hv;have nd':((done++[r]).map (·.1)).Nodup:=by
   rw [e,show done++r::todo=(done++[r])++todo by simp,aY,nodup_append] at nd;exact nd.1
  have isI:∃ oi,s.heap.get? I=some oi/\oi.cls=.type "list_iterator":=by obtain ⟨oi,g1,g2,_⟩:=it; exact ⟨oi,g1,g2⟩
  obtain ⟨oi,gi,ci⟩:=isI;have tupI:∀ {b:aB} {o:Obj},o.cls=.type "tuple"->s.heap.get? b=some o->b≠I:=fun {b o} cb gb z=>by
   subst z;rw [gi] at gb;cases gb;rw [ci] at cb;exact absurd cb (by decide)
  refine codeAny_builtin Rm ?_;rw [Around.under_plainId qt _];refine aj (m:=pyNext (.ref I)) (wpAny_pyNext_list_item it li (x:=.ref p) (by simpa using hv) fun h' it' sb=>?_);have Lq:∀ b o,o.cls=.type "tuple"->h0.get? b=some o->h'.get? b=some o:=fun b o cb gb=>(sb.2 b (tupI cb (keep b o cb gb))).trans (keep b o cb gb)
  have tyP:(⟨h',s.gens,s.drawn,s.toks,s.os⟩:aV).TypeIs (.ref p) "tuple":=⟨op,Lq p op cp gp,cp⟩;obtain ⟨o,es,en,ho,c,dd,he,his,nn⟩:=at_;have at1:h'.DictOfH (jj prog w) D done:=⟨o,es,en,(sb.2 D DI).trans ho,c,dd,he,fun x hx=>(his x hx).move fun b ob cb gb=>(sb.2 b (tupI cb gb)).trans gb,nn⟩;have kr:fZ prog w h' r.1 r.2.1:=(ky r (by rw [e]; simp)).move Lq;refine aj (wpAny_holding (aj (wpAny_tryCatch ?_)));unfold Builtin.Dict.pairItems;refine aj (wpAny_typeOf tyP ?_);rw [if_pos (by decide)];refine aj (wpAny_seqItems (Lq p op cp gp) dp (ao ?_))
  show wpAny _ _ (holding [Value.ref r.2.1,r.2.2] (dictSet D (.ref r.2.1) r.2.2)) _ _ _
  refine wpAny_holding (wpAny_dictSet_heap (knd:=jj prog w) (s:={ s with heap:=h' }) (by show _ + 1 < cLine; first | omega | (simp; omega)) kr at1 (fun g dg sg=>?_) (by omega));rw [storedH_new (Jg nd')] at dg;obtain ⟨od,esd,epd,hod,cod,ddd,hed,aD4,nnd⟩:=id dg;refine ao ⟨plainId_quiet qt _,Aw calm hu DI Dl lI small len pr ky nd todo (done++[r]) _ _ _ (by simp [e]) ?_ ?_ ?_ ?_ fun g' tk' kp fin=>?_⟩
  ·rw [bx];exact it'.at fun o q=>(sg.2 I (Ne.symm DI)).trans q
  ·exact (li.at fun o q=>(sb.2 l lI).trans q).at fun o q=>(sg.2 l (Ne.symm Dl)).trans q
  ·exact dg
  ·intro b ob cb gb;have g1:=Lq b ob cb gb;have nD:b≠D:=fun z=>by
    subst z;have g2:=(sb.2 b DI).trans ho;rw [g1] at g2;cases g2;rw [c.1] at cb;exact absurd cb (by decide)
   exact (sg.2 b nD).trans g1
  ·exact k g' tk' (fun b o nD nI q=>kp b o nD nI ((sg.2 b nD).trans ((sb.2 b nI).trans q))) fin
end
end
theorem agz:mroOf (.type "dict")=pure [.type "dict",.type "object"]:=(mroOf_type _).trans (by kernel_rfl)
theorem ax8:typeLookup (.type "dict") "__new__"=pure (some (.builtin "dict.__new__")):=by
 have e:=typeLookup_type "dict" (Str.ofString "__new__");rw [builtinLookup_eq_fast] at e;exact e.trans (by kernel_rfl)
theorem anU:isSubtype (.type "dict") (.type "dict")=pure true:=(isSubtype_type _ _).trans (by kernel_rfl)
theorem Gd:TypeCalled "dict" "dict.__new__" "dict.__init__" where
 notType:=by decide +kernel
 canCreate:=by decide +kernel
 mro:=⟨_,_,agz⟩
 made:=madeBy_type agz ax8 (by decide +kernel)
 plain:=by decide +kernel
 sub:=anU
 init:=PySem.F.slot_dict_init
theorem Xi:entryFor table "dict.__new__"=some Builtin.«dict.__new__»:=entryFor_of_tree (by kernel_rfl)
section
variable {prog:bZ} {w:World} {A:dB} {E:aC->aV->Prop} {s:aV}
abbrev Ge:Obj:={ cls:=.type "dict",data:=.dict #[] }
theorem Dh (a:aC) {Q:aC->aV->Prop} (q:Q (.ref s.heap.objs.size) { s with heap:=s.heap.push Ge }):codeAny (model prog w) A (.call (.builtin "dict.__new__") ⟨[.type "dict",a],[]⟩) (wants Q E) s:=by
 have f1:=anU; have f2:=agz;have ok:checkBuiltinCall "dict.__new__" ⟨[.type "dict",a],[]⟩=pure ():=by kernel_rfl
 refine codeAny_call_builtin (by decide +kernel) Xi (wpAny_of_eq ok ?_);obtain ⟨hp,gs,dr,tk,os⟩:=s;unfold Builtin.«dict.__new__»
 wp_walk
 exact q
theorem wC {l:aB} {its:List aC} {n:Nat} {sl:Array (Option aC)} {rows:List (NK × aB × aC)} {Q:aC->aV->Prop} (calm:A.handled=none) (hu:A.units + 16 < cLine) (li:s.heap.get? l=some { cls:=.type "list",dict:=none,data:=.seq its.toArray n,slots:=sl }) (small:rows.length<=sizeLine) (len:rows.length=its.length) (pr:∀ (j:Nat) r v,rows[j]?=some r->its[j]?=some v->Jf s.heap r v) (ky:∀ r ∈ rows,fZ prog w s.heap r.1 r.2.1) (nd:(rows.map (·.1)).Nodup) (k:∀ h' tk,h'.DictOfH (jj prog w) s.heap.objs.size rows->(∀ b o,s.heap.get? b=some o->h'.get? b=some o)->Q (.ref s.heap.objs.size) { s with heap:=h',toks:=tk }):wpAny (model prog w) A (call (.type "dict") [.ref l]) Q E s:=by
 have tE:checkTypeCall "dict" ⟨[Value.ref l],[]⟩=pure ():=by kernel_rfl
 refine callType_codes (Q₁:=fun obj s₁=>obj=.ref s.heap.objs.size/\s₁={ s with heap:=s.heap.push Ge }) Gd tE PySem.F.entry_dict_init (Dh _ ⟨rfl,rfl⟩) ?_;rintro ob t₁ ⟨rfl,rfl⟩;have hnew:(s.heap.push Ge).DictOfH (jj prog w) s.heap.objs.size []:=Heap.DictOfH.new s.heap;have li1:(s.heap.push Ge).get? l=some { cls:=.type "list",dict:=none,data:=.seq its.toArray n,slots:=sl }:=aq _ li;have tyL:(⟨s.heap.push Ge,s.gens,s.drawn,s.toks,s.os⟩:aV).TypeIs (.ref l) "list":=⟨_,li1,rfl⟩;refine ⟨hnew.typeIs,PySem.F.args_dict_init_2 _ _,?_⟩;unfold Builtin.«dict.__init__» Builtin.Dict.selfAndRest;refine aj (aj (wpAny_notOrdered_dict hnew.typeIs (ao ?_)))
 show wpAny _ _ (Builtin.Dict.updateFrom "dict.__init__" s.heap.objs.size (.ref l) [] .none) _ _ _
 unfold Builtin.Dict.updateFrom; refine aj (wpAny_typeOf tyL ?_);rw [if_pos (by decide)];refine aj (Og li1 (by simpa using calm) fun h1 tk1 kp1=>?_);simp only [Option.isNone_none,if_true];have isL:h1.IsList l its.toArray:=⟨_,kp1 _ _ li1,rfl,n,rfl⟩;refine aj (wpAny_rule (aj (wpAny_pyIter_list isL ?_)));have sz:s.heap.objs.size < h1.objs.size:=by
  obtain ⟨o,_,_,ho,_⟩:=hnew;exact Heap.lt_size (kp1 _ _ ho)
 have lt:l < s.heap.objs.size:=Heap.lt_size li;obtain ⟨o,es,ep,ho,c,dd,he,his,nn⟩:=id hnew;have all:∀ b o,s.heap.get? b=some o->(h1.push { cls:=.type "list_iterator",data:=.fields #[.ref l,.int 0 0] }).get? b=some o:=fun b o q=>aq _ (kp1 _ _ (aq _ q))
 refine ao ⟨plainId_quiet qt _,Aw (D:=s.heap.objs.size) (I:=h1.objs.size) (l:=l) (its:=its) (rows:=rows) (h0:=s.heap) (by simpa using calm) (by simp; omega) (Nat.ne_of_lt sz) (Nat.ne_of_gt lt) (Nat.ne_of_lt (Nat.lt_trans lt sz)) small len pr ky nd rows [] _ _ _ rfl ⟨_,aN _ rfl,rfl,rfl⟩ ⟨_,all _ _ li,rfl,n,rfl⟩ ?_ (fun b o _ q=>all b o q) fun h' tk keep fin=>⟨rfl,k h' tk fin fun b o q=>?_⟩⟩
 ·exact ⟨o,es,ep,aq _ (kp1 _ _ ho),c,dd,he,(fun x hx=>by cases hx),nn⟩
 ·have below:=Heap.lt_size q;exact keep b o (Nat.ne_of_lt below) (Nat.ne_of_lt (Nat.lt_trans below sz)) (all b o q)
end
end L2
namespace L2
open PySem PySem.Spec PyProof.Rows
def jX (H:Hp) (k:NK) (a:aB):Prop:=∃ s,H a=some (.tup [.int k.1,.ref s])/\H s=some (.tup (k.2.map V.int))
theorem jX.same {H H':Hp} {k:NK} {a:aB} (x:jX H k a) (s:∀ b o,H b=some o->H' b=some o):jX H' k a:=by
 obtain ⟨t,h1,h2⟩:=x;exact ⟨t,s _ _ h1,s _ _ h2⟩
abbrev wD:=NK × aB × V
def xY (p:wD) (q:NK × aB × aC):Prop:=p.1=q.1/\p.2.1=q.2.1/\RelV p.2.2 q.2.2
noncomputable def qH (P:bZ) (w:World) (a:aB) (ks:List wD):HO:=.ext fun h=>∃ (rows:List (NK × aB × aC)) (o:Obj) (es:Array DictEntry) (ep:Nat),Paired xY ks rows/\h.get? a=some o/\o.ExactDict/\o.data=.dict es ep/\es.toList=rows.map (entryOfKey (jj P w))/\(rows.map (·.1)).Nodup
theorem Ax:∀ {ks:List wD} {rows:List (NK × aB × aC)},Paired xY ks rows->rows.map (·.1)=ks.map (·.1)
 | _,_,.nil=>rfl
 | _,_,.cons r t=>by rw [cj,cj,Ax t,r.1]
theorem xZ:∀ {ks:List wD} {rows:List (NK × aB × aC)} {q:NK × aB × aC},Paired xY ks rows->q ∈ rows->∃ p ∈ ks,xY p q
 | _,_,_,.cons r t,h=>by
  rcases aQ.mp h with rfl | hm
  ·exact ⟨_,by simp,r⟩
  ·obtain ⟨p,hp,e⟩:=xZ t hm;exact ⟨p,by simp [hp],e⟩
theorem Lr:∀ {ks:List wD} {rows:List (NK × aB × aC)} {i:Nat} {p:wD},Paired xY ks rows->ks[i]?=some p->∃ q,rows[i]?=some q/\xY p q
 | _,_,0,_,.cons r _,e=>by simp at e; subst e; exact ⟨_,rfl,r⟩
 | _,_,i + 1,p,.cons _ t,e=>by
  obtain ⟨q,h1,h2⟩:=Lr (i:=i) (p:=p) t (by simpa using e);exact ⟨q,by simpa using h1,h2⟩
section
variable {X:Cx} {pins:List (aB × Obj)} {σ:St} {H:Hp} {s:aV}
theorem yc {P:bZ} {w:World}:∀ {ds:List Int} {us:List aC},Vals (ds.map V.int) us->ItemsAre (intKind P w) ds us
 | [],_,r=>by cases r; exact .nil
 | d::ds,_,r=>by
  cases r with
  | cons r t =>
   obtain ⟨k,rfl⟩:=r;exact .cons (by show Value.isInt d (.int d k)=true; simp [Value.isInt]) (yc t)
theorem jX.at (I:Inv X pins σ H s) {k:NK} {a:aB} (x:jX H k a):fZ X.prog X.w s.heap k a:=by
 obtain ⟨b,h1,h2⟩:=x;obtain ⟨its,r,⟨o,g,c,n,d⟩,_⟩:=I.tuple (d8.of (K:=X.K) h1);obtain ⟨its2,r2,⟨o2,g2,c2,n2,d2⟩,_⟩:=I.tuple (d8.of (K:=X.K) h2);cases r with
 | cons r1 r' =>
  cases r' with
  | cons r3 r'' =>
   cases r'';cases r3;obtain ⟨t,rfl⟩:=r1;exact ⟨b,.int k.1 t,o,n,g,c,by simpa using d,(by show Value.isInt k.1 (.int k.1 t)=true; simp [Value.isInt]),o2,its2.toArray,n2,g2,c2,d2,yc r2⟩
theorem Ls (I:Inv X pins σ H s):∀ {ks:List wD} {ps:List aB},ks.length=ps.length->(∀ (j:Nat) r q,ks[j]?=some r->ps[j]?=some q->H q=some (.tup [.ref r.2.1,r.2.2])) -> ∃ rows:List (NK × aB × aC),Paired xY ks rows/\∀ (j:Nat) r q,rows[j]?=some r->ps[j]?=some q->Jf s.heap r (.ref q)
 | [],[],_,_=>⟨[],.nil,fun j r q e=>by simp at e⟩
 | [],_::_,z,_=>by simp at z
 | _::_,[],z,_=>by simp at z
 | k::ks,p::ps,z,f=>by
  obtain ⟨rows,pr,at_⟩:=Ls I (ks:=ks) (ps:=ps) (by simpa using z) fun j r q e1 e2=>f (j + 1) r q (by simpa using e1) (by simpa using e2)
  obtain ⟨its,r,⟨o,g,c,n,d⟩,_⟩:=I.tuple (d8.of (K:=X.K) (f 0 k p rfl rfl));cases r with
  | cons r1 r' =>
   cases r' with
   | @cons _ u _ _ r3 r'' =>
    cases r'';cases r1;refine ⟨(k.1,k.2.1,u)::rows,.cons ⟨rfl,rfl,r3⟩ pr,fun j r q e1 e2=>?_⟩;cases j with
    | zero =>
     simp only [List.getElem?_cons_zero,Option.some.injEq] at e1 e2;subst e1 e2;exact ⟨p,o,n,rfl,g,c,by simpa using d⟩
    | succ j=>exact at_ j r q (by simpa using e1) (by simpa using e2)
theorem Jh (hc:X.calm=true) (hu:X.A.units + 64 < cLine):iy X (.type "dict") (fun xs H Q=>∃ (p:aB) (ps:List aB) (ks:List wD),xs=[.ref p]/\H p=some (.lst (ps.map V.ref))/\ks.length=ps.length /\ (∀ (j:Nat) r q,ks[j]?=some r->ps[j]?=some q->H q=some (.tup [.ref r.2.1,r.2.2]))/\(∀ r ∈ ks,jX H r.1 r.2.1)/\(ks.map (·.1)).Nodup/\∀ l,H l=none->Q (.ref l) (upd H l (qH X.prog X.w l ks))):=by
 intro pins s σ H xs us Q I r h;obtain ⟨p,ps,ks,rfl,hp,hl,hr,hk,nd,q⟩:=h;obtain ⟨u,rfl,rx⟩:=Vals.one r;cases rx;obtain ⟨z,its,n,rv,gp⟩:=(show fV X.prog X.w H s.heap p (.lst (ps.map V.ref)) from I.hok p _ hp);have ei:its=ps.map Value.ref:=by
  clear hr hl gp z hp
  induction ps generalizing its with
  | nil=>cases rv; rfl
  | cons a ps ih =>
   cases rv with
   | cons r1 r2=>cases r1; rw [cj,<- ih _ r2]
 obtain ⟨rows,pr,at_⟩:=Ls I hl hr;have lr:ks.length=rows.length:=Paired.length pr;rw [au] at z;refine wC (its:=its) (rows:=rows) (n:=n) (sl:=#[]) (I.ok.hd hc) (by omega) gp (by omega) (by rw [ei,au]; omega) (fun j r v e1 e2=>?_) (fun r m=>?_) (by rw [Ax pr]; exact nd) fun h' tk dn keep=>?_
 ·rw [ei,aF] at e2;obtain ⟨b,hb,rfl⟩:=bA.mp e2;exact at_ j r b e1 hb
 ·obtain ⟨p',hp',e1,e2,_⟩:=xZ pr m;rw [<- e1,<- e2];exact (hk p' hp').at I
 ·obtain ⟨o,es,ep,ho,c,dd,he,_,nn⟩:=dn;refine ⟨.ref s.heap.objs.size,_,I.laid (a:=s.heap.objs.size) (o:=qH X.prog X.w s.heap.objs.size ks) keep (aM _) ?_,rfl,q _ (I.hok.fresh (aM _))⟩;refine ⟨⟨rows,o,es,ep,pr,ho,c,dd,he,nn⟩,⟨o,ho⟩,fun h1 h2 x k=>?_⟩;obtain ⟨anV,o',es',ep',pr',ho',more⟩:=x;exact ⟨anV,o',es',ep',pr',k o' ho',more⟩
noncomputable def anW (P:bZ) (w:World):R2:=fun x y H Q=>∃ (D:aB) (ks:List wD) (a:aB) (k:NK) (j:Nat) (r:wD),x=.ref D/\y=.ref a/\H D=some (qH P w D ks)/\(∀ r ∈ ks,jX H r.1 r.2.1)/\jX H k a/\ks[j]?=some r/\r.1=k/\Q r.2.2 H
theorem Rn (hu:X.A.units + 64 < cLine):IxR X (anW X.prog X.w):=by
 intro value slice pins s σ H x y v u Q I rx ry h hs;obtain ⟨D,ks,a,k,j,r,rfl,rfl,hD,hk,ka,hj,er,q⟩:=h;cases rx;cases ry;obtain ⟨⟨rows,o,es,ep,pr,ho,c,dd,he,nn⟩,_⟩:=(show fV X.prog X.w H s.heap D (qH X.prog X.w D ks) from I.hok D _ hD);obtain ⟨q',hq',e1,e2,rv⟩:=Lr pr hj;have dn:s.heap.DictOfH (jj X.prog X.w) D rows:=⟨o,es,ep,ho,c,dd,he,fun x m=>by
  obtain ⟨p',hp',f1,f2,_⟩:=xZ pr m;rw [<- f1,<- f2];exact (hk p' hp').at I,nn⟩
 have at_:atKey rows k=some q'.2:=atKey_of_get nn (by rw [hq',<- er,e1]);refine subscriptTail_builtinR (x:=q'.2.2) dn.typeIs slot_dict_getitem.lookup (wpAny_getItem_heap (Q:=fun r s'=>r=q'.2.2/\EP X pins σ Q r s') (knd:=jj X.prog X.w) (by show _ + 1 < cLine; simp; omega) (ka.at I) dn at_ ⟨rfl,⟨_,H,I.tok _,rv,q⟩⟩) hs
end
section
variable {X:Cx} {pins:List (aB × Obj)} {σ:St} {H:Hp} {s:aV}
end
section
variable {X:Cx}
theorem Ro:anf X (fun o i H Q=>∃ (p:aB) (xs:List V) (k:Nat) (v:V),o=.ref p/\i=.int (k:Int)/\cW X.K H p xs/\xs[k]?=some v/\Q v H):=by
 intro pins s σ H o i ov iv Q I ro ri h;obtain ⟨p,xs,k,v,rfl,rfl,hq,he,q⟩:=h;cases ro;obtain ⟨t,rfl⟩:=ri;obtain ⟨its,r,pl,hz⟩:=I.list hq;obtain ⟨w,ew,rw'⟩:=r.get he;have lt:=(aD.mp he).1;have hn:=qL;exact wpAny_getItem_list pl.isList (dj k) (by omega) (by rw [Int.toNat_natCast]; simpa using ew) ⟨v,H,I,rw',q⟩
theorem Rp {K:Fg} {l:aB} {xs:List V} {g:TG} {tb:TS} {D:Ends} {σ:St} {H:Hp} (Pv:Nat->St->Hp->Prop) (h0:Pv 0 σ H) (hl:∀ i σ H,i<=xs.length->Pv i σ H->cW K H l xs) (hs:∀ i x T σ H,xs[i]?=some x->Pv i σ H->H T=none->g (.ref T) σ (upd H T (.tup [.int (i:Nat),x])) fun σ2 H2=>tb { D with nx:=Pv (i + 1),ct:=Pv (i + 1),bk:=D.nx } σ2 H2) (hd:∀ σ H,Pv xs.length σ H->D.nx σ H) : ∃ W:Nat->Nat->St->Hp->Prop,(∃ k,W 0 k σ H)/\∀ i k σ H,W i k σ H -> ((Ite K l).stop i H/\D.nx σ H)\/((Ite K l).go i H/\∃ N:St->Hp->Prop,(∀ σ' H',N σ' H'->∃ k',k' < k/\W (i + 1) k' σ' H')/\∀ x H',(Ite K l).Qa i H x H'->g x σ H' fun σ2 H2=>tb { D with nx:=N,ct:=N,bk:=D.nx } σ2 H2):=by
 refine ⟨fun i k σ H=>k=xs.length - i/\i<=xs.length/\Pv i σ H,⟨xs.length,by simp,cU _,h0⟩,?_⟩;rintro i k σ H ⟨rfl,hi,p⟩;have sq:=hl i σ H hi p
 by_cases lt:i < xs.length
 ·have hx:xs[i]?=some xs[i]:=aA lt;refine .inr ⟨⟨xs,xs[i],sq,hx⟩,Pv (i + 1),fun σ' H' p'=>⟨xs.length - (i + 1),by omega,rfl,lt,p'⟩,fun x H' y=>?_⟩;obtain ⟨T,hT,rfl,y⟩:=y;rw [y xs xs[i] sq hx];exact hs i xs[i] T σ H hx p hT
 ·have e:i=xs.length:=by omega
  subst e;exact .inl ⟨⟨xs,sq,aM _⟩,hd σ H p⟩
end
section
variable {X:Cx}
theorem Ay:∀ {ns:List Int} {us:List aC},Vals (ns.map V.int) us->numsOf us=ns/\∀ v ∈ us,∃ a t,v=Value.int a t
 | [],_,.nil=>⟨rfl,fun v hv=>by cases hv⟩
 | n::ns,_,.cons r t=>by
  obtain ⟨h1,h2⟩:=Ay (ns:=ns) t;obtain ⟨tk,rfl⟩:=r;refine ⟨by show n::numsOf _=_; rw [h1],fun v hv=>?_⟩;rcases aQ.mp hv with rfl | hm
  ·exact ⟨_,_,rfl⟩
  ·exact h2 v hm
end
section
variable {X:Cx} {pins:List (aB × Obj)} {σ:St} {H:Hp} {s:aV}
theorem Inv.grown {P:aB} {ps more:Array aC} {h':Heap} {t':Nat} (I:Inv X pins σ H s) (hP:H P=some (.xg ps)) (k:∀ b u,b≠P->s.heap.get? b=some u->h'.get? b=some u) (new:h'.get? P=some { cls:=.none,data:=.fields (ps++more) }) : Inv X pins σ (upd H P (.xg (ps++more))) { s with heap:=h',toks:=t' }:=by
 have ne:∀ b,H b=none->b≠P:=fun b e z=>by rw [z,hP] at e; cases e
 refine I.un (t':=t') ⟨fun b o e n _ _=>k b o (ne b n) e,fun b o e n _ _=>⟨o.slots,k b o (ne b n) e⟩,fun b o e n _=>by rw [bw (ne b n)]; exact n,fun b o e _=>?_,fun b xs e=>?_,fun b o u e=>?_,fun b qs e=>?_⟩ fun b u e=>?_
 ·by_cases z:b=P
  ·rw [z]; exact ⟨_,new⟩
  ·exact ⟨o,k b o z e⟩
 ·rw [bw (fun z=>by rw [z,hP] at e; cases e)]; exact e
 ·rw [bw (fun z=>by rw [z,hP] at e; cases e)]; exact e
 ·by_cases z:b=P
  ·subst z;rw [hP] at e;cases e;exact ⟨more,aG⟩
  ·exact ⟨#[],by rw [bw z,e]; simp⟩
 ·by_cases z:b=P
  ·subst z;rw [aG] at e;cases e;exact new
  ·rw [bw z] at e;refine (I.hok b u e).stay (fun c v hc q=>k c v ?_ q) (fun c q=>by rw [bw (fun z=>by rw [z,hP] at q; cases q)]; exact q) fun c xs q=>by rw [bw (fun z=>by rw [z,hP] at q; cases q)]; exact q
   rcases hc with rfl | hc
   ·exact z
   ·intro y;rw [y,hP] at hc;cases hc
def tH (c:aB) (qual:Str):HO:=.ext fun h=>h.CodeRec (.ref c) qual
theorem Xj {P:bZ} {w:World} {H:Hp} {h:Heap} {c:aB} {qual:Str} (x:h.CodeRec (.ref c) qual):fV P w H h c (tH c qual):=by
 refine ⟨x,?_,fun h1 h2 y k=>?_⟩
 ·obtain ⟨c',oc,vs,tq,e,ho,_⟩:=x;cases e;exact ⟨oc,ho⟩
 ·obtain ⟨c',oc,vs,tq,e,ho,r⟩:=y;cases e;exact ⟨c,oc,vs,tq,rfl,k oc ho,r⟩
def lH (P:aB) (pos:Pos) (qual:Str) (H:Hp):Prop:=∃ ps:Array aC,H P=some (.xg ps)/\TriplesOk ps.toList/\(codeAmong pos ps.toList=none\/∃ c,codeAmong pos ps.toList=some (.ref c)/\H c=some (tH c qual))
def m7 (P:aB) (H H':Hp):Prop:=∀ b o,b≠P->H b=some o->H' b=some o
theorem m7.refl {P:aB} {H:Hp}:m7 P H H:=fun _ _ _ e=>e
theorem m7.trans {P:aB} {H H1 H2:Hp} (x:m7 P H H1) (y:m7 P H1 H2):m7 P H H2:=fun b o n e=>y b o n (x b o n e)
theorem Rq {A:dB} {E:aC->aV->Prop} {params:Arguments} {body:Expr} {scope:Scope} {pos:Pos} {cl:List (Str × aB)} {c P:aB} {qual:Str} {Q:aC->aV->Prop} (I:Inv X pins σ H s) (hdef:defaultsOf params X.env=([],[])) (hcl:closureFor scope X.env=pure cl) (hcode:X.env.code=.ref c) (C:CodeHd X.base c P) (hB:X.base.BuiltinsAt X.mg P) (hex:X.ex=[]) (T:lH P pos qual H) (hq:X.env.qual++"<lambda>"=qual) (k:∀ (f c':aB) (ctv pm:aC) (h':Heap) (tk:Nat) (H':Hp),s.heap.objs.size<=f->m7 P H H'->lH P pos qual H'->H' c'=some (tH c' qual)->H' f=none->Inv X pins σ H' { s with heap:=h',toks:=tk } -> h'.get? f=some (kla_obj "<lambda>" qual params body scope cl pm c' ctv)->Q (.ref f) { s with heap:=h',toks:=tk }) : wpAny (model X.prog X.w) A (eval (.Lambda params body scope pos) X.env) Q E s:=by
 obtain ⟨ps,hP,ht,hit⟩:=T;subst hq;have hPo:s.heap.get? P=some { cls:=.none,data:=.fields ps }:=I.hok P _ hP;have hgl:=I.ok.mod.glob;have ngP:mainGlobals≠P:=fun z=>by
  obtain ⟨o,_,_,e,_⟩:=hgl;have:=(I.bs _ _ e).2;rw [z,hP] at this;cases this
 have hBs:s.heap.BuiltinsAt X.mg P:=by
  obtain ⟨bm,o,h1,h2,h3,h4,h5,h6⟩:=hB;exact ⟨bm,o,h1,h2,h3,h4,I.bk _ _ h5,h6⟩
 have hg:s.heap.Ns mainGlobals X.mg:=hgl.keeps I.bk;have Cs:=C.keeps I.bk;refine PySem.W.kla_eval hdef ?_;rcases hit with miss | ⟨c1,hf,hc1⟩
 ·refine PySem.W.kla_makeFunction (mg:=X.mg) hcl I.ok.glob hg hcode Cs hPo ht miss ngP hBs fun c' ctv h' tk hx ge lt hrec htb=>?_
  have ncP:c'≠P:=fun z=>cM _ (aZ (Heap.lt_size hPo) (by rw [<- z]; exact ge))
  have hn:H c'=none:=I.hok.fresh ge;have I1:=I.grown (h':=h') (t':=tk) (more:=#[rawInt pos.line,rawInt pos.col,.ref c']) hP (fun b u nb e=>hx b u nb e) htb;have fpc:=I.Cq (H':=upd H P (.xg (ps++#[rawInt pos.line,rawInt pos.col,.ref c']))) ge (by rw [bw ncP]; exact hn);have hnx:c' ∉ X.ex:=by rw [hex]; simp
  have I2:=I1.adopt (b:=c') (o:=tH c' (X.env.qual++"<lambda>")) ⟨fpc.1,fpc.2.1,fpc.2.2.1,fun _=>Heap.get?_none_of_le (bH I.sz ge),fpc.2.2.2.2.1,fpc.2.2.2.2.2⟩ hnx (Xj hrec);have I3:Inv X pins σ _ { s with heap:=h'.push _,toks:=tk }:=I2.kept (t':=tk) (h':=h'.push (kla_obj "<lambda>" (X.env.qual++"<lambda>") params body scope cl ((X.mg "__name__").getD .none) c' ctv)) fun b u e=>aq _ e
  refine k h'.objs.size c' ctv _ _ tk _ (by omega) (fun b o nb e=>?_) ⟨_,by rw [bw (Ne.symm ncP),aG],by simpa using TriplesOk_snoc _ _ _ _ ht,.inr ⟨c',by simpa using codeAmong_snoc _ ht miss,aG⟩⟩ aG ?_ I3 (aN _ rfl)
  ·rw [bw (cV e hn),bw nb]; exact e
  ·exact I2.hok.fresh (aM _)
 ·refine PySem.W.kla_makeFunctionHit (mg:=X.mg) hcl I.ok.glob hg hcode Cs hPo ht hf hBs fun ctv h' tk kp sz=>?_
  have I3:Inv X pins σ H { s with heap:=h'.push _,toks:=tk }:=I.kept (t':=tk) (h':=h'.push (kla_obj "<lambda>" (X.env.qual++"<lambda>") params body scope cl ((X.mg "__name__").getD .none) c1 ctv)) fun b u e=>aq _ (kp b u e)
  exact k h'.objs.size c1 ctv _ _ tk H sz m7.refl ⟨ps,hP,ht,.inr ⟨c1,hf,hc1⟩⟩ hc1 (I.hok.fresh sz) I3 (aN _ rfl)
end
section
variable {X:Cx} {pins:List (aB × Obj)} {σ:St} {E:aC->aV->Prop} {Q:VK} {l I S f c':aB} {params:Arguments} {body:Expr} {scope:Scope} {cl:List (Str × aB)} {qual x:Str} {ctv pm:aC} {N':List Str} {cap:List (Option Nat)} {tb:TE}
variable {vs:List V} {kf:Nat->Int} {J:Nat->Hp->Prop}
end
section
variable {X:Cx} {e:Expr} {params:Arguments} {body:Expr} {scope:Scope} {cl:List (Str × aB)} {qual x:Str} {N':List Str} {cap:List (Option Nat)} {ta:TA} {tb:TE} {p pos Ji kp kp2 dp:Pos} {kd:Nat} {c P:aB}
end
section
variable {P:bZ} {w:World} {K:Fg} {mg:Str->Option aC} {base:Heap} {x qual:Str} {st:cX} {f:aB} {fd:d7} {N ps:List Str} {k:Nat} {sp:Sp}
theorem lB.Ej {cv:aC} (F:lB K x qual st f fd) (hcv:fd.code=cv) (S:bM N ps (aW st)) (len:∀ vs H Q E,sp vs H Q E->vs.length=ps.length) (body:∀ (A:dB) (outer:List Env) (s:aV) (H:Hp) (vs:List V) (Q:VK) (E:XK),dJ k (A.deeper (envOfC qual (aW st) s.heap.objs.size f cv))->sp vs H Q E -> ∃ t,zH (oY (d9 P w) P w K mg base N qual (aW st) f cv A outer s H E) (fQ st) t/\t { nx:=fun _ H'=>Q .non H',rt:=Q } (start N vs) H):bT P w K mg base (d9 P w) (k + 1) f fd ps sp:=by
 obtain ⟨oc,od,kV,doc,pm,an,cdv,ct,osl,rfl,lk,hcd⟩:=F.ex;have e:cdv=cv:=hcv;subst e;exact Qs lk hcd S len fun A outer s H vs Q E hr h=>body A outer s H vs Q E hr h
end
end L2
namespace Tw
def gG (s:List Int × List Nat) (o:Nat):List Int × List Nat:=(s.1.set o (s.1.getD o 0 - 1),if s.1.getD o 0 - 1=0 then s.2++[o] else s.2)
abbrev wG:=List (Option Int)
noncomputable def anZ (ah:List (List Nat)) (d:Int) (s:wG × List Int × List Nat) (n:Nat):wG × List Int × List Nat := (s.1.set n (some d),((ah.getD n []).foldl gG (s.2.1,s.2.2)).1,((ah.getD n []).foldl gG (s.2.1,s.2.2)).2)
def qT (ah:List (List Nat)) (d:Int) (ans:wG) (left:List Int) (E:List Nat):wG × List Int × List Nat:=E.foldl (anZ ah d) (ans,left,[])
theorem Di:∀ (os:List Nat) (left:List Int) (wH:List Nat),(∀ o ∈ os,o < left.length)->(∀ n,((os.count n:Nat):Int)<=left.getD n 0\/os.count n=0) -> ((os.foldl gG (left,wH)).1.length=left.length)/\(∀ n,(os.foldl gG (left,wH)).1.getD n 0=left.getD n 0 - (os.count n:Int)) /\ ∃ new,(os.foldl gG (left,wH)).2=wH++new/\new.Nodup/\∀ n,n ∈ new ↔ (0 < os.count n/\left.getD n 0=(os.count n:Int))
 | [],left,wH,_,_=>⟨rfl,fun n=>by simp,[],by simp,by simp,fun n=>by simp⟩
 | o::os,left,wH,hl,hc=>by
  have ho:o < left.length:=hl o (by simp);have g:∀ n,(left.set o (left.getD o 0 - 1)).getD n 0=if n=o then left.getD o 0 - 1 else left.getD n 0:=by
   intro n
   by_cases e:n=o
   ·subst e; simp [ho]
   ·have:o≠n:=fun z=>e z.symm
    simp [getD,e,this]
  have cc:∀ n,(o::os).count n=os.count n + if n=o then 1 else 0:=by
   intro n;rw [count_cons]
   by_cases e:n=o
   ·subst e; simp
   ·have:¬ o=n:=fun z=>e z.symm
    simp [e,this]
  have hc':∀ n,((os.count n:Nat):Int)<=(left.set o (left.getD o 0 - 1)).getD n 0\/os.count n=0:=by
   intro n;rw [g];have h1:=hc n;rw [cc] at h1
   by_cases e:n=o
   ·subst e;simp only [if_true] at h1 ⊢;rcases h1 with h | h
    ·left; omega
    ·omega
   ·simp only [e,if_false,Nat.add_zero] at h1 ⊢;exact h1
  rw [foldl_cons]
  show _/\_/\_
  obtain ⟨i1,i2,new,i3,i4,i5⟩:=Di os (left.set o (left.getD o 0 - 1)) (if left.getD o 0 - 1=0 then wH++[o] else wH) (fun x hx=>by rw [length_set]; exact hl x (by simp [hx])) hc';refine ⟨by show (os.foldl gG _).1.length=_; rw [show gG (left,wH) o=(left.set o (left.getD o 0 - 1),if left.getD o 0 - 1=0 then wH++[o] else wH) from rfl,i1,length_set],fun n=>?_,?_⟩
  ·show (os.foldl gG (left.set o (left.getD o 0 - 1),if left.getD o 0 - 1=0 then wH++[o] else wH)).1.getD n 0=_
   rw [i2,g,cc]
   by_cases e:n=o
   ·subst e; simp only [if_true]; omega
   ·simp only [e,if_false,Nat.add_zero]
  ·have h1:=hc o;rw [cc] at h1;simp only [if_true] at h1;have h2:((os.count o:Nat):Int) + 1<=left.getD o 0:=by
    rcases h1 with h | h
    ·omega
    ·omega
   by_cases z:left.getD o 0 - 1=0
   ·have c0:os.count o=0:=by omega
    refine ⟨o::new,?_,?_,fun n=>?_⟩
    ·show (os.foldl gG (left.set o (left.getD o 0 - 1),if left.getD o 0 - 1=0 then wH++[o] else wH)).2=_
     rw [i3,if_pos z]; simp
    ·rw [nodup_cons];refine ⟨fun hm=>?_,i4⟩;have:=(i5 o).mp hm;omega
    ·rw [aQ,i5,g,cc]
     by_cases e:n=o
     ·subst e; simp only [true_or,if_true,true_iff]; omega
     ·simp only [e,false_or,if_false,Nat.add_zero]
   ·refine ⟨new,?_,i4,fun n=>?_⟩
    ·show (os.foldl gG (left.set o (left.getD o 0 - 1),if left.getD o 0 - 1=0 then wH++[o] else wH)).2=_
     rw [i3,if_neg z]
    ·rw [i5,g,cc]
     by_cases e:n=o
     ·subst e; simp only [if_true]; omega
     ·simp only [e,if_false,Nat.add_zero]
structure Gr (N:Nat) (su ah:List (List Nat)):Prop where
 ls:su.length=N
 la:ah.length=N
 Vv:∀ n t,t ∈ su.getD n []->t < N
 inA:∀ n t,n ∈ ah.getD t []->n < N
 edge:∀ n t,(ah.getD t []).count n=(su.getD n []).count t
def unk (ans:wG) (ts:List Nat):Nat:=ts.countP fun t=>ans.getD t none == none
structure Lv (N:Nat) (su ah:List (List Nat)) (d:Nat) (ans:wG) (left:List Int) (E:List Nat):Prop where
 Rr:ans.length=N
 Az:left.length=N
 old:∀ t k,ans.getD t none=some k->∃ j:Nat,k=(j:Int)/\j < d/\(∀ s ∈ su.getD t [],∃ i:Nat,ans.getD s none=some (i:Int)/\i < j)/\(j=0->su.getD t []=[])/\(0 < j->∃ s ∈ su.getD t [],ans.getD s none=some ((j - 1:Nat):Int))
 cnt:∀ n,n < N->left.getD n 0=(unk ans (su.getD n []):Int)
 nd:E.Nodup
 mem:∀ t,t ∈ E ↔ (t < N/\ans.getD t none=none/\left.getD t 0=0)
 end_:∀ t ∈ E,(d=0->su.getD t []=[])/\(0 < d->∃ s ∈ su.getD t [],ans.getD s none=some ((d - 1:Nat):Int))
def dz (ans:wG) (d:Int) (E:List Nat):wG:=E.foldl (fun a n=>a.set n (some d)) ans
theorem qU (d:Int):∀ (E:List Nat) (ans:wG),(dz ans d E).length=ans.length
 | [],_=>rfl
 | n::E,ans=>by rw [dz,foldl_cons,<- dz,qU d E,length_set]
theorem Ba (d:Int):∀ (E:List Nat) (ans:wG) (t:Nat),(∀ n ∈ E,n < ans.length)->(dz ans d E).getD t none=if t ∈ E then some d else ans.getD t none
 | [],ans,t,_=>by simp [dz]
 | n::E,ans,t,h=>by
  rw [dz,foldl_cons,<- dz,Ba d E (ans.set n (some d)) t fun m hm=>by rw [length_set]; exact h m (by simp [hm])];have hn:=h n (by simp)
  by_cases e:t ∈ E
  ·simp [e]
  ·by_cases e2:t=n
   ·subst e2; simp [e,hn]
   ·have e3:¬ n=t:=fun z=>e2 z.symm
    simp [e,e2,getD,e3]
theorem tK (ah:List (List Nat)) (d:Int):∀ (E:List Nat) (ans:wG) (left:List Int) (wH:List Nat),E.foldl (anZ ah d) (ans,left,wH)=(dz ans d E,((E.flatMap fun t=>ah.getD t []).foldl gG (left,wH)).1,((E.flatMap fun t=>ah.getD t []).foldl gG (left,wH)).2)
 | [],ans,left,wH=>rfl
 | n::E,ans,left,wH=>by
  rw [foldl_cons,flatMap_cons,foldl_append];have:=tK ah d E (ans.set n (some d)) ((ah.getD n []).foldl gG (left,wH)).1 ((ah.getD n []).foldl gG (left,wH)).2;exact this
theorem qW (f:Nat->List Nat) (n:Nat):∀ (E:List Nat),(E.flatMap f).count n=(E.map fun t=>(f t).count n).sum
 | []=>rfl
 | t::E=>by rw [flatMap_cons,count_append,cj,sum_cons,qW f n E]
theorem uL:∀ (E ts:List Nat),E.Nodup->(E.map fun t=>ts.count t).sum=ts.countP fun s=>decide (s ∈ E)
 | E,[],_=>by
  simp only [List.count_nil,List.countP_nil]
  induction E with
  | nil=>rfl
  | cons a E ih=>rename_i h; simp_all
 | E,s::ts,h=>by
  have ih:=uL E ts h;rw [countP_cons,<- ih];have:(E.map fun t=>(s::ts).count t)=E.map fun t=>ts.count t + if t=s then 1 else 0:=by
   apply map_congr_left;intro t _;rw [count_cons]
   by_cases e:t=s
   ·subst e; simp
   ·have e':¬ s=t:=fun z=>e z.symm
    simp [e,e']
  rw [this];clear this ih
  induction E with
  | nil=>simp
  | cons a E ih =>
   rw [nodup_cons] at h;have ih:=ih h.2;simp only [cj,sum_cons,aQ]
   by_cases e:a=s
   ·subst e;have na:¬ a ∈ E:=h.1;simp only [na,decide_false,Bool.false_eq_true,if_false,Nat.add_zero] at ih;simp only [if_true,true_or,decide_true];omega
   ·have e':¬ s=a:=fun z=>e z.symm
    simp only [e,e',if_false,Nat.add_zero,false_or] at ih ⊢;omega
theorem tL {p q r:Nat->Bool}:∀ (ts:List Nat),(∀ s ∈ ts,p s=(q s || r s))->(∀ s ∈ ts,¬ (q s=true/\r s=true))->ts.countP p=ts.countP q + ts.countP r
 | [],_,_=>rfl
 | s::ts,h,g=>by
  have ih:=tL ts (fun x hx=>h x (by simp [hx])) (fun x hx=>g x (by simp [hx]));have h1:=h s (by simp);have g1:=g s (by simp);rw [countP_cons,countP_cons,countP_cons,ih,h1];cases hq:q s <;> cases hr:r s <;> simp_all <;> omega
theorem Rt {N:Nat} {su ah:List (List Nat)} {d:Nat} {ans:wG} {left:List Int} {E:List Nat} (G:Gr N su ah) (L:Lv N su ah d ans left E) : Lv N su ah (d + 1) (qT ah (d:Int) ans left E).1 (qT ah (d:Int) ans left E).2.1 (qT ah (d:Int) ans left E).2.2:=by
 unfold qT;rw [tK];have inE:∀ n ∈ E,n < ans.length:=fun n hn=>by rw [L.Rr]; exact ((L.mem n).mp hn).1
 have at_:=fun t=>Ba (d:Int) E ans t inE
 have cn:∀ n,((E.flatMap fun t=>ah.getD t []).count n)=(su.getD n []).countP fun s=>decide (s ∈ E):=by
  intro n;rw [qW,<- uL E (su.getD n []) L.nd]
  congr 1
  apply map_congr_left;intro t _;exact G.edge n t
 have sp:∀ n,unk ans (su.getD n [])=unk (dz ans (d:Int) E) (su.getD n []) + (su.getD n []).countP fun s=>decide (s ∈ E):=by
  intro n;unfold unk;refine tL _ (fun s hs=>?_) (fun s hs=>?_)
  ·rw [at_ s]
   by_cases e:s ∈ E
   ·rw [((L.mem s).mp e).2.1,if_pos e];simp [e]
   ·simp [e]
  ·rw [at_ s]
   by_cases e:s ∈ E
   ·simp [e]
   ·simp [e]
 have named:∀ o ∈ (E.flatMap fun t=>ah.getD t []),o < left.length:=by
  intro o ho;obtain ⟨t,_,h⟩:=List.mem_flatMap.mp ho;rw [L.Az];exact G.inA o t h
 have big:∀ n,((((E.flatMap fun t=>ah.getD t []).count n:Nat):Int)<=left.getD n 0\/(E.flatMap fun t=>ah.getD t []).count n=0):=by
  intro n
  by_cases lt:n < N
  ·left
   rw [L.cnt n lt,cn,sp n];omega
  ·right
   rw [List.count_eq_zero];intro hm;have:=named n hm;rw [L.Az] at this;exact lt this
 obtain ⟨r1,r2,new,r3,r4,r5⟩:=Di (E.flatMap fun t=>ah.getD t []) left [] named big;have known:∀ t,t ∈ E->∀ s ∈ su.getD t [],∃ i:Nat,ans.getD s none=some (i:Int)/\i < d:=by
  intro t ht s hs;obtain ⟨lt,_,h0⟩:=(L.mem t).mp ht;have c0:=L.cnt t lt;rw [h0] at c0;have u0:unk ans (su.getD t [])=0:=by omega
  unfold unk at u0;rw [List.countP_eq_zero] at u0;have:=u0 s hs;cases e:ans.getD s none with
  | none=>rw [e] at this; exact absurd rfl this
  | some k =>
   obtain ⟨j,rfl,hj,_⟩:=L.old s k e;exact ⟨j,rfl,hj⟩
 have ayb:∀ t k,ans.getD t none=some k->t ∉ E:=fun t k e hm=>by
  have:=((L.mem t).mp hm).2.1;rw [this] at e;cases e
 have keep:∀ t k,ans.getD t none=some k->(dz ans (d:Int) E).getD t none=some k:=fun t k e=>by
  rw [at_ t,if_neg (ayb t k e)]; exact e
 refine ⟨by show (dz ans (d:Int) E).length=N; rw [qU,L.Rr],by show ((E.flatMap fun t=>ah.getD t []).foldl gG (left,[])).1.length=N; rw [r1,L.Az],fun t k h=>?_,fun n lt=>?_,?_,fun t=>?_,fun t ht=>?_⟩
 ·
  have h:(dz ans (d:Int) E).getD t none=some k:=h;rw [at_ t] at h
  by_cases e:t ∈ E
  ·rw [if_pos e] at h;cases h;obtain ⟨f1,f2⟩:=L.end_ t e;refine ⟨d,rfl,Nat.lt_succ_self d,fun s hs=>?_,f1,fun h0=>?_⟩
   ·obtain ⟨i,hi,lt⟩:=known t e s hs;exact ⟨i,keep s _ hi,lt⟩
   ·obtain ⟨s,hs,e2⟩:=f2 h0;exact ⟨s,hs,keep s _ e2⟩
  ·rw [if_neg e] at h;obtain ⟨j,rfl,hj,g1,g2,g3⟩:=L.old t k h;refine ⟨j,rfl,by omega,fun s hs=>?_,g2,fun h0=>?_⟩
   ·obtain ⟨i,hi,lt⟩:=g1 s hs;exact ⟨i,keep s _ hi,lt⟩
   ·obtain ⟨s,hs,e2⟩:=g3 h0;exact ⟨s,hs,keep s _ e2⟩
 ·show ((E.flatMap fun t=>ah.getD t []).foldl gG (left,[])).1.getD n 0=_
  rw [r2,L.cnt n lt,cn,sp n]
  show _=((unk (dz ans (d:Int) E) (su.getD n []):Nat):Int)
  omega
 ·show ((E.flatMap fun t=>ah.getD t []).foldl gG (left,[])).2.Nodup
  rw [r3];simpa using r4
 ·show t ∈ ((E.flatMap fun t=>ah.getD t []).foldl gG (left,[])).2 ↔ (t < N/\(dz ans (d:Int) E).getD t none=none/\((E.flatMap fun t=>ah.getD t []).foldl gG (left,[])).1.getD t 0=0)
  rw [r3,nil_append,r5,r2,at_ t];constructor
  ·rintro ⟨h1,h2⟩;have lt:t < N:=by
    have:t ∈ (E.flatMap fun t=>ah.getD t []):=List.count_pos_iff.mp h1;have:=named t this;rw [L.Az] at this;exact this
   have ne:t ∉ E:=fun hm=>by
    have:=((L.mem t).mp hm).2.2;omega
   refine ⟨lt,?_,by omega⟩;rw [if_neg ne];cases e:ans.getD t none with
   | none=>rfl
   | some k =>
    obtain ⟨j,_,_,g1,_⟩:=L.old t k e;have u0:unk ans (su.getD t [])=0:=by
     unfold unk;rw [List.countP_eq_zero];intro s hs;obtain ⟨i,hi,_⟩:=g1 s hs;rw [hi];simp
    have:=L.cnt t lt;rw [u0] at this;omega
  ·rintro ⟨lt,h2,h3⟩;have ne:t ∉ E:=fun hm=>by rw [if_pos hm] at h2; cases h2
   rw [if_neg ne] at h2;have l0:left.getD t 0≠0:=fun z=>ne ((L.mem t).mpr ⟨lt,h2,z⟩)
   have:=L.cnt t lt;omega
 ·
  have ht:t ∈ ((E.flatMap fun t=>ah.getD t []).foldl gG (left,[])).2:=ht;rw [r3,nil_append,r5,cn] at ht;refine ⟨fun z=>by omega,fun _=>?_⟩;obtain ⟨s,hs,e⟩:=List.countP_pos_iff.mp ht.1;have e:s ∈ E:=by simpa using e
  refine ⟨s,hs,?_⟩
  show (dz ans (d:Int) E).getD s none=_
  rw [at_ s,if_pos e];simp
theorem Jj {N:Nat} {su ah:List (List Nat)} (G:Gr N su ah):Lv N su ah 0 (List.replicate N none) (su.map fun ts=>(ts.length:Int)) ((List.range N).filter fun n=>decide (((su.getD n []).length:Int)=0)):=by
 have g0:∀ t,(List.replicate N (none:Option Int)).getD t none=none:=by
  intro t;simp only [getD,List.getElem?_replicate]
  split <;> rfl
 have gl:∀ n,n < N->(su.map fun ts=>(ts.length:Int)).getD n 0=((su.getD n []).length:Int):=by
  intro n lt;have:n < su.length:=by rw [G.ls]; exact lt
  simp [this]
 refine ⟨by simp,by rw [au,G.ls],fun t k h=>?_,fun n lt=>?_,?_,fun t=>?_,fun t ht=>⟨fun _=>?_,fun z=>absurd z (cM 0)⟩⟩
 ·rw [g0] at h; cases h
 ·rw [gl n lt];unfold unk;have:(su.getD n []).countP (fun t=>(List.replicate N (none:Option Int)).getD t none == none)=(su.getD n []).length:=by
   rw [List.countP_eq_length];intro t _;rw [g0];rfl
  rw [this]
 ·exact Pairwise.filter _ List.nodup_range
 ·rw [mem_filter,mem_range,decide_eq_true_eq,g0];constructor
  ·rintro ⟨lt,h⟩;exact ⟨lt,rfl,by rw [gl t lt]; exact h⟩
  ·rintro ⟨lt,_,h⟩;rw [gl t lt] at h;exact ⟨lt,h⟩
 ·rw [mem_filter,decide_eq_true_eq] at ht;have:(su.getD t []).length=0:=by have:=ht.2; omega
  exact List.length_eq_zero_iff.mp this
def nones (ans:wG):Nat:=ans.countP (· == none)
theorem Oh {ans:wG} {n:Nat} {d:Int} (lt:n < ans.length) (h:ans.getD n none=none):nones (ans.set n (some d)) + 1=nones ans:=by
 unfold nones;have hm:ans[n]=none:=by simpa [lt] using h
 rw [List.countP_set lt];have hp:0 < ans.countP (· == none):=by
  rw [List.countP_pos_iff];exact ⟨ans[n],List.getElem_mem lt,by rw [hm]; rfl⟩
 rw [hm];have e1:((none:Option Int) == none)=true:=rfl;have e2:((some d:Option Int) == none)=false:=rfl;rw [e1,e2];simp only [if_true,Bool.false_eq_true,if_false];omega
theorem Bb (d:Int):∀ (E:List Nat) (ans:wG),E.Nodup->(∀ n ∈ E,n < ans.length/\ans.getD n none=none)->nones (dz ans d E) + E.length=nones ans
 | [],_,_,_=>rfl
 | n::E,ans,nd,h=>by
  rw [nodup_cons] at nd;obtain ⟨lt,h0⟩:=h n (by simp);have ih:=Bb d E (ans.set n (some d)) nd.2 fun m hm=>by
   obtain ⟨lm,hm0⟩:=h m (by simp [hm]);refine ⟨by rw [length_set]; exact lm,?_⟩;have ne:¬ n=m:=fun z=>nd.1 (by rw [z]; exact hm)
   simpa [getD,ne] using hm0
  have e:=Oh (d:=d) lt h0;rw [dz,foldl_cons,<- dz,length_cons];omega
theorem Jk {N:Nat} {su ah:List (List Nat)} {d:Nat} {ans:wG} {left:List Int} {E:List Nat} (L:Lv N su ah d ans left E):nones (qT ah (d:Int) ans left E).1 + E.length=nones ans:=by
 unfold qT;rw [tK];exact Bb _ E ans L.nd fun n hn=>by
  have:=(L.mem n).mp hn;exact ⟨by rw [L.Rr]; exact this.1,this.2.1⟩
structure Told (N:Nat) (su:List (List Nat)) (ans:wG):Prop where
 len:ans.length=N
 ever:∀ n,n < N->ans.getD n none=none->∃ s ∈ su.getD n [],ans.getD s none=none
 ends:∀ n k,ans.getD n none=some k->(∀ s ∈ su.getD n [],∃ i,ans.getD s none=some i/\0<=i/\i + 1<=k)/\(su.getD n []=[]->k=0)/\(su.getD n []≠[]->∃ s ∈ su.getD n [],∃ i,ans.getD s none=some i/\i + 1=k)
theorem Xk {N:Nat} {su ah:List (List Nat)} {d:Nat} {ans:wG} {left:List Int} (L:Lv N su ah d ans left []):Told N su ans:=by
 refine ⟨L.Rr,fun n lt h=>?_,fun n k h=>?_⟩
 ·have l0:left.getD n 0≠0:=fun z=>by
   have:=(L.mem n).mpr ⟨lt,h,z⟩;cases this
  have c:=L.cnt n lt;have p:0 < unk ans (su.getD n []):=by omega
  obtain ⟨s,hs,e⟩:=List.countP_pos_iff.mp p;exact ⟨s,hs,by simpa using e⟩
 ·obtain ⟨j,rfl,_,g1,g2,g3⟩:=L.old n k h;refine ⟨fun s hs=>?_,fun z=>?_,fun z=>?_⟩
  ·obtain ⟨i,hi,lt⟩:=g1 s hs;exact ⟨i,hi,by omega,by omega⟩
  ·cases j with
   | zero=>rfl
   | succ j =>
    obtain ⟨s,hs,_⟩:=g3 (Nat.succ_pos j);rw [z] at hs;cases hs
  ·cases j with
   | zero=>exact absurd (g2 rfl) z
   | succ j =>
    obtain ⟨s,hs,e⟩:=g3 (Nat.succ_pos j);exact ⟨s,hs,_,e,by simp⟩
def Gf (d:Int) (gs ds:List Int):Int:=(gs.zip ds).foldl (fun c q=>c * q.1 + q.2) d
def stL (gs:List Int) (n:Int):Int × List Int:=gs.foldr (fun g r=>(r.1 / g,r.1 % g::r.2)) (n,[])
inductive ZK:List Int->List Int->Prop
 | nil:ZK [] []
 | cons {g y:Int} {gs ds:List Int}:0<=y->y < g->ZK gs ds->ZK (g::gs) (y::ds)
theorem ZK.of:∀ {gs ds:List Int},ds.length=gs.length->(∀ (i:Nat) y g,ds[i]?=some y->gs[i]?=some g->0<=y/\y < g)->ZK gs ds
 | [],[],_,_=>.nil
 | [],_::_,len,_=>by simp at len
 | _::_,[],len,_=>by simp at len
 | g::gs,y::ds,h,f=>by
  obtain ⟨h0,h1⟩:=f 0 y g rfl rfl;exact .cons h0 h1 (ZK.of (by simpa using h) fun i y' g' e1 e2=>f (i + 1) y' g' (by simpa using e1) (by simpa using e2))
theorem Ru:∀ {gs ds:List Int} (d:Int),ZK gs ds->stL gs (Gf d gs ds)=(d,ds)
 | _,_,d,.nil=>rfl
 | _,_,d,.cons (g:=g) (y:=y) (gs:=gs) (ds:=ds) h0 h1 r=>by
  have ih:=Ru (d * g + y) r;have e:Gf d (g::gs) (y::ds)=Gf (d * g + y) gs ds:=rfl;have e2:stL (g::gs) (Gf d (g::gs) (y::ds))=((stL gs (Gf d (g::gs) (y::ds))).1 / g,(stL gs (Gf d (g::gs) (y::ds))).1 % g::(stL gs (Gf d (g::gs) (y::ds))).2):=rfl;rw [e2,e,ih];have g0:g≠0:=by omega
  have q1:(d * g + y) / g=d:=by
   rw [Int.add_comm,Int.add_mul_ediv_right _ _ g0,Int.ediv_eq_zero_of_lt h0 h1,Int.zero_add]
  have q2:(d * g + y) % g=y:=by
   rw [Int.add_comm,Int.add_mul_emod_self_right,Int.emod_eq_of_lt h0 h1]
  show ((d * g + y) / g,(d * g + y) % g::ds)=(d,y::ds)
  rw [q1,q2]
def iW (n:Nat) (ah:List (List Nat)) (t:Nat):List (List Nat):=ah.set t (ah.getD t []++[n])
theorem tM (n:Nat):∀ (ts:List Nat) (ah:List (List Nat)),(∀ t ∈ ts,t < ah.length)->(ts.foldl (iW n) ah).length=ah.length/\∀ t,(ts.foldl (iW n) ah).getD t []=ah.getD t []++List.replicate (ts.count t) n
 | [],ah,_=>⟨rfl,fun t=>by simp⟩
 | t::ts,ah,h=>by
  have ht:t < ah.length:=h t (by simp);have hl:(iW n ah t).length=ah.length:=by unfold iW; rw [length_set]
  obtain ⟨i1,i2⟩:=tM n ts (iW n ah t) fun x hx=>by rw [hl]; exact h x (by simp [hx])
  refine ⟨by rw [foldl_cons,i1,hl],fun u=>?_⟩;rw [foldl_cons,i2 u,count_cons]
  by_cases e:t=u
  ·subst e;have:(iW n ah t).getD t []=ah.getD t []++[n]:=by unfold iW; simp [ht]
   rw [this,append_assoc];simp [List.replicate_succ]
  ·have:(iW n ah t).getD u []=ah.getD u []:=by unfold iW; simp [getD,e]
   rw [this];simp [e]
def f9 (su:List (List Nat)) (N i:Nat):List (List Nat):=(List.range i).foldl (fun ah n=>(su.getD n []).foldl (iW n) ah) (List.replicate N [])
theorem pG (su:List (List Nat)) (N i:Nat):f9 su N (i + 1)=(su.getD i []).foldl (iW i) (f9 su N i):=by
 show (List.range (i + 1)).foldl _ _=_
 rw [cN,foldl_append,<- f9];rfl
theorem tO {N:Nat} {su:List (List Nat)} (Vv:∀ n t,t ∈ su.getD n []->t < N):∀ i,(f9 su N i).length=N/\∀ n t,((f9 su N i).getD t []).count n=if n < i then (su.getD n []).count t else 0
 | 0=>by
  refine ⟨by simp [f9],fun n t=>?_⟩;have:(f9 su N 0).getD t []=[]:=by
   show (List.replicate N ([]:List Nat)).getD t []=[]
   by_cases lt:t < N <;> simp [getD,lt]
  rw [this];simp
 | i + 1=>by
  obtain ⟨h1,h2⟩:=tO Vv i;obtain ⟨r1,r2⟩:=tM i (su.getD i []) (f9 su N i) fun t ht=>by rw [h1]; exact Vv i t ht
  rw [pG];refine ⟨by rw [r1,h1],fun n t=>?_⟩;rw [r2 t,count_append,h2 n t,List.count_replicate]
  by_cases e:i=n
  ·subst e;simp
  ·have e':¬ (i == n)=true:=by simpa using e
   rw [if_neg e',Nat.add_zero]
   by_cases lt:n < i
   ·rw [if_pos lt,if_pos (by omega)]
   ·rw [if_neg lt,if_neg (by omega)]
theorem an0 {N:Nat} {su:List (List Nat)} (ls:su.length=N) (Vv:∀ n t,t ∈ su.getD n []->t < N):Gr N su (f9 su N N):=by
 obtain ⟨h1,h2⟩:=tO Vv N;have edge:∀ n t,((f9 su N N).getD t []).count n=(su.getD n []).count t:=fun n t=>by
  rw [h2 n t]
  by_cases lt:n < N
  ·rw [if_pos lt]
  ·rw [if_neg lt];have:su.getD n []=[]:=by
    unfold getD;rw [List.getElem?_eq_none (by omega)];rfl
   rw [this];simp
 refine ⟨ls,h1,Vv,fun n t h=>?_,edge⟩;have c:0 < ((f9 su N N).getD t []).count n:=List.count_pos_iff.mpr h;rw [h2 n t] at c
 by_cases lt:n < N
 ·exact lt
 ·rw [if_neg lt] at c;omega
theorem Rv {ν:Type} {nms:List ν} {cans:Int} {shut:Bool} {l:List Cp} (hn:nms.length=l.length) (hb:∀ (i:Nat) c,l[i]?=some c->0<=c.s/\c.s < c.gap) {q:Int × List Int} (h:q ∈ Dd nms cans shut l) : q.2.length=l.length/\∀ (i:Nat) y c,q.2[i]?=some y->l[i]?=some c->0<=y/\y < c.gap:=by
 unfold Dd at h;obtain ⟨j,hj,e⟩:=mem_filterMap.mp h;unfold Lp at e
 split at e
 ·rename_i ds hbh
  cases e;unfold Dc at hbh
  split at hbh
  ·split at hbh
   ·cases hbh
   ·rename_i hd
    cases hbh;refine ⟨by unfold Jd; rw [au,cg],fun i y c hy hc=>?_⟩;rw [Df hc] at hy;cases hy;have nd:=(Gb hn).mp hd i c hc;obtain ⟨b0,b1⟩:=hb i c hc
    split
    ·exact ⟨cu _,by omega⟩
    ·rename_i ni
     rw [if_neg ni] at nd;exact ⟨by omega,by omega⟩
  ·cases hbh
 ·cases e
theorem Gg {N:Nat} {su ah:List (List Nat)} {E:List Nat} (G:Gr N su ah) {o:Nat} (h:o ∈ E.flatMap fun t=>ah.getD t []):o < N:=by
 obtain ⟨t,_,h⟩:=List.mem_flatMap.mp h;exact G.inA o t h
theorem Oi {N:Nat} {su ah:List (List Nat)} {d:Nat} {ans:wG} {left:List Int} {E:List Nat} (G:Gr N su ah) (L:Lv N su ah d ans left E) {n:Nat} (lt:n < N):(((E.flatMap fun t=>ah.getD t []).count n:Nat):Int)<=left.getD n 0:=by
 have cn:(E.flatMap fun t=>ah.getD t []).count n=(su.getD n []).countP fun s=>decide (s ∈ E):=by
  rw [qW,<- uL E (su.getD n []) L.nd]
  congr 1
  exact map_congr_left fun t _=>G.edge n t
 rw [L.cnt n lt,cn];unfold unk;have:(su.getD n []).countP (fun s=>decide (s ∈ E))<=(su.getD n []).countP fun t=>ans.getD t none == none:=by
  apply List.countP_mono_left;intro s _ hs;have:=((L.mem s).mp (by simpa using hs)).2.1;rw [this];rfl
 omega
theorem Jl {N:Nat} {su ah:List (List Nat)} {d:Nat} {ans:wG} {left:List Int} {E os qs:List Nat} (G:Gr N su ah) (L:Lv N su ah d ans left E) (h:os++qs=E.flatMap fun t=>ah.getD t []) : (os.foldl gG (left,[])).1.length=N/\(os.foldl gG (left,[])).2.length<=N:=by
 have named:∀ o ∈ os,o < N:=fun o ho=>Gg (E:=E) G (by rw [<- h]; exact mem_append_left _ ho)
 obtain ⟨r1,_,new,r3,r4,r5⟩:=Di os left [] (fun o ho=>by rw [L.Az]; exact named o ho) (fun n=>by
  by_cases lt:n < N
  ·have:=Oi G L lt;rw [<- h,count_append] at this
   left
   omega
  ·right
   rw [List.count_eq_zero];exact fun hm=>lt (named n hm))
 refine ⟨by rw [r1,L.Az],?_⟩;rw [r3,nil_append];have:new ⊆ List.range N:=fun n hn=>mem_range.mpr (named n (List.count_pos_iff.mp ((r5 n).mp hn).1))
 have:=List.Nodup.length_le_of_subset r4 this
 rwa [cg] at this
theorem Oj (ah:List (List Nat)) (d:Int) (ans:wG) (left:List Int) (E:List Nat):qT ah d ans left E=(dz ans d E,((E.flatMap fun t=>ah.getD t []).foldl gG (left,[])).1,((E.flatMap fun t=>ah.getD t []).foldl gG (left,[])).2):=tK ah d E ans left []
theorem Gh (ans:wG) (d:Int) (E:List Nat) (n:Nat):dz ans d (E++[n])=(dz ans d E).set n (some d):=by
 unfold dz;rw [foldl_append];rfl
end Tw
namespace L2
open PySem
def tQ (H:Hp):Hp:=fun b=>match H b with
 | some (.xg _)=>none
 | o=>o
theorem lZ {H:Hp} {b:aB} {o:HO} (h:H b=some o) (n:∀ ps,o≠.xg ps):tQ H b=some o:=by
 unfold tQ;rw [h];cases o <;> first | rfl | exact absurd rfl (n _)
theorem jk {H:Hp}:Same (tQ H) H:=fun b o h=>by
 unfold tQ at h
 split at h
 ·cases h
 ·exact h
theorem Rw {H:Hp} {b:aB} {o:HO} (h:tQ H b=some o):∀ ps,o≠.xg ps:=by
 intro ps e;subst e;unfold tQ at h
 split at h
 ·cases h
 ·rename_i o' n
  exact n ps h
theorem m7.off {P:aB} {H H':Hp} {ps:Array aC} (s:m7 P H H') (t:H P=some (.xg ps)):Same (tQ H) (tQ H'):=fun b o h=>by
 refine lZ (s b o (fun z=>?_) (jk _ _ h)) (Rw h);subst z;have:=jk _ _ h;rw [t] at this;cases this;exact Rw h _ rfl
theorem m7.lam {P:aB} {H H':Hp} {pos:Pos} {q:Str} (s:m7 P H H') (t:lH P pos q H):Same (tQ H) (tQ H'):=by
 obtain ⟨ps,h,_⟩:=t;exact s.off h
theorem Same.but {P:aB} {H H':Hp} (s:Same H H'):m7 P H H':=fun b o _ e=>s b o e
theorem lH.same {P:aB} {H H':Hp} {pos:Pos} {q:Str} (t:lH P pos q H) (s:Same H H'):lH P pos q H':=by
 obtain ⟨ps,h,ok,h'⟩:=t;refine ⟨ps,s _ _ h,ok,h'.imp id ?_⟩;rintro ⟨c,e,hc⟩;exact ⟨c,e,s _ _ hc⟩
end L2
namespace Tw
open PySem L2
structure Gi {α:Type} (R:Rep α):Prop where
 of:∀ {H:Hp} {v:V} {x:α},R H v x->R (tQ H) v x
theorem wO:Gi pA:=⟨fun h=>h⟩
theorem Lw:Gi Xd:=⟨fun h=>h⟩
section
variable {α β γ:Type} {R:Rep α} {S:Rep β} {T:Rep γ}
theorem Xl (r:Gi R):Gi (jH R):=by
 constructor;rintro H v xs ⟨t,vs,e,h,p⟩;exact ⟨t,vs,e,lZ h (fun _ z=>by cases z),Paired.jd p fun _ _ z=>r.of z⟩
theorem Gj (r:Gi R) (s:Gi S) (q:Gi T):Gi (FN R S T):=by
 constructor;rintro H v x ⟨t,u,w,z,e,h,a,b,c⟩;exact ⟨t,u,w,z,e,lZ h (fun _ y=>by cases y),r.of a,s.of b,q.of c⟩
end
end Tw
namespace L2
open PySem
end L2
namespace L2
open PySem PySem.Spec PyProof.Rows
noncomputable def Dj (f:aB) (qual:Str) (params:Arguments) (body:Expr) (scope:Scope) (cl:List (Str × aB)) (pm:aC) (c':aB) (ctv:aC):HO:=.ext fun h=>h.get? f=some (kla_obj "<lambda>" qual params body scope cl pm c' ctv)
section
variable {X:Cx} {params:Arguments} {body:Expr} {scope:Scope} {cl:List (Str × aB)} {qual x:Str} {Ji:Pos} {c P:aB}
noncomputable def ayc (P:aB) (Ji:Pos) (qual:Str) (params:Arguments) (body:Expr) (scope:Scope) (cl:List (Str × aB)):TE:=fun _ H Q=>lH P Ji qual H /\ ∀ f c' pm ctv H',m7 P H H'->lH P Ji qual H'->H' c'=some (tH c' qual)->H' f=some (Dj f qual params body scope cl pm c' ctv)->Q (.ref f) H'
theorem Rx (hcl:closureFor scope X.env=pure cl) (hcode:X.env.code=.ref c) (C:CodeHd X.base c P) (hB:X.base.BuiltinsAt X.mg P) (hex:X.ex=[]) (hq:X.env.qual++"<lambda>"=qual) (hdef:autoParam (defaultsOf params X.env=([],[])) zau0) : PE X (.Lambda params body scope Ji) (ayc P Ji qual params body scope cl):=by
 intro pins s σ H Q I h;obtain ⟨T,k⟩:=h;refine Rq I hdef hcl hcode C hB hex T hq fun f c' ctv pm h' tk H2 ge bp T2 ZL hf2 I2 ho=>?_
 have fpf:=I.Cq (H':=H2) ge hf2;have hnx:f ∉ X.ex:=by rw [hex]; simp
 have I3:=I2.adopt (b:=f) (o:=Dj f qual params body scope cl pm c' ctv) ⟨fpf.1,fpf.2.1,fpf.2.2.1,fun _=>Heap.get?_none_of_le (bH I.sz ge),fpf.2.2.2.2.1,fpf.2.2.2.2.2⟩ hnx ⟨ho,⟨_,ho⟩,fun _ _ y k=>k _ y⟩;have nP:f≠P:=fun z=>by
  obtain ⟨ps,e,_⟩:=T2;rw [z,e] at hf2;cases hf2
 have s3:Same H2 (upd H2 f (Dj f qual params body scope cl pm c' ctv)):=fun b u e=>by rw [bw (cV e hf2)]; exact e
 exact ⟨.ref f,_,I3,rfl,k f c' pm ctv _ (bp.trans s3.but) (T2.same s3) (s3 _ _ ZL) aG⟩
end
noncomputable abbrev an2 (P:bZ) (w:World) (K:Fg) (mg:Str->Option aC) (base:Heap) (N:List Str) (qual:Str) (scope:Scope) (cl:List (Str × aB)) (f:aB) (cd:aC) (A:dB) (outer:List Env) (s:aV) (H:Hp) (E':aC->aV->Prop):Cx := { prog:=P,w:=w,K:=K,mg:=mg,base:=base,A:=A.deeper (envX qual scope s.heap.objs.size f cd cl),N:=N,s₀:=s,H₀:=H,env:=envX qual scope s.heap.objs.size f cd cl,outer:=outer,stack:=envX qual scope s.heap.objs.size f cd cl::outer,ex:=[],fn:=fun _=>false,calm:=true,pn:=[],xe:=E' }
structure Jm (base:Heap) (scope:Scope) (cl:List (Str × aB)) (x:Str) (N':List Str) (zs:List (Option V)):Prop where
 kind:scope.kind=.function
 co:scope.isCoroutine=false
 gen:scope.isGenerator=false
 o7:∀ y ∈ scope.names,y.2≠.cell
 par:scope.names.lookup x=some .local
 inj:∀ y z c,cl.lookup y=some c->cl.lookup z=some c->y=z
 has:∀ n,scope.names.lookup n=some .free->∃ c,cl.lookup n=some c
 cell:∀ n c,cl.lookup n=some c->∃ u,base.IsCell c (some u)
 len:zs.length=N'.length
 vals:∀ (i:Nat) (y:Str) (z:V),N'[i]?=some y->zs[i]?=some (some z)->scope.names.lookup y=some .free/\∃ c u,cl.lookup y=some c/\RelV z u/\base.IsCell c (some u)
theorem Ry {P:bZ} {w:World} {K:Fg} {mg:Str->Option aC} {base:Heap} {CX:zJ} {k:Nat} {f c':aB} {params:Arguments} {body:Expr} {scope:Scope} {cl:List (Str × aB)} {qual x:Str} {ctv pm:aC} {N':List Str} {zs:List (Option V)} {sp:Sp} (L:Jm base scope cl x N' zs) (len:∀ vs H Q E,sp vs H Q E->vs.length=1) (hb:∀ (A:dB) (outer:List Env) (s:aV) (H:Hp) (v:V) (Q:VK) (E:XK),dJ k (A.deeper (envX qual scope s.heap.objs.size f (.ref c') cl))->sp [v] H Q E -> H f=some (Dj f qual params body scope cl pm c' ctv)/\H c'=some (tH c' qual)/\∃ tb,(∀ E',PE (an2 P w K mg base (x::N') qual scope cl f (.ref c') A outer s H E') body tb)/\tb (some v::zs) H Q) : bT P w K mg base CX (k + 1) f (kla_fn "<lambda>" qual params body scope cl pm (.ref c') ctv) [x] sp:=by
 refine ⟨fun vs H Q E h=>len vs H Q E h,fun A outer s H args us vs Q E hr e0 hbd r hsp=>?_⟩;obtain ⟨v,rfl⟩:∃ v,vs=[v]:=by
  have:=len _ _ _ _ hsp
  match vs,this with
  | [v],_=>exact ⟨v,rfl⟩
 obtain ⟨u,rfl,ru⟩:=vals1 r;have lim:s.heap.NoLimit:=e0.mod.nolimit.keeps fun b o e=>(e0.bs b o e).1
 obtain ⟨hf,hc,tb,hpe,hq⟩:=hb A outer s H v Q E (hr.deeper _) hsp;have ho:s.heap.get? f=some (kla_obj "<lambda>" qual params body scope cl pm c' ctv):=(show fV P w H s.heap f (Dj f qual params body scope cl pm c' ctv) from e0.hok f _ hf).1;have hcd:s.heap.CodeRec (.ref c') qual:=(show fV P w H s.heap c' (tH c' qual) from e0.hok c' _ hc).1;refine PySem.W.kla_callFunE hr.depth ho rfl L.co L.gen rfl hcd (hbd _ _ _ _ ?_);refine wpAny_newFunctionEnv L.o7 (fun y hy=>?_) (fun h₁ hns hsb=>⟨lim.fresh _ hsb,?_⟩) L.kind
 ·rw [aL.mp (show y ∈ [(x,u)] from hy)]; exact L.par
 have hk:∀ b o,s.heap.get? b=some o->h₁.get? b=some o:=fun b o e=>hsb.extBut b o (Nat.ne_of_lt (Heap.lt_size e)) (aq _ e)
 have Ol:∀ (y:Str),scope.names.lookup y=some .cell->False:=fun y e=>L.o7 _ (PySem.mem_of_lookup e) rfl
 have bk:∀ b o,base.get? b=some o->h₁.get? b=some o:=fun b o e=>hk b o (e0.bs b o e).1
 have an3:∀ y c,cl.lookup y=some c->H c=none:=fun y c e=>by
  obtain ⟨u,o,q,_⟩:=L.cell y c e;exact (e0.bs c o q).2
 refine PySem.W.kla_codeExpr ?_;have J:Inv (an2 P w K mg base (x::N') qual scope cl f (.ref c') A outer s H fun e' s'=>wpAny (model P w) (A.deeper (envX qual scope s.heap.objs.size f (.ref c') cl)) (leaving (envX qual scope s.heap.objs.size f (.ref c') cl) e') (fun _ s''=>CR CX outer P w H s Q E (.error e') s'') (fun e'' s''=>CR CX outer P w H s Q E (.error e'') s'') s') [] (some v::zs) H { s with heap:=h₁,toks:=s.toks + 1 }:=by
  refine ⟨⟨e0.mod,L.kind,rfl,rfl,aM _,L.inj,fun y hy=>?_,(fun y c e=>nomatch e),fun _=>hr.hd,Around.frames_deeper e0.frames,.inr ⟨rfl,rfl⟩,(fun b hb=>nomatch hb),e0.bs,e0.M9,(fun b o e z=>nomatch z),(fun b hb=>nomatch hb),e0.oV,e0.Vs⟩,rfl,e0.bare,Un.kept hk,⟨_,hns,fun i y z e1 e2 e3=>?_⟩,fun y c e=>?_,e0.hok.fresh (aM _),an3,(fun p hp=>nomatch hp),e0.hok.kept hk,?_⟩
  ·have hy:scope.names.lookup y=some .cell\/scope.names.lookup y=some .free:=hy;rcases hy with hy | hy
   ·exact (Ol y hy).elim
   ·exact L.has y hy
  ·cases i with
   | zero =>
    have e1:some x=some y:=e1;have e2:some (some v)=some (some z):=e2;cases e1;cases e2;exact ⟨u,ru,.inl ⟨L.par,by simp⟩⟩
   | succ i =>
    have e1:N'[i]?=some y:=e1;have e2:zs[i]?=some (some z):=e2;obtain ⟨fr,c,uz,l,rz,q⟩:=L.vals i y z e1 e2;exact ⟨uz,rz,.inr ⟨.inr fr,c,l,q.keeps bk⟩⟩
  ·obtain ⟨u,q⟩:=L.cell y c e;exact ⟨_,q.keeps bk⟩
  ·show (some v::zs).length=(x::N').length
   rw [length_cons,length_cons,L.len]
 refine wpAny_mono (hpe _ [] _ _ H Q J hq) (fun y s' hy=>?_) fun e s' he=>he
 obtain ⟨z,H',J',rz,q⟩:=hy;exact ⟨z,H',J'.os,J'.bare,J'.base,J'.hok,rz,q⟩
def yd (H:Hp) (f:aB):Prop:=∃ qual params body scope cl pm c' ctv,H f=some (Dj f qual params body scope cl pm c' ctv)
section
variable {X:Cx} {CX:zJ} {k:Nat} {f:aB} {fd:d7} {ps:List Str} {E:XK} {x:Str} {p pos:Pos} {e:Expr} {es:List Expr} {t:TA}
noncomputable def agA (X:Cx) (CX:zJ) (k i:Nat) (E:XK) (t:TA):TE:=fun σ H Q=>∃ f fd ps sp,σ[i]?=some (some (.ref f))/\yd H f/\bT X.prog X.w X.K X.mg X.base CX k f fd ps sp/\Binds X.K fd ps []/\t σ H fun vs H1=>yd H1 f/\sp vs H1 Q E
theorem yd.at {pins:List (aB × Obj)} {σ:St} {H:Hp} {s:aV} (I:Inv X pins σ H s) (l:yd H f):FnAt f s.heap:=by
 obtain ⟨qual,params,body,scope,cl,pm,c',ctv,h⟩:=l;have:=(show fV X.prog X.w H s.heap f (Dj f qual params body scope cl pm c' ctv) from I.hok f _ h).1;exact ⟨_,_,_,_,this⟩
theorem Gk (i:Nat) (hr:dJ k X.A) (hx:Passes CX X E) (ha:PA X (e::es) t) (hN:autoParam (X.N[i]?=some x) zau0) (hv:autoParam (Vis X.env.scope x) zau5) (hdb:autoParam ((x == ("__debug__":Str))=false) zau1) (hcd:autoParam ((x == ("__classdict__":Str))=false) zau1) (he:autoParam (starEach (e::es) X.env=(false,eval e X.env)::starEach es X.env) zau0) (hpl:autoParam ((backTo pos (starEach es X.env)).any (·.1)=false) zau0) : PE X (.Call (.Name x p) (e::es) [] pos) (agA X CX k i E t):=by
 intro pins s σ H Q I h;obtain ⟨f,fd,ps,sp,hi,lm,F,hb,q⟩:=h;refine wpAny_Call_Name_kw (eY (PL (X:=X) hN hv hdb hcd pins s σ H (fun v H'=>v=.ref f/\H'=H) I ⟨_,hi,rfl,rfl⟩) fun u s1 ⟨v,H',I1,r,e1,e2⟩=>?_);subst e1 e2;obtain rfl:u=Value.ref f:=r;refine PySem.W.callWith_F (lm.at I1) (eY (ha pos pins s1 σ H' _ I1 q) fun us s2 ⟨vs,H1,I2,r2,lm2,q2⟩=>⟨lm2.at I2,?_⟩) he hpl;exact qO (qD:=[]) F hr hb .nil hx I2 r2 (by rw [cZ]; exact q2)
structure ZM (X:Cx) (σ:St) (base:Heap):Prop where
 mod:Mod X.K X.mg base
 old:∀ b o,X.base.get? b=some o->base.get? b=some o
 cell:∀ (i:Nat) (y:Str) (v:V),X.N[i]?=some y->σ[i]?=some (some v)->X.env.scope.names.lookup y=some .cell->∃ c u,X.env.cells.lookup y=some c/\RelV v u/\base.IsCell c (some u)
def agB (X:Cx) (sp:Heap->Sp) (E:XK) (t:TA):TE:=fun σ H Q=>t σ H fun vs H1=>∀ base,ZM X σ base->sp base vs H1 Q E
theorem Gm {h b1 b2:Heap}:∀ {l:List Env},h.FunFrames b1 l->(∀ b ∈ frs l,b2.get? b=none)->h.FunFrames b2 l
 | [],_,_=>trivial
 | env::rest,⟨hk,⟨L,o,hf,hn,ho,hd⟩,hr⟩,z=>by
  have e:frs (env::rest)=L::frs rest:=by
   unfold frs;rw [filterMap_cons,hf]
  rw [e] at z;exact ⟨hk,⟨L,o,hf,z L (mem_cons_self ..),ho,hd⟩,Gm hr fun b hb=>z b (mem_cons_of_mem _ hb)⟩
theorem Jo {pins:List (aB × Obj)} {σ:St} {H:Hp} {s:aV} (I:Inv X pins σ H s) (hfn:∀ y,X.fn y=true):∃ base,ZM X σ base/\Cr X.prog X.w X.K X.mg base X.A X.stack s H:=by
 have old:∀ b o,X.base.get? b=some o->(rQ s.heap fun b=>if b ∈ frs X.stack then some (.lst []) else H b).get? b=some o:=fun b o e=>by
  obtain ⟨h1,h2⟩:=I.bs b o e;refine xq h1 ?_;have n:b ∉ frs X.stack:=fun z=>by
   have:=(I.stack.mem z).1;rw [e] at this;cases this
  show (if b ∈ frs X.stack then some (HO.lst []) else H b)=none
  rw [if_neg n,h2]
 have md:Mod X.K X.mg (rQ s.heap fun b=>if b ∈ frs X.stack then some (.lst []) else H b):=⟨I.mod.Pq.keeps old,I.mod.glob.keeps old,let ⟨mb,h1,h2⟩:=I.mod.blt; ⟨mb,h1.keeps old,h2⟩,I.mod.nolimit.keeps old⟩;have hid:∀ b ∈ frs X.stack,(rQ s.heap fun b=>if b ∈ frs X.stack then some (.lst []) else H b).get? b=none:=fun b hb=>by
  cases e:(rQ s.heap fun b=>if b ∈ frs X.stack then some (.lst []) else H b).get? b with
  | none=>rfl
  | some o =>
   have:=(Ck e).2;rw [show (if b ∈ frs X.stack then some (HO.lst []) else H b)=some (.lst []) from if_pos hb] at this;cases this
 refine ⟨_,⟨md,old,fun i y v e1 e2 e3=>?_⟩,⟨I.ok.frames,md,fun b o e=>?_,Nat.le_of_eq (z8 _ _),Gm I.stack hid,I.wJ,I.hok,I.bare⟩⟩
 ·obtain ⟨m,hns,hl⟩:=I.loc;obtain ⟨u,r,lk⟩:=hl i y v e1 e2 (.inr (.inl e3));rcases lk with ⟨l,_⟩ | ⟨_,c,l,q⟩
  ·have l':X.env.scope.names.lookup y=some .local:=l;rw [e3] at l';cases l'
  ·refine ⟨c,u,l,r,?_⟩;obtain ⟨o,ho,hd⟩:=q;refine ⟨o,xq ho ?_,hd⟩;have n:c ∉ frs X.stack:=fun z=>by
    rcases aQ.mp (I.qK c z) with e | hb
    ·obtain ⟨o',es,ep,e',d',_⟩:=hns;rw [e] at ho;rw [ho] at e';cases e';rw [d'] at hd;cases hd
    ·obtain ⟨_,o',ho',_⟩:=I.ok.oV.mem hb;have:=I.ok.cab y c (hfn y) l;exact absurd (aZ (Heap.lt_size ho') this) (cM _)
   show (if c ∈ frs X.stack then some (HO.lst []) else H c)=none
   rw [if_neg n,I.jr y c l]
 ·obtain ⟨h1,h2⟩:=Ck e;refine ⟨h1,?_⟩
  by_cases z:b ∈ frs X.stack
  ·rw [show (if b ∈ frs X.stack then some (HO.lst []) else H b)=some (.lst []) from if_pos z] at h2;cases h2
  ·rw [show (if b ∈ frs X.stack then some (HO.lst []) else H b)=H b from if_neg z] at h2;exact h2
theorem Rz {sp:Heap->Sp} (F:∀ base,Mod X.K X.mg base->(∀ b o,X.base.get? b=some o->base.get? b=some o)->bT X.prog X.w X.K X.mg base CX k f fd ps (sp base)) (hfn:∀ y,X.fn y=true) (hr:dJ k X.A) (hm:X.mg x=some (.ref f)) (hk:keepIn X.K (.ref f)=true) (hb:Binds X.K fd ps []) (hx:Passes CX X E) (ha:PA X (e::es) t) (hg:autoParam (Gl X x) zau0) (hdb:autoParam ((x == ("__debug__":Str))=false) zau1) (he:autoParam (starEach (e::es) X.env=(false,eval e X.env)::starEach es X.env) zau0) (hpl:autoParam ((backTo pos (starEach es X.env)).any (·.1)=false) zau0) : PE X (.Call (.Name x p) (e::es) [] pos) (agB X sp E t):=by
 intro pins s σ H Q I h;refine wpAny_Call_Name_kw (lO I hg hm ?_ hdb);refine callWith_K (h₀:=X.base) I.ok.mod.Pq hk (eY (ha pos pins s σ H _ I h) fun us s1 ⟨vs,H1,I1,r,q⟩=>⟨I1.oU,?_⟩) he hpl;obtain ⟨base,cb,e0⟩:=Jo I1 hfn;have F':=F base cb.mod cb.old;have h':=q base cb;have hl:us.length=ps.length:=by rw [<- r.length]; exact F'.len _ _ _ _ h'
 have hbs:=hb s1 us I1.oU (by rw [cZ]; exact hl);rw [cZ] at hbs;refine wpAny_call (dh (F'.run X.A X.stack s1 H1 ⟨us,[]⟩ us vs Q E hr e0 hbs r h') fun r s' hq=>?_);cases r with
 | error e=>exact hx pins σ H1 s1 e s' I1 hq
 | ok fl =>
  cases fl with
  | ret u=>exact I1.after hq
  | next=>exact False.elim hq
  | brk=>exact False.elim hq
  | cont=>exact False.elim hq
end
section
variable {X:Cx}
theorem Bc (hc:X.calm=true):iy X (.builtin "sum") (fun xs H Q=>∃ (p:aB) (ns:List Int),xs=[.ref p]/\cW X.K H p (ns.map V.int)/\Q (.int ns.sum) H):=by
 intro pins s σ H xs us Q I r h;obtain ⟨p,ns,rfl,sq,q⟩:=h;obtain ⟨u,rfl,rx⟩:=Vals.one r;cases rx;obtain ⟨its,rv,pl,_⟩:=I.list sq;obtain ⟨e1,e2⟩:=Ay rv;obtain ⟨ys,ey⟩:=AllInts.items (vs:=its.toArray) fun v hv=>e2 v (by simpa using hv)
 have en:ys.toList.map (·.1)=ns:=by
  rw [<- nums_intItems,<- ey,<- e1]
 refine sum_intListG (I.ok.hd hc) (by rw [<- ey]; exact pl.isList) fun h' tk t' hk=>?_
 refine ⟨.int _,H,I.kept (h':=h') (t':=tk) hk,⟨t',rfl⟩,?_⟩;rw [preSum_eq,List.take_of_length_le (by simp),en];exact q
theorem any_range:∀ bs:List Bool,((List.range bs.length).any fun i=>(bs[i]?).getD true)=bs.any id
 | []=>rfl
 | b::bs=>by
  have ih:=any_range bs;simp only [length_cons,List.range_succ_eq_map,any_cons,List.any_map,List.getElem?_cons_zero,Option.getD_some];exact congrArg (b || ·) ih
theorem Om (hc:X.calm=true):iy X (.builtin "any") (fun xs H Q=>∃ (p:aB) (bs:List Bool),xs=[.ref p]/\cW X.K H p (bs.map V.bl)/\Q (.bl (bs.any id)) H):=by
 intro pins s σ H xs us Q I r h;obtain ⟨p,bs,rfl,sq,q⟩:=h;obtain ⟨u,rfl,rx⟩:=Vals.one r;cases rx;obtain ⟨its,rv,pl,_⟩:=I.list sq;have lt:p < s.heap.objs.size:=by obtain ⟨o,e,_⟩:=pl.isList; exact Heap.lt_size e
 have len:its.length=bs.length:=by have:=rv.length; simpa using this.symm
 refine call_any_walk (wpAny_pyIter_list pl.isList ⟨_,[s.heap.objs.size,p],[s.heap.objs.size],its.toArray.size,_,_,fun i=>(bs[i]?).getD true,rfl,Walks.list (A:=X.A.in1) (I.ok.hd hc) _ p (Nat.ne_of_lt lt) its.toArray,⟨⟨_,aN _ rfl,rfl,rfl⟩,pl.isList.push _⟩,fun i v s' Q' E' hv hq=>?_,fun h' tk keep=>?_⟩)
 ·obtain ⟨b,hb,rfl⟩:=Fq rv (i:=i) (v:=v) (by simpa using hv);have hq:Q' ((bs[i]?).getD true) s':=hq;rw [hb] at hq;exact wpAny_truthy_bool hq
 ·rw [size_toArray,len,any_range];refine ⟨.bl _,H,I.kept (h':=h') (t':=tk) fun b o e=>keep b o ?_ (aq _ e),rfl,q⟩;rw [aL];exact Nat.ne_of_lt (Heap.lt_size e)
def Bd (K:Fg) (H:Hp) (v:V) (o:Option Str):Prop:=(∃ nm,v=.str nm/\o=some nm)\/(o=none/\(v=.non\/∃ l xs,v=.ref l/\cW K H l xs))
theorem Bf (nm:Str):∀ ns:List Str,inV (.str nm) (ns.map V.str)=decide (nm ∈ ns)
 | []=>rfl
 | p::ps=>by
  have ih:=Bf nm ps;unfold inV at ih ⊢;rw [cj,any_cons,ih]
  show ((p == nm) || _)=_
  by_cases h:p=nm
  ·simp [h]
  ·have h':¬ nm=p:=fun z=>h z.symm
   simp [h,h']
theorem Lx:∀ ns:List Str,inV .non (ns.map V.str)=false
 | []=>rfl
 | p::ps=>by
  have ih:=Lx ps;unfold inV at ih ⊢;rw [cj,any_cons,ih];rfl
theorem yg (l:List Str):(l.map V.str).all jt=true:=by
 rw [all_map,all_eq_true];intro x _;rfl
def agC:Option Str->List Str->Bool
 | some nm,ns=>!decide (nm ∈ ns)
 | none,_=>true
def Xm (K:Fg):R2:=fun x y H Q=>∃ (p:aB) (ns:List Str) (o:Option Str),y=.ref p/\cW K H p (ns.map V.str)/\Bd K H x o/\Q (.bl (agC o ns)) H
theorem Oq (hu:X.A.units + 64 < cLine):oJ X (compareOp .NotIn) (Xm X.K):=by
 intro pins s σ H x y v u Q I rx ry h;obtain ⟨p,ns,o,rfl,sq,na,q⟩:=h;rcases na with ⟨nm,rfl,rfl⟩ | ⟨rfl,rfl | ⟨l,xs,rfl,sl⟩⟩
 ·refine sJ pins s σ H _ _ v u Q I rx ry ⟨p,_,rfl,.inl sq,rfl,yg _,?_⟩;rw [Bf];exact q
 ·refine sJ pins s σ H _ _ v u Q I rx ry ⟨p,_,rfl,.inl sq,rfl,yg _,?_⟩;rw [Lx];exact q
 ·cases ry;cases rx;obtain ⟨its,r,pl,hz⟩:=I.list sq;obtain ⟨its2,r2,pl2,hz2⟩:=I.list sl;refine SeqAt.notIn_listAt (fun _=>false) pl.isList (fun w hw=>?_) ⟨.bl _,H,I,rfl,?_⟩
  ·have hw:w ∈ its:=by simpa using hw
   obtain ⟨i,hi⟩:=List.getElem?_of_mem hw;have li:i < (ns.map V.str).length:=by rw [r.length]; exact (aD.mp hi).1
   obtain ⟨u',hu',ru'⟩:=r.get (aA li);rw [hi] at hu';cases hu';rw [List.getElem_map] at ru';obtain ⟨t,rfl⟩:=ru';exact SeqAt.EqAt.str_list _ _ pl2.isList (by rw [show X.A.in1.units=X.A.units + 1 from rfl]; omega)
  ·rw [show its.toArray.any (fun _=>false)=false by simp];exact q
end
section
variable {X:Cx} {CX:zJ} {k:Nat} {ps:List Str} {E:XK} {m:Str} {pos apos:Pos} {o:Expr} {ta:TE}
def Xn (Cs:aB->Prop) (m:Str) (sp:aB->Sp) (E:XK) (ta:TE):TE:=fun σ H Q=>ta σ H fun x H1=>∃ a C dx fs,x=.ref a/\H1 a=some (.ins C dx fs)/\Cs C/\fs.lookup m=none/\sp C [x] H1 Q E
theorem Ot {pl:Sem Bool} {sp:aB->Sp} {Cs:aB->Prop} (he:PE X o ta) (hr:dJ k X.A) (hC:∀ C,Cs C->∃ f fd,Cls X.K C/\Meth X.K C m f/\bT X.prog X.w X.K X.mg X.base CX k f fd ps (sp C)/\Binds X.K fd ps []) (hx:Passes CX X E) (ht:autoParam (eval (.Call (.Attribute o m apos) [] [] pos) X.env=(do
   let ov <- eval o X.env
   standAt apos.atName
   let (f,first) <- holding [ov] (getMethod ov m pl)
   callWith pos f first (backTo pos (starEach [] X.env)) (backToKw pos (keywordEach [] X.env)))) zau0) :
  PE X (.Call (.Attribute o m apos) [] [] pos) (Xn Cs m sp E ta):=by
 intro pins s σ H Q I h;refine methodCall_KW (pl:=pl) (eY (he pins s σ H _ I h) fun u s1 ⟨x,H1,I1,rx,a,C,dx,fs,ex,ea,cs,l,q⟩=>?_) ht;subst ex;obtain rfl:u=Value.ref a:=rx;obtain ⟨f,fd,c,hm,F,hb⟩:=hC C cs;refine jQ I1 ea c hm l ?_;exact callWith_K0 (first:=[.ref a]) I1.oU hm.kp (qO (us:=[.ref a]) (vs:=[.ref a]) (qD:=[]) F hr hb .nil hx I1 (.cons rfl .nil) q)
end
theorem Gn {α β:Type} {f:α->β}:∀ {l:List α},(l.map f).Nodup->∀ {x y:α},x ∈ l->y ∈ l->f x=f y->x=y
 | [],_,_,_,h,_,_=>nomatch h
 | a::l,nd,x,y,hx,hy,e=>by
  rw [cj,nodup_cons] at nd;rcases aQ.mp hx with ex | kx
  ·rcases aQ.mp hy with ey | ky
   ·rw [ex,ey]
   ·exact absurd (bh.mpr ⟨y,ky,by rw [<- e,ex]⟩) nd.1
  ·rcases aQ.mp hy with ey | ky
   ·exact absurd (bh.mpr ⟨x,kx,by rw [e,ey]⟩) nd.1
   ·exact Gn nd.2 kx ky e
theorem pH:∀ {caps:List (Str × aB × V)},(caps.map fun q=>q.1).Nodup->∀ {q:Str × aB × V},q ∈ caps->(caps.map fun q=>(q.1,q.2.1)).lookup q.1=some q.2.1
 | [],_,_,h=>nomatch h
 | p::caps,nd,q,h=>by
  rw [cj] at nd ⊢;rw [nodup_cons] at nd;rw [lookup_cons];rcases aQ.mp h with rfl | hq
  ·rw [beq_self_eq_true]
  ·have:(q.1 == p.1)=false:=by
    rw [beq_eq_false_iff_ne];intro z;exact nd.1 (bh.mpr ⟨q,hq,z⟩)
   rw [this];exact pH nd.2 hq
theorem Jm.of {base:Heap} {scope:Scope} {x:Str} (caps:List (Str × aB × V)) (kind:scope.kind=.function) (co:scope.isCoroutine=false) (gen:scope.isGenerator=false) (o7:∀ y ∈ scope.names,y.2≠.cell) (par:scope.names.lookup x=some .local) (n1:(caps.map fun q=>q.1).Nodup) (n2:(caps.map fun q=>q.2.1).Nodup) (fr:∀ n ∈ caps.map fun q=>q.1,scope.names.lookup n=some .free) (has:∀ y ∈ scope.names,y.2=.free->y.1 ∈ caps.map fun q=>q.1) (cell:∀ q ∈ caps,∃ u,RelV q.2.2 u/\base.IsCell q.2.1 (some u)):Jm base scope (caps.map fun q=>(q.1,q.2.1)) x (caps.map fun q=>q.1) (caps.map fun q=>some q.2.2):=by
 have back:∀ {n:Str} {c:aB},(caps.map fun q=>(q.1,q.2.1)).lookup n=some c->∃ q ∈ caps,q.1=n/\q.2.1=c:=fun {n c} h=>by
  obtain ⟨q,hq,e⟩:=bh.mp (PySem.mem_of_lookup h);cases e;exact ⟨q,hq,rfl,rfl⟩
 refine ⟨kind,co,gen,o7,par,fun y z c h1 h2=>?_,fun n h=>?_,fun n c h=>?_,by rw [au,au],fun i y z h1 h2=>?_⟩
 ·obtain ⟨q,hq,rfl,rfl⟩:=back h1;obtain ⟨p,hp,rfl,e⟩:=back h2;rw [Gn n2 hp hq e]
 ·have:=has _ (PySem.mem_of_lookup h) rfl;obtain ⟨q,hq,rfl⟩:=bh.mp this;exact ⟨_,pH n1 hq⟩
 ·obtain ⟨q,hq,rfl,rfl⟩:=back h;obtain ⟨u,_,hc⟩:=cell q hq;exact ⟨u,hc⟩
 ·rw [aF] at h1 h2;obtain ⟨q,hq,rfl⟩:=bA.mp h1;rw [hq] at h2;cases h2;have hm:=aH hq;obtain ⟨u,ru,hc⟩:=cell q hm;exact ⟨fr q.1 (bh.mpr ⟨q,hm,rfl⟩),_,u,pH n1 hm,ru,hc⟩
def uM (TB:List aB) (a:aB) (u:Option HO):Hp:=fun b=>if b ∈ TB then some (.xg #[]) else if b=a then u else none
theorem Ou {P:bZ} {w:World} {K:Fg} {mg mb:Str->Option aC} {CX:zJ} {k:Nat} {fa a:aB} {TB:List aB} {fd:d7} {x:Str} {sp:Sp} {s₁:aV} {vs:List aC} {ns:List Int} (KX:K.In s₁.heap) (hns:s₁.heap.Ns mainGlobals mg) (hb:s₁.heap.Ns builtinsNs mb) (hbb:∀ x:Str,x≠"__name__"->mb x=bootBuiltins x) (hlim:s₁.heap.NoLimit) (hg:s₁.gens=#[]) (hP:∀ PB ∈ TB,s₁.heap.get? PB=some (tabObj #[])) (nP:∀ PB ∈ TB,K.lookup PB=none) (hC:∀ PB ∈ TB,∃ c,CodeHd s₁.heap c PB) (hbm:∀ PB ∈ TB,s₁.heap.BuiltinsAt mg PB) (ha:s₁.heap.get? a=some { cls:=.type "list",data:=.seq vs.toArray }) (hi:IntsAre vs ns) (hl:ns.length<=sizeLine) (hr:dJ k callerA) (F:∀ base:Heap,K.In base->base.Ns mainGlobals mg->(∀ PB ∈ TB,base.BuiltinsAt mg PB)->bT P w K mg base CX k fa fd [x] sp) (hbind:∀ (s:aV) (u:aC),BindsTo s fd ⟨[u],[]⟩ [(x,u)]) (hsp:∀ H:Hp,(∀ PB ∈ TB,H PB=some (.xg #[]))->cW K H a (ns.map V.int)->sp [.ref a] H (fun v _=>v=.bl true) fun _ _ _=>False) (hCX:∀ H e s',CX [] H s₁ (fun _ _ _=>False) e s'->False) : codeAny (model P w) callerA (.call (.ref fa) ⟨[.ref a],[]⟩) (fun r s'=>r=.ok (.ret (.bool true))/\OldK s₁.heap s'.heap/\s'.os=s₁.os/\AllBare s'.gens) s₁:=by
 have rv:=Ai hi;have lenV:=hi.length;have naP:a ∉ TB:=fun z=>by
  rw [hP a z] at ha;cases ha
 have core:∀ u:Option HO,(∀ o,u=some o->∃ ob xs,o=.Cj ob (.lst xs))->cW K (uM TB a u) a (ns.map V.int)->uw P w (uM TB a u) s₁.heap->(u≠none->K.lookup a=none) ->
   codeAny (model P w) callerA (.call (.ref fa) ⟨[.ref a],[]⟩) (fun r s'=>r=.ok (.ret (.bool true))/\OldK s₁.heap s'.heap/\s'.os=s₁.os/\AllBare s'.gens) s₁:=by
  intro u hu hS hok hK;have hPB:∀ PB ∈ TB,uM TB a u PB=some (.xg #[]):=fun PB z=>if_pos z
  have hA:∀ b,uM TB a u b≠none->b ∈ TB\/(b=a/\u≠none):=fun b z=>by
   by_cases e:b ∈ TB
   ·exact .inl e
   ·by_cases e':b=a
    ·refine .inr ⟨e',fun z'=>z ?_⟩;unfold uM;rw [if_neg e,if_pos e',z']
    ·refine absurd ?_ z;unfold uM;rw [if_neg e,if_neg e']
  have Dk:∀ {b:aB} {o:Obj},s₁.heap.get? b=some o->uM TB a u b=none->(rQ s₁.heap (uM TB a u)).get? b=some o:=fun e n=>xq e n
  have no:∀ {b:aB} {o:Obj},s₁.heap.get? b=some o->(∀ its,o.data≠.seq its)->(∀ ps,o.data≠.fields ps)->uM TB a u b=none:=fun {b o} e n1 n2=>by
   cases q:uM TB a u b with
   | none=>rfl
   | some v =>
    rcases hA b (by rw [q]; simp) with e' | ⟨e',_⟩
    ·rw [hP b e'] at e;cases e;exact absurd rfl (n2 _)
    ·rw [e',ha] at e;cases e;exact absurd rfl (n1 _)
  have nsK:∀ {b:aB} {m:Str->Option aC},s₁.heap.Ns b m->(rQ s₁.heap (uM TB a u)).Ns b m:=fun {b m} ⟨o,es,ep,e,d,r⟩=>⟨o,es,ep,Dk e (no e (fun _ z=>by rw [d] at z; cases z) (fun _ z=>by rw [d] at z; cases z)),d,r⟩
  have hKb:K.In (rQ s₁.heap (uM TB a u)):=fun b o e=>Dk (KX b o e) (by
   cases q:uM TB a u b with
   | none=>rfl
   | some v =>
    rcases hA b (by rw [q]; simp) with e' | ⟨e',z⟩
    ·rw [nP b e'] at e; cases e
    ·rw [e',hK z] at e; cases e)
  have aye:∀ PB ∈ TB,(rQ s₁.heap (uM TB a u)).BuiltinsAt mg PB:=fun PB z=>by
   obtain ⟨bm,o,h1,h2,h3,h4,h5,h6,h7,h8⟩:=hbm PB z;exact ⟨bm,o,h1,h2,h3,h4,Dk h5 (no h5 (fun _ z=>by rw [h8] at z; cases z) (fun _ z=>by rw [h8] at z; cases z)),h6,h7,h8⟩
  have hM:Mod K mg (rQ s₁.heap (uM TB a u)):=⟨hKb,nsK hns,⟨mb,nsK hb,hbb⟩,let ⟨mc,h1,h2⟩:=hlim; ⟨mc,nsK h1,h2⟩⟩;have e0:Cr P w K mg (rQ s₁.heap (uM TB a u)) callerA [] s₁ (uM TB a u):=⟨rfl,hM,fun b o e=>Ck e,Nat.le_of_eq (z8 _ _),trivial,fun b hb=>absurd (show b ∈ ([]:List aB) from hb) (by simp),hok,.of_eq hg⟩;refine dh ((F _ hKb (nsK hns) aye).run callerA [] s₁ (uM TB a u) ⟨[.ref a],[]⟩ [.ref a] [.ref a] _ _ hr e0 (hbind s₁ (.ref a)) (.cons rfl .nil) (hsp _ hPB hS)) fun r s' h=>?_
  cases r with
  | error e=>exact (hCX _ e s' h).elim
  | ok fl =>
   cases fl with
   | next=>exact False.elim h
   | brk=>exact False.elim h
   | cont=>exact False.elim h
   | ret v' =>
    obtain ⟨v,H',os,bare,un,hok',r',q⟩:=h;have q':v=.bl true:=q;subst q';obtain rfl:v'=Value.bool true:=r';have ZP:∀ b o,b ∉ TB->s₁.heap.get? b=some o->s'.heap.get? b=some o:=fun b o nb e=>by
     cases q:uM TB a u b with
     | none=>exact un.keep b o e q (by intro z; exact absurd (show b ∈ ([]:List aB) from z) (by simp)) (by simp)
     | some v =>
      rcases hA b (by rw [q]; simp) with e' | ⟨e',_⟩
      ·exact absurd e' nb
      ·have hub:uM TB a u b=u:=by
        unfold uM;rw [if_neg nb,if_pos e']
       obtain ⟨ob,xs,z⟩:=hu v (by rw [<- hub]; exact q);rw [z] at q;have z2:=un.wu b ob _ q;obtain ⟨e1,_⟩:=hok b _ q;obtain ⟨e2,_⟩:=hok' b _ z2;rw [e] at e1; cases e1;exact e2
    have htb:∀ PB ∈ TB,∃ more,s'.heap.get? PB=some (tabObj (#[]++more)):=fun PB z=>by
     obtain ⟨more,hm⟩:=un.wz PB #[] (hPB PB z);exact ⟨more,hok' PB _ hm⟩
    refine ⟨rfl,⟨fun b o e=>?_,fun b o e=>?_⟩,os,bare⟩
    ·by_cases nb:b ∈ TB
     ·obtain ⟨more,hm⟩:=htb b nb;obtain ⟨c,hCc⟩:=hC b nb;rw [hP b nb] at e;cases e;exact .inr (.inl ⟨(hCc.tab (hP b nb)).isCodeTable,rfl,#[],more,rfl,hm⟩)
     ·exact .inl (ZP b o nb e)
    ·by_cases nb:b ∈ TB
     ·obtain ⟨more,hm⟩:=htb b nb;exact ⟨_,hm⟩
     ·exact ⟨o,ZP b o nb e⟩
 cases hk:K.lookup a with
 | some o =>
  have e:=KX a o hk;rw [ha] at e;cases e;refine core none (fun o z=>by cases z) (.inr ⟨_,vs.toArray,_,hk,rfl,rfl,rfl,by rw [size_toArray,lenV]; exact hl,by simpa using rv⟩) (fun b u z=>?_) fun z=>absurd rfl z
  by_cases e1:b ∈ TB
  ·rw [show uM TB a none b=some (.xg #[]) from if_pos e1] at z;cases z;exact hP b e1
  ·unfold uM at z;rw [if_neg e1] at z
   split at z <;> cases z
 | none =>
  have eA:uM TB a (some (.Cj { cls:=.type "list",data:=.seq vs.toArray } (.lst (ns.map V.int)))) a=some (.Cj { cls:=.type "list",data:=.seq vs.toArray } (.lst (ns.map V.int))):=by
   unfold uM;rw [if_neg naP,if_pos rfl]
  refine core (some (.Cj { cls:=.type "list",data:=.seq vs.toArray } (.lst (ns.map V.int)))) (fun o z=>⟨_,_,(bN z).symm⟩) (.inl (.inr ⟨_,eA⟩)) (fun b u z=>?_) fun _=>hk
  by_cases e1:b ∈ TB
  ·rw [show uM TB a _ b=some (.xg #[]) from if_pos e1] at z;cases z;exact hP b e1
  ·by_cases e2:b=a
   ·subst e2;rw [eA] at z;cases z;exact ⟨ha,by rw [au]; exact hl,vs,_,rv,ha⟩
   ·unfold uM at z;rw [if_neg e1,if_neg e2] at z;cases z
theorem RB {l:PySem.W.OpenLaw} {n k:Nat} {q:bZ} {loose:List Str} {XP:(Str->Option aC)->Heap->Prop} {YP:World->Heap->Prop} {d:DefRec} {K:Params->Fg} {CX:World->zJ} {sp:World->Sp} {x:Str} {TB:List aB} (hn:l.most=some n) (hn2:n<=sizeLine) (hdf:d.params.defaults=[]) (hr:dJ k callerA) (hY:∀ (w:World) (h:Heap),YP w h->(K w.params).In h/\∀ PB ∈ TB,h.get? PB=some (tabObj #[])) (nP:∀ p,∀ PB ∈ TB,(K p).lookup PB=none) (F:∀ (w:World) (mg:Str->Option aC) (fa:aB) (h:Heap),(K w.params).In h->h.Ns mainGlobals mg->mg d.name=some (.ref fa) -> ∃ fd:d7,(∀ (s:aV) (u:aC),BindsTo s fd ⟨[u],[]⟩ [(x,u)])/\(∀ base:Heap,(K w.params).In base->∀ PB ∈ TB,∃ c,CodeHd base c PB) /\ ∀ base:Heap,(K w.params).In base->base.Ns mainGlobals mg->(∀ PB ∈ TB,base.BuiltinsAt mg PB)->bT l.prog w (K w.params) mg base (CX w) k fa fd [x] (sp w)) (hsp:∀ (w:World) (H:Hp) (a:aB) (ns:List Int),ns.length<=n->(∀ PB ∈ TB,H PB=some (.xg #[]))->cW (K w.params) H a (ns.map V.int)->sp w [.ref a] H (fun v _=>v=.bl true) fun _ _ _=>False) (hCX:∀ (w:World) (H:Hp) (s:aV) (e:aC) (s':aV),CX w [] H s (fun _ _ _=>False) e s'->False) : PySem.W.WalkO q loose XP YP l.row.toRowW d [] (fun f vs=>PySem.call f vs):=by
 refine Att.Et hn hdf fun w s₀ s₁ mg mb fa o pm cd doc a vs ns G Y ho hd hcd hmg hobj hints hlen hg=>?_
 obtain ⟨KX,hP⟩:=hY w _ Y;obtain ⟨fd,hb,hC,hF⟩:=F w mg fa _ KX G.T.g hmg;have hbm:∀ PB ∈ TB,s₁.heap.BuiltinsAt mg PB:=fun PB zP=>by
  obtain ⟨bm,ob,c1,c2,c3,c4,c5,c6⟩:=G.T.bmain;refine ⟨bm,ob,c1,c2,fun z=>?_,fun z=>?_,c3,c4,c5,c6⟩
  ·obtain ⟨o',es,ep,e',hd',_⟩:=G.T.g;rw [z,e'] at c3;cases c3;rw [hd'] at c6;cases c6
  ·rw [z,hP PB zP] at c3;cases c3;cases c4
 exact Ou KX G.T.g G.T.b G.T.builtins G.T.nolimit hg hP (nP _) (hC _ KX) hbm hobj hints (bH hlen hn2) hr hF hb (fun H hO hS=>hsp w H a ns hlen hO hS) fun H e s'=>hCX w H s₁ e s'
theorem agD {K:Fg} {h:Heap} {p1 p2:aB} {o:Obj} (n0:(p1 == p2)=false) (n1:K.lookup p1=none) (n2:K.lookup p2=none) (X:PySem.W.Frag.In ((p1,o)::(p2,o)::K) h):K.In h/\∀ PB ∈ [p1,p2],h.get? PB=some o:=by
 have m1:List.lookup p1 ((p1,o)::(p2,o)::K)=some o:=by rw [lookup_cons,beq_self_eq_true]
 have nb:(p2 == p1)=false:=by
  rw [beq_eq_false_iff_ne] at n0 ⊢;exact Ne.symm n0
 have m2:List.lookup p2 ((p1,o)::(p2,o)::K)=some o:=by rw [lookup_cons,nb,lookup_cons,beq_self_eq_true]
 have up:∀ b u,K.lookup b=some u->List.lookup b ((p1,o)::(p2,o)::K)=some u:=fun b u e=>by
  have b1:(b == p1)=false:=by
   rw [beq_eq_false_iff_ne];intro z;rw [z,n1] at e;cases e
  have b2:(b == p2)=false:=by
   rw [beq_eq_false_iff_ne];intro z;rw [z,n2] at e;cases e
  rw [lookup_cons,b1,lookup_cons,b2];exact e
 refine ⟨fun b u e=>X b u (up b u e),fun PB z=>?_⟩;rcases aQ.mp z with rfl | z2
 ·exact X _ o m1
 ·rw [aL.mp z2];exact X p2 o m2
theorem agE {K:Fg} {p1 p2:aB} (n1:K.lookup p1=none) (n2:K.lookup p2=none):∀ PB ∈ [p1,p2],K.lookup PB=none:=fun PB z=>by
 rcases aQ.mp z with rfl | z2
 ·exact n1
 ·rw [aL.mp z2];exact n2
end L2
namespace Tw
open PySem L2
abbrev uN:cX:=top 2
abbrev qu:cX:=top 15
structure Blt (mg:Str->Option aC):Prop where
 isinstance:mg "isinstance"=none
 bool:mg "bool"=none
 int:mg "int"=none
 str:mg "str"=none
 list:mg "list"=none
 tuple:mg "tuple"=none
 len:mg "len"=none
 all:mg "all"=none
 set:mg "set"=none
 zip:mg "zip"=none
 reversed:mg "reversed"=none
 range:mg "range"=none
section
variable {P:bZ} {w:World} {K:Fg} {mg:Str->Option aC} {base:Heap}
def bV (v:V) (l m:Int):Bool:=match v with
 | .int i=>decide (l<=i) && decide (i<=m)
 | _=>false
def Ly (K:Fg):Sp:=fun vs H Q _=>∃ v l m k,vs=[v,.int l,.int m]/\fK K H v k/\Q (.bl (bV v l m)) H
theorem Xo:bM ["value","least","most"] ["value","least","most"] (aW uN):=dI (by decide +kernel)
theorem RD {f:aB} {fd:d7} (F:lB K "is_whole" "is_whole" uN f fd) (B:Blt mg):bT P w K mg base (d9 P w) 1 f fd ["value","least","most"] (Ly K):=by
 refine F.jU Xo (fun vs H Q E h=>?_) (fun cdv A outer s H vs Q E hr h=>?_)
 ·obtain ⟨v,l,m,k,rfl,_⟩:=h;rfl
 ·obtain ⟨v,l,m,k,rfl,hk,q⟩:=h;refine ⟨_,aJ (eE (pw_or (fW (uH .bool B.isinstance B.bool (pv 0))) (pw_or1 (gq (fW (uH .int B.isinstance B.int (pv 0)))))).pt (aU (bU lM)) cA) (aU (bU (Ep Ab Ab (pv 1) (pv 0) (pv 2)))),?_⟩;refine ⟨_,rfl,v,k,rfl,hk,_,rfl,?_⟩;have no:(∀ i,v≠.int i)->bV v l m=false:=fun h=>by
   cases v with
   | int i=>exact absurd rfl (h i)
   | _=>rfl
  cases k with
  | bl=>obtain ⟨b,rfl⟩:=hk; exact dN (dN q)
  | int =>
   obtain ⟨z,rfl⟩:=hk;refine dU ⟨_,rfl,_,.int,rfl,⟨z,rfl⟩,_,rfl,?_⟩;refine dU ⟨_,rfl,_,rfl,_,_,rfl,rfl,_,rfl,?_⟩;have e:bV (.int z) l m=(decide (l<=z) && decide (z<=m)):=rfl;rw [e] at q
   by_cases h1:l<=z
   ·rw [aO h1] at q ⊢;exact dN ⟨_,rfl,_,_,rfl,rfl,q⟩
   ·rw [aP h1] at q ⊢;exact dU q
  | non=>cases hk; exact dU ⟨_,rfl,_,.non,rfl,rfl,_,rfl,dN q⟩
  | str=>obtain ⟨x,rfl⟩:=hk; exact dU ⟨_,rfl,_,.str,rfl,⟨x,rfl⟩,_,rfl,dN q⟩
  | lst=>obtain ⟨a,xs,rfl,e⟩:=hk; exact dU ⟨_,rfl,_,.lst,rfl,⟨a,xs,rfl,e⟩,_,rfl,dN q⟩
  | tup=>obtain ⟨a,xs,rfl,e⟩:=hk; exact dU ⟨_,rfl,_,.tup,rfl,⟨a,xs,rfl,e⟩,_,rfl,dN q⟩
  | ins C=>obtain ⟨a,dx,fs,rfl,e⟩:=hk; exact dU ⟨_,rfl,_,.ins C,rfl,⟨a,dx,fs,rfl,e⟩,_,rfl,dN q⟩
def letter (c:Nat):Bool:=!decide ([c] < [97]) && !decide ([122] < [c])
def nameV (v:V):Bool:=match v with
 | .str x=>decide (1<=x.length) && decide (x.length<=12) && x.cps.toList.all letter
 | _=>false
theorem Ov (a:Array Nat):((List.range a.size).map fun i=>letter (a.getD i 0)).all id=a.toList.all letter:=by
 have e:a.toList=(List.range a.size).map fun i=>a.getD i 0:=by
  apply ext_getElem?;intro i
  by_cases h:i < a.size
  ·simp [h]
  ·simp [h]
 rw [e,all_map,all_map];rfl
def RG (K:Fg):Sp:=fun vs H Q _=>∃ v k,vs=[v]/\fK K H v k/\(∀ x,v=.str x->x.length<=sizeLine)/\∀ H',Same H H'->Q (.bl (nameV v)) H'
theorem agG:bM ["value"] ["value"] (aW qu):=dI (by decide +kernel)
theorem Xp {f:aB} {fd:d7} {t:Tok} (F:lB K "is_name" "is_name" qu f fd) (B:Blt mg) (hl:mg "LONGEST_NAME"=some (.int 12 t)):bT P w K mg base (d9 P w) 1 f fd ["value"] (RG K):=by
 refine F.jU agG (fun vs H Q E h=>?_) (fun cdv A outer s H vs Q E hr h=>?_)
 ·obtain ⟨v,k,rfl,_⟩:=h;rfl
 ·obtain ⟨v,k,rfl,hk,hz,q⟩:=h;refine ⟨_,aJ (eE (pw_or (gq (fW (uH .str B.isinstance B.str (pv 0)))) (pw_or1 (gq (Er Ab Ab aR (gZ Cz B.len PySem.boot_len (ak (pv 0) aK)) (oM (.int 12) hl ⟨t,rfl⟩))))).pt (aU (bU lM)) cA) (aU (bU (gZ (Ao rfl) B.all boot_all (ak (iC bQ rfl ⟨_,_,rfl,rfl,rfl⟩ (gR.plain (N':=["sign"]) rfl (by decide +kernel) (by decide +kernel)) (agp (pv 0)) (fun _ _ _ _ _=>cL 0 (show [("sign":Str)].Nodup by decide +kernel)) (fun _ _ _ _ _=>gJ) (fun _ _ _ _ _ _=>Ep Aq Aq ig (pv 0) ig)) aK)))),?_⟩;refine ⟨_,rfl,v,k,rfl,hk,_,rfl,?_⟩;cases k with
  | str =>
   obtain ⟨x,rfl⟩:=hk;refine dU ⟨_,rfl,x,rfl,hz x rfl,_,_,rfl,rfl,_,rfl,?_⟩;have en:nameV (.str x)=(decide (1<=x.length) && decide (x.length<=12) && x.cps.toList.all letter):=rfl
   by_cases h1:1<=x.length
   ·have h1':(1:Int)<=(x.length:Int):=by omega
    rw [aO h1'];refine dN ⟨_,_,rfl,rfl,_,rfl,?_⟩
    by_cases h2:x.length<=12
    ·have h2':(x.length:Int)<=12:=by omega
     rw [aO h2'];refine dU ⟨_,rfl,x,rfl,fun D hD=>?_⟩;rw [aO h1,aO h2] at en;have hD1:Same H (upd H D (.lst ((List.range x.cps.size).map fun i=>V.bl (letter (x.cps.getD i 0))))):=aX hD;refine wL x.cps.size (hz x rfl) (fun i=>.bl (letter (x.cps.getD i 0))) (fun i H'=>H'=upd H D (.lst ((List.range i).map fun i=>V.bl (letter (x.cps.getD i 0))))) rfl (fun i H' _ e=>by rw [e,aG]) (fun H' e=>⟨rfl,?_⟩) (fun i H' lt e=>⟨lt,?_⟩)
     ·subst e;refine ⟨D,(List.range x.cps.size).map fun i=>letter (x.cps.getD i 0),rfl,cW.of (by rw [aG,fG]; rfl),?_⟩;rw [Ov];have q':=q _ hD1;rw [en] at q';exact q'
     ·rintro v Eh ⟨rfl,c,hc,rfl⟩ Qc k;subst e;refine ⟨fH,_,rfl,_,_,rfl,rfl,_,rfl,?_⟩;have k':=k _ aG (by rw [lK]);have ec:x.cps.getD i 0=c:=by simp [hc]
      have el:letter c=(!decide ([c] < [97]) && !decide ([122] < [c])):=rfl;rw [ec,el] at k'
      change if (!decide ([c] < [97]))=true then _ else _
      cases h3:!decide ([c] < [97]) with
      | false =>
       rw [h3] at k';exact dU k'
      | true =>
       rw [h3] at k';exact dN ⟨_,_,rfl,rfl,k'⟩
    ·have h2':¬ (x.length:Int)<=12:=by omega
     rw [aP h2'];have q':=q H (Same.refl _);rw [en,aO h1,aP h2] at q';exact dN q'
   ·have h1':¬ (1:Int)<=(x.length:Int):=by omega
    rw [aP h1'];have q':=q H (Same.refl _);rw [en,aP h1] at q';exact dU ⟨_,rfl,dN q'⟩
  | non=>cases hk; exact dN (dN (q H (Same.refl _)))
  | bl=>obtain ⟨x,rfl⟩:=hk; exact dN (dN (q H (Same.refl _)))
  | int=>obtain ⟨x,rfl⟩:=hk; exact dN (dN (q H (Same.refl _)))
  | lst=>obtain ⟨a,xs,rfl,e⟩:=hk; exact dN (dN (q H (Same.refl _)))
  | tup=>obtain ⟨a,xs,rfl,e⟩:=hk; exact dN (dN (q H (Same.refl _)))
  | ins C=>obtain ⟨a,dx,fs,rfl,e⟩:=hk; exact dN (dN (q H (Same.refl _)))
end
abbrev pI:cX:=inClass (top 16) 0
abbrev tR:cX:=inClass (top 16) 3
abbrev pJ:cX:=inClass (top 17) 0
abbrev tV:cX:=inClass (top 17) 3
abbrev RJ:List aC:=[.type "ValueError",.type "Exception",.type "BaseException",.type "object"]
structure Fn (K:Fg) (x qual:Str) (st:cX) (ps:List Str) (f:aB) (fd:d7):Prop where
 F:lB K x qual st f fd
 b:Binds K fd ps []
structure fP where
 (pot bJ garden dR tooMany gW fJ Jp qX qY:aB)
 (Jq fName RK Xq Xr Xu Gp Gq Gs Vw RL aCa aCb RM aCc RN Jr Dm Dn Ow:aB)
 (RP dName dPI dPG dCI dCG an4 an5 an6 dGI ZQ aCh aCi aEe aCj ZR RQ an8 an9 aEf:d7)
structure Exn (K:Fg) (mg:Str->Option aC) (x:Str) (C:aB):Prop where
 m:mg x=some (.ref C)
 q:excIn K C RJ "ValueError.__new__"=true
structure jY (K:Fg) (mg:Str->Option aC) (a:fP):Prop where
 B:Blt mg
 longest:∃ t,mg "LONGEST_NAME"=some (.int 12 t)
 Xv:∃ t,mg "MOST_GAP"=some (.int 60 t)
 dR:Exn K mg "BadPot" a.dR
 wh:Fn K "is_whole" "is_whole" uN ["value","least","most"] a.Jq a.RP
 ZS:mg "is_whole"=some (.ref a.Jq)
 nm:Fn K "is_name" "is_name" qu ["value"] a.fName a.dName
 mnm:mg "is_name"=some (.ref a.fName)
 Xw:mg "Pot"=some (.ref a.pot)
 agH:mg "Cactus"=some (.ref a.bJ)
 tP:Fx K a.pot
 tC:Fx K a.bJ
 nP:∀ f ∈ (["name","gap","rest"]:List Str),jy K a.pot f
 nC:∀ f ∈ (["name","gap","rest"]:List Str),jy K a.bJ f
 PI:Fn K "__init__" "Pot.__init__" pI ["self","name","gap"] a.RK a.dPI
 PG:Fn K "with_gap" "Pot.with_gap" tR ["self","gap"] a.Xq a.dPG
 CI:Fn K "__init__" "Cactus.__init__" pJ ["self","name","gap","rest"] a.Xr a.dCI
 CG:Fn K "with_gap" "Cactus.with_gap" tV ["self","gap"] a.Xu a.dCG
 kP:Mk K a.pot a.RK
 kC:Mk K a.bJ a.Xr
 gP:Meth K a.pot "with_gap" a.Xq
 gC:Meth K a.bJ "with_gap" a.Xu
 cI:anQ K a.pot "__init__" a.RK
 ne:a.pot≠a.bJ
section
variable {P:bZ} {w:World} {K:Fg} {mg:Str->Option aC} {base:Heap} {a:fP}
theorem aob:¬ (("name":Str)="gap"):=by decide +kernel
theorem aoc:¬ (("name":Str)="rest"):=by decide +kernel
theorem aod:¬ (("gap":Str)="rest"):=by decide +kernel
theorem Xy (u v:V):iB "gap" v [(("name":Str),u)]=([("name",u),("gap",v)]:List (Str × V)):=by
 show (if ("name":Str)="gap" then _ else _)=_
 rw [if_neg aob]; rfl
theorem RT (u v x:V):iB "rest" x ([("name",u),("gap",v)]:List (Str × V))=([("name",u),("gap",v),("rest",x)]:List (Str × V)):=by
 show (if ("name":Str)="rest" then _ else (("name":Str),u)::(if ("gap":Str)="rest" then _ else (("gap":Str),v)::iB "rest" x []))=_
 rw [if_neg aoc,if_neg aod]; rfl
def But (p:aB) (H H':Hp):Prop:=∀ b o,b≠p->H b=some o->H' b=some o
def ju (n g:V):Bool:=nameV n && bV g 1 60
def yh (v:V):Prop:=∀ x,v=.str x->x.length<=sizeLine
noncomputable def Bg (K:Fg) (a:fP):Sp:=fun vs H Q E=>∃ p dx C n g kn kg,vs=[.ref p,n,g]/\H p=some (.ins C dx [])/\(C=a.pot\/C=a.bJ)/\fK K H n kn/\yh n/\fK K H g kg /\ (ju n g=false->∀ H',Same H H'->E (.ref a.dR) none H')/\(ju n g=true->∀ H',But p H H'->H' p=some (.ins C dx [("name",n),("gap",g)])->Q .non H')
theorem ayf:bM ["self","name","gap"] ["self","name","gap"] (aW pI):=dI (by decide +kernel)
theorem jY.cls (T:jY K mg a) {C:aB} (h:C=a.pot\/C=a.bJ):Fx K C/\∀ f ∈ (["name","gap","rest"]:List Str),jy K C f:=by
 rcases h with rfl | rfl
 ·exact ⟨T.tP,T.nP⟩
 ·exact ⟨T.tC,T.nC⟩
theorem jY.ZV (T:jY K mg a):bT P w K mg base (d9 P w) 1 a.Jq a.RP ["value","least","most"] (Ly K):=RD T.wh.F T.B
theorem jY.okN (T:jY K mg a):bT P w K mg base (d9 P w) 1 a.fName a.dName ["value"] (RG K):=by
 obtain ⟨t,e⟩:=T.longest;exact Xp T.nm.F T.B e
theorem qZ (T:jY K mg a):bT P w K mg base (d9 P w) 2 a.RK a.dPI ["self","name","gap"] (Bg K a):=by
 refine T.PI.F.jU ayf (fun vs H Q E h=>?_) (fun cdv A outer s H vs Q E hr h=>?_)
 ·obtain ⟨p,dx,C,n,g,kn,kg,rfl,_⟩:=h;rfl
 ·obtain ⟨p,dx,C,n,g,kn,kg,rfl,hp,hC,hn,sn,hg,bad,good⟩:=h;obtain ⟨t,mG⟩:=T.Xv;obtain ⟨tC,nA⟩:=T.cls hC;refine ⟨_,aJ (eE (gq (fW (cH T.okN hr T.mnm T.nm.F.kp T.nm.b bf (ak (pv 1) aK)))) (aU (gj bQ rfl (by rfl) T.dR.m T.dR.q PySem.F.excBase_ValueError (ak ig aK))) cA) (aJ (eE (gq (fW (cH T.ZV hr T.ZS T.wh.F.kp T.wh.b bf (ak (pv 2) (ak aR (ak (oM (.int 60) mG ⟨t,rfl⟩) aK)))))) (aU (gj bQ rfl (by rfl) T.dR.m T.dR.q PySem.F.excBase_ValueError (ak ig aK))) cA) (aJ (qM (pv 0) (pv 1) rfl) (aU (qM (pv 0) (pv 2) rfl)))),?_⟩;refine ⟨_,rfl,n,kn,rfl,hn,sn,fun H1 s1=>⟨_,rfl,?_⟩⟩;cases en:nameV n with
  | false=>exact dN ⟨by show 1<=sizeLine; decide,bad (by simp [ju,en]) H1 s1⟩
  | true =>
   refine dU ⟨_,rfl,g,1,60,kg,rfl,hg.same s1,_,rfl,?_⟩;cases eg:bV g 1 60 with
   | false=>exact dN ⟨by show 1<=sizeLine; decide,bad (by simp [ju,en,eg]) H1 s1⟩
   | true =>
    refine dU ⟨_,rfl,_,rfl,p,C,dx,_,rfl,s1 _ _ hp,tC.cl,nA _ (by simp),by show 0 < 1000; decide,?_⟩;refine ⟨_,rfl,_,rfl,p,C,dx,_,rfl,aG,tC.cl,nA _ (by simp),by show 1 < 1000; decide,?_⟩;refine good (by simp [ju,en,eg]) _ (fun b o hb e=>?_) ?_
    ·rw [bw hb,bw hb]; exact s1 _ _ e
    ·rw [aG];exact congrArg (fun l=>some (HO.ins C dx l)) (Xy n g)
structure bB where
 nm:Str
 gap:Int
 rest:Option Int
def bB.fs (p:bB):List (Str × V):=match p.rest with
 | none=>[("name",.str p.nm),("gap",.int p.gap)]
 | some r=>[("name",.str p.nm),("gap",.int p.gap),("rest",.int r)]
def bB.cls (a:fP) (p:bB):aB:=match p.rest with
 | none=>a.pot
 | some _=>a.bJ
def jl (a:fP) (H:Hp) (x:aB) (p:bB):Prop:=∃ dx,H x=some (.ins (p.cls a) dx p.fs)
structure bB.Ok (p:bB):Prop where
 nm:nameV (.str p.nm)=true
 gap:1<=p.gap/\p.gap<=60
 rest:∀ r,p.rest=some r->0<=r/\r < p.gap
theorem jl.same {H H':Hp} {x:aB} {p:bB} (h:jl a H x p) (s:Same H H'):jl a H' x p:=h.imp fun _ e=>s _ _ e
theorem bB.gY (p:bB):p.cls a=a.pot\/p.cls a=a.bJ:=by
 unfold bB.cls;cases p.rest
 ·exact .inl rfl
 ·exact .inr rfl
theorem bB.yj (p:bB):p.fs.lookup ("name":Str)=some (.str p.nm):=by
 unfold bB.fs;cases p.rest <;> rfl
theorem jw {k k':Str} {v:V} {l:List (Str × V)} (h:(k == k')=false):((k',v)::l).lookup k=l.lookup k:=by simp only [List.lookup,h]
theorem Bj {k:Str} {v:V} {l:List (Str × V)}:((k,v)::l).lookup k=some v:=by simp only [List.lookup,beq_self_eq_true]
theorem gn:(("gap":Str) == "name")=false:=by decide +kernel
theorem rn:(("rest":Str) == "name")=false:=by decide +kernel
theorem rg:(("rest":Str) == "gap")=false:=by decide +kernel
theorem RV (u v:V) (l:List (Str × V)):((("name",u)::("gap",v)::l:List (Str × V))).lookup ("gap":Str)=some v:=by rw [jw gn,Bj]
theorem bB.oN (p:bB):p.fs.lookup ("gap":Str)=some (.int p.gap):=by
 unfold bB.fs;cases p.rest with
 | none=>exact RV _ _ []
 | some r=>exact RV _ _ [("rest",.int r)]
theorem wQ (u v x:V):([("name",u),("gap",v),("rest",x)]:List (Str × V)).lookup ("rest":Str)=some x:=by rw [jw rn,jw rg,Bj]
theorem bB.Xz (p:bB) {m:Str} (h1:(m == "name")=false) (h2:(m == "gap")=false) (h3:(m == "rest")=false):p.fs.lookup m=none:=by
 unfold bB.fs;cases p.rest with
 | none=>exact (jw h1).trans (jw h2)
 | some r=>exact (jw h1).trans ((jw h2).trans (jw h3))
theorem nZ {x:Str} (h:nameV (.str x)=true):yh (.str x):=by
 intro y e;cases e;have e:nameV (.str x)=(decide (1<=x.length) && decide (x.length<=12) && x.cps.toList.all letter):=rfl;rw [e] at h;simp only [Bool.and_eq_true,decide_eq_true_eq] at h;exact bH h.1.2 (by decide)
theorem But.made {H H':Hp} {x dx C:aB} (nx:H x=none) (ndx:H dx=none) (h:But x (upd (upd H dx (.own x)) x (.ins C dx [])) H'):Same H H':=fun b o e=>by
 have n1:=cV e nx;have n2:=cV e ndx;exact h b o n1 (by rw [bw n1,bw n2]; exact e)
theorem uO {H:Hp} {x dx C:aB} (nx:H x=none) (ndx:H dx=none):Same H (upd (upd H dx (.own x)) x (.ins C dx [])):=fun b o e=>by
 rw [bw (cV e nx),bw (cV e ndx)]; exact e
theorem RW {H:Hp} {Q:aB->Hp->Prop} {E:XK} {n g:V} {kn kg:Kd} (hn:fK K H n kn) (sn:yh n) (hg:fK K H g kg) (bad:ju n g=false->∀ H',Same H H'->E (.ref a.dR) none H') (good:ju n g=true->∀ H' x,H x=none->Same H H'->(∃ dx,H' x=some (.ins a.pot dx [("name",n),("gap",g)]))->Q x H') : ∀ x dx,H x=none->H dx=none->dx≠x->Bg K a [.ref x,n,g] (upd (upd H dx (.own x)) x (.ins a.pot dx [])) (fun v H2=>v=.non/\Q x H2) E:=by
 intro x dx nx ndx ne;have s0:=uO (C:=a.pot) nx ndx;exact ⟨x,dx,a.pot,n,g,kn,kg,rfl,aG,.inl rfl,hn.same s0,sn,hg.same s0,fun e H' s'=>bad e H' (s0.trans s'),fun e H' b' hp=>⟨rfl,good e H' x nx (b'.made nx ndx) ⟨dx,hp⟩⟩⟩
def jZ (p:bB) (g:V):Bool:=match p.rest with
 | none=>bV g 1 60
 | some r=>bV g 1 60 && match g with
  | .int i=>bV (.int r) 0 (i - 1)
  | _=>false
noncomputable def Lz (K:Fg) (a:fP) (C:aB):Sp:=fun vs H Q E=>∃ x p g kg,vs=[.ref x,g]/\p.cls a=C/\jl a H x p/\p.Ok/\fK K H g kg /\ (jZ p g=false->∀ H',Same H H'->E (.ref a.dR) none H')/\(jZ p g=true->∀ i H' y,g=.int i->H y=none->Same H H'->jl a H' y { p with gap:=i }->Q (.ref y) H')
theorem ayg:bM ["self","gap"] ["self","gap"] (aW tR):=dI (by decide +kernel)
theorem g8 {g:V} {l m:Int} (h:bV g l m=true):∃ i,g=.int i/\l<=i/\i<=m:=by
 cases g with
 | int i=>exact ⟨i,rfl,by simpa [bV] using h⟩
 | _=>exact absurd h (by simp [bV])
theorem Ox (T:jY K mg a):bT P w K mg base (d9 P w) 4 a.Xq a.dPG ["self","gap"] (Lz K a a.pot):=by
 refine T.PG.F.jU ayg (fun vs H Q E h=>?_) (fun cdv A outer s H vs Q E hr h=>?_)
 ·obtain ⟨x,p,g,kg,rfl,_⟩:=h;rfl
 ·obtain ⟨x,p,g,kg,rfl,hc,⟨dx,hx⟩,ok,hg,bad,good⟩:=h;refine ⟨_,aU (bU (xT T.kP (qZ T) hr T.Xw T.PI.b (cY bQ) (ak (cJ (pv 0) rfl) (ak (pv 1) aK)))),?_⟩;rw [hc] at hx;have hr0:p.rest=none:=by
   cases e:p.rest with
   | none=>rfl
   | some r=>rw [bB.cls,e] at hc; exact absurd hc.symm T.ne
  refine ⟨_,rfl,x,a.pot,dx,_,_,rfl,hx,T.tP.cl,T.nP _ (by simp),p.yj,_,rfl,?_⟩;refine RW (kn:=.str) ⟨_,rfl⟩ (nZ ok.nm) hg (fun e=>bad (by simpa [jZ,hr0,ju,ok.nm] using e)) (fun e H' y hy s' hy'=>?_);have eg:bV g 1 60=true:=by simpa [ju,ok.nm] using e
  obtain ⟨i,rfl,_⟩:=g8 eg;obtain ⟨dy,hy'⟩:=hy';refine good (by simpa [jZ,hr0] using eg) i H' y rfl hy s' ⟨dy,?_⟩;rw [hy'];simp only [bB.cls,bB.fs,hr0]
end
section
variable {P:bZ} {w:World} {K:Fg} {mg:Str->Option aC} {base:Heap} {a:fP}
def restOk (g r:V):Bool:=match g with
 | .int i=>bV r 0 (i - 1)
 | _=>false
noncomputable def Bk (K:Fg) (a:fP):Sp:=fun vs H Q E=>∃ p dx n g r kn kg kr,vs=[.ref p,n,g,r]/\H p=some (.ins a.bJ dx [])/\fK K H n kn/\yh n/\fK K H g kg/\fK K H r kr/\(∀ q,r=.ref q->q≠p) /\ ((ju n g && restOk g r)=false->∀ H',But p H H'->E (.ref a.dR) none H')/\((ju n g && restOk g r)=true->∀ H',But p H H'->H' p=some (.ins a.bJ dx [("name",n),("gap",g),("rest",r)])->Q .non H')
theorem ayh:bM ["self","name","gap","rest"] ["self","name","gap","rest"] (aW pJ):=dI (by decide +kernel)
theorem fK.but {H H':Hp} {p:aB} {v:V} {k:Kd} (h:fK K H v k) (b:But p H H') (ne:∀ q,v=.ref q->q≠p):fK K H' v k:=by
 cases k with
 | lst =>
  obtain ⟨a,xs,rfl,e | ⟨o,e⟩⟩:=h
  ·exact ⟨a,xs,rfl,.inl (b _ _ (ne _ rfl) e)⟩
  ·exact ⟨a,xs,rfl,.inr ⟨o,b _ _ (ne _ rfl) e⟩⟩
 | tup=>obtain ⟨a,xs,rfl,e⟩:=h; exact ⟨a,xs,rfl,b _ _ (ne _ rfl) e⟩
 | ins C=>obtain ⟨a,dx,fs,rfl,e,t⟩:=h; exact ⟨a,dx,fs,rfl,b _ _ (ne _ rfl) e,t⟩
 | _=>exact h
theorem Same.but {H H':Hp} {p:aB} (s:Same H H'):But p H H':=fun b o _ e=>s b o e
theorem But.trans {H H1 H2:Hp} {p:aB} (s:But p H H1) (t:But p H1 H2):But p H H2:=fun b o n e=>t b o n (s b o n e)
theorem XD {H:Hp} {p:aB} {o:HO}:But p H (upd H p o):=fun b u n e=>by rw [bw n]; exact e
theorem yp (T:jY K mg a):bT P w K mg base (d9 P w) 3 a.Xr a.dCI ["self","name","gap","rest"] (Bk K a):=by
 refine T.CI.F.jU ayh (fun vs H Q E h=>?_) (fun cdv A outer s H vs Q E hr h=>?_)
 ·obtain ⟨p,dx,n,g,r,kn,kg,kr,rfl,_⟩:=h;rfl
 ·obtain ⟨p,dx,n,g,r,kn,kg,kr,rfl,hp,hn,sn,hg,hkr,nr,bad,good⟩:=h;refine ⟨_,aJ (iu (Xc T.Xw T.cI (qZ T) hr T.PI.b (cY bQ) (ak (pv 0) (ak (pv 1) (ak (pv 2) aK))))) (aJ (eE (gq (fW (cH T.ZV (hr.mono (by decide)) T.ZS T.wh.F.kp T.wh.b bf (ak (pv 3) (ak aR (ak (bI uD (pv 2) aR) aK)))))) (aU (gj bQ rfl (by rfl) T.dR.m T.dR.q PySem.F.excBase_ValueError (ak ig aK))) cA) (aU (qM (pv 0) (pv 3) rfl))),?_⟩;refine ⟨_,rfl,_,rfl,_,rfl,p,dx,a.bJ,n,g,kn,kg,rfl,hp,.inr rfl,hn,sn,hg,fun e H' s'=>bad (by simp [e]) H' (Same.but s'),fun e H1 b1 hp1=>?_⟩;have eg:bV g 1 60=true:=by
   rw [ju,Bool.and_eq_true] at e;exact e.2
  obtain ⟨i,rfl,_⟩:=g8 eg;refine ⟨_,rfl,_,rfl,_,_,rfl,rfl,r,0,i - 1,kr,rfl,hkr.but b1 nr,_,rfl,?_⟩;cases er:bV r 0 (i - 1) with
  | false=>exact dN ⟨by show 1<=sizeLine; decide,bad (by simp [restOk,er]) H1 b1⟩
  | true =>
   refine dU ⟨_,rfl,_,rfl,p,a.bJ,dx,_,rfl,hp1,T.tC.cl,T.nC _ (by simp),by show 2 < 1000; decide,?_⟩;refine good (by simp [e,restOk,er]) _ (b1.trans XD) ?_;rw [aG];exact congrArg (fun l=>some (HO.ins a.bJ dx l)) (RT n (.int i) r)
theorem RX {H:Hp} {Q:aB->Hp->Prop} {E:XK} {n g r:V} {kn kg kr:Kd} (hn:fK K H n kn) (sn:yh n) (hg:fK K H g kg) (hr:fK K H r kr) (bad:(ju n g && restOk g r)=false->∀ H',Same H H'->E (.ref a.dR) none H') (good:(ju n g && restOk g r)=true->∀ H' x,H x=none->Same H H'->(∃ dx,H' x=some (.ins a.bJ dx [("name",n),("gap",g),("rest",r)]))->Q x H') : ∀ x dx,H x=none->H dx=none->dx≠x->Bk K a [.ref x,n,g,r] (upd (upd H dx (.own x)) x (.ins a.bJ dx [])) (fun v H2=>v=.non/\Q x H2) E:=by
 intro x dx nx ndx ne;have s0:=uO (C:=a.bJ) nx ndx;refine ⟨x,dx,n,g,r,kn,kg,kr,rfl,aG,hn.same s0,sn,hg.same s0,hr.same s0,fun q e z=>?_,fun e H' s'=>bad e H' (s'.made nx ndx),fun e H' b' hp=>⟨rfl,good e H' x nx (b'.made nx ndx) ⟨dx,hp⟩⟩⟩;subst e z;cases kr with
 | lst =>
  obtain ⟨_,_,e,h | ⟨_,h⟩⟩:=hr
  ·cases e; rw [nx] at h; cases h
  ·cases e; rw [nx] at h; cases h
 | tup=>obtain ⟨_,_,e,h⟩:=hr; cases e; rw [nx] at h; cases h
 | ins C=>obtain ⟨_,_,_,e,h,_⟩:=hr; cases e; rw [nx] at h; cases h
 | non=>cases hr
 | bl=>obtain ⟨_,e⟩:=hr; cases e
 | int=>obtain ⟨_,e⟩:=hr; cases e
 | str=>obtain ⟨_,e⟩:=hr; cases e
theorem ayi:bM ["self","gap"] ["self","gap"] (aW tV):=dI (by decide +kernel)
theorem Oz (T:jY K mg a):bT P w K mg base (d9 P w) 5 a.Xu a.dCG ["self","gap"] (Lz K a a.bJ):=by
 refine T.CG.F.jU ayi (fun vs H Q E h=>?_) (fun cdv A outer s H vs Q E hr h=>?_)
 ·obtain ⟨x,p,g,kg,rfl,_⟩:=h;rfl
 ·obtain ⟨x,p,g,kg,rfl,hc,⟨dx,hx⟩,ok,hg,bad,good⟩:=h;refine ⟨_,aU (bU (xT T.kC (yp T) hr T.agH T.CI.b (cY bQ) (ak (cJ (pv 0) rfl) (ak (pv 1) (ak (cJ (pv 0) rfl) aK))))),?_⟩;rw [hc] at hx;obtain ⟨r,hr0⟩:∃ r,p.rest=some r:=by
   cases e:p.rest with
   | none=>rw [bB.cls,e] at hc; exact absurd hc T.ne
   | some r=>exact ⟨r,rfl⟩
  have lr:p.fs.lookup ("rest":Str)=some (.int r):=by simp only [bB.fs,hr0]; exact wQ _ _ _
  refine ⟨_,rfl,x,a.bJ,dx,_,_,rfl,hx,T.tC.cl,T.nC _ (by simp),p.yj,_,rfl,_,rfl,x,a.bJ,dx,_,_,rfl,hx,T.tC.cl,T.nC _ (by simp),lr,?_⟩;have e0:(ju (.str p.nm) g && restOk g (.int r))=jZ p g:=by
   rw [ju,ok.nm,Bool.true_and,jZ,hr0];rfl
  refine RX (kn:=.str) (kr:=.int) ⟨_,rfl⟩ (nZ ok.nm) hg ⟨_,rfl⟩ (fun e=>bad (by rw [<- e0]; exact e)) (fun e H' y hy s' hy'=>?_);obtain ⟨i,rfl,_⟩:∃ i,g=.int i/\True:=by
   cases g with
   | int i=>exact ⟨i,rfl,trivial⟩
   | _=>exact absurd e (by simp [restOk])
  obtain ⟨dy,hy'⟩:=hy';refine good (by rw [<- e0]; exact e) i H' y rfl hy s' ⟨dy,?_⟩;rw [hy'];simp only [bB.cls,bB.fs,hr0]
theorem jY.gap (T:jY K mg a):∀ C,(C=a.pot\/C=a.bJ)->∃ f fd,Cls K C/\Meth K C "with_gap" f/\bT P w K mg base (d9 P w) 5 f fd ["self","gap"] (Lz K a C)/\Binds K fd ["self","gap"] []:=by
 intro C h;rcases h with rfl | rfl
 ·exact ⟨_,_,T.tP.cl,T.gP,(Ox T).mono (by decide),T.PG.b⟩
 ·exact ⟨_,_,T.tC.cl,T.gC,Oz T,T.CG.b⟩
theorem RZ {X:Cx} {pl:Sem Bool} {o e:Expr} {es:List Expr} {ta:TE} {t:TA} {apos pos:Pos} {E:XK} (he:PE X o ta) (ha:PA X (e::es) t) (T:jY K mg a) (hr:dJ 5 X.A) (hx:Passes (d9 X.prog X.w) X E) (hK:autoParam (X.K=K) zau0) (hm:autoParam (X.mg=mg) zau0) (hst:autoParam (starEach (e::es) X.env=(false,eval e X.env)::starEach es X.env) zau0) (hpl:autoParam ((backTo pos (starEach es X.env)).any (·.1)=false) zau0) (ht:autoParam (eval (.Call (.Attribute o "with_gap" apos) (e::es) [] pos) X.env=(do
   let ov <- eval o X.env
   standAt apos.atName
   let (f,first) <- holding [ov] (getMethod ov "with_gap" pl)
   callWith pos f first (backTo pos (starEach (e::es) X.env)) (backToKw pos (keywordEach [] X.env)))) zau0) :
  PE X (.Call (.Attribute o "with_gap" apos) (e::es) [] pos) (Rb (fun C=>C=a.pot\/C=a.bJ) "with_gap" (Lz K a) E ta t):=by
 subst hK hm;exact Fy he hr T.gap hx ha hst hpl ht
end
abbrev R0:cX:=top 23
abbrev R3:cX:=top 24
abbrev R4:cX:=top 25
structure Js (K:Fg) (mg:Str->Option aC) (a:fP):Prop where
 T:jY K mg a
 kpp:kitOne K (.ref a.pot) (.ref a.pot)=some true
 kcp:kitOne K (.ref a.bJ) (.ref a.pot)=some true
 kb:∀ k:Kd,(∀ C,k≠.ins C)->kitOne K k.ty (.ref a.pot)=some false
 own:Fn K "own_pots" "own_pots" R0 ["pots"] a.Gp a.an4
 agI:mg "own_pots"=some (.ref a.Gp)
 cnt:Fn K "refuse_bad_counts" "refuse_bad_counts" R3 ["pots","cans","week","closed"] a.Gq a.an5
 agJ:mg "refuse_bad_counts"=some (.ref a.Gq)
 twc:Fn K "refuse_name_twice" "refuse_name_twice" R4 ["pots"] a.Gs a.an6
 agK:mg "refuse_name_twice"=some (.ref a.Gs)
 tooMany:Exn K mg "TooMany" a.tooMany
 R5:∃ t,mg "MOST_POTS"=some (.int 8 t)
 R6:∃ t,mg "MOST_CANS"=some (.int 8 t)
 R7:∃ t,mg "MOST_WEEK"=some (.int 14 t)
 Jt:∃ t,mg "MOST_STATES"=some (.int 20000 t)
section
variable {P:bZ} {w:World} {K:Fg} {mg:Str->Option aC} {base:Heap} {a:fP}
def Vx (a:fP):Kd->Bool
 | .ins C=>decide (C=a.pot\/C=a.bJ)
 | _=>false
def PK (a:fP) (k:Kd):Prop:=∀ C,k=.ins C->C=a.pot\/C=a.bJ
theorem Js.Vx (G:Js K mg a) {k:Kd} (h:PK a k):kitOne K k.ty (.ref a.pot)=some (Tw.Vx a k):=by
 cases k with
 | ins C =>
  have e:Tw.Vx a (.ins C)=true:=aO (h C rfl);rw [e];rcases h C rfl with rfl | rfl
  ·exact G.kpp
  ·exact G.kcp
 | _=>exact G.kb _ (fun C z=>nomatch z)
theorem jl.upd {H:Hp} {b D:aB} {p:bB} {xs:List V} {o:HO} (h:jl a H b p) (hD:H D=some (.lst xs)):jl a (L2.upd H D o) b p:=by
 obtain ⟨dx,e⟩:=h;exact ⟨dx,by rw [bw (vR e hD (by intro z; cases z))]; exact e⟩
theorem bB.agL {p:bB} (h:p.Ok):jZ p (.int p.gap)=true:=by
 have h1:bV (.int p.gap) 1 60=true:=by simp [bV,h.gap.1,h.gap.2]
 unfold jZ;cases e:p.rest with
 | none=>exact h1
 | some r =>
  obtain ⟨r0,r1⟩:=h.rest r e;have r1':r<=p.gap - 1:=by omega
  rw [h1]
  show (true && bV (.int r) 0 (p.gap - 1))=true
  simp [bV,r0,r1']
theorem m8 {H H':Hp} {D:aB} {o:HO} (s:Same H H') (h:H D=none):Same H (L2.upd H' D o):=fun b u e=>by rw [bw (cV e h)]; exact s b u e
def j4 (a:fP) (H:Hp) (as:List aB) (ps:List bB):Prop:=Paired (jl a H) as ps
theorem j4.same {H H':Hp} {as:List aB} {ps:List bB} (h:j4 a H as ps) (s:Same H H'):j4 a H' as ps:=Paired.jd h fun _ _ e=>e.same s
theorem j4.upd {H:Hp} {as:List aB} {ps:List bB} {D:aB} {xs:List V} {o:HO} (h:j4 a H as ps) (hD:H D=some (.lst xs)):j4 a (L2.upd H D o) as ps:=Paired.jd h fun _ _ e=>e.upd hD
noncomputable def ZW (K:Fg) (a:fP):Sp:=fun vs H Q E=>∃ v k,vs=[v]/\fK K H v k/\(bi k .list=false->∀ H',Same H H'->E (.ref a.dR) none H') /\ (bi k .list=true->∃ l xs ks,v=.ref l/\cW K H l xs/\xs.length<=1000/\Paired (fK K H) xs ks/\(∀ k ∈ ks,PK a k)/\(ks.all (Vx a)=false->∀ H',Same H H'->E (.ref a.dR) none H') /\ (ks.all (Vx a)=true->∃ as ps,xs=as.map V.ref/\j4 a H as ps/\(∀ p ∈ ps,p.Ok)/\∀ H' l' bs,Same H H'->H l'=none->H' l'=some (.lst (bs.map V.ref))->j4 a H' bs ps->Q (.ref l') H'))
theorem ZX:bM ["pots","pot"] ["pots"] (aW R0):=dI (by decide +kernel)
theorem agM (G:Js K mg a):bT P w K mg base (d9 P w) 6 a.Gp a.an4 ["pots"] (ZW K a):=by
 refine G.own.F.jU ZX (fun vs H Q E h=>?_) (fun cdv A outer s H vs Q E hr h=>?_)
 ·obtain ⟨v,k,rfl,_⟩:=h;rfl
 ·obtain ⟨v,k,rfl,hk,no,yes⟩:=h;have T:=G.T;refine ⟨_,aJ (eE (gq (fW (uH .list T.B.isinstance T.B.list (pv 0)))) (aU (gj bQ rfl (by rfl) T.dR.m T.dR.q PySem.F.excBase_ValueError (ak ig aK))) cA) (aJ (iw dY rfl (fu (pv 0)) (cL 1 ZX.nd) (aU (eE (gq (fW (Ra T.B.isinstance T.Xw (pv 1)))) (aU (gj bQ rfl (by rfl) T.dR.m T.dR.q PySem.F.excBase_ValueError (ak ig aK))) cA))) (aU (bU (iC bQ rfl ⟨_,_,rfl,rfl,rfl⟩ (gR.plain (N':=["pot"]) rfl (by decide +kernel) (by decide +kernel)) (fu (pv 0)) (fun _ _ _ _ _=>cL 0 (show [("pot":Str)].Nodup by decide +kernel)) (fun _ _ _ _ _=>gJ) (fun _ _ _ _ _ acc=>RZ (pv 0) (ak (vW K (pv 0)) aK) T hr (cY acc)))))),?_⟩;refine ⟨_,rfl,v,k,rfl,hk,_,rfl,?_⟩;cases ek:bi k .list with
  | false=>exact dN ⟨by show 1<=sizeLine; decide,no ek H (Same.refl _)⟩
  | true =>
   obtain ⟨l,xs,ks,rfl,hl,hlen,kds,pks,bad,good⟩:=yes ek;refine dU ⟨_,rfl,l,rfl,⟨_,hl⟩,je (K:=K) (a:=l) (xs:=xs) (fun i σ H'=>∃ u,σ=[some (.ref l),u]/\H=H'/\(ks.take i).all (Vx a)=true) ⟨none,rfl,rfl,rfl⟩ (fun i σ H' _ ⟨_,_,e,_⟩=>e ▸ hl) ?_ ?_⟩
   ·rintro i x σ H' hi ⟨u,rfl,rfl,al⟩;obtain ⟨kx,hkx,kd⟩:=cD kds hi;refine ⟨_,rfl,x,kx,a.pot,_,rfl,kd,G.Vx (pks kx (aH hkx)),_,rfl,?_⟩;cases e:Vx a kx with
    | false =>
     refine dN ⟨by show 1<=sizeLine; decide,bad ?_ _ (Same.refl _)⟩;rw [Bool.eq_false_iff];intro z;rw [all_eq_true] at z;rw [z kx (aH hkx)] at e;cases e
    | true=>exact dU ⟨_,rfl,rfl,by rw [take_snoc hkx,all_append,al]; simp [e]⟩
   ·rintro σ H' ⟨u,rfl,rfl,al⟩;have lk:xs.length=ks.length:=Paired.length kds;rw [lk,bO] at al;obtain ⟨as,ps,rfl,pots,iJ,q⟩:=good al;refine ⟨_,rfl,l,rfl,⟨_,hl⟩,fun D hD=>?_⟩;have sD:=aX (o:=.lst []) hD;have lp:as.length=ps.length:=Paired.length pots;refine jW as.length (by rw [au] at hlen; exact bH hlen (by decide)) (fun i acc H'=>∃ bs:List aB,acc=bs.map V.ref/\bs.length=i/\H' D=some (.lst acc)/\Same H H'/\j4 a H' bs (ps.take i)) ⟨[],rfl,rfl,aG,sD,.nil⟩ (fun i acc H' _ ⟨bs,e,lb,hd,_⟩=>⟨by rw [e,au,lb],hd⟩) ?_ ?_
    ·rintro acc H' ⟨bs,rfl,lb,hd,s',pt⟩;refine ⟨⟨_,s'.seq hl,by rw [au]; exact aM _⟩,?_⟩;rw [lp,bO] at pt;exact q H' D bs s' hD hd pt
    ·rintro i acc H' lt ⟨bs,rfl,lb,hd,s',pt⟩;have hl':=s'.seq hl;obtain ⟨b,hb⟩:∃ b,as[i]?=some b:=⟨as[i],aA lt⟩;obtain ⟨p,hp,pb⟩:=cD pots hb;have hx:(as.map V.ref)[i]?=some (.ref b):=by rw [aF,hb]; rfl
     refine ⟨⟨_,_,hl',hx⟩,?_⟩;rintro x Eh ⟨rfl,hx'⟩ Qc k;have ex:=hx' _ hl';rw [hx] at ex;cases ex;obtain ⟨dx,hb'⟩:=pb.same s';have wR:=iJ p (aH hp);have cT:=T.cls p.gY;refine ⟨fH,_,rfl,b,p.cls a,dx,_,rfl,hb',p.gY,p.Xz (by decide +kernel) (by decide +kernel) (by decide +kernel),_,rfl,b,p.cls a,dx,_,_,rfl,hb',cT.1.cl,cT.2 _ (by simp),p.oN,?_⟩;refine ⟨b,p,.int p.gap,.int,rfl,rfl,⟨dx,hb'⟩,wR,⟨_,rfl⟩,fun z=>(by rw [bB.agL wR] at z; cases z),fun _ j H3 y ej hy s3 py=>?_⟩;cases ej;refine k (.ref y) H3 (s3 _ _ hd) ⟨bs++[y],by rw [aY]; rfl,by rw [bx,lb]; rfl,aG,m8 (s'.trans s3) hD,?_⟩
     ·rw [take_snoc hp];exact Paired.snoc ((pt.same s3).upd (s3 _ _ hd)) (jl.upd py (s3 _ _ hd))
end
section
variable {X:Cx} {e:Expr} {p pos:Pos}
theorem Gu {x:Str} {T:String} {r:List V->Hp->VK->Prop} {es:List Expr} {t:TA} (hc:iy X (.type T) r) (hm:X.mg x=none) (hv:bootBuiltins x=some (.type T)) (ha:PA X (e::es) t) (hg:autoParam (Gl X x) zau0) (hn:autoParam (x≠"__name__") zau1) (hdb:autoParam ((x == ("__debug__":Str))=false) zau1) (he:autoParam (starEach (e::es) X.env=(false,eval e X.env)::starEach es X.env) zau0) (hpl:autoParam ((backTo pos (starEach es X.env)).any (·.1)=false) zau0):PE X (.Call (.Name x p) (e::es) [] pos) (tCB r t):=Nr hc hg hm hv ha hn hdb he hpl
end
section
variable {P:bZ} {w:World} {K:Fg} {mg:Str->Option aC} {base:Heap} {a:fP}
def tW (w c:V):Bool:=match w with
 | .int i=>bV c 0 (1 * 2 ^ i.toNat - 1)
 | _=>false
def vY (n:Nat) (c w cl:V):Bool:=decide (1<=n) && decide (n<=8) && bV c 0 8 && bV w 1 14 && tW w cl
noncomputable def aof (K:Fg) (a:fP):Sp:=fun vs H Q E=>∃ l xs c w cl kc kw kl,vs=[.ref l,c,w,cl]/\cW K H l xs/\fK K H c kc/\fK K H w kw/\fK K H cl kl /\ (vY xs.length c w cl=false->E (.ref a.tooMany) none H)/\(vY xs.length c w cl=true->Q .non H)
theorem aog:bM ["pots","cans","week","closed"] ["pots","cans","week","closed"] (aW R3):=dI (by decide +kernel)
theorem agO (G:Js K mg a):bT P w K mg base (d9 P w) 2 a.Gq a.an5 ["pots","cans","week","closed"] (aof K a):=by
 refine G.cnt.F.jU aog (fun vs H Q E h=>?_) (fun cdv A outer s H vs Q E hr h=>?_)
 ·obtain ⟨l,xs,c,wk,cl,kc,kw,kl,rfl,_⟩:=h;rfl
 ·obtain ⟨l,xs,c,wk,cl,kc,kw,kl,rfl,hl,hc,hw,hcl,bad,good⟩:=h;have T:=G.T;obtain ⟨t1,m1⟩:=G.R5;obtain ⟨t2,m2⟩:=G.R6;obtain ⟨t3,m3⟩:=G.R7;refine ⟨_,aJ (eE (gq (Er Ab Ab aR (gZ fD T.B.len PySem.boot_len (ak (pv 0) aK)) (oM (.int 8) m1 ⟨t1,rfl⟩))) (aU (gj bQ rfl (by rfl) G.tooMany.m G.tooMany.q PySem.F.excBase_ValueError (ak ig aK))) cA) (aJ (eE (gq (fW (cH T.ZV hr T.ZS T.wh.F.kp T.wh.b bf (ak (pv 1) (ak aR (ak (oM (.int 8) m2 ⟨t2,rfl⟩) aK)))))) (aU (gj bQ rfl (by rfl) G.tooMany.m G.tooMany.q PySem.F.excBase_ValueError (ak ig aK))) cA) (aJ (eE (gq (fW (cH T.ZV hr T.ZS T.wh.F.kp T.wh.b bf (ak (pv 2) (ak aR (ak (oM (.int 14) m3 ⟨t3,rfl⟩) aK)))))) (aU (gj bQ rfl (by rfl) G.tooMany.m G.tooMany.q PySem.F.excBase_ValueError (ak ig aK))) cA) (aU (eE (gq (fW (cH T.ZV hr T.ZS T.wh.F.kp T.wh.b bf (ak (pv 3) (ak aR (ak (bI uD (bI Qg aR (pv 2)) aR) aK)))))) (aU (gj bQ rfl (by rfl) G.tooMany.m G.tooMany.q PySem.F.excBase_ValueError (ak ig aK))) cA)))),?_⟩;refine ⟨_,rfl,l,xs,rfl,.inl hl,_,_,rfl,rfl,_,rfl,?_⟩;unfold vY at bad good
  by_cases h1:1<=xs.length
  ·have h1':(1:Int)<=(xs.length:Int):=by omega
   rw [aO h1'];refine dN ⟨_,_,rfl,rfl,_,rfl,?_⟩
   by_cases h2:xs.length<=8
   ·have h2':(xs.length:Int)<=8:=by omega
    rw [aO h2'];rw [aO h1,aO h2] at bad good;refine dU ⟨_,rfl,c,0,8,kc,rfl,hc,_,rfl,?_⟩;cases ec:bV c 0 8 with
    | false=>exact dN ⟨by show 1<=sizeLine; decide,bad (by rw [ec]; rfl)⟩
    | true =>
     refine dU ⟨_,rfl,wk,1,14,kw,rfl,hw,_,rfl,?_⟩;cases ew:bV wk 1 14 with
     | false=>exact dN ⟨by show 1<=sizeLine; decide,bad (by rw [ec,ew]; rfl)⟩
     | true =>
      obtain ⟨i,rfl,i1,i2⟩:=g8 ew;refine dU ⟨_,rfl,_,rfl,_,_,rfl,rfl,⟨by omega,by omega,by decide⟩,_,_,rfl,rfl,cl,0,_,kl,rfl,hcl,_,rfl,?_⟩;rw [ec,ew] at bad good;cases el:bV cl 0 (1 * 2 ^ i.toNat - 1) with
      | false=>exact dN ⟨by show 1<=sizeLine; decide,bad (by rw [tW,el]; rfl)⟩
      | true=>exact dU (good (by rw [tW,el]; rfl))
   ·have h2':¬ (xs.length:Int)<=8:=by omega
    rw [aP h2'];exact dN ⟨by show 1<=sizeLine; decide,bad (by rw [aP h2]; simp)⟩
  ·have h1':¬ (1:Int)<=(xs.length:Int):=by omega
   rw [aP h1'];exact dU ⟨_,rfl,dN ⟨by show 1<=sizeLine; decide,bad (by rw [aP h1]; simp)⟩⟩
noncomputable def aoh (K:Fg) (a:fP):Sp:=fun vs H Q E=>∃ l as ps,vs=[.ref l]/\cW K H l (as.map V.ref)/\j4 a H as ps/\as.length<=8 /\ (¬ (ps.map bB.nm).Nodup->∀ H',Same H H'->E (.ref a.dR) none H')/\((ps.map bB.nm).Nodup->∀ H',Same H H'->Q .non H')
theorem aoi:bM ["pots"] ["pots"] (aW R4):=dI (by decide +kernel)
theorem agP (G:Js K mg a):bT P w K mg base (d9 P w) 2 a.Gs a.an6 ["pots"] (aoh K a):=by
 refine G.twc.F.jU aoi (fun vs H Q E h=>?_) (fun cdv A outer s H vs Q E hr h=>?_)
 ·obtain ⟨l,as,ps,rfl,_⟩:=h;rfl
 ·obtain ⟨l,as,ps,rfl,hl,pots,h8,bad,good⟩:=h;have T:=G.T;refine ⟨_,aU (eE (c7 Aa (gZ Nz T.B.len PySem.boot_len (ak (Gu (Ny rfl) T.B.set boot_set (ak (iC bQ rfl ⟨_,_,rfl,rfl,rfl⟩ (gR.plain (N':=["pot"]) rfl (by decide +kernel) (by decide +kernel)) (fu (pv 0)) (fun _ _ _ _ _=>cL 0 (show [("pot":Str)].Nodup by decide +kernel)) (fun _ _ _ _ _=>gJ) (fun _ _ _ _ _ _=>vW K (pv 0))) aK)) aK)) (gZ fD T.B.len PySem.boot_len (ak (pv 0) aK)) (dH _)) (aU (gj bQ rfl (by rfl) T.dR.m T.dR.q PySem.F.excBase_ValueError (ak ig aK))) cA),?_⟩;refine ⟨_,rfl,l,rfl,⟨_,hl⟩,fun D hD=>?_⟩;have lp:as.length=ps.length:=Paired.length pots;refine jW as.length (bH h8 (by decide)) (fun i acc H'=>acc=((ps.take i).map bB.nm).map V.str/\upd H D (.lst acc)=H') ⟨rfl,rfl⟩ (fun i acc H' le ⟨e,eh⟩=>⟨?_,by rw [<- eh,aG]⟩) ?_ ?_
  ·rw [e,au,au,length_take,<- lp]; omega
  ·rintro acc H' ⟨rfl,rfl⟩;have sD:=aX (o:=.lst (((ps.take as.length).map bB.nm).map V.str)) hD;rw [lp,bO] at sD ⊢;refine ⟨⟨_,sD.seq hl,by rw [au,lp]; exact aM _⟩,D,ps.map bB.nm,rfl,cW.of aG,?_,fun S hS=>?_⟩
   ·rw [au,<- lp]; exact Nat.lt_of_le_of_lt (Nat.succ_le_succ h8) (by decide)
   ·have sS:=sD.trans (aX (o:=xQ P w S (ji (ps.map bB.nm)).length) hS);refine ⟨S,_,rfl,aG,_,rfl,l,_,rfl,.inl (sS.seq hl),rfl,_,rfl,?_⟩;have e1:(V.int ((ji (ps.map bB.nm)).length:Int)=V.int ((as.map V.ref).length:Int)) ↔ (ps.map bB.nm).Nodup:=by
     rw [<- La,au,au,<- lp];constructor
     ·intro z; injection z with z; exact Int.ofNat.inj z
     ·intro z; rw [z]
    by_cases nd:(ps.map bB.nm).Nodup
    ·rw [aO (e1.mpr nd)];exact dU (good nd _ sS)
    ·rw [aP (fun z=>nd (e1.mp z))];exact dN ⟨by show 1<=sizeLine; decide,bad nd _ sS⟩
  ·rintro i acc H' lt ⟨rfl,rfl⟩;have sD:=aX (o:=.lst (((ps.take i).map bB.nm).map V.str)) hD;have hl':=sD.seq hl;obtain ⟨b,hb⟩:∃ b,as[i]?=some b:=⟨as[i],aA lt⟩;obtain ⟨q,hq,pb⟩:=cD pots hb;have hx:(as.map V.ref)[i]?=some (.ref b):=by rw [aF,hb]; rfl
   refine ⟨⟨_,_,hl',hx⟩,?_⟩;rintro x Eh ⟨rfl,hx'⟩ Qc k;have ex:=hx' _ hl';rw [hx] at ex;cases ex;obtain ⟨dx,hb'⟩:=pb.same sD;have cT:=T.cls q.gY;refine ⟨fH,_,rfl,b,q.cls a,dx,_,_,rfl,hb',cT.1.cl,cT.2 _ (by simp),q.yj,?_⟩;refine k _ _ aG ⟨?_,by rw [lK]⟩;rw [take_snoc hq,aY,aY];rfl
end
abbrev XF:cX:=inClass (top 28) 0
abbrev Gv:cX:=inClass (top 28) 1
structure Ju (K:Fg) (x qual:Str) (st:cX) (dV:aC) (f:aB) (fd:d7):Prop where
 ex:∃ (oc:aC) (od:Option aB) (kV doc pm:aC) (an:Option aB) (cdv ct:aC) (osl:Array (Option aC)),fd=fnOf x qual (jO st) (fQ st) (aW st) dV kV doc pm an cdv ct/\K.lookup f=some ⟨oc,od,.func fd,osl⟩/\codeIn K cdv qual=true
 kp:keepIn K (.ref f)=true
theorem Ju.jU {P:bZ} {w:World} {K:Fg} {mg:Str->Option aC} {base:Heap} {x qual:Str} {st:cX} {dV:aC} {f:aB} {fd:d7} {N ps:List Str} {k:Nat} {sp:Sp} (F:Ju K x qual st dV f fd) (S:bM N ps (aW st)) (len:∀ vs H Q E,sp vs H Q E->vs.length=ps.length) (body:∀ (cdv:aC) (A:dB) (outer:List Env) (s:aV) (H:Hp) (vs:List V) (Q:VK) (E:XK),dJ k (A.deeper (PyProof.Rows.envOfC qual (aW st) s.heap.objs.size f cdv))->sp vs H Q E -> ∃ t,zH (oY (d9 P w) P w K mg base N qual (aW st) f cdv A outer s H E) (fQ st) t/\t { nx:=fun _ H'=>Q .non H',rt:=Q } (start N vs) H):bT P w K mg base (d9 P w) (k + 1) f fd ps sp:=by
 obtain ⟨oc,od,kV,doc,pm,an,cdv,ct,osl,rfl,lk,hcd⟩:=F.ex;exact Qs lk hcd S len fun A outer s H vs Q E hr h=>body cdv A outer s H vs Q E hr h
structure zX (K:Fg) (mg:Str->Option aC) (a:fP) (dV:aC):Prop where
 G:Js K mg a
 tG:Fx K a.garden
 R8:mg "Garden"=some (.ref a.garden)
 nG:∀ f ∈ (["pots","cans","week","closed"]:List Str),jy K a.garden f
 gi:Ju K "__init__" "Garden.__init__" XF dV a.Vw a.dGI
 b4:Binds K a.dGI ["self","pots","cans","week","closed"] []
 b1:∃ t1 t2 t3,Binds K a.dGI ["self","pots","cans","week","closed"] [.int 1 t1,.int 1 t2,.int 0 t3]
 b2:∃ t2 t3,Binds K a.dGI ["self","pots","cans","week","closed"] [.int 1 t2,.int 0 t3]
 kG:Mk K a.garden a.Vw
 size:Fn K "size" "Garden.size" Gv ["self"] a.RL a.ZQ
 R9:Meth K a.garden "size" a.RL
section
variable {P:bZ} {w:World} {K:Fg} {mg:Str->Option aC} {base:Heap} {a:fP} {dV:aC}
structure eF where
 pots:List bB
 cans:Int
 week:Int
 closed:Int
def Sd (l:aB) (c w cl:V):List (Str × V):=[("pots",.ref l),("cans",c),("week",w),("closed",cl)]
theorem iH (l:aB) (c w cl:V):(Sd l c w cl).lookup ("pots":Str)=some (.ref l):=Bj
theorem Jv (l:aB) (c w cl:V):(Sd l c w cl).lookup ("cans":Str)=some c:=(jw (by decide +kernel)).trans Bj
theorem jK (l:aB) (c w cl:V):(Sd l c w cl).lookup ("week":Str)=some w:=(jw (by decide +kernel)).trans ((jw (by decide +kernel)).trans Bj)
theorem tX (l:aB) (c w cl:V):(Sd l c w cl).lookup ("closed":Str)=some cl:=(jw (by decide +kernel)).trans ((jw (by decide +kernel)).trans ((jw (by decide +kernel)).trans Bj))
theorem Jw (l:aB) (c w cl:V) {m:Str} (h1:(m == "pots")=false) (h2:(m == "cans")=false) (h3:(m == "week")=false) (h4:(m == "closed")=false):(Sd l c w cl).lookup m=none := (jw h1).trans ((jw h2).trans ((jw h3).trans (jw h4)))
theorem n6 {f g:Str} {v x:V} {r:List (Str × V)} (h:¬ g=f):iB f v ((g,x)::r)=(g,x)::iB f v r:=by
 show (if g=f then _ else _)=_
 rw [if_neg h]
theorem aoj (l:aB) (c w cl:V):iB "closed" cl (iB "week" w (iB "cans" c (iB "pots" (.ref l) [])))=Sd l c w cl:=by
 have e1:iB "pots" (V.ref l) []=[(("pots":Str),V.ref l)]:=rfl;have e2:iB "cans" c [(("pots":Str),V.ref l)]=([("pots",V.ref l),("cans",c)]:List (Str × V)):=by rw [n6 (by decide +kernel)]; rfl
 have e3:iB "week" w ([("pots",V.ref l),("cans",c)]:List (Str × V))=([("pots",V.ref l),("cans",c),("week",w)]:List (Str × V)):=by rw [n6 (by decide +kernel),n6 (by decide +kernel)]; rfl
 have e4:iB "closed" cl ([("pots",V.ref l),("cans",c),("week",w)]:List (Str × V))=([("pots",V.ref l),("cans",c),("week",w),("closed",cl)]:List (Str × V)):=by rw [n6 (by decide +kernel),n6 (by decide +kernel),n6 (by decide +kernel)]; rfl
 rw [e1,e2,e3,e4];rfl
def sizeOf (wk:Int) (ps:List bB):Int:=ps.foldl (fun s p=>s * p.gap) wk
def eZ (a:fP) (H:Hp) (x:aB) (g:eF):Prop:=∃ dx l as,H x=some (.ins a.garden dx (Sd l (.int g.cans) (.int g.week) (.int g.closed)))/\H l=some (.lst (as.map V.ref))/\j4 a H as g.pots
theorem eZ.same {H H':Hp} {x:aB} {g:eF} (h:eZ a H x g) (s:Same H H'):eZ a H' x g:=by
 obtain ⟨dx,l,as,h1,h2,h3⟩:=h;exact ⟨dx,l,as,s _ _ h1,s _ _ h2,h3.same s⟩
noncomputable def agQ (K:Fg) (a:fP):Sp:=fun vs H Q _=>∃ x dx l as ps c wk cl,vs=[.ref x]/\H x=some (.ins a.garden dx (Sd l c (.int wk) cl))/\cW K H l (as.map V.ref)/\j4 a H as ps/\(∀ p ∈ ps,p.Ok)/\Q (.int (sizeOf wk ps)) H
theorem Dq:bM ["self","states","pot"] ["self"] (aW Gv):=dI (by decide +kernel)
theorem Dr (Z:zX K mg a dV):bT P w K mg base (d9 P w) 1 a.RL a.ZQ ["self"] (agQ K a):=by
 refine Z.size.F.jU Dq (fun vs H Q E h=>?_) (fun cdv A outer s H vs Q E hr h=>?_)
 ·obtain ⟨x,dx,l,as,ps,c,wk,cl,rfl,_⟩:=h;rfl
 ·obtain ⟨x,dx,l,as,ps,c,wk,cl,rfl,hx,hl,pots,iJ,q⟩:=h;have T:=Z.G.T;refine ⟨_,aJ (bF (i:=1) Dq.nd rfl (Or.inl rfl) (cJ (pv 0) rfl)) (aJ (iw dY rfl (fu (cJ (pv 0) rfl)) (cL 2 Dq.nd) (aU (bF (i:=1) Dq.nd rfl (Or.inl rfl) (bI oX (pv 1) (cJ (pv 2) rfl))))) (aU (bU (pv 1)))),?_⟩;refine ⟨_,rfl,x,a.garden,dx,_,_,rfl,hx,Z.tG.cl,Z.nG _ (by simp),jK ..,_,rfl,x,a.garden,dx,_,_,rfl,hx,Z.tG.cl,Z.nG _ (by simp),iH ..,l,rfl,⟨_,hl⟩,je (K:=K) (a:=l) (xs:=as.map V.ref) (fun i σ H'=>∃ u,σ=[some (.ref x),some (.int (sizeOf wk (ps.take i))),u]/\H=H') ⟨none,rfl,rfl⟩ (fun i σ H' _ ⟨_,_,e⟩=>e ▸ hl) ?_ ?_⟩
  ·rintro i y σ H' hi ⟨u,rfl,rfl⟩;rw [aF] at hi;obtain ⟨b,hb,rfl⟩:=bA.mp hi;obtain ⟨p,hp,dy,hb'⟩:=cD pots hb;have wR:=iJ p (aH hp);have cT:=T.cls p.gY;refine ⟨_,rfl,_,rfl,b,p.cls a,dy,_,_,rfl,hb',cT.1.cl,cT.2 _ (by simp),p.oN,_,_,rfl,rfl,.inr ⟨by have:=wR.gap; omega,by have:=wR.gap; omega⟩,?_⟩;have e:sizeOf wk (ps.take (i + 1))=sizeOf wk (ps.take i) * p.gap:=by
    rw [take_snoc hp,sizeOf,sizeOf,foldl_append];rfl
   refine ⟨some (.ref b),?_,rfl⟩;rw [e];rfl
  ·rintro σ H' ⟨u,rfl,rfl⟩;refine ⟨_,rfl,?_⟩;have lp:as.length=ps.length:=Paired.length pots;rw [au,lp,bO];exact q
theorem agR {σ:St} {H:Hp} {R:List V->Hp->Prop} (h:R [] H):Nq σ H R:=h
inductive aok where
 | bad | many | ok
 deriving DecidableEq
noncomputable def tY (ps:List bB) (c w cl:V):aok := if vY ps.length c w cl=false then .many else if ¬ (ps.map bB.nm).Nodup then .bad else
 match w with
 | .int wk=>if 20000 < sizeOf wk ps then .many else .ok
 | _=>.many
def zY (o:Option (List bB)) (c w cl:V):aok:=match o with
 | none=>.bad
 | some ps=>tY ps c w cl
inductive yq (K:Fg) (a:fP) (H:Hp):V->Option (List bB)->Prop where
 | no {v:V} {k:Kd} (hk:fK K H v k) (h:bi k .list=false):yq K a H v none
 | mix {l:aB} {xs:List V} {ks:List Kd} (hk:fK K H (.ref l) .lst) (hl:cW K H l xs) (len:xs.length<=1000) (kds:Paired (fK K H) xs ks) (pk:∀ k ∈ ks,PK a k) (h:ks.all (Vx a)=false):yq K a H (.ref l) none
 | pots {l:aB} {as:List aB} {ps:List bB} (hk:fK K H (.ref l) .lst) (hl:cW K H l (as.map V.ref)) (len:as.length<=1000) (pots:j4 a H as ps) (iJ:∀ p ∈ ps,p.Ok):yq K a H (.ref l) (some ps)
theorem Sg (T:jY K mg a) {H:Hp} {as:List aB} {ps:List bB} (h:j4 a H as ps):Paired (fK K H) (as.map V.ref) (ps.map fun p=>Kd.ins (p.cls a)):=by
 induction h with
 | nil=>exact .nil
 | cons r _ ih =>
  obtain ⟨dx,e⟩:=r;exact .cons ⟨_,dx,_,rfl,e,(T.cls (bB.gY _)).1⟩ ih
theorem Sh {ps:List bB}:(ps.map fun p=>Kd.ins (p.cls a)).all (Vx a)=true:=by
 rw [all_map,all_eq_true];intro p _;exact aO p.gY
theorem agS (T:jY K mg a) {H:Hp} {Q:VK} {E:XK} {v:V} {o:Option (List bB)} (g:yq K a H v o) (bad:o=none->∀ H',Same H H'->E (.ref a.dR) none H') (good:∀ ps,o=some ps->(∀ p ∈ ps,p.Ok)->∀ H' l' bs,Same H H'->H l'=none->H' l'=some (.lst (bs.map V.ref))->j4 a H' bs ps->Q (.ref l') H'):ZW K a [v] H Q E:=by
 cases g with
 | no hk h=>exact ⟨v,_,rfl,hk,fun _=>bad rfl,fun z=>by rw [h] at z; cases z⟩
 | mix hk hl len kds pk h=>exact ⟨_,_,rfl,hk,(fun z=>nomatch z),fun _=>⟨_,_,_,rfl,hl,len,kds,pk,fun _=>bad rfl,fun z=>by rw [h] at z; cases z⟩⟩
 | pots hk hl len pots iJ =>
  refine ⟨_,_,rfl,hk,(fun z=>nomatch z),fun _=>⟨_,_,_,rfl,hl,by rw [au]; exact len,Sg T pots,?_,fun z=>?_,fun _=>⟨_,_,rfl,pots,iJ,good _ rfl iJ⟩⟩⟩
  ·intro k hk C e;obtain ⟨p,_,rfl⟩:=bh.mp hk;cases e;exact p.gY
  ·rw [Sh] at z;cases z
def pK (a:fP) (H H':Hp) (x:aB) (g:eF):Prop:=∃ dx l as,H' x=some (.ins a.garden dx (Sd l (.int g.cans) (.int g.week) (.int g.closed)))/\H' l=some (.lst (as.map V.ref))/\j4 a H' as g.pots/\H l=none
theorem pK.at {H H':Hp} {x:aB} {g:eF} (h:pK a H H' x g):eZ a H' x g:=by
 obtain ⟨dx,l,as,h1,h2,h3,_⟩:=h;exact ⟨dx,l,as,h1,h2,h3⟩
theorem pK.from {H0 H H':Hp} {x:aB} {g:eF} (h:pK a H H' x g) (s:Same H0 H):pK a H0 H' x g:=by
 obtain ⟨dx,l,as,h1,h2,h3,h4⟩:=h;exact ⟨dx,l,as,h1,h2,h3,s.free h4⟩
noncomputable def aol (K:Fg) (a:fP):Sp:=fun vs H Q E=>∃ x dx v c w cl o kc kw kl,vs=[.ref x,v,c,w,cl]/\H x=some (.ins a.garden dx [])/\yq K a H v o/\fK K H c kc/\fK K H w kw/\fK K H cl kl /\ (zY o c w cl=.bad->∀ H',But x H H'->E (.ref a.dR) none H')/\(zY o c w cl=.many->∀ H',But x H H'->E (.ref a.tooMany) none H') /\ (zY o c w cl=.ok->∀ ps ci wi li H',o=some ps->c=.int ci->w=.int wi->cl=.int li->But x H H'->pK a H H' x ⟨ps,ci,wi,li⟩->Q .non H')
theorem aom:bM ["self","pots","cans","week","closed","copies"] ["self","pots","cans","week","closed"] (aW XF):=dI (by decide +kernel)
theorem Sq (Z:zX K mg a dV):bT P w K mg base (d9 P w) 7 a.Vw a.dGI ["self","pots","cans","week","closed"] (aol K a):=by
 refine Z.gi.jU aom (fun vs H Q E h=>?_) (fun cdv A outer s H vs Q E hr h=>?_)
 ·obtain ⟨x,dx,v,c,wk,cl,o,kc,kw,kl,rfl,_⟩:=h;rfl
 ·obtain ⟨x,dx,v,c,wk,cl,o,kc,kw,kl,rfl,hx,ga,hc,hw,hcl,bad,many,good⟩:=h;have G:=Z.G;have T:=G.T;obtain ⟨t1,m1⟩:=G.Jt;have hr2:dJ 2 _:=hr.mono (by decide);refine ⟨_,aJ (bF (i:=5) aom.nd rfl (Or.inl rfl) (cH (agM G) hr G.agI G.own.F.kp G.own.b (cY bQ) (ak (pv 1) aK))) (aJ (iu (cH (agO G) hr2 G.agJ G.cnt.F.kp G.cnt.b (cY bQ) (ak (pv 5) (ak (pv 2) (ak (pv 3) (ak (pv 4) aK)))))) (aJ (iu (cH (agP G) hr2 G.agK G.twc.F.kp G.twc.b (cY bQ) (ak (pv 5) aK))) (aJ (qM (pv 0) (pv 5) rfl) (aJ (qM (pv 0) (pv 2) rfl) (aJ (qM (pv 0) (pv 3) rfl) (aJ (qM (pv 0) (pv 4) rfl) (aU (eE (c7 Eo (rZ (pv 0) Z.tG.cl Z.R9 (Dr Z) (hr.mono (by decide)) Z.size.b .nil bf) (oM (.int 20000) m1 ⟨t1,rfl⟩) (dH _)) (aU (gj bQ rfl (by rfl) G.tooMany.m G.tooMany.q PySem.F.excBase_ValueError (ak ig aK))) cA)))))))),?_⟩;refine ⟨_,rfl,agR (agS T ga (fun e H' s'=>bad (by rw [e]; rfl) H' (Same.but s')) (fun ps eo iJ H1 l bs s1 fl hl1 pt1=>?_))⟩;subst eo;have lb:bs.length=ps.length:=Paired.length pt1;have hl1':cW K H1 l (bs.map V.ref):=cW.of hl1;refine ⟨_,rfl,_,rfl,_,rfl,_,rfl,l,_,c,wk,cl,kc,kw,kl,rfl,hl1',hc.same s1,hw.same s1,hcl.same s1,fun e=>many ?_ H1 (Same.but s1),fun e=>?_⟩
  ·rw [au,lb] at e
   show tY _ _ _ _=_
   unfold tY;rw [if_pos e]
  ·rw [au,lb] at e;have e':¬ vY ps.length c wk cl=false:=by rw [e]; exact Bool.noConfusion
   have h8:ps.length<=8/\(∃ ci,c=.int ci)/\(∃ wi,wk=.int wi)/\∃ li,cl=.int li:=by
    unfold vY at e;simp only [Bool.and_eq_true,decide_eq_true_eq] at e;obtain ⟨⟨⟨⟨e1,e2⟩,e3⟩,e4⟩,e5⟩:=e;obtain ⟨ci,rfl,_⟩:=g8 e3;obtain ⟨wi,rfl,_⟩:=g8 e4;obtain ⟨li,rfl,_⟩:=g8 e5;exact ⟨e2,⟨_,rfl⟩,⟨_,rfl⟩,⟨_,rfl⟩⟩
   obtain ⟨h8,⟨ci,rfl⟩,⟨wi,rfl⟩,⟨li,rfl⟩⟩:=h8;refine ⟨_,rfl,l,bs,ps,rfl,hl1',pt1,by rw [lb]; exact h8,fun nd H2 s2=>bad ?_ H2 (Same.but (s1.trans s2)),fun nd H2 s2=>?_⟩
   ·show tY _ _ _ _=_
    unfold tY;rw [if_neg e',if_pos nd]
   ·have nxl:x≠l:=cV hx fl;have s12:=s1.trans s2;have hx2:=s12 _ _ hx;refine ⟨_,rfl,_,rfl,x,a.garden,dx,_,rfl,hx2,Z.tG.cl,Z.nG _ (by simp),by show 0 < 1000; decide,?_⟩;refine ⟨_,rfl,_,rfl,x,a.garden,dx,_,rfl,aG,Z.tG.cl,Z.nG _ (by simp),by show 1 < 1000; decide,?_⟩;refine ⟨_,rfl,_,rfl,x,a.garden,dx,_,rfl,aG,Z.tG.cl,Z.nG _ (by simp),(by rw [show iB "cans" (V.int ci) (iB "pots" (V.ref l) [])=[(("pots":Str),V.ref l),(("cans":Str),V.int ci)] from n6 (by decide +kernel)]; show 2 < 1000; decide),?_⟩;refine ⟨_,rfl,_,rfl,x,a.garden,dx,_,rfl,aG,Z.tG.cl,Z.nG _ (by simp),?_,?_⟩
    ·have:=jF "week" (V.int wi) (iB "cans" (V.int ci) (iB "pots" (V.ref l) []));have:=jF "cans" (V.int ci) (iB "pots" (V.ref l) []);have:=jF "pots" (V.ref l) [];simp at this;omega
    ·rw [lK,lK,lK,aoj];generalize eH:upd H2 x (.ins a.garden dx (Sd l (.int ci) (.int wi) (.int li)))=H3;have hx3:H3 x=some (.ins a.garden dx (Sd l (.int ci) (.int wi) (.int li))):=by rw [<- eH,aG]
     have b3:But x H H3:=fun b o n e=>by rw [<- eH,bw n]; exact s12 _ _ e
     have hl3:H3 l=some (.lst (bs.map V.ref)):=by rw [<- eH,bw nxl.symm]; exact s2 _ _ hl1
     have pt3:j4 a H3 bs ps:=by
      refine Paired.jd (pt1.same s2) fun b p e=>?_
      obtain ⟨dy,e⟩:=e;refine ⟨dy,?_⟩;rw [<- eH,bw ?_]
      ·exact e
      ·intro z;subst z;rw [e] at hx2;have:=(bN hx2);injection this with _ _ e3;unfold bB.fs at e3
       split at e3 <;> cases e3
     refine ⟨_,rfl,x,dx,_,rfl,hx3,Jw _ _ _ _ (by decide +kernel) (by decide +kernel) (by decide +kernel) (by decide +kernel),x,dx,l,bs,ps,_,wi,_,rfl,hx3,cW.of hl3,pt3,iJ,_,_,rfl,rfl,_,rfl,?_⟩
     by_cases big:20000 < sizeOf wi ps
     ·rw [aO big];refine dN ⟨by show 1<=sizeLine; decide,many ?_ _ b3⟩
      show tY _ _ _ _=_
      unfold tY;rw [if_neg e',if_neg (fun z=>z nd)];exact if_pos big
     ·rw [aP big];refine dU (good ?_ ps ci wi li _ rfl rfl rfl rfl b3 ⟨dx,l,bs,hx3,hl3,pt3,fl⟩)
      show tY _ _ _ _=_
      unfold tY;rw [if_neg e',if_neg (fun z=>z nd)];exact if_neg big
end
theorem mY.mark {k:Nat} {A:dB} {o:Option aC} (r:mY k A):mY k (A.mark o):=⟨r.dp,r.un⟩
section
variable {P:bZ} {w:World} {K:Fg} {mg:Str->Option aC} {base:Heap} {a:fP} {dV:aC}
theorem yq.same {H H':Hp} {v:V} {o:Option (List bB)} (g:yq K a H v o) (s:Same H H'):yq K a H' v o:=by
 cases g with
 | no hk h=>exact .no (hk.same s) h
 | mix hk hl len kds pk h=>exact .mix (hk.same s) (s.seq hl) len (Paired.jd kds fun _ _ e=>e.same s) pk h
 | pots hk hl len pots iJ=>exact .pots (hk.same s) (s.seq hl) len (pots.same s) iJ
structure LC (a:fP) (H:Hp) (Q:aB->Hp->Prop) (E:XK) (o:Option (List bB)) (c w cl:V):Prop where
 bad:zY o c w cl=.bad->∀ H',Same H H'->E (.ref a.dR) none H'
 many:zY o c w cl=.many->∀ H',Same H H'->E (.ref a.tooMany) none H'
 ok:zY o c w cl=.ok->∀ ps ci wi li H' x,o=some ps->c=.int ci->w=.int wi->cl=.int li->H x=none->Same H H'->pK a H H' x ⟨ps,ci,wi,li⟩->Q x H'
theorem Jx {H:Hp} {Q:aB->Hp->Prop} {E:XK} {v c w cl:V} {o:Option (List bB)} {kc kw kl:Kd} (ga:yq K a H v o) (hc:fK K H c kc) (hw:fK K H w kw) (hcl:fK K H cl kl) (p:LC a H Q E o c w cl) : ∀ x dx,H x=none->H dx=none->dx≠x->aol K a [.ref x,v,c,w,cl] (upd (upd H dx (.own x)) x (.ins a.garden dx [])) (fun v H2=>v=.non/\Q x H2) E:=by
 intro x dx nx ndx ne;have s0:=uO (C:=a.garden) nx ndx;exact ⟨x,dx,v,c,w,cl,o,kc,kw,kl,rfl,aG,ga.same s0,hc.same s0,hw.same s0,hcl.same s0,fun e H' b=>p.bad e H' (b.made nx ndx),fun e H' b=>p.many e H' (b.made nx ndx),fun e ps ci wi li H' h1 h2 h3 h4 b g=>⟨rfl,p.ok e ps ci wi li H' x h1 h2 h3 h4 nx (b.made nx ndx) (g.from s0)⟩⟩
theorem eZ.arg {H:Hp} {x l dx:aB} {as:List aB} {ps:List bB} (hl:H l=some (.lst (as.map V.ref))) (h8:as.length<=1000) (pt:j4 a H as ps) (iJ:∀ p ∈ ps,p.Ok):yq K a H (.ref l) (some ps) := .pots ⟨l,_,rfl,.inl hl⟩ (cW.of hl) h8 pt iJ
theorem eqT {x y:Int} {A B:Prop} (e:x=y) (h:A):if decide (V.int x=V.int y)=true then A else B:=by
 rw [aO (by rw [e])]; exact dN h
theorem eqF {x y:Int} {A B:Prop} (e:x≠y) (h:B):if decide (V.int x=V.int y)=true then A else B:=by
 rw [aP (fun z=>e (by injection z))]; exact dU h
theorem Gw {H:Hp} {Q:aB->Hp->Prop} {E:XK} {ps:List bB} {c w cl:Int} (h:zY (some ps) (.int c) (.int w) (.int cl)=.ok) (k:∀ H' x,H x=none->Same H H'->pK a H H' x ⟨ps,c,w,cl⟩->Q x H'):LC a H Q E (some ps) (.int c) (.int w) (.int cl) := ⟨fun e=>(by rw [h] at e; cases e),fun e=>(by rw [h] at e; cases e),fun _ ps' ci wi li H' x e1 e2 e3 e4 hx s' g=>by cases e1; cases e2; cases e3; cases e4; exact k H' x hx s' g⟩
theorem Ss {H:Hp} {n:Nat} {x:V} (h:jt x=true):Ei K H n x x true:=by
 have:=Ei.flat (K:=K) (H:=H) (n:=n) h h;rw [Fz h] at this;exact this
end
abbrev Gx:cX:=top 50
abbrev Gy:cX:=top 51
section
variable {P:bZ} {w:World} {K:Fg} {mg:Str->Option aC} {base:Heap} {a:fP} {dV:aC}
def Ds (K:Fg):Sp:=fun vs H Q _=>∃ (s:aB) (ns:List Int) (k:Nat),vs=[.ref s,.int k]/\cW K H s (ns.map V.int)/\Q (.int (ns.getD k 0)) H
theorem agT:bM ["_law_script","_law_k"] ["_law_script","_law_k"] (aW Gx):=dI (by decide +kernel)
theorem Dt {f:aB} {fd:d7} (F:lB K "_law_cell_at" "_law_cell_at" Gx f fd) (B:Blt mg):bT P w K mg base (d9 P w) 1 f fd ["_law_script","_law_k"] (Ds K):=by
 refine F.jU agT (fun vs H Q E h=>?_) (fun cdv A outer s H vs Q E hr h=>?_)
 ·obtain ⟨x,ns,k,rfl,_⟩:=h;rfl
 ·obtain ⟨x,ns,k,rfl,hs,q⟩:=h;refine ⟨_,aJ (eE (c7 Qk (pv 1) (gZ fD B.len PySem.boot_len (ak (pv 0) aK)) (dH _)) (aU (bU (cQ jC (pv 0) (pv 1) (fun _ _=>rfl)))) cA) (aU (bU aR)),?_⟩;refine ⟨_,rfl,_,rfl,x,_,rfl,.inl hs,_,_,rfl,rfl,_,rfl,?_⟩
  by_cases lt:k < ns.length
  ·rw [aO (by rw [au]; omega)];have e:(ns.map V.int)[k]?=some (.int (ns.getD k 0)):=by simp [lt]
   exact dN ⟨_,rfl,_,rfl,x,_,_,_,rfl,rfl,hs,jh e,q⟩
  ·rw [aP (by rw [au]; omega)];have e:ns.getD k 0=0:=by simp [getD,List.getElem?_eq_none (by omega:ns.length<=k)]
   rw [e] at q;exact dU q
def Du:List Int:=[1000003,1000033,1000037,1000039,1000081,1000099,1000117,1000121]
def wU (k:Int):Int:=Du.getD (k % 8).toNat 1
def Gz (c k m:Int):Int:=(c * 48271 + k * 69621 + c / 1000003 % 1000003 * 40692) % wU k % m
theorem LQ (c k:Int) {m:Int} (h:0 < m):0<=Gz c k m:=Int.emod_nonneg _ (by omega)
theorem LR (c k:Int) {m:Int} (h:0 < m):Gz c k m < m:=Int.emod_lt_of_pos _ h
theorem Sv (k:Int):W2 (Du.map V.int) (k % 8)=some (.int (wU k))/\0 < wU k:=by
 have h0:0<=k % 8:=Int.emod_nonneg _ (by decide);have h1:k % 8 < 8:=Int.emod_lt_of_pos _ (by decide);unfold wU;have h:k % 8=0\/k % 8=1\/k % 8=2\/k % 8=3\/k % 8=4\/k % 8=5\/k % 8=6\/k % 8=7:=by omega
 rcases h with e | e | e | e | e | e | e | e <;> rw [e] <;> exact ⟨rfl,by decide⟩
def Sw:Sp:=fun vs H Q _=>∃ c k m:Int,vs=[.int c,.int k,.int m]/\0 < m/\∀ H',Same H H'->Q (.int (Gz c k m)) H'
theorem Jy:bM ["_law_cell","_law_k","_law_many","_law_primes","_law_blend"] ["_law_cell","_law_k","_law_many"] (aW Gy):=dI (by decide +kernel)
theorem XH {f:aB} {fd:d7} (F:lB K "_law_draw" "_law_draw" Gy f fd):bT P w K mg base (d9 P w) 1 f fd ["_law_cell","_law_k","_law_many"] Sw:=by
 refine F.jU Jy (fun vs H Q E h=>?_) (fun cdv A outer s H vs Q E hr h=>?_)
 ·obtain ⟨c,k,m,rfl,_⟩:=h;rfl
 ·obtain ⟨c,k,m,rfl,m0,q⟩:=h;refine ⟨_,aJ (bF (i:=3) Jy.nd rfl (Or.inl rfl) (eX (jD [.int 1000003,.int 1000033,.int 1000037,.int 1000039,.int 1000081,.int 1000099,.int 1000117,.int 1000121] rfl))) (aJ (bF (i:=4) Jy.nd rfl (Or.inl rfl) (bI eO (bI eO (bI oX (pv 0) aR) (bI oX (pv 1) aR)) (bI oX (bI fU (bI gH (pv 0) aR) aR) aR))) (aU (bU (bI fU (bI fU (pv 4) (cQ cB (pv 3) (bI fU (pv 1) aR) (fun _ _=>rfl))) (pv 2))))),?_⟩;refine ⟨by show 8<=sizeLine; decide,fun t ht=>?_⟩;have st:=aX (o:=.tup (Du.map V.int)) ht;refine ⟨_,rfl,_,_,rfl,rfl,.inr ⟨by decide,by decide⟩,_,rfl,_,_,rfl,rfl,.inr ⟨by decide,by decide⟩,_,_,rfl,rfl,_,rfl,_,_,rfl,rfl,⟨by decide,by decide⟩,_,_,rfl,rfl,(by show (0:Int) < 1000003; decide),_,_,rfl,rfl,.inr ⟨by decide,by decide⟩,_,_,rfl,rfl,?_⟩;obtain ⟨pa,p0⟩:=Sv k;refine ⟨_,rfl,_,rfl,_,rfl,_,_,rfl,rfl,(by show (0:Int) < 8; decide),t,_,_,_,rfl,rfl,d8.of aG,pa,_,_,rfl,rfl,p0,_,rfl,_,_,rfl,rfl,m0,?_⟩;exact q _ st
end
abbrev yr:cX:=top 57
structure XC (K:Fg) (a:fP) (C:aB) (j:Nat):Prop where
 t:ZG K C
 b0:kitOne K (.ref C) (.ref a.dR)=some (0 == j)
 b1:kitOne K (.ref C) (.ref a.tooMany)=some (1 == j)
 b2:kitOne K (.ref C) (.ref a.fJ)=some (2 == j)
 b3:kitOne K (.ref C) (.ref a.qY)=some (3 == j)
 b4:kitOne K (.ref C) (.ref a.qX)=some (4 == j)
 b5:kitOne K (.ref C) (.ref a.gW)=some (5 == j)
 v:kitOne K (.ref C) (.type "ValueError")=some true
 m:exmOne K (.ref C) (.ref a.Jp)=some true
structure Jz (mg:Str->Option aC) (a:fP):Prop where
 is:mg "isinstance"=none
 ve:mg "ValueError"=none
 n0:mg "BadPot"=some (.ref a.dR)
 n1:mg "TooMany"=some (.ref a.tooMany)
 n2:mg "NoPot"=some (.ref a.fJ)
 n3:mg "BadDay"=some (.ref a.qY)
 n4:mg "BadRow"=some (.ref a.qX)
 n5:mg "NoState"=some (.ref a.gW)
 ge:mg "GardenError"=some (.ref a.Jp)
section
variable {P:bZ} {w:World} {K:Fg} {mg:Str->Option aC} {base:Heap} {a:fP} {dV:aC}
def hot (j:Nat):List V:=[.bl (0 == j),.bl (1 == j),.bl (2 == j),.bl (3 == j),.bl (4 == j),.bl (5 == j)]
def Ma (K:Fg) (a:fP):Sp:=fun vs H Q _=>∃ e C j,vs=[.ref e]/\H e=some (CN e (.ref C) none)/\XC K a C j/\∀ H' l,Same H H'->H' l=some (.lst (hot j))->Q (.ref l) H'
theorem Mf:bM ["_law_error","_law_found"] ["_law_error"] (aW yr):=dI (by decide +kernel)
theorem Sx {f:aB} {fd:d7} (F:lB K "_law_sorts" "_law_sorts" yr f fd) (N:Jz mg a):Ak P w K mg base (d9 P w) 1 f fd ["_law_error"] (Ma K a):=by
 refine F.okH Mf (fun vs H Q E h=>?_) (fun cdv A outer s H vs Q E hr h=>?_)
 ·obtain ⟨e,C,j,rfl,_⟩:=h;rfl
 ·obtain ⟨e,C,j,rfl,he,x,q⟩:=h;refine ⟨_,aJ (bF (i:=1) Mf.nd rfl (Or.inl rfl) (iG (ak (gZ jV N.is boot_isinstance (ak (pv 0) (ak (oM (.ref a.dR) N.n0 rfl) aK))) (ak (gZ jV N.is boot_isinstance (ak (pv 0) (ak (oM (.ref a.tooMany) N.n1 rfl) aK))) (ak (gZ jV N.is boot_isinstance (ak (pv 0) (ak (oM (.ref a.fJ) N.n2 rfl) aK))) aK))))) (aU (bU (bI uG (pv 1) (iG (ak (gZ jV N.is boot_isinstance (ak (pv 0) (ak (oM (.ref a.qY) N.n3 rfl) aK))) (ak (gZ jV N.is boot_isinstance (ak (pv 0) (ak (oM (.ref a.qX) N.n4 rfl) aK))) (ak (gZ jV N.is boot_isinstance (ak (pv 0) (ak (oM (.ref a.gW) N.n5 rfl) aK))) aK))))))),?_⟩;refine ⟨_,rfl,e,C,_,_,_,rfl,rfl,⟨_,.inl rfl⟩,he,x.t,x.b0,_,rfl,e,C,_,_,_,rfl,rfl,⟨_,.inl rfl⟩,he,x.t,x.b1,_,rfl,e,C,_,_,_,rfl,rfl,⟨_,.inl rfl⟩,he,x.t,x.b2,by show 3<=sizeLine; decide,fun l1 h1=>?_⟩;have s1:=aX (o:=.lst [V.bl (0 == j),.bl (1 == j),.bl (2 == j)]) h1;have he1:=s1 _ _ he;refine ⟨_,rfl,_,rfl,e,C,_,_,_,rfl,rfl,⟨_,.inl rfl⟩,he1,x.t,x.b3,_,rfl,e,C,_,_,_,rfl,rfl,⟨_,.inl rfl⟩,he1,x.t,x.b4,_,rfl,e,C,_,_,_,rfl,rfl,⟨_,.inl rfl⟩,he1,x.t,x.b5,by show 3<=sizeLine; decide,fun l2 h2=>?_⟩;have s2:=aX (o:=.lst [V.bl (3 == j),.bl (4 == j),.bl (5 == j)]) h2;refine ⟨l1,l2,_,_,rfl,rfl,s2 _ _ aG,aG,by show 6<=sizeLine; decide,fun l3 h3=>?_⟩;exact q _ l3 ((s1.trans s2).trans (aX h3)) aG
end
abbrev GC:cX:=top 26
abbrev yt:cX:=top 27
abbrev Sy:cX:=inClass (top 28) 2
abbrev SJ:cX:=inClass (top 28) 3
structure JB (K:Fg) (mg:Str->Option aC) (a:fP) (dV:aC):Prop where
 Z:zX K mg a dV
 agU:Fn K "is_state" "is_state" GC ["garden","value"] a.RN a.ZR
 aon:mg "is_state"=some (.ref a.RN)
 ref:Fn K "refuse_no_state" "refuse_no_state" yt ["garden","value"] a.Jr a.RQ
 agV:mg "refuse_no_state"=some (.ref a.Jr)
 num:Fn K "number" "Garden.number" Sy ["self","state"] a.Dm a.an8
 ayo:Meth K a.garden "number" a.Dm
 sta:Fn K "state" "Garden.state" SJ ["self","number"] a.Dn a.an9
 ayp:Meth K a.garden "state" a.Dn
 XJ:Exn K mg "NoState" a.gW
section
variable {P:bZ} {w:World} {K:Fg} {mg:Str->Option aC} {base:Heap} {a:fP} {dV:aC}
theorem aoo {x y:Int} {A B:Prop} (e:x≠y) (h:A):if (!decide (V.int x=V.int y))=true then A else B:=by
 rw [aP (fun z=>e (by injection z))]; exact dN h
theorem SM {x y:Int} {A B:Prop} (e:x=y) (h:B):if (!decide (V.int x=V.int y))=true then A else B:=by
 rw [aO (by rw [e])]; exact dU h
theorem yu {X:Cx} {pos:Pos} (K:Fg) {es:List Expr} {k:Nat} {t:Zn} {n:Nat} (hc:X.calm=true) (h:PGs X es t) (hK:autoParam (X.K=K) zau0) (hn:autoParam ((assignEach es X.env).length=n) zau0) (hst:autoParam ((assignEach es X.env).findIdx? (·.1)=none) zau0):PG X (.Tuple es k pos) (anc K n t):=by
 subst hK;exact nM hc h hn hst
def rA (ys:List V) (ps:List bB):Bool:=(ys.zip ps).all fun c=>bV c.1 0 (c.2.gap - 1)
inductive j5 (K:Fg) (H:Hp) (wk:Int) (ps:List bB):V->Bool->Prop
 | no {v:V} {k:Kd}:fK K H v k->bi k .tuple=false->j5 K H wk ps v false
 | len {t:aB} {xs:List V}:H t=some (.tup xs)->xs.length≠2->j5 K H wk ps (.ref t) false
 | day {t:aB} {d s:V} {k:Kd}:H t=some (.tup [d,s])->fK K H d k->bV d 0 (wk - 1)=false->j5 K H wk ps (.ref t) false
 | sn {t:aB} {d s:V} {k:Kd}:H t=some (.tup [d,s])->bV d 0 (wk - 1)=true->fK K H s k->bi k .tuple=false->j5 K H wk ps (.ref t) false
 | sl {t s:aB} {d:V} {ys:List V}:H t=some (.tup [d,.ref s])->bV d 0 (wk - 1)=true->H s=some (.tup ys)->ys.length≠ps.length->j5 K H wk ps (.ref t) false
 | all {t s:aB} {d:V} {ys:List V}:H t=some (.tup [d,.ref s])->bV d 0 (wk - 1)=true->H s=some (.tup ys)->ys.length=ps.length->(∀ y ∈ ys,∃ k,fK K H y k)->j5 K H wk ps (.ref t) (rA ys ps)
def agW (K:Fg) (a:fP):Sp:=fun vs H Q _=>∃ x g v b,vs=[.ref x,v]/\eZ a H x g/\g.pots.length<=8/\j5 K H g.week g.pots v b/\∀ H',Same H H'->Q (.bl b) H'
theorem JC:bM ["garden","value","day","since"] ["garden","value"] (aW GC):=dI (by decide +kernel)
theorem yw {H:Hp} {v:V} {l m:Int} (h:bV v l m=true):fK K H v .int:=by
 obtain ⟨i,rfl,_⟩:=g8 h;exact ⟨i,rfl⟩
theorem XM (S:JB K mg a dV):bT P w K mg base (d9 P w) 2 a.RN a.ZR ["garden","value"] (agW K a):=by
 refine S.agU.F.jU JC (fun vs H Q E h=>?_) (fun cdv A outer s H vs Q E hr h=>?_)
 ·obtain ⟨x,g,v,b,rfl,_⟩:=h;rfl
 ·obtain ⟨x,g,v,b,rfl,⟨dx,l,as,hx,hl,pt⟩,h8,sa,q⟩:=h;have Z:=S.Z;have T:=Z.G.T;have nd2:[("days":Str),"pot"].Nodup:=by decide +kernel
  refine ⟨_,aJ (eE (pw_or (gq (fW (uH .tuple T.B.isinstance T.B.tuple (pv 1)))) (pw_or1 (c7 Aa (gZ fD T.B.len PySem.boot_len (ak (pv 1) aK)) aR (dH _)))).pt (aU (bU lM)) cA) (aJ (bF (i:=2) JC.nd rfl (Or.inl rfl) (cQ cB (pv 1) aR (fun _ _=>rfl))) (aJ (bF (i:=3) JC.nd rfl (Or.inl rfl) (cQ cB (pv 1) aR (fun _ _=>rfl))) (aJ (eE (gq (fW (cH T.ZV hr T.ZS T.wh.F.kp T.wh.b bf (ak (pv 2) (ak aR (ak (bI uD (cJ (pv 0) rfl) aR) aK)))))) (aU (bU lM)) cA) (aJ (eE (pw_or (gq (fW (uH .tuple T.B.isinstance T.B.tuple (pv 3)))) (pw_or1 (c7 Aa (gZ fD T.B.len PySem.boot_len (ak (pv 3) aK)) (gZ fD T.B.len PySem.boot_len (ak (cJ (pv 0) rfl) aK)) (dH _)))).pt (aU (bU lM)) cA) (aU (bU (gZ (Ao rfl) T.B.all boot_all (ak (iC bQ rfl ⟨_,_,rfl,rfl,rfl⟩ (gR.plain (N':=["days","pot"]) rfl (by decide +kernel) (by decide +kernel)) (IV (by rfl) T.B.zip (ak (pv 3) (ak (cJ (pv 0) rfl) aK))) (fun _ _ _ _ _=>yu K (n:=2) rfl (bY (cL 0 nd2) (bY (cL 1 nd2) gQ))) (fun _ _ _ _ _=>gJ) (fun _ _ _ _ _ _=>cH T.ZV hr T.ZS T.wh.F.kp T.wh.b bf (ak (pv 0) (ak aR (ak (bI uD (vW K (pv 1)) aR) aK))))) aK)))))))),?_⟩;have la:as.length=g.pots.length:=Paired.length pt;have hL:cW K H l (as.map V.ref):=cW.of hl;cases sa with
  | no hk hb =>
   refine ⟨_,rfl,v,_,rfl,hk,_,rfl,?_⟩;rw [hb];exact dN (dN (q H (Same.refl _)))
  | @len t xs h1 h2 =>
   refine ⟨_,rfl,_,.tup,rfl,⟨t,_,rfl,h1⟩,_,rfl,dU ⟨_,rfl,t,_,rfl,.inr (d8.of h1),rfl,_,rfl,aoo (by omega) (q H (Same.refl _))⟩⟩
  | @day t d s k h1 h2 h3 =>
   refine ⟨_,rfl,_,.tup,rfl,⟨t,_,rfl,h1⟩,_,rfl,dU ⟨_,rfl,t,_,rfl,.inr (d8.of h1),rfl,_,rfl,SM rfl ⟨_,rfl,t,_,0,d,rfl,rfl,d8.of h1,rfl,_,rfl,t,_,1,s,rfl,rfl,d8.of h1,rfl,?_⟩⟩⟩;refine ⟨_,rfl,_,rfl,x,a.garden,dx,_,_,rfl,hx,Z.tG.cl,Z.nG _ (by simp),jK ..,_,_,rfl,rfl,d,0,g.week - 1,k,rfl,h2,_,rfl,?_⟩;rw [h3];exact dN (q H (Same.refl _))
  | @sn t d s k h1 h2 h3 h4 =>
   refine ⟨_,rfl,_,.tup,rfl,⟨t,_,rfl,h1⟩,_,rfl,dU ⟨_,rfl,t,_,rfl,.inr (d8.of h1),rfl,_,rfl,SM rfl ⟨_,rfl,t,_,0,d,rfl,rfl,d8.of h1,rfl,_,rfl,t,_,1,s,rfl,rfl,d8.of h1,rfl,?_⟩⟩⟩;refine ⟨_,rfl,_,rfl,x,a.garden,dx,_,_,rfl,hx,Z.tG.cl,Z.nG _ (by simp),jK ..,_,_,rfl,rfl,d,0,g.week - 1,.int,rfl,yw h2,_,rfl,?_⟩;rw [h2];refine dU ⟨_,rfl,s,k,rfl,h3,_,rfl,?_⟩;rw [h4];exact dN (dN (q H (Same.refl _)))
  | @sl t s d ys h1 h2 h3 h4 =>
   refine ⟨_,rfl,_,.tup,rfl,⟨t,_,rfl,h1⟩,_,rfl,dU ⟨_,rfl,t,_,rfl,.inr (d8.of h1),rfl,_,rfl,SM rfl ⟨_,rfl,t,_,0,d,rfl,rfl,d8.of h1,rfl,_,rfl,t,_,1,.ref s,rfl,rfl,d8.of h1,rfl,?_⟩⟩⟩;refine ⟨_,rfl,_,rfl,x,a.garden,dx,_,_,rfl,hx,Z.tG.cl,Z.nG _ (by simp),jK ..,_,_,rfl,rfl,d,0,g.week - 1,.int,rfl,yw h2,_,rfl,?_⟩;rw [h2];refine dU ⟨_,rfl,.ref s,.tup,rfl,⟨s,_,rfl,h3⟩,_,rfl,dU ⟨_,rfl,s,_,rfl,.inr (d8.of h3),_,rfl,x,a.garden,dx,_,_,rfl,hx,Z.tG.cl,Z.nG _ (by simp),iH ..,l,_,rfl,.inl hL,rfl,_,rfl,?_⟩⟩;exact aoo (by rw [au,la]; omega) (q H (Same.refl _))
  | @all t s d ys h1 h2 h3 h4 h5 =>
   refine ⟨_,rfl,_,.tup,rfl,⟨t,_,rfl,h1⟩,_,rfl,dU ⟨_,rfl,t,_,rfl,.inr (d8.of h1),rfl,_,rfl,SM rfl ⟨_,rfl,t,_,0,d,rfl,rfl,d8.of h1,rfl,_,rfl,t,_,1,.ref s,rfl,rfl,d8.of h1,rfl,?_⟩⟩⟩;refine ⟨_,rfl,_,rfl,x,a.garden,dx,_,_,rfl,hx,Z.tG.cl,Z.nG _ (by simp),jK ..,_,_,rfl,rfl,d,0,g.week - 1,.int,rfl,yw h2,_,rfl,?_⟩;rw [h2];refine dU ⟨_,rfl,.ref s,.tup,rfl,⟨s,_,rfl,h3⟩,_,rfl,dU ⟨_,rfl,s,_,rfl,.inr (d8.of h3),_,rfl,x,a.garden,dx,_,_,rfl,hx,Z.tG.cl,Z.nG _ (by simp),iH ..,l,_,rfl,.inl hL,rfl,_,rfl,SM (by rw [au,la,h4]) ?_⟩⟩;refine ⟨_,rfl,_,rfl,x,a.garden,dx,_,_,rfl,hx,Z.tG.cl,Z.nG _ (by simp),iH ..,s,l,ys,_,rfl,d8.of h3,hL,fun D hD=>?_⟩;refine wL ys.length (bH (by omega:ys.length<=8) (by decide)) (fun i=>.bl (((ys.zip g.pots)[i]?.map fun c=>bV c.1 0 (c.2.gap - 1)).getD true)) (fun i H'=>H' D=some (.lst ((List.range i).map fun i=>V.bl (((ys.zip g.pots)[i]?.map fun c=>bV c.1 0 (c.2.gap - 1)).getD true)))/\Same H H') ⟨aG,aX hD⟩ (fun i H' _ e=>e.1) (fun H' e=>⟨?_,?_⟩) (fun i H' lt e=>⟨?_,?_⟩)
   ·exact ⟨ys,_,d8.of (e.2 _ _ h3),e.2.seq hL,.inl (aM _)⟩
   ·refine ⟨D,(List.range ys.length).map fun i=>(((ys.zip g.pots)[i]?.map fun c=>bV c.1 0 (c.2.gap - 1)).getD true),rfl,cW.of (by rw [e.1,fG]; rfl),?_⟩;have ez:((List.range ys.length).map fun i=>(((ys.zip g.pots)[i]?.map fun c=>bV c.1 0 (c.2.gap - 1)).getD true)).all id=rA ys g.pots:=by
     have lz:(ys.zip g.pots).length=ys.length:=by rw [length_zip]; omega
     have:=all_range ((ys.zip g.pots).map fun c=>bV c.1 0 (c.2.gap - 1));rw [au,lz] at this;rw [all_map] at this ⊢;refine Eq.trans ?_ this
     congr 1
     funext i
     simp
    rw [ez];exact q _ e.2
   ·have l2:i < (as.map V.ref).length:=by rw [au]; omega
    exact ⟨ys,as.map V.ref,ys[i],(as.map V.ref)[i],d8.of (e.2 _ _ h3),e.2.seq hL,by simp [lt],by simp [l2]⟩
   ·rintro y Eh ⟨t2,wV,rfl,hu⟩ Qc k;obtain ⟨hd,s1⟩:=e;have lb:i < as.length:=by omega
    have hb:as[i]?=some as[i]:=aA lb;obtain ⟨p,hp,pb⟩:=cD pt hb;have hy:ys[i]?=some ys[i]:=aA lt;have hbm:(as.map V.ref)[i]?=some (.ref as[i]):=by rw [aF,hb]; rfl
    have e2:=hu ys _ ys[i] (.ref as[i]) (d8.of (s1 _ _ h3)) (s1.seq hL) hy hbm;subst e2;have s2:=s1.trans (aX (o:=.tup [ys[i],V.ref as[i]]) wV);obtain ⟨ky,hky⟩:=h5 ys[i] (List.getElem_mem lt);obtain ⟨dy,hb'⟩:=pb.same s2;have cT:=T.cls p.gY;refine ⟨t2,_,rfl,d8.of aG,rfl,_,_,rfl,_,_,rfl,rfl,fH,_,rfl,_,rfl,as[i],p.cls a,dy,_,_,rfl,hb',cT.1.cl,cT.2 _ (by simp),p.oN,_,_,rfl,rfl,ys[i],0,p.gap - 1,ky,rfl,hky.same s2,?_⟩;have hz:(ys.zip g.pots)[i]?=some (ys[i],p):=by rw [List.getElem?_zip_eq_some]; exact ⟨hy,hp⟩
    have k':=k (upd H' t2 (.tup [ys[i],V.ref as[i]])) (by rw [bw (cV hd wV)]; exact hd) ⟨aG,m8 s2 hD⟩;rw [hz] at k';exact k'
noncomputable def XQ (K:Fg) (a:fP):Sp:=fun vs H Q E=>∃ x g v b,vs=[.ref x,v]/\eZ a H x g/\g.pots.length<=8/\j5 K H g.week g.pots v b/\(b=false->∀ H',Same H H'->E (.ref a.gW) none H')/\(b=true->∀ H',Same H H'->Q .non H')
theorem XR:bM ["garden","value"] ["garden","value"] (aW yt):=dI (by decide +kernel)
theorem yx (S:JB K mg a dV):bT P w K mg base (d9 P w) 3 a.Jr a.RQ ["garden","value"] (XQ K a):=by
 refine S.ref.F.jU XR (fun vs H Q E h=>?_) (fun cdv A outer s H vs Q E hr h=>?_)
 ·obtain ⟨x,g,v,b,rfl,_⟩:=h;rfl
 ·obtain ⟨x,g,v,b,rfl,gx,h8,sa,bad,good⟩:=h;refine ⟨_,aU (eE (gq (fW (cH (XM S) hr S.aon S.agU.F.kp S.agU.b bf (ak (pv 0) (ak (pv 1) aK))))) (aU (gj bQ rfl (by rfl) S.XJ.m S.XJ.q PySem.F.excBase_ValueError (ak ig aK))) cA),?_⟩;refine ⟨_,rfl,_,rfl,x,g,v,b,rfl,gx,h8,sa,fun H1 s1=>⟨_,rfl,?_⟩⟩;cases b with
  | false=>exact dN ⟨by show 1<=sizeLine; decide,bad rfl H1 s1⟩
  | true=>exact dU (good rfl H1 s1)
def qC (H:Hp) (v:V) (d:Int) (ds:List Int):Prop:=∃ t s,v=.ref t/\H t=some (.tup [.int d,.ref s])/\H s=some (.tup (ds.map V.int))
structure m9 (wk:Int) (ps:List bB) (d:Int) (ds:List Int):Prop where
 d0:0<=d
 d1:d < wk
 len:ds.length=ps.length
 at_:∀ (i:Nat) (y:Int) (p:bB),ds[i]?=some y->ps[i]?=some p->0<=y/\y < p.gap
theorem qC.same {H H':Hp} {v:V} {d:Int} {ds:List Int} (h:qC H v d ds) (s:Same H H'):qC H' v d ds:=by
 obtain ⟨t,u,e,h1,h2⟩:=h;exact ⟨t,u,e,s _ _ h1,s _ _ h2⟩
theorem vZ:∀ {ys:List V} {ps:List bB},ys.length=ps.length->rA ys ps=true->∃ ds:List Int,ys=ds.map V.int/\∀ (i:Nat) (y:Int) (p:bB),ds[i]?=some y->ps[i]?=some p->0<=y/\y < p.gap
 | [],_,_,_=>⟨[],rfl,fun i y p h=>by simp at h⟩
 | y::ys,[],h,_=>by simp at h
 | y::ys,p::ps,h,z=>by
  have z':(bV y 0 (p.gap - 1) && rA ys ps)=true:=z;rw [Bool.and_eq_true] at z';obtain ⟨i,rfl,h1,h2⟩:=g8 z'.1;obtain ⟨ds,rfl,hd⟩:=vZ (by simpa using h) z'.2;refine ⟨i::ds,rfl,fun j y q hy hq=>?_⟩;cases j with
  | zero=>cases hy; cases hq; exact ⟨h1,by omega⟩
  | succ j=>exact hd j y q hy hq
theorem Bl:∀ {ds:List Int} {ps:List bB},ds.length=ps.length->(∀ (i:Nat) (y:Int) (p:bB),ds[i]?=some y->ps[i]?=some p->0<=y/\y < p.gap)->rA (ds.map V.int) ps=true
 | [],_,_,_=>rfl
 | y::ds,[],h,_=>by simp at h
 | y::ds,p::ps,h,z=>by
  show (bV (.int y) 0 (p.gap - 1) && rA (ds.map V.int) ps)=true
  rw [Bl (by simpa using h) fun i y q h1 h2=>z (i + 1) y q h1 h2];obtain ⟨h1,h2⟩:=z 0 y p rfl rfl;have h3:y<=p.gap - 1:=by omega
  simp [bV,h1,h3]
theorem j5.good {H:Hp} {wk:Int} {ps:List bB} {v:V} (h:j5 K H wk ps v true):∃ d ds,qC H v d ds/\m9 wk ps d ds:=by
 generalize e:true=b at h;cases h with
 | no=>cases e
 | len=>cases e
 | day=>cases e
 | sn=>cases e
 | sl=>cases e
 | @all t s d ys h1 h2 h3 h4 h5 =>
  obtain ⟨i,rfl,i0,i1⟩:=g8 h2;obtain ⟨ds,rfl,hd⟩:=vZ h4 e.symm;exact ⟨i,ds,⟨t,s,rfl,h1,h3⟩,i0,by omega,by simpa using h4,hd⟩
theorem qC.arg {H:Hp} {wk:Int} {ps:List bB} {v:V} {d:Int} {ds:List Int} (h:qC H v d ds) (ok:m9 wk ps d ds):j5 K H wk ps v true:=by
 obtain ⟨t,s,rfl,h1,h2⟩:=h;have e:rA (ds.map V.int) ps=true:=Bl ok.len ok.at_;rw [<- e];refine .all h1 ?_ h2 (by rw [au]; exact ok.len) fun y hy=>?_
 ·have:=ok.d0;have:=ok.d1;have h3:d<=wk - 1:=by omega
  simp [bV,ok.d0,h3]
 ·obtain ⟨i,_,rfl⟩:=bh.mp hy;exact ⟨.int,i,rfl⟩
theorem qC.one {H:Hp} {v:V} {d d':Int} {ds ds':List Int} (h:qC H v d ds) (h':qC H v d' ds'):d=d'/\ds=ds':=by
 obtain ⟨t,s,rfl,h1,h2⟩:=h;obtain ⟨t',s',e,h1',h2'⟩:=h';cases e;rw [h1] at h1';cases h1';rw [h2] at h2';injection h2' with h2';injection h2' with h2';exact ⟨rfl,(List.map_inj_right (fun _ _ z=>by injection z)).mp h2'⟩
def numOf (d:Int) (ps:List bB) (ds:List Int):Int:=(ps.zip ds).foldl (fun c q=>c * q.1.gap + q.2) d
noncomputable def aop (K:Fg) (a:fP):Sp:=fun vs H Q E=>∃ x g v b,vs=[.ref x,v]/\eZ a H x g/\(∀ p ∈ g.pots,p.Ok)/\g.pots.length<=8/\j5 K H g.week g.pots v b/\(b=false->∀ H',Same H H'->E (.ref a.gW) none H') /\ (b=true->∀ d ds H',qC H v d ds->m9 g.week g.pots d ds->Same H H'->Q (.int (numOf d g.pots ds)) H')
theorem GD:bM ["self","state","count","days","pot"] ["self","state"] (aW Sy):=dI (by decide +kernel)
theorem agX (S:JB K mg a dV):bT P w K mg base (d9 P w) 4 a.Dm a.an8 ["self","state"] (aop K a):=by
 refine S.num.F.jU GD (fun vs H Q E h=>?_) (fun cdv A outer s H vs Q E hr h=>?_)
 ·obtain ⟨x,g,v,b,rfl,_⟩:=h;rfl
 ·obtain ⟨x,g,v,b,rfl,gx,iJ,h8,sa,bad,good⟩:=h;have Z:=S.Z;have T:=Z.G.T;refine ⟨_,aJ (iu (cH (yx S) hr S.agV S.ref.F.kp S.ref.b (cY bQ) (ak (pv 0) (ak (pv 1) aK)))) (aJ (bF (i:=2) GD.nd rfl (Or.inl rfl) (cQ cB (pv 1) aR (fun _ _=>rfl))) (aJ (iw dY rfl (IV (by rfl) T.B.zip (ak (cQ cB (pv 1) aR (fun _ _=>rfl)) (ak (cJ (pv 0) rfl) aK))) (nM rfl (bY (cL 3 GD.nd) (bY (cL 4 GD.nd) gQ))) (aU (bF (i:=2) GD.nd rfl (Or.inl rfl) (bI eO (bI oX (pv 2) (cJ (pv 4) rfl)) (pv 3))))) (aU (bU (pv 2))))),?_⟩;refine ⟨_,rfl,_,rfl,x,g,v,b,rfl,gx,h8,sa,fun eb H1 s1=>bad eb H1 s1,fun eb H1 s1=>?_⟩;subst eb;obtain ⟨d,ds,sv,ok⟩:=sa.good;have sv1:=sv.same s1;have SN:=gx.same s1;obtain ⟨t,u,rfl,ht,hu⟩:=sv1;obtain ⟨dx,l,as,hx,hl,pt⟩:=SN;have la:as.length=g.pots.length:=Paired.length pt;have ln:=ok.len;have hL:cW K H1 l (as.map V.ref):=cW.of hl;refine ⟨_,rfl,t,_,0,.int d,rfl,rfl,d8.of ht,rfl,_,rfl,t,_,1,.ref u,rfl,rfl,d8.of ht,rfl,_,rfl,x,a.garden,dx,_,_,rfl,hx,Z.tG.cl,Z.nG _ (by simp),iH ..,u,l,_,_,rfl,d8.of hu,hL,?_⟩;refine Lg (K:=K) (l:=u) (m:=l) (xs:=ds.map V.int) (ys:=as.map V.ref) (fun i σ H'=>∃ y z,σ=[some (.ref x),some (.ref t),some (.int (numOf d (g.pots.take i) (ds.take i))),y,z]/\Same H1 H') (by rw [au,au]; omega) ⟨none,none,rfl,Same.refl _⟩ (fun i σ H' _ ⟨_,_,_,s'⟩=>⟨d8.of (s' _ _ hu),s'.seq hL⟩) ?_ ?_
  ·rintro i y b' T2 σ H2 hy hb0 ⟨z1,z2,rfl,s2⟩ hT2;rw [aF] at hy hb0;obtain ⟨n,hn,rfl⟩:=bA.mp hy;obtain ⟨b,hb,rfl⟩:=bA.mp hb0;obtain ⟨p,hp,pb⟩:=cD pt hb;have s3:=s2.trans (aX (o:=.tup [V.int n,.ref b]) hT2);obtain ⟨dy,hb'⟩:=pb.same s3;have wR:=iJ p (aH hp);have cT:=T.cls p.gY;refine ⟨T2,_,rfl,d8.of aG,rfl,_,_,rfl,_,_,rfl,rfl,?_⟩;refine ⟨_,rfl,_,rfl,b,p.cls a,dy,_,_,rfl,hb',cT.1.cl,cT.2 _ (by simp),p.oN,_,_,rfl,rfl,.inr ⟨by have:=wR.gap; omega,by have:=wR.gap; omega⟩,_,rfl,_,_,rfl,rfl,?_⟩;refine ⟨some (.int n),some (.ref b),?_,s3⟩;have e:numOf d (g.pots.take (i + 1)) (ds.take (i + 1))=numOf d (g.pots.take i) (ds.take i) * p.gap + n:=by
    have l1:(g.pots.take i).length=(ds.take i).length:=by rw [length_take,length_take]; omega
    rw [take_snoc hp,take_snoc hn,numOf,numOf,List.zip_append l1,foldl_append];rfl
   rw [e];rfl
  ·rintro σ H2 ⟨y,z,rfl,s2⟩;refine ⟨_,rfl,?_⟩;have q:=good rfl d ds H2 sv ok (s1.trans s2);rw [au,bO,ln,bO];exact q
end
section
variable {X:Cx}
theorem OD (K:Fg) (hK:autoParam (X.K=K) zau0):iy X (.builtin "isinstance") (fun xs H Q=>∃ e C c cv b,xs=[.ref e,c]/\RelV c cv/\(∃ C',c=.ref C'\/∃ T,c=.ty T)/\H e=some (CN e (.ref C) none)/\ZG K C/\kitOne K (.ref C) cv=some b/\Q (.bl b) H):=by
 subst hK;exact jV
theorem XS (K:Fg) (hu:X.A.units + 64 < cLine) (hK:autoParam (X.K=K) zau0):oJ X (compareOp .Eq) (Q0 K false):=by
 subst hK;exact agt hu
end
section
variable {P:bZ} {w:World} {K:Fg} {mg:Str->Option aC} {base:Heap} {a:fP} {dV:aC}
end
section
variable {P:bZ} {w:World} {K:Fg} {mg:Str->Option aC} {base:Heap} {a:fP} {dV:aC}
theorem X3 {l:aB} {xs:List V} {g:TG} {tb:TS} {D:Ends} {σ:St} {H:Hp} (Pv:Nat->St->Hp->Prop) (h0:Pv 0 σ H) (hl:∀ i σ H,i<=xs.length->Pv i σ H->cW K H l xs) (hs:∀ i x σ H,i < xs.length->xs[xs.length - 1 - i]?=some x->Pv i σ H->g x σ H fun σ2 H2=>tb { D with nx:=Pv (i + 1),ct:=Pv (i + 1),bk:=D.nx } σ2 H2) (hd:∀ σ H,Pv xs.length σ H->D.nx σ H) : ∃ W:Nat->Nat->St->Hp->Prop,(∃ k,W 0 k σ H)/\∀ i k σ H,W i k σ H -> ((Itv K l xs.length).stop i H/\D.nx σ H)\/((Itv K l xs.length).go i H/\∃ N:St->Hp->Prop,(∀ σ' H',N σ' H'->∃ k',k' < k/\W (i + 1) k' σ' H')/\∀ x H',(Itv K l xs.length).Qa i H x H'->g x σ H' fun σ2 H2=>tb { D with nx:=N,ct:=N,bk:=D.nx } σ2 H2):=by
 refine ⟨fun i k σ H=>k=xs.length - i/\i<=xs.length/\Pv i σ H,⟨xs.length,by simp,cU _,h0⟩,?_⟩;rintro i k σ H ⟨rfl,hi,p⟩;have sq:=hl i σ H hi p
 by_cases lt:i < xs.length
 ·refine .inr ⟨⟨lt,xs,sq,rfl⟩,Pv (i + 1),fun σ' H' p'=>⟨xs.length - (i + 1),by omega,rfl,lt,p'⟩,fun x H' y=>?_⟩;obtain ⟨rfl,y⟩:=y;exact hs i x σ H' lt (y xs sq) p
 ·have e:i=xs.length:=by omega
  subst e;exact .inl ⟨rfl,hd σ H p⟩
def stOf (gs:List Int) (n:Int):Int × List Int:=gs.foldr (fun g r=>(r.1 / g,r.1 % g::r.2)) (n,[])
def dZ (ps:List bB):List Int:=ps.map bB.gap
theorem GF (gs:List Int) (n:Int):(stOf gs n).2.length=gs.length:=by
 induction gs with
 | nil=>rfl
 | cons g gs ih=>show ((stOf gs n).2.length + 1)=gs.length + 1; rw [ih]
theorem GJ {n:Int}:∀ (ps:List bB),numOf (stOf (dZ ps) n).1 ps (stOf (dZ ps) n).2=n
 | []=>rfl
 | p::ps=>by
  have ih:=GJ (n:=n) ps
  show numOf ((stOf (dZ ps) n).1 / p.gap * p.gap + (stOf (dZ ps) n).1 % p.gap) ps (stOf (dZ ps) n).2=n
  rw [Int.mul_comm,Int.mul_ediv_add_emod];exact ih
theorem GK {n:Int} (h0:0<=n):∀ (ps:List bB) (wk:Int),(∀ p ∈ ps,1<=p.gap)->n < sizeOf wk ps->0<=(stOf (dZ ps) n).1/\(stOf (dZ ps) n).1 < wk
 | [],wk,_,h=>⟨h0,h⟩
 | p::ps,wk,hg,h=>by
  have hp:=hg p (by simp);obtain ⟨i0,i1⟩:=GK h0 ps (wk * p.gap) (fun q hq=>hg q (by simp [hq])) h
  show 0<=(stOf (dZ ps) n).1 / p.gap/\(stOf (dZ ps) n).1 / p.gap < wk
  exact ⟨Int.ediv_nonneg i0 (by omega),Int.ediv_lt_of_lt_mul (by omega) i1⟩
theorem Mg {n:Int}:∀ {ps:List bB} {i:Nat} {y:Int} {p:bB},(∀ p ∈ ps,1<=p.gap)->(stOf (dZ ps) n).2[i]?=some y->ps[i]?=some p->0<=y/\y < p.gap
 | [],_,_,_,_,_,h=>by simp at h
 | q::ps,0,y,p,hg,h1,h2=>by
  have hq:=hg q (by simp);cases h2;have e:some ((stOf (dZ ps) n).1 % q.gap)=some y:=h1;cases e;exact ⟨Int.emod_nonneg _ (by omega),Int.emod_lt_of_pos _ (by omega)⟩
 | q::ps,i + 1,y,p,hg,h1,h2=>Mg (fun r hr=>hg r (by simp [hr])) (show (stOf (dZ ps) n).2[i]?=some y from h1) (by simpa using h2)
theorem X4 {n wk:Int} {ps:List bB} (iJ:∀ p ∈ ps,p.Ok) (h0:0<=n) (h1:n < sizeOf wk ps):m9 wk ps (stOf (dZ ps) n).1 (stOf (dZ ps) n).2:=by
 have hg:∀ p ∈ ps,1<=p.gap:=fun p hp=>(iJ p hp).gap.1
 obtain ⟨d0,d1⟩:=GK h0 ps wk hg h1;exact ⟨d0,d1,by rw [GF,dZ,au],fun i y p hy hp=>Mg hg hy hp⟩
noncomputable def aoq (K:Fg) (a:fP):Sp:=fun vs H Q E=>∃ x g v kv,vs=[.ref x,v]/\eZ a H x g/\(∀ p ∈ g.pots,p.Ok)/\g.pots.length<=8/\fK K H v kv/\(bV v 0 (sizeOf g.week g.pots - 1)=false->∀ H',Same H H'->E (.ref a.gW) none H') /\ (bV v 0 (sizeOf g.week g.pots - 1)=true->∀ n H' t,v=.int n->Same H H'->qC H' (.ref t) (stOf (dZ g.pots) n).1 (stOf (dZ g.pots) n).2->Q (.ref t) H')
theorem GP:bM ["self","number","left","since","pot"] ["self","number"] (aW SJ):=dI (by decide +kernel)
theorem OJ {α:Type} {xs:List α} {i:Nat} (h:i < xs.length):xs.drop (xs.length - (i + 1))=xs[xs.length - 1 - i]::xs.drop (xs.length - i):=by
 have e:xs.length - (i + 1)=xs.length - 1 - i:=by omega
 rw [e,List.drop_eq_getElem_cons (by omega)]
 congr 1
 congr 1
 omega
theorem agY (S:JB K mg a dV):bT P w K mg base (d9 P w) 2 a.Dn a.an9 ["self","number"] (aoq K a):=by
 refine S.sta.F.jU GP (fun vs H Q E h=>?_) (fun cdv A outer s H vs Q E hr h=>?_)
 ·obtain ⟨x,g,v,kv,rfl,_⟩:=h;rfl
 ·obtain ⟨x,g,v,kv,rfl,⟨dx,l,as,hx,hl,pt⟩,iJ,h8,hv,bad,good⟩:=h;have Z:=S.Z;have T:=Z.G.T;refine ⟨_,aJ (eE (gq (fW (cH T.ZV hr T.ZS T.wh.F.kp T.wh.b bf (ak (pv 1) (ak aR (ak (bI uD (rZ (pv 0) Z.tG.cl Z.R9 (Dr Z) hr Z.size.b .nil bf) aR) aK)))))) (aU (gj bQ rfl (by rfl) S.XJ.m S.XJ.q PySem.F.excBase_ValueError (ak ig aK))) cA) (aJ (bF (i:=2) GP.nd rfl (Or.inl rfl) (pv 1)) (aJ (bF (i:=3) GP.nd rfl (Or.inl rfl) (iG aK)) (aJ (iw dY rfl (ago (by rfl) T.B.reversed (ak (cJ (pv 0) rfl) aK)) (cL 4 GP.nd) (aJ (iu (vV PySem.F.plainAttrs_list PySem.F.slot_list_append PySem.F.type_list_append iU (pv 3) (ak (bI fU (pv 2) (cJ (pv 4) rfl)) aK))) (aU (bF (i:=2) GP.nd rfl (Or.inl rfl) (bI gH (pv 2) (cJ (pv 4) rfl)))))) (aU (bU (eX (ak (pv 2) (ak (N8 rfl T.B.tuple T.B.reversed (ak (pv 3) aK)) aK)))))))),?_⟩;have la:as.length=g.pots.length:=Paired.length pt;have hL:cW K H l (as.map V.ref):=cW.of hl;refine ⟨_,rfl,_,rfl,x,dx,_,rfl,hx,Jw _ _ _ _ (by decide +kernel) (by decide +kernel) (by decide +kernel) (by decide +kernel),x,dx,l,as,g.pots,_,g.week,_,rfl,hx,hL,pt,iJ,_,_,rfl,rfl,v,0,_,kv,rfl,hv,_,rfl,?_⟩;cases ew:bV v 0 (sizeOf g.week g.pots - 1) with
  | false=>exact dN ⟨by show 1<=sizeLine; decide,bad ew H (Same.refl _)⟩
  | true =>
   obtain ⟨n,rfl,n0,n1⟩:=g8 ew;refine dU ⟨_,rfl,by show 0<=sizeLine; decide,fun m hm=>?_⟩;have sm:=aX (o:=.lst []) hm;refine ⟨_,rfl,x,a.garden,dx,_,_,rfl,sm _ _ hx,Z.tG.cl,Z.nG _ (by simp),iH ..,l,_,rfl,sm.seq hL,?_⟩;have nml:l≠m:=cV hl hm;refine X3 (K:=K) (l:=l) (xs:=as.map V.ref) (fun i σ H'=>∃ y,σ=[some (.ref x),some (.int n),some (.int (stOf (dZ (g.pots.drop (g.pots.length - i))) n).1),some (.ref m),y]/\H' m=some (.lst ((stOf (dZ (g.pots.drop (g.pots.length - i))) n).2.reverse.map V.int))/\Same H H') ⟨none,by rw [Nat.sub_zero,List.drop_length]; rfl,by rw [Nat.sub_zero,List.drop_length]; exact aG,sm⟩ (fun i σ H' _ ⟨_,_,_,s'⟩=>s'.seq hL) ?_ ?_
   ·rintro i y σ H1 lt hy ⟨u,rfl,hm1,s1⟩;rw [au] at lt hy;rw [aF] at hy;obtain ⟨b,hb,rfl⟩:=bA.mp hy;obtain ⟨p,hp,pb⟩:=cD pt hb;obtain ⟨dy,hb'⟩:=pb.same s1;have wR:=iJ p (aH hp);have cT:=T.cls p.gY;have lt':i < g.pots.length:=by omega
    have ed:=OJ lt';have ep:g.pots[g.pots.length - 1 - i]=p:=by
     rw [la,aA (by omega)] at hp;exact bN hp
    rw [ep] at ed;have e1:stOf (dZ (g.pots.drop (g.pots.length - (i + 1)))) n=((stOf (dZ (g.pots.drop (g.pots.length - i))) n).1 / p.gap,(stOf (dZ (g.pots.drop (g.pots.length - i))) n).1 % p.gap::(stOf (dZ (g.pots.drop (g.pots.length - i))) n).2):=by
     rw [ed]; rfl
    have lz:((stOf (dZ (g.pots.drop (g.pots.length - i))) n).2.reverse.map V.int).length < sizeLine:=by
     rw [au,List.length_reverse,GF,dZ,au,length_drop];exact Nat.lt_of_le_of_lt (by omega:_<=8) (by decide)
    refine ⟨_,rfl,.inl ⟨rfl,_,cW.of hm1⟩,_,rfl,_,rfl,b,p.cls a,dy,_,_,rfl,hb',cT.1.cl,cT.2 _ (by simp),p.oN,_,_,rfl,rfl,by have:=wR.gap; omega,m,_,_,rfl,rfl,hm1,lz,?_⟩;have hb2:upd H1 m (.lst ((stOf (dZ (g.pots.drop (g.pots.length - i))) n).2.reverse.map V.int++[V.int ((stOf (dZ (g.pots.drop (g.pots.length - i))) n).1 % p.gap)])) b=some (.ins (p.cls a) dy p.fs):=by
     rw [bw (vR hb' hm1 (by intro z; cases z))]; exact hb'
    refine ⟨_,rfl,_,rfl,b,p.cls a,dy,_,_,rfl,hb2,cT.1.cl,cT.2 _ (by simp),p.oN,_,_,rfl,rfl,⟨by have:=wR.gap; omega,by have:=wR.gap; omega⟩,?_⟩;refine ⟨some (.ref b),?_,?_,m8 s1 hm⟩
    ·rw [e1]; rfl
    ·rw [aG,e1,List.reverse_cons,aY]; rfl
   ·rintro σ H1 ⟨y,rfl,hm1,s1⟩;rw [au,la,Nat.sub_self,List.drop_zero] at hm1 ⊢;refine ⟨_,rfl,_,rfl,m,_,rfl,cW.of hm1,fun t ht=>⟨by show 2<=sizeLine; decide,fun u hu=>?_⟩⟩;have nut:t≠u:=cV aG hu;refine good ew n _ u rfl ((s1.trans (aX ht)).trans (aX hu)) ⟨u,t,rfl,aG,?_⟩;rw [bw nut,aG,<- List.map_reverse,List.reverse_reverse]
end
abbrev JD:cX:=inClass (top 28) 4
section
variable {P:bZ} {w:World} {K:Fg} {mg:Str->Option aC} {base:Heap} {a:fP} {dV:aC}
def Z0 (a:fP):Sp:=fun vs H Q _=>∃ x g,vs=[.ref x]/\eZ a H x g/\g.pots.length<=8/\∀ H' t,Same H H'->qC H' (.ref t) 0 (List.replicate g.pots.length 0)->Q (.ref t) H'
theorem aor:bM ["self"] ["self"] (aW JD):=dI (by decide +kernel)
theorem O1 {α:Type} (y:α) (n:Nat):(List.range n).map (fun _=>y)=List.replicate n y:=by
 induction n with
 | zero=>rfl
 | succ n ih=>rw [cN,aY,ih,List.replicate_succ']; rfl
theorem agZ (Z:zX K mg a dV) {f:aB} {fd:d7} (F:lB K "fresh" "Garden.fresh" JD f fd):bT P w K mg base (d9 P w) 1 f fd ["self"] (Z0 a):=by
 refine F.jU aor (fun vs H Q E h=>?_) (fun cdv A outer s H vs Q E hr h=>?_)
 ·obtain ⟨x,g,rfl,_⟩:=h;rfl
 ·obtain ⟨x,g,rfl,⟨dx,l,as,hx,hl,pt⟩,h8,q⟩:=h;have T:=Z.G.T;refine ⟨_,aU (bU (eX (ak aR (ak (Gu zO T.B.tuple PyProof.Rows.boot_tuple (ak (iC bQ rfl ⟨_,_,rfl,rfl,rfl⟩ (gR.plain (N':=["pot"]) rfl (by decide +kernel) (by decide +kernel)) (fu (cJ (pv 0) rfl)) (fun _ _ _ _ _=>cL 0 (show [("pot":Str)].Nodup by decide +kernel)) (fun _ _ _ _ _=>gJ) (fun _ _ _ _ _ _=>aR)) aK)) aK)))),?_⟩;have la:as.length=g.pots.length:=Paired.length pt;have hL:cW K H l (as.map V.ref):=cW.of hl;refine ⟨_,rfl,x,a.garden,dx,_,_,rfl,hx,Z.tG.cl,Z.nG _ (by simp),iH ..,l,rfl,⟨_,hL⟩,fun D hD=>?_⟩;refine wL as.length (bH (by omega:as.length<=8) (by decide)) (fun _=>.int 0) (fun i H'=>H'=upd H D (.lst ((List.range i).map fun _=>V.int 0))) rfl (fun i H' _ e=>by rw [e,aG]) (fun H' e=>⟨?_,?_⟩) (fun i H' lt e=>⟨?_,?_⟩)
  ·subst e;exact ⟨_,(aX hD).seq hL,by rw [au]; exact aM _⟩
  ·subst e;have sD:=aX (o:=.lst ((List.range as.length).map fun _=>V.int 0)) hD;refine ⟨D,_,rfl,.inl ⟨cW.of aG,fun t ht=>⟨by show 2<=sizeLine; decide,fun u hu=>?_⟩⟩⟩;have nut:t≠u:=cV aG hu;refine q _ u ((sD.trans (aX ht)).trans (aX hu)) ⟨u,t,rfl,aG,?_⟩;rw [bw nut,aG,O1,la,List.map_replicate]
  ·subst e;have sD:=aX (o:=.lst ((List.range i).map fun _=>V.int 0)) hD;exact ⟨_,_,sD.seq hL,by rw [aF,aA lt]; rfl⟩
  ·rintro y Eh ⟨rfl,_⟩ Qc k;subst e;exact ⟨fH,k _ aG (by rw [lK])⟩
end
abbrev yC:cX:=top 3
abbrev qw:cX:=top 33
abbrev GQ:cX:=top 34
abbrev tZ:cX:=inClass (top 16) 1
abbrev uc:cX:=inClass (top 17) 1
abbrev O2:cX:=top 35
abbrev O3:cX:=top 36
abbrev nj:cX:=top 37
structure yD (K:Fg) (mg:Str->Option aC) (a:fP) (dV:aC):Prop where
 S:JB K mg a dV
 ays:∃ f fd,Fn K "is_set" "is_set" yC ["number","bit"] f fd/\mg "is_set"=some (.ref f)
 con:∃ f fd,Fn K "cans_on" "cans_on" qw ["garden","day"] f fd/\mg "cans_on"=some (.ref f)
 ayt:∃ f fd,Fn K "day_behind" "day_behind" GQ ["garden","day"] f fd/\mg "day_behind"=some (.ref f)
 ayu:∃ f fd,Fn K "may" "Pot.may" tZ ["self","since"] f fd/\Meth K a.pot "may" f
 ayv:∃ f fd,Fn K "may" "Cactus.may" uc ["self","since"] f fd/\Meth K a.bJ "may" f
 wow:∃ f fd,Fn K "without_water" "without_water" O2 ["parts","pot","since"] f fd/\mg "without_water"=some (.ref f)
 wiw:∃ f fd,Fn K "with_water" "with_water" O3 ["parts","pot","since","bit"] f fd/\mg "with_water"=some (.ref f)
 cho:∃ f fd,Fn K "choices" "choices" nj ["garden","state"] f fd/\mg "choices"=some (.ref f)
section
variable {P:bZ} {w:World} {K:Fg} {mg:Str->Option aC} {base:Heap} {a:fP} {dV:aC}
def Mh:Sp:=fun vs H Q _=>∃ n b:Int,vs=[.int n,.int b]/\0<=b/\Q (.bl (lY n b)) H
theorem X5:bM ["number","bit"] ["number","bit"] (aW yC):=dI (by decide +kernel)
theorem ag0 {i j:Int}:decide (V.int i=V.int j)=decide (i=j):=by
 by_cases h:i=j
 ·rw [aO h,aO (by rw [h])]
 ·rw [aP h,aP (fun z=>h (by injection z))]
theorem SQ {f:aB} {fd:d7} (F:lB K "is_set" "is_set" yC f fd):bT P w K mg base (d9 P w) 1 f fd ["number","bit"] Mh:=by
 refine F.jU X5 (fun vs H Q E h=>?_) (fun cdv A outer s H vs Q E hr h=>?_)
 ·obtain ⟨n,b,rfl,_⟩:=h;rfl
 ·obtain ⟨n,b,rfl,b0,q⟩:=h;refine ⟨_,aU (bU (qd oK (bI Qi (bI Qh (pv 0) (pv 1)) aR) aR (dH _))),?_⟩;refine ⟨_,rfl,_,rfl,_,_,rfl,rfl,b0,_,_,rfl,rfl,rfl,?_⟩;rw [ag0];exact q
def yE (a:fP):Sp:=fun vs H Q _=>∃ x g d,vs=[.ref x,.int d]/\eZ a H x g/\0<=d/\Q (.int (if lY g.closed d then 0 else g.cans)) H
theorem SX:bM ["garden","day"] ["garden","day"] (aW qw):=dI (by decide +kernel)
theorem Bm {f:aB} {fd:d7} (F:lB K "cans_on" "cans_on" qw f fd) (W:yD K mg a dV):bT P w K mg base (d9 P w) 2 f fd ["garden","day"] (yE a):=by
 refine F.jU SX (fun vs H Q E h=>?_) (fun cdv A outer s H vs Q E hr h=>?_)
 ·obtain ⟨x,g,d,rfl,_⟩:=h;rfl
 ·obtain ⟨x,g,d,rfl,⟨dx,l,as,hx,hl,pt⟩,d0,q⟩:=h;have Z:=W.S.Z;obtain ⟨fi,di,iF,mI⟩:=W.ays;have oki:bT P w K mg base (d9 P w) 1 fi di ["number","bit"] Mh:=SQ iF.F;refine ⟨_,aU (bU (xr (fW (cH oki hr mI iF.F.kp iF.b bf (ak (cJ (pv 0) rfl) (ak (pv 1) aK)))) aR (cJ (pv 0) rfl))),?_⟩;refine ⟨_,rfl,x,a.garden,dx,_,_,rfl,hx,Z.tG.cl,Z.nG _ (by simp),tX ..,_,rfl,_,_,rfl,d0,_,rfl,?_⟩;cases e:lY g.closed d with
  | true=>rw [e] at q; exact dN q
  | false=>rw [e] at q; exact dU ⟨_,rfl,x,a.garden,dx,_,_,rfl,hx,Z.tG.cl,Z.nG _ (by simp),Jv ..,q⟩
def S5 (a:fP):Sp:=fun vs H Q _=>∃ x g d,vs=[.ref x,.int d]/\eZ a H x g/\0 < g.week/\Q (.int ((d + 1) % g.week)) H
theorem ag1:bM ["garden","day"] ["garden","day"] (aW GQ):=dI (by decide +kernel)
theorem X6 {f:aB} {fd:d7} (F:lB K "day_behind" "day_behind" GQ f fd) (W:yD K mg a dV):bT P w K mg base (d9 P w) 1 f fd ["garden","day"] (S5 a):=by
 refine F.jU ag1 (fun vs H Q E h=>?_) (fun cdv A outer s H vs Q E hr h=>?_)
 ·obtain ⟨x,g,d,rfl,_⟩:=h;rfl
 ·obtain ⟨x,g,d,rfl,⟨dx,l,as,hx,hl,pt⟩,w0,q⟩:=h;have Z:=W.S.Z;refine ⟨_,aU (bU (bI fU (bI eO (pv 1) aR) (cJ (pv 0) rfl))),?_⟩;exact ⟨_,rfl,_,_,rfl,rfl,_,rfl,x,a.garden,dx,_,_,rfl,hx,Z.tG.cl,Z.nG _ (by simp),jK ..,_,_,rfl,rfl,w0,q⟩
def JF (p:bB) (s:Int):Bool:=match p.rest with
 | none=>true
 | some r=>decide (r<=s)
def Mi (a:fP) (C:aB):Sp:=fun vs H Q _=>∃ x p s,vs=[.ref x,.int s]/\p.cls a=C/\jl a H x p/\Q (.bl (JF p s)) H
theorem ayx:bM ["self","since"] ["self","since"] (aW tZ):=dI (by decide +kernel)
theorem ayy:bM ["self","since"] ["self","since"] (aW uc):=dI (by decide +kernel)
theorem O4 {f:aB} {fd:d7} (F:lB K "may" "Pot.may" tZ f fd) (T:jY K mg a):bT P w K mg base (d9 P w) 1 f fd ["self","since"] (Mi a a.pot):=by
 refine F.jU ayx (fun vs H Q E h=>?_) (fun cdv A outer s H vs Q E hr h=>?_)
 ·obtain ⟨x,p,n,rfl,_⟩:=h;rfl
 ·obtain ⟨x,p,n,rfl,hc,px,q⟩:=h;refine ⟨_,aU (bU lM),?_⟩;have e:JF p n=true:=by
   unfold JF;cases e:p.rest with
   | none=>rfl
   | some r=>rw [bB.cls,e] at hc; exact absurd hc.symm T.ne
  rw [e] at q;exact q
theorem O5 {f:aB} {fd:d7} (F:lB K "may" "Cactus.may" uc f fd) (T:jY K mg a):bT P w K mg base (d9 P w) 1 f fd ["self","since"] (Mi a a.bJ):=by
 refine F.jU ayy (fun vs H Q E h=>?_) (fun cdv A outer s H vs Q E hr h=>?_)
 ·obtain ⟨x,p,n,rfl,_⟩:=h;rfl
 ·obtain ⟨x,p,n,rfl,hc,⟨dx,hx⟩,q⟩:=h;refine ⟨_,aU (bU (qd ank (pv 1) (cJ (pv 0) rfl) (dH _))),?_⟩;obtain ⟨r,er⟩:∃ r,p.rest=some r:=by
   cases e:p.rest with
   | none=>rw [bB.cls,e] at hc; exact absurd hc T.ne
   | some r=>exact ⟨r,rfl⟩
  have lr:p.fs.lookup ("rest":Str)=some (.int r):=by simp only [bB.fs,er]; exact wQ _ _ _
  rw [hc] at hx;have e:JF p n=decide (r<=n):=by unfold JF; rw [er]
  rw [e] at q;exact ⟨_,rfl,_,rfl,x,a.bJ,dx,_,_,rfl,hx,T.tC.cl,T.nC _ (by simp),lr,_,_,rfl,rfl,q⟩
theorem yD.may (W:yD K mg a dV):∀ C,(C=a.pot\/C=a.bJ)->∃ f fd,Cls K C/\Meth K C "may" f/\bT P w K mg base (d9 P w) 1 f fd ["self","since"] (Mi a C)/\Binds K fd ["self","since"] []:=by
 intro C h;have T:=W.S.Z.G.T;rcases h with rfl | rfl
 ·obtain ⟨f,fd,F,m⟩:=W.ayu;exact ⟨f,fd,T.tP.cl,m,O4 F.F T,F.b⟩
 ·obtain ⟨f,fd,F,m⟩:=W.ayv;exact ⟨f,fd,T.tC.cl,m,O5 F.F T,F.b⟩
end
abbrev yF:Rep (Int × Int × List Int):=FN pA pA (FJ pA)
theorem iK:xU yF:=FP iM iM (xV iM)
section
variable {P:bZ} {w:World} {K:Fg} {mg:Str->Option aC} {base:Heap} {a:fP} {dV:aC}
def yG (p:bB):Int:=match p.rest with
 | none=>-1
 | some r=>r
def zZ (p:bB) (s:Int):Cp:=⟨s,p.gap,yG p⟩
theorem oh {r:St} {x y z:Option V}:qG (none::none::none::r) ((((none::none::none::r).set 0 x).set 1 y).set 2 z):=by
 intro j v h
 match j,h with
 | 0,h=>simp at h
 | 1,h=>simp at h
 | 2,h=>simp at h
 | j + 3,h=>exact h
theorem ints_snoc {H H':Hp} {vs:List V} {b:List Int} (p:Paired (pA H) vs b) (n:Int):Paired (pA H') (vs++[.int n]) (b++[n]):=Paired.snoc (Paired.jd p fun _ _ z=>z) rfl
noncomputable def Z4 (a:fP):Sp:=fun vs H Q _=>∃ l parts x p s,vs=[.ref l,.ref x,.int s]/\jH yF H (.ref l) parts/\parts.length<=1000/\(∀ q ∈ parts,q.2.2.length<=100)/\jl a H x p/\∀ H' l',Same H H'->jH yF H' (.ref l') (Rf (zZ p s) parts)->Q (.ref l') H'
theorem aos:bM ["parts","pot","since"] ["parts","pot","since"] (aW O2):=dI (by decide +kernel)
theorem ag2 {f:aB} {fd:d7} (F:lB K "without_water" "without_water" O2 f fd) (W:yD K mg a dV):bT P w K mg base (d9 P w) 1 f fd ["parts","pot","since"] (Z4 a):=by
 refine F.jU aos (fun vs H Q E h=>?_) (fun cdv A outer s H vs Q E hr h=>?_)
 ·obtain ⟨l,parts,x,p,n,rfl,_⟩:=h;rfl
 ·obtain ⟨l,parts,x,p,n,rfl,hl,lz,lb,⟨dx,hx⟩,q⟩:=h;have T:=W.S.Z.G.T;have JG:[("choice":Str),"cans","behind","since"].Nodup:=by decide +kernel
  refine ⟨_,aJ (eE (c7 oK (bI eO (pv 2) aR) (cJ (pv 1) rfl) (dH _)) (aU (bU (iG aK))) cA) (aU (bU (iC bQ rfl ⟨_,_,rfl,rfl,rfl⟩ (jz (N':=["choice","cans","behind","since"]) (cl:=[("since",s.heap.objs.size + 1)]) [none,none,none,some 2] ["parts","pot","since"] (aW O2).names [(".0",.local),("choice",.local),("cans",.local),("behind",.local),("since",.cell)] ["since"] rfl (by decide +kernel) (by decide +kernel) rfl (fun p hp=>by rw [aL.mp hp]; rfl) rfl rfl rfl rfl (by decide +kernel) rfl (by decide +kernel)) (fu (pv 0)) (fun _ _ _ _ _=>yu K (n:=3) rfl (bY (cL 0 JG) (bY (cL 1 JG) (bY (cL 2 JG) gQ)))) (fun _ _ _ _ _=>gJ) (fun _ _ _ _ _ _=>eX (ak (pv 0) (ak (pv 1) (ak (bI Ln (pv 2) (eX (ak (bI eO (pv 3) aR) aK))) aK))))))),?_⟩;have cT:=T.cls p.gY;have big:1000<=sizeLine:=by decide
  refine ⟨_,rfl,_,_,rfl,rfl,_,rfl,x,p.cls a,dx,_,_,rfl,hx,cT.1.cl,cT.2 _ (by simp),p.oN,rfl,_,rfl,?_⟩
  by_cases z:n + 1=p.gap
  ·refine eqT z ⟨by show 0<=sizeLine; decide,fun l' hl'=>q _ l' (aX hl') ?_⟩;have e:Rf (zZ p n) parts=[]:=if_pos z;rw [e];exact ⟨l',[],rfl,aG,.nil⟩
  ·have e:Rf (zZ p n) parts=parts.map fun q=>(q.1,q.2.1,q.2.2++[n + 1]):=if_neg z
   obtain ⟨l0,vs,el,hv,pv0⟩:=id hl;cases el;refine eqF z ⟨_,rfl,l,rfl,⟨_,cW.of hv⟩,fun D hD=>pB iK iK (fun q=>(q.1,q.2.1,q.2.2++[n + 1])) hl (by omega) hD ?_ (fun H' s' r=>q H' D s' (by rw [e]; exact r))⟩;rintro i c v H2 hc ⟨t,u1,u2,u3,rfl,ht,r1,r2,tb,bs,r3,hb,pb⟩ s2 Qc k;cases r1;cases r2;subst r3;have lc:=lb c (aH hc);refine ⟨t,_,rfl,d8.of ht,rfl,_,_,rfl,_,_,rfl,_,_,rfl,rfl,oh,_,rfl,_,rfl,_,rfl,_,rfl,_,_,rfl,rfl,by show 1<=sizeLine; decide,fun t1 h1=>?_⟩;have v1:=aX (o:=.tup [V.int (n + 1)]) h1;refine ⟨tb,t1,bs,_,rfl,rfl,v1 _ _ hb,aG,by rw [Paired.length pb]; show c.2.2.length + 1<=sizeLine; omega,fun p2 H3 s3 hp2=>⟨by show 3<=sizeLine; decide,fun t2 h2=>?_⟩⟩;have v2:=aX (o:=.tup [V.int c.1,.int c.2.1,.ref p2]) h2;exact k _ _ ((v1.trans s3).trans v2) ⟨t2,_,_,_,rfl,aG,rfl,rfl,p2,_,rfl,v2 _ _ hp2,ints_snoc pb (n + 1)⟩
theorem S6 {p:bB} {s:Int} (h:0<=s):JF p s=decide (yG p<=s):=by
 unfold JF yG;cases p.rest with
 | none=>exact (aO (show (-1:Int)<=s by omega)).symm
 | some r=>rfl
noncomputable def Z5 (a:fP):Sp:=fun vs H Q _=>∃ l parts x p s bit,vs=[.ref l,.ref x,.int s,.int bit]/\jH yF H (.ref l) parts/\parts.length<=1000/\(∀ q ∈ parts,q.2.2.length<=100)/\jl a H x p/\0<=s/\∀ H' l',Same H H'->jH yF H' (.ref l') (Rg (zZ p s) bit parts)->Q (.ref l') H'
theorem aot:bM ["parts","pot","since","bit"] ["parts","pot","since","bit"] (aW O3):=dI (by decide +kernel)
theorem ag3 {f:aB} {fd:d7} (F:lB K "with_water" "with_water" O3 f fd) (W:yD K mg a dV):bT P w K mg base (d9 P w) 2 f fd ["parts","pot","since","bit"] (Z5 a):=by
 refine F.jU aot (fun vs H Q E h=>?_) (fun cdv A outer s H vs Q E hr h=>?_)
 ·obtain ⟨l,parts,x,p,n,bit,rfl,_⟩:=h;rfl
 ·obtain ⟨l,parts,x,p,n,bit,rfl,hl,lz,lb,⟨dx,hx⟩,n0,q⟩:=h;have T:=W.S.Z.G.T;have JG:[("choice":Str),"cans","behind","bit"].Nodup:=by decide +kernel
  refine ⟨_,aJ (eE (gq (fW (Fy (Cs:=fun C=>C=a.pot\/C=a.bJ) (sp:=Mi a) (pv 1) hr W.may bf (ak (pv 2) aK)))) (aU (bU (iG aK))) cA) (aU (bU (iC bQ rfl ⟨_,_,rfl,rfl,rfl⟩ (jz (N':=["choice","cans","behind","bit"]) (cl:=[("bit",s.heap.objs.size + 1)]) [none,none,none,some 3] ["parts","pot","since","bit"] (aW O3).names [(".0",.local),("choice",.local),("cans",.local),("behind",.local),("bit",.cell)] ["bit"] rfl (by decide +kernel) (by decide +kernel) rfl (fun p hp=>by rw [aL.mp hp]; rfl) rfl rfl rfl rfl (by decide +kernel) rfl (by decide +kernel)) (fu (pv 0)) (fun _ _ _ _ _=>yu K (n:=3) rfl (bY (cL 0 JG) (bY (cL 1 JG) (bY (cL 2 JG) gQ)))) (fun _ _ _ _ _=>K8 (c7 Eo (pv 1) aR (dH _))) (fun _ _ _ _ _ _=>eX (ak (bI eO (pv 0) (pv 3)) (ak (bI uD (pv 1) aR) (ak (bI Ln (pv 2) (eX (jD [.int 0] rfl))) aK))))))),?_⟩;have big:1000<=sizeLine:=by decide
  refine ⟨_,rfl,x,p.cls a,dx,_,rfl,hx,p.gY,p.Xz (by decide +kernel) (by decide +kernel) (by decide +kernel),_,rfl,x,p,n,rfl,rfl,⟨dx,hx⟩,_,rfl,?_⟩;rw [S6 n0]
  by_cases z:yG p<=n
  ·rw [aO z];have e:Rg (zZ p n) bit parts=(parts.filter fun q=>decide (0 < q.2.1)).map fun q=>(q.1 + bit,q.2.1 - 1,q.2.2++[0]):=if_pos z
   obtain ⟨l0,vs,el,hv,pv0⟩:=id hl;cases el;refine dU ⟨_,rfl,l,rfl,⟨_,cW.of hv⟩,fun D hD=>Ja iK iK (fun q=>decide (0 < q.2.1)) (fun q=>(q.1 + bit,q.2.1 - 1,q.2.2++[0])) hl (by omega) hD ?_ (fun H' s' r=>q H' D s' (by rw [e]; exact r))⟩;rintro i c v H2 hc ⟨t,u1,u2,u3,rfl,ht,r1,r2,tb,bs,r3,hb,pb⟩ s2 Qc Qn k kn;cases r1;cases r2;subst r3;have lc:=lb c (aH hc);refine ⟨t,_,rfl,d8.of ht,rfl,_,_,rfl,_,_,rfl,_,_,rfl,rfl,oh,_,rfl,_,_,rfl,rfl,_,rfl,?_⟩
   by_cases z2:0 < c.2.1
   ·rw [aO z2];refine dN ⟨_,rfl,_,rfl,_,_,rfl,rfl,_,rfl,_,_,rfl,rfl,_,rfl,by show 1<=sizeLine; decide,fun t1 h1=>?_⟩;have v1:=aX (o:=.tup [V.int 0]) h1;refine ⟨tb,t1,bs,_,rfl,rfl,v1 _ _ hb,aG,by rw [Paired.length pb]; show c.2.2.length + 1<=sizeLine; omega,fun p2 H3 s3 hp2=>⟨by show 3<=sizeLine; decide,fun t2 h2=>?_⟩⟩;have v2:=aX (o:=.tup [V.int (c.1 + bit),.int (c.2.1 - 1),.ref p2]) h2;exact k (aO z2) _ _ ((v1.trans s3).trans v2) ⟨t2,_,_,_,rfl,aG,rfl,rfl,p2,_,rfl,v2 _ _ hp2,ints_snoc pb 0⟩
   ·rw [aP z2];exact dU (kn (aP z2) _ (Same.refl _))
  ·rw [aP z];have e:Rg (zZ p n) bit parts=[]:=if_neg z;refine dN ⟨by show 0<=sizeLine; decide,fun l' hl'=>q _ l' (aX hl') ?_⟩;rw [e];exact ⟨l',[],rfl,aG,.nil⟩
end
abbrev Dv:Rep (Int × List Int):=Rc pA (FJ pA)
abbrev X7:Rep (Int × Int × List Int):=Rc pA Dv
theorem Dw:xU X7:=xW iM (xW iM (xV iM))
theorem O6:xU Dv:=xW iM (xV iM)
section
variable {P:bZ} {w:World} {K:Fg} {mg:Str->Option aC} {base:Heap} {a:fP} {dV:aC}
def cpsOf (ps:List bB) (ds:List Int):List Cp:=(ps.zip ds).map fun q=>zZ q.1 q.2
theorem uP {ps:List bB} {ds:List Int} {i:Nat} {p:bB} {n:Int} (hp:ps[i]?=some p) (hn:ds[i]?=some n):(cpsOf ps ds)[i]?=some (zZ p n):=by
 have:(ps.zip ds)[i]?=some (p,n):=by rw [List.getElem?_zip_eq_some]; exact ⟨hp,hn⟩
 unfold cpsOf;rw [aF,this];rfl
theorem ud {ps:List bB} {ds:List Int} (h:ds.length=ps.length):(cpsOf ps ds).length=ps.length:=by
 unfold cpsOf;rw [au,length_zip];omega
theorem qx (cans:Int) (l:List Cp) (i:Nat):(gU cans l i).length<=2 ^ i:=by
 unfold gU;exact bH (List.length_filterMap_le _ _) (by rw [qj]; omega)
theorem O7 {cans:Int} {l:List Cp} {i:Nat} {q:Int × Int × List Int} (h:q ∈ gU cans l i):q.2.2.length<=i:=by
 unfold gU at h;obtain ⟨m,hm,e⟩:=mem_filterMap.mp h;have hl:=iV hm;unfold pC at e
 split at e
 ·cases e;unfold lG;rw [au,length_zip];omega
 ·cases e
theorem rB {α β:Type} {R:α->β->Prop}:∀ {xs:List α} {ys:List β} {us:List α} {ws:List β},Paired R xs ys->Paired R us ws->Paired R (xs++us) (ys++ws)
 | [],[],_,_,_,q=>q
 | _::_,_::_,_,_,.cons h t,q=>.cons h (rB t q)
theorem Dy {i:Nat} (h:i<=8):2 ^ i<=256:=by
 have:2 ^ i<=2 ^ 8:=Nat.pow_le_pow_right (by decide) h;simpa using this
def j6 (g:eF) (d:Int) (ds:List Int):List (Int × Int × List Int):=(m6 (if lY g.closed d then 0 else g.cans) (cpsOf g.pots ds)).map fun q=>(q.1,(d + 1) % g.week,q.2)
noncomputable def Z6 (K:Fg) (a:fP):Sp:=fun vs H Q E=>∃ x g v b,vs=[.ref x,v]/\eZ a H x g/\0 < g.week/\0<=g.cans/\g.pots.length<=8/\j5 K H g.week g.pots v b/\(b=false->∀ H',Same H H'->E (.ref a.gW) none H') /\ (b=true->∀ d ds H' l,qC H v d ds->m9 g.week g.pots d ds->H l=none->Same H H'->jH X7 H' (.ref l) (j6 g d ds)->Q (.ref l) H')
theorem uf:bM ["garden","state","day","parts","bit","since","pot","tomorrow"] ["garden","state"] (aW nj):=dI (by decide +kernel)
theorem ag4 {f:aB} {fd:d7} (F:lB K "choices" "choices" nj f fd) (W:yD K mg a dV):bT P w K mg base (d9 P w) 4 f fd ["garden","state"] (Z6 K a):=by
 refine F.jU uf (fun vs H Q E h=>?_) (fun cdv A outer s H vs Q E hr h=>?_)
 ·obtain ⟨x,g,v,b,rfl,_⟩:=h;rfl
 ·obtain ⟨x,g,v,b,rfl,gx,w0,c0,h8,sa,bad,good⟩:=h;have S:=W.S;have Z:=S.Z;have T:=Z.G.T;obtain ⟨fc,dc,cF,mC⟩:=W.con;obtain ⟨fd',dd,dF,mD⟩:=W.ayt;obtain ⟨fo,do',oF,mO⟩:=W.wow;obtain ⟨fi,di,iF,mI⟩:=W.wiw;have tE:bT P w K mg base (d9 P w) 2 fc dc ["garden","day"] (yE a):=Bm cF.F W;have okd:bT P w K mg base (d9 P w) 1 fd' dd ["garden","day"] (S5 a):=X6 dF.F W;have Mj:bT P w K mg base (d9 P w) 1 fo do' ["parts","pot","since"] (Z4 a):=ag2 oF.F W;have oki:bT P w K mg base (d9 P w) 2 fi di ["parts","pot","since","bit"] (Z5 a):=ag3 iF.F W;have JG:[("choice":Str),"cans","behind","tomorrow"].Nodup:=by decide +kernel
  refine ⟨_,aJ (iu (cH (yx S) hr S.agV S.ref.F.kp S.ref.b (cY bQ) (ak (pv 0) (ak (pv 1) aK)))) (aJ (bF (i:=2) uf.nd rfl (Or.inl rfl) (cQ cB (pv 1) aR (fun _ _=>rfl))) (aJ (bF (i:=3) uf.nd rfl (Or.inl rfl) (iG (ak (eX (ak aR (ak (cH tE (hr.mono (by decide)) mC cF.F.kp cF.b bf (ak (pv 0) (ak (pv 2) aK))) (ak (eX aK) aK)))) aK))) (aJ (bF (i:=4) uf.nd rfl (Or.inl rfl) aR) (aJ (iw dY rfl (IV (by rfl) T.B.zip (ak (cQ cB (pv 1) aR (fun _ _=>rfl)) (ak (cJ (pv 0) rfl) aK))) (nM rfl (bY (cL 5 uf.nd) (bY (cL 6 uf.nd) gQ))) (aJ (bF (i:=3) uf.nd rfl (Or.inl rfl) (bI uG (cH Mj (hr.mono (by decide)) mO oF.F.kp oF.b bf (ak (pv 3) (ak (pv 6) (ak (pv 5) aK)))) (cH oki (hr.mono (by decide)) mI iF.F.kp iF.b bf (ak (pv 3) (ak (pv 6) (ak (pv 5) (ak (pv 4) aK))))))) (aU (bF (i:=4) uf.nd rfl (Or.inl rfl) (bI oX (pv 4) aR))))) (aJ (bF (i:=7) uf.nd rfl (Or.inr rfl) (cH okd (hr.mono (by decide)) mD dF.F.kp dF.b bf (ak (pv 0) (ak (pv 2) aK)))) (aU (bU (iC bQ rfl ⟨_,_,rfl,rfl,rfl⟩ (jz (N':=["choice","cans","behind","tomorrow"]) (cl:=[("tomorrow",s.heap.objs.size + 1)]) [none,none,none,some 7] ["garden","state","day","parts","bit","since","pot","tomorrow"] (aW nj).names [(".0",.local),("choice",.local),("cans",.local),("behind",.local),("tomorrow",.cell)] ["tomorrow"] rfl (by decide +kernel) (by decide +kernel) rfl (fun p hp=>by rw [aL.mp hp]; rfl) rfl rfl rfl rfl (by decide +kernel) rfl (by decide +kernel)) (fu (pv 3)) (fun _ _ _ _ _=>yu K (n:=3) rfl (bY (cL 0 JG) (bY (cL 1 JG) (bY (cL 2 JG) gQ)))) (fun _ _ _ _ _=>gJ) (fun _ _ _ _ _ _=>eX (ak (pv 0) (ak (eX (ak (pv 3) (ak (pv 2) aK))) aK))))))))))),?_⟩;refine ⟨_,rfl,_,rfl,x,g,v,b,rfl,gx,h8,sa,fun eb H1 s1=>bad eb H1 s1,fun eb H1 s1=>?_⟩;subst eb;obtain ⟨d,ds,sv,ok⟩:=sa.good;have sv1:=sv.same s1;have SN:=gx.same s1;obtain ⟨t,u,rfl,ht,hu⟩:=sv1;obtain ⟨dx,l,as,hx,hl,pt⟩:=id SN;have la:as.length=g.pots.length:=Paired.length pt;have ln:=ok.len;have hL:cW K H1 l (as.map V.ref):=cW.of hl;refine ⟨_,rfl,t,_,0,.int d,rfl,rfl,d8.of ht,rfl,_,rfl,_,rfl,x,g,d,rfl,SN,ok.d0,by show 0<=sizeLine; decide,fun t1 h1=>⟨by show 3<=sizeLine; decide,fun t2 h2=>⟨by show 1<=sizeLine; decide,fun l0 h0=>?_⟩⟩⟩;generalize ec:(if lY g.closed d then (0:Int) else g.cans)=cans at *;have cn:0<=cans:=by rw [<- ec]; split <;> omega
  have v1:=aX (o:=.tup []) h1;have v2:=aX (o:=.tup [V.int 0,.int cans,.ref t1]) h2;have v3:=aX (o:=.lst [V.ref t2]) h0;have sH:=(v1.trans v2).trans v3;have r0:jH yF (L2.upd (L2.upd (L2.upd H1 t1 (.tup [])) t2 (.tup [V.int 0,.int cans,.ref t1])) l0 (.lst [V.ref t2])) (.ref l0) (gU cans (cpsOf g.pots ds) 0):=by
   rw [Jc cn];exact ⟨l0,_,rfl,aG,.cons ⟨t2,_,_,_,rfl,v3 _ _ aG,rfl,rfl,t1,[],rfl,v3 _ _ (v2 _ _ aG),.nil⟩ .nil⟩
  refine ⟨_,rfl,t,_,1,.ref u,rfl,rfl,d8.of (sH _ _ ht),rfl,_,rfl,x,a.garden,dx,_,_,rfl,sH _ _ hx,Z.tG.cl,Z.nG _ (by simp),iH ..,u,l,_,_,rfl,d8.of (sH _ _ hu),cW.of (sH _ _ hl),?_⟩;refine Lg (K:=K) (l:=u) (m:=l) (xs:=ds.map V.int) (ys:=as.map V.ref) (fun i σ H'=>∃ y z q,σ=[some (.ref x),some (.ref t),some (.int d),some (.ref q),some (.int (2 ^ i)),y,z,none]/\Same H1 H'/\jH yF H' (.ref q) (gU cans (cpsOf g.pots ds) i)) (by rw [au,au]; omega) ⟨none,none,l0,rfl,sH,r0⟩ (fun i σ H' _ ⟨_,_,_,_,s',_⟩=>⟨d8.of (s' _ _ hu),s'.seq hL⟩) ?_ ?_
  ·rintro i y b' T2 σ H2 hy hb0 ⟨z1,z2,q,rfl,s2,rq⟩ hT2;rw [aF] at hy hb0;obtain ⟨n,hn,rfl⟩:=bA.mp hy;obtain ⟨b,hb,rfl⟩:=bA.mp hb0;obtain ⟨p,hp,pb⟩:=cD pt hb;have i8:i < 8:=by have:=(aD.mp hp).1; omega
   have s3:=aX (o:=.tup [V.int n,.ref b]) hT2;have n0:=(ok.at_ i n p hn hp).1;have hc:=uP hp hn;have l1:(gU cans (cpsOf g.pots ds) i).length<=1000:=by
    have:=qx cans (cpsOf g.pots ds) i;have:=Dy (i:=i) (by omega);omega
   have l2:∀ c ∈ gU cans (cpsOf g.pots ds) i,c.2.2.length<=100:=fun c hc=>by have:=O7 hc; omega
   refine ⟨T2,_,rfl,d8.of aG,rfl,_,_,rfl,_,_,rfl,rfl,?_⟩;refine ⟨_,rfl,_,rfl,_,rfl,q,_,b,p,n,rfl,rq.same iK s3,l1,l2,pb.same (s2.trans s3),fun H3 q1 s4 r1=>?_⟩;refine ⟨_,rfl,_,rfl,_,rfl,_,rfl,q,_,b,p,n,_,rfl,rq.same iK (s3.trans s4),l1,l2,pb.same ((s2.trans s3).trans s4),n0,fun H4 q2 s5 r2=>?_⟩;have r1':=r1.same iK s5;obtain ⟨_,w1,e1,hw1,p1⟩:=r1';cases e1;obtain ⟨_,w2,e2,hw2,p2⟩:=r2;cases e2;have st:=Jb (cans:=cans) hc;have l3:=qx cans (cpsOf g.pots ds) (i + 1);have l4:=Dy (i:=i + 1) (by omega);have big:1000<=sizeLine:=by decide
   have ln2:w1.length + w2.length=(gU cans (cpsOf g.pots ds) (i + 1)).length:=by rw [<- st,bx,Paired.length p1,Paired.length p2]
   refine ⟨q1,q2,w1,w2,rfl,rfl,hw1,hw2,by omega,fun q3 h3=>?_⟩;have s6:=aX (o:=.lst (w1++w2)) h3;refine ⟨_,rfl,_,_,rfl,rfl,.inr ⟨by decide,by decide⟩,?_⟩;refine ⟨some (.int n),some (.ref b),q3,?_,(((s2.trans s3).trans s4).trans s5).trans s6,q3,w1++w2,rfl,aG,?_⟩
   ·rw [Int.pow_succ]; rfl
   ·rw [<- st];exact rB (Paired.jd p1 fun _ _ z=>iK.same z s6) (Paired.jd p2 fun _ _ z=>iK.same z s6)
  ·rintro σ H2 ⟨y,z,q,rfl,s2,rq⟩;rw [au,ln] at rq;refine ⟨_,rfl,_,rfl,x,g,d,rfl,SN.same s2,w0,?_⟩;obtain ⟨_,ws,eq',hq,pq⟩:=id rq;cases eq';refine ⟨_,rfl,q,rfl,⟨_,cW.of hq⟩,fun D hD=>pB iK Dw (fun c=>(c.1,(d + 1) % g.week,c.2.2)) rq ?_ hD ?_ (fun H' s' r=>good rfl d ds H' D sv ok ((s1.trans s2).free hD) ((s1.trans s2).trans s') ?_)⟩
   ·have:=qx cans (cpsOf g.pots ds) g.pots.length;have:=Dy h8;have big:1000<=sizeLine:=by decide
    omega
   ·rintro i c v H3 hc ⟨t',u1,u2,u3,rfl,ht',r1,r2,tb,bs,r3,hb,pb⟩ s3 Qc k;cases r1;cases r2;subst r3;refine ⟨t',_,rfl,d8.of ht',rfl,_,_,rfl,_,_,rfl,_,_,rfl,rfl,oh,_,rfl,_,rfl,_,rfl,by show 2<=sizeLine; decide,fun t3 h3=>⟨by show 2<=sizeLine; decide,fun t4 h4=>?_⟩⟩;have v4:=aX (o:=.tup [V.int ((d + 1) % g.week),.ref tb]) h3;have v5:=aX (o:=.tup [V.int c.1,.ref t3]) h4;exact k _ _ (v4.trans v5) ⟨t4,_,_,rfl,aG,rfl,t3,_,_,rfl,v5 _ _ aG,rfl,tb,bs,rfl,v5 _ _ (v4 _ _ hb),Paired.jd pb fun _ _ z=>z⟩
   ·have e:j6 g d ds=(gU cans (cpsOf g.pots ds) g.pots.length).map fun c=>(c.1,(d + 1) % g.week,c.2.2):=by
     unfold j6 m6;rw [ec,ud ln,fG];rfl
    rw [e];exact r
end
structure Bo (g:eF):Prop where
 w0:0 < g.week
 c0:0<=g.cans
 n8:g.pots.length<=8
 iJ:∀ p ∈ g.pots,p.Ok
 sz:sizeOf g.week g.pots<=20000
def iR (g:eF):Nat:=(sizeOf g.week g.pots).toNat
def stN (g:eF) (n:Nat):Int × List Int:=stOf (dZ g.pots) (n:Int)
def Dz (g:eF) (n:Nat):List Nat:=(j6 g (stN g n).1 (stN g n).2).map fun c=>(numOf c.2.1 g.pots c.2.2).toNat
def mU (g:eF):List (List Nat):=(List.range (iR g)).map (Dz g)
theorem GR:∀ (ps:List bB) (ds:List Int) (d:Int),numOf d ps ds=Gf d (dZ ps) ds
 | [],_,_=>rfl
 | _::_,[],_=>rfl
 | p::ps,y::ds,d=>GR ps ds (d * p.gap + y)
theorem O8 {wk d:Int} {ps:List bB} {ds:List Int} (h:m9 wk ps d ds):stOf (dZ ps) (numOf d ps ds)=(d,ds):=by
 rw [GR];exact Ru d (ZK.of (by rw [dZ,au]; exact h.len) fun i y g hy hg=>by
  rw [dZ,aF] at hg;obtain ⟨p,hp,rfl⟩:=bA.mp hg;exact h.at_ i y p hy hp)
theorem S7:∀ {ps:List bB} {ds:List Int} {wk d:Int},0<=d->d < wk->ds.length=ps.length->(∀ (i:Nat) (y:Int) (p:bB),ds[i]?=some y->ps[i]?=some p->0<=y/\y < p.gap)->0<=numOf d ps ds/\numOf d ps ds < sizeOf wk ps
 | [],[],_,_,h0,h1,_,_=>⟨h0,h1⟩
 | [],_::_,_,_,_,_,h,_=>by simp at h
 | _::_,[],_,_,_,_,h,_=>by simp at h
 | p::ps,y::ds,wk,d,h0,h1,h,f=>by
  obtain ⟨y0,y1⟩:=f 0 y p rfl rfl;have g0:0<=p.gap:=by omega
  have m0:0<=d * p.gap:=Int.mul_nonneg h0 g0;have m1:(d + 1) * p.gap<=wk * p.gap:=Int.mul_le_mul_of_nonneg_right (by omega) g0;rw [Int.add_mul,Int.one_mul] at m1;exact S7 (ps:=ps) (ds:=ds) (wk:=wk * p.gap) (d:=d * p.gap + y) (by omega) (by omega) (by simpa using h) fun i y' p' e1 e2=>f (i + 1) y' p' (by simpa using e1) (by simpa using e2)
theorem m9.lt {wk d:Int} {ps:List bB} {ds:List Int} (h:m9 wk ps d ds):0<=numOf d ps ds/\numOf d ps ds < sizeOf wk ps:=S7 h.d0 h.d1 h.len h.at_
theorem JH {g:eF} (ok:Bo g) {d:Int} {ds:List Int} (st:m9 g.week g.pots d ds) {c:Int × Int × List Int} (h:c ∈ j6 g d ds):m9 g.week g.pots c.2.1 c.2.2:=by
 unfold j6 at h;obtain ⟨q,hq,rfl⟩:=bh.mp h;have w0:=ok.w0;have lc:(cpsOf g.pots ds).length=g.pots.length:=ud st.len;rw [zW (nms:=g.pots) lc.symm ok.c0 (fun c hc=>by
  obtain ⟨z,hz,rfl⟩:=bh.mp hc;exact (ok.iJ _ (of_mem_zip hz).1).gap.1)] at hq
 obtain ⟨h1,h2⟩:=Rv lc.symm (fun i c hc=>by
  have lt:=(aD.mp hc).1;have l1:i < g.pots.length:=by omega
  have l2:i < ds.length:=by rw [st.len]; exact l1
  have e:=uP (aA l1) (aA l2);rw [hc] at e;cases e;exact st.at_ i _ _ (aA l2) (aA l1)) hq
 refine ⟨Int.emod_nonneg _ (by omega),Int.emod_lt_of_pos _ w0,by show q.2.length=_; rw [h1,lc],fun i y p hy hp=>?_⟩;have l1:i < g.pots.length:=(aD.mp hp).1;have l2:i < ds.length:=by rw [st.len]; exact l1
 exact h2 i y _ hy (uP hp (aA l2))
theorem X8 (g:eF) (d:Int) (ds:List Int) (h8:g.pots.length<=8):(j6 g d ds).length<=256:=by
 unfold j6 m6;rw [au,au];have h1:=qx (if lY g.closed d then 0 else g.cans) (cpsOf g.pots ds) (cpsOf g.pots ds).length;have h2:(cpsOf g.pots ds).length<=8:=by
  unfold cpsOf;rw [au,length_zip];omega
 exact bH h1 (Dy h2)
theorem wW {g:eF} (ok:Bo g):((iR g:Nat):Int)=sizeOf g.week g.pots:=by
 have h:0<=sizeOf g.week g.pots:=by
  have:∀ (ps:List bB) (wk:Int),(∀ p ∈ ps,p.Ok)->0<=wk->0<=sizeOf wk ps:=by
   intro ps
   induction ps with
   | nil=>exact fun wk _ h=>h
   | cons p ps ih =>
    intro wk hk h0;exact ih (wk * p.gap) (fun q hq=>hk q (by simp [hq])) (Int.mul_nonneg h0 (by have:=(hk p (by simp)).gap; omega))
  exact this _ _ ok.iJ (by have:=ok.w0; omega)
 unfold iR;omega
theorem Bo.small {g:eF} (ok:Bo g):iR g<=20000:=by
 have h1:=wW ok;have h2:=ok.sz;omega
theorem S8 {g:eF} (ok:Bo g) {n:Nat} (h:n < iR g):m9 g.week g.pots (stN g n).1 (stN g n).2:=X4 ok.iJ (dj n) (by rw [<- wW ok]; omega)
theorem Ml {g:eF} {n:Nat}:numOf (stN g n).1 g.pots (stN g n).2=(n:Int):=GJ g.pots
theorem Yb {g:eF} {n m:Nat} (h:stN g n=stN g m):n=m:=by
 have h1:numOf (stN g n).1 g.pots (stN g n).2=numOf (stN g m).1 g.pots (stN g m).2:=by rw [h]
 rw [Ml,Ml] at h1;omega
theorem rC {g:eF} (ok:Bo g) {d:Int} {ds:List Int} (st:m9 g.week g.pots d ds):∃ t:Nat,numOf d g.pots ds=(t:Int)/\t < iR g/\stN g t=(d,ds):=by
 obtain ⟨h0,h1⟩:=st.lt;have h2:=wW ok;obtain ⟨t,et⟩:∃ t:Nat,numOf d g.pots ds=(t:Int):=⟨(numOf d g.pots ds).toNat,by omega⟩;refine ⟨t,et,by omega,?_⟩;unfold stN;rw [<- et];exact O8 st
theorem ug (g:eF):(mU g).length=iR g:=by
 unfold mU;rw [au,cg]
theorem JK {g:eF} {n:Nat} (h:n < iR g):(mU g)[n]?=some (Dz g n):=by
 unfold mU;rw [aF,List.getElem?_range h];rfl
theorem ou {g:eF} {n:Nat} (h:n < iR g):(mU g).getD n []=Dz g n:=by
 unfold getD;rw [JK h];rfl
theorem Mp {g:eF} {n:Nat} (h:¬ n < iR g):(mU g).getD n []=[]:=by
 unfold getD;rw [List.getElem?_eq_none (by rw [ug]; omega)];rfl
theorem S9 {g:eF} (ok:Bo g) {n:Nat} (h:n < iR g) {t:Nat} (ht:t ∈ Dz g n):t < iR g:=by
 obtain ⟨c,hc,rfl⟩:=bh.mp ht;obtain ⟨t,e,lt,_⟩:=rC ok (JH ok (S8 ok h) hc);rw [e];exact lt
theorem JL {g:eF} (ok:Bo g):∀ n t,t ∈ (mU g).getD n []->t < iR g:=by
 intro n t ht
 by_cases h:n < iR g
 ·rw [ou h] at ht;exact S9 ok h ht
 ·rw [Mp h] at ht;cases ht
theorem Bp {g:eF} (ok:Bo g):∀ n,((mU g).getD n []).length<=256:=by
 intro n
 by_cases h:n < iR g
 ·rw [ou h];unfold Dz;rw [au];exact X8 g _ _ ok.n8
 ·rw [Mp h];exact cU _
theorem v7 {N m:Nat} {su:List (List Nat)} (Vv:∀ n t,t ∈ su.getD n []->t < N) (hs:∀ n,(su.getD n []).length<=m):∀ i t,((f9 su N i).getD t []).length<=i * m
 | 0,t=>by
  have:(f9 su N 0).getD t []=[]:=by
   show (List.replicate N ([]:List Nat)).getD t []=[]
   by_cases lt:t < N <;> simp [getD,lt]
  rw [this];exact cU _
 | i + 1,t=>by
  have ih:=v7 Vv hs i t;obtain ⟨_,r2⟩:=tM i (su.getD i []) (f9 su N i) fun t ht=>by rw [(tO Vv i).1]; exact Vv i t ht
  rw [pG,r2 t,bx,length_replicate,Nat.succ_mul];have h1:(su.getD i []).count t<=(su.getD i []).length:=List.count_le_length;have h2:=hs i;omega
def Tc (g:eF):List (List Nat):=f9 (mU g) (iR g) (iR g)
theorem ag5 {g:eF} (ok:Bo g):Gr (iR g) (mU g) (Tc g):=an0 (ug g) (JL ok)
def jA (ns:List Nat):List V:=ns.map fun n:Nat=>V.int (n:Int)
theorem uQ (ns:List Nat) (n:Nat):jA (ns++[n])=jA ns++[V.int (n:Int)]:=by
 unfold jA;rw [aY];rfl
theorem pL (ns:List Nat):(jA ns).length=ns.length:=au _
def iI (H:Hp) (ls:List aB) (ah:List (List Nat)):Prop:=∀ (j:Nat) b,ls[j]?=some b->H b=some (.lst (jA (ah.getD j [])))
theorem Te {ls:List aB} (nd:ls.Nodup) {i j:Nat} {b:aB} (h1:ls[i]?=some b) (h2:ls[j]?=some b):i=j:=by
 obtain ⟨l1,e1⟩:=aD.mp h1;obtain ⟨l2,e2⟩:=aD.mp h2;exact (List.getElem_inj nd).mp (e1.trans e2.symm)
theorem iI.road {H:Hp} {ls:List aB} {ah:List (List Nat)} {t n:Nat} {b:aB} (h:iI H ls ah) (nd:ls.Nodup) (hl:ls.length=ah.length) (hb:ls[t]?=some b):iI (L2.upd H b (.lst (jA (ah.getD t [])++[V.int (n:Int)]))) ls (iW n ah t):=by
 intro j c hc;have lt:t < ah.length:=by rw [<- hl]; exact (aD.mp hb).1
 by_cases e:j=t
 ·subst e;rw [hb] at hc;cases hc;have:(iW n ah j).getD j []=ah.getD j []++[n]:=by unfold iW; simp [lt]
  rw [aG,this,uQ]
 ·have ne:c≠b:=fun z=>e (Te nd hc (by rw [z]; exact hb))
  have e':¬ t=j:=fun z=>e z.symm
  have:(iW n ah t).getD j []=ah.getD j []:=by unfold iW; simp [getD,e']
  rw [bw ne,this];exact h j c hc
theorem iI.same {H H':Hp} {ls:List aB} {ah:List (List Nat)} (h:iI H ls ah) (s:Same H H'):iI H' ls ah:=fun j b hb=>s _ _ (h j b hb)
theorem iI.upd {H:Hp} {ls:List aB} {ah:List (List Nat)} {c:aB} {o:HO} (h:iI H ls ah) (nc:c ∉ ls):iI (L2.upd H c o) ls ah:=fun j b hb=>by
 rw [bw (fun z=>nc (by rw [<- z]; exact aH hb))];exact h j b hb
abbrev uR:cX:=top 39
section
variable {P:bZ} {w:World} {K:Fg} {mg:Str->Option aC} {base:Heap} {a:fP} {dV:aC}
theorem JM {X:Cx} (P:bZ) (w:World) (hc:X.calm=true) (hu:X.A.units + 64 < cLine) (hP:autoParam (X.prog=P) zau0) (hw:autoParam (X.w=w) zau0):iy X (.type "dict") (fun xs H Q=>∃ (p:aB) (ps:List aB) (ks:List wD),xs=[.ref p]/\H p=some (.lst (ps.map V.ref))/\ks.length=ps.length /\ (∀ (j:Nat) r q,ks[j]?=some r->ps[j]?=some q->H q=some (.tup [.ref r.2.1,r.2.2]))/\(∀ r ∈ ks,jX H r.1 r.2.1)/\(ks.map (·.1)).Nodup/\∀ l,H l=none->Q (.ref l) (L2.upd H l (qH P w l ks))):=by
 subst hP hw;exact Jh hc hu
theorem Tf {X:Cx} (P:bZ) (w:World) (hu:X.A.units + 64 < cLine) (hP:autoParam (X.prog=P) zau0) (hw:autoParam (X.w=w) zau0):IxR X (anW P w):=by
 subst hP hw;exact Rn hu
theorem wX {H:Hp}:∀ {vs:List V} {ds:List Int},Paired (pA H) vs ds->vs=ds.map V.int
 | _,_,.nil=>rfl
 | _,_,.cons h r=>by rw [cj,<- wX r]; cases h; rfl
theorem pN {H:Hp}:∀ {vs:List V} {xs:List (Int × List Int)},Paired (Dv H) vs xs->∃ ts:List aB,vs=ts.map V.ref/\ts.length=xs.length/\∀ (i:Nat) t x,ts[i]?=some t->xs[i]?=some x->jX H x t
 | _,_,.nil=>⟨[],rfl,rfl,fun i t x h=>by simp at h⟩
 | _,_,.cons (a:=v) (b:=x) h r=>by
  obtain ⟨ts,rfl,l,f⟩:=pN r;obtain ⟨t,u,z,rfl,ht,r1,tb,bs,rfl,hb,pb⟩:=h;cases r1;have eb:=wX pb;refine ⟨t::ts,rfl,by rw [length_cons,length_cons,l],fun i t' x' h1 h2=>?_⟩;cases i with
  | zero =>
   cases h1; cases h2;exact ⟨tb,ht,by rw [hb,eb]⟩
  | succ i=>exact f i t' x' (by simpa using h1) (by simpa using h2)
theorem iY (H:Hp):∀ gs:List Int,Paired (pA H) (gs.map V.int) gs
 | []=>.nil
 | _::gs=>.cons rfl (iY H gs)
theorem Yc {H:Hp} {v:V} {x:Int × List Int} (h:Dv H v x):∃ t,v=.ref t/\jX H x t:=by
 obtain ⟨ts,e,l,f⟩:=pN (.cons h .nil)
 match ts,e,l with
 | [t],e,_ =>
  cases e;exact ⟨t,rfl,f 0 t x rfl rfl⟩
theorem O9 {g:eF} (ok:Bo g) {i:Nat} (lt:i < iR g) (j:Nat):(((Dz g i).take j).foldl (iW i) (f9 (mU g) (iR g) i)).length=iR g/\∀ t,((((Dz g i).take j).foldl (iW i) (f9 (mU g) (iR g) i)).getD t []).length<=(i + 1) * 256:=by
 have h0:=(tO (JL ok) i).1;obtain ⟨r1,r2⟩:=tM i ((Dz g i).take j) (f9 (mU g) (iR g) i) fun t ht=>by rw [h0]; exact S9 ok lt (List.mem_of_mem_take ht)
 refine ⟨by rw [r1,h0],fun t=>?_⟩;have h1:=v7 (JL ok) (Bp ok) i t;have h2:((Dz g i).take j).count t<=((Dz g i).take j).length:=List.count_le_length;have h3:=Bp ok i;rw [ou lt] at h3;rw [length_take] at h2;rw [r2 t,bx,length_replicate,Nat.succ_mul];omega
theorem Yd {H:Hp} {x:Int × List Int} {t:aB} (h:jX H x t):qC H (.ref t) x.1 x.2:=by
 obtain ⟨s,h1,h2⟩:=h;exact ⟨t,s,rfl,h1,h2⟩
abbrev Tg:List Str:=["garden","states","numbers","ahead","counts","number","state","found","choice","behind"]
noncomputable def Mq (a:fP):Sp:=fun vs H Q _=>∃ x g,vs=[.ref x]/\eZ a H x g/\Bo g/\∀ H' t A C ls,Same H H'->H' t=some (.tup [.ref A,.ref C])->H C=none->H' C=some (.lst ((mU g).map fun ts=>V.int (ts.length:Int))) -> H' A=some (.lst (ls.map V.ref))->ls.length=iR g->iI H' ls (Tc g)->C≠A->C ∉ ls->Q (.ref t) H'
theorem jE:bM Tg ["garden"] (aW uR):=dI (by decide +kernel)
theorem Ti {f:aB} {fd:d7} (F:lB K "roads" "roads" uR f fd) (W:yD K mg a dV) (en:mg "enumerate"=none) (di:mg "dict"=none):bT P w K mg base (d9 P w) 5 f fd ["garden"] (Mq a):=by
 refine F.jU jE (fun vs H Q E h=>?_) (fun cdv A outer s H vs Q E hr h=>?_)
 ·obtain ⟨x,g,rfl,_⟩:=h;rfl
 ·obtain ⟨x,g,rfl,gx,ok,q⟩:=h;have S:=W.S;have Z:=S.Z;have T:=Z.G.T;have B:=T.B;obtain ⟨fc,dc,cF,mC⟩:=W.cho;have tE:bT P w K mg base (d9 P w) 4 fc dc ["garden","state"] (Z6 K a):=ag4 cF.F W;have kC:=cF.F.kp;have bC:=cF.b;have hr1:dJ 1 _:=hr.mono (by decide);have hr2:dJ 2 _:=hr.mono (by decide);have ndA:[("number":Str),"garden"].Nodup:=by decide +kernel
  have ndB:[("number":Str),"state"].Nodup:=by decide +kernel
  refine ⟨_,aJ (sW (i:=1) jE.nd rfl (Or.inl rfl) bQ rfl ⟨_,_,rfl,rfl,rfl⟩ (jz (N':=["number","garden"]) (cl:=[("garden",s.heap.objs.size + 1)]) [none,some 0] Tg (aW uR).names [(".0",.local),("number",.local),("garden",.cell)] ["garden"] rfl (by decide +kernel) (by decide +kernel) rfl (fun p hp=>by rw [aL.mp hp]; rfl) rfl rfl rfl rfl (by decide +kernel) rfl (by decide +kernel)) (mV rfl B.range (ak (rZ (pv 0) Z.tG.cl Z.R9 (Dr Z) hr1 Z.size.b .nil bf) aK)) (fun _ _ _ _ _=>cL 0 ndA) (fun _ _ _ _ _=>gJ) (fun _ _ _ _ _ acc=>K1 (pv 1) Z.tG.cl S.ayp (agY S) hr2 S.sta.b .nil (cY acc) (ak (pv 0) aK))) (aJ (bF (i:=2) jE.nd rfl (Or.inl rfl) (Gu (JM P w rfl hr.units) di boot_dict (ak (iC bQ rfl ⟨_,_,rfl,rfl,rfl⟩ (gR.plain (N':=["number","state"]) rfl (by decide +kernel) (by decide +kernel)) (CZ (by rfl) en (ak (pv 1) aK)) (fun _ _ _ _ _=>yu K (n:=2) rfl (bY (cL 0 ndB) (bY (cL 1 ndB) gQ))) (fun _ _ _ _ _=>gJ) (fun _ _ _ _ _ _=>eX (ak (pv 1) (ak (pv 0) aK)))) aK))) (aJ (sW (i:=3) jE.nd rfl (Or.inl rfl) bQ rfl ⟨_,_,rfl,rfl,rfl⟩ (gR.plain (N':=["state"]) rfl (by decide +kernel) (by decide +kernel)) (fu (pv 1)) (fun _ _ _ _ _=>cL 0 (show [("state":Str)].Nodup by decide +kernel)) (fun _ _ _ _ _=>gJ) (fun _ _ _ _ _ _=>iG aK)) (aJ (bF (i:=4) jE.nd rfl (Or.inl rfl) (iG aK)) (aJ (iw dY rfl (CZ (by rfl) en (ak (pv 1) aK)) (nM rfl (bY (cL 5 jE.nd) (bY (cL 6 jE.nd) gQ))) (aJ (bF (i:=7) jE.nd rfl (Or.inl rfl) (cH tE hr mC kC bC (cY bQ) (ak (pv 0) (ak (pv 6) aK)))) (aJ (iu (vV PySem.F.plainAttrs_list PySem.F.slot_list_append PySem.F.type_list_append iU (pv 4) (ak (gZ fD B.len PySem.boot_len (ak (pv 7) aK)) aK))) (aU (iw dY rfl (fu (pv 7)) (nM rfl (bY (cL 8 jE.nd) (bY (cL 9 jE.nd) gQ))) (aU (iu (vV PySem.F.plainAttrs_list PySem.F.slot_list_append PySem.F.type_list_append iU (cQ jC (pv 3) (cQ (Tf P w hr.units) (pv 2) (pv 9) (fun _ _=>rfl)) (fun _ _=>rfl)) (ak (pv 5) aK))))))))) (aU (bU (eX (ak (pv 3) (ak (pv 4) aK))))))))),?_⟩;obtain ⟨dx,l,as,hx,hl,pt⟩:=id gx;have small:=ok.small;have szi:=wW ok;have big:20000 * 257<=sizeLine:=by decide
  refine ⟨_,rfl,x,dx,_,rfl,hx,Jw _ _ _ _ (by decide +kernel) (by decide +kernel) (by decide +kernel) (by decide +kernel),x,dx,l,as,g.pots,_,g.week,_,rfl,hx,cW.of hl,pt,ok.iJ,_,rfl,by omega,by omega,fun lS hlS=>?_⟩;refine FQ O6 (fun n=>stN g n) (n:=iR g) rfl (by omega) hlS ?_ ?_
  ·intro i H2 lt s2 Qc k;obtain ⟨dx2,l2,as2,hx2,_,_⟩:=gx.same s2;have ew:bV (.int ((i:Nat):Int)) 0 (sizeOf g.week g.pots - 1)=true:=by
    have h1:(0:Int)<=(i:Int):=dj i;have h2:(i:Int)<=sizeOf g.week g.pots - 1:=by omega
    simp [bV,h1,h2]
   refine ⟨qR,_,rfl,x,dx2,_,rfl,hx2,Jw _ _ _ _ (by decide +kernel) (by decide +kernel) (by decide +kernel) (by decide +kernel),_,rfl,x,g,_,.int,rfl,gx.same s2,ok.iJ,ok.n8,⟨_,rfl⟩,fun z=>(by rw [ew] at z; cases z),fun _ n H3 t ev s3 st=>?_⟩;cases ev;obtain ⟨t',u,e,h1,h2⟩:=st;cases e;exact k _ H3 s3 ⟨t,_,_,rfl,h1,rfl,u,_,rfl,h2,iY _ _⟩
  intro H1 s1 r1;obtain ⟨_,vs,el,hv,uT⟩:=id r1;cases el;obtain ⟨ts,rfl,lts,nest⟩:=pN uT;rw [au,cg] at lts;have Z7:∀ (i:Nat) t,ts[i]?=some t->jX H1 (stN g i) t:=fun i t h=>by
   have lt:i < iR g:=by rw [<- lts]; exact (aD.mp h).1
   exact nest i t _ h (by rw [aF,List.getElem?_range lt]; rfl)
  have kts:∀ i,i < iR g->ts[i]?=some (ts.getD i 0):=fun i lt=>by
   have:i < ts.length:=by omega
   simp [getD,this]
  have kvs:∀ i,i < iR g->(ts.map V.ref)[i]?=some (.ref (ts.getD i 0)):=fun i lt=>by rw [aF,kts i lt]; rfl
  obtain ⟨ks,eks⟩:∃ ks:List wD,ks=(List.range (iR g)).map fun j:Nat=>(stN g j,ts.getD j 0,V.int (j:Int)):=⟨_,rfl⟩
  have hks:∀ j,j < iR g->ks[j]?=some (stN g j,ts.getD j 0,V.int (j:Int)):=fun j lt=>by rw [eks,aF,List.getElem?_range lt]; rfl
  have kl:ks.length=iR g:=by rw [eks,au,cg]
  have km:∀ r ∈ ks,jX H1 r.1 r.2.1:=fun r hr=>by
   rw [eks] at hr;obtain ⟨j,hj,rfl⟩:=bh.mp hr;exact Z7 j _ (kts j (mem_range.mp hj))
  have knd:(ks.map (·.1)).Nodup:=by
   rw [eks,fG];exact Pairwise.map _ (fun a b hab h=>hab (Yb h)) List.nodup_range
  refine ⟨_,rfl,lS,_,rfl,cW.of hv,fun lP hlP=>?_⟩;refine jW (iR g) (by omega) (fun i acc H'=>Same H1 H'/\H' lP=some (.lst acc)/\∃ ps:List aB,acc=ps.map V.ref/\ps.length=i/\∀ (j:Nat) p,ps[j]?=some p->H' p=some (.tup [.ref (ts.getD j 0),.int (j:Int)])) ⟨aX hlP,aG,[],rfl,rfl,fun j p h=>by simp at h⟩ (fun i acc H' le ⟨_,e,ps,ea,lp,_⟩=>⟨by rw [ea,au,lp],e⟩) ?_ ?_
  rotate_left
  ·rintro i acc H' lt ⟨s',e,ps,rfl,lp,at_⟩;refine ⟨⟨_,_,cW.of (s' _ _ hv),kvs i lt⟩,?_⟩;rintro y Eh ⟨t2,wV,rfl,hu⟩ Qc k;have e2:=hu _ _ (cW.of (s' _ _ hv)) (kvs i lt);subst e2;have s2:=aX (o:=.tup [V.int ((i:Nat):Int),.ref (ts.getD i 0)]) wV;refine ⟨t2,_,rfl,d8.of aG,rfl,_,_,rfl,_,_,rfl,rfl,fH,_,rfl,_,rfl,by show 2<=sizeLine; decide,fun p hp=>?_⟩;have s3:=aX (o:=.tup [V.ref (ts.getD i 0),.int ((i:Nat):Int)]) hp;have e3:=s3 _ _ (s2 _ _ e);refine k _ _ e3 ⟨gK ((s'.trans s2).trans s3) hlP,aG,ps++[p],by rw [aY]; rfl,by rw [bx,lp]; rfl,fun j p' h'=>?_⟩
   by_cases lj:j < ps.length
   ·rw [List.getElem?_append_left lj] at h';have f:=s3 _ _ (s2 _ _ (at_ j p' h'));rw [bw (vR f e3 (by intro z; cases z))];exact f
   ·rw [List.getElem?_append_right (by omega)] at h';have e1:j - ps.length=0:=by
     have:=(aD.mp h').1;simp at this;omega
    rw [e1] at h';cases h';have ej:j=i:=by omega
    subst ej;have f:=aG (H:=upd H' t2 (.tup [V.int ((j:Nat):Int),.ref (ts.getD j 0)])) (a:=p) (o:=.tup [V.ref (ts.getD j 0),.int ((j:Nat):Int)]);rw [bw (vR f e3 (by intro z; cases z))];exact f
  rintro acc H2' ⟨s2',e2',ps,rfl,lp,at_⟩;refine ⟨⟨_,cW.of (s2' _ _ hv),by rw [au]; omega⟩,?_⟩;refine ⟨lP,ps,ks,rfl,e2',by rw [kl,lp],fun j r p h1 h2=>?_,fun r hr=>(km r hr).same s2',knd,fun d hd=>?_⟩
  ·have lt:j < iR g:=by rw [<- kl]; exact (aD.mp h1).1
   rw [hks j lt] at h1;cases h1;exact at_ j p h2
  have vd:=aX (o:=qH P w d ks) hd;have s12:=s2'.trans vd;have hd2:upd H2' d (qH P w d ks) d=some (qH P w d ks):=aG;have hS2:=s12 _ _ hv;have km2:∀ r ∈ ks,jX (upd H2' d (qH P w d ks)) r.1 r.2.1:=fun r hr=>(km r hr).same s12
  generalize upd H2' d (qH P w d ks)=H2 at s12 hd2 hS2 km2 ⊢;have gx2:=gx.same (s1.trans s12);refine ⟨_,rfl,lS,rfl,⟨_,cW.of hS2⟩,fun lA hlA=>?_⟩;refine jW (iR g) (by omega) (fun i acc H'=>Same H2 H'/\H' lA=some (.lst acc)/\∃ ls:List aB,acc=ls.map V.ref/\ls.length=i/\ls.Nodup/\lA ∉ ls/\∀ b ∈ ls,H2 b=none/\H' b=some (.lst [])) ⟨aX hlA,aG,[],rfl,rfl,List.nodup_nil,by simp,fun b h=>by simp at h⟩ (fun i acc H' le ⟨_,e,ls,ea,ll,_⟩=>⟨by rw [ea,au,ll],e⟩) ?_ ?_
  rotate_left
  ·rintro i acc H' lt ⟨s',e,ls,rfl,ll,nd,na,mem⟩;refine ⟨⟨_,_,cW.of (s' _ _ hS2),kvs i lt⟩,?_⟩;rintro y Eh ⟨rfl,hy⟩ Qc k;refine ⟨fH,by show 0<=sizeLine; decide,fun b hb=>?_⟩;have s3:=aX (o:=.lst []) hb;have e3:=s3 _ _ e;have nb:b ∉ ls:=fun hm=>by
    have:=(mem b hm).2;rw [hb] at this;cases this
   have nA:b≠lA:=fun z=>by rw [z,e] at hb; cases hb
   refine k _ _ e3 ⟨gK (s'.trans s3) hlA,aG,ls++[b],by rw [aY]; rfl,by rw [bx,ll]; rfl,?_,?_,fun c hc=>?_⟩
   ·rw [nodup_append];exact ⟨nd,by simp,fun x hx y hy z=>nb (by rw [<- aL.mp hy,<- z]; exact hx)⟩
   ·intro hm;rcases mem_append.mp hm with hm' | hm
    ·exact na hm'
    ·exact nA (aL.mp hm).symm
   ·rcases mem_append.mp hc with hm | hm
    ·obtain ⟨m1,m2⟩:=mem c hm;exact ⟨m1,by rw [bw (fun z=>na (by rw [<- z]; exact hm)),bw (fun z=>nb (by rw [<- z]; exact hm))]; exact m2⟩
    ·rw [aL.mp hm]; exact ⟨s'.free hb,by rw [bw nA,aG]⟩
  rintro acc H3 ⟨s3,hA3,ls,rfl,ll,nd,nA,mem⟩;refine ⟨⟨_,cW.of (s3 _ _ hS2),by rw [au]; omega⟩,?_⟩;refine ⟨by show 0<=sizeLine; decide,fun lC hlC=>?_⟩;have vC:=aX (o:=.lst []) hlC;have fC:H2 lC=none:=s3.free hlC;have nCA:lC≠lA:=fun z=>by rw [z,hA3] at hlC; cases hlC
  have nC:lC ∉ ls:=fun hm=>by
   have:=(mem lC hm).2;rw [hlC] at this;cases this
  refine ⟨_,rfl,lS,_,rfl,cW.of (vC _ _ (s3 _ _ hS2)),?_⟩;refine Rp (K:=K) (l:=lS) (xs:=ts.map V.ref) (fun i σ H'=>∃ u5 u6 u7 u8 u9,σ=[some (.ref x),some (.ref lS),some (.ref d),some (.ref lA),some (.ref lC),u5,u6,u7,u8,u9]/\Same H2 H'/\H' lA=some (.lst (ls.map V.ref))/\iI H' ls (f9 (mU g) (iR g) i)/\H' lC=some (.lst (((mU g).take i).map fun ts=>V.int (ts.length:Int)))) ⟨none,none,none,none,none,rfl,s3.trans vC,vC _ _ hA3,?_,aG⟩ (fun i σ H' _ ⟨_,_,_,_,_,_,s',_⟩=>cW.of (s' _ _ hS2)) ?_ ?_
  ·intro j b hb;have e:(f9 (mU g) (iR g) 0).getD j []=[]:=by
    show (List.replicate (iR g) ([]:List Nat)).getD j []=[]
    by_cases lt:j < iR g <;> simp [getD,lt]
   rw [e];exact vC _ _ (mem b (aH hb)).2
  ·rintro i y T' σ H5 hi ⟨u5,u6,u7,u8,u9,rfl,sA,hA5,hR5,hC5⟩ hT;rw [aF] at hi;obtain ⟨t,ht,rfl⟩:=bA.mp hi;have lt:i < iR g:=by rw [<- lts]; exact (aD.mp ht).1
   have vT:=aX (o:=.tup [V.int ((i:Nat):Int),.ref t]) hT;refine ⟨T',_,rfl,d8.of aG,rfl,_,_,rfl,_,_,rfl,rfl,?_⟩;have sB:=sA.trans vT;have hA6:=vT _ _ hA5;have hR6:=hR5.same vT;have Ye:=vT _ _ hC5;generalize upd H5 T' (.tup [V.int ((i:Nat):Int),.ref t])=H6 at sB hA6 hR6 Ye ⊢;have st:=Yd ((Z7 i t ht).same (s12.trans sB));have sok:=S8 ok lt;refine ⟨_,rfl,_,rfl,x,g,_,true,rfl,gx2.same sB,ok.w0,ok.c0,ok.n8,st.arg sok,(fun z=>nomatch z),fun _ d' ds' H7 lf sv _ nf s7 rf=>?_⟩;obtain ⟨rfl,rfl⟩:=sv.one st;obtain ⟨_,us,eu,hu,pu⟩:=id rf;cases eu;have lu:us.length=(Dz g i).length:=by rw [Paired.length pu]; unfold Dz; rw [au]
   have hC7:=s7 _ _ Ye;refine ⟨_,rfl,.inl ⟨rfl,_,cW.of hC7⟩,_,rfl,lf,_,rfl,.inl (cW.of hu),lC,_,_,rfl,rfl,hC7,by rw [au,length_take,ug]; omega,?_⟩;have nlf:lf≠lC:=Ne.symm (cV Ye nf);have nls:lf ∉ ls:=fun hm=>by
    obtain ⟨jm,hj⟩:=List.getElem?_of_mem hm;have:=hR6 jm lf hj;rw [nf] at this;cases this
   have hA8:L2.upd H7 lC (.lst (((mU g).take i).map (fun ts=>V.int (ts.length:Int))++[V.int (us.length:Int)])) lA=some (.lst (ls.map V.ref)):=by rw [bw (Ne.symm nCA)]; exact s7 _ _ hA6
   have hR8:=(hR6.same s7).upd (o:=.lst (((mU g).take i).map (fun ts=>V.int (ts.length:Int))++[V.int (us.length:Int)])) nC;have hu8:L2.upd H7 lC (.lst (((mU g).take i).map (fun ts=>V.int (ts.length:Int))++[V.int (us.length:Int)])) lf=some (.lst us):=by rw [bw nlf]; exact hu
   have pu8:Paired (X7 (L2.upd H7 lC (.lst (((mU g).take i).map (fun ts=>V.int (ts.length:Int))++[V.int (us.length:Int)])))) us (j6 g (stN g i).1 (stN g i).2):=Paired.jd pu fun _ _ z=>Dw.upd z hC7
   have s8:Same H2 (L2.upd H7 lC (.lst (((mU g).take i).map (fun ts=>V.int (ts.length:Int))++[V.int (us.length:Int)]))):=gK (sB.trans s7) fC;have Yg:L2.upd H7 lC (.lst (((mU g).take i).map (fun ts=>V.int (ts.length:Int))++[V.int (us.length:Int)])) lC=some (.lst (((mU g).take (i + 1)).map fun ts=>V.int (ts.length:Int))):=by
    rw [aG,take_snoc (JK lt),aY,lu];rfl
   generalize L2.upd H7 lC (.lst (((mU g).take i).map (fun ts=>V.int (ts.length:Int))++[V.int (us.length:Int)]))=H8 at hA8 hR8 hu8 pu8 s8 Yg ⊢;refine ⟨_,rfl,lf,rfl,⟨_,cW.of hu8⟩,?_⟩;refine je (K:=K) (a:=lf) (xs:=us) (fun j σ H'=>∃ u8 u9,σ=[some (.ref x),some (.ref lS),some (.ref d),some (.ref lA),some (.ref lC),some (.int ((i:Nat):Int)),some (.ref t),some (.ref lf),u8,u9]/\Same H2 H'/\H' lA=some (.lst (ls.map V.ref))/\iI H' ls (((Dz g i).take j).foldl (iW i) (f9 (mU g) (iR g) i))/\H' lC=some (.lst (((mU g).take (i + 1)).map fun ts=>V.int (ts.length:Int)))/\H' lf=some (.lst us)/\Paired (X7 H') us (j6 g (stN g i).1 (stN g i).2)) ⟨_,_,rfl,s8,hA8,hR8,Yg,hu8,pu8⟩ (fun j σ H' _ ⟨_,_,_,_,_,_,_,e,_⟩=>cW.of e) ?_ ?_
   ·rintro j z σ H9 hj ⟨v8,v9,rfl,s9,Z8,Yh,Z9,hu9,pu9⟩;obtain ⟨c,hc,tp,y1,y2,rfl,htp,r1',r2'⟩:=cD pu9 hj;cases r1';obtain ⟨tb,rfl,nb⟩:=Yc r2';obtain ⟨m,em,lm,es⟩:=rC ok (JH ok sok (aH hc));have hsu:(Dz g i)[j]?=some m:=by
     unfold Dz;rw [aF,hc]
     show some ((numOf c.2.1 g.pots c.2.2).toNat)=some m
     rw [em,Int.toNat_natCast]
    obtain ⟨b,hb⟩:∃ b,ls[m]?=some b:=⟨_,aA (by omega)⟩;have hbm:(ls.map V.ref)[m]?=some (.ref b):=by rw [aF,hb]; rfl
    have bm:=aH hb;have hrow:=Yh m b hb;obtain ⟨ayE,ag9⟩:=O9 ok lt j;have sh:=ag9 m;have lz:(jA ((((Dz g i).take j).foldl (iW i) (f9 (mU g) (iR g) i)).getD m [])).length < sizeLine:=by
     rw [pL];have:(i + 1) * 256<=20001 * 256:=Nat.mul_le_mul_right _ (by omega);omega
    refine ⟨tp,_,rfl,d8.of htp,rfl,_,_,rfl,_,_,rfl,rfl,?_⟩;refine ⟨_,rfl,_,rfl,_,rfl,d,ks,tb,c.2,m,_,rfl,rfl,s9 _ _ hd2,fun r hr=>(km2 r hr).same s9,nb,hks m lm,es,lA,_,((m:Nat):Int),.ref b,rfl,rfl,cW.of Z8,jh hbm,.inl ⟨rfl,_,cW.of hrow⟩,_,rfl,b,_,_,rfl,rfl,hrow,lz,?_⟩;refine ⟨_,_,rfl,gK s9 (mem b bm).1,?_,?_,?_,?_,Paired.jd pu9 fun _ _ z=>Dw.upd z hrow⟩
    ·rw [bw (fun z=>nA (by rw [z]; exact bm))]; exact Z8
    ·rw [take_snoc hsu,foldl_append];exact Yh.road nd (by rw [ll,ayE]) hb
    ·rw [bw (fun z=>nC (by rw [z]; exact bm))]; exact Z9
    ·rw [bw (fun z=>nls (by rw [z]; exact bm))]; exact hu9
   ·rintro σ H9 ⟨v8,v9,rfl,s9,Z8,Yh,Z9,hu9,pu9⟩;rw [lu,bO] at Yh;refine ⟨_,_,_,_,_,rfl,s9,Z8,?_,Z9⟩;rw [pG,ou lt];exact Yh
  ·rintro σ H5 ⟨u5,u6,u7,u8,u9,rfl,sA,hA5,hR5,hC5⟩;rw [au,lts] at hR5 hC5;rw [<- ug g,bO] at hC5;refine ⟨_,rfl,_,rfl,by show 2<=sizeLine; decide,fun t ht=>?_⟩;have vt:=aX (o:=.tup [V.ref lA,.ref lC]) ht;exact q _ t lA lC ls ((s1.trans s12).trans (sA.trans vt)) aG ((s1.trans s12).free fC) (vt _ _ hC5) (vt _ _ hA5) ll (hR5.same vt) nCA nC
end
abbrev yH:cX:=top 40
def jq:Option Int->V
 | none=>.non
 | some k=>.int k
theorem Tj {n j:Nat} (h:j < n):Qx n (j:Int)=some j:=by
 unfold Qx;rw [if_pos (by omega),if_pos (by omega)];simp
structure aha (K:Fg) (mg:Str->Option aC) (a:fP) (dV:aC):Prop where
 W:yD K mg a dV
 en:mg "enumerate"=none
 di:mg "dict"=none
 ro:∃ f fd,Fn K "roads" "roads" uR ["garden"] f fd/\mg "roads"=some (.ref f)
 ta:∃ f fd,Fn K "table" "table" yH ["garden"] f fd/\mg "table"=some (.ref f)
theorem Tn {α β:Type} {F:α->List β} {E:List α} {j:Nat} {n:α} (h:E[j]?=some n) (k:Nat):((E.take j).flatMap F++(F n).take k)++((F n).drop k++(E.drop (j + 1)).flatMap F)=E.flatMap F:=by
 obtain ⟨lt,e⟩:=aD.mp h;have e1:E.flatMap F=(E.take j).flatMap F++(F n++(E.drop (j + 1)).flatMap F):=by
  conv=>lhs; rw [<- take_append_drop j E,List.flatMap_append,List.drop_eq_getElem_cons lt,e,flatMap_cons]
 rw [e1,append_assoc,<- append_assoc ((F n).take k),take_append_drop]
theorem range_one {α:Type} (y:α) (n:Nat):(List.range n).map (fun _=>y)=List.replicate n y:=by
 rw [List.eq_replicate_iff,au,cg];refine ⟨rfl,fun z hz=>?_⟩;obtain ⟨_,_,e⟩:=bh.mp hz;exact e.symm
theorem int_at {xs:List Int} {o:Nat} (h:o < xs.length):(xs.map V.int)[o]?=some (.int (xs.getD o 0)):=by simp [h]
section
variable {P:bZ} {w:World} {K:Fg} {mg:Str->Option aC} {base:Heap} {a:fP} {dV:aC}
abbrev ahb:List Str:=["garden","found","ahead","left","answer","ending","days","earlier","number","other"]
def Mr (a:fP):Sp:=fun vs H Q _=>∃ x g,vs=[.ref x]/\eZ a H x g/\Bo g/\∀ H' l ans,Same H H'->H l=none->H' l=some (.lst (ans.map jq))->Told (iR g) (mU g) ans->Q (.ref l) H'
theorem iQ:bM ahb ["garden"] (aW yH):=dI (by decide +kernel)
theorem Tp {f:aB} {fd:d7} (F:lB K "table" "table" yH f fd) (L:aha K mg a dV):bT P w K mg base (d9 P w) 6 f fd ["garden"] (Mr a):=by
 refine F.jU iQ (fun vs H Q E h=>?_) (fun cdv A outer s H vs Q E hr h=>?_)
 ·obtain ⟨x,g,rfl,_⟩:=h;rfl
 ·obtain ⟨x,g,rfl,gx,ok,q⟩:=h;have W:=L.W;have B:=W.S.Z.G.T.B;obtain ⟨fr,dr,rF,mR⟩:=L.ro;have Pa:bT P w K mg base (d9 P w) 5 fr dr ["garden"] (Mq a):=Ti rF.F W L.en L.di;have kR:=rF.F.kp;have bR:=rF.b;have ndB:[("number":Str),"count"].Nodup:=by decide +kernel
  refine ⟨_,aJ (bF (i:=1) iQ.nd rfl (Or.inl rfl) (cH Pa hr mR kR bR bf (ak (pv 0) aK))) (aJ (bF (i:=2) iQ.nd rfl (Or.inl rfl) (cQ cB (pv 1) aR (fun _ _=>rfl))) (aJ (bF (i:=3) iQ.nd rfl (Or.inl rfl) (cQ cB (pv 1) aR (fun _ _=>rfl))) (aJ (sW (i:=4) iQ.nd rfl (Or.inl rfl) bQ rfl ⟨_,_,rfl,rfl,rfl⟩ (gR.plain (N':=["count"]) rfl (by decide +kernel) (by decide +kernel)) (fu (pv 3)) (fun _ _ _ _ _=>cL 0 (show [("count":Str)].Nodup by decide +kernel)) (fun _ _ _ _ _=>gJ) (fun _ _ _ _ _ _=>jJ)) (aJ (sW (i:=5) iQ.nd rfl (Or.inl rfl) bQ rfl ⟨_,_,rfl,rfl,rfl⟩ (gR.plain (N':=["number","count"]) rfl (by decide +kernel) (by decide +kernel)) (CZ (by rfl) L.en (ak (pv 3) aK)) (fun _ _ _ _ _=>yu K (n:=2) rfl (bY (cL 0 ndB) (bY (cL 1 ndB) gQ))) (fun _ _ _ _ _=>K8 (c7 oK (pv 1) aR (dH _))) (fun _ _ _ _ _ _=>pv 0)) (aJ (bF (i:=6) iQ.nd rfl (Or.inl rfl) aR) (aJ (rW dY (Qm (pv 5) (fun _=>rfl)) (aJ (bF (i:=7) iQ.nd rfl (Or.inl rfl) (iG aK)) (aJ (iw dY rfl (fu (pv 5)) (cL 8 iQ.nd) (aJ (Cm (pv 6) (P0 (pv 4) (pv 8) set_list)) (aU (iw dY rfl (fu (cQ jC (pv 2) (pv 8) (fun _ _=>rfl))) (cL 9 iQ.nd) (aJ (WL (pv 3) (pv 9) Ro aR afY set_list) (aU (eE (c7 oK (cQ jC (pv 3) (pv 9) (fun _ _=>rfl)) aR (dH _)) (aU (iu (vV PySem.F.plainAttrs_list PySem.F.slot_list_append PySem.F.type_list_append iU (pv 7) (ak (pv 9) aK)))) cA))))))) (aJ (bF (i:=5) iQ.nd rfl (Or.inl rfl) (pv 7)) (aU (afW (i:=6) iQ.nd rfl (Or.inl rfl) aR afX)))))) (aU (bU (pv 4))))))))),?_⟩;have small:=ok.small;have big:20000 * 257<=sizeLine:=by decide
  have G:=ag5 ok;refine ⟨_,rfl,x,g,rfl,gx,ok,fun H1 tf lA lC ls s1 htf fC hC hA ll hR nCA nC=>?_⟩;refine ⟨_,rfl,tf,_,0,.ref lA,rfl,rfl,d8.of htf,rfl,_,rfl,tf,_,1,.ref lC,rfl,rfl,d8.of htf,rfl,?_⟩;have lsu:=ug g;have lCv:((mU g).map fun ts=>V.int (ts.length:Int)).length=iR g:=by rw [au,lsu]
  obtain ⟨oO,el0⟩:∃ oO:List Int,oO=(mU g).map fun ts=>(ts.length:Int):=⟨_,rfl⟩
  have eC0:((mU g).map fun ts=>V.int (ts.length:Int))=oO.map V.int:=by rw [el0,fG]; rfl
  have ll0:oO.length=iR g:=by rw [el0,au,lsu]
  rw [eC0] at hC lCv;refine ⟨_,rfl,lC,rfl,⟨_,cW.of hC⟩,fun lN JN=>?_⟩;refine wL (iR g) (by omega) (fun _=>.non) (fun i H'=>H'=L2.upd H1 lN (.lst ((List.range i).map fun _=>V.non))) rfl (fun i H' _ e=>by rw [e,aG]) (fun H' e=>⟨?_,?_⟩) (fun i H' lt e=>⟨?_,?_⟩)
  ·subst e;exact ⟨_,cW.of ((aX JN) _ _ hC),by rw [au]; omega⟩
  rotate_left
  ·subst e;exact ⟨_,_,cW.of ((aX JN) _ _ hC),by rw [aF,aA (by omega)]; rfl⟩
  ·rintro y Eh ⟨rfl,_⟩ Qc k;subst e;exact ⟨fH,k _ aG (by rw [lK])⟩
  subst e;have vN:=aX (o:=.lst ((List.range (iR g)).map fun _=>V.non)) JN;have eN:L2.upd H1 lN (.lst ((List.range (iR g)).map fun _=>V.non)) lN=some (.lst ((List.replicate (iR g) (none:Option Int)).map jq)):=by
   rw [aG,range_one,List.map_replicate];rfl
  have s2:=s1.trans vN;have ZL:=vN _ _ hC;have hA2:=vN _ _ hA;have hR2:=hR.same vN;have nNC:lN≠lC:=fun z=>by rw [z,hC] at JN; cases JN
  have nNA:lN≠lA:=fun z=>by rw [z,hA] at JN; cases JN
  have nN:lN ∉ ls:=fun hm=>by
   obtain ⟨jm,hj⟩:=List.getElem?_of_mem hm;have:=hR jm lN hj;rw [JN] at this;cases this
  have fN:H lN=none:=s1.free JN;generalize L2.upd H1 lN (.lst ((List.range (iR g)).map fun _=>V.non))=H2 at eN s2 ZL hA2 hR2 ⊢;refine ⟨_,rfl,lC,_,rfl,cW.of ZL,fun lE hlE=>?_⟩;have Ms:∀ i,i < iR g->oO.getD i 0=(((mU g).getD i []).length:Int):=fun i lt=>by
   rw [el0];simp [getD,JK lt]
  refine Lk (iR g) (by omega) (fun i acc H'=>acc=jA ((List.range i).filter fun n=>decide ((((mU g).getD n []).length:Int)=0))/\Same H2 H'/\H' lE=some (.lst acc)) ⟨rfl,aX hlE,aG⟩ (fun i acc H' le ⟨e,_,e'⟩=>⟨by rw [e,pL]; exact bH (length_filter_le _ _) (by rw [cg]; exact aM _),e'⟩) ?_ ?_
  rotate_left
  ·rintro i acc H' lt ⟨rfl,s',e⟩;have hx:(oO.map V.int)[i]?=some (.int (oO.getD i 0)):=int_at (by omega);have sq:cW K H' lC (oO.map V.int):=cW.of (s' _ _ ZL);refine ⟨⟨_,_,sq,hx⟩,?_⟩;rintro y Eh ⟨t2,wV,rfl,hu⟩ Qc Qn k kn;have e2:=hu _ _ sq hx;subst e2;have v2:=aX (o:=.tup [V.int ((i:Nat):Int),.int (oO.getD i 0)]) wV;have e3:=v2 _ _ e;refine ⟨t2,_,rfl,d8.of aG,rfl,_,_,rfl,_,_,rfl,rfl,fH,_,rfl,rfl,_,rfl,?_⟩
   by_cases z:oO.getD i 0=0
   ·refine eqT z ⟨_,rfl,k _ _ e3 ⟨?_,gK (s'.trans v2) hlE,aG⟩⟩;rw [Ms i lt] at z;have e1:([i]:List Nat).filter (fun n=>decide ((((mU g).getD n []).length:Int)=0))=[i]:=by
     rw [List.filter_cons,if_pos (by simpa using z)];rfl
    rw [cN,filter_append,e1,uQ]
   ·refine eqF z (kn _ ⟨?_,s'.trans v2,e3⟩);rw [Ms i lt] at z;rw [cN,filter_append];have:([i]:List Nat).filter (fun n=>decide ((((mU g).getD n []).length:Int)=0))=[]:=by
     rw [List.filter_cons,if_neg (by simpa using z)];rfl
    rw [this,cZ]
  rintro acc H3 ⟨rfl,s3,e3⟩;refine ⟨⟨_,cW.of (s3 _ _ ZL),by rw [au]; omega⟩,?_⟩;have L0:Lv (iR g) (mU g) (Tc g) 0 (List.replicate (iR g) none) oO ((List.range (iR g)).filter fun n=>decide ((((mU g).getD n []).length:Int)=0)):=by
   rw [el0];exact Jj G
  have nEC:lE≠lC:=fun z=>by rw [z,ZL] at hlE; cases hlE
  have nEN:lE≠lN:=fun z=>by rw [z,eN] at hlE; cases hlE
  obtain ⟨W',eW⟩:∃ W':Nat->St->Hp->Prop,W'=fun m σ H'=>∃ (d:Nat) (ans:wG) (left:List Int) (E:List Nat) (lE:aB) (u7 u8 u9:Option V),σ=[some (.ref x),some (.ref tf),some (.ref lA),some (.ref lC),some (.ref lN),some (.ref lE),some (.int (d:Int)),u7,u8,u9]/\m=nones ans/\Lv (iR g) (mU g) (Tc g) d ans left E/\Same H H' /\ H' lA=some (.lst (ls.map V.ref))/\iI H' ls (Tc g)/\H' lC=some (.lst (left.map V.int))/\H' lN=some (.lst (ans.map jq))/\H' lE=some (.lst (jA E))/\lE≠lC/\lE≠lN:=⟨_,rfl⟩
  refine ⟨W',⟨nones (List.replicate (iR g) none),by rw [eW]; exact ⟨0,_,oO,_,lE,none,none,none,rfl,rfl,L0,s2.trans s3,s3 _ _ hA2,hR2.same s3,s3 _ _ ZL,s3 _ _ eN,e3,nEC,nEN⟩⟩,?_⟩;clear e3 nEC nEN L0;intro m σ H4 hW;rw [eW] at hW;obtain ⟨d,ans,left,E,Yi,u7,u8,u9,rfl,rfl,Lv',s4,hA4,hR4,hC4,hN4,hE4,nEC,nEN⟩:=hW;refine ⟨_,rfl,!(jA E).isEmpty,.inl ⟨_,cW.of hE4,rfl⟩,?_⟩
  by_cases z:E=[]
  ·subst z;rw [show (!(jA ([]:List Nat)).isEmpty)=false from rfl];exact dU ⟨_,rfl,q H4 lN ans s4 fN hN4 (Xk Lv')⟩
  have ne:(!(jA E).isEmpty)=true:=by
   cases E with
   | nil=>exact absurd rfl z
   | cons _ _=>rfl
  rw [ne];refine dN ⟨fun σ' H'=>∃ m',m' < nones ans/\W' m' σ' H',fun _ _ h=>h,?_⟩;refine ⟨by show 0<=sizeLine; decide,fun lF Tr=>?_⟩;have vF:=aX (o:=.lst []) Tr;have nFC:lF≠lC:=fun z=>by rw [z,hC4] at Tr; cases Tr
  have nFN:lF≠lN:=fun z=>by rw [z,hN4] at Tr; cases Tr
  have nFA:lF≠lA:=fun z=>by rw [z,hA4] at Tr; cases Tr
  have nFE:lF≠Yi:=fun z=>by rw [z,hE4] at Tr; cases Tr
  have nFl:lF ∉ ls:=fun hm=>by
   obtain ⟨jm,hj⟩:=List.getElem?_of_mem hm;have:=hR4 jm lF hj;rw [Tr] at this;cases this
  have fF:H lF=none:=s4.free Tr;have lE1:(jA E).length=E.length:=pL E;obtain ⟨Fa,eFa⟩:∃ Fa:Nat->List Nat,Fa=fun t=>(Tc g).getD t []:=⟨_,rfl⟩
  refine ⟨_,rfl,Yi,rfl,⟨_,cW.of (vF _ _ hE4)⟩,?_⟩;refine je (K:=K) (a:=Yi) (xs:=jA E) (fun j σ H'=>∃ u8 u9,σ=[some (.ref x),some (.ref tf),some (.ref lA),some (.ref lC),some (.ref lN),some (.ref Yi),some (.int (d:Int)),some (.ref lF),u8,u9]/\Same H H'/\H' lA=some (.lst (ls.map V.ref))/\iI H' ls (Tc g) /\ H' lC=some (.lst ((((E.take j).flatMap Fa).foldl gG (left,[])).1.map V.int))/\H' lN=some (.lst ((dz ans (d:Int) (E.take j)).map jq))/\H' Yi=some (.lst (jA E))/\H' lF=some (.lst (jA (((E.take j).flatMap Fa).foldl gG (left,[])).2))) ⟨_,_,rfl,s4.trans vF,vF _ _ hA4,hR4.same vF,vF _ _ hC4,vF _ _ hN4,vF _ _ hE4,aG⟩ (fun j σ H' _ ⟨_,_,_,_,_,_,_,_,e,_⟩=>cW.of e) ?_ ?_
  ·rintro j y σ H6 hj ⟨v8,v9,rfl,s6,hA6,hR6,Ye,hN6,hE6,hF6⟩;unfold jA at hj;rw [aF] at hj;obtain ⟨n,hn,rfl⟩:=bA.mp hj;have ln:n < iR g:=((Lv'.mem n).mp (aH hn)).1;have la:(dz ans (d:Int) (E.take j)).length=iR g:=by rw [qU,Lv'.Rr]
   refine ⟨_,rfl,_,rfl,_,rfl,lN,_,_,n,rfl,rfl,hN6,Tj (by rw [au,la]; exact ln),?_⟩;have hN7:L2.upd H6 lN (.lst (((dz ans (d:Int) (E.take j)).map jq).set n (.int (d:Int)))) lN=some (.lst ((dz ans (d:Int) (E.take (j + 1))).map jq)):=by
    rw [aG,take_snoc hn,Gh,map_set];rfl
   have s7:Same H (L2.upd H6 lN (.lst (((dz ans (d:Int) (E.take j)).map jq).set n (.int (d:Int))))):=gK s6 fN;have hA7:L2.upd H6 lN (.lst (((dz ans (d:Int) (E.take j)).map jq).set n (.int (d:Int)))) lA=some (.lst (ls.map V.ref)):=by rw [bw (Ne.symm nNA)]; exact hA6
   have hR7:=hR6.upd (o:=.lst (((dz ans (d:Int) (E.take j)).map jq).set n (.int (d:Int)))) nN;have hC7:L2.upd H6 lN (.lst (((dz ans (d:Int) (E.take j)).map jq).set n (.int (d:Int)))) lC=some (.lst ((((E.take j).flatMap Fa).foldl gG (left,[])).1.map V.int)):=by rw [bw (Ne.symm nNC)]; exact Ye
   have hE7:L2.upd H6 lN (.lst (((dz ans (d:Int) (E.take j)).map jq).set n (.int (d:Int)))) Yi=some (.lst (jA E)):=by rw [bw nEN]; exact hE6
   have hF7:L2.upd H6 lN (.lst (((dz ans (d:Int) (E.take j)).map jq).set n (.int (d:Int)))) lF=some (.lst (jA (((E.take j).flatMap Fa).foldl gG (left,[])).2)):=by rw [bw nFN]; exact hF6
   generalize L2.upd H6 lN (.lst (((dz ans (d:Int) (E.take j)).map jq).set n (.int (d:Int))))=H7 at hN7 s7 hA7 hR7 hC7 hE7 hF7 ⊢;obtain ⟨b,hb⟩:∃ b,ls[n]?=some b:=⟨_,aA (by omega)⟩;have hbm:(ls.map V.ref)[n]?=some (.ref b):=by rw [aF,hb]; rfl
   have hrow:∀ {H':Hp},iI H' ls (Tc g)->H' b=some (.lst (jA (Fa n))):=fun h=>by rw [eFa]; exact h n b hb
   refine ⟨_,rfl,_,rfl,lA,_,((n:Nat):Int),.ref b,rfl,rfl,cW.of hA7,jh hbm,b,rfl,⟨_,cW.of (hrow hR7)⟩,?_⟩;refine je (K:=K) (a:=b) (xs:=jA (Fa n)) (fun k σ H'=>∃ u9,σ=[some (.ref x),some (.ref tf),some (.ref lA),some (.ref lC),some (.ref lN),some (.ref Yi),some (.int (d:Int)),some (.ref lF),some (.int ((n:Nat):Int)),u9]/\Same H H'/\H' lA=some (.lst (ls.map V.ref))/\iI H' ls (Tc g) /\ H' lC=some (.lst ((((E.take j).flatMap Fa++(Fa n).take k).foldl gG (left,[])).1.map V.int))/\H' lN=some (.lst ((dz ans (d:Int) (E.take (j + 1))).map jq))/\H' Yi=some (.lst (jA E))/\H' lF=some (.lst (jA (((E.take j).flatMap Fa++(Fa n).take k).foldl gG (left,[])).2))) ⟨_,rfl,s7,hA7,hR7,by rw [take_zero,cZ]; exact hC7,hN7,hE7,by rw [take_zero,cZ]; exact hF7⟩ (fun k σ H' _ ⟨_,_,_,_,e,_⟩=>cW.of (hrow e)) ?_ ?_
   ·rintro k y σ H8 hk ⟨v9,rfl,s8,hA8,hR8,Yg,hN8,hE8,hF8⟩;unfold jA at hk;rw [aF] at hk;obtain ⟨o,ho,rfl⟩:=bA.mp hk;have hom:o ∈ (Tc g).getD n []:=by
     have:=aH ho;rw [eFa] at this;exact this
    have lo:o < iR g:=G.inA o n hom;obtain ⟨pl,ps⟩:=Jl G Lv' (os:=(E.take j).flatMap Fa++(Fa n).take k) (qs:=(Fa n).drop k++(E.drop (j + 1)).flatMap Fa) (by rw [Tn hn,eFa]);have nx:((E.take j).flatMap Fa++(Fa n).take (k + 1)).foldl gG (left,[])=gG (((E.take j).flatMap Fa++(Fa n).take k).foldl gG (left,[])) o:=by
     rw [take_snoc ho,<- append_assoc,foldl_append];rfl
    rw [nx];generalize ((E.take j).flatMap Fa++(Fa n).take k).foldl gG (left,[])=R at Yg hF8 pl ps ⊢;have lo':o < R.1.length:=by omega
    refine ⟨_,rfl,_,rfl,lC,_,o,_,rfl,rfl,cW.of Yg,int_at lo',_,_,rfl,rfl,lC,_,_,o,rfl,rfl,Yg,Tj (by rw [au]; exact lo'),?_⟩;have Z9:L2.upd H8 lC (.lst ((R.1.map V.int).set o (.int (R.1.getD o 0 - 1)))) lC=some (.lst ((gG R o).1.map V.int)):=by
     rw [aG];unfold gG;rw [map_set]
    have s9:Same H (L2.upd H8 lC (.lst ((R.1.map V.int).set o (.int (R.1.getD o 0 - 1))))):=gK s8 fC;have Z8:L2.upd H8 lC (.lst ((R.1.map V.int).set o (.int (R.1.getD o 0 - 1)))) lA=some (.lst (ls.map V.ref)):=by rw [bw (Ne.symm nCA)]; exact hA8
    have Yh:=hR8.upd (o:=.lst ((R.1.map V.int).set o (.int (R.1.getD o 0 - 1)))) nC;have hN9:L2.upd H8 lC (.lst ((R.1.map V.int).set o (.int (R.1.getD o 0 - 1)))) lN=some (.lst ((dz ans (d:Int) (E.take (j + 1))).map jq)):=by rw [bw nNC]; exact hN8
    have hE9:L2.upd H8 lC (.lst ((R.1.map V.int).set o (.int (R.1.getD o 0 - 1)))) Yi=some (.lst (jA E)):=by rw [bw nEC]; exact hE8
    have hF9:L2.upd H8 lC (.lst ((R.1.map V.int).set o (.int (R.1.getD o 0 - 1)))) lF=some (.lst (jA R.2)):=by rw [bw nFC]; exact hF8
    generalize L2.upd H8 lC (.lst ((R.1.map V.int).set o (.int (R.1.getD o 0 - 1))))=H9 at Z9 s9 Z8 Yh hN9 hE9 hF9 ⊢;have g9:((gG R o).1.map V.int)[o]?=some (.int (R.1.getD o 0 - 1)):=by
     unfold gG;simp [lo']
    refine ⟨_,rfl,_,rfl,lC,_,_,_,rfl,rfl,cW.of Z9,jh g9,rfl,_,rfl,?_⟩
    by_cases zz:R.1.getD o 0 - 1=0
    ·refine eqT zz ⟨_,rfl,.inl ⟨rfl,_,cW.of hF9⟩,_,rfl,lF,_,_,rfl,rfl,hF9,by rw [pL]; omega,?_⟩;have eR:(gG R o).2=R.2++[o]:=by unfold gG; exact if_pos zz
     refine ⟨_,rfl,gK s9 fF,by rw [bw (Ne.symm nFA)]; exact Z8,Yh.upd nFl,by rw [bw (Ne.symm nFC)]; exact Z9,by rw [bw (Ne.symm nFN)]; exact hN9,by rw [bw (Ne.symm nFE)]; exact hE9,by rw [aG,eR,uQ]⟩
    ·have eR:(gG R o).2=R.2:=by unfold gG; exact if_neg zz
     exact eqF zz ⟨_,rfl,s9,Z8,Yh,Z9,hN9,hE9,by rw [eR]; exact hF9⟩
   ·rintro σ H8 ⟨v9,rfl,s8,hA8,hR8,Yg,hN8,hE8,hF8⟩;have ef:(E.take (j + 1)).flatMap Fa=(E.take j).flatMap Fa++(Fa n).take (jA (Fa n)).length:=by
     rw [take_snoc hn,List.flatMap_append,pL,bO];simp
    rw [<- ef] at Yg hF8;exact ⟨_,_,rfl,s8,hA8,hR8,Yg,hN8,hE8,hF8⟩
  ·rintro σ H6 ⟨v8,v9,rfl,s6,hA6,hR6,Ye,hN6,hE6,hF6⟩;rw [lE1,bO] at Ye hN6 hF6;refine ⟨_,rfl,_,rfl,_,_,rfl,rfl,?_⟩;have en:=Oj (Tc g) (d:Int) ans left E;have Lv2:=Rt G Lv';have less:=Jk Lv';rw [en] at Lv2 less;have Ji:0 < E.length:=List.length_pos_iff.mpr z;refine ⟨nones (dz ans (d:Int) E),by show nones (dz ans (d:Int) E) < nones ans; have:nones (dz ans (d:Int) E) + E.length=nones ans:=less; omega,?_⟩;rw [eW];rw [eFa] at Ye hF6;exact ⟨d + 1,_,_,_,lF,_,_,_,rfl,rfl,Lv2,s6,hA6,hR6,Ye,hN6,hF6,nFC,nFN⟩
end
abbrev Bq:cX:=top 29
section
variable {P:bZ} {w:World} {K:Fg} {mg:Str->Option aC} {base:Heap} {a:fP} {dV:aC}
noncomputable def JQ (K:Fg) (a:fP):Sp:=fun vs H Q E=>∃ x g c kc,vs=[.ref x,c]/\eZ a H x g/\(∀ p ∈ g.pots,p.Ok)/\g.pots.length<=8/\fK K H c kc/\LC a H (fun x=>Q (.ref x)) E (some g.pots) c (.int g.week) (.int g.closed)
theorem ahc:bM ["garden","cans"] ["garden","cans"] (aW Bq):=dI (by decide +kernel)
theorem GX (Z:zX K mg a dV) {f:aB} {fd:d7} (F:lB K "with_cans" "with_cans" Bq f fd):bT P w K mg base (d9 P w) 9 f fd ["garden","cans"] (JQ K a):=by
 refine F.jU ahc (fun vs H Q E h=>?_) (fun cdv A outer s H vs Q E hr h=>?_)
 ·obtain ⟨x,g,c,kc,rfl,_⟩:=h;rfl
 ·obtain ⟨x,g,c,kc,rfl,⟨dx,l,as,hx,hl,pt⟩,iJ,h8,hc,post⟩:=h;refine ⟨_,aU (bU (xT Z.kG (Sq Z) hr Z.R8 Z.b4 (cY bQ) (ak (cJ (pv 0) rfl) (ak (pv 1) (ak (cJ (pv 0) rfl) (ak (cJ (pv 0) rfl) aK)))))),?_⟩;refine ⟨_,rfl,x,a.garden,dx,_,_,rfl,hx,Z.tG.cl,Z.nG _ (by simp),iH ..,_,rfl,_,rfl,x,a.garden,dx,_,_,rfl,hx,Z.tG.cl,Z.nG _ (by simp),jK ..,_,rfl,x,a.garden,dx,_,_,rfl,hx,Z.tG.cl,Z.nG _ (by simp),tX ..,?_⟩;have la:as.length=g.pots.length:=Paired.length pt;exact Jx (kw:=.int) (kl:=.int) (eZ.arg (x:=x) (dx:=dx) hl (by omega) pt iJ) hc ⟨_,rfl⟩ ⟨_,rfl⟩ post
end
abbrev GZ:cX:=top 41
abbrev lR:cX:=top 42
structure Tt (K:Fg) (mg:Str->Option aC) (a:fP) (dV:aC):Prop where
 L:aha K mg a dV
 fre:∃ f fd,Fn K "fresh" "Garden.fresh" JD ["self"] f fd/\Meth K a.garden "fresh" f
 to:∃ f fd,Fn K "told_or_fresh" "told_or_fresh" GZ ["garden","state"] f fd/\mg "told_or_fresh"=some (.ref f)
 dof:∃ f fd dv,Ju K "days_of" "days_of" lR dv f fd/\Binds K fd ["garden","state"] []/\Binds K fd ["garden","state"] [.none]/\mg "days_of"=some (.ref f)
section
variable {P:bZ} {w:World} {K:Fg} {mg:Str->Option aC} {base:Heap} {a:fP} {dV:aC}
theorem yI:∀ ps:List bB,numOf 0 ps (List.replicate ps.length 0)=0
 | []=>rfl
 | p::ps=>by
  show numOf (0 * p.gap + 0) ps (List.replicate ps.length 0)=0
  rw [Int.zero_mul,Int.zero_add];exact yI ps
theorem G3 {g:eF} (ok:Bo g):m9 g.week g.pots 0 (List.replicate g.pots.length 0):=by
 refine ⟨cu _,ok.w0,length_replicate,fun i y p hy hp=>?_⟩;have e:y=0:=(List.mem_replicate.mp (aH hy)).2;have:=(ok.iJ p (aH hp)).gap.1;omega
noncomputable def Tv (K:Fg) (a:fP):Sp:=fun vs H Q E=>∃ x g v,vs=[.ref x,v]/\eZ a H x g/\g.pots.length<=8/\((v=.non/\∀ H' t,Same H H'->qC H' (.ref t) 0 (List.replicate g.pots.length 0)->Q (.ref t) H') \/ (v≠.non/\∃ b,j5 K H g.week g.pots v b/\(b=false->∀ H',Same H H'->E (.ref a.gW) none H')/\(b=true->∀ H',Same H H'->Q v H')))
theorem ahd:bM ["garden","state"] ["garden","state"] (aW GZ):=dI (by decide +kernel)
theorem Yj {f ff:aB} {fd df:d7} (F:lB K "told_or_fresh" "told_or_fresh" GZ f fd) (S:JB K mg a dV) (fF:Fn K "fresh" "Garden.fresh" JD ["self"] ff df) (hF:Meth K a.garden "fresh" ff):bT P w K mg base (d9 P w) 4 f fd ["garden","state"] (Tv K a):=by
 refine F.jU ahd (fun vs H Q E h=>?_) (fun cdv A outer s H vs Q E hr h=>?_)
 ·obtain ⟨x,g,v,rfl,_⟩:=h;rfl
 ·obtain ⟨x,g,v,rfl,gx,h8,h⟩:=h;have Z:=S.Z;have okf:bT P w K mg base (d9 P w) 1 ff df ["self"] (Z0 a):=agZ Z fF.F;have hr1:dJ 1 _:=hr.mono (by decide);refine ⟨_,aJ (eE (c7 xu (pv 1) jJ (dH _)) (aU (bU (rZ (pv 0) Z.tG.cl hF okf hr1 fF.b .nil bf))) cA) (aJ (iu (cH (yx S) hr S.agV S.ref.F.kp S.ref.b (cY bQ) (ak (pv 0) (ak (pv 1) aK)))) (aU (bU (pv 1)))),?_⟩;obtain ⟨dx,l,as,hx,_,_⟩:=id gx;refine ⟨_,rfl,rfl,_,rfl,?_⟩;rcases h with ⟨rfl,q⟩ | ⟨nn,b,sa,bad,good⟩
  ·rw [aO rfl];exact dN ⟨_,rfl,x,dx,_,rfl,hx,Jw _ _ _ _ (by decide +kernel) (by decide +kernel) (by decide +kernel) (by decide +kernel),x,g,rfl,gx,h8,q⟩
  ·rw [aP nn];exact dU ⟨_,rfl,_,rfl,x,g,v,b,rfl,gx,h8,sa,bad,fun eb H1 s1=>⟨_,rfl,good eb H1 s1⟩⟩
noncomputable def pO (K:Fg) (a:fP):Sp:=fun vs H Q E=>∃ x g v,vs=[.ref x,v]/\eZ a H x g/\Bo g/\((v=.non/\∀ H' ans,Same H H'->Told (iR g) (mU g) ans->Q (jq (ans.getD 0 none)) H') \/ (v≠.non/\∃ b,j5 K H g.week g.pots v b/\(b=false->∀ H',Same H H'->E (.ref a.gW) none H') /\ (b=true->∀ d ds (n:Nat) H' ans,qC H v d ds->m9 g.week g.pots d ds->numOf d g.pots ds=(n:Int)->n < iR g->Same H H'->Told (iR g) (mU g) ans->Q (jq (ans.getD n none)) H')))
theorem G4:bM ["garden","state","here"] ["garden","state"] (aW lR):=dI (by decide +kernel)
theorem Mt {ans:wG} {n:Nat} (h:n < ans.length):(ans.map jq)[n]?=some (jq (ans.getD n none)):=by simp [h]
theorem qy {f:aB} {fd:d7} {dv:aC} (F:Ju K "days_of" "days_of" lR dv f fd) (X:Tt K mg a dV):bT P w K mg base (d9 P w) 7 f fd ["garden","state"] (pO K a):=by
 refine F.jU G4 (fun vs H Q E h=>?_) (fun cdv A outer s H vs Q E hr h=>?_)
 ·obtain ⟨x,g,v,rfl,_⟩:=h;rfl
 ·obtain ⟨x,g,v,rfl,gx,ok,h⟩:=h;have S:=X.L.W.S;have Z:=S.Z;obtain ⟨ff,df,fF,hF⟩:=X.fre;obtain ⟨fo,Tz,oF,mO⟩:=X.to;obtain ⟨ft,dt,tF,mT⟩:=X.L.ta;have Mj:bT P w K mg base (d9 P w) 4 fo Tz ["garden","state"] (Tv K a):=Yj oF.F S fF hF;have okt:bT P w K mg base (d9 P w) 6 ft dt ["garden"] (Mr a):=Tp tF.F X.L;have hr4:dJ 4 _:=hr.mono (by decide);refine ⟨_,aJ (bF (i:=2) G4.nd rfl (Or.inl rfl) (cH Mj hr4 mO oF.F.kp oF.b (cY bQ) (ak (pv 0) (ak (pv 1) aK)))) (aU (bU (cQ jC (cH okt hr mT tF.F.kp tF.b bf (ak (pv 0) aK)) (K1 (pv 0) Z.tG.cl S.ayo (agX S) hr4 S.num.b .nil (cY bQ) (ak (pv 2) aK)) (fun _ _=>rfl)))),?_⟩;refine ⟨_,rfl,_,rfl,x,g,v,rfl,gx,ok.n8,?_⟩;rcases h with ⟨rfl,q⟩ | ⟨nn,b,sa,bad,good⟩
  ·refine .inl ⟨rfl,fun H1 t s1 st=>?_⟩;refine ⟨_,rfl,x,g,rfl,gx.same s1,ok,fun H2 l ans s2 fl hl told=>?_⟩;have gx2:=(gx.same s1).same s2;have st2:=st.same s2;obtain ⟨dx,lx,as,hx,_,_⟩:=id gx2;refine ⟨_,rfl,x,dx,_,rfl,hx,Jw _ _ _ _ (by decide +kernel) (by decide +kernel) (by decide +kernel) (by decide +kernel),_,rfl,x,g,_,true,rfl,gx2,ok.iJ,ok.n8,st2.arg (G3 ok),(fun z=>nomatch z),fun _ d' ds' H3 sv Yk s3=>?_⟩;obtain ⟨rfl,rfl⟩:=sv.one st2;obtain ⟨n,en,ln,_⟩:=rC ok Yk;rw [en];have e0:n=0:=by
    rw [yI] at en;omega
   subst e0;exact ⟨l,_,_,_,rfl,rfl,cW.of (s3 _ _ hl),jh (Mt (by rw [told.len]; exact ln)),q H3 ans ((s1.trans s2).trans s3) told⟩
  ·refine .inr ⟨nn,b,sa,bad,fun eb H1 s1=>?_⟩;subst eb;obtain ⟨d,ds,st,sok⟩:=sa.good;refine ⟨_,rfl,x,g,rfl,gx.same s1,ok,fun H2 l ans s2 fl hl told=>?_⟩;have gx2:=(gx.same s1).same s2;have st2:=(st.same s1).same s2;obtain ⟨dx,lx,as,hx,_,_⟩:=id gx2;refine ⟨_,rfl,x,dx,_,rfl,hx,Jw _ _ _ _ (by decide +kernel) (by decide +kernel) (by decide +kernel) (by decide +kernel),_,rfl,x,g,_,true,rfl,gx2,ok.iJ,ok.n8,st2.arg sok,(fun z=>nomatch z),fun _ d' ds' H3 sv Yk s3=>?_⟩;obtain ⟨rfl,rfl⟩:=sv.one st2;obtain ⟨n,en,ln,_⟩:=rC ok Yk;rw [en];exact ⟨l,_,_,_,rfl,rfl,cW.of (s3 _ _ hl),jh (Mt (by rw [told.len]; exact ln)),good rfl d' ds' n H3 ans st Yk en ln ((s1.trans s2).trans s3) told⟩
end
structure Goes (g:eF) (S:Int->List Int->Prop):Prop where
 ok:∀ d ds,S d ds->m9 g.week g.pots d ds
 on:∀ d ds,S d ds->∃ c ∈ j6 g d ds,S c.2.1 c.2.2
def gD (g:eF):Prop:=∃ S,Goes g S/\S 0 (List.replicate g.pots.length 0)
theorem nu {g:eF} (ok:Bo g) {ans:wG} (T:Told (iR g) (mU g) ans):ans.getD 0 none=none ↔ gD g:=by
 have z:numOf 0 g.pots (List.replicate g.pots.length 0)=0:=yI g.pots;constructor
 ·intro h;refine ⟨fun d ds=>m9 g.week g.pots d ds/\ans.getD (numOf d g.pots ds).toNat none=none,⟨fun d ds q=>q.1,fun d ds q=>?_⟩,G3 ok,by rw [z]; exact h⟩;obtain ⟨st,e⟩:=q;obtain ⟨t,et,lt,est⟩:=rC ok st;rw [et] at e;obtain ⟨s,hs,es⟩:=T.ever t lt e;rw [ou lt] at hs;unfold Dz at hs;rw [est] at hs;obtain ⟨c,hc,rfl⟩:=bh.mp hs;exact ⟨c,hc,JH ok st hc,es⟩
 ·rintro ⟨S,G,s0⟩;have no:∀ (m:Nat) (k:Int) (d:Int) (ds:List Int),k.toNat<=m->S d ds->ans.getD (numOf d g.pots ds).toNat none=some k->False:=by
   intro m
   induction m with
   | zero =>
    intro k d ds hk s e;obtain ⟨t,et,lt,est⟩:=rC ok (G.ok d ds s);obtain ⟨c,hc,sc⟩:=G.on d ds s;rw [et] at e;obtain ⟨i,_,i0,i1⟩:=(T.ends t k e).1 (numOf c.2.1 g.pots c.2.2).toNat (by
     rw [ou lt];unfold Dz;rw [est];exact bh.mpr ⟨c,hc,rfl⟩)
    omega
   | succ m ih =>
    intro k d ds hk s e;obtain ⟨t,et,lt,est⟩:=rC ok (G.ok d ds s);obtain ⟨c,hc,sc⟩:=G.on d ds s;rw [et] at e;obtain ⟨i,ei,i0,i1⟩:=(T.ends t k e).1 (numOf c.2.1 g.pots c.2.2).toNat (by
     rw [ou lt];unfold Dz;rw [est];exact bh.mpr ⟨c,hc,rfl⟩)
    exact ih i c.2.1 c.2.2 (by omega) sc ei
  cases h:ans.getD 0 none with
  | none=>rfl
  | some k=>exact (no k.toNat k 0 _ (aM _) s0 (by rw [z]; exact h)).elim
theorem uh {g:eF} {d:Int} {ds:List Int} {c:Int × Int × List Int}:c ∈ j6 g d ds ↔ ∃ m ∈ masks (cpsOf g.pots ds).length,Ek (if lY g.closed d then 0 else g.cans) (cpsOf g.pots ds) m=true/\c=((uJ m:Int),(d + 1) % g.week,lG (cpsOf g.pots ds) m):=by
 unfold j6 m6 gU;rw [fG,bh];constructor
 ·rintro ⟨q,hq,rfl⟩;obtain ⟨m,hm,e⟩:=mem_filterMap.mp hq;unfold pC at e
  by_cases hk:Ek (if lY g.closed d then 0 else g.cans) (cpsOf g.pots ds) m=true
  ·rw [if_pos hk] at e;cases e;exact ⟨m,hm,hk,rfl⟩
  ·rw [if_neg hk] at e;cases e
 ·rintro ⟨m,hm,hk,rfl⟩;refine ⟨((uJ m:Int),(if lY g.closed d then 0 else g.cans) - lD m,lG (cpsOf g.pots ds) m),mem_filterMap.mpr ⟨m,hm,?_⟩,rfl⟩;unfold pC;rw [if_pos hk]
theorem Br {g g':eF} (hl:g'.pots.length=g.pots.length) (hs:∀ d ds,m9 g.week g.pots d ds->m9 g'.week g'.pots d ds) (hc:∀ d ds c,m9 g.week g.pots d ds->c ∈ j6 g d ds->∃ c' ∈ j6 g' d ds,c'.2=c.2) (h:gD g):gD g':=by
 obtain ⟨S,G,s0⟩:=h;refine ⟨S,⟨fun d ds s=>hs d ds (G.ok d ds s),fun d ds s=>?_⟩,by rw [hl]; exact s0⟩;obtain ⟨c,hcc,sc⟩:=G.on d ds s;obtain ⟨c',hc',e⟩:=hc d ds c (G.ok d ds s) hcc;exact ⟨c',hc',by rw [e]; exact sc⟩
theorem Bs {ps:List bB} {c c' wk cl:Int} (le:c<=c') (h:gD ⟨ps,c,wk,cl⟩):gD ⟨ps,c',wk,cl⟩:=by
 refine Br (g:=⟨ps,c,wk,cl⟩) rfl (fun d ds s=>s) (fun d ds q s hq=>?_) h;obtain ⟨m,hm,hk,rfl⟩:=uh.mp hq;refine ⟨_,uh.mpr ⟨m,hm,?_,rfl⟩,rfl⟩;unfold Ek at hk ⊢;rw [Bool.and_eq_true] at hk ⊢;refine ⟨hk.1,?_⟩;have:=of_decide_eq_true hk.2;apply aO;dsimp only at this ⊢
 split at this <;> split <;> first | omega | (exfalso; simp_all)
structure Longer (ps ps':List bB):Prop where
 len:ps'.length=ps.length
 at_:∀ (k:Nat) p p',ps[k]?=some p->ps'[k]?=some p'->p'.rest=p.rest/\p.gap<=p'.gap
theorem Pb {ps ps':List bB} {c wk cl:Int} (L:Longer ps ps') (h:gD ⟨ps,c,wk,cl⟩):gD ⟨ps',c,wk,cl⟩:=by
 have two:∀ {k:Nat} {p':bB},ps'[k]?=some p'->∃ p,ps[k]?=some p:=fun {k p'} e=>by
  have:=(aD.mp e).1;exact ⟨_,aA (by have:=L.len; omega)⟩
 refine Br (g:=⟨ps,c,wk,cl⟩) L.len (fun d ds s=>⟨s.d0,s.d1,by rw [s.len]; exact L.len.symm,fun i y p' hy hp'=>?_⟩) (fun d ds q s hq=>?_) h
 ·obtain ⟨p,hp⟩:=two hp';have h1:=s.at_ i y p hy hp;have h2:=(L.at_ i p p' hp hp').2;omega
 ·obtain ⟨m,hm,hk,rfl⟩:=uh.mp hq;have sl:ds.length=ps.length:=s.len;have l1:(cpsOf ps ds).length=ps.length:=ud sl;have l2:(cpsOf ps' ds).length=ps'.length:=ud (by rw [sl]; exact L.len.symm);have lm:m.length=(cpsOf ps ds).length:=iV hm;have l12:(cpsOf ps' ds).length=(cpsOf ps ds).length:=by rw [l1,l2,L.len]
  have both:∀ (k:Nat) (c':Cp),(cpsOf ps' ds)[k]?=some c'->∃ c,(cpsOf ps ds)[k]?=some c/\c'.s=c.s/\c'.rest=c.rest/\c.gap<=c'.gap/\c.s < c.gap:=fun k c' e=>by
   have lt:=(aD.mp e).1;have k1:k < ps.length:=by omega
   have k2:k < ps'.length:=by omega
   have k3:k < ds.length:=by omega
   have e1:=uP (aA k1) (aA k3);have e2:=uP (aA k2) (aA k3);rw [e] at e2;cases e2;have h1:=L.at_ k _ _ (aA k1) (aA k2);have h2:=s.at_ k _ _ (aA k3) (aA k1);refine ⟨_,e1,rfl,?_,h1.2,h2.2⟩
   show yG ps'[k]=yG ps[k]
   unfold yG;rw [h1.1]
  have eb:lG (cpsOf ps' ds) m=lG (cpsOf ps ds) m:=by
   unfold lG;apply ext_getElem?;intro k;rw [aF,aF]
   by_cases lt:k < m.length
   ·have z1:(m.zip (cpsOf ps' ds))[k]?=some (m[k],(cpsOf ps' ds)[k]'(by omega)):=by
     rw [List.getElem?_zip_eq_some];exact ⟨aA lt,aA _⟩
    obtain ⟨c,e1,e2,_⟩:=both k _ (aA (by omega));have z2:(m.zip (cpsOf ps ds))[k]?=some (m[k],c):=by
     rw [List.getElem?_zip_eq_some];exact ⟨aA lt,e1⟩
    rw [z1,z2]
    show some (FT m[k] _)=some (FT m[k] c)
    unfold FT;rw [e2]
   ·rw [List.getElem?_eq_none (by rw [length_zip]; omega),List.getElem?_eq_none (by rw [length_zip]; omega)]
  refine ⟨((uJ m:Int),(d + 1) % wk,lG (cpsOf ps' ds) m),uh.mpr ⟨m,?_,?_,rfl⟩,?_⟩
  ·show m ∈ masks (cpsOf ps' ds).length
   rw [l12];exact hm
  ·show Ek _ (cpsOf ps' ds) m=true
   unfold Ek at hk ⊢;rw [Bool.and_eq_true] at hk ⊢;refine ⟨(wN (p:=Ej) (by omega)).mpr fun k b c' hb hc'=>?_,hk.2⟩;obtain ⟨c,e1,e2,e3,e4,e5⟩:=both k c' hc';have:=(wN (p:=Ej) (by omega)).mp hk.1 k b c hb e1;unfold Ej at this ⊢;cases b with
   | true =>
    simp only [if_true] at this ⊢;rw [e2,e3];exact this
   | false =>
    simp only [Bool.false_eq_true,if_false] at this ⊢;have:=of_decide_eq_true this;apply aO;omega
  ·show ((d + 1) % wk,lG (cpsOf ps' ds) m)=((d + 1) % wk,lG (cpsOf ps ds) m)
   rw [eb]
def gB (g:eF):Nat->Int
 | 0=>0
 | n + 1=>gB g n + if lY g.closed ((n:Int) % g.week) then 0 else g.cans
def uU (l:List Int):Int:=l.foldr (· + ·) 0
theorem Mu:∀ (m:List Bool) (ws:List Int),m.length=ws.length->uU ((m.zip ws).map fun q=>q.2 + if q.1 then 1 else 0)=uU ws + lD m
 | [],[],_=>rfl
 | b::m,w::ws,h=>by
  have ih:=Mu m ws (by simpa using h);have e:lD (b::m)=(if b then 1 else 0) + lD m:=by
   unfold lD;cases b
   ·simp
   ·simp; omega
  show (w + if b then 1 else 0) + uU ((m.zip ws).map fun q=>q.2 + if q.1 then 1 else 0)=(w + uU ws) + lD (b::m)
  rw [ih,e];omega
theorem runs {g:eF} (w0:0 < g.week) (h:gD g):∀ T:Nat,∃ d ds ws,m9 g.week g.pots d ds/\d=(T:Int) % g.week/\ws.length=g.pots.length/\uU ws<=gB g T /\ (∀ (k:Nat) p y w,g.pots[k]?=some p->ds[k]?=some y->ws[k]?=some w->(T:Int)<=p.gap * w + y):=by
 obtain ⟨S,G,s0⟩:=h;have main:∀ T:Nat,∃ d ds ws,S d ds/\d=(T:Int) % g.week/\ws.length=g.pots.length/\uU ws<=gB g T /\
  (∀ (k:Nat) p y w,g.pots[k]?=some p->ds[k]?=some y->ws[k]?=some w->(T:Int)<=p.gap * w + y):=by
  intro T
  induction T with
  | zero =>
   refine ⟨0,_,List.replicate g.pots.length 0,s0,by simp,length_replicate,?_,fun k p y w hp hy hw=>?_⟩
   ·have:∀ n,uU (List.replicate n 0)=0:=by
     intro n
     induction n with
     | zero=>rfl
     | succ n ih =>
      rw [List.replicate_succ]
      show 0 + uU (List.replicate n 0)=0
      rw [ih];rfl
    rw [this];exact cu _
   ·have e1:y=0:=(List.mem_replicate.mp (aH hy)).2;have e2:w=0:=(List.mem_replicate.mp (aH hw)).2;subst e1 e2;simp
  | succ T ih =>
   obtain ⟨d,ds,ws,s,ed,lw,sm,ih⟩:=ih;obtain ⟨c,hc,sc⟩:=G.on d ds s;have st:=G.ok d ds s;obtain ⟨m,hm,hk,rfl⟩:=uh.mp hc;have lc:(cpsOf g.pots ds).length=g.pots.length:=ud st.len;have lm:m.length=g.pots.length:=by rw [iV hm,lc]
   unfold Ek at hk;rw [Bool.and_eq_true] at hk;have cn:=of_decide_eq_true hk.2;refine ⟨_,_,(m.zip ws).map fun q=>q.2 + if q.1 then 1 else 0,sc,?_,?_,?_,fun k p y w hp hy hw=>?_⟩
   ·show (d + 1) % g.week=((T + 1:Nat):Int) % g.week
    rw [ed];rw [Int.emod_add_emod];rfl
   ·rw [au,length_zip,lm,lw,Nat.min_self]
   ·rw [Mu m ws (by omega)]
    show _<=gB g T + if lY g.closed ((T:Int) % g.week) then 0 else g.cans
    rw [<- ed];omega
   ·have kp:k < g.pots.length:=(aD.mp hp).1;have kd:k < ds.length:=by rw [st.len]; exact kp
    have km:k < m.length:=by omega
    have kw:k < ws.length:=by omega
    have ec:=uP hp (aA kd);have h0:=ih k p ds[k] ws[k] hp (aA kd) (aA kw);have h1:=st.at_ k ds[k] p (aA kd) hp;rw [aF,show (m.zip ws)[k]?=some (m[k],ws[k]) by rw [List.getElem?_zip_eq_some]; exact ⟨aA km,aA kw⟩] at hw;have hw:some (ws[k] + if m[k] then 1 else 0)=some w:=hw;have hy:(lG (cpsOf g.pots ds) m)[k]?=some y:=hy;unfold lG at hy;rw [aF,show (m.zip (cpsOf g.pots ds))[k]?=some (m[k],zZ p ds[k]) by rw [List.getElem?_zip_eq_some]; exact ⟨aA km,ec⟩] at hy;have hy:some (FT m[k] (zZ p ds[k]))=some y:=hy;cases hw;cases hy;have ok1:=(wN (p:=Ej) (by omega)).mp hk.1 k _ _ (aA km) ec;rw [Int.natCast_add];cases hb:m[k] with
    | true =>
     show _<=p.gap * (ws[k] + 1) + 0
     rw [Int.mul_add,Int.mul_one];have:((1:Nat):Int)=1:=rfl;omega
    | false =>
     show _<=p.gap * (ws[k] + 0) + (ds[k] + 1)
     rw [Int.add_zero];have:((1:Nat):Int)=1:=rfl;omega
 intro T;obtain ⟨d,ds,ws,s,r⟩:=main T;exact ⟨d,ds,ws,G.ok d ds s,r⟩
theorem TF:∀ {ps:List bB} {ws:List Int} {f:bB->Int},ws.length=ps.length->(∀ (k:Nat) p w,ps[k]?=some p->ws[k]?=some w->f p<=w)->uU (ps.map f)<=uU ws
 | [],[],_,_,_=>cu _
 | p::ps,w::ws,f,h,a=>by
  have ih:=TF (ps:=ps) (ws:=ws) (f:=f) (by simpa using h) fun k q v hq hv=>a (k + 1) q v (by simpa using hq) (by simpa using hv)
  have:=a 0 p w rfl rfl
  show f p + uU (ps.map f)<=w + uU ws
  omega
theorem Yl {g:eF} (w0:0 < g.week) (iJ:∀ p ∈ g.pots,p.Ok) (h:gD g) {T:Nat} (hd:∀ p ∈ g.pots,(T:Int) % p.gap=0):uU (g.pots.map fun p=>(T:Int) / p.gap)<=gB g T:=by
 obtain ⟨d,ds,ws,st,_,lw,sm,a⟩:=runs w0 h T;refine Int.le_trans (TF lw fun k p w hp hw=>?_) sm;have kd:k < ds.length:=by rw [st.len]; exact (aD.mp hp).1
 have h1:=a k p _ w hp (aA kd) hw;have h2:=st.at_ k _ p (aA kd) hp;have h3:=(iJ p (aH hp)).gap.1;have h4:=hd p (aH hp);have h5:(T:Int)=p.gap * ((T:Int) / p.gap):=by
  have:=Int.mul_ediv_add_emod (T:Int) p.gap;omega
 have h6:p.gap * ((T:Int) / p.gap) < p.gap * (w + 1):=by
  rw [<- h5,Int.mul_add,Int.mul_one];omega
 have h7:=Int.lt_of_mul_lt_mul_left h6 (by omega);omega
abbrev Pg:cX:=top 30
section
variable {P:bZ} {w:World} {K:Fg} {mg:Str->Option aC} {base:Heap} {a:fP} {dV:aC}
structure First (nm:Str) (ps:List bB) (j:Nat) (p:bB):Prop where
 at_:ps[j]?=some p
 is:p.nm=nm
 no:∀ i q,i < j->ps[i]?=some q->q.nm≠nm
theorem First.ex {nm:Str}:∀ {ps:List bB},nm ∈ ps.map bB.nm->∃ j p,First nm ps j p
 | [],h=>nomatch h
 | q::ps,h=>by
  by_cases e:q.nm=nm
  ·exact ⟨0,q,rfl,e,fun i _ hi=>absurd hi (Nat.not_lt_zero i)⟩
  ·have h':nm ∈ ps.map bB.nm:=by
    rcases aQ.mp h with z | z
    ·exact absurd z.symm e
    ·exact z
   obtain ⟨j,p,f⟩:=First.ex h';refine ⟨j + 1,p,f.at_,f.is,fun i r hi hr=>?_⟩;cases i with
   | zero=>cases hr; exact e
   | succ i=>exact f.no i r (by omega) hr
theorem First.one {nm:Str} {ps:List bB} {j j':Nat} {p p':bB} (f:First nm ps j p) (g:First nm ps j' p'):j=j'/\p=p':=by
 have e:j=j':=by
  rcases Nat.lt_trichotomy j j' with h | h | h
  ·exact absurd f.is (g.no j p h f.at_)
  ·exact h
  ·exact absurd g.is (f.no j' p' h g.at_)
 subst e;have:=f.at_.symm.trans g.at_;exact ⟨rfl,bN this⟩
theorem First.mem {nm:Str} {ps:List bB} {j:Nat} {p:bB} (f:First nm ps j p):nm ∈ ps.map bB.nm:=bh.mpr ⟨p,aH f.at_,f.is⟩
theorem JR (T:jY K mg a) {H:Hp} {l D:aB} {as:List aB} {ps:List bB} {σ:St} {Qe:Hp->Prop} (hl:cW K H l (as.map V.ref)) (pots:j4 a H as ps) (h8:as.length<=1000) (hD:H D=none) (q:Qe (upd H D (.lst ((ps.map bB.nm).map V.str)))) : ∃ W:Nat->Nat->List V->Hp->Prop,(∃ m,W 0 m [] (upd H D (.lst [])))/\sV D (Zo K l) (jT (List.replicate 1 none) σ) (Em 0) Fd (af6 K (afT 0) "name") Qe W:=by
 have lp:as.length=ps.length:=Paired.length pots;refine jW as.length (bH h8 (by decide)) (fun i acc H'=>acc=((ps.take i).map bB.nm).map V.str/\upd H D (.lst acc)=H') ⟨rfl,rfl⟩ (fun i acc H' le ⟨e,eh⟩=>⟨?_,by rw [<- eh,aG]⟩) ?_ ?_
 ·rw [e,au,au,length_take,<- lp]; omega
 ·rintro acc H' ⟨rfl,rfl⟩;have sD:=aX (o:=.lst (((ps.take as.length).map bB.nm).map V.str)) hD;rw [lp,bO] at sD ⊢;exact ⟨⟨_,sD.seq hl,by rw [au,lp]; exact aM _⟩,q⟩
 ·rintro i acc H' lt ⟨rfl,rfl⟩;have sD:=aX (o:=.lst (((ps.take i).map bB.nm).map V.str)) hD;have hl':=sD.seq hl;obtain ⟨b,hb⟩:∃ b,as[i]?=some b:=⟨as[i],aA lt⟩;obtain ⟨q,hq,pb⟩:=cD pots hb;have hx:(as.map V.ref)[i]?=some (.ref b):=by rw [aF,hb]; rfl
  refine ⟨⟨_,_,hl',hx⟩,?_⟩;rintro x Eh ⟨rfl,hx'⟩ Qc k;have ex:=hx' _ hl';rw [hx] at ex;cases ex;obtain ⟨dx,hb'⟩:=pb.same sD;have cT:=T.cls q.gY;refine ⟨fH,_,rfl,b,q.cls a,dx,_,_,rfl,hb',cT.1.cl,cT.2 _ (by simp),q.yj,?_⟩;refine k _ _ aG ⟨?_,by rw [lK]⟩;rw [take_snoc hq,aY,aY];rfl
theorem TJ {ps:List bB} {i:Nat} {z:V} (h:((ps.map bB.nm).map V.str)[i]?=some z):∃ q,ps[i]?=some q/\z=.str q.nm:=by
 rw [aF,aF] at h;cases e:ps[i]? with
 | none=>rw [e] at h; cases h
 | some q=>rw [e] at h; cases h; exact ⟨q,rfl,rfl⟩
noncomputable def TQ (K:Fg) (a:fP):Sp:=fun vs H Q E=>∃ x g v o,vs=[.ref x,v]/\eZ a H x g/\g.pots.length<=8/\Bd K H v o/\((∀ nm,o=some nm->nm ∉ g.pots.map bB.nm)->∀ H',Same H H'->E (.ref a.fJ) none H') /\ (∀ nm j p,o=some nm->First nm g.pots j p->∀ H',Same H H'->Q (.int (j:Nat)) H')
theorem aac:bM ["garden","name","names"] ["garden","name"] (aW Pg):=dI (by decide +kernel)
theorem Ym {H H':Hp} {v:V} {o:Option Str} (h:Bd K H v o) (s:Same H H'):Bd K H' v o:=by
 rcases h with h | ⟨e,h | ⟨l,xs,e2,h⟩⟩
 ·exact .inl h
 ·exact .inr ⟨e,.inl h⟩
 ·exact .inr ⟨e,.inr ⟨l,xs,e2,s.seq h⟩⟩
structure ahe (K:Fg) (mg:Str->Option aC) (a:fP):Prop where
 plc:∃ f fd,Fn K "place_of" "place_of" Pg ["garden","name"] f fd/\mg "place_of"=some (.ref f)
 fJ:Exn K mg "NoPot" a.fJ
theorem TV {f:aB} {fd:d7} (F:lB K "place_of" "place_of" Pg f fd) (Z:zX K mg a dV) (nP:Exn K mg "NoPot" a.fJ):bT P w K mg base (d9 P w) 1 f fd ["garden","name"] (TQ K a):=by
 refine F.jU aac (fun vs H Q E h=>?_) (fun cdv A outer s H vs Q E hr h=>?_)
 ·obtain ⟨x,g,v,o,rfl,_⟩:=h;rfl
 ·obtain ⟨x,g,v,o,rfl,⟨dx,l,as,hx,hl,pt⟩,h8,na,noP,yes⟩:=h;have T:=Z.G.T;refine ⟨_,aJ (sW (i:=2) aac.nd rfl (Or.inl rfl) bQ rfl ⟨_,_,rfl,rfl,rfl⟩ (gR.plain (N':=["pot"]) rfl (by decide +kernel) (by decide +kernel)) (fu (cJ (pv 0) rfl)) (fun _ _ _ _ _=>cL 0 (show [("pot":Str)].Nodup by decide +kernel)) (fun _ _ _ _ _=>gJ) (fun _ _ _ _ _ _=>vW K (pv 0))) (aJ (eE (c7 (Oq hr.units) (pv 1) (pv 2) rfl) (aU (gj bQ rfl (by rfl) nP.m nP.q PySem.F.excBase_ValueError (ak ig aK))) cA) (aU (bU (vV PySem.F.plainAttrs_list PySem.F.slot_list_index PySem.F.type_list_index Q5 (pv 2) (ak (pv 1) aK))))),?_⟩;have la:as.length=g.pots.length:=Paired.length pt;have hL:cW K H l (as.map V.ref):=cW.of hl;refine ⟨_,rfl,x,a.garden,dx,_,_,rfl,hx,Z.tG.cl,Z.nG _ (by simp),iH ..,l,rfl,⟨_,hL⟩,fun D hD=>JR T hL pt (by omega) hD ?_⟩;have sD:=aX (o:=.lst ((g.pots.map bB.nm).map V.str)) hD;refine ⟨_,rfl,_,rfl,D,_,o,rfl,cW.of aG,Ym na sD,_,rfl,?_⟩;cases o with
  | none=>exact dN ⟨by show 1<=sizeLine; decide,noP (fun _ z=>nomatch z) _ sD⟩
  | some nm =>
   rcases na with ⟨nm',rfl,e⟩ | ⟨z,_⟩
   ·cases e
    by_cases hm:nm ∈ g.pots.map bB.nm
    ·rw [show agC (some nm) (g.pots.map bB.nm)=false by show (!decide _)=false; rw [aO hm]; rfl];obtain ⟨j,p,f⟩:=First.ex hm;refine dU ⟨_,rfl,.inl ⟨rfl,_,cW.of aG⟩,_,rfl,D,_,.str nm,j,rfl,rfl,aG,rfl,yg _,⟨.str p.nm,?_,?_⟩,fun i z hi hz=>?_,yes nm j p rfl f _ sD⟩
     ·rw [aF,aF,f.at_]; rfl
     ·rw [f.is]; exact Fz rfl
     ·obtain ⟨q,hq,rfl⟩:=TJ hz;have ne:=f.no i q hi hq
      show (q.nm == nm)=false
      simp [ne]
    ·rw [show agC (some nm) (g.pots.map bB.nm)=true by show (!decide _)=true; rw [aP hm]; rfl];exact dN ⟨by show 1<=sizeLine; decide,noP (fun _ z=>by cases z; exact hm) _ sD⟩
   ·cases z
end
abbrev Bt:cX:=top 31
abbrev nF:cX:=inClass (top 16) 4
abbrev nH:cX:=inClass (top 17) 4
section
variable {P:bZ} {w:World} {K:Fg} {mg:Str->Option aC} {base:Heap} {a:fP} {dV:aC}
theorem Yn {n j:Nat} (h:j < n):Qx n (j:Int)=some j:=by
 unfold Qx;rw [if_pos (by omega),if_pos (by omega)];simp
def bB.at (p:bB) (i:Int):bB:={ p with gap:=i }
theorem bB.aoy {i:Int} {p:bB} (h:p.Ok) (g:jZ p (.int i)=true):(p.at i).Ok:=by
 unfold jZ at g;have w1:bV (.int i) 1 60=true:=by
  split at g
  ·exact g
  ·rw [Bool.and_eq_true] at g; exact g.1
 have w2:1<=i/\i<=60:=by simpa [bV] using w1
 refine ⟨h.nm,w2,fun r hr=>?_⟩;have hr':p.rest=some r:=hr;rw [hr'] at g;have g2:bV (.int r) 0 (i - 1)=true:=by
  rw [Bool.and_eq_true] at g; exact g.2
 have g3:0<=r/\r<=i - 1:=by simpa [bV] using g2
 exact ⟨g3.1,by show r < i; omega⟩
theorem rD {α β:Type} {R:α->β->Prop} {x:α} {y:β} (r:R x y):∀ {xs:List α} {ys:List β} (j:Nat),Paired R xs ys->Paired R (xs.set j x) (ys.set j y)
 | _,_,_,.nil=>.nil
 | _,_,0,.cons _ t=>.cons r t
 | _,_,j + 1,.cons h t=>.cons h (rD r j t)
noncomputable def JT (K:Fg) (a:fP):Sp:=fun vs H Q E=>∃ x g nm i j p,vs=[.ref x,.str nm,.int i]/\eZ a H x g/\(∀ p ∈ g.pots,p.Ok)/\g.pots.length<=8/\First nm g.pots j p/\jZ p (.int i)=true /\ ∀ H',Same H H'->LC a H' (fun x=>Q (.ref x)) E (some (g.pots.set j (p.at i))) (.int g.cans) (.int g.week) (.int g.closed)
theorem JV:bM ["garden","name","gap","place","pots"] ["garden","name","gap"] (aW Bt):=dI (by decide +kernel)
theorem Mv {f:aB} {fd:d7} (F:lB K "with_gap" "with_gap" Bt f fd) (Z:zX K mg a dV) (N:ahe K mg a):bT P w K mg base (d9 P w) 9 f fd ["garden","name","gap"] (JT K a):=by
 refine F.jU JV (fun vs H Q E h=>?_) (fun cdv A outer s H vs Q E hr h=>?_)
 ·obtain ⟨x,g,nm,i,j,p,rfl,_⟩:=h;rfl
 ·obtain ⟨x,g,nm,i,j,p,rfl,gx,iJ,h8,f,gk,post⟩:=h;obtain ⟨dx,l,as,hx,hl,pt⟩:=id gx;have T:=Z.G.T;obtain ⟨fp,dp,pF,mP⟩:=N.plc;have wR:bT P w K mg base (d9 P w) 1 fp dp ["garden","name"] (TQ K a):=TV pF.F Z N.fJ;have hr5:dJ 5 _:=hr.mono (by decide);have hr1:dJ 1 _:=hr.mono (by decide);refine ⟨_,aJ (bF (i:=3) JV.nd rfl (Or.inl rfl) (cH wR hr1 mP pF.F.kp pF.b (cY bQ) (ak (pv 0) (ak (pv 1) aK)))) (aJ (bF (i:=4) JV.nd rfl (Or.inl rfl) (Gu CJ T.B.list boot_list (ak (cJ (pv 0) rfl) aK))) (aJ (Cm (RZ (cQ jC (pv 4) (pv 3) (fun _ _=>rfl)) (ak (pv 2) aK) T hr5 (cY bQ)) (P0 (pv 4) (pv 3) set_list)) (aU (bU (xT Z.kG (Sq Z) hr Z.R8 Z.b4 (cY bQ) (ak (pv 4) (ak (cJ (pv 0) rfl) (ak (cJ (pv 0) rfl) (ak (cJ (pv 0) rfl) aK))))))))),?_⟩;have la:as.length=g.pots.length:=Paired.length pt;refine ⟨_,rfl,_,rfl,x,g,_,some nm,rfl,gx,h8,.inl ⟨nm,rfl,rfl⟩,fun z=>absurd f.mem (z nm rfl),fun nm' j' p' en f' H1 s1=>?_⟩;cases en;obtain ⟨rfl,rfl⟩:=f.one f';have lj:j < g.pots.length:=(aD.mp f.at_).1;have lj':j < as.length:=by omega
  have hb:as[j]?=some as[j]:=aA lj';obtain ⟨p',hp',pb⟩:=cD pt hb;have ep:p'=p:=by rw [f.at_] at hp'; exact (bN hp').symm
  subst ep;refine ⟨_,rfl,x,a.garden,dx,_,_,rfl,s1 _ _ hx,Z.tG.cl,Z.nG _ (by simp),iH ..,l,_,rfl,.inl (cW.of (s1 _ _ hl)),fun m hm=>?_⟩;have s2:=s1.trans (aX (o:=.lst (as.map V.ref)) hm);have hxi:(as.map V.ref)[j]?=some (.ref as[j]):=by rw [aF,hb]; rfl
  have hm2:upd H1 m (.lst (as.map V.ref)) m=some (.lst (as.map V.ref)):=aG;have fm:H m=none:=s1.free hm;generalize upd H1 m (.lst (as.map V.ref))=H2 at s2 hm2 ⊢;obtain ⟨dy,hb'⟩:=pb.same s2;have wR:=iJ p' (aH f.at_);refine ⟨_,rfl,_,rfl,m,_,_,_,rfl,rfl,cW.of hm2,jh hxi,as[j],p'.cls a,dy,_,rfl,hb',p'.gY,p'.Xz (by decide +kernel) (by decide +kernel) (by decide +kernel),_,rfl,?_⟩;refine ⟨as[j],p',.int i,.int,rfl,rfl,⟨dy,hb'⟩,wR,⟨_,rfl⟩,fun z=>absurd (gk.symm.trans z) (by decide),fun z i' H3 y ej hy s3 py=>?_⟩;cases ej;have hm3:=s3 _ _ hm2;refine ⟨_,rfl,_,rfl,m,_,_,j,rfl,rfl,hm3,?_,?_⟩
  ·exact Yn (by rw [au]; exact lj')
  ·have s4:Same H (upd H3 m (.lst ((as.map V.ref).set j (.ref y)))):=m8 (s2.trans s3) fm;have hm4:upd H3 m (.lst ((as.map V.ref).set j (.ref y))) m=some (.lst ((as.set j y).map V.ref)):=by rw [aG,map_set]
   have pt4:j4 a (upd H3 m (.lst ((as.map V.ref).set j (.ref y)))) (as.set j y) (g.pots.set j (p'.at i)):=rD (jl.upd py hm3) j ((pt.same (s2.trans s3)).upd hm3);generalize upd H3 m (.lst ((as.map V.ref).set j (.ref y)))=H4 at s4 hm4 pt4 ⊢;refine ⟨_,rfl,_,rfl,x,a.garden,dx,_,_,rfl,s4 _ _ hx,Z.tG.cl,Z.nG _ (by simp),Jv ..,_,rfl,x,a.garden,dx,_,_,rfl,s4 _ _ hx,Z.tG.cl,Z.nG _ (by simp),jK ..,_,rfl,x,a.garden,dx,_,_,rfl,s4 _ _ hx,Z.tG.cl,Z.nG _ (by simp),tX ..,?_⟩;refine Jx (kc:=.int) (kw:=.int) (kl:=.int) (eZ.arg (x:=x) (dx:=dx) hm4 (by rw [length_set]; omega) pt4 ?_) ⟨_,rfl⟩ ⟨_,rfl⟩ ⟨_,rfl⟩ (post H4 s4);intro q hq;rcases List.mem_or_eq_of_mem_set hq with hq | hq
   ·exact iJ q hq
   ·rw [hq]; exact bB.aoy wR gk
def fX (p:bB):Int:=match p.rest with
 | none=>1
 | some r=>r + 1
def wY (a:fP) (C:aB):Sp:=fun vs H Q _=>∃ x p,vs=[.ref x]/\p.cls a=C/\jl a H x p/\Q (.int (fX p)) H
theorem ayQ:bM ["self"] ["self"] (aW nF):=dI (by decide +kernel)
theorem ayR:bM ["self"] ["self"] (aW nH):=dI (by decide +kernel)
theorem G5 {f:aB} {fd:d7} (F:lB K "shortest" "Pot.shortest" nF f fd) (T:jY K mg a):bT P w K mg base (d9 P w) 1 f fd ["self"] (wY a a.pot):=by
 refine F.jU ayQ (fun vs H Q E h=>?_) (fun cdv A outer s H vs Q E hr h=>?_)
 ·obtain ⟨x,p,rfl,_⟩:=h;rfl
 ·obtain ⟨x,p,rfl,hc,px,q⟩:=h;refine ⟨_,aU (bU aR),?_⟩;have e:fX p=1:=by
   unfold fX;cases e:p.rest with
   | none=>rfl
   | some r=>rw [bB.cls,e] at hc; exact absurd hc.symm T.ne
  rw [e] at q;exact q
theorem G6 {f:aB} {fd:d7} (F:lB K "shortest" "Cactus.shortest" nH f fd) (T:jY K mg a):bT P w K mg base (d9 P w) 1 f fd ["self"] (wY a a.bJ):=by
 refine F.jU ayR (fun vs H Q E h=>?_) (fun cdv A outer s H vs Q E hr h=>?_)
 ·obtain ⟨x,p,rfl,_⟩:=h;rfl
 ·obtain ⟨x,p,rfl,hc,⟨dx,hx⟩,q⟩:=h;refine ⟨_,aU (bU (bI eO (cJ (pv 0) rfl) aR)),?_⟩;obtain ⟨r,er⟩:∃ r,p.rest=some r:=by
   cases e:p.rest with
   | none=>rw [bB.cls,e] at hc; exact absurd hc T.ne
   | some r=>exact ⟨r,rfl⟩
  have lr:p.fs.lookup ("rest":Str)=some (.int r):=by simp only [bB.fs,er]; exact wQ _ _ _
  rw [hc] at hx;have e:fX p=r + 1:=by unfold fX; rw [er]
  rw [e] at q;exact ⟨_,rfl,x,a.bJ,dx,_,_,rfl,hx,T.tC.cl,T.nC _ (by simp),lr,_,_,rfl,rfl,q⟩
structure Yo (K:Fg) (mg:Str->Option aC) (a:fP):Prop where
 T:jY K mg a
 shP:∃ f fd,Fn K "shortest" "Pot.shortest" nF ["self"] f fd/\Meth K a.pot "shortest" f
 shC:∃ f fd,Fn K "shortest" "Cactus.shortest" nH ["self"] f fd/\Meth K a.bJ "shortest" f
theorem Yo.sh (W:Yo K mg a):∀ C,(C=a.pot\/C=a.bJ)->∃ f fd,Cls K C/\Meth K C "shortest" f/\bT P w K mg base (d9 P w) 1 f fd ["self"] (wY a C)/\Binds K fd ["self"] []:=by
 intro C h;rcases h with rfl | rfl
 ·obtain ⟨f,fd,F,m⟩:=W.shP;exact ⟨f,fd,W.T.tP.cl,m,G5 F.F W.T,F.b⟩
 ·obtain ⟨f,fd,F,m⟩:=W.shC;exact ⟨f,fd,W.T.tC.cl,m,G6 F.F W.T,F.b⟩
end
abbrev TX:cX:=top 44
section
variable {P:bZ} {w:World} {K:Fg} {mg:Str->Option aC} {base:Heap} {a:fP} {dV:aC}
def ayS (a:fP) (J:Hp->Prop) (gw:Int->eF) (lo hi:Int):Sp:=fun vs H Q _=>∃ i,vs=[.int i]/\lo<=i/\i<=hi/\J H/\∀ H' x,Same H H'->eZ a H' x (gw i)->Q (.ref x) H'
def DG (gw:Int->eF) (lo hi:Int) (o:Option Int):Prop:=(o=none/\¬ gD (gw hi))\/∃ r,o=some r/\lo<=r/\r<=hi/\gD (gw r)/\∀ i,lo<=i->i < r->¬ gD (gw i)
noncomputable def G7 (P:bZ) (w:World) (K:Fg) (mg:Str->Option aC) (a:fP) (base:Heap):Sp:=fun vs H Q _=>∃ lo hi f fd x gw J,vs=[.int lo,.int hi,.ref f]/\lo<=hi/\bT P w K mg base (d9 P w) 10 f fd [x] (ayS a J gw lo hi)/\Binds K fd [x] []/\yd H f/\J H/\(∀ H H',J H->Same H H'->J H') /\ (∀ i,lo<=i->i<=hi->Bo (gw i))/\(∀ i j,lo<=i->i<=j->j<=hi->gD (gw i)->gD (gw j))/\∀ H' o,Same H H'->DG gw lo hi o->Q (jq o) H'
theorem Bu:bM ["least","most","garden_with","low","high","middle"] ["least","most","garden_with"] (aW TX):=dI (by decide +kernel)
theorem um (o:Option Int):decide (jq o=V.non)=decide (o=none):=by
 cases o with
 | none=>rfl
 | some k =>
  have:jq (some k)≠V.non:=by intro z; cases z
  rw [aP this];rfl
theorem yJ {H H':Hp} {f:aB} (h:yd H f) (s:Same H H'):yd H' f:=by
 obtain ⟨q,p,b,sc,cl,pm,c',ctv,e⟩:=h;exact ⟨q,p,b,sc,cl,pm,c',ctv,s _ _ e⟩
theorem TY {f:aB} {fd:d7} (F:lB K "least_for_ever" "least_for_ever" TX f fd) (X:Tt K mg a dV):bT P w K mg base (d9 P w) 11 f fd ["least","most","garden_with"] (G7 P w K mg a base):=by
 refine F.jU Bu (fun vs H Q E h=>?_) (fun cdv A outer s H vs Q E hr h=>?_)
 ·obtain ⟨lo,hi,f,fd,x,gw,J,rfl,_⟩:=h;rfl
 ·obtain ⟨lo,hi,g,gd,x,gw,J,rfl,le,G,gb,il,j0,jS,zK,mono,q⟩:=h;obtain ⟨fo,Tz,dvo,oF,b0,b1,mO⟩:=X.dof;have Mj:bT P w K mg base (d9 P w) 7 fo Tz ["garden","state"] (pO K a):=qy oF X;have kO:=oF.kp;have hr7:dJ 7 _:=hr.mono (by decide);have vn:Vals [V.non] [Value.none]:=.cons rfl .nil;refine ⟨_,aJ (eE (c7 WR (qg Mj hr7 rfl mO kO b1 vn bf (ak (Gk (CX:=d9 P w) (k:=10) 2 hr bf (ak (pv 1) aK)) aK)) jJ (dH _)) (aU (bU jJ)) cA) (aJ (bF (i:=3) Bu.nd rfl (Or.inl rfl) (pv 0)) (aJ (bF (i:=4) Bu.nd rfl (Or.inl rfl) (pv 1)) (aJ (rW dY (c7 Qk (pv 3) (pv 4) (dH _)) (aJ (bF (i:=5) Bu.nd rfl (Or.inl rfl) (bI gH (bI eO (pv 3) (pv 4)) aR)) (aU (eE (c7 xu (qg Mj hr7 rfl mO kO b1 vn bf (ak (Gk (CX:=d9 P w) (k:=10) 2 hr bf (ak (pv 5) aK)) aK)) jJ (dH _)) (aU (bF (i:=4) Bu.nd rfl (Or.inl rfl) (pv 5))) (aU (bF (i:=3) Bu.nd rfl (Or.inl rfl) (bI eO (pv 5) aR))))))) (aU (bU (pv 4)))))),?_⟩;refine ⟨g,gd,[x],_,rfl,il,G,gb,_,rfl,il,hi,rfl,le,cu _,j0,fun H1 y s1 gy=>?_⟩;refine ⟨y,_,_,rfl,gy,zK hi le (cu _),.inl ⟨rfl,fun H2 ans s2 told=>?_⟩⟩;refine ⟨rfl,_,rfl,?_⟩;have ev:=nu (zK hi le (cu _)) told;have s12:=s1.trans s2;rw [um]
  by_cases hE:ans.getD 0 none=none
  ·rw [aO hE];refine dU ⟨_,rfl,_,rfl,?_⟩;refine ⟨fun m σ H'=>∃ low high m5,σ=[some (.int lo),some (.int hi),some (.ref g),some (.int low),some (.int high),m5]/\m=(high - low).toNat/\Same H H'/\lo<=low/\low<=high/\high<=hi/\gD (gw high)/\∀ i,lo<=i->i < low->¬ gD (gw i),⟨_,lo,hi,_,rfl,rfl,s12,cu _,le,cu _,ev.mp hE,fun i h1 h2=>by omega⟩,?_⟩;rintro m σ H3 ⟨low,high,m5,rfl,rfl,s3,h1,h2,h3,eh,no⟩;refine ⟨_,rfl,_,rfl,_,_,rfl,rfl,_,rfl,?_⟩
   by_cases hl:low < high
   ·rw [aO hl];refine dN ⟨fun σ' H'=>∃ JW yK m5',σ'=[some (.int lo),some (.int hi),some (.ref g),some (.int JW),some (.int yK),m5']/\(yK - JW).toNat < (high - low).toNat/\Same H H'/\lo<=JW/\JW<=yK/\yK<=hi/\gD (gw yK)/\∀ i,lo<=i->i < JW->¬ gD (gw i),fun σ' H' ⟨JW,yK,m5',e,lt,r⟩=>⟨_,lt,JW,yK,m5',e,rfl,r⟩,?_⟩;have m1:low<=(low + high) / 2:=by omega
    have m2:(low + high) / 2 < high:=by omega
    refine ⟨_,rfl,_,rfl,_,_,rfl,rfl,_,_,rfl,rfl,⟨by decide,by decide⟩,?_⟩;refine ⟨g,gd,[x],_,rfl,yJ il s3,G,gb,_,rfl,yJ il s3,(low + high) / 2,rfl,by omega,by omega,jS _ _ j0 s3,fun H4 y s4 gy=>?_⟩;have gk:=zK ((low + high) / 2) (by omega) (by omega);refine ⟨y,_,_,rfl,gy,gk,.inl ⟨rfl,fun H5 ayV s5 aoz=>?_⟩⟩;refine ⟨rfl,_,rfl,?_⟩;have ev2:=nu gk aoz;have s35:=s3.trans (s4.trans s5);rw [um]
    by_cases hE2:ayV.getD 0 none=none
    ·rw [aO hE2];exact dN ⟨_,rfl,low,(low + high) / 2,_,rfl,by omega,s35,h1,m1,by omega,ev2.mp hE2,no⟩
    ·rw [aP hE2];refine dU ⟨_,rfl,_,_,rfl,rfl,(low + high) / 2 + 1,high,_,rfl,by omega,s35,by omega,by omega,h3,eh,fun i i1 i2 ei=>?_⟩;exact hE2 (ev2.mpr (mono i ((low + high) / 2) i1 (by omega) (by omega) ei))
   ·rw [aP hl];refine dU ⟨_,rfl,?_⟩;have e:low=high:=by omega
    subst e;exact q H3 (some low) s3 (.inr ⟨low,rfl,h1,h3,eh,no⟩)
  ·rw [aP hE];refine dN ?_;exact q H2 none s12 (.inl ⟨rfl,fun z=>hE (ev.mpr z)⟩)
end
abbrev rE:cX:=top 45
abbrev jx:cX:=top 46
abbrev z6:Str:="fewest_cans.<locals>.<lambda>"
abbrev qI:Str:="least_gap.<locals>.<lambda>"
abbrev wZ (d:cX):Expr:=match (fQ d).getLast? with
 | some (.Return (some (.Call _ [_,_,e] _ _)) _)=>e
 | _=>.Constant .none 0 ⟨0,0,0,0⟩
abbrev Mw (d:cX):Arguments:=match wZ d with
 | .Lambda p _ _ _=>p
 | _=>jO d
abbrev Mx (d:cX):Expr:=match wZ d with
 | .Lambda _ b _ _=>b
 | e=>e
abbrev qJ (d:cX):Scope:=match wZ d with
 | .Lambda _ _ s _=>s
 | _=>aW d
abbrev aae (d:cX):Pos:=match wZ d with
 | .Lambda _ _ _ p=>p
 | _=>⟨0,0,0,0⟩
abbrev yL:Pos:=aae rE
abbrev uo:Pos:=aae jx
structure ahf (g:eF):Prop where
 ok:Bo g
 out:zY (some g.pots) (.int g.cans) (.int g.week) (.int g.closed)=.ok
section
variable {P:bZ} {w:World} {K:Fg} {mg:Str->Option aC} {base:Heap} {a:fP} {dV:aC}
theorem Yp {H:Hp} {x:aB} {g:eF} (h:eZ a H x g):eZ a (tQ H) x g:=by
 obtain ⟨dx,l,as,h1,h2,h3⟩:=h;exact ⟨dx,l,as,lZ h1 (fun _ z=>by cases z),lZ h2 (fun _ z=>by cases z),Paired.jd h3 fun _ _ e=>e.imp fun _ z=>lZ z (fun _ y=>by cases y)⟩
theorem w6 {PB x:aB} {H H':Hp} {g:eF} {pos:Pos} {q:Str} (h:eZ a H x g) (b:m7 PB H H') (t:lH PB pos q H):eZ a H' x g:=((Yp h).same (b.lam t)).same jk
def G8 (g:eF) (c:Int):eF:=⟨g.pots,c,g.week,g.closed⟩
def DK (g:eF) (j:Nat) (p:bB) (i:Int):eF:=⟨g.pots.set j (p.at i),g.cans,g.week,g.closed⟩
structure Yq (K:Fg) (mg:Str->Option aC) (a:fP) (dV:aC) (cF cG:aB):Prop where
 E:Tt K mg a dV
 N:ahe K mg a
 S:Yo K mg a
 cans:∃ f fd,Fn K "with_cans" "with_cans" Bq ["garden","cans"] f fd/\mg "with_cans"=some (.ref f)
 aoA:∃ f fd,Fn K "with_gap" "with_gap" Bt ["garden","name","gap"] f fd/\mg "with_gap"=some (.ref f)
 lfe:∃ f fd,Fn K "least_for_ever" "least_for_ever" TX ["least","most","garden_with"] f fd/\mg "least_for_ever"=some (.ref f)
 few:∃ f fd,Fn K "fewest_cans" "fewest_cans" rE ["garden"] f fd/\mg "fewest_cans"=some (.ref f)/\fd.code=.ref cF
 ayW:∃ f fd,Fn K "least_gap" "least_gap" jx ["garden","name"] f fd/\mg "least_gap"=some (.ref f)/\fd.code=.ref cG
noncomputable def aaf (a:fP) (PF:aB):Sp:=fun vs H Q _=>∃ x g,vs=[.ref x]/\eZ a H x g/\(∀ c,0<=c->c<=(g.pots.length:Int)->ahf (G8 g c))/\lH PF yL z6 H /\ ∀ H' o,m7 PF H H'->lH PF yL z6 H'->DG (G8 g) 0 (g.pots.length:Int) o->Q (jq o) H'
theorem aoB:bM ["garden"] ["garden"] (aW rE):=dI (by decide +kernel)
theorem ahg {f PF cF cG:aB} {fd:d7} (F:lB K "fewest_cans" "fewest_cans" rE f fd) (T:Yq K mg a dV cF cG) (hcd:fd.code=.ref cF) (C:CodeHd base cF PF) (hB:base.BuiltinsAt mg PF):bT P w K mg base (d9 P w) 12 f fd ["garden"] (aaf a PF):=by
 refine F.Ej hcd aoB (fun vs H Q E h=>?_) (fun A outer s H vs Q E hr h=>?_)
 ·obtain ⟨x,g,rfl,_⟩:=h;rfl
 ·obtain ⟨x,g,rfl,gx,fit,lt,q⟩:=h;have Z:=T.E.L.W.S.Z;have B:=Z.G.T.B;obtain ⟨fl,dl,lF,mL⟩:=T.lfe;obtain ⟨fc,dc,wF,mC⟩:=T.cans;have JX:∀ base':Heap,bT P w K mg base' (d9 P w) 11 fl dl ["least","most","garden_with"] (G7 P w K mg a base'):=fun base'=>TY lF.F T.E
  refine ⟨_,aU (bU (Rz (sp:=G7 P w K mg a) (fun base' _ _=>JX base') (fun _=>rfl) hr mL lF.F.kp lF.b bf (ak aR (ak (gZ fD B.len PySem.boot_len (ak (cJ (pv 0) rfl) aK)) (ak (Rx (c:=cF) (P:=PF) (qual:=z6) (cl:=[("garden",s.heap.objs.size + 1)]) rfl rfl C hB rfl (show (Str.ofString "fewest_cans"++".<locals>."++"<lambda>":Str)=z6 from by decide +kernel)) aK))))),?_⟩;obtain ⟨dx,l,as,hx,hl,pt⟩:=id gx;have la:as.length=g.pots.length:=Paired.length pt;refine ⟨_,rfl,x,a.garden,dx,_,_,rfl,hx,Z.tG.cl,Z.nG _ (by simp),iH ..,l,_,rfl,.inl (cW.of hl),lt,fun fl c' pm ctv H1 b1 Vt hc1 hf1 base' cb=>?_⟩;have SN:=w6 gx b1 lt;have le:(0:Int)<=(g.pots.length:Int):=dj _;have len:((as.map V.ref).length:Int)=(g.pots.length:Int):=by rw [au,la]
  obtain ⟨c,u,hcl,ru,hcell⟩:=cb.cell 0 "garden" (.ref x) rfl rfl rfl;cases hcl;have L:Jm base' (qJ rE) [("garden",s.heap.objs.size + 1)] "cans" ["garden"] [some (.ref x)]:=by
   refine Jm.of [("garden",s.heap.objs.size + 1,.ref x)] rfl rfl rfl (by decide +kernel) rfl (show ([("garden":Str)]:List Str).Nodup by decide +kernel) (by simp) (show ∀ n ∈ ([("garden":Str)]:List Str),(qJ rE).names.lookup n=some .free by decide +kernel) (show ∀ y ∈ (qJ rE).names,y.2=.free->y.1 ∈ ([("garden":Str)]:List Str) by decide +kernel) (fun q hq=>?_);rw [aL.mp hq];exact ⟨u,ru,hcell⟩
  refine ⟨0,(g.pots.length:Int),fl,kla_fn "<lambda>" z6 (Mw rE) (Mx rE) (qJ rE) [("garden",s.heap.objs.size + 1)] pm (.ref c') ctv,"cans",G8 g,fun H'=>H' fl=some (Dj fl z6 (Mw rE) (Mx rE) (qJ rE) [("garden",s.heap.objs.size + 1)] pm c' ctv)/\H' c'=some (tH c' z6)/\eZ a H' x g,by rw [len],le,Ry L (fun vs H Q E h=>by obtain ⟨i,rfl,_⟩:=h; rfl) (fun A' ahh s' H' v Q' E' hr' h'=>?_),Binds.all (fun us hu=>?_),⟨_,_,_,_,_,_,_,_,hf1⟩,⟨hf1,hc1,SN⟩,(fun H2 H3 h s=>⟨s _ _ h.1,s _ _ h.2.1,h.2.2.same s⟩),(fun i h0 h1=>(fit i h0 h1).ok),fun i j h0 h1 h2 e=>Bs h1 e,fun H' o s1 lp=>q H' o (b1.trans s1.but) (Vt.same s1) lp⟩
  ·obtain ⟨i,ev,h0,h1,⟨jf,jc,jg⟩,q'⟩:=h';cases ev;have tE:bT P w K mg base' (d9 P w) 9 fc dc ["garden","cans"] (JQ K a):=GX Z wF.F;refine ⟨jf,jc,_,fun E2=>cH tE hr' mC wF.F.kp wF.b bf (ak (pv 1) (ak (pv 0) aK)),?_⟩;have f:=fit i h0 h1;refine ⟨_,rfl,_,rfl,x,g,_,.int,rfl,jg,f.ok.iJ,f.ok.n8,⟨_,rfl⟩,Gw f.out (fun H2 z hz s2 gn=>q' H2 z s2 gn.at)⟩
  ·match us,hu with
   | [u],_=>rfl
end
section
variable {P:bZ} {w:World} {K:Fg} {mg:Str->Option aC} {base:Heap} {a:fP} {dV:aC}
theorem Yr {p:bB} (ok:p.Ok) {i:Int} (h1:fX p<=i) (h2:i<=p.gap):jZ p (.int i)=true:=by
 have g:=ok.gap;unfold jZ;unfold fX at h1;cases e:p.rest with
 | none =>
  rw [e] at h1;have h1:1<=i:=h1
  show bV (.int i) 1 60=true
  simp [bV];omega
 | some r =>
  rw [e] at h1;have h1:r + 1<=i:=h1;have r0:=(ok.rest r e).1
  show (bV (.int i) 1 60 && bV (.int r) 0 (i - 1))=true
  simp [bV];omega
theorem T3 {p:bB} (ok:p.Ok):fX p<=p.gap:=by
 have g:=ok.gap;unfold fX;cases e:p.rest with
 | none=>exact g.1
 | some r =>
  have:=(ok.rest r e).2
  show r + 1<=p.gap
  omega
theorem G9 {g:eF} {j:Nat} {p:bB} {i i':Int} (hj:j < g.pots.length) (h:i<=i') (e:gD (DK g j p i)):gD (DK g j p i'):=by
 refine Pb ⟨by rw [length_set,length_set],fun k q q' hq hq'=>?_⟩ e
 by_cases z:k=j
 ·subst z;rw [List.getElem?_set_self hj] at hq hq';cases hq;cases hq';exact ⟨rfl,h⟩
 ·rw [List.getElem?_set_ne (Ne.symm z)] at hq hq';rw [hq] at hq';cases hq';exact ⟨rfl,cu _⟩
noncomputable def yM (K:Fg) (a:fP) (PG:aB):Sp:=fun vs H Q E=>∃ x g v o,vs=[.ref x,v]/\eZ a H x g/\(∀ p ∈ g.pots,p.Ok)/\g.pots.length<=8/\Bd K H v o/\((∀ nm,o=some nm->nm ∉ g.pots.map bB.nm)->∀ H',Same H H'->E (.ref a.fJ) none H') /\ (∀ nm j p,o=some nm->First nm g.pots j p->(∀ i,fX p<=i->i<=p.gap->ahf (DK g j p i))/\lH PG uo qI H /\ ∀ H' o',m7 PG H H'->lH PG uo qI H'->DG (DK g j p) (fX p) p.gap o'->Q (jq o') H')
theorem T4:bM ["garden","name","pot"] ["garden","name"] (aW jx):=dI (by decide +kernel)
theorem Ys {f PG cF cG:aB} {fd:d7} (F:lB K "least_gap" "least_gap" jx f fd) (T:Yq K mg a dV cF cG) (hcd:fd.code=.ref cG) (C:CodeHd base cG PG) (hB:base.BuiltinsAt mg PG):bT P w K mg base (d9 P w) 12 f fd ["garden","name"] (yM K a PG):=by
 refine F.Ej hcd T4 (fun vs H Q E h=>?_) (fun A outer s H vs Q E hr h=>?_)
 ·obtain ⟨x,g,v,o,rfl,_⟩:=h;rfl
 ·obtain ⟨x,g,v,o,rfl,gx,iJ,h8,na,noP,yes⟩:=h;have Z:=T.E.L.W.S.Z;have TP:=Z.G.T;obtain ⟨fl,dl,lF,mL⟩:=T.lfe;obtain ⟨fw,dw,wF,mW⟩:=T.aoA;obtain ⟨fp,dp,pF,mP⟩:=T.N.plc;have wR:bT P w K mg base (d9 P w) 1 fp dp ["garden","name"] (TQ K a):=TV pF.F Z T.N.fJ;have JX:∀ base':Heap,bT P w K mg base' (d9 P w) 11 fl dl ["least","most","garden_with"] (G7 P w K mg a base'):=fun base'=>TY lF.F T.E
  have hr1:dJ 1 _:=hr.mono (by decide);refine ⟨_,aJ (bF (i:=2) T4.nd rfl (Or.inl rfl) (cQ jC (cJ (pv 0) rfl) (cH wR hr1 mP pF.F.kp pF.b (cY bQ) (ak (pv 0) (ak (pv 1) aK))) (fun _ _=>rfl))) (aU (bU (Rz (sp:=G7 P w K mg a) (fun base' _ _=>JX base') (fun _=>rfl) hr mL lF.F.kp lF.b bf (ak (Ot (Cs:=fun C=>C=a.pot\/C=a.bJ) (sp:=wY a) (pv 2) hr1 T.S.sh bf) (ak (cJ (pv 2) rfl) (ak (Rx (c:=cG) (P:=PG) (qual:=qI) (cl:=[("name",s.heap.objs.size + 2),("garden",s.heap.objs.size + 1)]) rfl rfl C hB rfl (show (Str.ofString "least_gap"++".<locals>."++"<lambda>":Str)=qI from by decide +kernel)) aK)))))),?_⟩;obtain ⟨dx,l,as,hx,hl,pt⟩:=id gx;have la:as.length=g.pots.length:=Paired.length pt;refine ⟨_,rfl,x,a.garden,dx,_,_,rfl,hx,Z.tG.cl,Z.nG _ (by simp),iH ..,_,rfl,_,rfl,x,g,v,o,rfl,gx,h8,na,noP,fun nm j p eo fj H1 s1=>?_⟩;obtain ⟨fit,lt,q⟩:=yes nm j p eo fj;subst eo;obtain ⟨nm',ev,en⟩:∃ nm',v=.str nm'/\some nm=some nm':=by
   rcases na with h | ⟨z,_⟩
   ·exact h
   ·cases z
  cases en;subst ev;have lj:j < g.pots.length:=(aD.mp fj.at_).1;have lj':j < as.length:=by omega
  have hb:as[j]?=some as[j]:=aA lj';obtain ⟨p',hp',pb⟩:=cD pt hb;have ep:p'=p:=by rw [fj.at_] at hp'; exact (bN hp').symm
  subst ep;have aoC:=iJ p' (aH fj.at_);have hxi:(as.map V.ref)[j]?=some (.ref as[j]):=by rw [aF,hb]; rfl
  obtain ⟨dy,hy⟩:=pb.same s1;have cT:=TP.cls p'.gY;refine ⟨l,_,_,_,rfl,rfl,cW.of (s1 _ _ hl),jh hxi,?_⟩;refine ⟨_,rfl,as[j],p'.cls a,dy,_,rfl,hy,p'.gY,p'.Xz (by decide +kernel) (by decide +kernel) (by decide +kernel),as[j],p',rfl,rfl,⟨dy,hy⟩,?_⟩;refine ⟨_,rfl,as[j],p'.cls a,dy,_,_,rfl,hy,cT.1.cl,cT.2 _ (by simp),p'.oN,lt.same s1,fun fl c' pm ctv H2 b1 Vt hc1 hf1 base' cb=>?_⟩;have SN:=w6 (gx.same s1) b1 (lt.same s1);obtain ⟨c,u,hcl,ru,hcell⟩:=cb.cell 0 "garden" (.ref x) rfl rfl rfl;cases hcl;obtain ⟨c2,u2,ayX,ru2,ahi⟩:=cb.cell 1 "name" (.str nm) rfl rfl rfl;cases ayX;have L:Jm base' (qJ jx) [("name",s.heap.objs.size + 2),("garden",s.heap.objs.size + 1)] "gap" ["name","garden"] [some (.str nm),some (.ref x)]:=by
   refine Jm.of [("name",s.heap.objs.size + 2,.str nm),("garden",s.heap.objs.size + 1,.ref x)] rfl rfl rfl (by decide +kernel) rfl (show ([("name":Str),"garden"]:List Str).Nodup by decide +kernel) (by simp) (show ∀ n ∈ ([("name":Str),"garden"]:List Str),(qJ jx).names.lookup n=some .free by decide +kernel) (show ∀ y ∈ (qJ jx).names,y.2=.free->y.1 ∈ ([("name":Str),"garden"]:List Str) by decide +kernel) (fun q hq=>?_);rcases aQ.mp hq with e | hq2
   ·rw [e]; exact ⟨u2,ru2,ahi⟩
   ·rw [aL.mp hq2];exact ⟨u,ru,hcell⟩
  refine ⟨fX p',p'.gap,fl,kla_fn "<lambda>" qI (Mw jx) (Mx jx) (qJ jx) [("name",s.heap.objs.size + 2),("garden",s.heap.objs.size + 1)] pm (.ref c') ctv,"gap",DK g j p',fun H'=>H' fl=some (Dj fl qI (Mw jx) (Mx jx) (qJ jx) [("name",s.heap.objs.size + 2),("garden",s.heap.objs.size + 1)] pm c' ctv)/\H' c'=some (tH c' qI)/\eZ a H' x g,rfl,T3 aoC,Ry L (fun vs H Q E h=>by obtain ⟨i,rfl,_⟩:=h; rfl) (fun A' ahh s' H' v Q' E' hr' h'=>?_),Binds.all (fun us hu=>?_),⟨_,_,_,_,_,_,_,_,hf1⟩,⟨hf1,hc1,SN⟩,(fun H2 H3 h s=>⟨s _ _ h.1,s _ _ h.2.1,h.2.2.same s⟩),(fun i h0 h1=>(fit i h0 h1).ok),fun i i' h0 h1 h2 e=>G9 lj h1 e,fun H' o s2 lp=>q H' o ((s1.but.trans b1).trans s2.but) (Vt.same s2) lp⟩
  ·obtain ⟨i,ev,h0,h1,⟨jf,jc,jg⟩,q'⟩:=h';cases ev;have okw:bT P w K mg base' (d9 P w) 9 fw dw ["garden","name","gap"] (JT K a):=Mv wF.F Z T.N;refine ⟨jf,jc,_,fun E2=>cH okw hr' mW wF.F.kp wF.b bf (ak (pv 2) (ak (pv 1) (ak (pv 0) aK))),?_⟩;have f:=fit i h0 h1;refine ⟨_,rfl,_,rfl,_,rfl,x,g,nm,i,j,p',rfl,jg,iJ,h8,fj,Yr aoC h0 h1,fun H3 s3=>Gw f.out (fun H4 z hz s4 gn=>q' H4 z (s3.trans s4) gn.at)⟩
  ·match us,hu with
   | [u],_=>rfl
end
abbrev T5:cX:=top 47
abbrev yN:cX:=top 48
section
variable {P:bZ} {w:World} {K:Fg} {mg:Str->Option aC} {base:Heap} {a:fP} {dV:aC}
def aag:Sp:=fun vs H Q _=>∃ m n:Nat,vs=[.int (m:Nat),.int (n:Nat)]/\Q (.int ((Nat.gcd m n:Nat):Int)) H
theorem Bv:bM ["one","other","larger","smaller","rest"] ["one","other"] (aW T5):=dI (by decide +kernel)
theorem ahj {f:aB} {fd:d7} (F:lB K "common_divisor" "common_divisor" T5 f fd):bT P w K mg base (d9 P w) 1 f fd ["one","other"] aag:=by
 refine F.jU Bv (fun vs H Q E h=>?_) (fun cdv A outer s H vs Q E hr h=>?_)
 ·obtain ⟨m,n,rfl,_⟩:=h;rfl
 ·obtain ⟨m,n,rfl,q⟩:=h;refine ⟨_,aJ (bF (i:=2) Bv.nd rfl (Or.inl rfl) (pv 0)) (aJ (bF (i:=3) Bv.nd rfl (Or.inl rfl) (pv 1)) (aJ (rW dY (c7 Eo (pv 3) aR (dH _)) (aJ (bF (i:=4) Bv.nd rfl (Or.inl rfl) (bI fU (pv 2) (pv 3))) (aJ (bF (i:=2) Bv.nd rfl (Or.inl rfl) (pv 3)) (aU (bF (i:=3) Bv.nd rfl (Or.inl rfl) (pv 4)))))) (aU (bU (pv 2))))),?_⟩;refine ⟨_,rfl,_,rfl,?_⟩;refine ⟨fun k σ H'=>∃ (m' n':Nat) (u4:Option V),σ=[some (.int m),some (.int n),some (.int (m':Nat)),some (.int (n':Nat)),u4]/\k=n'/\H'=H/\Nat.gcd m' n'=Nat.gcd m n,⟨_,m,n,_,rfl,rfl,rfl,rfl⟩,?_⟩;rintro k σ H' ⟨m',n',u4,rfl,rfl,rfl,eg⟩;refine ⟨_,rfl,_,_,rfl,rfl,_,rfl,?_⟩
  by_cases hn:(0:Int) < (k:Int)
  ·rw [aO hn];refine dN ⟨fun σ' H2=>∃ (m' n':Nat) (u4:Option V),σ'=[some (.int m),some (.int n),some (.int (m':Nat)),some (.int (n':Nat)),u4]/\n' < k/\H2=H'/\Nat.gcd m' n'=Nat.gcd m n,fun σ' H2 ⟨m1,n1,u1,e,lt,eh,g1⟩=>⟨n1,lt,m1,n1,u1,e,rfl,eh,g1⟩,?_⟩;refine ⟨_,rfl,_,rfl,_,_,rfl,rfl,hn,_,rfl,_,rfl,k,m' % k,_,rfl,Nat.mod_lt _ (by omega),rfl,?_⟩;rw [<- eg,Nat.gcd_comm m' k,Nat.gcd_rec k m',Nat.gcd_comm]
  ·rw [aP hn];have e0:k=0:=by omega
   subst e0;refine dU ⟨_,rfl,?_⟩;rw [Nat.gcd_zero_right] at eg;rw [eg];exact q
def uV (d:Nat) (ps:List bB):Nat:=ps.foldl (fun d p=>Nat.lcm d p.gap.toNat) d
def j7 (g:eF):Nat:=uV g.week.toNat g.pots
def j8 (g:eF):Int:=(g.pots.map fun p=>(j7 g:Int) / p.gap).sum
def lU (g:eF):Int:=((List.range g.week.toNat).map fun d:Nat=>if lY g.closed (d:Int) then 0 else g.cans).sum
def aoD (a:fP):Rep bB:=fun H v p=>∃ b,v=.ref b/\jl a H b p
theorem Mz:xU (aoD a):=⟨fun ⟨b,e,h⟩ s=>⟨b,e,h.same s⟩,fun ⟨b,e,h⟩ hD=>⟨b,e,jl.upd h hD⟩⟩
theorem Bw {H:Hp} {l:aB} {as:List aB} {ps:List bB} (hl:H l=some (.lst (as.map V.ref))) (pt:j4 a H as ps):jH (aoD a) H (.ref l) ps:=by
 refine ⟨l,_,rfl,hl,?_⟩;clear hl
 induction pt with
 | nil=>exact .nil
 | cons h _ ih=>exact .cons ⟨_,rfl,h⟩ ih
abbrev T6:List Str:=["garden","days","pot","needed","in_a_week"]
structure ahk (K:Fg) (mg:Str->Option aC) (a:fP) (dV:aC):Prop where
 W:yD K mg a dV
 sum:mg "sum"=none
 con:∃ f fd,Fn K "cans_on" "cans_on" qw ["garden","day"] f fd/\mg "cans_on"=some (.ref f)
 gcd:∃ f fd,Fn K "common_divisor" "common_divisor" T5 ["one","other"] f fd/\mg "common_divisor"=some (.ref f)
noncomputable def T7 (a:fP):Sp:=fun vs H Q _=>∃ x g,vs=[.ref x]/\eZ a H x g/\Bo g/\g.cans<=8/\g.week<=14/\∀ H' t,Same H H'->H' t=some (.tup [.int (j8 g),.int (lU g * ((j7 g:Int) / g.week)),.int (j7 g:Int)])->Q (.ref t) H'
theorem uW:bM T6 ["garden"] (aW yN):=dI (by decide +kernel)
theorem lcm_div (d n:Nat):((d * n:Nat):Int) / ((Nat.gcd d n:Nat):Int)=((Nat.lcm d n:Nat):Int):=by
 unfold Nat.lcm;rw [Int.natCast_ediv]
theorem JZ {g:eF} (c0:0<=g.cans) (c8:g.cans<=8) (w:g.week<=14):0<=lU g/\lU g<=112:=by
 have:∀ n:Nat,0<=((List.range n).map fun d:Nat=>if lY g.closed (d:Int) then 0 else g.cans).sum/\((List.range n).map fun d:Nat=>if lY g.closed (d:Int) then 0 else g.cans).sum<=8 * n:=by
  intro n
  induction n with
  | zero=>exact ⟨cu _,cu _⟩
  | succ n ih =>
   rw [cN,aY,sum_append,cj,map_nil,sum_cons,sum_nil]
   split <;> omega
 have h:=this g.week.toNat;unfold lU;omega
theorem Yt {f:aB} {fd:d7} (F:lB K "load" "load" yN f fd) (U:ahk K mg a dV):bT P w K mg base (d9 P w) 3 f fd ["garden"] (T7 a):=by
 refine F.jU uW (fun vs H Q E h=>?_) (fun cdv A outer s H vs Q E hr h=>?_)
 ·obtain ⟨x,g,rfl,_⟩:=h;rfl
 ·obtain ⟨x,g,rfl,gx,ok,c8,w14,q⟩:=h;have W:=U.W;have Z:=W.S.Z;have T:=Z.G.T;have B:=T.B;obtain ⟨fc,dc,cF,mC⟩:=U.con;obtain ⟨fg,dg,gF,mG⟩:=U.gcd;have tE:bT P w K mg base (d9 P w) 2 fc dc ["garden","day"] (yE a):=Bm cF.F W;have Yu:bT P w K mg base (d9 P w) 1 fg dg ["one","other"] aag:=ahj gF.F;have kC:=cF.F.kp;have bC:=cF.b;have hr1:dJ 1 _:=hr.mono (by decide);have ndA:[("pot":Str),"days"].Nodup:=by decide +kernel
  have ndB:[("day":Str),"garden"].Nodup:=by decide +kernel
  refine ⟨_,aJ (bF (i:=1) uW.nd rfl (Or.inr rfl) (cJ (pv 0) rfl)) (aJ (iw dY rfl (fu (cJ (pv 0) rfl)) (cL 2 uW.nd) (aU (bF (i:=1) uW.nd rfl (Or.inr rfl) (bI gH (bI oX (pv 1) (cJ (pv 2) rfl)) (cH Yu hr1 mG gF.F.kp gF.b bf (ak (pv 1) (ak (cJ (pv 2) rfl) aK))))))) (aJ (bF (i:=3) uW.nd rfl (Or.inl rfl) (gZ (Bc rfl) U.sum boot_sum (ak (iC bQ rfl ⟨_,_,rfl,rfl,rfl⟩ (jz (N':=["pot","days"]) (cl:=[("days",s.heap.objs.size + 2)]) [none,some 1] T6 (aW yN).names [(".0",.local),("pot",.local),("days",.cell)] ["days"] rfl (by decide +kernel) (by decide +kernel) rfl (fun p hp=>by rw [aL.mp hp]; rfl) rfl rfl rfl rfl (by decide +kernel) rfl (by decide +kernel)) (fu (cJ (pv 0) rfl)) (fun _ _ _ _ _=>cL 0 ndA) (fun _ _ _ _ _=>gJ) (fun _ _ _ _ _ _=>bI gH (pv 1) (vW K (pv 0)))) aK))) (aJ (bF (i:=4) uW.nd rfl (Or.inl rfl) (gZ (Bc rfl) U.sum boot_sum (ak (iC bQ rfl ⟨_,_,rfl,rfl,rfl⟩ (jz (N':=["day","garden"]) (cl:=[("garden",s.heap.objs.size + 1)]) [none,some 0] T6 (aW yN).names [(".0",.local),("day",.local),("cans_on",.globalImplicit),("garden",.cell)] ["garden"] rfl (by decide +kernel) (by decide +kernel) rfl (fun p hp=>by rw [aL.mp hp]; rfl) rfl rfl rfl rfl (by decide +kernel) rfl (by decide +kernel)) (mV rfl B.range (ak (cJ (pv 0) rfl) aK)) (fun _ _ _ _ _=>cL 0 ndB) (fun _ _ _ _ _=>gJ) (fun _ _ _ _ _ acc=>cH tE hr mC kC bC bf (ak (pv 1) (ak (pv 0) aK)))) aK))) (aU (bU (eX (ak (pv 3) (ak (bI oX (pv 4) (bI gH (pv 1) (cJ (pv 0) rfl))) (ak (pv 1) aK))))))))),?_⟩;obtain ⟨dx,l,as,hx,hl,pt⟩:=id gx;have la:as.length=g.pots.length:=Paired.length pt;have w0:=ok.w0;have ew:g.week=((g.week.toNat:Nat):Int):=by omega
  have n8:=ok.n8;have big:1000<=sizeLine:=by decide
  refine ⟨_,rfl,x,a.garden,dx,_,_,rfl,hx,Z.tG.cl,Z.nG _ (by simp),jK ..,?_⟩;refine ⟨_,rfl,x,a.garden,dx,_,_,rfl,hx,Z.tG.cl,Z.nG _ (by simp),iH ..,l,rfl,⟨_,cW.of hl⟩,?_⟩;refine je (K:=K) (a:=l) (xs:=as.map V.ref) (fun i σ H'=>∃ (u2:Option V),σ=[some (.ref x),some (.int ((uV g.week.toNat (g.pots.take i):Nat):Int)),u2,none,none]/\H'=H) ⟨none,?_,rfl⟩ (fun i σ H' _ ⟨_,_,e⟩=>by rw [e]; exact cW.of hl) ?_ ?_
  ·show [some (V.ref x),some (V.int g.week),none,none,none]=_
   rw [show ((uV g.week.toNat (g.pots.take 0):Nat):Int)=g.week by show ((g.week.toNat:Nat):Int)=_; omega]
  ·rintro i v σ H' hi ⟨u2,rfl,rfl⟩;obtain ⟨b,hb,rfl⟩:∃ b,as[i]?=some b/\v=.ref b:=by
    rw [aF] at hi;obtain ⟨b,hb,e⟩:=bA.mp hi;exact ⟨b,hb,e.symm⟩
   obtain ⟨p,hp,⟨dy,hy⟩⟩:=cD pt hb;have wR:=ok.iJ p (aH hp);have gp:=wR.gap;have cT:=T.cls p.gY;have eg:((p.gap.toNat:Nat):Int)=p.gap:=by omega
   generalize hd:uV g.week.toNat (g.pots.take i)=d;have g0:0 < Nat.gcd d p.gap.toNat:=Nat.gcd_pos_of_pos_right _ (by omega);have g1:Nat.gcd d p.gap.toNat<=p.gap.toNat:=Nat.gcd_le_right _ (by omega);refine ⟨_,rfl,_,rfl,b,p.cls a,dy,_,_,rfl,hy,cT.1.cl,cT.2 _ (by simp),p.oN,_,_,rfl,rfl,.inr ⟨by omega,by omega⟩,_,rfl,_,rfl,b,p.cls a,dy,_,_,rfl,hy,cT.1.cl,cT.2 _ (by simp),p.oN,d,p.gap.toNat,by rw [eg]; rfl,_,_,rfl,rfl,⟨by omega,by omega⟩,some (.ref b),?_,rfl⟩;have e1:((d:Int) * p.gap) / ((Nat.gcd d p.gap.toNat:Nat):Int)=((uV g.week.toNat (g.pots.take (i + 1)):Nat):Int):=by
    rw [take_snoc hp];unfold uV at hd ⊢;rw [foldl_append,hd]
    show _=((Nat.lcm d p.gap.toNat:Nat):Int)
    rw [<- lcm_div,Int.natCast_mul,eg]
   show [some (V.ref x),some (V.int (((d:Int) * p.gap) / ((Nat.gcd d p.gap.toNat:Nat):Int))),some (V.ref b),none,none]=_
   rw [e1]
  ·rintro σ H' ⟨u2,rfl,rfl⟩;have eD:uV g.week.toNat (g.pots.take (as.map V.ref).length)=j7 g:=by
    rw [au,la,bO];rfl
   rw [eD];generalize hD:j7 g=D;refine ⟨_,rfl,x,a.garden,dx,_,_,rfl,hx,Z.tG.cl,Z.nG _ (by simp),iH ..,l,rfl,⟨_,cW.of hl⟩,fun lN JN=>?_⟩;refine pB (K:=K) (Mz (a:=a)) iM (fun p=>(D:Int) / p.gap) (Bw hl pt) (by omega) JN ?_ ?_
   ·rintro i p v H2 hp ⟨b,rfl,dy,hy⟩ s2 Qc k;have wR:=ok.iJ p (aH hp);have gp:=wR.gap;have cT:=T.cls p.gY;exact ⟨qR,_,rfl,_,rfl,b,p.cls a,dy,_,_,rfl,hy,cT.1.cl,cT.2 _ (by simp),p.oN,_,_,rfl,rfl,⟨by omega,by omega⟩,k _ _ (Same.refl _) rfl⟩
   intro H1 s1 r1;obtain ⟨_,vs,el,hv,uT⟩:=id r1;cases el;rw [wX uT] at hv;refine ⟨lN,_,rfl,cW.of hv,?_⟩;have SN:=gx.same s1;refine ⟨_,rfl,x,a.garden,dx,_,_,rfl,s1 _ _ hx,Z.tG.cl,Z.nG _ (by simp),jK ..,_,rfl,by omega,by omega,fun lW hlW=>?_⟩;refine FQ iM (fun d:Nat=>if lY g.closed (d:Int) then 0 else g.cans) (n:=g.week.toNat) rfl (by omega) hlW ?_ ?_
   ·intro i H2 lt s2 Qc k;exact ⟨qR,_,rfl,_,rfl,x,g,_,rfl,SN.same s2,dj i,k _ _ (Same.refl _) rfl⟩
   intro H2 s2 r2;obtain ⟨_,vs2,el2,hv2,pv2⟩:=id r2;cases el2;rw [wX pv2] at hv2;have ws:=JZ ok.c0 c8 w14;refine ⟨lW,_,rfl,cW.of hv2,_,rfl,_,rfl,_,rfl,_,rfl,x,a.garden,dx,_,_,rfl,s2 _ _ (s1 _ _ hx),Z.tG.cl,Z.nG _ (by simp),jK ..,_,_,rfl,rfl,⟨w0,by omega⟩,_,_,rfl,rfl,.inl ⟨by show _ < lU g; omega,by show lU g < _; omega⟩,_,rfl,by show 3<=sizeLine; decide,fun t ht=>?_⟩;have v3:=aX (o:=.tup [V.int (j8 g),.int (lU g * ((D:Int) / g.week)),.int (D:Int)]) ht;have e1:(g.pots.map fun p=>(D:Int) / p.gap).sum=j8 g:=by unfold j8; rw [hD]
   rw [e1];exact q _ t ((s1.trans s2).trans v3) (by rw [hD]; exact aG)
end
abbrev pP:cX:=top 52
structure gM where
 pots:List (Str × Int × Int)
 cans:Int
 week:Int
 closed:Int
abbrev wI:Rep (Str × Int × Int):=FN Xd pA pA
theorem dM:xU wI:=FP Xg iM iM
def jN:Rep gM:=fun H v sp=>∃ t l,v=.ref t/\H t=some (.tup [.ref l,.int sp.cans,.int sp.week,.int sp.closed])/\jH wI H (.ref l) sp.pots
theorem jN.same {H H':Hp} {v:V} {sp:gM} (h:jN H v sp) (s:Same H H'):jN H' v sp:=by
 obtain ⟨t,l,e,ht,r⟩:=h;exact ⟨t,l,e,s _ _ ht,r.same dM s⟩
def MF (s:Str):Bool:=s.cps.toList.getLast? == some 113
structure wg (q:Str × Int × Int):Prop where
 nm:nameV (.str q.1)=true
 g1:1<=q.2.1
 g2:q.2.1<=9
 r1:-1<=q.2.2
 r2:q.2.2 < q.2.1
 nq:MF q.1=false
def eU (q:Str × Int × Int):bB:=⟨q.1,q.2.1,if q.2.2 < 0 then none else some q.2.2⟩
def cR (qs:List (Str × Int × Int)):List bB:=qs.map eU
structure fM (sp:gM):Prop where
 n1:1<=sp.pots.length
 n8:sp.pots.length<=8
 nd:(sp.pots.map fun q=>q.1).Nodup
 row:∀ q ∈ sp.pots,wg q
 c1:0<=sp.cans
 c2:sp.cans<=8
 w1:1<=sp.week
 w2:sp.week<=14
 l1:0<=sp.closed
 l2:sp.closed < 2 ^ sp.week.toNat
 sz:sizeOf sp.week (cR sp.pots)<=4000
structure T8 (K:Fg) (mg:Str->Option aC):Prop where
 B:Blt mg
 ce:∃ f fd,Fn K "_law_cell_at" "_law_cell_at" Gx ["_law_script","_law_k"] f fd/\mg "_law_cell_at"=some (.ref f)
 dr:∃ f fd,Fn K "_law_draw" "_law_draw" Gy ["_law_cell","_law_k","_law_many"] f fd/\mg "_law_draw"=some (.ref f)
theorem size_le {m:Int} (hm:0<=m):∀ (ps:List bB) (wk:Int),0<=wk->(∀ p ∈ ps,0<=p.gap/\p.gap<=m)->0<=sizeOf wk ps/\sizeOf wk ps<=wk * m ^ ps.length
 | [],wk,h0,_=>by
  show 0<=wk/\wk<=wk * m ^ 0
  rw [Int.pow_zero,Int.mul_one];exact ⟨h0,cu _⟩
 | p::ps,wk,h0,h=>by
  obtain ⟨g0,g1⟩:=h p (by simp);have h1:0<=wk * p.gap:=Int.mul_nonneg h0 g0;obtain ⟨i1,i2⟩:=size_le hm ps (wk * p.gap) h1 fun q hq=>h q (by simp [hq])
  refine ⟨i1,Int.le_trans i2 ?_⟩;rw [length_cons,Int.pow_succ,Int.mul_comm (m ^ ps.length) m,<- Int.mul_assoc];have p0:0<=m ^ ps.length:=Int.pow_nonneg hm;exact Int.mul_le_mul_of_nonneg_right (Int.mul_le_mul_of_nonneg_left g1 h0) p0
theorem T9 {m:Int} (hm:1<=m):∀ {i n:Nat},i<=n->m ^ i<=m ^ n
 | i,0,h=>by
  have:i=0:=by omega
  rw [this];exact cu _
 | i,n + 1,h=>by
  by_cases e:i=n + 1
  ·rw [e];exact cu _
  ·have ih:=T9 hm (i:=i) (n:=n) (by omega);have p0:0<=m ^ n:=Int.pow_nonneg (by omega);rw [Int.pow_succ];have:=Int.mul_le_mul_of_nonneg_left hm p0;omega
theorem MJ {qs:List (Str × Int × Int)} {wk:Int} {m:Int} {n:Nat} (hm:1<=m) (w1:1<=wk) (w2:wk<=14) (hl:qs.length<=n) (h:∀ q ∈ qs,wg q/\q.2.1<=m) (hb:14 * m ^ n<=4000):sizeOf wk (cR qs)<=4000:=by
 have h1:=(size_le (m:=m) (by omega) (cR qs) wk (by omega) fun p hp=>by
  obtain ⟨q,hq,rfl⟩:=bh.mp hp;have:=(h q hq).1.g1;exact ⟨by show 0<=q.2.1; omega,(h q hq).2⟩).2
 rw [cR,au] at h1;have p1:m ^ qs.length<=m ^ n:=T9 (by omega) hl;have p2:0<=m ^ qs.length:=Int.pow_nonneg (by omega);have h2:wk * m ^ qs.length<=14 * m ^ n:=Int.le_trans (Int.mul_le_mul_of_nonneg_right w2 p2) (Int.mul_le_mul_of_nonneg_left p1 (by decide))
 show sizeOf wk (qs.map eU)<=4000
 omega
def Pu (j:Int):Str:=([("ivy":Str),"iv","fern","fernz","a"]).getD j.toNat "a"
theorem aoF (z:Int):z % 5=0\/z % 5=1\/z % 5=2\/z % 5=3\/z % 5=4:=by omega
theorem ahl (z:Int):W2 [V.str "ivy",.str "iv",.str "fern",.str "fernz",.str "a"] (z % 5)=some (.str (Pu (z % 5)))/\nameV (.str (Pu (z % 5)))=true/\MF (Pu (z % 5))=false:=by
 rcases aoF z with e | e | e | e | e <;> rw [e] <;> exact ⟨rfl,by decide +kernel,by decide +kernel⟩
theorem ahm (z:Int) {n:Nat} (h:n<=3):((List.range n).map fun k:Nat=>Pu ((z + k) % 5)).Nodup:=by
 have e:(fun k:Nat=>Pu ((z + k) % 5))=fun k:Nat=>Pu ((z % 5 + k) % 5):=by
  funext k
  congr 1
  omega
 rw [e];have hn:n=0\/n=1\/n=2\/n=3:=by omega
 rcases aoF z with e | e | e | e | e <;> rw [e] <;> rcases hn with rfl | rfl | rfl | rfl <;> decide +kernel
theorem Yv (z:Int):∃ c,W2 [V.int 1,.int 2,.int 1,.int 0,.int 3,.int 1] (z % 6)=some (.int c)/\0<=c/\c<=8:=by
 have h:z % 6=0\/z % 6=1\/z % 6=2\/z % 6=3\/z % 6=4\/z % 6=5:=by omega
 rcases h with e | e | e | e | e | e <;> rw [e] <;> exact ⟨_,rfl,by decide,by decide⟩
section
variable {P:bZ} {w:World} {K:Fg} {mg:Str->Option aC} {base:Heap} {a:fP} {dV:aC}
abbrev Ua:List Str:=["_law_script","_law_first","_law_cell","_law_other","_law_third","_law_count","_law_most","_law_names","_law_pots","_law_k","_law_gap","_law_rest","_law_week","_law_closed"]
def Ub (K:Fg):Sp:=fun vs H Q _=>∃ (s:aB) (ns:List Int) (k:Nat),vs=[.ref s,.int k]/\cW K H s (ns.map V.int)/\∀ H' v sp,Same H H'->jN H' v sp->fM sp->Q v H'
theorem gO:bM Ua ["_law_script","_law_first"] (aW pP):=dI (by decide +kernel)
theorem aoG (T:T8 K mg) {f:aB} {cdv:aC} {A:dB} {outer:List Env} {s:aV} {H₀:Hp} {E:XK} (hr:dJ 1 (A.deeper (PyProof.Rows.envOfC "_law_spec" (aW pP) s.heap.objs.size f cdv))) : ∃ t,zH (oY (d9 P w) P w K mg base Ua "_law_spec" (aW pP) f cdv A outer s H₀ E) ((fQ pP).drop 13) t/\∀ (D:Ends) (H:Hp) (l:aB) (qs:List (Str × Int × Int)) (third wk:Int) (s0 s1 s2 s3 s5 s6 s7 s9 Vu s11 Yw:Option V),jH wI H (.ref l) qs->1<=wk->wk<=14->(∀ H' t c cl,Same H H'->jN H' (.ref t) ⟨qs,c,wk,cl⟩->0<=c->c<=8->0<=cl->cl < 2 ^ wk.toNat->D.rt (.ref t) H') -> t D [s0,s1,s2,s3,some (.int third),s5,s6,s7,some (.ref l),s9,Vu,s11,some (.int wk),Yw] H:=by
 refine ⟨_,aJ (bF (i:=13) gO.nd rfl (Or.inl rfl) aR) (aJ (eE (c7 oK (bI fU (bI gH (pv 4) aR) aR) aR (dH _)) (aU (bF (i:=13) gO.nd rfl (Or.inl rfl) (bI fU (bI gH (pv 4) aR) (bI Qg aR (pv 12))))) cA) (aU (bU (eX (ak (pv 8) (ak (cQ cB (eX (jD [.int 1,.int 2,.int 1,.int 0,.int 3,.int 1] rfl)) (bI fU (bI gH (pv 4) aR) aR) (fun _ _=>rfl)) (ak (pv 12) (ak (pv 13) aK)))))))),?_⟩;intro D H l qs third wk s0 s1 s2 s3 s5 s6 s7 s9 Vu s11 Yw rl w1 w2 q;have p0:(0:Int) < 2 ^ wk.toNat:=Int.pow_pos (by decide);refine ⟨_,rfl,_,_,rfl,rfl,⟨by decide,by decide⟩,_,_,rfl,rfl,(by show (0:Int) < 3; decide),rfl,_,rfl,?_⟩;obtain ⟨c,ca,c1,c2⟩:=Yv (third / 5);have fin:∀ cl:Int,0<=cl->cl < 2 ^ wk.toNat->∀ t1:aB,H t1=none->∀ t2:aB,(upd H t1 (.tup [V.int 1,.int 2,.int 1,.int 0,.int 3,.int 1])) t2=none->D.rt (.ref t2) (upd (upd H t1 (.tup [V.int 1,.int 2,.int 1,.int 0,.int 3,.int 1])) t2 (.tup [.ref l,.int c,.int wk,.int cl])):=by
  intro cl h0 h1 t1 h2 t2 h3;have v1:=aX (o:=.tup [V.int 1,.int 2,.int 1,.int 0,.int 3,.int 1]) h2;have v2:=aX (o:=.tup [V.ref l,.int c,.int wk,.int cl]) h3;exact q _ t2 c cl (v1.trans v2) ⟨t2,l,rfl,aG,rl.same dM (v1.trans v2)⟩ c1 c2 h0 h1
 refine Eu (fun _=>?_) (fun _=>?_)
 ·refine ⟨_,rfl,_,_,rfl,rfl,⟨by decide,by decide⟩,_,rfl,_,_,rfl,rfl,⟨by omega,by omega,by decide⟩,_,_,rfl,rfl,(by show (0:Int) < 1 * 2 ^ wk.toNat; omega),?_⟩;refine ⟨_,rfl,by show 6<=sizeLine; decide,fun t1 h1=>⟨_,rfl,_,_,rfl,rfl,⟨by decide,by decide⟩,_,_,rfl,rfl,(by show (0:Int) < 6; decide),t1,_,_,_,rfl,rfl,d8.of aG,ca,_,rfl,_,rfl,by show 4<=sizeLine; decide,fun t2 h2=>?_⟩⟩;exact fin _ (Int.emod_nonneg _ (by omega)) (by have:=Int.emod_lt_of_pos (third / 216) (show (0:Int) < 1 * 2 ^ wk.toNat by omega); omega) t1 h1 t2 h2
 ·refine ⟨_,rfl,by show 6<=sizeLine; decide,fun t1 h1=>⟨_,rfl,_,_,rfl,rfl,⟨by decide,by decide⟩,_,_,rfl,rfl,(by show (0:Int) < 6; decide),t1,_,_,_,rfl,rfl,d8.of aG,ca,_,rfl,_,rfl,by show 4<=sizeLine; decide,fun t2 h2=>?_⟩⟩;exact fin 0 (by decide) p0 t1 h1 t2 h2
end
section
variable {P:bZ} {w:World} {K:Fg} {mg:Str->Option aC} {base:Heap} {a:fP} {dV:aC}
abbrev Uc:List V:=[V.str "ivy",.str "iv",.str "fern",.str "fernz",.str "a"]
theorem aoH (T:T8 K mg) {f:aB} {cdv:aC} {A:dB} {outer:List Env} {s:aV} {H₀:Hp} {E:XK} (hr:dJ 1 (A.deeper (PyProof.Rows.envOfC "_law_spec" (aW pP) s.heap.objs.size f cdv))) : ∃ t,zH (oY (d9 P w) P w K mg base Ua "_law_spec" (aW pP) f cdv A outer s H₀ E) ((fQ pP).drop 7) t/\∀ (D:Ends) (H:Hp) (cell other third cnt most:Int) (s0 s1 s7 s8 s9 Vu s11 s12 Yw:Option V),1<=cnt->1<=most->((cnt<=3/\most<=3)\/(cnt<=1/\most<=9))->(∀ H' v sp,Same H H'->jN H' v sp->fM sp->D.rt v H') -> t D [s0,s1,some (.int cell),some (.int other),some (.int third),some (.int cnt),some (.int most),s7,s8,s9,Vu,s11,s12,Yw] H:=by
 have B:=T.B;obtain ⟨fd',dd,dF,mD⟩:=T.dr;have okd:bT P w K mg base (d9 P w) 1 fd' dd ["_law_cell","_law_k","_law_many"] Sw:=XH dF.F;have kD:=dF.F.kp;have bD:=dF.b;obtain ⟨tc,hC,Yx⟩:=aoG (P:=P) (w:=w) (base:=base) (f:=f) (cdv:=cdv) (A:=A) (outer:=outer) (s:=s) (H₀:=H₀) (E:=E) T hr;refine ⟨_,aJ (bF (i:=7) gO.nd rfl (Or.inl rfl) (eX (jD Uc rfl))) (aJ (bF (i:=8) gO.nd rfl (Or.inl rfl) (iG aK)) (aJ (iw dY rfl (mV rfl B.range (ak (pv 5) aK)) (cL 9 gO.nd) (aJ (bF (i:=10) gO.nd rfl (Or.inl rfl) (bI eO aR (cH okd hr mD kD bD bf (ak (pv 3) (ak (pv 9) (ak (pv 6) aK)))))) (aJ (bF (i:=11) gO.nd rfl (Or.inl rfl) (Qf Ib aR)) (aJ (eE (c7 oK (cH okd hr mD kD bD bf (ak (pv 3) (ak (bI eO (pv 9) aR) (jD [.int 4] rfl)))) aR (dH _)) (aU (bF (i:=11) gO.nd rfl (Or.inl rfl) (cH okd hr mD kD bD bf (ak (pv 3) (ak (bI eO (pv 9) aR) (ak (pv 10) aK)))))) cA) (aU (iu (vV PySem.F.plainAttrs_list PySem.F.slot_list_append PySem.F.type_list_append iU (pv 8) (ak (eX (ak (cQ cB (pv 7) (bI fU (bI eO (bI gH (pv 2) aR) (pv 9)) aR) (fun _ _=>rfl)) (ak (pv 10) (ak (pv 11) aK)))) aK)))))))) (aJ (bF (i:=12) gO.nd rfl (Or.inl rfl) (bI eO aR (Gu Nk B.int boot_int (ak (qd oK (bI fU (pv 4) aR) aR (dH _)) aK)))) (aJ (eE (c7 oK (bI fU (bI gH (pv 4) aR) aR) aR (dH _)) (aU (bF (i:=12) gO.nd rfl (Or.inl rfl) (bI eO aR (bI fU (bI gH (pv 4) aR) aR)))) cA) (aJ (eE (c7 oK (bI fU (bI gH (pv 2) aR) aR) aR (dH _)) (aU (bF (i:=12) gO.nd rfl (Or.inl rfl) (bI eO aR (bI fU (pv 4) aR)))) cA) hC))))),?_⟩;intro D H cell other third cnt most s0 s1 s7 s8 s9 Vu s11 s12 Yw c1 m1 hcm q;refine ⟨by show 5<=sizeLine; decide,fun tn htn=>⟨by show 0<=sizeLine; decide,fun l hl=>?_⟩⟩;have v1:=aX (o:=.tup Uc) htn;have v2:=aX (o:=.lst []) hl;refine ⟨_,rfl,_,rfl,by omega,by omega,?_⟩;refine qb (lo:=0) (n:=cnt.toNat) (fun i σ H'=>∃ qs u9 u10 u11,σ=[s0,s1,some (.int cell),some (.int other),some (.int third),some (.int cnt),some (.int most),some (.ref tn),some (.ref l),u9,u10,u11,s12,Yw]/\(qs.map fun q=>q.1)=((List.range i).map fun k:Nat=>Pu ((cell / 54 + k) % 5))/\(∀ q ∈ qs,wg q/\q.2.1<=most)/\jH wI H' (.ref l) qs/\Same (upd H tn (.tup Uc)) H') ⟨[],s9,Vu,s11,rfl,rfl,(fun q hq=>by cases hq),⟨l,[],rfl,aG,.nil⟩,v2⟩ ?_ ?_
 ·rintro i σ H1 lt ⟨qs,u9,u10,u11,rfl,nms,rows,rl,s1'⟩;have e0:(0 + (i:Int))=((i:Nat):Int):=Int.zero_add _;rw [e0];have ln:qs.length=i:=by
   have:=congrArg List.length nms
   rwa [au,au,cg] at this
  refine ⟨_,rfl,_,rfl,_,rfl,_,_,_,rfl,by omega,fun H2 s2=>⟨_,_,rfl,rfl,?_⟩⟩;have d0:=LQ other (i:Int) (m:=most) (by omega);have d1:=LR other (i:Int) (m:=most) (by omega);generalize Gz other (i:Int) most=dr at d0 d1 ⊢;obtain ⟨na,nn,nq⟩:=ahl (cell / 54 + (i:Int));have big:1000<=sizeLine:=by decide
  have fin:∀ (r:Int) (H3:Hp),Same H2 H3->-1<=r->r < 1 + dr->∃ vs,H3 l=some (.lst vs)/\H3 tn=some (.tup Uc)/\vs.length < sizeLine/\∀ t3:aB,H3 t3=none->∃ qs',(qs'.map fun q=>q.1)=((List.range (i + 1)).map fun k:Nat=>Pu ((cell / 54 + k) % 5))/\(∀ q ∈ qs',wg q/\q.2.1<=most)/\jH wI (upd (upd H3 t3 (.tup [V.str (Pu ((cell / 54 + (i:Int)) % 5)),.int (1 + dr),.int r])) l (.lst (vs++[V.ref t3]))) (.ref l) qs'/\Same (upd H tn (.tup Uc)) (upd (upd H3 t3 (.tup [V.str (Pu ((cell / 54 + (i:Int)) % 5)),.int (1 + dr),.int r])) l (.lst (vs++[V.ref t3]))):=by
   intro r H3 s3 r1 r2;obtain ⟨_,vs,el,hv,uT⟩:=rl.same dM (s2.trans s3);cases el;refine ⟨vs,hv,(s1'.trans (s2.trans s3)) _ _ aG,by rw [Paired.length uT,ln]; omega,fun t3 h3=>?_⟩;have v3:=aX (o:=.tup [V.str (Pu ((cell / 54 + (i:Int)) % 5)),.int (1 + dr),.int r]) h3;have hv3:=v3 _ _ hv;refine ⟨qs++[(Pu ((cell / 54 + (i:Int)) % 5),1 + dr,r)],?_,fun q hq=>?_,⟨l,_,rfl,aG,?_⟩,m8 ((s1'.trans (s2.trans s3)).trans v3) hl⟩
   ·rw [aY,nms,cN,aY]; rfl
   ·rcases mem_append.mp hq with h | h
    ·exact rows q h
    ·rw [aL.mp h];exact ⟨⟨nn,by show 1<=1 + dr; omega,by show 1 + dr<=9; omega,r1,r2,nq⟩,by show 1 + dr<=most; omega⟩
   ·refine rB (Paired.jd uT fun _ _ z=>dM.upd (dM.same z v3) hv3) (.cons ?_ .nil);exact dM.upd ⟨t3,_,_,_,rfl,aG,rfl,rfl,rfl⟩ hv3
  refine ⟨_,rfl,_,rfl,_,rfl,_,_,rfl,rfl,_,_,_,rfl,by decide,fun H3 s3=>⟨rfl,_,rfl,?_⟩⟩;refine Eu (fun _=>?_) (fun _=>?_)
  ·refine ⟨_,rfl,_,rfl,_,_,rfl,rfl,_,rfl,_,_,_,rfl,by omega,fun H4 s4=>?_⟩;have e1:=LQ other ((i:Int) + 5) (m:=1 + dr) (by omega);have e2:=LR other ((i:Int) + 5) (m:=1 + dr) (by omega);generalize Gz other ((i:Int) + 5) (1 + dr)=r at e1 e2 ⊢;obtain ⟨vs,hv,ht,lz,k⟩:=fin r H4 (s3.trans s4) (by omega) e2;refine ⟨_,rfl,.inl ⟨rfl,_,cW.of hv⟩,_,rfl,_,rfl,_,_,rfl,rfl,⟨by decide,by decide⟩,_,rfl,_,_,rfl,rfl,_,_,rfl,rfl,(by show (0:Int) < 5; decide),tn,_,_,_,rfl,rfl,d8.of ht,na,_,rfl,_,rfl,by show 3<=sizeLine; decide,fun t3 h3=>?_⟩;obtain ⟨qs',a1,a2,a3,a4⟩:=k t3 h3;exact ⟨l,vs,_,rfl,rfl,(aX h3) _ _ hv,lz,qs',_,_,_,rfl,a1,a2,a3,a4⟩
  ·obtain ⟨vs,hv,ht,lz,k⟩:=fin (-1) H3 s3 (by omega) (by omega);refine ⟨_,rfl,.inl ⟨rfl,_,cW.of hv⟩,_,rfl,_,rfl,_,_,rfl,rfl,⟨by decide,by decide⟩,_,rfl,_,_,rfl,rfl,_,_,rfl,rfl,(by show (0:Int) < 5; decide),tn,_,_,_,rfl,rfl,d8.of ht,na,_,rfl,_,rfl,by show 3<=sizeLine; decide,fun t3 h3=>?_⟩;obtain ⟨qs',a1,a2,a3,a4⟩:=k t3 h3;exact ⟨l,vs,_,rfl,rfl,(aX h3) _ _ hv,lz,qs',_,_,_,rfl,a1,a2,a3,a4⟩
 ·rintro σ H1 ⟨qs,u9,u10,u11,rfl,nms,rows,rl,s1'⟩;have ln:qs.length=cnt.toNat:=by
   have:=congrArg List.length nms
   rwa [au,au,cg] at this
  have fin:∀ wk:Int,1<=wk->wk<=14->∀ H' t c cl,Same H1 H'->jN H' (.ref t) ⟨qs,c,wk,cl⟩->0<=c->c<=8->0<=cl->cl < 2 ^ wk.toNat->D.rt (.ref t) H':=by
   intro wk w1 w2 H' t c cl s' r c0 c8 l0 l1;refine q H' _ _ ((v1.trans s1').trans s') r ⟨by show 1<=qs.length; omega,by show qs.length<=8; omega,?_,fun z hz=>(rows z hz).1,c0,c8,w1,w2,l0,l1,?_⟩
   ·show (qs.map fun q=>q.1).Nodup
    rw [nms];exact ahm _ (by omega)
   ·rcases hcm with ⟨x1,x2⟩ | ⟨x1,x2⟩
    ·exact MJ (m:=3) (n:=3) (by decide) w1 w2 (by show qs.length<=3; omega) (fun z hz=>⟨(rows z hz).1,by have:=(rows z hz).2; omega⟩) (by decide)
    ·exact MJ (m:=9) (n:=1) (by decide) w1 w2 (by show qs.length<=1; omega) (fun z hz=>⟨(rows z hz).1,by have:=(rows z hz).2; omega⟩) (by decide)
  refine ⟨_,rfl,_,_,rfl,rfl,(by show (0:Int) < 3; decide),rfl,.inr ⟨_,rfl,_,_,rfl,rfl,?_⟩⟩;have b0:∀ b:Bool,1<=1 + (if b then (1:Int) else 0)/\1 + (if b then (1:Int) else 0)<=14:=fun b=>by cases b <;> decide
  have b1:0<=third / 24 % 3:=Int.emod_nonneg _ (by decide);have b2:third / 24 % 3 < 3:=Int.emod_lt_of_pos _ (by decide);have b3:0<=third % 14:=Int.emod_nonneg _ (by decide);have b4:third % 14 < 14:=Int.emod_lt_of_pos _ (by decide);refine ⟨_,rfl,_,_,rfl,rfl,⟨by decide,by decide⟩,_,_,rfl,rfl,(by show (0:Int) < 8; decide),rfl,_,rfl,?_⟩;refine Eu (fun _=>⟨_,rfl,_,_,rfl,rfl,⟨by decide,by decide⟩,_,_,rfl,rfl,(by show (0:Int) < 3; decide),_,_,rfl,rfl,_,rfl,_,_,rfl,rfl,⟨by decide,by decide⟩,_,_,rfl,rfl,(by show (0:Int) < 6; decide),rfl,_,rfl,Eu (fun _=>⟨_,rfl,_,_,rfl,rfl,(by show (0:Int) < 14; decide),_,_,rfl,rfl,?_⟩) (fun _=>?_)⟩) (fun _=>⟨_,rfl,_,_,rfl,rfl,⟨by decide,by decide⟩,_,_,rfl,rfl,(by show (0:Int) < 6; decide),rfl,_,rfl,Eu (fun _=>⟨_,rfl,_,_,rfl,rfl,(by show (0:Int) < 14; decide),_,_,rfl,rfl,?_⟩) (fun _=>?_)⟩)
  ·exact Yx D H1 l qs third _ _ _ _ _ _ _ _ _ _ _ _ rl (by omega) (by omega) (fin _ (by omega) (by omega))
  ·exact Yx D H1 l qs third _ _ _ _ _ _ _ _ _ _ _ _ rl (by omega) (by omega) (fin _ (by omega) (by omega))
  ·exact Yx D H1 l qs third _ _ _ _ _ _ _ _ _ _ _ _ rl (by omega) (by omega) (fin _ (by omega) (by omega))
  ·exact Yx D H1 l qs third _ _ _ _ _ _ _ _ _ _ _ _ rl (b0 _).1 (b0 _).2 (fin _ (b0 _).1 (b0 _).2)
end
abbrev pQ:cX:=top 53
section
variable {P:bZ} {w:World} {K:Fg} {mg:Str->Option aC} {base:Heap} {a:fP} {dV:aC}
theorem Yy {f:aB} {fd:d7} (F:lB K "_law_spec" "_law_spec" pP f fd) (T:T8 K mg):bT P w K mg base (d9 P w) 2 f fd ["_law_script","_law_first"] (Ub K):=by
 refine F.jU gO (fun vs H Q E h=>?_) (fun cdv A outer s H vs Q E hr h=>?_)
 ·obtain ⟨s,ns,k,rfl,_⟩:=h;rfl
 ·obtain ⟨sc,ns,k,rfl,hS,q⟩:=h;have B:=T.B;obtain ⟨fc,dc,cF,mC⟩:=T.ce;have tE:bT P w K mg base (d9 P w) 1 fc dc ["_law_script","_law_k"] (Ds K):=Dt cF.F B;have kC:=cF.F.kp;have bC:=cF.b;obtain ⟨tb,hB,Ph⟩:=aoH (P:=P) (w:=w) (base:=base) (f:=f) (cdv:=cdv) (A:=A) (outer:=outer) (s:=s) (H₀:=H) (E:=E) T hr;refine ⟨_,aJ (bF (i:=2) gO.nd rfl (Or.inl rfl) (cH tE hr mC kC bC bf (ak (pv 0) (ak (pv 1) aK)))) (aJ (bF (i:=3) gO.nd rfl (Or.inl rfl) (cH tE hr mC kC bC bf (ak (pv 0) (ak (bI eO (pv 1) aR) aK)))) (aJ (bF (i:=4) gO.nd rfl (Or.inl rfl) (cH tE hr mC kC bC bf (ak (pv 0) (ak (bI eO (pv 1) aR) aK)))) (aJ (bF (i:=5) gO.nd rfl (Or.inl rfl) (bI eO aR (bI fU (pv 2) aR))) (aJ (bF (i:=6) gO.nd rfl (Or.inl rfl) aR) (aJ (eE (pw_and (c7 oK (pv 5) aR (dH _)) (pw_and1 (c7 Eo (bI fU (bI gH (pv 2) aR) aR) aR (dH _)))).pt (aU (bF (i:=6) gO.nd rfl (Or.inl rfl) aR)) cA) (aJ (eE (c7 oK (bI fU (bI gH (pv 2) aR) aR) aR (dH _)) (aJ (bF (i:=5) gO.nd rfl (Or.inl rfl) aR) (aU (bF (i:=6) gO.nd rfl (Or.inl rfl) aR))) cA) hB)))))),?_⟩;refine ⟨_,rfl,_,rfl,sc,ns,k,rfl,hS,_,rfl,_,rfl,_,_,rfl,rfl,sc,ns,k + 1,rfl,hS,_,rfl,_,rfl,_,_,rfl,rfl,sc,ns,k + 2,rfl,hS,_,rfl,_,_,rfl,rfl,(by show (0:Int) < 3; decide),_,_,rfl,rfl,_,rfl,rfl,_,rfl,?_⟩;generalize ns.getD k 0=cell;generalize ns.getD (k + 1) 0=other;generalize ns.getD (k + 2) 0=third;have c0:0<=cell % 3:=Int.emod_nonneg _ (by decide);have c1:cell % 3 < 3:=Int.emod_lt_of_pos _ (by decide);refine Eu (fun _=>⟨_,rfl,_,_,rfl,rfl,⟨by decide,by decide⟩,_,_,rfl,rfl,(by show (0:Int) < 3; decide),_,_,rfl,rfl,_,rfl,Eu (fun _=>?_) (fun _=>?_)⟩) (fun _=>dU ?_)
  all_goals refine ⟨_,rfl,_,_,rfl,rfl,⟨by decide,by decide⟩,_,_,rfl,rfl,(by show (0:Int) < 6; decide),rfl,_,rfl,Eu (fun _=>?_) (fun _=>?_)⟩
  ·exact Ph _ H cell other third 1 9 _ _ _ _ _ _ _ _ _ (by decide) (by decide) (.inr ⟨by decide,by decide⟩) q
  ·exact Ph _ H cell other third _ 2 _ _ _ _ _ _ _ _ _ (by omega) (by decide) (.inl ⟨by omega,by decide⟩) q
  ·exact Ph _ H cell other third 1 9 _ _ _ _ _ _ _ _ _ (by decide) (by decide) (.inr ⟨by decide,by decide⟩) q
  ·exact Ph _ H cell other third _ 3 _ _ _ _ _ _ _ _ _ (by omega) (by decide) (.inl ⟨by omega,by decide⟩) q
  ·exact Ph _ H cell other third 1 9 _ _ _ _ _ _ _ _ _ (by decide) (by decide) (.inr ⟨by decide,by decide⟩) q
  ·exact Ph _ H cell other third _ 3 _ _ _ _ _ _ _ _ _ (by omega) (by decide) (.inl ⟨by omega,by decide⟩) q
def eV (sp:gM):eF:=⟨cR sp.pots,sp.cans,sp.week,sp.closed⟩
theorem Hf {q:Str × Int × Int} (h:wg q):(eU q).Ok:=by
 refine ⟨h.nm,⟨h.g1,by have:=h.g2; show q.2.1<=60; omega⟩,fun r hr=>?_⟩;unfold eU at hr;dsimp only at hr
 split at hr
 ·cases hr
 ·cases hr;exact ⟨by omega,h.r2⟩
theorem fM.iJ {sp:gM} (h:fM sp):∀ p ∈ (eV sp).pots,p.Ok:=by
 intro p hp;obtain ⟨q,hq,rfl⟩:=bh.mp hp;exact Hf (h.row q hq)
theorem iD (qs:List (Str × Int × Int)):(cR qs).length=qs.length:=by rw [cR,au]
theorem fM.out {sp:gM} (h:fM sp):zY (some (cR sp.pots)) (.int sp.cans) (.int sp.week) (.int sp.closed)=.ok:=by
 show tY _ _ _ _=_
 unfold tY;have n1:=h.n1;have n8:=h.n8;have w1:=h.w1;have w2:=h.w2;have c1:=h.c1;have c2:=h.c2;have l1:=h.l1;have l2:=h.l2;have c:vY (cR sp.pots).length (.int sp.cans) (.int sp.week) (.int sp.closed)=true:=by
  unfold vY tW bV;rw [iD];simp [n1,n8,w1,w2,c1,c2,l1];omega
 have nd:((cR sp.pots).map bB.nm).Nodup:=by
  have:(cR sp.pots).map bB.nm=sp.pots.map fun q=>q.1:=by rw [cR,fG]; rfl
  rw [this];exact h.nd
 rw [if_neg (by rw [c]; decide),if_neg (fun z=>z nd)];have:sizeOf sp.week (cR sp.pots)<=20000:=Int.le_trans h.sz (by decide);exact if_neg (by omega)
abbrev aoI:List Str:=["_law_spec_here","_law_pots","_law_name","_law_gap","_law_rest"]
def DN (a:fP):Sp:=fun vs H Q _=>∃ v sp,vs=[v]/\jN H v sp/\fM sp/\∀ H' x,Same H H'->eZ a H' x (eV sp)->Q (.ref x) H'
theorem yO:bM aoI ["_law_spec_here"] (aW pQ):=dI (by decide +kernel)
theorem DP {f:aB} {fd:d7} (F:lB K "_law_garden" "_law_garden" pQ f fd) (Z:zX K mg a dV):bT P w K mg base (d9 P w) 9 f fd ["_law_spec_here"] (DN a):=by
 refine F.jU yO (fun vs H Q E h=>?_) (fun cdv A outer s H vs Q E hr h=>?_)
 ·obtain ⟨v,sp,rfl,_⟩:=h;rfl
 ·obtain ⟨v,sp,rfl,⟨t,l,rfl,ht,rl⟩,ok,q⟩:=h;have T:=Z.G.T;have B:=T.B;have hr3:dJ 3 _:=hr.mono (by decide);have hr4:dJ 4 _:=hr.mono (by decide);refine ⟨_,aJ (bF (i:=1) yO.nd rfl (Or.inl rfl) (iG aK)) (aJ (iw dY rfl (fu (cQ cB (pv 0) aR (fun _ _=>rfl))) (nM rfl (bY (cL 2 yO.nd) (bY (cL 3 yO.nd) (bY (cL 4 yO.nd) gQ)))) (aU (eE (c7 Qk (pv 4) aR (dH _)) (aU (iu (vV PySem.F.plainAttrs_list PySem.F.slot_list_append PySem.F.type_list_append iU (pv 1) (ak (xT T.kP (qZ T) hr3 T.Xw T.PI.b (cY bQ) (ak (pv 2) (ak (pv 3) aK))) aK)))) (aU (iu (vV PySem.F.plainAttrs_list PySem.F.slot_list_append PySem.F.type_list_append iU (pv 1) (ak (xT T.kC (yp T) hr4 T.agH T.CI.b (cY bQ) (ak (pv 2) (ak (pv 3) (ak (pv 4) aK)))) aK))))))) (aU (bU (xT Z.kG (Sq Z) hr Z.R8 Z.b4 (cY bQ) (ak (pv 1) (ak (cQ cB (pv 0) aR (fun _ _=>rfl)) (ak (cQ cB (pv 0) aR (fun _ _=>rfl)) (ak (cQ cB (pv 0) aR (fun _ _=>rfl)) aK)))))))),?_⟩;refine ⟨by show 0<=sizeLine; decide,fun lp hlp=>?_⟩;have vp:=aX (o:=.lst []) hlp;obtain ⟨_,vs,el,hv,uT⟩:=id rl;cases el;have big:1000<=sizeLine:=by decide
  have n8:=ok.n8;refine ⟨_,rfl,t,_,0,.ref l,rfl,rfl,d8.of (vp _ _ ht),rfl,l,rfl,⟨_,cW.of (vp _ _ hv)⟩,?_⟩;refine je (K:=K) (a:=l) (xs:=vs) (fun i σ H'=>∃ u2 u3 u4 bs,σ=[some (.ref t),some (.ref lp),u2,u3,u4]/\bs.length=i/\H' lp=some (.lst (bs.map V.ref))/\j4 a H' bs ((cR sp.pots).take i)/\Same H H') ⟨none,none,none,[],rfl,rfl,aG,.nil,vp⟩ (fun i σ H' _ ⟨_,_,_,_,_,_,_,_,s'⟩=>cW.of (s' _ _ hv)) ?_ ?_
  ·rintro i x σ H2 hi ⟨u2,u3,u4,bs,rfl,lb,hp2,pt2,s2⟩;obtain ⟨c,hc,rc⟩:=cD uT hi;have tE:=ok.row c (aH hc);have li:i < sp.pots.length:=(aD.mp hc).1;have ay2:(cR sp.pots)[i]?=some (eU c):=by rw [cR,aF,hc]; rfl
   obtain ⟨tc,y1,y2,y3,rfl,htc,r1,r2,r3⟩:=dM.same rc s2;cases r1; cases r2; cases r3;have lz:(bs.map V.ref).length < sizeLine:=by rw [au]; omega
   have wR:=Hf tE;have g1:=tE.g1;have g2:=tE.g2;have g3:c.2.1<=60:=by omega
   have hnm:=tE.nm;have a1:ju (.str c.1) (.int c.2.1)=true:=by simp [ju,hnm,bV,g1,g3]
   have fin:∀ H3 y,H2 y=none->Same H2 H3->jl a H3 y (eU c)->∃ u2 u3 u4 bs',[some (V.ref t),some (V.ref lp),some (V.str c.1),some (V.int c.2.1),some (V.int c.2.2)]=[some (V.ref t),some (V.ref lp),u2,u3,u4]/\bs'.length=i + 1/\(upd H3 lp (.lst (bs.map V.ref++[V.ref y]))) lp=some (.lst (bs'.map V.ref))/\j4 a (upd H3 lp (.lst (bs.map V.ref++[V.ref y]))) bs' ((cR sp.pots).take (i + 1))/\Same H (upd H3 lp (.lst (bs.map V.ref++[V.ref y]))):=by
    intro H3 y hy s3 py;have hp3:=s3 _ _ hp2;refine ⟨_,_,_,bs++[y],rfl,by rw [bx,lb]; rfl,by rw [aG,aY]; rfl,?_,m8 (s2.trans s3) hlp⟩;rw [take_snoc ay2];exact Paired.snoc ((pt2.same s3).upd hp3) (jl.upd py hp3)
   refine ⟨tc,_,rfl,d8.of htc,rfl,_,_,rfl,_,_,rfl,_,_,rfl,rfl,?_⟩;refine ⟨_,rfl,_,_,rfl,rfl,_,rfl,?_⟩
   by_cases neg:c.2.2 < 0
   ·rw [aO neg];refine dN ⟨_,rfl,.inl ⟨rfl,_,cW.of hp2⟩,_,rfl,_,rfl,agR ?_⟩;refine RW (kn:=.str) (kg:=.int) ⟨_,rfl⟩ (nZ hnm) ⟨_,rfl⟩ (fun e=>absurd e ?_) (fun _ H3 y hy s3 py=>⟨lp,_,_,rfl,rfl,s3 _ _ hp2,lz,fin H3 y hy s3 ?_⟩)
    ·rw [a1]; decide
    ·obtain ⟨dy,hy'⟩:=py;refine ⟨dy,?_⟩;rw [hy'];simp only [bB.cls,bB.fs,eU,if_pos neg]
   ·rw [aP neg];refine dU ⟨_,rfl,.inl ⟨rfl,_,cW.of hp2⟩,_,rfl,_,rfl,_,rfl,agR ?_⟩;refine RX (kn:=.str) (kg:=.int) (kr:=.int) ⟨_,rfl⟩ (nZ hnm) ⟨_,rfl⟩ ⟨_,rfl⟩ (fun e=>absurd e ?_) (fun _ H3 y hy s3 py=>⟨lp,_,_,rfl,rfl,s3 _ _ hp2,lz,fin H3 y hy s3 ?_⟩)
    ·have r2:=tE.r2;have r0:0<=c.2.2:=by omega
     have r3:c.2.2<=c.2.1 - 1:=by omega
     have a2:restOk (.int c.2.1) (.int c.2.2)=true:=by simp [restOk,bV,r0,r3]
     rw [a1,a2]
     decide
    ·obtain ⟨dy,hy'⟩:=py;refine ⟨dy,?_⟩;rw [hy'];simp only [bB.cls,bB.fs,eU,if_neg neg]
  rintro σ H2 ⟨u2,u3,u4,bs,rfl,lb,hp2,pt2,s2⟩;have lv:vs.length=sp.pots.length:=Paired.length uT;rw [lv,<- iD,bO] at pt2;have wV:=s2 _ _ ht;refine ⟨_,rfl,_,rfl,t,_,1,.int sp.cans,rfl,rfl,d8.of wV,rfl,_,rfl,t,_,2,.int sp.week,rfl,rfl,d8.of wV,rfl,_,rfl,t,_,3,.int sp.closed,rfl,rfl,d8.of wV,rfl,?_⟩;exact Jx (kc:=.int) (kw:=.int) (kl:=.int) (yq.pots (as:=bs) (ps:=cR sp.pots) ⟨lp,_,rfl,.inl hp2⟩ (cW.of hp2) (by omega) pt2 ok.iJ) ⟨_,rfl⟩ ⟨_,rfl⟩ ⟨_,rfl⟩ (Gw ok.out (fun H4 x hx s4 gn=>q H4 x (s2.trans s4) (by obtain ⟨d4,l4,a4,e1,e2,e3,_⟩:=gn; exact ⟨d4,l4,a4,e1,e2,e3⟩)))
end
theorem fM.fit {sp:gM} (ok:fM sp):ahf (eV sp):=⟨⟨by have:=ok.w1; show 0 < sp.week; omega,ok.c1,by show (cR sp.pots).length<=8; rw [iD]; exact ok.n8,ok.iJ,Int.le_trans ok.sz (by decide)⟩,ok.out⟩
theorem uX {sp:gM} (ok:fM sp) {c:Int} (h0:0<=c) (h8:c<=8):fM ⟨sp.pots,c,sp.week,sp.closed⟩:=⟨ok.n1,ok.n8,ok.nd,ok.row,h0,h8,ok.w1,ok.w2,ok.l1,ok.l2,ok.sz⟩
def rowAt (q:Str × Int × Int) (i:Int):Str × Int × Int:=(q.1,i,q.2.2)
def Yz (sp:gM) (k:Nat) (q:Str × Int × Int) (i:Int):gM:=⟨sp.pots.set k (rowAt q i),sp.cans,sp.week,sp.closed⟩
theorem uY:∀ {ps qs:List bB} {a b:Int},0<=a->a<=b->qs.length=ps.length->(∀ (k:Nat) p q,ps[k]?=some p->qs[k]?=some q->0<=p.gap/\p.gap<=q.gap)->sizeOf a ps<=sizeOf b qs
 | [],[],_,_,_,h,_,_=>h
 | [],_::_,_,_,_,_,h,_=>by simp at h
 | _::_,[],_,_,_,_,h,_=>by simp at h
 | p::ps,q::qs,a,b,h0,h,hl,hg=>by
  obtain ⟨g0,g1⟩:=hg 0 p q rfl rfl;refine uY (ps:=ps) (qs:=qs) (a:=a * p.gap) (b:=b * q.gap) (Int.mul_nonneg h0 g0) ?_ (by simpa using hl) fun k p' q' e1 e2=>hg (k + 1) p' q' (by simpa using e1) (by simpa using e2)
  exact Int.le_trans (Int.mul_le_mul_of_nonneg_right h g0) (Int.mul_le_mul_of_nonneg_left g1 (by omega))
theorem yP:∀ (ps:List bB) (a n:Int),sizeOf (n * a) ps=n * sizeOf a ps
 | [],_,_=>rfl
 | p::ps,a,n=>by
  show sizeOf (n * a * p.gap) ps=n * sizeOf (a * p.gap) ps
  rw [Int.mul_assoc];exact yP ps (a * p.gap) n
theorem Hg (qs:List (Str × Int × Int)) (k:Nat) (q:Str × Int × Int):cR (qs.set k q)=(cR qs).set k (eU q):=by rw [cR,cR,map_set]
theorem yQ {sp:gM} {k:Nat} {q:Str × Int × Int} (i:Int):eV (Yz sp k q i)=DK (eV sp) k (eU q) i:=by
 show (⟨cR (sp.pots.set k (rowAt q i)),_,_,_⟩:eF)=_
 rw [Hg];rfl
theorem Pj {sp:gM} {k:Nat} {q:Str × Int × Int} (hq:sp.pots[k]?=some q) (i:Int):((sp.pots.set k (rowAt q i)).map fun q=>q.1)=sp.pots.map fun q=>q.1:=by
 apply ext_getElem?;intro j;rw [aF,aF]
 by_cases e:j=k
 ·subst e;rw [List.getElem?_set_self (aD.mp hq).1,hq];rfl
 ·rw [List.getElem?_set_ne (Ne.symm e)]
theorem Bx {q:Str × Int × Int} (h:wg q):fX (eU q)=(if (0:Int) > q.2.2 then 0 else q.2.2) + 1:=by
 unfold fX eU
 by_cases e:q.2.2 < 0
 ·simp [e]
 ·simp [e]
theorem Hh {sp:gM} (ok:fM sp) {k:Nat} {q:Str × Int × Int} (hq:sp.pots[k]?=some q) {i:Int} (h1:fX (eU q)<=i) (h2:i<=q.2.1):fM (Yz sp k q i):=by
 have rq:=ok.row q (aH hq);have e:=Bx rq;have r1:=rq.r1;have g2:=rq.g2;have hi:1<=i/\q.2.2 < i:=by
  rw [e] at h1
  split at h1 <;> omega
 refine ⟨by show 1<=(sp.pots.set k _).length; rw [length_set]; exact ok.n1,by show (sp.pots.set k _).length<=8; rw [length_set]; exact ok.n8,by show ((sp.pots.set k (rowAt q i)).map fun q=>q.1).Nodup; rw [Pj hq]; exact ok.nd,fun z hz=>?_,ok.c1,ok.c2,ok.w1,ok.w2,ok.l1,ok.l2,?_⟩
 ·rcases List.mem_or_eq_of_mem_set hz with hz | hz
  ·exact ok.row z hz
  ·rw [hz];exact ⟨rq.nm,hi.1,by show i<=9; omega,rq.r1,hi.2,rq.nq⟩
 ·refine Int.le_trans (uY (a:=sp.week) (by have:=ok.w1; omega) (cu sp.week) ?_ fun j p p' hp hp'=>?_) ok.sz
  ·show (cR sp.pots).length=(cR (sp.pots.set k (rowAt q i))).length
   rw [iD,iD,length_set]
  ·have hp:(cR (sp.pots.set k (rowAt q i)))[j]?=some p:=hp;rw [Hg] at hp;have op':=ok.iJ p' (aH hp');have g1:=op'.gap.1
   by_cases z:j=k
   ·subst z;rw [List.getElem?_set_self (by rw [iD]; exact (aD.mp hq).1)] at hp;cases hp;have:(cR sp.pots)[j]?=some (eU q):=by rw [cR,aF,hq]; rfl
    rw [this] at hp';cases hp';exact ⟨by show 0<=i; omega,h2⟩
   ·rw [List.getElem?_set_ne (Ne.symm z),hp'] at hp;cases hp;exact ⟨by omega,cu _⟩
theorem J0 {sp:gM} (ok:fM sp) {k:Nat} {q:Str × Int × Int} (hq:sp.pots[k]?=some q):First q.1 (eV sp).pots k (eU q):=by
 refine ⟨by show (cR sp.pots)[k]?=_; rw [cR,aF,hq]; rfl,rfl,fun i p hi hp e=>?_⟩;have hp:(cR sp.pots)[i]?=some p:=hp;rw [cR,aF] at hp;obtain ⟨r,hr,rfl⟩:=bA.mp hp;have e:r.1=q.1:=e;have li:=(aD.mp hr).1;have lk:=(aD.mp hq).1;have h1:(sp.pots.map fun q=>q.1)[i]?=some r.1:=by rw [aF,hr]; rfl
 have h2:(sp.pots.map fun q=>q.1)[k]?=some q.1:=by rw [aF,hq]; rfl
 rw [e] at h1;have l1:=(aD.mp h1);have l2:=(aD.mp h2);have:=List.pairwise_iff_getElem.mp ok.nd i k l1.1 l2.1 hi;exact this (l1.2.trans l2.2.symm)
theorem ends_app (s:Str):MF (s++"q")=true:=by
 unfold MF
 show ((s.cps++(Str.ofString "q").cps).toList.getLast? == some 113)=true
 rw [Array.toList_append,show (Str.ofString "q").cps.toList=[113] by decide +kernel,List.getLast?_append];rfl
theorem Ud {sp:gM} (ok:fM sp) (s:Str):s++"q" ∉ (eV sp).pots.map bB.nm:=by
 intro h;obtain ⟨p,hp,e⟩:=bh.mp h;obtain ⟨q,hq,rfl⟩:=bh.mp hp;have h1:=(ok.row q hq).nq;have e:q.1=s++"q":=e;rw [e,ends_app] at h1;cases h1
theorem Ue {sp:gM} (ok:fM sp):fM ⟨sp.pots.take 2,sp.cans,sp.week,sp.closed⟩:=by
 have n1:=ok.n1;refine ⟨by show 1<=(sp.pots.take 2).length; rw [length_take]; omega,by show (sp.pots.take 2).length<=8; rw [length_take]; omega,by show ((sp.pots.take 2).map fun q=>q.1).Nodup; rw [List.map_take]; exact ok.nd.sublist (List.take_sublist _ _),fun z hz=>ok.row z (List.mem_of_mem_take hz),ok.c1,ok.c2,ok.w1,ok.w2,ok.l1,ok.l2,?_⟩;have up:∀ (ps:List bB) (a:Int),0<=a->(∀ p ∈ ps,1<=p.gap)->a<=sizeOf a ps:=by
  intro ps
  induction ps with
  | nil=>exact fun a _ _=>cu _
  | cons p ps ih =>
   intro a h0 h;have g:=h p (by simp);have h1:a * 1<=a * p.gap:=Int.mul_le_mul_of_nonneg_left g h0;have:=ih (a * p.gap) (Int.mul_nonneg h0 (by omega)) fun q hq=>h q (by simp [hq])
   show a<=sizeOf (a * p.gap) ps
   omega
 have pos:∀ (ps:List bB) (a:Int),0<=a->(∀ p ∈ ps,1<=p.gap)->0<=sizeOf a ps:=fun ps a h0 h=>Int.le_trans h0 (up ps a h0 h)
 have sp2:sizeOf sp.week (cR sp.pots)=sizeOf (sizeOf sp.week (cR (sp.pots.take 2))) (cR (sp.pots.drop 2)):=by
  unfold sizeOf cR;rw [<- foldl_append,<- aY,take_append_drop]
 have g1:∀ q ∈ sp.pots,1<=(eU q).gap:=fun q hq=>(ok.row q hq).g1
 have:=up (cR (sp.pots.drop 2)) (sizeOf sp.week (cR (sp.pots.take 2))) (pos _ _ (by have:=ok.w1; omega) fun p hp=>by
  obtain ⟨q,hq,rfl⟩:=bh.mp hp;exact g1 q (List.mem_of_mem_take hq)) fun p hp=>by
  obtain ⟨q,hq,rfl⟩:=bh.mp hp;exact g1 q (List.mem_of_mem_drop hq)
 show sizeOf sp.week (cR (sp.pots.take 2))<=4000
 rw [<- sp2] at this;have:=ok.sz;omega
def aho (gw:Int->eF) (lo hi:Int) (o:Option Int):Prop:=(o=none/\∀ i,lo<=i->i<=hi->¬ gD (gw i))\/∃ r,o=some r/\lo<=r/\r<=hi/\gD (gw r)/\∀ i,lo<=i->i < r->¬ gD (gw i)
theorem BJ {gw:Int->eF} {lo hi:Int} {o o':Option Int} (mono:∀ i j,lo<=i->i<=j->j<=hi->gD (gw i)->gD (gw j)) (h:DG gw lo hi o) (h':aho gw lo hi o'):o=o':=by
 rcases h with ⟨rfl,n⟩ | ⟨r,rfl,r1,r2,e,m⟩
 ·rcases h' with ⟨rfl,_⟩ | ⟨r',rfl,s1,s2,e',_⟩
  ·rfl
  ·exact absurd (mono r' hi s1 s2 (cu _) e') n
 ·rcases h' with ⟨rfl,n⟩ | ⟨r',rfl,s1,s2,e',m'⟩
  ·exact absurd e (n r r1 r2)
  ·have:r=r':=by
    rcases Int.lt_trichotomy r r' with z | z | z
    ·exact absurd e (m' r r1 z)
    ·exact z
    ·exact absurd e' (m r' s1 z)
   rw [this]
abbrev Hi:cX:=top 54
section
variable {X:Cx} {e:Expr} {te:TE} {p pos p2:Pos}
theorem YB (K:Fg) {x:Str} {C:aB} (hi:X.mg "isinstance"=none) (hx:X.mg x=some (.ref C)) (he:PE X e te) (hK:autoParam (X.K=K) zau0) (hg:autoParam (Gl X "isinstance") zau0) (hgx:autoParam (Gl X x) zau0) (hd:autoParam ((x == ("__debug__":Str))=false) zau1) (h1:autoParam (starEach [e,.Name x p2] X.env=(false,eval e X.env)::starEach [.Name x p2] X.env) zau0) (h2:autoParam ((backTo pos (starEach [.Name x p2] X.env)).any (·.1)=false) zau0) (h3:autoParam (starEach [.Name x p2] X.env=(false,eval (.Name x p2) X.env)::starEach [] X.env) zau0) : PE X (.Call (.Name "isinstance" p) [e,.Name x p2] [] pos) (tCB (fun xs H Q=>∃ v k C b,xs=[v,.ref C]/\fK K H v k/\kitOne K k.ty (.ref C)=some b/\Q (.bl b) H) (xH te (xH (tC (.ref C)) Nq))):=by
 subst hK;exact Ra hi hx he hg hgx hd h1 h2 h3
end
section
variable {K:Fg} {α:Type} [DecidableEq α] {R:Rep α} {n:Nat}
theorem MK {H:Hp} {Q:VK} {v w:V} {xs ys:List α} (h:zV K n R) (hn:n<=50) (r:FJ R H v xs) (r':FJ R H w ys) (neg:Bool) (q:Q (.bl (neg ^^ decide (xs=ys))) H):agq K neg v w H Q:=by
 obtain ⟨t,vs,rfl,ht,p⟩:=r;obtain ⟨t',vs',rfl,ht',p'⟩:=r';refine ⟨t,t',_,_,n,fun j=>decide (xs[j]?=ys[j]?),rfl,rfl,d8.of ht,d8.of ht',hn,uI h p p',?_⟩;rw [Paired.length p,Paired.length p',sX];exact q
end
section
variable {P:bZ} {w:World} {K:Fg} {mg:Str->Option aC} {base:Heap} {a:fP} {dV:aC}
def z7 (p:bB):Str × Int × Int:=(p.nm,p.gap,match p.rest with
 | none=>-1
 | some r=>r)
theorem YC {q:Str × Int × Int} (h:-1<=q.2.2):z7 (eU q)=q:=by
 obtain ⟨n,g,r⟩:=q;have h:-1<=r:=h;unfold z7 eU
 by_cases e:r < 0
 ·have:r=-1:=by omega
  subst this;rfl
 ·simp [e]
theorem BK:∀ {qs:List (Str × Int × Int)},(∀ q ∈ qs,-1<=q.2.2)->(cR qs).map z7=qs
 | [],_=>rfl
 | q::qs,h=>by
  show z7 (eU q)::(cR qs).map z7=_
  rw [YC (h q (by simp)),BK fun z hz=>h z (by simp [hz])]
structure ahp (K:Fg) (mg:Str->Option aC) (a:fP) (dV:aC):Prop where
 Z:zX K mg a dV
 kpc:kitOne K (.ref a.pot) (.ref a.bJ)=some false
 kcc:kitOne K (.ref a.bJ) (.ref a.bJ)=some true
abbrev Ug:List Str:=["_law_garden_here","_law_spec_here"]
def DQ (a:fP):Sp:=fun vs H Q _=>∃ x v sp,vs=[.ref x,v]/\jN H v sp/\eZ a H x (eV sp)/\sp.pots.length<=8/\(∀ q ∈ sp.pots,-1<=q.2.2)/\∀ H',Same H H'->Q (.bl true) H'
theorem ahq:bM Ug Ug (aW Hi):=dI (by decide +kernel)
theorem DR {f:aB} {fd:d7} (F:lB K "_law_same" "_law_same" Hi f fd) (T:ahp K mg a dV):bT P w K mg base (d9 P w) 1 f fd Ug (DQ a):=by
 refine F.jU ahq (fun vs H Q E h=>?_) (fun cdv A outer s H vs Q E hr h=>?_)
 ·obtain ⟨x,v,sp,rfl,_⟩:=h;rfl
 ·obtain ⟨x,v,sp,rfl,⟨t,l,rfl,ht,rl⟩,gx,n8,rm,q⟩:=h;have Z:=T.Z;have TP:=Z.G.T;have B:=TP.B;have nd1:[("_law_pot":Str)].Nodup:=by decide +kernel
  refine ⟨_,aJ (eE (c7 (agu hr.units) (iC bQ rfl ⟨_,_,rfl,rfl,rfl⟩ (gR.plain (N':=["_law_pot"]) rfl (by decide +kernel) (by decide +kernel)) (fu (cJ (pv 0) rfl)) (fun _ _ _ _ _=>cL 0 nd1) (fun _ _ _ _ _=>gJ) (fun _ _ _ _ _ _=>eX (ak (vW K (pv 0)) (ak (vW K (pv 0)) (ak (xr (fW (YB K B.isinstance TP.agH (pv 0))) (vW K (pv 0)) (Qf Ib aR)) aK))))) (cQ cB (pv 1) aR (fun _ _=>rfl)) (dH _)) (aU (bU lM)) cA) (aU (bU (qd (agr hr.units) (eX (ak (cJ (pv 0) rfl) (ak (cJ (pv 0) rfl) (ak (cJ (pv 0) rfl) aK)))) (jR Qw (pv 1) (nR aR) nQ) (dH _)))),?_⟩;obtain ⟨dx,lp,as,hx,hl,pt⟩:=id gx;have big:1000<=sizeLine:=by decide
  have pl:(cR sp.pots).length=sp.pots.length:=iD _;refine ⟨_,rfl,x,a.garden,dx,_,_,rfl,hx,Z.tG.cl,Z.nG _ (by simp),iH ..,lp,rfl,⟨_,cW.of hl⟩,fun lN JN=>?_⟩;refine pB (K:=K) (Mz (a:=a)) dM z7 (Bw hl pt) (by show (cR sp.pots).length<=_; omega) JN ?_ ?_
  ·rintro i p v H2 hp ⟨b,rfl,dy,hy⟩ s2 Qc k;have cT:=TP.cls p.gY;refine ⟨fH,_,rfl,b,p.cls a,dy,_,_,rfl,hy,cT.1.cl,cT.2 _ (by simp),p.yj,_,rfl,b,p.cls a,dy,_,_,rfl,hy,cT.1.cl,cT.2 _ (by simp),p.oN,_,rfl,?_⟩;have fin:∀ r:Int,z7 p=(p.nm,p.gap,r)->3<=sizeLine/\∀ t3:aB,H2 t3=none->Qc (.ref t3) (L2.upd H2 t3 (.tup [.str p.nm,.int p.gap,.int r])):=fun r er=>by
    refine ⟨by decide,fun t3 h3=>k _ _ (aX h3) ?_⟩;rw [er];exact ⟨t3,_,_,_,rfl,aG,rfl,rfl,rfl⟩
   cases er:p.rest with
   | none =>
    have ec:p.cls a=a.pot:=by unfold bB.cls; rw [er]
    rw [ec] at hy;refine ⟨_,.ins a.pot,a.bJ,false,rfl,⟨b,dy,_,rfl,hy,TP.tP⟩,T.kpc,_,rfl,dU ⟨1,rfl,?_⟩⟩;exact fin (-1) (by unfold z7; rw [er])
   | some r =>
    have ec:p.cls a=a.bJ:=by unfold bB.cls; rw [er]
    rw [ec] at hy;have lr:p.fs.lookup ("rest":Str)=some (.int r):=by simp only [bB.fs,er]; exact wQ _ _ _
    refine ⟨_,.ins a.bJ,a.bJ,true,rfl,⟨b,dy,_,rfl,hy,TP.tC⟩,T.kcc,_,rfl,dN ⟨_,rfl,b,a.bJ,dy,_,_,rfl,hy,TP.tC.cl,TP.nC _ (by simp),lr,?_⟩⟩;exact fin r (by unfold z7; rw [er])
  intro H1 s1 r1;have er:(eV sp).pots.map z7=sp.pots:=BK rm;rw [er] at r1;refine ⟨_,rfl,t,_,0,.ref l,rfl,rfl,d8.of (s1 _ _ ht),rfl,?_⟩;refine agy (n:=1) (Xe (n:=0) eq_str eq_int eq_int) (by decide) r1 (rl.same dM s1) ?_;rw [aO rfl];refine ⟨_,rfl,dU ?_⟩;refine ⟨_,rfl,x,a.garden,dx,_,_,rfl,s1 _ _ hx,Z.tG.cl,Z.nG _ (by simp),Jv ..,_,rfl,x,a.garden,dx,_,_,rfl,s1 _ _ hx,Z.tG.cl,Z.nG _ (by simp),jK ..,_,rfl,x,a.garden,dx,_,_,rfl,s1 _ _ hx,Z.tG.cl,Z.nG _ (by simp),tX ..,by show 3<=sizeLine; decide,fun t1 h1=>?_⟩;have v1:=aX (o:=.tup [V.int sp.cans,.int sp.week,.int sp.closed]) h1;refine ⟨_,rfl,_,rfl,t,_,rfl,d8.of (v1 _ _ (s1 _ _ ht)),(by show ¬ (HT.iZ 4 0 (some 1)=0/\HT.iZ 4 4 none=4); decide),fun t2 h2=>?_⟩;have v2:=aX (o:=.tup [V.int sp.cans,.int sp.week,.int sp.closed]) h2;refine MK (R:=pA) (xs:=[sp.cans,sp.week,sp.closed]) (ys:=[sp.cans,sp.week,sp.closed]) (n:=0) eq_int (by decide) ⟨t1,_,rfl,v2 _ _ aG,iY _ [sp.cans,sp.week,sp.closed]⟩ ⟨t2,_,rfl,aG,iY _ [sp.cans,sp.week,sp.closed]⟩ false ?_;rw [aO rfl];exact q _ ((s1.trans v1).trans v2)
end
abbrev pR:cX:=top 55
abbrev uq:cX:=top 56
section
variable {P:bZ} {w:World} {K:Fg} {mg:Str->Option aC} {base:Heap} {a:fP} {dV:aC}
structure YD (K:Fg) (mg:Str->Option aC) (a:fP) (dV:aC):Prop where
 E:Tt K mg a dV
 mx:mg "max"=none
 gar:∃ f fd,Fn K "_law_garden" "_law_garden" pQ ["_law_spec_here"] f fd/\mg "_law_garden"=some (.ref f)
def BL (a:fP):Sp:=fun vs H Q _=>∃ v sp,vs=[v]/\jN H v sp/\fM sp/\∀ H' o,Same H H'->aho (G8 (eV sp)) 0 (sp.pots.length:Int) o->Q (jq o) H'
theorem BP:bM ["_law_spec_here","_law_cans"] ["_law_spec_here"] (aW pR):=dI (by decide +kernel)
theorem J1 {f:aB} {fd:d7} (F:lB K "_law_cans_due" "_law_cans_due" pR f fd) (T:YD K mg a dV):bT P w K mg base (d9 P w) 10 f fd ["_law_spec_here"] (BL a):=by
 refine F.jU BP (fun vs H Q E h=>?_) (fun cdv A outer s H vs Q E hr h=>?_)
 ·obtain ⟨v,sp,rfl,_⟩:=h;rfl
 ·obtain ⟨v,sp,rfl,⟨t,l,rfl,ht,rl⟩,ok,q⟩:=h;have Z:=T.E.L.W.S.Z;have B:=Z.G.T.B;obtain ⟨fo,Tz,dvo,oF,b0,b1,mO⟩:=T.E.dof;obtain ⟨fg,dg,gF,mG⟩:=T.gar;have Mj:bT P w K mg base (d9 P w) 7 fo Tz ["garden","state"] (pO K a):=qy oF T.E;have Yu:bT P w K mg base (d9 P w) 9 fg dg ["_law_spec_here"] (DN a):=DP gF.F Z;have kO:=oF.kp;have hr7:dJ 7 _:=hr.mono (by decide);have vn:Vals [V.non] [Value.none]:=.cons rfl .nil;refine ⟨_,aJ (iw dY rfl (mV rfl B.range (ak (bI eO (gZ fD B.len PySem.boot_len (ak (cQ cB (pv 0) aR (fun _ _=>rfl)) aK)) aR) aK)) (cL 1 BP.nd) (aU (eE (c7 xu (qg Mj hr7 rfl mO kO b1 vn bf (ak (cH Yu hr mG gF.F.kp gF.b bf (ak (eX (ak (cQ cB (pv 0) aR (fun _ _=>rfl)) (ak (pv 1) (ak (cQ cB (pv 0) aR (fun _ _=>rfl)) (ak (cQ cB (pv 0) aR (fun _ _=>rfl)) aK))))) aK)) aK)) jJ (dH _)) (aU (bU (pv 1))) cA))) (aU (bU jJ)),?_⟩;obtain ⟨_,vs,el,hv,uT⟩:=id rl;cases el;have ll:vs.length=sp.pots.length:=Paired.length uT;have big:1000<=sizeLine:=by decide
  have n8:=ok.n8;refine ⟨_,rfl,t,_,0,.ref l,rfl,rfl,d8.of ht,rfl,l,_,rfl,.inl (cW.of hv),_,_,rfl,rfl,_,rfl,by omega,by omega,?_⟩;refine qb (lo:=0) (n:=((vs.length:Int) + 1).toNat) (fun i σ H'=>∃ u1,σ=[some (.ref t),u1]/\Same H H'/\∀ c:Int,0<=c->c < (i:Int)->¬ gD (G8 (eV sp) c)) ⟨none,rfl,Same.refl _,fun c h0 h1=>by omega⟩ ?_ ?_
  ·rintro i σ H1 lt ⟨u1,rfl,s1,no⟩;rw [show (0 + (i:Int))=((i:Nat):Int) from Int.zero_add _];have ht1:=s1 _ _ ht;refine ⟨_,rfl,t,_,0,.ref l,rfl,rfl,d8.of ht1,rfl,_,rfl,_,rfl,t,_,2,.int sp.week,rfl,rfl,d8.of ht1,rfl,_,rfl,t,_,3,.int sp.closed,rfl,rfl,d8.of ht1,rfl,by show 4<=sizeLine; decide,fun t4 h4=>?_⟩;have v4:=aX (o:=.tup [V.ref l,.int (i:Int),.int sp.week,.int sp.closed]) h4;have tE:=uX ok (c:=(i:Int)) (dj _) (by omega);refine ⟨.ref t4,⟨sp.pots,(i:Int),sp.week,sp.closed⟩,rfl,⟨t4,l,rfl,aG,rl.same dM (s1.trans v4)⟩,tE,fun H2 y s2 gy=>?_⟩;refine ⟨y,_,_,rfl,gy,tE.fit.ok,.inl ⟨rfl,fun H3 ans s3 told=>?_⟩⟩;refine ⟨rfl,_,rfl,?_⟩;have ev:=nu tE.fit.ok told;have Yw:=((s1.trans v4).trans s2).trans s3;rw [um]
   by_cases hE:ans.getD 0 none=none
   ·rw [aO hE];refine dN ⟨_,rfl,?_⟩;exact q H3 (some (i:Int)) Yw (.inr ⟨_,rfl,dj _,by omega,ev.mp hE,no⟩)
   ·rw [aP hE];refine dU ⟨_,rfl,Yw,fun c h0 h1=>?_⟩
    by_cases e:c=(i:Int)
    ·rw [e];exact fun z=>hE (ev.mpr z)
    ·exact no c h0 (by omega)
  ·rintro σ H1 ⟨u1,rfl,s1,no⟩;exact q H1 none s1 (.inl ⟨rfl,fun c h0 h1=>no c h0 (by omega)⟩)
theorem ahr {xs:List V} {j:Nat} (h:j<=xs.length):fY xs none (some (j:Int))=xs.take j:=by
 unfold fY;rw [show HT.iZ xs.length xs.length (some (j:Int))=j by rw [HT.Cu]; omega];simp [HT.iZ]
theorem Uh {xs:List V} {j:Nat} (h:j<=xs.length):fY xs (some (j:Int)) none=xs.drop j:=by
 unfold fY;rw [show HT.iZ xs.length 0 (some (j:Int))=j by rw [HT.Cu]; omega];simp [HT.iZ,List.take_of_length_le]
theorem Hj {H:Hp} {l t3 p1 p2 p3 p4 p5:aB} {vs:List V} {rows:List (Str × Int × Int)} {k:Nat} {c:Str × Int × Int} {i:Int} (hv:H l=some (.lst vs)) (pv:Paired (wI H) vs rows) (hk:rows[k]?=some c) (hz:rows.length<=8) (h1:H p1=none) (h2:upd H p1 (.lst (fY vs none (some (k:Int)))) t3=none) (h3:upd (upd H p1 (.lst (fY vs none (some (k:Int))))) t3 (.tup [.str c.1,.int i,.int c.2.2]) p2=none) (h4:upd (upd (upd H p1 (.lst (fY vs none (some (k:Int))))) t3 (.tup [.str c.1,.int i,.int c.2.2])) p2 (.lst [.ref t3]) p3=none) (h5:upd (upd (upd (upd H p1 (.lst (fY vs none (some (k:Int))))) t3 (.tup [.str c.1,.int i,.int c.2.2])) p2 (.lst [.ref t3])) p3 (.lst (fY vs none (some (k:Int))++[.ref t3])) p4=none) (h6:upd (upd (upd (upd (upd H p1 (.lst (fY vs none (some (k:Int))))) t3 (.tup [.str c.1,.int i,.int c.2.2])) p2 (.lst [.ref t3])) p3 (.lst (fY vs none (some (k:Int))++[.ref t3]))) p4 (.lst (fY vs (some ((k:Int) + 1)) none)) p5=none) : ∃ H',upd (upd (upd (upd (upd (upd H p1 (.lst (fY vs none (some (k:Int))))) t3 (.tup [.str c.1,.int i,.int c.2.2])) p2 (.lst [.ref t3])) p3 (.lst (fY vs none (some (k:Int))++[.ref t3]))) p4 (.lst (fY vs (some ((k:Int) + 1)) none))) p5 (.lst ((fY vs none (some (k:Int))++[.ref t3])++fY vs (some ((k:Int) + 1)) none))=H'/\Same H H'/\jH wI H' (.ref p5) (rows.set k (rowAt c i)):=by
 have ll:=Paired.length pv;have lk:k < vs.length:=by rw [ll]; exact (aD.mp hk).1
 have e:(fY vs none (some (k:Int))++[V.ref t3])++fY vs (some ((k:Int) + 1)) none=vs.set k (.ref t3):=by
  rw [ahr (by omega),show ((k:Int) + 1)=((k + 1:Nat):Int) from rfl,Uh (by omega),List.set_eq_take_append_cons_drop,if_pos lk,append_assoc];rfl
 have s1:=aX (o:=.lst (fY vs none (some (k:Int)))) h1;have s2:=aX (o:=.tup [.str c.1,.int i,.int c.2.2]) h2;have s3:=aX (o:=.lst [.ref t3]) h3;have s4:=aX (o:=.lst (fY vs none (some (k:Int))++[.ref t3])) h4;have s5:=aX (o:=.lst (fY vs (some ((k:Int) + 1)) none)) h5;have s6:=aX (o:=.lst ((fY vs none (some (k:Int))++[.ref t3])++fY vs (some ((k:Int) + 1)) none)) h6;have s36:=s3.trans (s4.trans (s5.trans s6));refine ⟨_,rfl,s1.trans (s2.trans s36),p5,vs.set k (.ref t3),rfl,by rw [aG,e],?_⟩;refine rD ⟨t3,_,_,_,rfl,s36 _ _ aG,rfl,rfl,rfl⟩ k (Paired.jd pv fun _ _ z=>dM.same z (s1.trans (s2.trans s36)))
abbrev aoK:List Str:=["_law_spec_here","_law_k","_law_name","_law_gap","_law_rest","_law_less","_law_pots"]
def Hl (a:fP):Sp:=fun vs H Q _=>∃ v sp k q',vs=[v,.int (k:Nat)]/\jN H v sp/\fM sp/\sp.pots[k]?=some q'/\∀ H' o,Same H H'->aho (DK (eV sp) k (eU q')) (fX (eU q')) q'.2.1 o->Q (jq o) H'
theorem nJ:bM aoK ["_law_spec_here","_law_k"] (aW uq):=dI (by decide +kernel)
theorem Pk {f:aB} {fd:d7} (F:lB K "_law_gap_due" "_law_gap_due" uq f fd) (T:YD K mg a dV):bT P w K mg base (d9 P w) 10 f fd ["_law_spec_here","_law_k"] (Hl a):=by
 refine F.jU nJ (fun vs H Q E h=>?_) (fun cdv A outer s H vs Q E hr h=>?_)
 ·obtain ⟨v,sp,k,q',rfl,_⟩:=h;rfl
 ·obtain ⟨v,sp,k,c,rfl,⟨t,l,rfl,ht,rl⟩,ok,hk,q⟩:=h;have Z:=T.E.L.W.S.Z;have B:=Z.G.T.B;obtain ⟨fo,Tz,dvo,oF,b0,b1,mO⟩:=T.E.dof;obtain ⟨fg,dg,gF,mG⟩:=T.gar;have Mj:bT P w K mg base (d9 P w) 7 fo Tz ["garden","state"] (pO K a):=qy oF T.E;have Yu:bT P w K mg base (d9 P w) 9 fg dg ["_law_spec_here"] (DN a):=DP gF.F Z;have kO:=oF.kp;have hr7:dJ 7 _:=hr.mono (by decide);have vn:Vals [V.non] [Value.none]:=.cons rfl .nil;refine ⟨_,aJ (Cm (cQ jC (cQ cB (pv 0) aR (fun _ _=>rfl)) (pv 1) (fun _ _=>rfl)) (nM rfl (bY (cL 2 nJ.nd) (bY (cL 3 nJ.nd) (bY (cL 4 nJ.nd) gQ))))) (aJ (iw dY rfl (Nh rfl B.range (ak (bI eO (gZ (Nj rfl) T.mx boot_max (ak (pv 4) (ak aR aK))) aR) (ak (bI eO (pv 3) aR) aK))) (cL 5 nJ.nd) (aJ (bF (i:=6) nJ.nd rfl (Or.inl rfl) (bI uG (bI uG (jR sG (cQ cB (pv 0) aR (fun _ _=>rfl)) nQ (nR (pv 1))) (iG (ak (eX (ak (pv 2) (ak (pv 5) (ak (pv 4) aK)))) aK))) (jR sG (cQ cB (pv 0) aR (fun _ _=>rfl)) (nR (bI eO (pv 1) aR)) nQ))) (aU (eE (c7 xu (qg Mj hr7 rfl mO kO b1 vn bf (ak (cH Yu hr mG gF.F.kp gF.b bf (ak (eX (ak (pv 6) (ak (cQ cB (pv 0) aR (fun _ _=>rfl)) (ak (cQ cB (pv 0) aR (fun _ _=>rfl)) (ak (cQ cB (pv 0) aR (fun _ _=>rfl)) aK))))) aK)) aK)) jJ (dH _)) (aU (bU (pv 5))) cA)))) (aU (bU jJ))),?_⟩;obtain ⟨_,vs,el,hv,uT⟩:=id rl;cases el;have ll:vs.length=sp.pots.length:=Paired.length uT;have big:1000<=sizeLine:=by decide
  have n8:=ok.n8;have lk:k < sp.pots.length:=(aD.mp hk).1;have rc:=ok.row c (aH hk);have g1:=rc.g1;have g2:=rc.g2;have r1:=rc.r1;have r2:=rc.r2;have es:=Bx rc;obtain ⟨z,hz⟩:∃ z,vs[k]?=some z:=⟨_,aA (by omega)⟩;obtain ⟨c',hc',rz⟩:=cD uT hz;rw [hk] at hc';cases hc';obtain ⟨tc,y1,y2,y3,rfl,htc,e1,e2,e3⟩:=rz;cases e1; cases e2; cases e3;refine ⟨_,rfl,t,_,0,.ref l,rfl,rfl,d8.of ht,rfl,_,rfl,l,vs,_,_,rfl,rfl,cW.of hv,jh hz,?_⟩;refine ⟨tc,_,rfl,d8.of htc,rfl,_,_,rfl,_,_,rfl,_,_,rfl,rfl,?_⟩;refine ⟨_,rfl,_,_,rfl,_,_,rfl,rfl,_,rfl,_,_,rfl,rfl,_,_,rfl,⟨by split <;> omega,by split <;> omega,by omega,by omega⟩,?_⟩;rw [<- es];have sl:fX (eU c)<=c.2.1:=by rw [es]; split <;> omega
  refine qb (lo:=fX (eU c)) (n:=(c.2.1 + 1 - fX (eU c)).toNat) (fun i σ H'=>∃ u5 u6,σ=[some (.ref t),some (.int (k:Nat)),some (.str c.1),some (.int c.2.1),some (.int c.2.2),u5,u6]/\Same H H'/\∀ j:Int,fX (eU c)<=j->j < fX (eU c) + (i:Int)->¬ gD (DK (eV sp) k (eU c) j)) ⟨none,none,rfl,Same.refl _,fun j h0 h1=>by omega⟩ ?_ ?_
  ·rintro i σ H1 lt ⟨u5,u6,rfl,s1,no⟩;have ht1:=s1 _ _ ht;have hv1:=s1 _ _ hv;have pv1:Paired (wI H1) vs sp.pots:=Paired.jd uT fun _ _ z=>dM.same z s1
   generalize hj:fX (eU c) + (i:Int)=j at no ⊢;have j1:fX (eU c)<=j:=by omega
   have j2:j<=c.2.1:=by omega
   refine ⟨_,rfl,t,_,0,.ref l,rfl,rfl,d8.of ht1,rfl,_,rfl,_,rfl,l,vs,rfl,cW.of hv1,fun p1 h1=>⟨_,rfl,_,rfl,_,rfl,by show 3<=sizeLine; decide,fun t3 h2=>⟨by show 1<=sizeLine; decide,fun p2 h3=>?_⟩⟩⟩;have q1:=aX (o:=.lst (fY vs none (some (k:Int)))) h1;have q2:=aX (o:=.tup [V.str c.1,.int j,.int c.2.2]) h2;have q3:=aX (o:=.lst [V.ref t3]) h3;have lc1:(fY vs none (some (k:Int))).length<=8:=by have:=iT vs none (some (k:Int)); omega
   have lc2:(fY vs (some ((k:Int) + 1)) none).length<=8:=by have:=iT vs (some ((k:Int) + 1)) none; omega
   refine ⟨p1,p2,_,_,rfl,rfl,q3 _ _ (q2 _ _ aG),aG,by show _ + 1<=sizeLine; omega,fun p3 h4=>?_⟩;have q4:=aX (o:=.lst (fY vs none (some (k:Int))++[V.ref t3])) h4;refine ⟨_,rfl,t,_,0,.ref l,rfl,rfl,d8.of (q4 _ _ (q3 _ _ (q2 _ _ (q1 _ _ ht1)))),rfl,_,rfl,_,_,rfl,rfl,_,rfl,l,vs,rfl,cW.of (q4 _ _ (q3 _ _ (q2 _ _ (q1 _ _ hv1)))),fun p4 h5=>?_⟩;have q5:=aX (o:=.lst (fY vs (some ((k:Int) + 1)) none)) h5;refine ⟨p3,p4,_,_,rfl,rfl,q5 _ _ aG,aG,by rw [bx]; show _ + 1 + _<=sizeLine; omega,fun p5 h6=>?_⟩;obtain ⟨H2,eH,s2,rl2⟩:=Hj (i:=j) hv1 pv1 hk n8 h1 h2 h3 h4 h5 h6;rw [eH];have s12:=s1.trans s2;have wV:=s12 _ _ ht;refine ⟨_,rfl,_,rfl,t,_,1,.int sp.cans,rfl,rfl,d8.of wV,rfl,_,rfl,t,_,2,.int sp.week,rfl,rfl,d8.of wV,rfl,_,rfl,t,_,3,.int sp.closed,rfl,rfl,d8.of wV,rfl,by show 4<=sizeLine; decide,fun t4 h7=>?_⟩;have v4:=aX (o:=.tup [V.ref p5,.int sp.cans,.int sp.week,.int sp.closed]) h7;have tE:=Hh ok hk j1 j2;refine ⟨.ref t4,Yz sp k c j,rfl,⟨t4,p5,rfl,aG,rl2.same dM v4⟩,tE,fun H3 y s3 gy=>?_⟩;refine ⟨y,_,_,rfl,gy,tE.fit.ok,.inl ⟨rfl,fun H4 ans s4 told=>?_⟩⟩;refine ⟨rfl,_,rfl,?_⟩;have ev:=nu tE.fit.ok told;rw [yQ] at ev;have s14:=((s12.trans v4).trans s3).trans s4;rw [um]
   by_cases hE:ans.getD 0 none=none
   ·rw [aO hE];refine dN ⟨_,rfl,?_⟩;exact q H4 (some j) s14 (.inr ⟨_,rfl,j1,j2,ev.mp hE,no⟩)
   ·rw [aP hE];refine dU ⟨_,_,rfl,s14,fun j' h0 h1=>?_⟩
    by_cases e:j'=j
    ·rw [e];exact fun z=>hE (ev.mpr z)
    ·exact no j' h0 (by omega)
  ·rintro σ H1 ⟨u5,u6,rfl,s1,no⟩;exact q H1 none s1 (.inl ⟨rfl,fun j h0 h1=>no j h0 (by omega)⟩)
end
abbrev oA:cX:=top 58
abbrev uZ:cX:=top 59
section
variable {P:bZ} {w:World} {K:Fg} {mg:Str->Option aC} {base:Heap} {a:fP} {dV:aC}
structure ahs (K:Fg) (mg:Str->Option aC) (a:fP):Prop where
 N:Jz mg a
 x2:XC K a a.fJ 2
 so:∃ f fd,Fn K "_law_sorts" "_law_sorts" yr ["_law_error"] f fd/\mg "_law_sorts"=some (.ref f)
def qz (K:Fg) (a:fP):Sp:=fun vs H Q _=>∃ x g v o,vs=[.ref x,v]/\eZ a H x g/\(∀ p ∈ g.pots,p.Ok)/\g.pots.length<=8/\Bd K H v o/\(∀ nm,o=some nm->nm ∉ g.pots.map bB.nm)/\∀ H',Same H H'->Q (.bl true) H'
theorem MN:bM ["_law_garden_here","_law_name","_law_error"] ["_law_garden_here","_law_name"] (aW oA):=dI (by decide +kernel)
theorem Ui {f PG fl:aB} {fd dl:d7} (F:lB K "_law_refused" "_law_refused" oA f fd) (O:ahs K mg a) (lF:Fn K "least_gap" "least_gap" jx ["garden","name"] fl dl) (mL:mg "least_gap"=some (.ref fl)) (JX:bT P w K mg base (d9 P w) 12 fl dl ["garden","name"] (yM K a PG)) : bT P w K mg base (d9 P w) 13 f fd ["_law_garden_here","_law_name"] (qz K a):=by
 refine F.jU MN (fun vs H Q E h=>?_) (fun cdv A outer s H vs Q E hr h=>?_)
 ·obtain ⟨x,g,v,o,rfl,_⟩:=h;rfl
 ·obtain ⟨x,g,v,o,rfl,gx,iJ,h8,na,no,q⟩:=h;obtain ⟨fs,ds,sF,mS⟩:=O.so;have ay5:Ak P w K mg base (d9 P w) 1 fs ds ["_law_error"] (Ma K a):=Sx sF.F O.N;have kL:=lF.F.kp;have bL:=lF.b;refine ⟨_,aJ (QH (hit:=fun cls=>exmOne K cls (.ref a.Jp)=some true) rfl ⟨_,_,rfl,rfl,rfl⟩ MN.nd (i:=2) rfl rfl (by rfl) O.N.ge (fun _ h=>h) (fun E' qF Eb acc=>aU (iu (cH JX hr mL kL bL (cY acc) (ak (pv 0) (ak (pv 1) aK))))) (fun e=>aU (bU (HX (qd (XS K hr.units) (QK ay5 (mY.mark (hr.mono (by decide)).toH) (by rfl) mS sF.F.kp sF.b .nil bf (ak (pv 2) aK)) (iG (jD [.bl false,.bl false,.bl true,.bl false,.bl false,.bl false] rfl)) (dH _)) (PN (gZ (OD K) O.N.is boot_isinstance (ak (pv 2) (ak (Lh (T:="ValueError") (by rfl) O.N.ve (by decide +kernel)) aK)))))))) (aU (bU lM)),?_⟩;refine ⟨_,rfl,_,rfl,x,g,v,o,rfl,gx,iJ,h8,na,fun _ H1 s1=>⟨O.x2.m,fun e he=>?_⟩,fun nm j p eo fj=>absurd fj.mem (no nm eo)⟩;have s0:=aX (o:=CN e (.ref a.fJ) none) he;refine ⟨_,rfl,e,a.fJ,2,rfl,aG,O.x2,fun H2 l s2 hl=>⟨by show 6<=sizeLine; decide,fun l1 hl1=>?_⟩⟩;have u1:=aX (o:=.lst (hot 2)) hl1;refine ⟨l,l1,hot 2,hot 2,0,fun _=>true,rfl,rfl,cW.of (u1 _ _ hl),cW.of aG,by decide,fun _ j x y e1 e2=>?_,fun _=>⟨true,rfl,dN ?_⟩,fun z=>absurd rfl z⟩
  ·rw [e1] at e2;cases e2;exact Ss (all_eq_true.mp (show (hot 2).all jt=true from rfl) x (aH e1))
  ·exact ⟨_,rfl,e,a.fJ,.ty "ValueError",_,_,rfl,rfl,⟨e,.inr ⟨_,rfl⟩⟩,u1 _ _ (s2 _ _ aG),O.x2.t,O.x2.v,q _ (((s1.trans s0).trans s2).trans u1)⟩
end
theorem ur:∀ (ps:List bB) (d:Nat),d ∣ uV d ps
 | [],d=>Nat.dvd_refl d
 | p::ps,d=>Nat.dvd_trans (Nat.dvd_lcm_left d p.gap.toNat) (ur ps (Nat.lcm d p.gap.toNat))
theorem yR:∀ (ps:List bB) (d:Nat),∀ p ∈ ps,p.gap.toNat ∣ uV d ps
 | p::ps,d,q,h=>by
  rcases aQ.mp h with e | hq
  ·rw [e];exact Nat.dvd_trans (Nat.dvd_lcm_right d p.gap.toNat) (ur ps (Nat.lcm d p.gap.toNat))
  ·exact yR ps (Nat.lcm d p.gap.toNat) q hq
theorem BR:∀ (ps:List bB) (d m:Nat),d ∣ m->(∀ p ∈ ps,p.gap.toNat ∣ m)->uV d ps ∣ m
 | [],_,_,h,_=>h
 | p::ps,d,m,h,a=>BR ps (Nat.lcm d p.gap.toNat) m (Nat.lcm_dvd h (a p (by simp))) fun q hq=>a q (by simp [hq])
theorem lcm_pos:∀ (ps:List bB) (d:Nat),0 < d->(∀ p ∈ ps,p.Ok)->0 < uV d ps
 | [],_,h,_=>h
 | p::ps,d,h,a=>lcm_pos ps (Nat.lcm d p.gap.toNat) (Nat.lcm_pos h (by have:=(a p (by simp)).gap; omega)) fun q hq=>a q (by simp [hq])
theorem Ho:∀ (ps:List bB) (d:Nat) (n:Int),(d:Int)<=n->(∀ p ∈ ps,p.Ok)->((uV d ps:Nat):Int)<=sizeOf n ps
 | [],_,_,h,_=>h
 | p::ps,d,n,h,a=>by
  have g:=(a p (by simp)).gap;refine Ho ps (Nat.lcm d p.gap.toNat) (n * p.gap) ?_ fun q hq=>a q (by simp [hq])
  have h1:Nat.lcm d p.gap.toNat<=d * p.gap.toNat:=Nat.div_le_self _ _;have h2:((d * p.gap.toNat:Nat):Int)=(d:Int) * p.gap:=by
   rw [Int.natCast_mul]
   congr 1
   omega
  have h3:(d:Int) * p.gap<=n * p.gap:=Int.mul_le_mul_of_nonneg_right h (by omega);omega
theorem BW {g:eF} (w0:0 < g.week) (k:Nat):∀ j:Nat,j<=g.week.toNat->gB g (g.week.toNat * k + j)=gB g (g.week.toNat * k) + ((List.range j).map fun d:Nat=>if lY g.closed (d:Int) then 0 else g.cans).sum
 | 0,_=>by
  show gB g (g.week.toNat * k)=_
  simp
 | j + 1,h=>by
  have ih:=BW w0 k j (by omega)
  show gB g (g.week.toNat * k + j) + (if lY g.closed (((g.week.toNat * k + j:Nat):Int) % g.week) then 0 else g.cans)=_
  have e:((g.week.toNat * k + j:Nat):Int) % g.week=(j:Int):=by
   rw [Int.natCast_add,Int.natCast_mul,show ((g.week.toNat:Nat):Int)=g.week by omega,Int.mul_add_emod_self_left];exact Int.emod_eq_of_lt (by omega) (by omega)
  rw [ih,e,cN,aY,sum_append,cj,map_nil,sum_cons,sum_nil];omega
theorem wj {g:eF} (w0:0 < g.week):∀ k:Nat,gB g (g.week.toNat * k)=(k:Int) * lU g
 | 0=>by
  rw [Nat.mul_zero]
  show (0:Int)=_
  simp
 | k + 1=>by
  have h:=BW w0 k g.week.toNat (aM _);rw [Nat.mul_succ,h,wj w0 k]
  show (k:Int) * lU g + lU g=((k + 1:Nat):Int) * lU g
  rw [Int.natCast_add,Int.add_mul];simp
theorem J6 {g:eF} (w0:0 < g.week):lU g * ((j7 g:Int) / g.week)=gB g (j7 g):=by
 obtain ⟨k,hk⟩:=ur g.pots g.week.toNat;have hk:j7 g=g.week.toNat * k:=hk;rw [hk,wj w0,Int.natCast_mul,show ((g.week.toNat:Nat):Int)=g.week by omega,Int.mul_ediv_cancel_left _ (by omega),Int.mul_comm]
theorem J7 {g:eF} (ok:Bo g) (e:gD g):j8 g<=gB g (j7 g):=by
 refine Yl ok.w0 ok.iJ e (T:=j7 g) fun p hp=>?_
 have g1:=(ok.iJ p hp).gap;obtain ⟨k,hk⟩:=yR g.pots g.week.toNat p hp;have hk:j7 g=p.gap.toNat * k:=hk;rw [hk,Int.natCast_mul,show ((p.gap.toNat:Nat):Int)=p.gap by omega];exact Int.mul_emod_right _ _
def RBl:Rep Bool:=fun _ v b=>v=.bl b
theorem aht:xU RBl:=⟨fun h _=>h,fun h _=>h⟩
theorem ahu {H:Hp} {vs:List V} {bs:List Bool} (h:Paired (RBl H) vs bs):vs=bs.map V.bl:=by
 induction h with
 | nil=>rfl
 | cons r _ ih =>
  cases r;rw [ih];rfl
def BX (qs:List (Str × Int × Int)) (d:Int):Bool:=(qs.map fun q=>!decide (d % q.2.1=0)).any id
theorem Uj {qs:List (Str × Int × Int)} {d:Int} (h:BX qs d=false):∀ q ∈ qs,d % q.2.1=0:=by
 intro q hq;unfold BX at h;rw [List.any_eq_false] at h;have:=h _ (bh.mpr ⟨q,hq,rfl⟩);simpa using this
theorem Uk {qs:List (Str × Int × Int)} {d:Int} (h:BX qs d=true):∃ q ∈ qs,d % q.2.1≠0:=by
 unfold BX at h;rw [List.any_eq_true] at h;obtain ⟨b,hb,e⟩:=h;obtain ⟨r,hr,rfl⟩:=bh.mp hb;exact ⟨r,hr,by simpa using e⟩
section
variable {P:bZ} {w:World} {K:Fg} {mg:Str->Option aC} {base:Heap} {a:fP} {dV:aC}
theorem MP {q:Str × Int × Int} (h:wg q) {d:Nat}:(d:Int) % q.2.1=0 ↔ (eU q).gap.toNat ∣ d:=by
 have g1:=h.g1;have e:((q.2.1.toNat:Nat):Int)=q.2.1:=by omega
 show _ ↔ q.2.1.toNat ∣ d
 have k:((d % q.2.1.toNat:Nat):Int)=(d:Int) % q.2.1:=by rw [Int.natCast_emod,e]
 rw [<- k];constructor
 ·intro z;exact Nat.dvd_of_mod_eq_zero (by omega)
 ·intro z;rw [Nat.mod_eq_zero_of_dvd z];rfl
abbrev Ul:List Str:=["_law_spec_here","_law_whole","_law_needed","_law_name","_law_gap","_law_rest","_law_given","_law_day"]
def DW:Sp:=fun vs H Q _=>∃ v sp,vs=[v]/\jN H v sp/\fM sp/\∀ H' t,Same H H'->H' t=some (.tup [.int (j8 (eV sp)),.int (gB (eV sp) (j7 (eV sp))),.int (j7 (eV sp):Int)])->Q (.ref t) H'
theorem jo:bM Ul ["_law_spec_here"] (aW uZ):=dI (by decide +kernel)
theorem Hq {f:aB} {fd:d7} (F:lB K "_law_load" "_law_load" uZ f fd) (B:Blt mg) (mA:mg "any"=none):bT P w K mg base (d9 P w) 1 f fd ["_law_spec_here"] DW:=by
 refine F.jU jo (fun vs H Q E h=>?_) (fun cdv A outer s H vs Q E hr h=>?_)
 ·obtain ⟨v,sp,rfl,_⟩:=h;rfl
 ·obtain ⟨v,sp,rfl,⟨t,l,rfl,ht,rl⟩,ok,q⟩:=h;have JG:[("_law_name":Str),"_law_gap","_law_rest","_law_whole"].Nodup:=by decide +kernel
  refine ⟨_,aJ (bF (i:=1) jo.nd rfl (Or.inr rfl) (cQ cB (pv 0) aR (fun _ _=>rfl))) (aJ (rW dY (fW (gZ (Om rfl) mA boot_any (ak (iC bQ rfl ⟨_,_,rfl,rfl,rfl⟩ (jz (N':=["_law_name","_law_gap","_law_rest","_law_whole"]) (cl:=[("_law_whole",s.heap.objs.size + 1)]) [none,none,none,some 1] Ul (aW uZ).names [(".0",.local),("_law_name",.local),("_law_gap",.local),("_law_rest",.local),("_law_whole",.cell)] ["_law_whole"] rfl (by decide +kernel) (by decide +kernel) rfl (fun p hp=>by rw [aL.mp hp]; rfl) rfl rfl rfl rfl (by decide +kernel) rfl (by decide +kernel)) (fu (cQ cB (pv 0) aR (fun _ _=>rfl))) (fun _ _ _ _ _=>yu K (n:=3) rfl (bY (cL 0 JG) (bY (cL 1 JG) (bY (cL 2 JG) gQ)))) (fun _ _ _ _ _=>gJ) (fun _ _ _ _ _ _=>qd Aa (bI fU (pv 3) (pv 1)) aR (dH _))) aK))) (aU (bF (i:=1) jo.nd rfl (Or.inr rfl) (bI eO (pv 1) (cQ cB (pv 0) aR (fun _ _=>rfl)))))) (aJ (bF (i:=2) jo.nd rfl (Or.inl rfl) aR) (aJ (iw dY rfl (fu (cQ cB (pv 0) aR (fun _ _=>rfl))) (nM rfl (bY (cL 3 jo.nd) (bY (cL 4 jo.nd) (bY (cL 5 jo.nd) gQ)))) (aU (bF (i:=2) jo.nd rfl (Or.inl rfl) (bI eO (pv 2) (bI gH (pv 1) (pv 4)))))) (aJ (bF (i:=6) jo.nd rfl (Or.inl rfl) aR) (aJ (iw dY rfl (mV rfl B.range (ak (pv 1) aK)) (cL 7 jo.nd) (aU (bF (i:=6) jo.nd rfl (Or.inl rfl) (bI eO (pv 6) (xr (c7 oK (bI Qi (bI Qh (cQ cB (pv 0) aR (fun _ _=>rfl)) (bI fU (pv 7) (cQ cB (pv 0) aR (fun _ _=>rfl)))) aR) aR (dH _)) aR (cQ cB (pv 0) aR (fun _ _=>rfl))))))) (aU (bU (eX (ak (pv 2) (ak (pv 6) (ak (pv 1) aK))))))))))),?_⟩;obtain ⟨_,vs,el,hv,uT⟩:=id rl;cases el;have ll:vs.length=sp.pots.length:=Paired.length uT;have big:20000<=sizeLine:=by decide
  have n8:=ok.n8;have w1:=ok.w1;have ew:((sp.week.toNat:Nat):Int)=sp.week:=by omega
  generalize hD:j7 (eV sp)=D;have hD':uV sp.week.toNat (cR sp.pots)=D:=hD;have dW:sp.week.toNat ∣ D:=by rw [<- hD']; exact ur _ _
  have dG:∀ q ∈ sp.pots,(D:Int) % q.2.1=0:=fun q hq=>(MP (ok.row q hq)).mpr (by rw [<- hD']; exact yR _ _ (eU q) (bh.mpr ⟨q,hq,rfl⟩))
  have D4:(D:Int)<=4000:=by
   have:=Ho (cR sp.pots) sp.week.toNat sp.week (by omega) ok.iJ;rw [hD'] at this;exact Int.le_trans this ok.sz
  have Dp:0 < D:=by rw [<- hD']; exact lcm_pos _ _ (by omega) ok.iJ
  refine ⟨_,rfl,t,_,2,.int sp.week,rfl,rfl,d8.of ht,rfl,?_⟩;refine ⟨fun m σ H'=>∃ d:Nat,σ=[some (.ref t),some (.int (d:Nat)),none,none,none,none,none,none]/\m=D - d/\Same H H'/\0 < d/\d<=D/\sp.week.toNat ∣ d,⟨_,sp.week.toNat,?_,rfl,Same.refl _,by omega,Nat.le_of_dvd Dp dW,Nat.dvd_refl _⟩,?_⟩
  ·show [some (V.ref t),some (V.int sp.week),none,none,none,none,none,none]=_
   rw [ew]
  rintro m σ H1 ⟨d,rfl,rfl,s1,d0,dD,wd⟩;have ht1:=s1 _ _ ht;have rl1:=rl.same dM s1;refine ⟨_,rfl,t,_,0,.ref l,rfl,rfl,d8.of ht1,rfl,l,rfl,⟨_,cW.of (s1 _ _ hv)⟩,fun lN JN=>?_⟩;refine pB (K:=K) dM aht (fun q=>!decide ((d:Int) % q.2.1=0)) rl1 (by omega) JN ?_ ?_
  ·rintro i c v H2 hc ⟨tc,u1,u2,u3,rfl,htc,r1,r2,r3⟩ s2 Qc k;cases r1;cases r2;cases r3;have g1:=(ok.row c (aH hc)).g1;refine ⟨tc,_,rfl,d8.of htc,rfl,_,_,rfl,_,_,rfl,_,_,rfl,rfl,oh,_,rfl,_,rfl,_,_,rfl,rfl,(by show 0 < c.2.1; omega),rfl,?_⟩;rw [ag0];exact k _ _ (Same.refl _) rfl
  intro H2 s2 r2;obtain ⟨_,vs2,el2,hv2,pv2⟩:=id r2;cases el2;rw [ahu pv2] at hv2;refine ⟨lN,_,rfl,cW.of hv2,_,rfl,?_⟩;have s12:=s1.trans s2;have wV:=s12 _ _ ht
  show if BX sp.pots (d:Int)=true then _ else _
  cases hb:BX sp.pots (d:Int) with
  | true =>
   have lt:d < D:=by
    rcases Nat.lt_or_ge d D with h | h
    ·exact h
    ·have e:d=D:=by omega
     obtain ⟨q,hq,n0⟩:=Uk hb;rw [e] at n0;exact absurd (dG q hq) n0
   have le2:d + sp.week.toNat<=D:=by
    have:sp.week.toNat ∣ D - d:=Nat.dvd_sub dW wd;have:=Nat.le_of_dvd (by omega) this;omega
   refine dN ⟨fun σ' H'=>∃ d':Nat,σ'=[some (.ref t),some (.int (d':Nat)),none,none,none,none,none,none]/\D - d' < D - d/\Same H H'/\0 < d'/\d'<=D/\sp.week.toNat ∣ d',fun σ' H' ⟨d',e,lt',r⟩=>⟨_,lt',d',e,rfl,r⟩,?_⟩;refine ⟨_,rfl,_,rfl,t,_,2,.int sp.week,rfl,rfl,d8.of wV,rfl,_,_,rfl,rfl,d + sp.week.toNat,?_,by omega,s12,by omega,le2,Nat.dvd_add wd (Nat.dvd_refl _)⟩
   show [some (V.ref t),some (V.int ((d:Int) + sp.week)),none,none,none,none,none,none]=_
   rw [Int.natCast_add,ew]
  | false =>
   have eD:d=D:=by
    have all:=Uj hb;have:D ∣ d:=by
     rw [<- hD'];refine BR _ _ _ wd fun p hp=>?_
     obtain ⟨q,hq,rfl⟩:=bh.mp hp;exact (MP (ok.row q hq)).mp (all q hq)
    have:=Nat.le_of_dvd d0 this;omega
   subst eD;refine dU ⟨_,rfl,t,_,0,.ref l,rfl,rfl,d8.of wV,rfl,l,rfl,⟨_,cW.of (s12 _ _ hv)⟩,?_⟩;refine je (K:=K) (a:=l) (xs:=vs) (fun i σ H'=>∃ (u3 u4 u5:Option V),σ=[some (.ref t),some (.int (d:Nat)),some (.int ((sp.pots.take i).map fun q=>(d:Int) / q.2.1).sum),u3,u4,u5,none,none]/\H'=H2) ⟨none,none,none,rfl,rfl⟩ (fun i σ H' _ ⟨_,_,_,_,e⟩=>by rw [e]; exact cW.of (s12 _ _ hv)) ?_ ?_
   ·rintro i x σ H' hi ⟨u3,u4,u5,rfl,rfl⟩;obtain ⟨c,hc,rc⟩:=cD uT hi;obtain ⟨tc,y1,y2,y3,rfl,htc,r1,r2,r3⟩:=dM.same rc s12;cases r1; cases r2; cases r3;have g1:=(ok.row c (aH hc)).g1;have g2:=(ok.row c (aH hc)).g2;refine ⟨tc,_,rfl,d8.of htc,rfl,_,_,rfl,_,_,rfl,_,_,rfl,rfl,_,rfl,_,rfl,_,rfl,_,_,rfl,rfl,⟨by omega,by omega⟩,_,_,rfl,rfl,some (.str c.1),some (.int c.2.1),some (.int c.2.2),?_,rfl⟩;rw [take_snoc hc,aY,sum_append,cj,map_nil,sum_cons,sum_nil,Int.add_zero];rfl
   ·rintro σ H' ⟨u3,u4,u5,rfl,rfl⟩;have eN:((sp.pots.take vs.length).map fun q=>(d:Int) / q.2.1).sum=j8 (eV sp):=by
     rw [ll,bO];unfold j8;rw [hD]
     show _=((cR sp.pots).map fun p=>(d:Int) / p.gap).sum
     rw [cR,fG];rfl
    rw [eN];refine ⟨_,rfl,_,rfl,by omega,by omega,?_⟩;refine qb (lo:=0) (n:=((d:Nat):Int).toNat) (fun i σ H3=>∃ (u7:Option V),σ=[some (.ref t),some (.int (d:Nat)),some (.int (j8 (eV sp))),u3,u4,u5,some (.int (gB (eV sp) i)),u7]/\H3=H') ⟨none,rfl,rfl⟩ ?_ ?_
    ·rintro i σ H3 lt ⟨u7,rfl,rfl⟩;rw [show (0 + (i:Int))=((i:Nat):Int) from Int.zero_add _];refine ⟨_,rfl,_,rfl,t,_,3,.int sp.closed,rfl,rfl,d8.of wV,rfl,_,rfl,_,rfl,t,_,2,.int sp.week,rfl,rfl,d8.of wV,rfl,_,_,rfl,rfl,(by show 0 < sp.week; omega),_,_,rfl,rfl,Int.emod_nonneg _ (by omega),_,_,rfl,rfl,rfl,_,rfl,?_⟩;rw [ag0]
     show if lY sp.closed ((i:Int) % sp.week)=true then _ else _
     have eG:∀ c:Int,(if lY sp.closed ((i:Int) % sp.week) then 0 else sp.cans)=c->gB (eV sp) (i + 1)=gB (eV sp) i + c:=fun c e=>by
      show gB (eV sp) i + (if lY sp.closed ((i:Int) % sp.week) then 0 else sp.cans)=_
      rw [e]
     cases hbb:lY sp.closed ((i:Int) % sp.week) with
     | true =>
      refine dN ⟨_,_,rfl,rfl,some (.int (i:Int)),?_,rfl⟩;rw [eG 0 (by rw [hbb]; rfl)];rfl
     | false =>
      refine dU ⟨_,rfl,t,_,1,.int sp.cans,rfl,rfl,d8.of wV,rfl,_,_,rfl,rfl,some (.int (i:Int)),?_,rfl⟩;rw [eG sp.cans (by rw [hbb]; rfl)];rfl
    ·rintro σ H3 ⟨u7,rfl,rfl⟩;refine ⟨_,rfl,_,rfl,_,rfl,by show 3<=sizeLine; decide,fun t3 h3=>?_⟩;have v3:=aX (o:=.tup [V.int (j8 (eV sp)),.int (gB (eV sp) d),.int (d:Int)]) h3;exact q _ t3 (s12.trans v3) (by rw [hD]; exact aG)
end
abbrev rG:cX:=top 60
abbrev aoM:List Str:=["_law_script","_law_spec_here","_law_garden_here","_law_cans","_law_k","_law_name","_law_gap","_law_rest","_law_more","_law_pots"]
section
variable {P:bZ} {w:World} {K:Fg} {mg:Str->Option aC} {base:Heap} {a:fP} {dV:aC} {cF cG PF PG:aB}
structure Pn (K:Fg) (mg:Str->Option aC) (a:fP) (dV:aC) (cF cG:aB):Prop where
 F:Yq K mg a dV cF cG
 I:ahp K mg a dV
 O:YD K mg a dV
 X:ahs K mg a
 U:ahk K mg a dV
 D:T8 K mg
 any:mg "any"=none
 sp:∃ f fd,Fn K "_law_spec" "_law_spec" pP ["_law_script","_law_first"] f fd/\mg "_law_spec"=some (.ref f)
 sm:∃ f fd,Fn K "_law_same" "_law_same" Hi ["_law_garden_here","_law_spec_here"] f fd/\mg "_law_same"=some (.ref f)
 cd:∃ f fd,Fn K "_law_cans_due" "_law_cans_due" pR ["_law_spec_here"] f fd/\mg "_law_cans_due"=some (.ref f)
 gd:∃ f fd,Fn K "_law_gap_due" "_law_gap_due" uq ["_law_spec_here","_law_k"] f fd/\mg "_law_gap_due"=some (.ref f)
 rf:∃ f fd,Fn K "_law_refused" "_law_refused" oA ["_law_garden_here","_law_name"] f fd/\mg "_law_refused"=some (.ref f)
 ll:∃ f fd,Fn K "_law_load" "_law_load" uZ ["_law_spec_here"] f fd/\mg "_law_load"=some (.ref f)
 ld:∃ f fd,Fn K "load" "load" yN ["garden"] f fd/\mg "load"=some (.ref f)
structure LK (K:Fg) (a:fP) (PF PG:aB) (l:aB) (ns:List Int) (v:V) (sp:gM) (x:aB) (H:Hp):Prop where
 sq:cW K H l (ns.map V.int)
 rs:jN H v sp
 gx:eZ a H x (eV sp)
 lf:lH PF yL z6 H
 lg:lH PG uo qI H
theorem LK.same {l x:aB} {ns:List Int} {v:V} {sp:gM} {H H':Hp} (h:LK K a PF PG l ns v sp x H) (s:Same H H'):LK K a PF PG l ns v sp x H':=⟨s.seq h.sq,h.rs.same s,h.gx.same s,h.lf.same s,h.lg.same s⟩
theorem Um {H:Hp} {b:aB} {xs:List V} (h:cW K H b xs):cW K (tQ H) b xs:=by
 rcases h with (h | ⟨o,h⟩) | h
 ·exact .inl (.inl (lZ h (fun _ z=>by cases z)))
 ·exact .inl (.inr ⟨o,lZ h (fun _ z=>by cases z)⟩)
 ·exact .inr h
theorem Hr {H:Hp} {v:V} {sp:gM} (h:jN H v sp):jN (tQ H) v sp:=by
 obtain ⟨t,l,e,ht,r⟩:=h;exact ⟨t,l,e,lZ ht (fun _ z=>by cases z),(Xl (Gj Lw wO wO)).of r⟩
theorem M4 {P1 P2:aB} {H H':Hp} {p1 p2:Pos} {q1 q2:Str} (ne:P2≠P1) (t1:lH P1 p1 q1 H) (t2:lH P2 p2 q2 H) (b:m7 P1 H H'):lH P2 p2 q2 H':=by
 obtain ⟨ps1,h1,_⟩:=t1;obtain ⟨ps,h,ok,h'⟩:=t2;refine ⟨ps,b _ _ ne h,ok,h'.imp id ?_⟩;rintro ⟨c,e,hc⟩;exact ⟨c,e,b _ _ (vR hc h1 (by intro z; cases z)) hc⟩
theorem LK.few {l x:aB} {ns:List Int} {v:V} {sp:gM} {H H':Hp} (h:LK K a PF PG l ns v sp x H) (ne:PG≠PF) (b:m7 PF H H') (t:lH PF yL z6 H'):LK K a PF PG l ns v sp x H':=by
 have s:=b.lam h.lf;exact ⟨jk.seq (s.seq (Um h.sq)),((Hr h.rs).same s).same jk,w6 h.gx b h.lf,t,M4 ne h.lf h.lg b⟩
theorem LK.gap {l x:aB} {ns:List Int} {v:V} {sp:gM} {H H':Hp} (h:LK K a PF PG l ns v sp x H) (ne:PG≠PF) (b:m7 PG H H') (t:lH PG uo qI H'):LK K a PF PG l ns v sp x H':=by
 have s:=b.lam h.lg;exact ⟨jk.seq (s.seq (Um h.sq)),((Hr h.rs).same s).same jk,w6 h.gx b h.lg,M4 (Ne.symm ne) h.lg h.lf b,t⟩
theorem Hs (o:Option Int):af4 (jq o) (jq o)=true:=by cases o <;> rfl
theorem pU:bM aoM ["_law_script"] (aW rG):=dI (by decide +kernel)
abbrev M5 (P:bZ) (w:World) (K:Fg) (mg:Str->Option aC) (base:Heap) (f:aB) (cdv:aC) (A:dB) (outer:List Env) (s:aV) (H₀:Hp) (E:XK):Cx:=oY (d9 P w) P w K mg base aoM "law" (aW rG) f cdv A outer s H₀ E
theorem ay6 (R:Pn K mg a dV cF cG) {f fr:aB} {dr:d7} {cdv:aC} {A:dB} {outer:List Env} {s:aV} {H₀:Hp} {E:XK} (hr:dJ 13 (A.deeper (PyProof.Rows.envOfC "law" (aW rG) s.heap.objs.size f cdv))) (rF:Fn K "_law_refused" "_law_refused" oA ["_law_garden_here","_law_name"] fr dr) (mR:mg "_law_refused"=some (.ref fr)) (Pa:bT P w K mg base (d9 P w) 13 fr dr ["_law_garden_here","_law_name"] (qz K a)) : ∃ t,zH (M5 P w K mg base f cdv A outer s H₀ E) ((fQ rG).drop 8) t/\∀ (D:Ends) (H:Hp) (l x:aB) (ns:List Int) (v:V) (sp:gM) (s3 s4 s5 s6 s7 s8 s9:Option V),LK K a PF PG l ns v sp x H->fM sp->(∀ H',D.rt (.bl true) H')->t D [some (.ref l),some v,some (.ref x),s3,s4,s5,s6,s7,s8,s9] H:=by
 obtain ⟨fs,ds,sF,mS⟩:=R.sm;have iJ:bT P w K mg base (d9 P w) 1 fs ds ["_law_garden_here","_law_spec_here"] (DQ a):=DR sF.F R.I;have kS:=sF.F.kp;have bS:=sF.b;have kR:=rF.F.kp;have bR:=rF.b;have hr1:dJ 1 _:=hr.mono (by decide);refine ⟨_,aU (bU (HX (cH iJ hr1 mS kS bS bf (ak (pv 2) (ak (pv 1) aK))) (HX (cH Pa hr mR kR bR bf (ak (pv 2) (ak jJ aK))) (PN (cH Pa hr mR kR bR bf (ak (pv 2) (ak (iG (ak (cQ cB (cQ jC (cQ cB (pv 1) aR (fun _ _=>rfl)) aR (fun _ _=>rfl)) aR (fun _ _=>rfl)) aK)) aK))))))),?_⟩;intro D H l x ns v sp s3 s4 s5 s6 s7 s8 s9 h ok q;have zK:=ok.fit.ok;have n1:=ok.n1;obtain ⟨t,lp,rfl,ht,rl⟩:=id h.rs;obtain ⟨_,vs,el,hv,uT⟩:=id rl;cases el;have ll:vs.length=sp.pots.length:=Paired.length uT;obtain ⟨z,hz⟩:∃ z,vs[0]?=some z:=⟨_,aA (by omega)⟩;obtain ⟨c,hc,rz⟩:=cD uT hz;refine ⟨_,rfl,_,rfl,x,_,sp,rfl,h.rs,h.gx,ok.n8,fun c hc=>(ok.row c hc).r1,fun H1 s1=>⟨true,rfl,dN ?_⟩⟩;refine ⟨_,rfl,x,eV sp,.non,none,rfl,h.gx.same s1,zK.iJ,zK.n8,.inr ⟨rfl,.inl rfl⟩,(fun _ z=>nomatch z),fun H2 s2=>⟨true,rfl,dN ?_⟩⟩;have s12:=s1.trans s2;obtain ⟨tc,y1,y2,y3,rfl,htc,e1,e2,e3⟩:=dM.same rz s12;cases e1; cases e2; cases e3;refine ⟨_,rfl,_,rfl,t,_,0,.ref lp,rfl,rfl,d8.of (s12 _ _ ht),rfl,lp,_,_,_,rfl,rfl,cW.of (s12 _ _ hv),jh hz,tc,_,0,.str c.1,rfl,rfl,d8.of htc,rfl,by show 1<=sizeLine; decide,fun l1 h1=>?_⟩;have v1:=aX (o:=.lst [V.str c.1]) h1;exact ⟨x,eV sp,.ref l1,none,rfl,(h.gx.same s12).same v1,zK.iJ,zK.n8,.inr ⟨rfl,.inr ⟨l1,_,rfl,cW.of aG⟩⟩,(fun _ z=>nomatch z),fun H3 _=>q H3⟩
theorem ay7 (R:Pn K mg a dV cF cG) {f fr:aB} {dr:d7} {cdv:aC} {A:dB} {outer:List Env} {s:aV} {H₀:Hp} {E:XK} (hr:dJ 13 (A.deeper (PyProof.Rows.envOfC "law" (aW rG) s.heap.objs.size f cdv))) (rF:Fn K "_law_refused" "_law_refused" oA ["_law_garden_here","_law_name"] fr dr) (mR:mg "_law_refused"=some (.ref fr)) (Pa:bT P w K mg base (d9 P w) 13 fr dr ["_law_garden_here","_law_name"] (qz K a)) : ∃ t,zH (M5 P w K mg base f cdv A outer s H₀ E) ((fQ rG).drop 7) t/\∀ (D:Ends) (H:Hp) (l x:aB) (ns:List Int) (v:V) (sp:gM) (s3 s4 s5 s6 s7 s8 s9:Option V),LK K a PF PG l ns v sp x H->fM sp->(∀ H',D.rt (.bl true) H')->t D [some (.ref l),some v,some (.ref x),s3,s4,s5,s6,s7,s8,s9] H:=by
 have E':=R.F.E;have B:=E'.L.W.S.Z.G.T.B;obtain ⟨fo,Tz,dvo,oF,b0,b1,mO⟩:=E'.dof;obtain ⟨fl,dl,lF,mL⟩:=R.ll;have Mj:bT P w K mg base (d9 P w) 7 fo Tz ["garden","state"] (pO K a):=qy oF E';have JX:bT P w K mg base (d9 P w) 1 fl dl ["_law_spec_here"] DW:=Hq lF.F B R.any;have kO:=oF.kp;have kL:=lF.F.kp;have bL:=lF.b;have hr7:dJ 7 _:=hr.mono (by decide);have hr1:dJ 1 _:=hr.mono (by decide);have vn:Vals [V.non] [Value.none]:=.cons rfl .nil;obtain ⟨te,hE,Ht⟩:=ay6 (P:=P) (w:=w) (base:=base) (f:=f) (cdv:=cdv) (A:=A) (outer:=outer) (s:=s) (H₀:=H₀) (E:=E) (PF:=PF) (PG:=PG) R hr rF mR Pa;refine ⟨_,aJ (eE (pw_and (c7 xu (qg Mj hr7 (by rfl) mO kO b1 vn bf (ak (pv 2) aK)) jJ (dH _)) (pw_and1 (c7 Eo (cQ cB (cH JX hr1 mL kL bL bf (ak (pv 1) aK)) aR (fun _ _=>rfl)) (cQ cB (cH JX hr1 mL kL bL bf (ak (pv 1) aK)) aR (fun _ _=>rfl)) (dH _)))).pt (aU (bU lM)) cA) hE,?_⟩;intro D H l x ns v sp s3 s4 s5 s6 s7 s8 s9 h ok q;have zK:=ok.fit.ok;refine ⟨_,rfl,x,eV sp,.non,rfl,h.gx,zK,.inl ⟨rfl,fun H1 ans s1 told=>⟨rfl,_,rfl,?_⟩⟩⟩;have ev:=nu zK told;have h1:=h.same s1;rw [um]
 by_cases hN:ans.getD 0 none=none
 ·rw [aO hN];have nl:=J7 zK (ev.mp hN);refine dN ⟨_,rfl,v,sp,rfl,h1.rs,ok,fun H2 t2 s2 wV=>⟨t2,_,0,_,rfl,rfl,d8.of wV,rfl,?_⟩⟩;have h2:=h1.same s2;refine ⟨_,rfl,v,sp,rfl,h2.rs,ok,fun H3 t3 s3' ht3=>⟨t3,_,1,_,rfl,rfl,d8.of ht3,rfl,_,_,rfl,rfl,_,rfl,?_⟩⟩;rw [show decide (gB (eV sp) (j7 (eV sp)) < j8 (eV sp))=false from aP (by omega)];exact dU (Ht D H3 l x ns v sp _ _ _ _ _ _ _ (h2.same s3') ok q)
 ·rw [aP hN];exact dU (dU (Ht D H1 l x ns v sp _ _ _ _ _ _ _ h1 ok q))
end
section
variable {P:bZ} {w:World} {K:Fg} {mg:Str->Option aC} {base:Heap} {a:fP} {dV:aC} {cF cG PF PG:aB}
theorem Uo {nm:Str} (h:nameV (.str nm)=true):nm.length<=12:=by
 unfold nameV at h;simp at h;omega
theorem BZ:∀ {ps:List bB} {j:Nat} {p p':bB} {a:Int},0<=a->ps[j]?=some p->(∀ q ∈ ps,1<=q.gap)->0<=p'.gap->p'.gap<=4 * p.gap->sizeOf a (ps.set j p')<=4 * sizeOf a ps
 | p::ps,0,_,p',a,h0,hj,h1,g0,g4=>by
  cases hj
  show sizeOf (a * p'.gap) ps<=4 * sizeOf (a * p.gap) ps
  rw [<- yP];refine uY (Int.mul_nonneg h0 g0) ?_ rfl fun k x y hx hy=>?_
  ·have:=Int.mul_le_mul_of_nonneg_left g4 h0;rw [show a * (4 * p.gap)=4 * (a * p.gap) by rw [<- Int.mul_assoc,Int.mul_comm a 4,Int.mul_assoc]] at this;exact this
  ·rw [hx] at hy;cases hy;have:=h1 x (mem_cons_of_mem _ (aH hx));omega
 | q::ps,j + 1,p,p',a,h0,hj,h1,g0,g4=>by
  show sizeOf (a * q.gap) (ps.set j p')<=4 * sizeOf (a * q.gap) ps
  exact BZ (Int.mul_nonneg h0 (by have:=h1 q (by simp); omega)) hj (fun x hx=>h1 x (by simp [hx])) g0 g4
theorem Uq {sp:gM} (ok:fM sp) {k:Nat} {c:Str × Int × Int} (hk:sp.pots[k]?=some c) {i:Int} (h1:c.2.1<=i) (h2:i<=c.2.1 + 3):zY (some (DK (eV sp) k (eU c) i).pots) (.int sp.cans) (.int sp.week) (.int sp.closed)=.ok:=by
 have e:=ok.out;have rc:=ok.row c (aH hk);have g1:=rc.g1
 show tY ((cR sp.pots).set k ((eU c).at i)) _ _ _=_
 have e:tY (cR sp.pots) (.int sp.cans) (.int sp.week) (.int sp.closed)=.ok:=e;unfold tY at e ⊢;have en:((cR sp.pots).set k ((eU c).at i)).map bB.nm=(cR sp.pots).map bB.nm:=by
  rw [map_set];have hp:(cR sp.pots)[k]?=some (eU c):=by rw [cR,aF,hk]; rfl
  have lt:=(aD.mp hp);apply ext_getElem?;intro j
  by_cases z:j=k
  ·subst z;rw [List.getElem?_set_self (by rw [au]; exact lt.1),aF,hp];rfl
  ·rw [List.getElem?_set_ne (Ne.symm z)]
 rw [length_set,en]
 split at e
 ·cases e
 ·rename_i n1
  rw [if_neg n1]
  split at e
  ·cases e
  ·rename_i n2
   rw [if_neg n2];have h4:sizeOf sp.week ((cR sp.pots).set k ((eU c).at i))<=4 * sizeOf sp.week (cR sp.pots):=BZ (by have:=ok.w1; omega) (by rw [cR,aF,hk]; rfl) (fun q hq=>(ok.iJ q hq).gap.1) (by show 0<=i; omega) (by show i<=4 * c.2.1; omega);have:=ok.sz;exact if_neg (by omega)
theorem Ur {c:Str × Int × Int} (rc:wg c) {i:Int} (h1:c.2.1<=i) (h2:i<=c.2.1 + 3):jZ (eU c) (.int i)=true:=by
 have g1:=rc.g1;have g2:=rc.g2;have r2:=rc.r2;unfold jZ eU
 by_cases e:c.2.2 < 0
 ·simp [e,bV];omega
 ·simp [e,bV];omega
theorem ay8 (R:Pn K mg a dV cF cG) (ne:PG≠PF) {f fr fl:aB} {dr dl:d7} {cdv:aC} {A:dB} {outer:List Env} {s:aV} {H₀:Hp} {E:XK} (hr:dJ 13 (A.deeper (PyProof.Rows.envOfC "law" (aW rG) s.heap.objs.size f cdv))) (rF:Fn K "_law_refused" "_law_refused" oA ["_law_garden_here","_law_name"] fr dr) (mR:mg "_law_refused"=some (.ref fr)) (Pa:bT P w K mg base (d9 P w) 13 fr dr ["_law_garden_here","_law_name"] (qz K a)) (lF:Fn K "least_gap" "least_gap" jx ["garden","name"] fl dl) (mL:mg "least_gap"=some (.ref fl)) (JX:bT P w K mg base (d9 P w) 12 fl dl ["garden","name"] (yM K a PG)) : ∃ t,zH (M5 P w K mg base f cdv A outer s H₀ E) ((fQ rG).drop 6) t/\∀ (D:Ends) (H:Hp) (l x:aB) (ns:List Int) (v:V) (sp:gM) (s3 s4 s5 s6 s7 s8 s9:Option V),LK K a PF PG l ns v sp x H->fM sp->(∀ H',D.rt (.bl true) H')->t D [some (.ref l),some v,some (.ref x),s3,s4,s5,s6,s7,s8,s9] H:=by
 have Z:=R.F.E.L.W.S.Z;have B:=Z.G.T.B;obtain ⟨fk,dk,kF,mK⟩:=R.D.ce;obtain ⟨fs,ds,sF,mS⟩:=R.sm;obtain ⟨fg,dg,gF,mG⟩:=R.gd;obtain ⟨fw,dw,wF,mW⟩:=R.F.aoA;have okk:bT P w K mg base (d9 P w) 1 fk dk ["_law_script","_law_k"] (Ds K):=Dt kF.F B;have iJ:bT P w K mg base (d9 P w) 1 fs ds ["_law_garden_here","_law_spec_here"] (DQ a):=DR sF.F R.I;have Yu:bT P w K mg base (d9 P w) 10 fg dg ["_law_spec_here","_law_k"] (Hl a):=Pk gF.F R.O;have okw:bT P w K mg base (d9 P w) 9 fw dw ["garden","name","gap"] (JT K a):=Mv wF.F Z R.F.N;have kK:=kF.F.kp;have bK:=kF.b;have kS:=sF.F.kp;have bS:=sF.b;have kG:=gF.F.kp;have bG:=gF.b;have kW:=wF.F.kp;have bW:=wF.b;have kR:=rF.F.kp;have bR:=rF.b;have kL:=lF.F.kp;have bL:=lF.b;have hr1:dJ 1 _:=hr.mono (by decide);have hr9:dJ 9 _:=hr.mono (by decide);have ahv:dJ 10 _:=hr.mono (by decide);have ahw:dJ 12 _:=hr.mono (by decide);obtain ⟨te,hE,Ht⟩:=ay7 (P:=P) (w:=w) (base:=base) (f:=f) (cdv:=cdv) (A:=A) (outer:=outer) (s:=s) (H₀:=H₀) (E:=E) (PF:=PF) (PG:=PG) R hr rF mR Pa;refine ⟨_,aJ (iw dY rfl (fu (iG (ak (bI fU (cH okk hr1 mK kK bK bf (ak (pv 0) (jD [.int 3] rfl))) (gZ fD B.len PySem.boot_len (ak (cQ cB (pv 1) aR (fun _ _=>rfl)) aK))) aK))) (cL 4 pU.nd) (aJ (Cm (cQ jC (cQ cB (pv 1) aR (fun _ _=>rfl)) (pv 4) (fun _ _=>rfl)) (nM rfl (bY (cL 5 pU.nd) (bY (cL 6 pU.nd) (bY (cL 7 pU.nd) gQ))))) (aJ (eE (pw_or (c7 Aa (cH JX ahw mL kL bL bf (ak (pv 2) (ak (pv 5) aK))) (cH Yu ahv mG kG bG bf (ak (pv 1) (ak (pv 4) aK))) (dH _)) (pw_or1 (gq (fW (cH Pa hr mR kR bR bf (ak (pv 2) (ak (bI Ig (pv 5) ig) aK))))))).pt (aU (bU lM)) cA) (aJ (bF (i:=8) pU.nd rfl (Or.inl rfl) (bI eO (pv 6) (bI fU (cH okk hr1 mK kK bK bf (ak (pv 0) (jD [.int 4] rfl))) aR))) (aJ (bF (i:=9) pU.nd rfl (Or.inl rfl) (bI uG (bI uG (jR sG (cQ cB (pv 1) aR (fun _ _=>rfl)) nQ (nR (pv 4))) (iG (ak (eX (ak (pv 5) (ak (pv 8) (ak (pv 7) aK)))) aK))) (jR sG (cQ cB (pv 1) aR (fun _ _=>rfl)) (nR (bI eO (pv 4) aR)) nQ))) (aU (eE (gq (fW (cH iJ hr1 mS kS bS bf (ak (cH okw hr9 mW kW bW bf (ak (pv 2) (ak (pv 5) (ak (pv 8) aK)))) (ak (eX (ak (pv 9) (ak (cQ cB (pv 1) aR (fun _ _=>rfl)) (ak (cQ cB (pv 1) aR (fun _ _=>rfl)) (ak (cQ cB (pv 1) aR (fun _ _=>rfl)) aK))))) aK))))) (aU (bU lM)) cA))))))) hE,?_⟩;intro D H l x ns v sp s3 s4 s5 s6 s7 s8 s9 h ok q;have zK:=ok.fit.ok;have n1:=ok.n1;have n8:=ok.n8;obtain ⟨t,lp,rfl,ht,rl⟩:=id h.rs;obtain ⟨_,vs,el,hv,uT⟩:=id rl;cases el;have ll:vs.length=sp.pots.length:=Paired.length uT;have big:1000<=sizeLine:=by decide
 refine ⟨_,rfl,l,ns,3,rfl,h.sq,_,rfl,t,_,0,.ref lp,rfl,rfl,d8.of ht,rfl,lp,_,rfl,.inl (cW.of hv),_,_,rfl,rfl,(by show (0:Int) < _; omega),by show 1<=sizeLine; decide,fun lk hlk=>?_⟩;generalize hc3:ns.getD 3 0=cell;have m0:0<=cell % (vs.length:Int):=Int.emod_nonneg _ (by omega);have m1:cell % (vs.length:Int) < (vs.length:Int):=Int.emod_lt_of_pos _ (by omega);obtain ⟨k,ek⟩:∃ k:Nat,cell % (vs.length:Int)=(k:Int):=⟨(cell % (vs.length:Int)).toNat,by omega⟩;have lk':k < sp.pots.length:=by omega
 have v0:=aX (o:=.lst [V.int (cell % (vs.length:Int))]) hlk;obtain ⟨z,hz⟩:∃ z,vs[k]?=some z:=⟨_,aA (by omega)⟩;obtain ⟨c,hk,rz⟩:=cD uT hz;have rc:=ok.row c (aH hk);have nl:=Uo rc.nm;have g1:=rc.g1;have g2:=rc.g2;refine ⟨lk,rfl,⟨_,cW.of aG⟩,?_⟩;refine je (K:=K) (a:=lk) (xs:=[V.int (cell % (vs.length:Int))]) (fun i σ H'=>(∃ s4 s5 s6 s7 s8 s9,σ=[some (.ref l),some (.ref t),some (.ref x),s3,s4,s5,s6,s7,s8,s9])/\LK K a PF PG l ns (.ref t) sp x H'/\H' lp=some (.lst vs)/\Paired (wI H') vs sp.pots/\H' t=some (.tup [.ref lp,.int sp.cans,.int sp.week,.int sp.closed])/\H' lk=some (.lst [V.int (cell % (vs.length:Int))])) ⟨⟨_,_,_,_,_,_,rfl⟩,h.same v0,v0 _ _ hv,Paired.jd uT fun _ _ z=>dM.same z v0,v0 _ _ ht,aG⟩ (fun i σ H' _ ⟨_,_,_,_,_,e⟩=>cW.of e) ?_ ?_
 ·rintro i y σ H1 hi ⟨⟨s4,s5,s6,s7,s8,s9,rfl⟩,h1,hv1,pv1,ht1,ay9⟩;have i0:i=0:=by
   have:=(aD.mp hi).1;simpa using this
  subst i0;cases hi;rw [ek];have rz1:wI H1 z c:=by
   obtain ⟨c',hc',r'⟩:=cD pv1 hz;rw [hk] at hc';cases hc';exact r'
  obtain ⟨tc,y1,y2,y3,rfl,htc,e1,e2,e3⟩:=rz1;cases e1; cases e2; cases e3;refine ⟨_,rfl,t,_,0,.ref lp,rfl,rfl,d8.of ht1,rfl,_,rfl,lp,vs,_,_,rfl,rfl,cW.of hv1,jh hz,?_⟩;refine ⟨tc,_,rfl,d8.of htc,rfl,_,_,rfl,_,_,rfl,_,_,rfl,rfl,?_⟩;have fs:=J0 ok hk;refine ⟨_,rfl,_,rfl,x,eV sp,.str c.1,some c.1,rfl,h1.gx,zK.iJ,zK.n8,.inl ⟨_,rfl,rfl⟩,fun z=>absurd fs.mem (z _ rfl),fun nm j p en fj=>?_⟩;cases en;obtain ⟨rfl,rfl⟩:=fs.one fj;refine ⟨fun i h0 h1=>by rw [<- yQ]; exact (Hh ok hk h0 h1).fit,h1.lg,fun H2 o b2 Pr lp2=>?_⟩;have h2:=h1.gap ne b2 Pr;have sT:=b2.lam h1.lg;have on:∀ {b:aB} {o:HO},H1 b=some o->(∀ ps,o≠.xg ps)->H2 b=some o:=fun e n=>jk _ _ (sT _ _ (lZ e n))
  have hv2:=on hv1 (fun _ z=>by cases z);have wV:=on ht1 (fun _ z=>by cases z);have aza:=on ay9 (fun _ z=>by cases z);have pv2:Paired (wI H2) vs sp.pots:=Paired.jd pv1 fun _ _ z=>dM.same (dM.same ((Gj Lw wO wO).of z) sT) jk
  refine ⟨_,rfl,_,rfl,.ref t,sp,k,c,rfl,h2.rs,ok,hk,fun H3 o' s3' du=>?_⟩;have eo:o=o':=BJ (fun i j h0 h1 h2 e=>G9 (by show k < (cR sp.pots).length; rw [iD]; exact lk') h1 e) lp2 du;subst eo;refine ⟨Hs o,_,rfl,?_⟩;rw [aO rfl];have h3:=h2.same s3';refine dU ⟨_,rfl,_,rfl,_,_,rfl,rfl,by show c.1.length + 1<=sizeLine; omega,x,eV sp,_,some (c.1++"q"),rfl,h3.gx,zK.iJ,zK.n8,.inl ⟨_,rfl,rfl⟩,fun nm en=>?_,fun H4 s4'=>⟨true,rfl,dU ?_⟩⟩
  ·cases en;exact Ud ok c.1
  have h4:=h3.same s4';have s24:=s3'.trans s4';refine ⟨_,rfl,_,rfl,l,ns,4,rfl,h4.sq,_,_,rfl,rfl,(by show (0:Int) < 4; decide),_,_,rfl,rfl,?_⟩;generalize hc4:ns.getD 4 0=o9;have q0:0<=o9 % 4:=Int.emod_nonneg _ (by decide);have q1:o9 % 4 < 4:=Int.emod_lt_of_pos _ (by decide);have j1:c.2.1<=(c.2.1 + o9 % 4):=by omega
  have j2:(c.2.1 + o9 % 4)<=c.2.1 + 3:=by omega
  have hv4:=s24 _ _ hv2;have ht4:=s24 _ _ wV;have azb:=s24 _ _ aza;have pv4:Paired (wI H4) vs sp.pots:=Paired.jd pv2 fun _ _ z=>dM.same z s24
  refine ⟨_,rfl,t,_,0,.ref lp,rfl,rfl,d8.of ht4,rfl,_,rfl,_,rfl,lp,vs,rfl,cW.of hv4,fun p1 a1=>⟨_,rfl,_,rfl,_,rfl,by show 3<=sizeLine; decide,fun t3 a2=>⟨by show 1<=sizeLine; decide,fun p2 a3=>?_⟩⟩⟩;have w1:=aX (o:=.lst (fY vs none (some (k:Int)))) a1;have w2:=aX (o:=.tup [V.str c.1,.int (c.2.1 + o9 % 4),.int c.2.2]) a2;have w3:=aX (o:=.lst [V.ref t3]) a3;have lc1:(fY vs none (some (k:Int))).length<=8:=by have:=iT vs none (some (k:Int)); omega
  have lc2:(fY vs (some ((k:Int) + 1)) none).length<=8:=by have:=iT vs (some ((k:Int) + 1)) none; omega
  refine ⟨p1,p2,_,_,rfl,rfl,w3 _ _ (w2 _ _ aG),aG,by show _ + 1<=sizeLine; omega,fun p3 a4=>?_⟩;have w4:=aX (o:=.lst (fY vs none (some (k:Int))++[V.ref t3])) a4;refine ⟨_,rfl,t,_,0,.ref lp,rfl,rfl,d8.of (w4 _ _ (w3 _ _ (w2 _ _ (w1 _ _ ht4)))),rfl,_,rfl,_,_,rfl,rfl,_,rfl,lp,vs,rfl,cW.of (w4 _ _ (w3 _ _ (w2 _ _ (w1 _ _ hv4)))),fun p4 a5=>?_⟩;have w5:=aX (o:=.lst (fY vs (some ((k:Int) + 1)) none)) a5;refine ⟨p3,p4,_,_,rfl,rfl,w5 _ _ aG,aG,by rw [bx]; show _ + 1 + _<=sizeLine; omega,fun p5 a6=>?_⟩;obtain ⟨H5,eH,s5',rl5⟩:=Hj (i:=(c.2.1 + o9 % 4)) hv4 pv4 hk n8 a1 a2 a3 a4 a5 a6;rw [eH];have h5:=h4.same s5';refine ⟨_,rfl,_,rfl,_,rfl,x,eV sp,c.1,(c.2.1 + o9 % 4),k,eU c,rfl,h5.gx,zK.iJ,zK.n8,fs,Ur rc j1 j2,fun H6 s6'=>Gw (Uq ok hk j1 j2) fun H7 y hy s7' gn=>?_⟩;have s67:=s6'.trans s7';have s47:=s5'.trans s67;have ht7:=s47 _ _ ht4;refine ⟨_,rfl,_,rfl,t,_,1,.int sp.cans,rfl,rfl,d8.of ht7,rfl,_,rfl,t,_,2,.int sp.week,rfl,rfl,d8.of ht7,rfl,_,rfl,t,_,3,.int sp.closed,rfl,rfl,d8.of ht7,rfl,by show 4<=sizeLine; decide,fun t4 a7=>?_⟩;have w7:=aX (o:=.tup [V.ref p5,.int sp.cans,.int sp.week,.int sp.closed]) a7;refine ⟨y,.ref t4,Yz sp k c (c.2.1 + o9 % 4),rfl,⟨t4,p5,rfl,aG,(rl5.same dM s67).same dM w7⟩,?_,by show (sp.pots.set k _).length<=8; rw [length_set]; exact n8,fun q' hq'=>?_,fun H8 s8'=>⟨true,rfl,dU ?_⟩⟩
  ·rw [yQ];exact gn.at.same w7
  ·rcases List.mem_or_eq_of_mem_set hq' with hm | hm
   ·exact (ok.row q' hm).r1
   ·rw [hm];exact rc.r1
  have s48:=(s47.trans w7).trans s8';exact ⟨⟨_,_,_,_,_,_,rfl⟩,h4.same s48,s48 _ _ hv4,Paired.jd pv4 fun _ _ z=>dM.same z s48,s48 _ _ ht4,s48 _ _ (by rw [<- ek]; exact azb)⟩
 ·rintro σ H1 ⟨⟨s4,s5,s6,s7,s8,s9,rfl⟩,h1,_⟩;exact Ht D H1 l x ns (.ref t) sp _ _ _ _ _ _ _ h1 ok q
end
section
variable {P:bZ} {w:World} {K:Fg} {mg:Str->Option aC} {base:Heap} {a:fP} {dV:aC} {cF cG PF PG:aB}
theorem azd (R:Pn K mg a dV cF cG) (ne:PG≠PF) {f fr fl:aB} {dr dl:d7} {cdv:aC} {A:dB} {outer:List Env} {s:aV} {H₀:Hp} {E:XK} (hr:dJ 13 (A.deeper (PyProof.Rows.envOfC "law" (aW rG) s.heap.objs.size f cdv))) (rF:Fn K "_law_refused" "_law_refused" oA ["_law_garden_here","_law_name"] fr dr) (mR:mg "_law_refused"=some (.ref fr)) (Pa:bT P w K mg base (d9 P w) 13 fr dr ["_law_garden_here","_law_name"] (qz K a)) (lF:Fn K "least_gap" "least_gap" jx ["garden","name"] fl dl) (mL:mg "least_gap"=some (.ref fl)) (JX:bT P w K mg base (d9 P w) 12 fl dl ["garden","name"] (yM K a PG)) : ∃ t,zH (M5 P w K mg base f cdv A outer s H₀ E) ((fQ rG).drop 4) t/\∀ (D:Ends) (H:Hp) (l x:aB) (ns:List Int) (v:V) (sp:gM) (s3 s4 s5 s6 s7 s8 s9:Option V),LK K a PF PG l ns v sp x H->fM sp->(∀ H',D.rt (.bl true) H')->t D [some (.ref l),some v,some (.ref x),s3,s4,s5,s6,s7,s8,s9] H:=by
 have Z:=R.F.E.L.W.S.Z;have B:=Z.G.T.B;obtain ⟨fk,dk,kF,mK⟩:=R.D.ce;obtain ⟨fs,ds,sF,mS⟩:=R.sm;obtain ⟨fc,dc,wF,mC⟩:=R.F.cans;have okk:bT P w K mg base (d9 P w) 1 fk dk ["_law_script","_law_k"] (Ds K):=Dt kF.F B;have iJ:bT P w K mg base (d9 P w) 1 fs ds ["_law_garden_here","_law_spec_here"] (DQ a):=DR sF.F R.I;have tE:bT P w K mg base (d9 P w) 9 fc dc ["garden","cans"] (JQ K a):=GX Z wF.F;have kK:=kF.F.kp;have bK:=kF.b;have kS:=sF.F.kp;have bS:=sF.b;have kC:=wF.F.kp;have bC:=wF.b;have hr1:dJ 1 _:=hr.mono (by decide);have hr9:dJ 9 _:=hr.mono (by decide);obtain ⟨te,hE,Ht⟩:=ay8 (P:=P) (w:=w) (base:=base) (f:=f) (cdv:=cdv) (A:=A) (outer:=outer) (s:=s) (H₀:=H₀) (E:=E) (PF:=PF) (PG:=PG) R ne hr rF mR Pa lF mL JX;refine ⟨_,aJ (bF (i:=3) pU.nd rfl (Or.inl rfl) (bI fU (cH okk hr1 mK kK bK bf (ak (pv 0) (jD [.int 3] rfl))) aR)) (aJ (eE (gq (fW (cH iJ hr1 mS kS bS bf (ak (cH tE hr9 mC kC bC bf (ak (pv 2) (ak (pv 3) aK))) (ak (eX (ak (cQ cB (pv 1) aR (fun _ _=>rfl)) (ak (pv 3) (ak (cQ cB (pv 1) aR (fun _ _=>rfl)) (ak (cQ cB (pv 1) aR (fun _ _=>rfl)) aK))))) aK))))) (aU (bU lM)) cA) hE),?_⟩;intro D H l x ns v sp s3 s4 s5 s6 s7 s8 s9 h ok q;have zK:=ok.fit.ok;obtain ⟨t,lp,rfl,ht,rl⟩:=id h.rs;refine ⟨_,rfl,l,ns,3,rfl,h.sq,_,_,rfl,rfl,(by show (0:Int) < 9; decide),?_⟩;generalize hc:ns.getD 3 0=cell;have m0:0<=cell % 9:=Int.emod_nonneg _ (by decide);have m1:cell % 9 < 9:=Int.emod_lt_of_pos _ (by decide);have okn:=uX ok (c:=cell % 9) m0 (by omega);refine ⟨_,rfl,_,rfl,x,eV sp,.int (cell % 9),.int,rfl,h.gx,zK.iJ,zK.n8,⟨_,rfl⟩,Gw okn.out fun H1 y hy s1 gn=>?_⟩;have ht1:=s1 _ _ ht;refine ⟨_,rfl,t,_,0,.ref lp,rfl,rfl,d8.of ht1,rfl,_,rfl,_,rfl,t,_,2,.int sp.week,rfl,rfl,d8.of ht1,rfl,_,rfl,t,_,3,.int sp.closed,rfl,rfl,d8.of ht1,rfl,by show 4<=sizeLine; decide,fun t4 a7=>?_⟩;have w7:=aX (o:=.tup [V.ref lp,.int (cell % 9),.int sp.week,.int sp.closed]) a7;refine ⟨y,.ref t4,⟨sp.pots,cell % 9,sp.week,sp.closed⟩,rfl,⟨t4,lp,rfl,aG,(rl.same dM s1).same dM w7⟩,gn.at.same w7,ok.n8,fun c hc=>(ok.row c hc).r1,fun H2 s2=>⟨true,rfl,dU ?_⟩⟩;exact Ht D H2 l x ns (.ref t) sp _ _ _ _ _ _ _ (h.same ((s1.trans w7).trans s2)) ok q
theorem M6 (xs:List V):fY xs none (some 2)=xs.take 2:=by
 unfold fY;rw [show (2:Int)=((2:Nat):Int) from rfl,HT.Cu];simp [HT.iZ]
theorem Ca {α β:Type} {R:α->β->Prop}:∀ {xs:List α} {ys:List β} (j:Nat),Paired R xs ys->Paired R (xs.take j) (ys.take j)
 | _,_,0,_=>by rw [take_zero,take_zero]; exact .nil
 | _,_,_ + 1,.nil=>.nil
 | _,_,j + 1,.cons h t=>.cons h (Ca j t)
def DX (K:Fg) (PF PG:aB):Sp:=fun vs H Q _=>∃ (l:aB) (ns:List Int),vs=[.ref l]/\cW K H l (ns.map V.int)/\lH PF yL z6 H/\lH PG uo qI H/\∀ H',Q (.bl true) H'
theorem ahx {f:aB} {fd:d7} (F:lB K "law" "law" rG f fd) (R:Pn K mg a dV cF cG) (ne:PG≠PF) (C1:CodeHd base cF PF) (B1:base.BuiltinsAt mg PF) (C2:CodeHd base cG PG) (B2:base.BuiltinsAt mg PG) : bT P w K mg base (d9 P w) 14 f fd ["_law_script"] (DX K PF PG):=by
 refine F.jU pU (fun vs H Q E h=>?_) (fun cdv A outer s H vs Q E hr h=>?_)
 ·obtain ⟨l,ns,rfl,_⟩:=h;rfl
 ·obtain ⟨l,ns,rfl,hS,lf,lg,q⟩:=h;have Z:=R.F.E.L.W.S.Z;have B:=Z.G.T.B;obtain ⟨fsp,dsp,spF,mSp⟩:=R.sp;obtain ⟨fg,dg,gF,mG⟩:=R.O.gar;obtain ⟨ff,df,fF,mF,cF'⟩:=R.F.few;obtain ⟨fl,dl,lF,mL,cL'⟩:=R.F.ayW;obtain ⟨fr,dr,rF,mR⟩:=R.rf;obtain ⟨fd',dd,dF,mD⟩:=R.cd;obtain ⟨fo,Tz,oF,mO⟩:=R.ld;obtain ⟨fll,dll,llF,mLL⟩:=R.ll;have azg:bT P w K mg base (d9 P w) 2 fsp dsp ["_law_script","_law_first"] (Ub K):=Yy spF.F R.D;have Yu:bT P w K mg base (d9 P w) 9 fg dg ["_law_spec_here"] (DN a):=DP gF.F Z;have okf:bT P w K mg base (d9 P w) 12 ff df ["garden"] (aaf a PF):=ahg fF.F R.F cF' C1 B1;have JX:bT P w K mg base (d9 P w) 12 fl dl ["garden","name"] (yM K a PG):=Ys lF.F R.F cL' C2 B2;have Pa:bT P w K mg base (d9 P w) 13 fr dr ["_law_garden_here","_law_name"] (qz K a):=Ui rF.F R.X lF mL JX;have okd:bT P w K mg base (d9 P w) 10 fd' dd ["_law_spec_here"] (BL a):=J1 dF.F R.O;have Mj:bT P w K mg base (d9 P w) 3 fo Tz ["garden"] (T7 a):=Yt oF.F R.U;have azh:bT P w K mg base (d9 P w) 1 fll dll ["_law_spec_here"] DW:=Hq llF.F B R.any;have hr1:dJ 1 _:=hr.mono (by decide);have hr2:dJ 2 _:=hr.mono (by decide);have hr3:dJ 3 _:=hr.mono (by decide);have hr9:dJ 9 _:=hr.mono (by decide);have ahv:dJ 10 _:=hr.mono (by decide);have ahw:dJ 12 _:=hr.mono (by decide);have k1:=spF.F.kp;have b1:=spF.b;have k2:=gF.F.kp;have b2:=gF.b;have k3:=fF.F.kp;have b3:=fF.b;have k4:=dF.F.kp;have b4:=dF.b;have k5:=oF.F.kp;have b5:=oF.b;have k6:=llF.F.kp;have b6:=llF.b;obtain ⟨te,hE,Ht⟩:=azd (P:=P) (w:=w) (base:=base) (f:=f) (cdv:=cdv) (A:=A) (outer:=outer) (s:=s) (H₀:=H) (E:=E) (PF:=PF) (PG:=PG) R ne hr rF mR Pa lF mL JX;refine ⟨_,aJ (bF (i:=1) pU.nd rfl (Or.inl rfl) (cH azg hr2 mSp k1 b1 bf (ak (pv 0) (jD [.int 0] rfl)))) (aJ (bF (i:=1) pU.nd rfl (Or.inl rfl) (bI K5 (eX (ak (jR sG (cQ cB (pv 1) aR (fun _ _=>rfl)) nQ (nR aR)) aK)) (jR Qw (pv 1) (nR aR) nQ))) (aJ (bF (i:=2) pU.nd rfl (Or.inl rfl) (cH Yu hr9 mG k2 b2 bf (ak (pv 1) aK))) (aJ (eE (pw_or (c7 Aa (cH okf ahw mF k3 b3 bf (ak (pv 2) aK)) (cH okd ahv mD k4 b4 bf (ak (pv 1) aK)) (dH _)) (pw_or1 (c7 (ags hr.units) (cH Mj hr3 mO k5 b5 bf (ak (pv 2) aK)) (cH azh hr1 mLL k6 b6 bf (ak (pv 1) aK)) (dH _)))).pt (aU (bU lM)) cA) hE))),?_⟩;refine ⟨_,rfl,l,ns,0,rfl,hS,fun H1 v0 HJ s1 rs0 ok0=>?_⟩;obtain ⟨t,lp,rfl,ht,rl⟩:=id rs0;obtain ⟨_,vs,el,hv,uT⟩:=id rl;cases el;refine ⟨_,rfl,t,_,0,.ref lp,rfl,rfl,d8.of ht,rfl,_,rfl,lp,vs,rfl,cW.of hv,fun l2 a1=>⟨by show 1<=sizeLine; decide,fun t2 a2=>?_⟩⟩;have w1:=aX (o:=.lst (fY vs none (some 2))) a1;have w2:=aX (o:=.tup [V.ref l2]) a2;refine ⟨_,rfl,_,rfl,t,_,rfl,d8.of (w2 _ _ (w1 _ _ ht)),(by show ¬ (HT.iZ 4 0 (some 1)=0/\HT.iZ 4 4 none=4); decide),fun t3 a3=>?_⟩;have w3:=aX (o:=.tup [V.int HJ.cans,.int HJ.week,.int HJ.closed]) a3;refine ⟨t2,t3,_,_,rfl,rfl,d8.of (w3 _ _ aG),d8.of aG,(by intro z; cases z),by show 1 + 3<=sizeLine; decide,(fun z=>nomatch z),fun _ t4 a4=>?_⟩;have w4:=aX (o:=.tup [V.ref l2,.int HJ.cans,.int HJ.week,.int HJ.closed]) a4;have s14:=((w1.trans w2).trans w3).trans w4;have ok:=Ue ok0;generalize hsp:(⟨HJ.pots.take 2,HJ.cans,HJ.week,HJ.closed⟩:gM)=sp at ok;have rs:jN (upd (upd (upd (upd H1 l2 (.lst (fY vs none (some 2)))) t2 (.tup [V.ref l2])) t3 (.tup [V.int HJ.cans,.int HJ.week,.int HJ.closed])) t4 (.tup [V.ref l2,.int HJ.cans,.int HJ.week,.int HJ.closed])) (.ref t4) sp:=by
   rw [<- hsp];refine ⟨t4,l2,rfl,aG,l2,vs.take 2,rfl,?_,?_⟩
   ·have:=(w2.trans (w3.trans w4)) _ _ (aG (H:=H1) (a:=l2) (o:=.lst (fY vs none (some 2))));rw [M6] at this;rw [M6];exact this
   ·exact Ca 2 (Paired.jd uT fun _ _ z=>dM.same z s14)
  have s04:=s1.trans s14;refine ⟨_,rfl,.ref t4,sp,rfl,rs,ok,fun H5 x s5 gx=>?_⟩;have h5:LK K a PF PG l ns (.ref t4) sp x H5:=⟨s5.seq (s04.seq hS),rs.same s5,gx,(lf.same s04).same s5,(lg.same s04).same s5⟩;have fit:=ok.fit;have pl:(eV sp).pots.length=sp.pots.length:=iD _;have n8:=ok.n8;refine ⟨_,rfl,x,eV sp,rfl,h5.gx,fun c h0 h1=>(uX ok h0 (by rw [pl] at h1; omega)).fit,h5.lf,fun H6 o b6 t6 lp6=>?_⟩;have h6:=h5.few ne b6 t6;refine ⟨_,rfl,.ref t4,sp,rfl,h6.rs,ok,fun H7 o' s7 du=>?_⟩;have eo:o=o':=by
   rw [pl] at lp6;exact BJ (fun i j _ h1 _ e=>Bs h1 e) lp6 du
  subst eo;refine ⟨Hs o,_,rfl,?_⟩;rw [aO rfl];have h7:=h6.same s7;refine dU ⟨_,rfl,x,eV sp,rfl,h7.gx,fit.ok,ok.c2,ok.w2,fun H8 t8 s8 ht8=>?_⟩;have h8:=h7.same s8;refine ⟨_,rfl,.ref t4,sp,rfl,h8.rs,ok,fun H9 t9 s9 ht9=>?_⟩;refine MK (R:=pA) (n:=0) (xs:=[j8 (eV sp),lU (eV sp) * ((j7 (eV sp):Int) / (eV sp).week),(j7 (eV sp):Int)]) (ys:=[j8 (eV sp),gB (eV sp) (j7 (eV sp)),(j7 (eV sp):Int)]) eq_int (by decide) ⟨t8,_,rfl,s9 _ _ ht8,iY _ [j8 (eV sp),lU (eV sp) * ((j7 (eV sp):Int) / (eV sp).week),(j7 (eV sp):Int)]⟩ ⟨t9,_,rfl,ht9,iY _ [j8 (eV sp),gB (eV sp) (j7 (eV sp)),(j7 (eV sp):Int)]⟩ true ?_;rw [J6 fit.ok.w0,aO rfl];exact ⟨_,rfl,dU (Ht _ H9 l x ns (.ref t4) sp _ _ _ _ _ _ _ (h8.same s9) ok q)⟩
end
theorem len1 {us:List aC} (h:us.length=1):∃ x,us=[x]:=match us,h with | [x],_=>⟨x,rfl⟩
theorem len2 {us:List aC} (h:us.length=2):∃ x y,us=[x,y]:=match us,h with | [x,y],_=>⟨x,y,rfl⟩
theorem azj {us:List aC} (h:us.length=3):∃ x y z,us=[x,y,z]:=match us,h with | [x,y,z],_=>⟨x,y,z,rfl⟩
theorem HN {P:List aC->Prop} (h:∀ x,P [x]):∀ us,us.length=1->P us
 | [x],_=>h x
theorem zL {P:List aC->Prop} (h:∀ x y,P [x,y]):∀ us,us.length=2->P us
 | [x,y],_=>h x y
theorem ul3 {P:List aC->Prop} (h:∀ x y z,P [x,y,z]):∀ us,us.length=3->P us
 | [x,y,z],_=>h x y z
theorem ul4 {P:List aC->Prop} (h:∀ x y z u,P [x,y,z,u]):∀ us,us.length=4->P us
 | [x,y,z,u],_=>h x y z u
abbrev fN (x q:Str) (s:cX) (dv kV dc pm:aC) (an:Option aB) (cd ct:aC):d7:=fnOf x q (jO s) (fQ s) (aW s) dv kV dc pm an cd ct
theorem all_mk {l:PySem.W.OpenLaw} {w:World} {K:Fg} {h:Heap} {mg:Str->Option aC} {fa:aB} {PF cF PG cG:aB} (X:K.In h) (G:h.Ns mainGlobals mg) (hfa:mg "law"=some (.ref fa)) {Jp dR qX tooMany gW fJ qY pot bJ garden fWh fNm RK Xq Xr Xu Gp Gq Gs Td Vw fSz YF YG Dm Dn Ow YH RM fWG ahy ahz ahA YJ YK ahB ahC ahD ahE ahF ahG YL Tq YM YQ ahH ahI ahJ ahK ahM ahN ahO ahP ahQ ahR ahS ahT ahU ahV ahW ahX:aB} {azl azm azn azo azp azq u1 u2 u3 tfF tgF ttF tfG tgG ttG:Tok} {azr aoP azs aoQ azt aoR azu aoS azv aoT azw aoU aoV aah aoW aai aoX aaj odT aoY Ka azx aoZ ao0 aak ao1 aal ao2 aam ao3 aan ao4 aao ao5 aap ao6 aaq azy ao7 ao8 ao9 apa apb apc apd ape apf apg aph apj apk apl apm apn apo apq apr aps apt apu apv aar Hu apw apx apy apz apA apB apC apD apE apF apG apH apI apJ apK apL apM apO apP apQ apR apS apT apU apV apW apY apZ ap0 ap1 ap2 ap3 ap4 ap5 ap6 ap7 Us azz azA:Option aB} {azB azC azD azE azF azG ap8 ap9 aqa slT aqb azH aqc aqd aqe aqf aqg aqh aqi azI aqj aqk aql aqm aqn aqo aqp aqq aqr aqs aqt aas aqu aqv aqw aqx aqy aqz aqA aqB aqC aqD aqE aqF aqG aqH aqI aqJ aqK aqL aqM azJ azK:Array (Option aC)} {azL aqN aqO aqP ahY aqQ azM aqR aqS aqT ahZ aqU azN aqV aqW aqX ah0 aqY azO aqZ aq0 aq1 ah1 aq2 azP aq3 aq4 aq5 ah2 aq6 azQ aq7 aq8 aq9 ah3 ara arb aat aau aav Ut aaw ard aax aay aaz Uv aaA arf aaB aaC aaD Uw aaE ocT arh Kc Ke Kf Hv Kg azR ari arj ark ah4 arl arn aaF aaG aaH Ux aaI aro aaJ aaK aaL Uy aaM arp aaN aaO aaP Uz aaQ arq aaR aaS aaT UG aaU ars aaV aaW aaX UJ aaY aru aaZ aa0 aa1 UL aa2 arv aa3 aa4 aa5 UW aa6 azS arw arx arz ah5 arA arB arC arD arE aa7 arF arG arH arI arJ aa8 arK arL arM arN arO aa9 arP arQ arR arS arT abb arU arV arW arX arY abd arZ ar0 ar3 ar4 ar5 abe ar6 ar7 ar8 ar9 asa abf asb asd ase asf ash abg asi asj asl asn aso abh asp asq asr asu asv abj asw asx asy asz asA abk asB abl Hw Hx Hy Cd Hz asC asD asF asG asH abm asI asJ asK asL asM abn asN asO asQ asR asS abo asT asU asV asW asY U0 asZ as3 as4 as5 as6 U3 as7 as8 as9 ata atb abp atc atd ate atf atg abq ath ati atj atk atl abr atm atn atp atq atr abt atu atv atw atx aty abu atz atA atB atD atE abv atF atG atH atJ atL abw atM atN atO atQ atR abx atU atV atX atY atZ aby at3 at4 at5 at6 at7 abz at8 at9 aua aub auc abA aud aue auf auh aui abB auj auk U4 U5 U6 M7 U7:aC} {nT azT:Nat} {vsF vsG:Array aC} {flF flG:Str} {fgF txF fgG txG:Int} {inF inG:Bool} (jP:nsIn K mainGlobals "isinstance"=some none) (Kh:nsIn K mainGlobals "bool"=some none) (U8:nsIn K mainGlobals "int"=some none) (U9:nsIn K mainGlobals "str"=some none) (Kl:nsIn K mainGlobals "list"=some none) (DY:nsIn K mainGlobals "tuple"=some none) (Va:nsIn K mainGlobals "len"=some none) (Vb:nsIn K mainGlobals "all"=some none) (Vc:nsIn K mainGlobals "set"=some none) (Vd:nsIn K mainGlobals "zip"=some none) (rH:nsIn K mainGlobals "reversed"=some none) (Ea:nsIn K mainGlobals "range"=some none) (oE:nsIn K mainGlobals "ValueError"=some none) (pW:nsIn K mainGlobals "enumerate"=some none) (Km:nsIn K mainGlobals "dict"=some none) (Ve:nsIn K mainGlobals "max"=some none) (Vf:nsIn K mainGlobals "sum"=some none) (Vg:nsIn K mainGlobals "any"=some none) (ah6:nsIn K mainGlobals "LONGEST_NAME"=some (some (.int 12 azl))) (ah7:nsIn K mainGlobals "MOST_GAP"=some (some (.int 60 azm))) (ah8:nsIn K mainGlobals "MOST_POTS"=some (some (.int 8 azn))) (ah9:nsIn K mainGlobals "MOST_CANS"=some (some (.int 8 azo))) (aia:nsIn K mainGlobals "MOST_WEEK"=some (some (.int 14 azp))) (aib:nsIn K mainGlobals "MOST_STATES"=some (some (.int 20000 azq))) (Ko:nsIn K mainGlobals "GardenError"=some (some (.ref Jp))) (yS:nsIn K mainGlobals "BadPot"=some (some (.ref dR))) (yU:nsIn K mainGlobals "BadRow"=some (some (.ref qX))) (vf:nsIn K mainGlobals "TooMany"=some (some (.ref tooMany))) (vg:nsIn K mainGlobals "NoState"=some (some (.ref gW))) (Ec:nsIn K mainGlobals "NoPot"=some (some (.ref fJ))) (yV:nsIn K mainGlobals "BadDay"=some (some (.ref qY))) (Vh:nsIn K mainGlobals "Pot"=some (some (.ref pot))) (yW:nsIn K mainGlobals "Cactus"=some (some (.ref bJ))) (yX:nsIn K mainGlobals "Garden"=some (some (.ref garden))) (ne:pot≠bJ) (aWh:nsIn K mainGlobals "is_whole"=some (some (.ref fWh))) (lWh:K.lookup fWh=some ⟨azL,azr,.func (fN "is_whole" "is_whole" uN .none aqN aqO aqP aoP ahY aqQ),azB⟩) (cWh:codeIn K ahY "is_whole"=true) (kWh:keepIn K (.ref fWh)=true) (aNm:nsIn K mainGlobals "is_name"=some (some (.ref fNm))) (lNm:K.lookup fNm=some ⟨azM,azs,.func (fN "is_name" "is_name" qu .none aqR aqS aqT aoQ ahZ aqU),azC⟩) (cNm:codeIn K ahZ "is_name"=true) (kNm:keepIn K (.ref fNm)=true) (aPI:findIn K (.ref pot) "__init__"=some (some (.ref RK))) (iPI:isFn K (.ref RK)=true) (lPI:K.lookup RK=some ⟨azN,azt,.func (fN "__init__" "Pot.__init__" pI .none aqV aqW aqX aoR ah0 aqY),azD⟩) (cPI:codeIn K ah0 "Pot.__init__"=true) (kPI:keepIn K (.ref RK)=true) (aPG:findIn K (.ref pot) "with_gap"=some (some (.ref Xq))) (iPG:isFn K (.ref Xq)=true) (lPG:K.lookup Xq=some ⟨azO,azu,.func (fN "with_gap" "Pot.with_gap" tR .none aqZ aq0 aq1 aoS ah1 aq2),azE⟩) (cPG:codeIn K ah1 "Pot.with_gap"=true) (kPG:keepIn K (.ref Xq)=true) (aCI:findIn K (.ref bJ) "__init__"=some (some (.ref Xr))) (iCI:isFn K (.ref Xr)=true) (lCI:K.lookup Xr=some ⟨azP,azv,.func (fN "__init__" "Cactus.__init__" pJ .none aq3 aq4 aq5 aoT ah2 aq6),azF⟩) (cCI:codeIn K ah2 "Cactus.__init__"=true) (kCI:keepIn K (.ref Xr)=true) (aCG:findIn K (.ref bJ) "with_gap"=some (some (.ref Xu))) (iCG:isFn K (.ref Xu)=true) (lCG:K.lookup Xu=some ⟨azQ,azw,.func (fN "with_gap" "Cactus.with_gap" tV .none aq7 aq8 aq9 aoU ah3 ara),azG⟩) (cCG:codeIn K ah3 "Cactus.with_gap"=true) (kCG:keepIn K (.ref Xu)=true) (aic:nsIn K mainGlobals "own_pots"=some (some (.ref Gp))) (aie:K.lookup Gp=some ⟨arb,aoV,.func (fN "own_pots" "own_pots" R0 .none aat aau aav aah Ut aaw),ap8⟩) (aif:codeIn K Ut "own_pots"=true) (kOwn:keepIn K (.ref Gp)=true) (aii:nsIn K mainGlobals "refuse_bad_counts"=some (some (.ref Gq))) (aij:K.lookup Gq=some ⟨ard,aoW,.func (fN "refuse_bad_counts" "refuse_bad_counts" R3 .none aax aay aaz aai Uv aaA),ap9⟩) (aik:codeIn K Uv "refuse_bad_counts"=true) (ail:keepIn K (.ref Gq)=true) (ain:nsIn K mainGlobals "refuse_name_twice"=some (some (.ref Gs))) (aio:K.lookup Gs=some ⟨arf,aoX,.func (fN "refuse_name_twice" "refuse_name_twice" R4 .none aaB aaC aaD aaj Uw aaE),aqa⟩) (aip:codeIn K Uw "refuse_name_twice"=true) (aiq:keepIn K (.ref Gs)=true) (aGI:findIn K (.ref garden) "__init__"=some (some (.ref Vw))) (iGI:isFn K (.ref Vw)=true) (lGI:K.lookup Vw=some ⟨arh,aoY,.func (fN "__init__" "Garden.__init__" XF (.ref Td) Kc Ke Kf Ka Hv Kg),aqb⟩) (cGI:codeIn K Hv "Garden.__init__"=true) (kGI:keepIn K (.ref Vw)=true) (lT:K.lookup Td=some ⟨ocT,odT,.seq #[.int 1 u1,.int 1 u2,.int 0 u3] nT,slT⟩) (aSz:findIn K (.ref garden) "size"=some (some (.ref fSz))) (iSz:isFn K (.ref fSz)=true) (lSz:K.lookup fSz=some ⟨azR,azx,.func (fN "size" "Garden.size" Gv .none ari arj ark aoZ ah4 arl),azH⟩) (cSz:codeIn K ah4 "Garden.size"=true) (kSz:keepIn K (.ref fSz)=true) (air:nsIn K mainGlobals "is_state"=some (some (.ref YF))) (ais:K.lookup YF=some ⟨arn,ao0,.func (fN "is_state" "is_state" GC .none aaF aaG aaH aak Ux aaI),aqc⟩) (ait:codeIn K Ux "is_state"=true) (aiu:keepIn K (.ref YF)=true) (aiv:nsIn K mainGlobals "refuse_no_state"=some (some (.ref YG))) (aiw:K.lookup YG=some ⟨aro,ao1,.func (fN "refuse_no_state" "refuse_no_state" yt .none aaJ aaK aaL aal Uy aaM),aqd⟩) (aix:codeIn K Uy "refuse_no_state"=true) (aiy:keepIn K (.ref YG)=true) (aiz:findIn K (.ref garden) "number"=some (some (.ref Dm))) (aiA:isFn K (.ref Dm)=true) (aiB:K.lookup Dm=some ⟨arp,ao2,.func (fN "number" "Garden.number" Sy .none aaN aaO aaP aam Uz aaQ),aqe⟩) (aiC:codeIn K Uz "Garden.number"=true) (YS:keepIn K (.ref Dm)=true) (aiD:findIn K (.ref garden) "state"=some (some (.ref Dn))) (aiE:isFn K (.ref Dn)=true) (aiF:K.lookup Dn=some ⟨arq,ao3,.func (fN "state" "Garden.state" SJ .none aaR aaS aaT aan UG aaU),aqf⟩) (aiG:codeIn K UG "Garden.state"=true) (YT:keepIn K (.ref Dn)=true) (aiH:findIn K (.ref garden) "fresh"=some (some (.ref Ow))) (aiI:isFn K (.ref Ow)=true) (aiJ:K.lookup Ow=some ⟨ars,ao4,.func (fN "fresh" "Garden.fresh" JD .none aaV aaW aaX aao UJ aaY),aqg⟩) (aiK:codeIn K UJ "Garden.fresh"=true) (YW:keepIn K (.ref Ow)=true) (aiL:nsIn K mainGlobals "with_cans"=some (some (.ref YH))) (aiM:K.lookup YH=some ⟨aru,ao5,.func (fN "with_cans" "with_cans" Bq .none aaZ aa0 aa1 aap UL aa2),aqh⟩) (aiN:codeIn K UL "with_cans"=true) (aiO:keepIn K (.ref YH)=true) (aiP:nsIn K mainGlobals "place_of"=some (some (.ref RM))) (aiQ:K.lookup RM=some ⟨arv,ao6,.func (fN "place_of" "place_of" Pg .none aa3 aa4 aa5 aaq UW aa6),aqi⟩) (aiR:codeIn K UW "place_of"=true) (aiS:keepIn K (.ref RM)=true) (aWG:nsIn K mainGlobals "with_gap"=some (some (.ref fWG))) (lWG:K.lookup fWG=some ⟨azS,azy,.func (fN "with_gap" "with_gap" Bt .none arw arx arz ao7 ah5 arA),azI⟩) (cWG:codeIn K ah5 "with_gap"=true) (kWG:keepIn K (.ref fWG)=true) (aiT:nsIn K mainGlobals "is_set"=some (some (.ref ahy))) (aiU:K.lookup ahy=some ⟨arB,ao8,.func (fN "is_set" "is_set" yC .none arC arD arE ao9 aa7 arF),aqj⟩) (aiV:codeIn K aa7 "is_set"=true) (aiW:keepIn K (.ref ahy)=true) (aiX:nsIn K mainGlobals "cans_on"=some (some (.ref ahz))) (aiY:K.lookup ahz=some ⟨arG,apa,.func (fN "cans_on" "cans_on" qw .none arH arI arJ apb aa8 arK),aqk⟩) (aiZ:codeIn K aa8 "cans_on"=true) (ai0:keepIn K (.ref ahz)=true) (ai1:nsIn K mainGlobals "day_behind"=some (some (.ref ahA))) (ai2:K.lookup ahA=some ⟨arL,apc,.func (fN "day_behind" "day_behind" GQ .none arM arN arO apd aa9 arP),aql⟩) (ai3:codeIn K aa9 "day_behind"=true) (ai4:keepIn K (.ref ahA)=true) (ai5:findIn K (.ref pot) "may"=some (some (.ref YJ))) (ai6:isFn K (.ref YJ)=true) (ai7:K.lookup YJ=some ⟨arQ,ape,.func (fN "may" "Pot.may" tZ .none arR arS arT apf abb arU),aqm⟩) (ai8:codeIn K abb "Pot.may"=true) (YX:keepIn K (.ref YJ)=true) (ai9:findIn K (.ref bJ) "may"=some (some (.ref YK))) (aja:isFn K (.ref YK)=true) (ajb:K.lookup YK=some ⟨arV,apg,.func (fN "may" "Cactus.may" uc .none arW arX arY aph abd arZ),aqn⟩) (ajc:codeIn K abd "Cactus.may"=true) (YZ:keepIn K (.ref YK)=true) (ajd:nsIn K mainGlobals "without_water"=some (some (.ref ahB))) (aje:K.lookup ahB=some ⟨ar0,apj,.func (fN "without_water" "without_water" O2 .none ar3 ar4 ar5 apk abe ar6),aqo⟩) (ajf:codeIn K abe "without_water"=true) (ajg:keepIn K (.ref ahB)=true) (ajh:nsIn K mainGlobals "with_water"=some (some (.ref ahC))) (aji:K.lookup ahC=some ⟨ar7,apl,.func (fN "with_water" "with_water" O3 .none ar8 ar9 asa apm abf asb),aqp⟩) (ajj:codeIn K abf "with_water"=true) (ajk:keepIn K (.ref ahC)=true) (ajl:nsIn K mainGlobals "choices"=some (some (.ref ahD))) (ajm:K.lookup ahD=some ⟨asd,apn,.func (fN "choices" "choices" nj .none ase asf ash apo abg asi),aqq⟩) (ajn:codeIn K abg "choices"=true) (ajo:keepIn K (.ref ahD)=true) (ajp:nsIn K mainGlobals "roads"=some (some (.ref ahE))) (ajq:K.lookup ahE=some ⟨asj,apq,.func (fN "roads" "roads" uR .none asl asn aso apr abh asp),aqr⟩) (ajr:codeIn K abh "roads"=true) (ajs:keepIn K (.ref ahE)=true) (ajt:nsIn K mainGlobals "table"=some (some (.ref ahF))) (aju:K.lookup ahF=some ⟨asq,aps,.func (fN "table" "table" yH .none asr asu asv apt abj asw),aqs⟩) (ajv:codeIn K abj "table"=true) (ajw:keepIn K (.ref ahF)=true) (ajx:nsIn K mainGlobals "told_or_fresh"=some (some (.ref ahG))) (ajy:K.lookup ahG=some ⟨asx,apu,.func (fN "told_or_fresh" "told_or_fresh" GZ .none asy asz asA apv abk asB),aqt⟩) (ajz:codeIn K abk "told_or_fresh"=true) (ajA:keepIn K (.ref ahG)=true) (ajB:nsIn K mainGlobals "days_of"=some (some (.ref YL))) (ajC:K.lookup YL=some ⟨abl,aar,.func (fN "days_of" "days_of" lR (.ref Tq) Hw Hx Hy Hu Cd Hz),aas⟩) (ajD:codeIn K Cd "days_of"=true) (ajE:keepIn K (.ref YL)=true) (Y4:K.lookup Tq=some ⟨asC,apw,.seq #[.none] azT,aqu⟩) (ajF:findIn K (.ref pot) "shortest"=some (some (.ref YM))) (ajG:isFn K (.ref YM)=true) (ajH:K.lookup YM=some ⟨asD,apx,.func (fN "shortest" "Pot.shortest" nF .none asF asG asH apy abm asI),aqv⟩) (ajI:codeIn K abm "Pot.shortest"=true) (Y5:keepIn K (.ref YM)=true) (ajJ:findIn K (.ref bJ) "shortest"=some (some (.ref YQ))) (ajK:isFn K (.ref YQ)=true) (ajL:K.lookup YQ=some ⟨asJ,apz,.func (fN "shortest" "Cactus.shortest" nH .none asK asL asM apA abn asN),aqw⟩) (ajM:codeIn K abn "Cactus.shortest"=true) (Y6:keepIn K (.ref YQ)=true) (ajN:nsIn K mainGlobals "least_for_ever"=some (some (.ref ahH))) (ajO:K.lookup ahH=some ⟨asO,apB,.func (fN "least_for_ever" "least_for_ever" TX .none asQ asR asS apC abo asT),aqx⟩) (ajP:codeIn K abo "least_for_ever"=true) (ajQ:keepIn K (.ref ahH)=true) (ajR:nsIn K mainGlobals "fewest_cans"=some (some (.ref ahI))) (ajS:K.lookup ahI=some ⟨asU,apD,.func (fN "fewest_cans" "fewest_cans" rE .none asV asW asY apE U0 asZ),aqy⟩) (ajT:codeIn K U0 "fewest_cans"=true) (ajU:keepIn K (.ref ahI)=true) (ajV:nsIn K mainGlobals "least_gap"=some (some (.ref ahJ))) (ajW:K.lookup ahJ=some ⟨as3,apF,.func (fN "least_gap" "least_gap" jx .none as4 as5 as6 apG U3 as7),aqz⟩) (ajX:codeIn K U3 "least_gap"=true) (ajY:keepIn K (.ref ahJ)=true) (ajZ:nsIn K mainGlobals "common_divisor"=some (some (.ref ahK))) (aj0:K.lookup ahK=some ⟨as8,apH,.func (fN "common_divisor" "common_divisor" T5 .none as9 ata atb apI abp atc),aqA⟩) (aj1:codeIn K abp "common_divisor"=true) (aj2:keepIn K (.ref ahK)=true) (aj3:nsIn K mainGlobals "load"=some (some (.ref ahM))) (aj4:K.lookup ahM=some ⟨atd,apJ,.func (fN "load" "load" yN .none ate atf atg apK abq ath),aqB⟩) (aj5:codeIn K abq "load"=true) (aj6:keepIn K (.ref ahM)=true) (aj7:nsIn K mainGlobals "_law_sorts"=some (some (.ref ahN))) (aj8:K.lookup ahN=some ⟨ati,apL,.func (fN "_law_sorts" "_law_sorts" yr .none atj atk atl apM abr atm),aqC⟩) (aj9:codeIn K abr "_law_sorts"=true) (akb:keepIn K (.ref ahN)=true) (akc:nsIn K mainGlobals "_law_cell_at"=some (some (.ref ahO))) (akd:K.lookup ahO=some ⟨atn,apO,.func (fN "_law_cell_at" "_law_cell_at" Gx .none atp atq atr apP abt atu),aqD⟩) (ake:codeIn K abt "_law_cell_at"=true) (akf:keepIn K (.ref ahO)=true) (akg:nsIn K mainGlobals "_law_draw"=some (some (.ref ahP))) (akh:K.lookup ahP=some ⟨atv,apQ,.func (fN "_law_draw" "_law_draw" Gy .none atw atx aty apR abu atz),aqE⟩) (aki:codeIn K abu "_law_draw"=true) (akj:keepIn K (.ref ahP)=true) (akk:nsIn K mainGlobals "_law_spec"=some (some (.ref ahQ))) (akl:K.lookup ahQ=some ⟨atA,apS,.func (fN "_law_spec" "_law_spec" pP .none atB atD atE apT abv atF),aqF⟩) (akm:codeIn K abv "_law_spec"=true) (akn:keepIn K (.ref ahQ)=true) (ako:nsIn K mainGlobals "_law_garden"=some (some (.ref ahR))) (akp:K.lookup ahR=some ⟨atG,apU,.func (fN "_law_garden" "_law_garden" pQ .none atH atJ atL apV abw atM),aqG⟩) (akq:codeIn K abw "_law_garden"=true) (akr:keepIn K (.ref ahR)=true) (aks:nsIn K mainGlobals "_law_same"=some (some (.ref ahS))) (akt:K.lookup ahS=some ⟨atN,apW,.func (fN "_law_same" "_law_same" Hi .none atO atQ atR apY abx atU),aqH⟩) (aku:codeIn K abx "_law_same"=true) (akv:keepIn K (.ref ahS)=true) (akx:nsIn K mainGlobals "_law_cans_due"=some (some (.ref ahT))) (aky:K.lookup ahT=some ⟨atV,apZ,.func (fN "_law_cans_due" "_law_cans_due" pR .none atX atY atZ ap0 aby at3),aqI⟩) (akz:codeIn K aby "_law_cans_due"=true) (akA:keepIn K (.ref ahT)=true) (akB:nsIn K mainGlobals "_law_gap_due"=some (some (.ref ahU))) (akC:K.lookup ahU=some ⟨at4,ap1,.func (fN "_law_gap_due" "_law_gap_due" uq .none at5 at6 at7 ap2 abz at8),aqJ⟩) (akD:codeIn K abz "_law_gap_due"=true) (akE:keepIn K (.ref ahU)=true) (akF:nsIn K mainGlobals "_law_refused"=some (some (.ref ahV))) (akG:K.lookup ahV=some ⟨at9,ap3,.func (fN "_law_refused" "_law_refused" oA .none aua aub auc ap4 abA aud),aqK⟩) (akH:codeIn K abA "_law_refused"=true) (akI:keepIn K (.ref ahV)=true) (akJ:nsIn K mainGlobals "_law_load"=some (some (.ref ahW))) (akK:K.lookup ahW=some ⟨aue,ap5,.func (fN "_law_load" "_law_load" uZ .none auf auh aui ap6 abB auj),aqL⟩) (akL:codeIn K abB "_law_load"=true) (akM:keepIn K (.ref ahW)=true) (Y7:nsIn K mainGlobals "law"=some (some (.ref ahX))) (akN:K.lookup ahX=some ⟨auk,ap7,.func (fN "law" "law" rG .none U4 U5 U6 Us M7 U7),aqM⟩) (akO:codeIn K M7 "law"=true) (akP:keepIn K (.ref ahX)=true) (lcF:K.lookup cF=some ⟨.type "code",azz,.fields vsF,azJ⟩) (akQ:vsF[11]?=some (.ref PF)) (Vi:vsF.getD 11 .none=.ref PF) (akR:vsF.getD 18 .none=.str flF tfF) (v7F:vsF.getD 7 .none=.int fgF tgF) (v9F:vsF.getD 9 .none=.bool inF) (akS:vsF.getD 10 .none=.int txF ttF) (akT:cF≠PF) (eBF:U0=.ref cF) (lcG:K.lookup cG=some ⟨.type "code",azA,.fields vsG,azK⟩) (akU:vsG[11]?=some (.ref PG)) (Vj:vsG.getD 11 .none=.ref PG) (akV:vsG.getD 18 .none=.str flG tfG) (v7G:vsG.getD 7 .none=.int fgG tgG) (v9G:vsG.getD 9 .none=.bool inG) (akW:vsG.getD 10 .none=.int txG ttG) (akX:cG≠PG) (eBG:U3=.ref cG) (nFG:PG≠PF) (kpc:kitOne K (.ref pot) (.ref bJ)=some false) (kcc:kitOne K (.ref bJ) (.ref bJ)=some true) (gt:specialIn K (.builtin "object.__class__") "__get__"=some (some (.builtin "getset_descriptor.__get__"))) (tk:takesIn K (.builtin "object.__class__")=some true) (Kp:plainGet K pot Str.empty=true) (Kq:hasDictIn K pot=true) (Kr:plainOver K pot=true) (Ks:findIn K (.ref pot) "__setattr__"=some (some (.builtin "object.__setattr__"))) (Ku:findIn K (.ref pot) "__class__"=some (some (.builtin "object.__class__"))) (Kv:mroIn K pot (.type "object")=some true) (pX:kitOne K (.ref pot) (.type "bool")=some false) (rJ:kitOne K (.ref pot) (.type "int")=some false) (rK:kitOne K (.ref pot) (.type "str")=some false) (pY:kitOne K (.ref pot) (.type "list")=some false) (oG:kitOne K (.ref pot) (.type "tuple")=some false) (Kw:makesIn K pot=true) (Ky:keepIn K (.ref pot)=true) (vh:plainGet K bJ Str.empty=true) (vm:hasDictIn K bJ=true) (vo:plainOver K bJ=true) (vq:findIn K (.ref bJ) "__setattr__"=some (some (.builtin "object.__setattr__"))) (vA:findIn K (.ref bJ) "__class__"=some (some (.builtin "object.__class__"))) (vB:mroIn K bJ (.type "object")=some true) (j9:kitOne K (.ref bJ) (.type "bool")=some false) (mj:kitOne K (.ref bJ) (.type "int")=some false) (mq:kitOne K (.ref bJ) (.type "str")=some false) (kh:kitOne K (.ref bJ) (.type "list")=some false) (jL:kitOne K (.ref bJ) (.type "tuple")=some false) (vD:makesIn K bJ=true) (vG:keepIn K (.ref bJ)=true) (vH:plainGet K garden Str.empty=true) (vI:hasDictIn K garden=true) (vJ:plainOver K garden=true) (vK:findIn K (.ref garden) "__setattr__"=some (some (.builtin "object.__setattr__"))) (vL:findIn K (.ref garden) "__class__"=some (some (.builtin "object.__class__"))) (vM:mroIn K garden (.type "object")=some true) (kj:kitOne K (.ref garden) (.type "bool")=some false) (mH:kitOne K (.ref garden) (.type "int")=some false) (mJ:kitOne K (.ref garden) (.type "str")=some false) (kE:kitOne K (.ref garden) (.type "list")=some false) (jM:kitOne K (.ref garden) (.type "tuple")=some false) (vO:makesIn K garden=true) (vP:keepIn K (.ref garden)=true) (pZ:findIn K (.ref pot) "name"=some none) (rM:findIn K (.ref pot) "gap"=some none) (p7:findIn K (.ref pot) "rest"=some none) (kI:findIn K (.ref bJ) "name"=some none) (mQ:findIn K (.ref bJ) "gap"=some none) (kJ:findIn K (.ref bJ) "rest"=some none) (kY:findIn K (.ref garden) "pots"=some none) (kZ:findIn K (.ref garden) "cans"=some none) (lq:findIn K (.ref garden) "week"=some none) (jB:findIn K (.ref garden) "closed"=some none) (rdP:readsIn K pot (.type "type")=true) (gaP:specialIn K (.ref pot) "__getattribute__"=some (some (.builtin "type.__getattribute__"))) (atP:findCls K (.ref pot) (.type "type") "__init__"=some (.val (.ref RK))) (kpp:kitOne K (.ref pot) (.ref pot)=some true) (kcp:kitOne K (.ref bJ) (.ref pot)=some true) (p8:kitOne K (.type "NoneType") (.ref pot)=some false) (Ed:kitOne K (.type "bool") (.ref pot)=some false) (Kz:kitOne K (.type "int") (.ref pot)=some false) (KC:kitOne K (.type "str") (.ref pot)=some false) (Ef:kitOne K (.type "list") (.ref pot)=some false) (yZ:kitOne K (.type "tuple") (.ref pot)=some false) (vQ:excIn K dR RJ "ValueError.__new__"=true) (rN:excIn K tooMany RJ "ValueError.__new__"=true) (rO:excIn K gW RJ "ValueError.__new__"=true) (za:excIn K fJ RJ "ValueError.__new__"=true) (zc:findIn K (.ref fJ) "__getattribute__"=some (some (.builtin "BaseException.__getattribute__"))) (zf:findIn K (.ref fJ) "__getattr__"=some none) (zj:PySem.W.isClsIn K fJ=true) (zm:findIn K (.ref fJ) "__class__"=some (some (.builtin "object.__class__"))) (zp:mroIn K fJ (.type "object")=some true) (zq:subIn K (.ref fJ) (.type "BaseException")=some true) (zu:kitOne K (.ref fJ) (.ref dR)=some false) (zx:kitOne K (.ref fJ) (.ref tooMany)=some false) (zy:kitOne K (.ref fJ) (.ref fJ)=some true) (zA:kitOne K (.ref fJ) (.ref qY)=some false) (zB:kitOne K (.ref fJ) (.ref qX)=some false) (zE:kitOne K (.ref fJ) (.ref gW)=some false) (zF:kitOne K (.ref fJ) (.type "ValueError")=some true) (zG:exmOne K (.ref fJ) (.ref Jp)=some true) : ∃ fd:d7,(∀ (s:aV) (v:aC),BindsTo s fd ⟨[v],[]⟩ [("_law_script",v)])/\(∀ base:Heap,K.In base->∀ PB ∈ [PF,PG],∃ c,CodeHd base c PB)/\∀ base:Heap,K.In base->base.Ns mainGlobals mg->(∀ PB ∈ [PF,PG],base.BuiltinsAt mg PB)->bT l.prog w K mg base (d9 l.prog w) 14 fa fd ["_law_script"] (DX K PF PG):=by
 have e:=hfa.symm.trans (mg_of X G Y7);cases e;have akY:=mg_of X G Ko;have HB:=mg_of X G yS;have Vk:=mg_of X G yU;have Ce:=mg_of X G vf;have Cg:=mg_of X G vg;have M8:=mg_of X G Ec;have Vl:=mg_of X G yV;have aul:=mg_of X G Vh;have Vm:=mg_of X G yW;have Vn:=mg_of X G yX;have FWh:=cC (st:=uN) lWh cWh kWh;have bWh:=FWh.binds (ps:=["value","least","most"]) fun _ _ _ _ _ _=>ul3 fun _ _ _=>rfl
 have mWh:=mg_of X G aWh;have FNm:=cC (st:=qu) lNm cNm kNm;have bNm:=FNm.binds (ps:=["value"]) fun _ _ _ _ _ _=>HN fun _=>rfl
 have mNm:=mg_of X G aNm;have FPI:=cC (st:=pI) lPI cPI kPI;have bPI:=FPI.binds (ps:=["self","name","gap"]) fun _ _ _ _ _ _=>ul3 fun _ _ _=>rfl
 have FPG:=cC (st:=tR) lPG cPG kPG;have bPG:=FPG.binds (ps:=["self","gap"]) fun _ _ _ _ _ _=>zL fun _ _=>rfl
 have FCI:=cC (st:=pJ) lCI cCI kCI;have bCI:=FCI.binds (ps:=["self","name","gap","rest"]) fun _ _ _ _ _ _=>ul4 fun _ _ _ _=>rfl
 have FCG:=cC (st:=tV) lCG cCG kCG;have bCG:=FCG.binds (ps:=["self","gap"]) fun _ _ _ _ _ _=>zL fun _ _=>rfl
 have aum:=cC (st:=R0) aie aif kOwn;have aAG:=aum.binds (ps:=["pots"]) fun _ _ _ _ _ _=>HN fun _=>rfl
 have agI:=mg_of X G aic;have aun:=cC (st:=R3) aij aik ail;have aAH:=aun.binds (ps:=["pots","cans","week","closed"]) fun _ _ _ _ _ _=>ul4 fun _ _ _ _=>rfl
 have agJ:=mg_of X G aii;have auo:=cC (st:=R4) aio aip aiq;have aAI:=auo.binds (ps:=["pots"]) fun _ _ _ _ _ _=>HN fun _=>rfl
 have agK:=mg_of X G ain;have FSz:=cC (st:=Gv) lSz cSz kSz;have bSz:=FSz.binds (ps:=["self"]) fun _ _ _ _ _ _=>HN fun _=>rfl
 have aup:=cC (st:=GC) ais ait aiu;have aAJ:=aup.binds (ps:=["garden","value"]) fun _ _ _ _ _ _=>zL fun _ _=>rfl
 have aAK:=mg_of X G air;have auq:=cC (st:=yt) aiw aix aiy;have aAL:=auq.binds (ps:=["garden","value"]) fun _ _ _ _ _ _=>zL fun _ _=>rfl
 have aAM:=mg_of X G aiv;have aur:=cC (st:=Sy) aiB aiC YS;have aAN:=aur.binds (ps:=["self","state"]) fun _ _ _ _ _ _=>zL fun _ _=>rfl
 have aus:=cC (st:=SJ) aiF aiG YT;have aAO:=aus.binds (ps:=["self","number"]) fun _ _ _ _ _ _=>zL fun _ _=>rfl
 have aut:=cC (st:=JD) aiJ aiK YW;have aAP:=aut.binds (ps:=["self"]) fun _ _ _ _ _ _=>HN fun _=>rfl
 have auu:=cC (st:=Bq) aiM aiN aiO;have aAQ:=auu.binds (ps:=["garden","cans"]) fun _ _ _ _ _ _=>zL fun _ _=>rfl
 have aAR:=mg_of X G aiL;have auv:=cC (st:=Pg) aiQ aiR aiS;have aAS:=auv.binds (ps:=["garden","name"]) fun _ _ _ _ _ _=>zL fun _ _=>rfl
 have aAT:=mg_of X G aiP;have FWG:=cC (st:=Bt) lWG cWG kWG;have bWG:=FWG.binds (ps:=["garden","name","gap"]) fun _ _ _ _ _ _=>ul3 fun _ _ _=>rfl
 have mWG:=mg_of X G aWG;have auw:=cC (st:=yC) aiU aiV aiW;have aAU:=auw.binds (ps:=["number","bit"]) fun _ _ _ _ _ _=>zL fun _ _=>rfl
 have aAV:=mg_of X G aiT;have akZ:=cC (st:=qw) aiY aiZ ai0;have auy:=akZ.binds (ps:=["garden","day"]) fun _ _ _ _ _ _=>zL fun _ _=>rfl
 have auz:=mg_of X G aiX;have auA:=cC (st:=GQ) ai2 ai3 ai4;have aAW:=auA.binds (ps:=["garden","day"]) fun _ _ _ _ _ _=>zL fun _ _=>rfl
 have aAX:=mg_of X G ai1;have auB:=cC (st:=tZ) ai7 ai8 YX;have aAY:=auB.binds (ps:=["self","since"]) fun _ _ _ _ _ _=>zL fun _ _=>rfl
 have auC:=cC (st:=uc) ajb ajc YZ;have aAZ:=auC.binds (ps:=["self","since"]) fun _ _ _ _ _ _=>zL fun _ _=>rfl
 have auD:=cC (st:=O2) aje ajf ajg;have aA0:=auD.binds (ps:=["parts","pot","since"]) fun _ _ _ _ _ _=>ul3 fun _ _ _=>rfl
 have aA1:=mg_of X G ajd;have auE:=cC (st:=O3) aji ajj ajk;have aA2:=auE.binds (ps:=["parts","pot","since","bit"]) fun _ _ _ _ _ _=>ul4 fun _ _ _ _=>rfl
 have aA3:=mg_of X G ajh;have auF:=cC (st:=nj) ajm ajn ajo;have aA4:=auF.binds (ps:=["garden","state"]) fun _ _ _ _ _ _=>zL fun _ _=>rfl
 have aA5:=mg_of X G ajl;have auG:=cC (st:=uR) ajq ajr ajs;have aA6:=auG.binds (ps:=["garden"]) fun _ _ _ _ _ _=>HN fun _=>rfl
 have aA7:=mg_of X G ajp;have auH:=cC (st:=yH) aju ajv ajw;have aA8:=auH.binds (ps:=["garden"]) fun _ _ _ _ _ _=>HN fun _=>rfl
 have aA9:=mg_of X G ajt;have auI:=cC (st:=GZ) ajy ajz ajA;have aBa:=auI.binds (ps:=["garden","state"]) fun _ _ _ _ _ _=>zL fun _ _=>rfl
 have aBb:=mg_of X G ajx;have aBd:Ju K "days_of" "days_of" lR (.ref Tq) YL (fN "days_of" "days_of" lR (.ref Tq) Hw Hx Hy Hu Cd Hz):=⟨⟨abl,aar,Hw,Hx,Hy,Hu,Cd,Hz,aas,rfl,ajC,ajD⟩,ajE⟩;have auJ:Binds K (fN "days_of" "days_of" lR (.ref Tq) Hw Hx Hy Hu Cd Hz) ["garden","state"] []:=fun s us hK hl=>match us,hl with | [_,_],_=>binds_K hK rfl Y4 rfl rfl rfl
 have auK:Binds K (fN "days_of" "days_of" lR (.ref Tq) Hw Hx Hy Hu Cd Hz) ["garden","state"] [.none]:=fun s us hK hl=>(by obtain ⟨x,rfl⟩:=len1 (show us.length=1 by simpa using hl); exact binds_K hK rfl Y4 rfl rfl rfl)
 have aBe:=mg_of X G ajB;have auL:=cC (st:=nF) ajH ajI Y5;have aBf:=auL.binds (ps:=["self"]) fun _ _ _ _ _ _=>HN fun _=>rfl
 have auM:=cC (st:=nH) ajL ajM Y6;have aBg:=auM.binds (ps:=["self"]) fun _ _ _ _ _ _=>HN fun _=>rfl
 have auN:=cC (st:=TX) ajO ajP ajQ;have aBh:=auN.binds (ps:=["least","most","garden_with"]) fun _ _ _ _ _ _=>ul3 fun _ _ _=>rfl
 have aBi:=mg_of X G ajN;have auO:=cC (st:=rE) ajS ajT ajU;have aBj:=auO.binds (ps:=["garden"]) fun _ _ _ _ _ _=>HN fun _=>rfl
 have aBk:=mg_of X G ajR;have auP:=cC (st:=jx) ajW ajX ajY;have aBl:=auP.binds (ps:=["garden","name"]) fun _ _ _ _ _ _=>zL fun _ _=>rfl
 have aBm:=mg_of X G ajV;have auQ:=cC (st:=T5) aj0 aj1 aj2;have aBn:=auQ.binds (ps:=["one","other"]) fun _ _ _ _ _ _=>zL fun _ _=>rfl
 have aBo:=mg_of X G ajZ;have auR:=cC (st:=yN) aj4 aj5 aj6;have aBp:=auR.binds (ps:=["garden"]) fun _ _ _ _ _ _=>HN fun _=>rfl
 have aBq:=mg_of X G aj3;have auS:=cC (st:=yr) aj8 aj9 akb;have aBr:=auS.binds (ps:=["_law_error"]) fun _ _ _ _ _ _=>HN fun _=>rfl
 have aBs:=mg_of X G aj7;have auT:=cC (st:=Gx) akd ake akf;have aBt:=auT.binds (ps:=["_law_script","_law_k"]) fun _ _ _ _ _ _=>zL fun _ _=>rfl
 have aBu:=mg_of X G akc;have auU:=cC (st:=Gy) akh aki akj;have aBv:=auU.binds (ps:=["_law_cell","_law_k","_law_many"]) fun _ _ _ _ _ _=>ul3 fun _ _ _=>rfl
 have aBw:=mg_of X G akg;have auV:=cC (st:=pP) akl akm akn;have aBx:=auV.binds (ps:=["_law_script","_law_first"]) fun _ _ _ _ _ _=>zL fun _ _=>rfl
 have aBy:=mg_of X G akk;have auW:=cC (st:=pQ) akp akq akr;have aBz:=auW.binds (ps:=["_law_spec_here"]) fun _ _ _ _ _ _=>HN fun _=>rfl
 have R8:=mg_of X G ako;have auX:=cC (st:=Hi) akt aku akv;have aBA:=auX.binds (ps:=["_law_garden_here","_law_spec_here"]) fun _ _ _ _ _ _=>zL fun _ _=>rfl
 have aBB:=mg_of X G aks;have auY:=cC (st:=pR) aky akz akA;have aBC:=auY.binds (ps:=["_law_spec_here"]) fun _ _ _ _ _ _=>HN fun _=>rfl
 have aBD:=mg_of X G akx;have auZ:=cC (st:=uq) akC akD akE;have aBE:=auZ.binds (ps:=["_law_spec_here","_law_k"]) fun _ _ _ _ _ _=>zL fun _ _=>rfl
 have aBF:=mg_of X G akB;have au0:=cC (st:=oA) akG akH akI;have aBG:=au0.binds (ps:=["_law_garden_here","_law_name"]) fun _ _ _ _ _ _=>zL fun _ _=>rfl
 have aBH:=mg_of X G akF;have au1:=cC (st:=uZ) akK akL akM;have aBI:=au1.binds (ps:=["_law_spec_here"]) fun _ _ _ _ _ _=>HN fun _=>rfl
 have aBJ:=mg_of X G akJ;have au2:=cC (st:=rG) akN akO akP;have aFh:=au2.binds (ps:=["_law_script"]) fun _ _ _ _ _ _=>HN fun _=>rfl
 have aFi:=mg_of X G Y7;have au3:Fx K pot:=⟨⟨Kp,Kq,Kr,Ks⟩,Ku,gt,tk,Kv,fun b=>(by cases b; exact pX; exact rJ; exact rK; exact pY; exact oG)⟩;have Vo:Fx K bJ:=⟨⟨vh,vm,vo,vq⟩,vA,gt,tk,vB,fun b=>(by cases b; exact j9; exact mj; exact mq; exact kh; exact jL)⟩;have Vp:Fx K garden:=⟨⟨vH,vI,vJ,vK⟩,vL,gt,tk,vM,fun b=>(by cases b; exact kj; exact mH; exact mJ; exact kE; exact jM)⟩;have au4:∀ f ∈ (["name","gap","rest"]:List Str),jy K pot f:=fun f hf=>(by simp only [aQ,mem_nil_iff,or_false] at hf; rcases hf with rfl | rfl | rfl; exact pZ; exact rM; exact p7)
 have Vq:∀ f ∈ (["name","gap","rest"]:List Str),jy K bJ f:=fun f hf=>(by simp only [aQ,mem_nil_iff,or_false] at hf; rcases hf with rfl | rfl | rfl; exact kI; exact mQ; exact kJ)
 have Vr:∀ f ∈ (["pots","cans","week","closed"]:List Str),jy K garden f:=fun f hf=>(by simp only [aQ,mem_nil_iff,or_false] at hf; rcases hf with rfl | rfl | rfl | rfl; exact kY; exact kZ; exact lq; exact jB)
 obtain ⟨a,ea⟩:∃ a:fP,a=⟨pot,bJ,garden,dR,tooMany,gW,fJ,Jp,qX,qY,fWh,fNm,RK,Xq,Xr,Xu,Gp,Gq,Gs,Vw,fSz,YH,fWG,RM,fa,YF,YG,Dm,Dn,Ow,(fN "is_whole" "is_whole" uN .none aqN aqO aqP aoP ahY aqQ),(fN "is_name" "is_name" qu .none aqR aqS aqT aoQ ahZ aqU),(fN "__init__" "Pot.__init__" pI .none aqV aqW aqX aoR ah0 aqY),(fN "with_gap" "Pot.with_gap" tR .none aqZ aq0 aq1 aoS ah1 aq2),(fN "__init__" "Cactus.__init__" pJ .none aq3 aq4 aq5 aoT ah2 aq6),(fN "with_gap" "Cactus.with_gap" tV .none aq7 aq8 aq9 aoU ah3 ara),(fN "own_pots" "own_pots" R0 .none aat aau aav aah Ut aaw),(fN "refuse_bad_counts" "refuse_bad_counts" R3 .none aax aay aaz aai Uv aaA),(fN "refuse_name_twice" "refuse_name_twice" R4 .none aaB aaC aaD aaj Uw aaE),(fN "__init__" "Garden.__init__" XF (.ref Td) Kc Ke Kf Ka Hv Kg),(fN "size" "Garden.size" Gv .none ari arj ark aoZ ah4 arl),(fN "with_cans" "with_cans" Bq .none aaZ aa0 aa1 aap UL aa2),(fN "with_gap" "with_gap" Bt .none arw arx arz ao7 ah5 arA),(fN "place_of" "place_of" Pg .none aa3 aa4 aa5 aaq UW aa6),(fN "law" "law" rG .none U4 U5 U6 Us M7 U7),(fN "is_state" "is_state" GC .none aaF aaG aaH aak Ux aaI),(fN "refuse_no_state" "refuse_no_state" yt .none aaJ aaK aaL aal Uy aaM),(fN "number" "Garden.number" Sy .none aaN aaO aaP aam Uz aaQ),(fN "state" "Garden.state" SJ .none aaR aaS aaT aan UG aaU),(fN "fresh" "Garden.fresh" JD .none aaV aaW aaX aao UJ aaY)⟩:=⟨_,rfl⟩;have B:Blt mg:=⟨mg_none_of X G jP,mg_none_of X G Kh,mg_none_of X G U8,mg_none_of X G U9,mg_none_of X G Kl,mg_none_of X G DY,mg_none_of X G Va,mg_none_of X G Vb,mg_none_of X G Vc,mg_none_of X G Vd,mg_none_of X G rH,mg_none_of X G Ea⟩;have T:jY K mg a:=by subst ea; exact ⟨B,⟨_,mg_of X G ah6⟩,⟨_,mg_of X G ah7⟩,⟨HB,vQ⟩,⟨FWh,bWh⟩,mWh,⟨FNm,bNm⟩,mNm,aul,Vm,au3,Vo,au4,Vq,⟨FPI,bPI⟩,⟨FPG,bPG⟩,⟨FCI,bCI⟩,⟨FCG,bCG⟩,⟨Kw,aPI,iPI,Ky⟩,⟨vD,aCI,iCI,vG⟩,⟨aPG,iPG,kPG⟩,⟨aCG,iCG,kCG⟩,⟨rdP,gaP,atP,kPI⟩,ne⟩
 have kb:∀ k:Kd,(∀ C,k≠.ins C)->kitOne K k.ty (.ref pot)=some false:=fun k hk=>(by cases k; exact p8; exact Ed; exact Kz; exact KC; exact Ef; exact yZ; exact absurd rfl (hk _))
 have U:Js K mg a:=by subst ea; exact ⟨T,kpp,kcp,kb,⟨aum,aAG⟩,agI,⟨aun,aAH⟩,agJ,⟨auo,aAI⟩,agK,⟨Ce,rN⟩,⟨_,mg_of X G ah8⟩,⟨_,mg_of X G ah9⟩,⟨_,mg_of X G aia⟩,⟨_,mg_of X G aib⟩⟩
 have FGI:Ju K "__init__" "Garden.__init__" XF (.ref Td) Vw (fN "__init__" "Garden.__init__" XF (.ref Td) Kc Ke Kf Ka Hv Kg):=⟨⟨arh,aoY,Kc,Ke,Kf,Ka,Hv,Kg,aqb,rfl,lGI,cGI⟩,kGI⟩;have b4:Binds K (fN "__init__" "Garden.__init__" XF (.ref Td) Kc Ke Kf Ka Hv Kg) ["self","pots","cans","week","closed"] []:=fun s us hK hl=>match us,hl with | [_,_,_,_,_],_=>binds_K hK rfl lT rfl rfl rfl
 have b1:Binds K (fN "__init__" "Garden.__init__" XF (.ref Td) Kc Ke Kf Ka Hv Kg) ["self","pots","cans","week","closed"] [.int 1 u1,.int 1 u2,.int 0 u3]:=fun s us hK hl=>(by obtain ⟨x,y,rfl⟩:=len2 (show us.length=2 by simpa using hl); exact binds_K hK rfl lT rfl rfl rfl)
 have b2:Binds K (fN "__init__" "Garden.__init__" XF (.ref Td) Kc Ke Kf Ka Hv Kg) ["self","pots","cans","week","closed"] [.int 1 u2,.int 0 u3]:=fun s us hK hl=>(by obtain ⟨x,y,z,rfl⟩:=azj (show us.length=3 by simpa using hl); exact binds_K hK rfl lT rfl rfl rfl)
 have Z:zX K mg a (.ref Td):=by subst ea; exact ⟨U,Vp,Vn,Vr,FGI,b4,⟨_,_,_,b1⟩,⟨_,_,b2⟩,⟨vO,aGI,iGI,vP⟩,⟨FSz,bSz⟩,⟨aSz,iSz,kSz⟩⟩
 have S:JB K mg a (.ref Td):=by subst ea; exact ⟨Z,⟨aup,aAJ⟩,aAK,⟨auq,aAL⟩,aAM,⟨aur,aAN⟩,⟨aiz,aiA,YS⟩,⟨aus,aAO⟩,⟨aiD,aiE,YT⟩,⟨Cg,rO⟩⟩
 have N:Jz mg a:=by subst ea; exact ⟨mg_none_of X G jP,mg_none_of X G oE,HB,Ce,M8,Vl,Vk,Cg,akY⟩
 have Y8:XC K a fJ 2:=by subst ea; exact ⟨⟨zc,zf,zj,zm,gt,tk,zp,zq⟩,zu,zx,zy,zA,zB,zE,zF,zG⟩
 have W:yD K mg a (.ref Td):=by subst ea; exact ⟨S,⟨_,_,⟨auw,aAU⟩,aAV⟩,⟨_,_,⟨akZ,auy⟩,auz⟩,⟨_,_,⟨auA,aAW⟩,aAX⟩,⟨_,_,⟨auB,aAY⟩,⟨ai5,ai6,YX⟩⟩,⟨_,_,⟨auC,aAZ⟩,⟨ai9,aja,YZ⟩⟩,⟨_,_,⟨auD,aA0⟩,aA1⟩,⟨_,_,⟨auE,aA2⟩,aA3⟩,⟨_,_,⟨auF,aA4⟩,aA5⟩⟩
 have D:T8 K mg:=⟨B,⟨_,_,⟨auT,aBt⟩,aBu⟩,⟨_,_,⟨auU,aBv⟩,aBw⟩⟩;have L:aha K mg a (.ref Td):=⟨W,mg_none_of X G pW,mg_none_of X G Km,⟨_,_,⟨auG,aA6⟩,aA7⟩,⟨_,_,⟨auH,aA8⟩,aA9⟩⟩;have Ee:Tt K mg a (.ref Td):=by subst ea; exact ⟨L,⟨_,_,⟨aut,aAP⟩,⟨aiH,aiI,YW⟩⟩,⟨_,_,⟨auI,aBa⟩,aBb⟩,⟨_,_,_,aBd,auJ,auK,aBe⟩⟩
 have Nn:ahe K mg a:=by subst ea; exact ⟨⟨_,_,⟨auv,aAS⟩,aAT⟩,⟨M8,za⟩⟩
 have Kk:Yo K mg a:=by subst ea; exact ⟨T,⟨_,_,⟨auL,aBf⟩,⟨ajF,ajG,Y5⟩⟩,⟨_,_,⟨auM,aBg⟩,⟨ajJ,ajK,Y6⟩⟩⟩
 have Ff:Yq K mg a (.ref Td) cF cG:=⟨Ee,Nn,Kk,⟨_,_,⟨auu,aAQ⟩,aAR⟩,⟨_,_,⟨FWG,bWG⟩,mWG⟩,⟨_,_,⟨auN,aBh⟩,aBi⟩,⟨_,_,⟨auO,aBj⟩,aBk,eBF⟩,⟨_,_,⟨auP,aBl⟩,aBm,eBG⟩⟩;have Ii:ahp K mg a (.ref Td):=by subst ea; exact ⟨Z,kpc,kcc⟩
 have Oo:YD K mg a (.ref Td):=⟨Ee,mg_none_of X G Ve,⟨_,_,⟨auW,aBz⟩,R8⟩⟩;have Xx:ahs K mg a:=by subst ea; exact ⟨N,Y8,⟨_,_,⟨auS,aBr⟩,aBs⟩⟩
 have Uu:ahk K mg a (.ref Td):=⟨W,mg_none_of X G Vf,⟨_,_,⟨akZ,auy⟩,auz⟩,⟨_,_,⟨auQ,aBn⟩,aBo⟩⟩;have R:Pn K mg a (.ref Td) cF cG:=⟨Ff,Ii,Oo,Xx,Uu,D,mg_none_of X G Vg,⟨_,_,⟨auV,aBx⟩,aBy⟩,⟨_,_,⟨auX,aBA⟩,aBB⟩,⟨_,_,⟨auY,aBC⟩,aBD⟩,⟨_,_,⟨auZ,aBE⟩,aBF⟩,⟨_,_,⟨au0,aBG⟩,aBH⟩,⟨_,_,⟨au1,aBI⟩,aBJ⟩,⟨_,_,⟨auR,aBp⟩,aBq⟩⟩;have HF:∀ base:Heap,K.In base->CodeHd base cF PF:=fun base Kb=>⟨_,vsF,flF,tfF,fgF,tgF,inF,txF,ttF,Kb cF _ lcF,rfl,rfl,akQ,Vi,akR,v7F,v9F,akS,akT⟩
 have HG:∀ base:Heap,K.In base->CodeHd base cG PG:=fun base Kb=>⟨_,vsG,flG,tfG,fgG,tgG,inG,txG,ttG,Kb cG _ lcG,rfl,rfl,akU,Vj,akV,v7G,v9G,akW,akX⟩
 have HC:∀ base:Heap,K.In base->∀ PB ∈ [PF,PG],∃ c,CodeHd base c PB:=fun base Kb PB z=>(by rcases aQ.mp z with rfl | z2; exact ⟨_,HF base Kb⟩; rw [aL.mp z2]; exact ⟨_,HG base Kb⟩)
 exact ⟨(fN "law" "law" rG .none U4 U5 U6 Us M7 U7),fun s v=>.of_eq rfl,HC,fun base Kb _ hbm=>ahx au2 R nFG (HF base Kb) (hbm PF (by simp)) (HG base Kb) (hbm PG (by simp))⟩
theorem walk {l:PySem.W.OpenLaw} {q:bZ} {loose:List Str} {XP:(Str->Option aC)->Heap->Prop} {YP:World->Heap->Prop} {d:DefRec} {K:Params->Fg} {PF PG:aB} (hn:l.most=some 63) (hdf:d.params.defaults=[]) (hY:∀ (w:World) (h:Heap),YP w h->(K w.params).In h/\∀ PB ∈ [PF,PG],h.get? PB=some (tabObj #[])) (nP:∀ p,∀ PB ∈ [PF,PG],(K p).lookup PB=none) (F:∀ (w:World) (mg:Str->Option aC) (fa:aB) (h:Heap),(K w.params).In h->h.Ns mainGlobals mg->mg d.name=some (.ref fa) -> ∃ fd:d7,(∀ (s:aV) (u:aC),BindsTo s fd ⟨[u],[]⟩ [("_law_script",u)])/\(∀ base:Heap,(K w.params).In base->∀ PB ∈ [PF,PG],∃ c,CodeHd base c PB)/\∀ base:Heap,(K w.params).In base->base.Ns mainGlobals mg->(∀ PB ∈ [PF,PG],base.BuiltinsAt mg PB)->bT l.prog w (K w.params) mg base (d9 l.prog w) 14 fa fd ["_law_script"] (DX (K w.params) PF PG)) : PySem.W.WalkO q loose XP YP l.row.toRowW d [] (fun f vs=>PySem.call f vs) := L2.RB (n:=63) (k:=14) (x:="_law_script") (CX:=fun w=>d9 l.prog w) (sp:=fun w=>DX (K w.params) PF PG) hn (by decide) hdf ⟨rfl,by decide,by decide⟩ hY nP F (fun _ _ a ns hl hP hS=>⟨a,ns,rfl,hS,⟨#[],hP _ (by simp),trivial,.inl rfl⟩,⟨#[],hP _ (by simp),trivial,.inl rfl⟩,fun _=>rfl⟩) fun _ _ _ _ _ z=>by
 obtain ⟨_,_,_,_,_,_,_,_,_,_,_,_,_,_,_,z⟩:=z;exact z
end Tw
open PySem PySem.W PyProof.Rows
set_option maxRecDepth 100000 in
set_option maxHeartbeats 0 in
theorem PySem.Challenge.cw_thirstwise_k05_whole_wants_holds : PySem.Challenge.rw_thirstwise_k05_whole_wants.Holds := by
 w_on; o_law
 refine PySem.W.holds_open (q:=Tw.view) (loose:=Tw.LO) (Xt:=fun s=>xlAt Tw.view [] s && recOk (RowW.records (OpenRow.toRowW (OpenLaw.row PySem.Challenge.rw_thirstwise_k05_whole_wants))) s) (XP:=XL Tw.view []) (Yf:=Hook.obs (PySem.W.kHook Tw.KF Tw.addrs (fun _=>by kernel_rfl))) (Ya:=Hook.val (PySem.W.kHook Tw.KF Tw.addrs (fun _=>by kernel_rfl))) (YP:=Hook.says (PySem.W.kHook Tw.KF Tw.addrs (fun _=>by kernel_rfl))) (N:=7822) Tw.hl (Hook.of (PySem.W.kHook Tw.KF Tw.addrs (fun _=>by kernel_rfl))) (Hook.keeps (PySem.W.kHook Tw.KF Tw.addrs (fun _=>by kernel_rfl))) (fun s e=>xl_of s (Bool.and_eq_true_iff.mp e).1) XL.keeps (by rfl) (by rfl) (by rfl) (fun s e=>recFacts_of (Bool.and_eq_true_iff.mp e).2) (by rfl) (by first | assumption | decide +kernel) (by decide +kernel) ⟨rfl,rfl,rfl,rfl,rfl,by decide +kernel⟩ ?hw ?hc
 case hw=>w_witness2
 refine Tw.walk (l:=PySem.Challenge.rw_thirstwise_k05_whole_wants) (PF:=Tw.aPF) (PG:=Tw.aPG) (K:=Tw.KK) rfl rfl (fun w h Y=>L2.agD (by decide) (by kernel_rfl) (by kernel_rfl) (PySem.W.kIn_of Y)) (fun _=>L2.agE (by kernel_rfl) (by kernel_rfl)) ?F
 case F =>
  intro w mg fa h KX G hmg
  k_fill
  refine' Tw.all_mk (PF:=Tw.aPF) (cF:=Tw.aCF) (PG:=Tw.aPG) (cG:=Tw.aCG) KX G hmg ?jP ?Kh ?U8 ?U9 ?Kl ?DY ?Va ?Vb ?Vc ?Vd ?rH ?Ea ?oE ?pW ?Km ?Ve ?Vf ?Vg ?ah6 ?ah7 ?ah8 ?ah9 ?aia ?aib ?Ko ?yS ?yU ?vf ?vg ?Ec ?yV ?Vh ?yW ?yX ?ne ?aWh ?lWh ?cWh ?kWh ?aNm ?lNm ?cNm ?kNm ?aPI ?iPI ?lPI ?cPI ?kPI ?aPG ?iPG ?lPG ?cPG ?kPG ?aCI ?iCI ?lCI ?cCI ?kCI ?aCG ?iCG ?lCG ?cCG ?kCG ?aic ?aie ?aif ?kOwn ?aii ?aij ?aik ?ail ?ain ?aio ?aip ?aiq ?aGI ?iGI ?lGI ?cGI ?kGI ?lT ?aSz ?iSz ?lSz ?cSz ?kSz ?air ?ais ?ait ?aiu ?aiv ?aiw ?aix ?aiy ?aiz ?aiA ?aiB ?aiC ?YS ?aiD ?aiE ?aiF ?aiG ?YT ?aiH ?aiI ?aiJ ?aiK ?YW ?aiL ?aiM ?aiN ?aiO ?aiP ?aiQ ?aiR ?aiS ?aWG ?lWG ?cWG ?kWG ?aiT ?aiU ?aiV ?aiW ?aiX ?aiY ?aiZ ?ai0 ?ai1 ?ai2 ?ai3 ?ai4 ?ai5 ?ai6 ?ai7 ?ai8 ?YX ?ai9 ?aja ?ajb ?ajc ?YZ ?ajd ?aje ?ajf ?ajg ?ajh ?aji ?ajj ?ajk ?ajl ?ajm ?ajn ?ajo ?ajp ?ajq ?ajr ?ajs ?ajt ?aju ?ajv ?ajw ?ajx ?ajy ?ajz ?ajA ?ajB ?ajC ?ajD ?ajE ?Y4 ?ajF ?ajG ?ajH ?ajI ?Y5 ?ajJ ?ajK ?ajL ?ajM ?Y6 ?ajN ?ajO ?ajP ?ajQ ?ajR ?ajS ?ajT ?ajU ?ajV ?ajW ?ajX ?ajY ?ajZ ?aj0 ?aj1 ?aj2 ?aj3 ?aj4 ?aj5 ?aj6 ?aj7 ?aj8 ?aj9 ?akb ?akc ?akd ?ake ?akf ?akg ?akh ?aki ?akj ?akk ?akl ?akm ?akn ?ako ?akp ?akq ?akr ?aks ?akt ?aku ?akv ?akx ?aky ?akz ?akA ?akB ?akC ?akD ?akE ?akF ?akG ?akH ?akI ?akJ ?akK ?akL ?akM ?Y7 ?akN ?akO ?akP ?lcF ?akQ ?Vi ?akR ?v7F ?v9F ?akS ?akT ?eBF ?lcG ?akU ?Vj ?akV ?v7G ?v9G ?akW ?akX ?eBG ?nFG ?kpc ?kcc ?gt ?tk ?Kp ?Kq ?Kr ?Ks ?Ku ?Kv ?pX ?rJ ?rK ?pY ?oG ?Kw ?Ky ?vh ?vm ?vo ?vq ?vA ?vB ?j9 ?mj ?mq ?kh ?jL ?vD ?vG ?vH ?vI ?vJ ?vK ?vL ?vM ?kj ?mH ?mJ ?kE ?jM ?vO ?vP ?pZ ?rM ?p7 ?kI ?mQ ?kJ ?kY ?kZ ?lq ?jB ?rdP ?gaP ?atP ?kpp ?kcp ?p8 ?Ed ?Kz ?KC ?Ef ?yZ ?vQ ?rN ?rO ?za ?zc ?zf ?zj ?zm ?zp ?zq ?zu ?zx ?zy ?zA ?zB ?zE ?zF ?zG
  case jP | Kh | U8 | U9 | Kl | DY | Va | Vb | Vc | Vd | rH | Ea | oE | pW | Km | Ve | Vf | Vg | ah6 | ah7 | ah8 | ah9 | aia | aib | Ko | yS | yU | vf | vg | Ec | yV | Vh | yW | yX=>k_is
  case ne=>decide
  case aWh | lWh | cWh | kWh | aNm | lNm | cNm | kNm | aPI | iPI | lPI | cPI | kPI | aPG | iPG | lPG | cPG | kPG | aCI | iCI | lCI | cCI | kCI | aCG | iCG | lCG | cCG | kCG | aic | aie | aif | kOwn | aii | aij | aik | ail | ain | aio | aip | aiq=>k_is
  case aGI | iGI | lGI | cGI | kGI | lT | aSz | iSz | lSz | cSz | kSz | air | ais | ait | aiu | aiv | aiw | aix | aiy | aiz | aiA | aiB | aiC | YS | aiD | aiE | aiF | aiG | YT | aiH | aiI | aiJ | aiK | YW | aiL | aiM | aiN | aiO | aiP | aiQ=>k_is
  case aiR | aiS | aWG | lWG | cWG | kWG | aiT | aiU | aiV | aiW | aiX | aiY | aiZ | ai0 | ai1 | ai2 | ai3 | ai4 | ai5 | ai6 | ai7 | ai8 | YX | ai9 | aja | ajb | ajc | YZ | ajd | aje | ajf | ajg | ajh | aji | ajj | ajk | ajl | ajm | ajn | ajo=>k_is
  case ajp | ajq | ajr | ajs | ajt | aju | ajv | ajw | ajx | ajy | ajz | ajA | ajB | ajC | ajD | ajE | Y4 | ajF | ajG | ajH | ajI | Y5 | ajJ | ajK | ajL | ajM | Y6 | ajN | ajO | ajP | ajQ | ajR | ajS | ajT | ajU | ajV | ajW | ajX | ajY | ajZ=>k_is
  case aj0 | aj1 | aj2 | aj3 | aj4 | aj5 | aj6 | aj7 | aj8 | aj9 | akb | akc | akd | ake | akf | akg | akh | aki | akj | akk | akl | akm | akn | ako | akp | akq | akr | aks | akt | aku | akv | akx | aky | akz | akA | akB | akC | akD | akE | akF=>k_is
  case akG | akH | akI | akJ | akK | akL | akM | Y7 | akN | akO | akP | lcF=>k_is
  case akQ | Vi | akR | v7F | v9F | akS=>rfl
  case akT=>decide
  case eBF=>rfl
  case lcG=>k_is
  case akU | Vj | akV | v7G | v9G | akW=>rfl
  case akX=>decide
  case eBG=>rfl
  case nFG=>decide
  case kpc | kcc=>kit_is
  case gt | tk | Kp | Kq | Kr | Ks | Ku | Kv=>k_is
  case pX | rJ | rK | pY | oG=>kit_is
  case Kw | Ky | vh | vm | vo | vq | vA | vB=>k_is
  case j9 | mj | mq | kh | jL=>kit_is
  case vD | vG | vH | vI | vJ | vK | vL | vM=>k_is
  case kj | mH | mJ | kE | jM=>kit_is
  case vO | vP | pZ | rM | p7 | kI | mQ | kJ | kY | kZ | lq | jB | rdP | gaP | atP=>k_is
  case kpp | kcp | p8 | Ed | Kz | KC | Ef | yZ=>kit_is
  case vQ | rN | rO | za=>k_exc
  case zc | zf | zj | zm | zp | zq=>k_is
  case zu | zx | zy | zA | zB | zE | zF=>kit_is
  case zG=>kts_exm
