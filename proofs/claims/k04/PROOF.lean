import PyProof.Rows.All
import Wide.All
import Wide.FinOn
import OpenK.KLine
import KE.KIsAll
import KE.RegKIsAll
import KE.RegKTryMore
import OpenK.KOwn
import KE.KRevIter
import KE.KRevSl
import KE.KItem
import KE.KxBytes
import Lean
import PyProof.EqAt
import PyProof.EqKinds
import PyProof.TupleCall
import PyProof.DictRoadsH
import PyProof.DictKinds
import PyProof.AttrMiss
import PyProof.IsiH_list
import PyProof.ListNew
import PyProof.FactsAll.dict
import KE.KLam
import KE.KMinKey
import PyProof.Rows.TupTab
import PySem.Challenge.RW_thirstwise_k04_whole_rounds
set_option compiler.extract_closed false
set_option genSizeOf false
set_option bootstrap.genMatcherCode false
noncomputable section
set_option Elab.async false
set_option linter.all false
set_option maxRecDepth 1000000
set_option maxHeartbeats 0
theorem zau0a (h:True:=by rfl):True:=trivial
abbrev zau0:=zau0a._auto_1
theorem zau1a (h:True:=by decide):True:=trivial
abbrev zau1:=zau1a._auto_1
theorem zau2a (h:True:=by first | exact .inl rfl | exact .inr rfl | assumption):True:=trivial
abbrev zau2:=zau2a._auto_1
theorem zau3a (h:True:=by intro _; rfl):True:=trivial
abbrev zau3:=zau3a._auto_1
theorem zau4a (h:True:=by with_unfolding_all rfl):True:=trivial
abbrev zau4:=zau4a._auto_1
open PySem.W (CodeHd InstAt KitX Looks binds_K callWith_K cellsFrom_some clsIn codeIn codeRec_of emptyDict envX excIn exmOne findCls findIn findObj fnOf handedIn hasDictIn instObj isFn keepIn kia_one kitOne kitx_dict kitx_list kla_fn kla_obj lookIn looks_findIn makesIn methodCall_KW methodObj mg_none_of mg_of mroIn nsIn nsOkIn plainGet plainGet_of plainOver readsIn specialIn subIn tabObj tailIn takerIn takesIn)
open List (Nodup Pairwise all_append all_cons all_eq_true all_map any_cons append_assoc append_nil countP_cons count_append count_cons ext_getElem? filterMap_cons filter_append flatMap_append flatMap_cons flatten_cons foldl_append foldl_cons getD length_append length_cons length_filter_le length_map length_range length_replicate length_set length_take length_zip map_append map_congr_left map_cons map_drop map_map map_set map_take mem_append mem_append_left mem_append_right mem_cons mem_cons_of_mem mem_cons_self mem_filter mem_filterMap mem_flatMap mem_map mem_nil_iff mem_of_getElem? mem_range mem_singleton nil_append nodup_append nodup_cons nodup_nil not_mem_nil of_mem_zip range_succ range_succ_eq_map replicate_succ size_toArray take_append_drop take_length)
open PyProof.Rows (bitAnd_pp boot_all boot_dict boot_int boot_isinstance boot_set callWith_type1)
abbrev aj := @PySem.wpAny_bind
abbrev au := @PySem.wpAny_pure
abbrev eU := @PySem.wpAny_mono
abbrev aq := @PySem.Heap.get?_push_of_some
abbrev aN := @PySem.Heap.get?_push_size
abbrev aF := @List.getElem?_eq_some_iff
abbrev aG := @List.getElem?_eq_getElem
abbrev aJ := @List.getElem?_map
abbrev ak := @List.length_map
abbrev aQ := @List.length_append
abbrev bw := @List.length_range
abbrev aC := @List.mem_singleton
abbrev bx := @List.mem_map
abbrev cM := @List.mem_append
abbrev bY := @List.range_succ
abbrev cG := @List.filter_append
abbrev aP := @List.mem_of_getElem?
abbrev cJ := @List.getElem?_of_mem
abbrev cQ := @Int.toNat_natCast
abbrev aM := @decide_eq_true
abbrev aL := @decide_eq_false
abbrev aO := @Nat.le_refl
abbrev cR := @Nat.lt_irrefl
abbrev bJ := @Nat.le_trans
abbrev dU := @Int.le_refl
abbrev bQ := @Option.some.inj
abbrev bh := @Option.map_eq_some_iff
abbrev dG := @Nat.zero_le
abbrev aZ := @List.map_append
abbrev eY := @List.map_map
abbrev cY := @List.map_cons
abbrev bU := @List.take_length
abbrev aR := @List.mem_cons
abbrev bA := @Nat.lt_of_lt_of_le
abbrev cA := @List.append_nil
abbrev aB := PySem.Value
abbrev aA := PySem.Addr
abbrev aX := PySem.Shared
abbrev cC := PySem.Program
abbrev fQ := PySem.FuncData
abbrev d7 := PySem.Around
abbrev dW := PySem.Stmt
abbrev Fg := PySem.W.Frag
namespace L2
open PySem
def inClass (s:dW) (j:Nat):dW:=match s with
 | .ClassDef _ _ _ body _ _ _ _ _ _ _=>body.getD j (.Pass ⟨0,0,0,0⟩)
 | _=>.Pass ⟨0,0,0,0⟩
def nO (s:dW):Arguments:=match s with
 | .FunctionDef _ a _ _ _ _ _ _ _ _=>a
 | _=>{ posonlyargs:=[],args:=[],vararg:=none,kwonlyargs:=[],kw_defaults:=[],kwarg:=none,defaults:=[] }
def gq (s:dW):List dW:=match s with
 | .FunctionDef _ _ b _ _ _ _ _ _ _=>b
 | _=>[]
def aW (s:dW):Scope:=match s with
 | .FunctionDef _ _ _ _ _ _ sc _ _ _=>sc
 | _=>{ kind:=.function,names:=[],isGenerator:=false,isCoroutine:=false }
end L2
namespace Tw
open PySem PySem.W L2
abbrev PW:cC:=PySem.Challenge.pw_thirstwise_k04_whole_rounds
def top (i:Nat):dW:=PySem.Challenge.pw_thirstwise_k04_whole_rounds.main.body.getD i (.Pass ⟨0,0,0,0⟩)
noncomputable section
noncomputable abbrev SS (s:String):Str:=Str.ofString s
noncomputable abbrev VS (s:String) (n:Nat):aB:=Value.str (Str.ofString s) n
noncomputable abbrev cP (n:Nat):aB:=Value.str (Str.ofString "/claim/cut.py") n
abbrev KH (P:Params) (s:Str):=PyData.keyHash P s
noncomputable abbrev dE (P:Params) (s:String) (n:Nat) (v:aB):DictEntry:={ hash:=PyData.keyHash P (Str.ofString s),key:=Value.str (Str.ofString s) n,val:=v }
noncomputable abbrev tU (a:Array aB):Obj:={ cls:=.type "tuple",data:=.seq a }
noncomputable abbrev cO (a:Array aB):Obj:={ cls:=.type "code",data:=.fields a }
noncomputable abbrev fR (a:Array (Option aB)):Obj:={ cls:=.type "frame",slots:=a }
noncomputable abbrev dO (a:Array DictEntry) (n:Nat):Obj:={ cls:=.type "dict",data:=.dict a n }
noncomputable abbrev fO (n q:String) (s:dW) (dv m:aB) (c:Nat):Obj:={ cls:=.type "function",data:=.func { name:=Str.ofString n,qualname:=Str.ofString q,params:=nO s,body:=FuncBody.stmts (gq s),scope:=aW s,globals:=3,closure:=[],defaults:=dv,kwdefaults:=.none,pyModule:=m,code:=.ref c } }
noncomputable abbrev fB (n q:String) (s:dW):Obj:={ cls:=.none,data:=.func { name:=SS n,qualname:=SS q,params:=nO s,body:=FuncBody.stmts (gq s),scope:=aW s,globals:=0,closure:=[],defaults:=.none,kwdefaults:=.none } }
noncomputable abbrev tB (a:Array aB):Obj:={ cls:=.none,data:=.fields a }
noncomputable abbrev i0 (n:Int):aB:=.int n 0
abbrev lF (o:Obj):BT:=.node o .nil .nil
abbrev nD (o:Obj) (l r:BT):BT:=.node o l r
noncomputable abbrev ayp (P:Params):Obj:=dO #[dE P "__name__" 165 (VS "thirstwise.pots" 347),dE P "__doc__" 166 .none,dE P "__package__" 167 .none,dE P "__loader__" 168 (.builtin "__main__.__loader__#opaque"),dE P "__spec__" 169 .none,dE P "__annotations__" 170 (.ref 6),dE P "__builtins__" 171 (.ref 4),dE P "__file__" 173 (cP 172),dE P "__cached__" 174 .none,dE P "_wall" 193 (.ref 21),dE P "is_whole" 204 (.ref 28),dE P "is_set" 212 (.ref 35),dE P "GardenError" 232 (.ref 45),dE P "BadPot" 248 (.ref 58),dE P "BadRow" 273 (.ref 77),dE P "TooMany" 289 (.ref 89),dE P "NoState" 305 (.ref 101),dE P "NoPot" 321 (.ref 113),dE P "BadDay" 346 (.ref 132),dE P "LONGEST_NAME" 350 (.int 12 349),dE P "MOST_GAP" 352 (.int 60 351),dE P "is_name" 358 (.ref 139),dE P "Pot" 419 (.ref 184)] 23
noncomputable abbrev adl (P:Params):Obj:=dO #[dE P "__name__" 165 (VS "law_thirstwise_k04_whole_rounds" 750),dE P "__doc__" 166 .none,dE P "__package__" 167 .none,dE P "__loader__" 168 (.builtin "__main__.__loader__#opaque"),dE P "__spec__" 169 .none,dE P "__annotations__" 170 (.ref 6),dE P "__builtins__" 171 (.ref 4),dE P "__file__" 173 (cP 172),dE P "__cached__" 174 .none,dE P "_wall" 193 (.ref 21),dE P "is_whole" 204 (.ref 28),dE P "is_set" 212 (.ref 35),dE P "GardenError" 232 (.ref 45),dE P "BadPot" 248 (.ref 58),dE P "BadRow" 273 (.ref 77),dE P "TooMany" 289 (.ref 89),dE P "NoState" 305 (.ref 101),dE P "NoPot" 321 (.ref 113),dE P "BadDay" 346 (.ref 132),dE P "LONGEST_NAME" 350 (.int 12 349),dE P "MOST_GAP" 352 (.int 60 351),dE P "is_name" 358 (.ref 139),dE P "Pot" 419 (.ref 184),dE P "Cactus" 476 (.ref 233),dE P "MOST_POTS" 480 (.int 8 479),dE P "MOST_CANS" 482 (.int 8 481),dE P "MOST_WEEK" 484 (.int 14 483),dE P "MOST_STATES" 486 (.int 20000 485),dE P "own_pots" 492 (.ref 240),dE P "refuse_bad_counts" 502 (.ref 247),dE P "refuse_name_twice" 508 (.ref 252),dE P "is_state" 514 (.ref 257),dE P "refuse_no_state" 522 (.ref 264),dE P "Garden" 598 (.ref 308),dE P "with_cans" 606 (.ref 319),dE P "cans_on" 616 (.ref 326),dE P "day_behind" 624 (.ref 333),dE P "without_water" 630 (.ref 338),dE P "with_water" 636 (.ref 343),dE P "choices" 642 (.ref 348),dE P "roads" 650 (.ref 353),dE P "table" 656 (.ref 358),dE P "Lives" 712 (.ref 396),dE P "told_or_fresh" 720 (.ref 407),dE P "days_of" 729 (.ref 415),dE P "names_in" 735 (.ref 420),dE P "rounds_of" 749 (.ref 428),dE P "_law_cell_at" 759 (.ref 435),dE P "_law_draw" 770 (.ref 442),dE P "_law_spec" 790 (.ref 449),dE P "_law_garden" 801 (.ref 456),dE P "_law_behind" 819 (.ref 463),dE P "_law_steps" 825 (.ref 468),dE P "_law_number" 835 (.ref 475),dE P "_law_states" 841 (.ref 480),dE P "_law_best" 847 (.ref 485),dE P "_law_due" 853 (.ref 490),dE P "_law_sorts" 861 (.ref 497),dE P "_law_no_state" 872 (.ref 504),dE P "law" 889 (.ref 511)] 60
abbrev o11:Obj:=tU #[]
abbrev o12:Obj:=tB #[]
abbrev amQ:Obj:=tB #[i0 1,i0 0,.ref 20,i0 5,i0 0,.ref 27,i0 9,i0 0,.ref 34,i0 12,i0 0,.ref 41,i0 14,i0 0,.ref 54,i0 16,i0 0,.ref 66,i0 21,i0 0,.ref 85,i0 23,i0 0,.ref 97,i0 25,i0 0,.ref 109,i0 27,i0 0,.ref 121,i0 35,i0 0,.ref 138,i0 39,i0 0,.ref 145]
noncomputable abbrev aaS:Obj:=tB #[i0 1,i0 0,.ref 20,i0 5,i0 0,.ref 27,i0 9,i0 0,.ref 34,i0 12,i0 0,.ref 41,i0 14,i0 0,.ref 54,i0 16,i0 0,.ref 66,i0 21,i0 0,.ref 85,i0 23,i0 0,.ref 97,i0 25,i0 0,.ref 109,i0 27,i0 0,.ref 121,i0 35,i0 0,.ref 138,i0 39,i0 0,.ref 145,i0 60,i0 0,.ref 194,i0 84,i0 0,.ref 239,i0 91,i0 0,.ref 246,i0 100,i0 0,.ref 251,i0 103,i0 0,.ref 256,i0 113,i0 0,.ref 263,i0 116,i0 0,.ref 270,i0 154,i0 0,.ref 318,i0 157,i0 0,.ref 325,i0 159,i0 0,.ref 332,i0 161,i0 0,.ref 337,i0 165,i0 0,.ref 342,i0 169,i0 0,.ref 347,i0 180,i0 0,.ref 352,i0 191,i0 0,.ref 357,i0 209,i0 0,.ref 364,i0 224,i0 0,.ref 406,i0 229,i0 0,.ref 414,i0 232,i0 0,.ref 419,i0 234,i0 0,.ref 427,i0 250,i0 0,.ref 434,i0 254,i0 0,.ref 441,i0 258,i0 0,.ref 448,i0 286,i0 0,.ref 455,i0 294,i0 0,.ref 462,i0 309,i0 0,.ref 467,i0 317,i0 0,.ref 474,i0 322,i0 0,.ref 479,i0 333,i0 0,.ref 484,i0 343,i0 0,.ref 489,i0 355,i0 0,.ref 496,i0 358,i0 0,.ref 503,i0 372,i0 0,.ref 510]
abbrev o13:Obj:=cO #[VS "<module>" 182,VS "<module>" 183,cP 184,i0 1,i0 0,i0 0,i0 0,i0 0,.ref 11,.bool false,i0 181,.ref 12,.none,.none,.none,.none,i0 185,i0 1,cP 186]
abbrev o14:Obj:=fR #[some (.ref 13),some (.ref 3),some (.ref 3),none,some (VS "__main__" 164),none,some (.ref 0)]
abbrev o15:Obj:=tU #[]
abbrev o16:Obj:=tB #[]
abbrev o17:Obj:=tU #[VS "k" 190]
abbrev o18:Obj:=tU #[]
abbrev o19:Obj:=fB "_wall" "_wall" (top 0)
abbrev o20:Obj:=cO #[VS "_wall" 187,VS "_wall" 188,cP 189,i0 1,i0 1,i0 0,i0 0,i0 3,.ref 15,.bool true,i0 181,.ref 16,.none,.ref 17,.ref 18,.ref 19,i0 191,i0 1,cP 192]
abbrev o21:Obj:=fO "_wall" "_wall" (top 0) .none (VS "__main__" 164) 20
abbrev o22:Obj:=tU #[]
abbrev o23:Obj:=tB #[]
abbrev o24:Obj:=tU #[VS "value" 199,VS "least" 200,VS "most" 201]
abbrev o25:Obj:=tU #[]
abbrev o26:Obj:=fB "is_whole" "is_whole" (top 2)
abbrev o27:Obj:=cO #[VS "is_whole" 196,VS "is_whole" 197,cP 198,i0 5,i0 3,i0 0,i0 0,i0 3,.ref 22,.bool true,i0 181,.ref 23,.none,.ref 24,.ref 25,.ref 26,i0 202,i0 5,cP 203]
abbrev o28:Obj:=fO "is_whole" "is_whole" (top 2) .none (VS "thirstwise.checks" 194) 27
abbrev o29:Obj:=tU #[]
abbrev o30:Obj:=tB #[]
abbrev o31:Obj:=tU #[VS "number" 208,VS "bit" 209]
abbrev o32:Obj:=tU #[]
abbrev o33:Obj:=fB "is_set" "is_set" (top 3)
abbrev o34:Obj:=cO #[VS "is_set" 205,VS "is_set" 206,cP 207,i0 9,i0 2,i0 0,i0 0,i0 3,.ref 29,.bool true,i0 181,.ref 30,.none,.ref 31,.ref 32,.ref 33,i0 210,i0 9,cP 211]
abbrev o35:Obj:=fO "is_set" "is_set" (top 3) .none (VS "thirstwise.checks" 194) 34
abbrev o36:Obj:=tU #[.type "ValueError"]
abbrev o37:Obj:={ cls:=.type "builtin_function_or_method",data:=.fields #[.builtin "type.__prepare__",.type "type"] }
abbrev o38 (P:Params):Obj:=dO #[dE P "__module__" 222 (VS "thirstwise.errors" 213),dE P "__qualname__" 224 (VS "GardenError" 223),dE P "__firstlineno__" 226 (.int 12 225),dE P "__static_attributes__" 227 (.ref 43)] 4
abbrev o39:Obj:=tU #[]
abbrev o40:Obj:=tB #[]
abbrev o41:Obj:=cO #[VS "GardenError" 217,VS "GardenError" 218,cP 219,i0 12,i0 0,i0 0,i0 0,i0 0,.ref 39,.bool false,i0 181,.ref 40,.none,.none,.none,.none,i0 220,i0 12,cP 221]
abbrev o42:Obj:=fR #[some (.ref 41),some (.ref 3),some (.ref 38),none,some (VS "thirstwise.errors" 213),none,some (.ref 0)]
abbrev o43:Obj:=tU #[]
abbrev o44 (P:Params):Obj:=dO #[dE P "__module__" 222 (VS "thirstwise.errors" 213),dE P "__firstlineno__" 226 (.int 12 225),dE P "__static_attributes__" 227 (.ref 43),dE P "__weakref__" 229 (.ref 46),dE P "__doc__" 230 .none] 3
noncomputable abbrev o45:Obj:={ cls:=.type "type",data:=.cls { name:=SS "GardenError",bases:=[.type "ValueError"],mro:=[.ref 45,.type "ValueError",.type "Exception",.type "BaseException",.type "object"],ns:=44,qualname:=SS "GardenError",subclasses:=[.ref 58,.ref 77,.ref 89,.ref 101,.ref 113,.ref 132] },slots:=#[some (.ref 36),none,some (VS "GardenError" 215),some (VS "GardenError" 223),some (.builtin "ValueError.__new__"),some (.bool true)] }
abbrev o46:Obj:={ cls:=.type "getset_descriptor",data:=.fields #[VS "__weakref__" 228,.ref 45,.builtin "ExceptionGroup.__weakref__",.none] }
abbrev o47:Obj:={ cls:=.type "super",data:=.fields #[.ref 45,.ref 45,.ref 45] }
abbrev o48:Obj:={ cls:=.type "builtin_function_or_method",data:=.fields #[.builtin "object.__init_subclass__",.ref 45] }
abbrev o49:Obj:=tU #[.ref 45]
abbrev o50:Obj:={ cls:=.type "builtin_function_or_method",data:=.fields #[.builtin "type.__prepare__",.type "type"] }
abbrev o51 (P:Params):Obj:=dO #[dE P "__module__" 240 (VS "thirstwise.errors" 213),dE P "__qualname__" 242 (VS "BadPot" 241),dE P "__firstlineno__" 244 (.int 14 243),dE P "__static_attributes__" 245 (.ref 56)] 4
abbrev o52:Obj:=tU #[]
abbrev o53:Obj:=tB #[]
abbrev o54:Obj:=cO #[VS "BadPot" 235,VS "BadPot" 236,cP 237,i0 14,i0 0,i0 0,i0 0,i0 0,.ref 52,.bool false,i0 181,.ref 53,.none,.none,.none,.none,i0 238,i0 14,cP 239]
abbrev o55:Obj:=fR #[some (.ref 54),some (.ref 3),some (.ref 51),none,some (VS "thirstwise.errors" 213),none,some (.ref 0)]
abbrev o56:Obj:=tU #[]
abbrev o57 (P:Params):Obj:=dO #[dE P "__module__" 240 (VS "thirstwise.errors" 213),dE P "__firstlineno__" 244 (.int 14 243),dE P "__static_attributes__" 245 (.ref 56),dE P "__doc__" 246 .none] 2
noncomputable abbrev o58:Obj:={ cls:=.type "type",data:=.cls { name:=SS "BadPot",bases:=[.ref 45],mro:=[.ref 58,.ref 45,.type "ValueError",.type "Exception",.type "BaseException",.type "object"],ns:=57,qualname:=SS "BadPot" },slots:=#[some (.ref 49),none,some (VS "BadPot" 233),some (VS "BadPot" 241),some (.builtin "ValueError.__new__"),some (.bool true)] }
abbrev o59:Obj:={ cls:=.type "super",data:=.fields #[.ref 58,.ref 58,.ref 58] }
abbrev o60:Obj:={ cls:=.type "builtin_function_or_method",data:=.fields #[.builtin "object.__init_subclass__",.ref 58] }
abbrev o61:Obj:=tU #[.ref 45]
abbrev o62:Obj:={ cls:=.type "builtin_function_or_method",data:=.fields #[.builtin "type.__prepare__",.type "type"] }
abbrev o63 (P:Params):Obj:=dO #[dE P "__module__" 256 (VS "thirstwise.errors" 213),dE P "__qualname__" 258 (VS "BadRow" 257),dE P "__firstlineno__" 260 (.int 16 259),dE P "__init__" 268 (.ref 74),dE P "__static_attributes__" 270 (.ref 75)] 5
abbrev o64:Obj:=tU #[]
abbrev o65:Obj:=tB #[i0 18,i0 4,.ref 73]
abbrev o66:Obj:=cO #[VS "BadRow" 251,VS "BadRow" 252,cP 253,i0 16,i0 0,i0 0,i0 0,i0 0,.ref 64,.bool false,i0 181,.ref 65,.none,.none,.none,.none,i0 254,i0 16,cP 255]
abbrev o67:Obj:=fR #[some (.ref 66),some (.ref 3),some (.ref 63),none,some (VS "thirstwise.errors" 213),none,some (.ref 0)]
abbrev o68:Obj:=tU #[]
abbrev o69:Obj:=tB #[]
abbrev o70:Obj:=tU #[VS "self" 264,VS "row" 265]
abbrev o71:Obj:=tU #[]
abbrev o72:Obj:=fB "__init__" "BadRow.__init__" (inClass (top 7) 0)
abbrev o73:Obj:=cO #[VS "__init__" 261,VS "BadRow.__init__" 262,cP 263,i0 18,i0 2,i0 0,i0 0,i0 3,.ref 68,.bool true,i0 181,.ref 69,.none,.ref 70,.ref 71,.ref 72,i0 266,i0 18,cP 267]
abbrev o74:Obj:=fO "__init__" "BadRow.__init__" (inClass (top 7) 0) .none (VS "thirstwise.errors" 213) 73
abbrev o75:Obj:=tU #[VS "row" 269]
abbrev o76 (P:Params):Obj:=dO #[dE P "__module__" 256 (VS "thirstwise.errors" 213),dE P "__firstlineno__" 260 (.int 16 259),dE P "__init__" 268 (.ref 74),dE P "__static_attributes__" 270 (.ref 75),dE P "__doc__" 271 .none] 2
noncomputable abbrev o77:Obj:={ cls:=.type "type",data:=.cls { name:=SS "BadRow",bases:=[.ref 45],mro:=[.ref 77,.ref 45,.type "ValueError",.type "Exception",.type "BaseException",.type "object"],ns:=76,qualname:=SS "BadRow" },slots:=#[some (.ref 61),none,some (VS "BadRow" 249),some (VS "BadRow" 257),some (.builtin "ValueError.__new__"),some (.bool true)] }
abbrev o78:Obj:={ cls:=.type "super",data:=.fields #[.ref 77,.ref 77,.ref 77] }
abbrev o79:Obj:={ cls:=.type "builtin_function_or_method",data:=.fields #[.builtin "object.__init_subclass__",.ref 77] }
abbrev o80:Obj:=tU #[.ref 45]
abbrev o81:Obj:={ cls:=.type "builtin_function_or_method",data:=.fields #[.builtin "type.__prepare__",.type "type"] }
abbrev o82 (P:Params):Obj:=dO #[dE P "__module__" 281 (VS "thirstwise.errors" 213),dE P "__qualname__" 283 (VS "TooMany" 282),dE P "__firstlineno__" 285 (.int 21 284),dE P "__static_attributes__" 286 (.ref 87)] 4
abbrev o83:Obj:=tU #[]
abbrev o84:Obj:=tB #[]
abbrev o85:Obj:=cO #[VS "TooMany" 276,VS "TooMany" 277,cP 278,i0 21,i0 0,i0 0,i0 0,i0 0,.ref 83,.bool false,i0 181,.ref 84,.none,.none,.none,.none,i0 279,i0 21,cP 280]
abbrev o86:Obj:=fR #[some (.ref 85),some (.ref 3),some (.ref 82),none,some (VS "thirstwise.errors" 213),none,some (.ref 0)]
abbrev o87:Obj:=tU #[]
abbrev o88 (P:Params):Obj:=dO #[dE P "__module__" 281 (VS "thirstwise.errors" 213),dE P "__firstlineno__" 285 (.int 21 284),dE P "__static_attributes__" 286 (.ref 87),dE P "__doc__" 287 .none] 2
noncomputable abbrev o89:Obj:={ cls:=.type "type",data:=.cls { name:=SS "TooMany",bases:=[.ref 45],mro:=[.ref 89,.ref 45,.type "ValueError",.type "Exception",.type "BaseException",.type "object"],ns:=88,qualname:=SS "TooMany" },slots:=#[some (.ref 80),none,some (VS "TooMany" 274),some (VS "TooMany" 282),some (.builtin "ValueError.__new__"),some (.bool true)] }
abbrev o90:Obj:={ cls:=.type "super",data:=.fields #[.ref 89,.ref 89,.ref 89] }
abbrev o91:Obj:={ cls:=.type "builtin_function_or_method",data:=.fields #[.builtin "object.__init_subclass__",.ref 89] }
abbrev o92:Obj:=tU #[.ref 45]
abbrev o93:Obj:={ cls:=.type "builtin_function_or_method",data:=.fields #[.builtin "type.__prepare__",.type "type"] }
abbrev o94 (P:Params):Obj:=dO #[dE P "__module__" 297 (VS "thirstwise.errors" 213),dE P "__qualname__" 299 (VS "NoState" 298),dE P "__firstlineno__" 301 (.int 23 300),dE P "__static_attributes__" 302 (.ref 99)] 4
abbrev o95:Obj:=tU #[]
abbrev o96:Obj:=tB #[]
abbrev o97:Obj:=cO #[VS "NoState" 292,VS "NoState" 293,cP 294,i0 23,i0 0,i0 0,i0 0,i0 0,.ref 95,.bool false,i0 181,.ref 96,.none,.none,.none,.none,i0 295,i0 23,cP 296]
abbrev o98:Obj:=fR #[some (.ref 97),some (.ref 3),some (.ref 94),none,some (VS "thirstwise.errors" 213),none,some (.ref 0)]
abbrev o99:Obj:=tU #[]
abbrev o100 (P:Params):Obj:=dO #[dE P "__module__" 297 (VS "thirstwise.errors" 213),dE P "__firstlineno__" 301 (.int 23 300),dE P "__static_attributes__" 302 (.ref 99),dE P "__doc__" 303 .none] 2
noncomputable abbrev Xg:Obj:={ cls:=.type "type",data:=.cls { name:=SS "NoState",bases:=[.ref 45],mro:=[.ref 101,.ref 45,.type "ValueError",.type "Exception",.type "BaseException",.type "object"],ns:=100,qualname:=SS "NoState" },slots:=#[some (.ref 92),none,some (VS "NoState" 290),some (VS "NoState" 298),some (.builtin "ValueError.__new__"),some (.bool true)] }
abbrev adn:Obj:={ cls:=.type "super",data:=.fields #[.ref 101,.ref 101,.ref 101] }
abbrev ado:Obj:={ cls:=.type "builtin_function_or_method",data:=.fields #[.builtin "object.__init_subclass__",.ref 101] }
abbrev Xh:Obj:=tU #[.ref 45]
abbrev adp:Obj:={ cls:=.type "builtin_function_or_method",data:=.fields #[.builtin "type.__prepare__",.type "type"] }
abbrev adq (P:Params):Obj:=dO #[dE P "__module__" 313 (VS "thirstwise.errors" 213),dE P "__qualname__" 315 (VS "NoPot" 314),dE P "__firstlineno__" 317 (.int 25 316),dE P "__static_attributes__" 318 (.ref 111)] 4
abbrev adt:Obj:=tU #[]
abbrev adu:Obj:=tB #[]
abbrev adv:Obj:=cO #[VS "NoPot" 308,VS "NoPot" 309,cP 310,i0 25,i0 0,i0 0,i0 0,i0 0,.ref 107,.bool false,i0 181,.ref 108,.none,.none,.none,.none,i0 311,i0 25,cP 312]
abbrev adw:Obj:=fR #[some (.ref 109),some (.ref 3),some (.ref 106),none,some (VS "thirstwise.errors" 213),none,some (.ref 0)]
abbrev o111:Obj:=tU #[]
abbrev Xi (P:Params):Obj:=dO #[dE P "__module__" 313 (VS "thirstwise.errors" 213),dE P "__firstlineno__" 317 (.int 25 316),dE P "__static_attributes__" 318 (.ref 111),dE P "__doc__" 319 .none] 2
noncomputable abbrev Xj:Obj:={ cls:=.type "type",data:=.cls { name:=SS "NoPot",bases:=[.ref 45],mro:=[.ref 113,.ref 45,.type "ValueError",.type "Exception",.type "BaseException",.type "object"],ns:=112,qualname:=SS "NoPot" },slots:=#[some (.ref 104),none,some (VS "NoPot" 306),some (VS "NoPot" 314),some (.builtin "ValueError.__new__"),some (.bool true)] }
abbrev adx:Obj:={ cls:=.type "super",data:=.fields #[.ref 113,.ref 113,.ref 113] }
abbrev ady:Obj:={ cls:=.type "builtin_function_or_method",data:=.fields #[.builtin "object.__init_subclass__",.ref 113] }
abbrev Xk:Obj:=tU #[.ref 45]
abbrev adz:Obj:={ cls:=.type "builtin_function_or_method",data:=.fields #[.builtin "type.__prepare__",.type "type"] }
abbrev adA (P:Params):Obj:=dO #[dE P "__module__" 329 (VS "thirstwise.errors" 213),dE P "__qualname__" 331 (VS "BadDay" 330),dE P "__firstlineno__" 333 (.int 27 332),dE P "__init__" 341 (.ref 129),dE P "__static_attributes__" 343 (.ref 130)] 5
abbrev adB:Obj:=tU #[]
abbrev adC:Obj:=tB #[i0 29,i0 4,.ref 128]
abbrev adD:Obj:=cO #[VS "BadDay" 324,VS "BadDay" 325,cP 326,i0 27,i0 0,i0 0,i0 0,i0 0,.ref 119,.bool false,i0 181,.ref 120,.none,.none,.none,.none,i0 327,i0 27,cP 328]
abbrev adE:Obj:=fR #[some (.ref 121),some (.ref 3),some (.ref 118),none,some (VS "thirstwise.errors" 213),none,some (.ref 0)]
abbrev Xl:Obj:=tU #[]
abbrev adF:Obj:=tB #[]
abbrev Xm:Obj:=tU #[VS "self" 337,VS "day" 338]
abbrev Xn:Obj:=tU #[]
abbrev adG:Obj:=fB "__init__" "BadDay.__init__" (inClass (top 11) 0)
abbrev Xo:Obj:=cO #[VS "__init__" 334,VS "BadDay.__init__" 335,cP 336,i0 29,i0 2,i0 0,i0 0,i0 3,.ref 123,.bool true,i0 181,.ref 124,.none,.ref 125,.ref 126,.ref 127,i0 339,i0 29,cP 340]
abbrev Xp:Obj:=fO "__init__" "BadDay.__init__" (inClass (top 11) 0) .none (VS "thirstwise.errors" 213) 128
abbrev Xq:Obj:=tU #[VS "day" 342]
abbrev Xr (P:Params):Obj:=dO #[dE P "__module__" 329 (VS "thirstwise.errors" 213),dE P "__firstlineno__" 333 (.int 27 332),dE P "__init__" 341 (.ref 129),dE P "__static_attributes__" 343 (.ref 130),dE P "__doc__" 344 .none] 2
noncomputable abbrev Xu:Obj:={ cls:=.type "type",data:=.cls { name:=SS "BadDay",bases:=[.ref 45],mro:=[.ref 132,.ref 45,.type "ValueError",.type "Exception",.type "BaseException",.type "object"],ns:=131,qualname:=SS "BadDay" },slots:=#[some (.ref 116),none,some (VS "BadDay" 322),some (VS "BadDay" 330),some (.builtin "ValueError.__new__"),some (.bool true)] }
abbrev adH:Obj:={ cls:=.type "super",data:=.fields #[.ref 132,.ref 132,.ref 132] }
abbrev adI:Obj:={ cls:=.type "builtin_function_or_method",data:=.fields #[.builtin "object.__init_subclass__",.ref 132] }
abbrev Xv:Obj:=tU #[]
abbrev adJ:Obj:=tB #[]
abbrev adK:Obj:=fB "is_name" "is_name" (top 15)
abbrev Xw:Obj:=cO #[VS "is_name" 353,VS "is_name" 354,cP 355,i0 35,i0 1,i0 0,i0 0,i0 3,.ref 135,.bool true,i0 181,.ref 136,.none,.none,.none,.ref 137,i0 356,i0 35,cP 357]
abbrev Xx:Obj:=fO "is_name" "is_name" (top 15) .none (VS "thirstwise.pots" 347) 138
abbrev adL:Obj:=tU #[]
abbrev adM:Obj:={ cls:=.type "builtin_function_or_method",data:=.fields #[.builtin "type.__prepare__",.type "type"] }
noncomputable abbrev adN (P:Params):Obj:=dO #[dE P "__module__" 366 (VS "thirstwise.pots" 347),dE P "__qualname__" 368 (VS "Pot" 367),dE P "__firstlineno__" 370 (.int 39 369),dE P "__init__" 379 (.ref 153),dE P "may" 387 (.ref 160),dE P "words" 394 (.ref 167),dE P "with_gap" 402 (.ref 174),dE P "shortest" 409 (.ref 181),dE P "__static_attributes__" 412 (.ref 182)] 9
abbrev adO:Obj:=tU #[]
abbrev adP:Obj:=tB #[i0 41,i0 4,.ref 152,i0 49,i0 4,.ref 159,i0 52,i0 4,.ref 166,i0 55,i0 4,.ref 173,i0 58,i0 4,.ref 180]
abbrev adQ:Obj:=cO #[VS "Pot" 361,VS "Pot" 362,cP 363,i0 39,i0 0,i0 0,i0 0,i0 0,.ref 143,.bool false,i0 181,.ref 144,.none,.none,.none,.none,i0 364,i0 39,cP 365]
abbrev adR:Obj:=fR #[some (.ref 145),some (.ref 3),some (.ref 142),none,some (VS "thirstwise.pots" 347),none,some (.ref 0)]
abbrev Xy:Obj:=tU #[]
abbrev adS:Obj:=tB #[]
abbrev Xz:Obj:=tU #[VS "self" 374,VS "name" 375,VS "gap" 376]
abbrev XD:Obj:=tU #[]
abbrev adT:Obj:=fB "__init__" "Pot.__init__" (inClass (top 16) 0)
abbrev XF:Obj:=cO #[VS "__init__" 371,VS "Pot.__init__" 372,cP 373,i0 41,i0 3,i0 0,i0 0,i0 3,.ref 147,.bool true,i0 181,.ref 148,.none,.ref 149,.ref 150,.ref 151,i0 377,i0 41,cP 378]
abbrev XH:Obj:=fO "__init__" "Pot.__init__" (inClass (top 16) 0) .none (VS "thirstwise.pots" 347) 152
abbrev XJ:Obj:=tU #[]
abbrev adU:Obj:=tB #[]
abbrev XM:Obj:=tU #[VS "self" 383,VS "since" 384]
abbrev XQ:Obj:=tU #[]
abbrev adV:Obj:=fB "may" "Pot.may" (inClass (top 16) 1)
abbrev XR:Obj:=cO #[VS "may" 380,VS "Pot.may" 381,cP 382,i0 49,i0 2,i0 0,i0 0,i0 3,.ref 154,.bool true,i0 181,.ref 155,.none,.ref 156,.ref 157,.ref 158,i0 385,i0 49,cP 386]
abbrev XS:Obj:=fO "may" "Pot.may" (inClass (top 16) 1) .none (VS "thirstwise.pots" 347) 159
abbrev X3:Obj:=tU #[]
abbrev adW:Obj:=tB #[]
abbrev X4:Obj:=tU #[VS "self" 391]
abbrev X5:Obj:=tU #[]
abbrev adX:Obj:=fB "words" "Pot.words" (inClass (top 16) 2)
abbrev X6:Obj:=cO #[VS "words" 388,VS "Pot.words" 389,cP 390,i0 52,i0 1,i0 0,i0 0,i0 3,.ref 161,.bool true,i0 181,.ref 162,.none,.ref 163,.ref 164,.ref 165,i0 392,i0 52,cP 393]
abbrev adY:Obj:=fO "words" "Pot.words" (inClass (top 16) 2) .none (VS "thirstwise.pots" 347) 166
abbrev X7:Obj:=tU #[]
abbrev adZ:Obj:=tB #[]
abbrev X8:Obj:=tU #[VS "self" 398,VS "gap" 399]
abbrev Yb:Obj:=tU #[]
abbrev ad0:Obj:=fB "with_gap" "Pot.with_gap" (inClass (top 16) 3)
abbrev Yc:Obj:=cO #[VS "with_gap" 395,VS "Pot.with_gap" 396,cP 397,i0 55,i0 2,i0 0,i0 0,i0 3,.ref 168,.bool true,i0 181,.ref 169,.none,.ref 170,.ref 171,.ref 172,i0 400,i0 55,cP 401]
abbrev Yd:Obj:=fO "with_gap" "Pot.with_gap" (inClass (top 16) 3) .none (VS "thirstwise.pots" 347) 173
abbrev Ye:Obj:=tU #[]
abbrev ad1:Obj:=tB #[]
abbrev Yg:Obj:=tU #[VS "self" 406]
abbrev Yh:Obj:=tU #[]
abbrev ad2:Obj:=fB "shortest" "Pot.shortest" (inClass (top 16) 4)
abbrev Yi:Obj:=cO #[VS "shortest" 403,VS "Pot.shortest" 404,cP 405,i0 58,i0 1,i0 0,i0 0,i0 3,.ref 175,.bool true,i0 181,.ref 176,.none,.ref 177,.ref 178,.ref 179,i0 407,i0 58,cP 408]
abbrev ad3:Obj:=fO "shortest" "Pot.shortest" (inClass (top 16) 4) .none (VS "thirstwise.pots" 347) 180
abbrev Yj:Obj:=tU #[VS "gap" 410,VS "name" 411]
noncomputable abbrev Yk (P:Params):Obj:=dO #[dE P "__module__" 366 (VS "thirstwise.pots" 347),dE P "__firstlineno__" 370 (.int 39 369),dE P "__init__" 379 (.ref 153),dE P "may" 387 (.ref 160),dE P "words" 394 (.ref 167),dE P "with_gap" 402 (.ref 174),dE P "shortest" 409 (.ref 181),dE P "__static_attributes__" 412 (.ref 182),dE P "__dict__" 414 (.ref 185),dE P "__weakref__" 416 (.ref 186),dE P "__doc__" 417 .none] 4
abbrev azb:Obj:={ cls:=.type "type",data:=.cls { name:=SS "Pot",bases:=[.type "object"],mro:=[.ref 184,.type "object"],ns:=183,qualname:=SS "Pot" },slots:=#[none,none,some (VS "Pot" 359),some (VS "Pot" 367),some (.builtin "object.__new__"),some (.bool true)] }
abbrev JC:Obj:={ cls:=.type "type",data:=.cls { name:=SS "Pot",bases:=[.type "object"],mro:=[.ref 184,.type "object"],ns:=183,qualname:=SS "Pot",subclasses:=[.ref 233] },slots:=#[none,none,some (VS "Pot" 359),some (VS "Pot" 367),some (.builtin "object.__new__"),some (.bool true)] }
abbrev Yl:Obj:={ cls:=.type "getset_descriptor",data:=.fields #[VS "__dict__" 413,.ref 184,.builtin "function.__dict__",.builtin "function.__dict__#set"] }
abbrev Ym:Obj:={ cls:=.type "getset_descriptor",data:=.fields #[VS "__weakref__" 415,.ref 184,.builtin "ExceptionGroup.__weakref__",.none] }
abbrev ad4:Obj:={ cls:=.type "super",data:=.fields #[.ref 184,.ref 184,.ref 184] }
abbrev ad5:Obj:={ cls:=.type "builtin_function_or_method",data:=.fields #[.builtin "object.__init_subclass__",.ref 184] }
abbrev ad6:Obj:=tU #[.ref 184]
abbrev amT:Obj:={ cls:=.type "builtin_function_or_method",data:=.fields #[.builtin "type.__prepare__",.type "type"] }
noncomputable abbrev amU (P:Params):Obj:=dO #[dE P "__module__" 427 (VS "thirstwise.pots" 347),dE P "__qualname__" 429 (VS "Cactus" 428),dE P "__firstlineno__" 431 (.int 60 430),dE P "__init__" 441 (.ref 202),dE P "may" 449 (.ref 209),dE P "words" 456 (.ref 216),dE P "with_gap" 464 (.ref 223),dE P "shortest" 471 (.ref 230),dE P "__static_attributes__" 473 (.ref 231)] 9
abbrev amV:Obj:=tU #[]
abbrev amW:Obj:=tB #[i0 62,i0 4,.ref 201,i0 68,i0 4,.ref 208,i0 71,i0 4,.ref 215,i0 74,i0 4,.ref 222,i0 77,i0 4,.ref 229]
abbrev amX:Obj:=cO #[VS "Cactus" 422,VS "Cactus" 423,cP 424,i0 60,i0 0,i0 0,i0 0,i0 0,.ref 192,.bool false,i0 181,.ref 193,.none,.none,.none,.none,i0 425,i0 60,cP 426]
abbrev amY:Obj:=fR #[some (.ref 194),some (.ref 3),some (.ref 191),none,some (VS "thirstwise.pots" 347),none,some (.ref 0)]
abbrev ad7:Obj:=tU #[]
abbrev amZ:Obj:=tB #[]
abbrev ad8:Obj:=tU #[VS "self" 435,VS "name" 436,VS "gap" 437,VS "rest" 438]
abbrev ad9:Obj:=tU #[]
abbrev o200:Obj:=fB "__init__" "Cactus.__init__" (inClass (top 17) 0)
abbrev aea:Obj:=cO #[VS "__init__" 432,VS "Cactus.__init__" 433,cP 434,i0 62,i0 4,i0 0,i0 0,i0 3,.ref 196,.bool true,i0 181,.ref 197,.none,.ref 198,.ref 199,.ref 200,i0 439,i0 62,cP 440]
abbrev aeb:Obj:=fO "__init__" "Cactus.__init__" (inClass (top 17) 0) .none (VS "thirstwise.pots" 347) 201
abbrev aec:Obj:=tU #[]
abbrev am0:Obj:=tB #[]
abbrev aed:Obj:=tU #[VS "self" 445,VS "since" 446]
abbrev aee:Obj:=tU #[]
abbrev am1:Obj:=fB "may" "Cactus.may" (inClass (top 17) 1)
abbrev aef:Obj:=cO #[VS "may" 442,VS "Cactus.may" 443,cP 444,i0 68,i0 2,i0 0,i0 0,i0 3,.ref 203,.bool true,i0 181,.ref 204,.none,.ref 205,.ref 206,.ref 207,i0 447,i0 68,cP 448]
abbrev aeg:Obj:=fO "may" "Cactus.may" (inClass (top 17) 1) .none (VS "thirstwise.pots" 347) 208
abbrev aeh:Obj:=tU #[]
abbrev am2:Obj:=tB #[]
abbrev aei:Obj:=tU #[VS "self" 453]
abbrev aej:Obj:=tU #[]
abbrev am3:Obj:=fB "words" "Cactus.words" (inClass (top 17) 2)
abbrev aek:Obj:=cO #[VS "words" 450,VS "Cactus.words" 451,cP 452,i0 71,i0 1,i0 0,i0 0,i0 3,.ref 210,.bool true,i0 181,.ref 211,.none,.ref 212,.ref 213,.ref 214,i0 454,i0 71,cP 455]
abbrev am4:Obj:=fO "words" "Cactus.words" (inClass (top 17) 2) .none (VS "thirstwise.pots" 347) 215
abbrev ael:Obj:=tU #[]
abbrev am5:Obj:=tB #[]
abbrev aem:Obj:=tU #[VS "self" 460,VS "gap" 461]
abbrev aen:Obj:=tU #[]
abbrev am6:Obj:=fB "with_gap" "Cactus.with_gap" (inClass (top 17) 3)
abbrev aeo:Obj:=cO #[VS "with_gap" 457,VS "Cactus.with_gap" 458,cP 459,i0 74,i0 2,i0 0,i0 0,i0 3,.ref 217,.bool true,i0 181,.ref 218,.none,.ref 219,.ref 220,.ref 221,i0 462,i0 74,cP 463]
abbrev aep:Obj:=fO "with_gap" "Cactus.with_gap" (inClass (top 17) 3) .none (VS "thirstwise.pots" 347) 222
abbrev aer:Obj:=tU #[]
abbrev am7:Obj:=tB #[]
abbrev aes:Obj:=tU #[VS "self" 468]
abbrev aeu:Obj:=tU #[]
abbrev am8:Obj:=fB "shortest" "Cactus.shortest" (inClass (top 17) 4)
abbrev aev:Obj:=cO #[VS "shortest" 465,VS "Cactus.shortest" 466,cP 467,i0 77,i0 1,i0 0,i0 0,i0 3,.ref 224,.bool true,i0 181,.ref 225,.none,.ref 226,.ref 227,.ref 228,i0 469,i0 77,cP 470]
abbrev am9:Obj:=fO "shortest" "Cactus.shortest" (inClass (top 17) 4) .none (VS "thirstwise.pots" 347) 229
abbrev aew:Obj:=tU #[VS "rest" 472]
noncomputable abbrev aex (P:Params):Obj:=dO #[dE P "__module__" 427 (VS "thirstwise.pots" 347),dE P "__firstlineno__" 431 (.int 60 430),dE P "__init__" 441 (.ref 202),dE P "may" 449 (.ref 209),dE P "words" 456 (.ref 216),dE P "with_gap" 464 (.ref 223),dE P "shortest" 471 (.ref 230),dE P "__static_attributes__" 473 (.ref 231),dE P "__doc__" 474 .none] 2
abbrev aey:Obj:={ cls:=.type "type",data:=.cls { name:=SS "Cactus",bases:=[.ref 184],mro:=[.ref 233,.ref 184,.type "object"],ns:=232,qualname:=SS "Cactus" },slots:=#[some (.ref 189),none,some (VS "Cactus" 420),some (VS "Cactus" 428),some (.builtin "object.__new__"),some (.bool true)] }
abbrev ana:Obj:={ cls:=.type "super",data:=.fields #[.ref 233,.ref 233,.ref 233] }
abbrev anb:Obj:={ cls:=.type "builtin_function_or_method",data:=.fields #[.builtin "object.__init_subclass__",.ref 233] }
abbrev aez:Obj:=tU #[]
abbrev anc:Obj:=tB #[]
abbrev ane:Obj:=fB "own_pots" "own_pots" (top 23)
abbrev aeA:Obj:=cO #[VS "own_pots" 487,VS "own_pots" 488,cP 489,i0 84,i0 1,i0 0,i0 0,i0 3,.ref 236,.bool true,i0 181,.ref 237,.none,.none,.none,.ref 238,i0 490,i0 84,cP 491]
abbrev aeB:Obj:=fO "own_pots" "own_pots" (top 23) .none (VS "thirstwise.gardens" 477) 239
abbrev aeC:Obj:=tU #[]
abbrev anf:Obj:=tB #[]
abbrev aeD:Obj:=tU #[VS "pots" 496,VS "cans" 497,VS "week" 498,VS "closed" 499]
abbrev aeE:Obj:=tU #[]
abbrev ang:Obj:=fB "refuse_bad_counts" "refuse_bad_counts" (top 24)
abbrev aeF:Obj:=cO #[VS "refuse_bad_counts" 493,VS "refuse_bad_counts" 494,cP 495,i0 91,i0 4,i0 0,i0 0,i0 3,.ref 241,.bool true,i0 181,.ref 242,.none,.ref 243,.ref 244,.ref 245,i0 500,i0 91,cP 501]
abbrev aeG:Obj:=fO "refuse_bad_counts" "refuse_bad_counts" (top 24) .none (VS "thirstwise.gardens" 477) 246
abbrev aeH:Obj:=tU #[]
abbrev anh:Obj:=tB #[]
abbrev ani:Obj:=fB "refuse_name_twice" "refuse_name_twice" (top 25)
abbrev aeI:Obj:=cO #[VS "refuse_name_twice" 503,VS "refuse_name_twice" 504,cP 505,i0 100,i0 1,i0 0,i0 0,i0 3,.ref 248,.bool true,i0 181,.ref 249,.none,.none,.none,.ref 250,i0 506,i0 100,cP 507]
abbrev aeJ:Obj:=fO "refuse_name_twice" "refuse_name_twice" (top 25) .none (VS "thirstwise.gardens" 477) 251
abbrev aeK:Obj:=tU #[]
abbrev anj:Obj:=tB #[]
abbrev ank:Obj:=fB "is_state" "is_state" (top 26)
abbrev aeL:Obj:=cO #[VS "is_state" 509,VS "is_state" 510,cP 511,i0 103,i0 2,i0 0,i0 0,i0 3,.ref 253,.bool true,i0 181,.ref 254,.none,.none,.none,.ref 255,i0 512,i0 103,cP 513]
abbrev aeM:Obj:=fO "is_state" "is_state" (top 26) .none (VS "thirstwise.gardens" 477) 256
abbrev aeN:Obj:=tU #[]
abbrev anl:Obj:=tB #[]
abbrev aeO:Obj:=tU #[VS "garden" 518,VS "value" 519]
abbrev aeP:Obj:=tU #[]
abbrev anm:Obj:=fB "refuse_no_state" "refuse_no_state" (top 27)
abbrev aeQ:Obj:=cO #[VS "refuse_no_state" 515,VS "refuse_no_state" 516,cP 517,i0 113,i0 2,i0 0,i0 0,i0 3,.ref 258,.bool true,i0 181,.ref 259,.none,.ref 260,.ref 261,.ref 262,i0 520,i0 113,cP 521]
abbrev aeR:Obj:=fO "refuse_no_state" "refuse_no_state" (top 27) .none (VS "thirstwise.gardens" 477) 263
abbrev ano:Obj:=tU #[]
abbrev anp:Obj:={ cls:=.type "builtin_function_or_method",data:=.fields #[.builtin "type.__prepare__",.type "type"] }
noncomputable abbrev anq (P:Params):Obj:=dO #[dE P "__module__" 530 (VS "thirstwise.gardens" 477),dE P "__qualname__" 532 (VS "Garden" 531),dE P "__firstlineno__" 534 (.int 116 533),dE P "__init__" 549 (.ref 279),dE P "size" 558 (.ref 286),dE P "number" 569 (.ref 293),dE P "state" 580 (.ref 300),dE P "fresh" 586 (.ref 305),dE P "__static_attributes__" 591 (.ref 306)] 9
abbrev anr:Obj:=tU #[]
abbrev ant:Obj:=tB #[i0 118,i0 4,.ref 278,i0 129,i0 4,.ref 285,i0 135,i0 4,.ref 292,i0 142,i0 4,.ref 299,i0 152,i0 4,.ref 304]
abbrev anu:Obj:=cO #[VS "Garden" 525,VS "Garden" 526,cP 527,i0 116,i0 0,i0 0,i0 0,i0 0,.ref 268,.bool false,i0 181,.ref 269,.none,.none,.none,.none,i0 528,i0 116,cP 529]
abbrev anv:Obj:=fR #[some (.ref 270),some (.ref 3),some (.ref 267),none,some (VS "thirstwise.gardens" 477),none,some (.ref 0)]
abbrev aeS:Obj:=tU #[.int 1 535,.int 1 536,.int 0 537]
abbrev aeT:Obj:=tU #[]
abbrev anw:Obj:=tB #[]
abbrev aeU:Obj:=tU #[VS "self" 541,VS "pots" 542,VS "cans" 543,VS "week" 544,VS "closed" 545,VS "copies" 546]
abbrev aeV:Obj:=tU #[]
abbrev anx:Obj:=fB "__init__" "Garden.__init__" (inClass (top 28) 0)
abbrev aeW:Obj:=cO #[VS "__init__" 538,VS "Garden.__init__" 539,cP 540,i0 118,i0 5,i0 0,i0 0,i0 3,.ref 273,.bool true,i0 181,.ref 274,.none,.ref 275,.ref 276,.ref 277,i0 547,i0 118,cP 548]
abbrev aeX:Obj:=fO "__init__" "Garden.__init__" (inClass (top 28) 0) (.ref 272) (VS "thirstwise.gardens" 477) 278
abbrev aeY:Obj:=tU #[]
abbrev anz:Obj:=tB #[]
abbrev aeZ:Obj:=tU #[VS "self" 553,VS "states" 554,VS "pot" 555]
abbrev ae0:Obj:=tU #[]
abbrev anA:Obj:=fB "size" "Garden.size" (inClass (top 28) 1)
abbrev ae1:Obj:=cO #[VS "size" 550,VS "Garden.size" 551,cP 552,i0 129,i0 1,i0 0,i0 0,i0 3,.ref 280,.bool true,i0 181,.ref 281,.none,.ref 282,.ref 283,.ref 284,i0 556,i0 129,cP 557]
abbrev ae2:Obj:=fO "size" "Garden.size" (inClass (top 28) 1) .none (VS "thirstwise.gardens" 477) 285
abbrev ae3:Obj:=tU #[]
abbrev anB:Obj:=tB #[]
abbrev ae4:Obj:=tU #[VS "self" 562,VS "state" 563,VS "count" 564,VS "days" 565,VS "pot" 566]
abbrev ae5:Obj:=tU #[]
abbrev anC:Obj:=fB "number" "Garden.number" (inClass (top 28) 2)
abbrev ae6:Obj:=cO #[VS "number" 559,VS "Garden.number" 560,cP 561,i0 135,i0 2,i0 0,i0 0,i0 3,.ref 287,.bool true,i0 181,.ref 288,.none,.ref 289,.ref 290,.ref 291,i0 567,i0 135,cP 568]
abbrev ae7:Obj:=fO "number" "Garden.number" (inClass (top 28) 2) .none (VS "thirstwise.gardens" 477) 292
abbrev ae8:Obj:=tU #[]
abbrev anD:Obj:=tB #[]
abbrev ae9:Obj:=tU #[VS "self" 573,VS "number" 574,VS "left" 575,VS "since" 576,VS "pot" 577]
abbrev afa:Obj:=tU #[]
abbrev anE:Obj:=fB "state" "Garden.state" (inClass (top 28) 3)
abbrev afb:Obj:=cO #[VS "state" 570,VS "Garden.state" 571,cP 572,i0 142,i0 2,i0 0,i0 0,i0 3,.ref 294,.bool true,i0 181,.ref 295,.none,.ref 296,.ref 297,.ref 298,i0 578,i0 142,cP 579]
abbrev o300:Obj:=fO "state" "Garden.state" (inClass (top 28) 3) .none (VS "thirstwise.gardens" 477) 299
abbrev afc:Obj:=tU #[]
abbrev anF:Obj:=tB #[]
abbrev anG:Obj:=fB "fresh" "Garden.fresh" (inClass (top 28) 4)
abbrev afd:Obj:=cO #[VS "fresh" 581,VS "Garden.fresh" 582,cP 583,i0 152,i0 1,i0 0,i0 0,i0 3,.ref 301,.bool true,i0 181,.ref 302,.none,.none,.none,.ref 303,i0 584,i0 152,cP 585]
abbrev afe:Obj:=fO "fresh" "Garden.fresh" (inClass (top 28) 4) .none (VS "thirstwise.gardens" 477) 304
abbrev afg:Obj:=tU #[VS "cans" 587,VS "closed" 588,VS "pots" 589,VS "week" 590]
noncomputable abbrev afh (P:Params):Obj:=dO #[dE P "__module__" 530 (VS "thirstwise.gardens" 477),dE P "__firstlineno__" 534 (.int 116 533),dE P "__init__" 549 (.ref 279),dE P "size" 558 (.ref 286),dE P "number" 569 (.ref 293),dE P "state" 580 (.ref 300),dE P "fresh" 586 (.ref 305),dE P "__static_attributes__" 591 (.ref 306),dE P "__dict__" 593 (.ref 309),dE P "__weakref__" 595 (.ref 310),dE P "__doc__" 596 .none] 4
abbrev afi:Obj:={ cls:=.type "type",data:=.cls { name:=SS "Garden",bases:=[.type "object"],mro:=[.ref 308,.type "object"],ns:=307,qualname:=SS "Garden" },slots:=#[none,none,some (VS "Garden" 523),some (VS "Garden" 531),some (.builtin "object.__new__"),some (.bool true)] }
abbrev afj:Obj:={ cls:=.type "getset_descriptor",data:=.fields #[VS "__dict__" 592,.ref 308,.builtin "function.__dict__",.builtin "function.__dict__#set"] }
abbrev afk:Obj:={ cls:=.type "getset_descriptor",data:=.fields #[VS "__weakref__" 594,.ref 308,.builtin "ExceptionGroup.__weakref__",.none] }
abbrev anH:Obj:={ cls:=.type "super",data:=.fields #[.ref 308,.ref 308,.ref 308] }
abbrev anI:Obj:={ cls:=.type "builtin_function_or_method",data:=.fields #[.builtin "object.__init_subclass__",.ref 308] }
abbrev afl:Obj:=tU #[]
abbrev anJ:Obj:=tB #[]
abbrev afm:Obj:=tU #[VS "garden" 602,VS "cans" 603]
abbrev afn:Obj:=tU #[]
abbrev anK:Obj:=fB "with_cans" "with_cans" (top 29)
abbrev afo:Obj:=cO #[VS "with_cans" 599,VS "with_cans" 600,cP 601,i0 154,i0 2,i0 0,i0 0,i0 3,.ref 313,.bool true,i0 181,.ref 314,.none,.ref 315,.ref 316,.ref 317,i0 604,i0 154,cP 605]
abbrev afp:Obj:=fO "with_cans" "with_cans" (top 29) .none (VS "thirstwise.gardens" 477) 318
abbrev afq:Obj:=tU #[]
abbrev anL:Obj:=tB #[]
abbrev afr:Obj:=tU #[VS "garden" 612,VS "day" 613]
abbrev afs:Obj:=tU #[]
abbrev anM:Obj:=fB "cans_on" "cans_on" (top 31)
abbrev aft:Obj:=cO #[VS "cans_on" 609,VS "cans_on" 610,cP 611,i0 157,i0 2,i0 0,i0 0,i0 3,.ref 320,.bool true,i0 181,.ref 321,.none,.ref 322,.ref 323,.ref 324,i0 614,i0 157,cP 615]
abbrev afu:Obj:=fO "cans_on" "cans_on" (top 31) .none (VS "thirstwise.choices" 607) 325
abbrev afv:Obj:=tU #[]
abbrev anN:Obj:=tB #[]
abbrev afw:Obj:=tU #[VS "garden" 620,VS "day" 621]
abbrev afx:Obj:=tU #[]
abbrev anO:Obj:=fB "day_behind" "day_behind" (top 32)
abbrev afy:Obj:=cO #[VS "day_behind" 617,VS "day_behind" 618,cP 619,i0 159,i0 2,i0 0,i0 0,i0 3,.ref 327,.bool true,i0 181,.ref 328,.none,.ref 329,.ref 330,.ref 331,i0 622,i0 159,cP 623]
abbrev afz:Obj:=fO "day_behind" "day_behind" (top 32) .none (VS "thirstwise.choices" 607) 332
abbrev afA:Obj:=tU #[]
abbrev anP:Obj:=tB #[]
abbrev anQ:Obj:=fB "without_water" "without_water" (top 33)
abbrev afB:Obj:=cO #[VS "without_water" 625,VS "without_water" 626,cP 627,i0 161,i0 3,i0 0,i0 0,i0 3,.ref 334,.bool true,i0 181,.ref 335,.none,.none,.none,.ref 336,i0 628,i0 161,cP 629]
abbrev afC:Obj:=fO "without_water" "without_water" (top 33) .none (VS "thirstwise.choices" 607) 337
abbrev afD:Obj:=tU #[]
abbrev anR:Obj:=tB #[]
abbrev anS:Obj:=fB "with_water" "with_water" (top 34)
abbrev afE:Obj:=cO #[VS "with_water" 631,VS "with_water" 632,cP 633,i0 165,i0 4,i0 0,i0 0,i0 3,.ref 339,.bool true,i0 181,.ref 340,.none,.none,.none,.ref 341,i0 634,i0 165,cP 635]
abbrev afF:Obj:=fO "with_water" "with_water" (top 34) .none (VS "thirstwise.choices" 607) 342
abbrev afG:Obj:=tU #[]
abbrev anT:Obj:=tB #[]
abbrev anU:Obj:=fB "choices" "choices" (top 35)
abbrev afH:Obj:=cO #[VS "choices" 637,VS "choices" 638,cP 639,i0 169,i0 2,i0 0,i0 0,i0 3,.ref 344,.bool true,i0 181,.ref 345,.none,.none,.none,.ref 346,i0 640,i0 169,cP 641]
abbrev afI:Obj:=fO "choices" "choices" (top 35) .none (VS "thirstwise.choices" 607) 347
abbrev afJ:Obj:=tU #[]
abbrev anV:Obj:=tB #[]
abbrev anW:Obj:=fB "roads" "roads" (top 37)
abbrev afK:Obj:=cO #[VS "roads" 645,VS "roads" 646,cP 647,i0 180,i0 1,i0 0,i0 0,i0 3,.ref 349,.bool true,i0 181,.ref 350,.none,.none,.none,.ref 351,i0 648,i0 180,cP 649]
abbrev afL:Obj:=fO "roads" "roads" (top 37) .none (VS "thirstwise.lives" 643) 352
abbrev afM:Obj:=tU #[]
abbrev anY:Obj:=tB #[]
abbrev anZ:Obj:=fB "table" "table" (top 38)
abbrev afN:Obj:=cO #[VS "table" 651,VS "table" 652,cP 653,i0 191,i0 1,i0 0,i0 0,i0 3,.ref 354,.bool true,i0 181,.ref 355,.none,.none,.none,.ref 356,i0 654,i0 191,cP 655]
abbrev afO:Obj:=fO "table" "table" (top 38) .none (VS "thirstwise.lives" 643) 357
abbrev an0:Obj:=tU #[]
abbrev an1:Obj:={ cls:=.type "builtin_function_or_method",data:=.fields #[.builtin "type.__prepare__",.type "type"] }
noncomputable abbrev an2 (P:Params):Obj:=dO #[dE P "__module__" 664 (VS "thirstwise.lives" 643),dE P "__qualname__" 666 (VS "Lives" 665),dE P "__firstlineno__" 668 (.int 209 667),dE P "__init__" 676 (.ref 372),dE P "days" 684 (.ref 379),dE P "rank" 693 (.ref 386),dE P "best" 702 (.ref 393),dE P "__static_attributes__" 705 (.ref 394)] 8
abbrev an3:Obj:=tU #[]
abbrev an4:Obj:=tB #[i0 211,i0 4,.ref 371,i0 215,i0 4,.ref 378,i0 218,i0 4,.ref 385,i0 222,i0 4,.ref 392]
abbrev an5:Obj:=cO #[VS "Lives" 659,VS "Lives" 660,cP 661,i0 209,i0 0,i0 0,i0 0,i0 0,.ref 362,.bool false,i0 181,.ref 363,.none,.none,.none,.none,i0 662,i0 209,cP 663]
abbrev an6:Obj:=fR #[some (.ref 364),some (.ref 3),some (.ref 361),none,some (VS "thirstwise.lives" 643),none,some (.ref 0)]
abbrev afP:Obj:=tU #[]
abbrev an7:Obj:=tB #[]
abbrev afQ:Obj:=tU #[VS "self" 672,VS "garden" 673]
abbrev afR:Obj:=tU #[]
abbrev an8:Obj:=fB "__init__" "Lives.__init__" (inClass (top 39) 0)
abbrev afS:Obj:=cO #[VS "__init__" 669,VS "Lives.__init__" 670,cP 671,i0 211,i0 2,i0 0,i0 0,i0 3,.ref 366,.bool true,i0 181,.ref 367,.none,.ref 368,.ref 369,.ref 370,i0 674,i0 211,cP 675]
abbrev afT:Obj:=fO "__init__" "Lives.__init__" (inClass (top 39) 0) .none (VS "thirstwise.lives" 643) 371
abbrev afU:Obj:=tU #[]
abbrev an9:Obj:=tB #[]
abbrev afV:Obj:=tU #[VS "self" 680,VS "state" 681]
abbrev afW:Obj:=tU #[]
abbrev o377:Obj:=fB "days" "Lives.days" (inClass (top 39) 1)
abbrev afX:Obj:=cO #[VS "days" 677,VS "Lives.days" 678,cP 679,i0 215,i0 2,i0 0,i0 0,i0 3,.ref 373,.bool true,i0 181,.ref 374,.none,.ref 375,.ref 376,.ref 377,i0 682,i0 215,cP 683]
abbrev afY:Obj:=fO "days" "Lives.days" (inClass (top 39) 1) .none (VS "thirstwise.lives" 643) 378
abbrev afZ:Obj:=tU #[]
abbrev aoa:Obj:=tB #[]
abbrev af0:Obj:=tU #[VS "self" 688,VS "state" 689,VS "days" 690]
abbrev af2:Obj:=tU #[]
abbrev aob:Obj:=fB "rank" "Lives.rank" (inClass (top 39) 2)
abbrev af3:Obj:=cO #[VS "rank" 685,VS "Lives.rank" 686,cP 687,i0 218,i0 2,i0 0,i0 0,i0 3,.ref 380,.bool true,i0 181,.ref 381,.none,.ref 382,.ref 383,.ref 384,i0 691,i0 218,cP 692]
abbrev af4:Obj:=fO "rank" "Lives.rank" (inClass (top 39) 2) .none (VS "thirstwise.lives" 643) 385
abbrev af5:Obj:=tU #[]
abbrev af6:Obj:=tB #[]
abbrev af7:Obj:=tU #[VS "self" 697,VS "state" 698]
abbrev af8:Obj:=tU #[VS "self" 699]
abbrev aoc:Obj:=fB "best" "Lives.best" (inClass (top 39) 3)
abbrev af9:Obj:=cO #[VS "best" 694,VS "Lives.best" 695,cP 696,i0 222,i0 2,i0 0,i0 0,i0 3,.ref 387,.bool true,i0 181,.ref 388,.none,.ref 389,.ref 390,.ref 391,i0 700,i0 222,cP 701]
abbrev aga:Obj:=fO "best" "Lives.best" (inClass (top 39) 3) .none (VS "thirstwise.lives" 643) 392
abbrev agb:Obj:=tU #[VS "counts" 703,VS "garden" 704]
noncomputable abbrev agc (P:Params):Obj:=dO #[dE P "__module__" 664 (VS "thirstwise.lives" 643),dE P "__firstlineno__" 668 (.int 209 667),dE P "__init__" 676 (.ref 372),dE P "days" 684 (.ref 379),dE P "rank" 693 (.ref 386),dE P "best" 702 (.ref 393),dE P "__static_attributes__" 705 (.ref 394),dE P "__dict__" 707 (.ref 397),dE P "__weakref__" 709 (.ref 398),dE P "__doc__" 710 .none] 4
abbrev agd:Obj:={ cls:=.type "type",data:=.cls { name:=SS "Lives",bases:=[.type "object"],mro:=[.ref 396,.type "object"],ns:=395,qualname:=SS "Lives" },slots:=#[none,none,some (VS "Lives" 657),some (VS "Lives" 665),some (.builtin "object.__new__"),some (.bool true)] }
abbrev agf:Obj:={ cls:=.type "getset_descriptor",data:=.fields #[VS "__dict__" 706,.ref 396,.builtin "function.__dict__",.builtin "function.__dict__#set"] }
abbrev agg:Obj:={ cls:=.type "getset_descriptor",data:=.fields #[VS "__weakref__" 708,.ref 396,.builtin "ExceptionGroup.__weakref__",.none] }
abbrev aod:Obj:={ cls:=.type "super",data:=.fields #[.ref 396,.ref 396,.ref 396] }
abbrev o400:Obj:={ cls:=.type "builtin_function_or_method",data:=.fields #[.builtin "object.__init_subclass__",.ref 396] }
abbrev agh:Obj:=tU #[]
abbrev aoe:Obj:=tB #[]
abbrev agi:Obj:=tU #[VS "garden" 716,VS "state" 717]
abbrev agj:Obj:=tU #[]
abbrev aof:Obj:=fB "told_or_fresh" "told_or_fresh" (top 40)
abbrev agk:Obj:=cO #[VS "told_or_fresh" 713,VS "told_or_fresh" 714,cP 715,i0 224,i0 2,i0 0,i0 0,i0 3,.ref 401,.bool true,i0 181,.ref 402,.none,.ref 403,.ref 404,.ref 405,i0 718,i0 224,cP 719]
abbrev agl:Obj:=fO "told_or_fresh" "told_or_fresh" (top 40) .none (VS "thirstwise.lives" 643) 406
abbrev agm:Obj:=tU #[.none]
abbrev agn:Obj:=tU #[]
abbrev aog:Obj:=tB #[]
abbrev ago:Obj:=tU #[VS "garden" 724,VS "state" 725,VS "here" 726]
abbrev agp:Obj:=tU #[]
abbrev aoh:Obj:=fB "days_of" "days_of" (top 41)
abbrev agq:Obj:=cO #[VS "days_of" 721,VS "days_of" 722,cP 723,i0 229,i0 2,i0 0,i0 0,i0 3,.ref 409,.bool true,i0 181,.ref 410,.none,.ref 411,.ref 412,.ref 413,i0 727,i0 229,cP 728]
abbrev agr:Obj:=fO "days_of" "days_of" (top 41) (.ref 408) (VS "thirstwise.lives" 643) 414
abbrev ags:Obj:=tU #[]
abbrev aoi:Obj:=tB #[]
abbrev aoj:Obj:=fB "names_in" "names_in" (top 42)
abbrev agt:Obj:=cO #[VS "names_in" 730,VS "names_in" 731,cP 732,i0 232,i0 2,i0 0,i0 0,i0 3,.ref 416,.bool true,i0 181,.ref 417,.none,.none,.none,.ref 418,i0 733,i0 232,cP 734]
abbrev agu:Obj:=fO "names_in" "names_in" (top 42) .none (VS "thirstwise.lives" 643) 419
abbrev agv:Obj:=tU #[.none]
abbrev agw:Obj:=tU #[]
abbrev aok:Obj:=tB #[]
abbrev agx:Obj:=tU #[VS "garden" 739,VS "state" 740,VS "here" 741,VS "lives" 742,VS "days" 743,VS "seen" 744,VS "found" 745,VS "first" 746]
abbrev agy:Obj:=tU #[]
abbrev aol:Obj:=fB "rounds_of" "rounds_of" (top 43)
abbrev agz:Obj:=cO #[VS "rounds_of" 736,VS "rounds_of" 737,cP 738,i0 234,i0 2,i0 0,i0 0,i0 3,.ref 422,.bool true,i0 181,.ref 423,.none,.ref 424,.ref 425,.ref 426,i0 747,i0 234,cP 748]
abbrev agA:Obj:=fO "rounds_of" "rounds_of" (top 43) (.ref 421) (VS "thirstwise.lives" 643) 427
abbrev agB:Obj:=tU #[]
abbrev aom:Obj:=tB #[]
abbrev agC:Obj:=tU #[VS "_law_script" 755,VS "_law_k" 756]
abbrev agD:Obj:=tU #[]
abbrev aon:Obj:=fB "_law_cell_at" "_law_cell_at" (top 45)
abbrev agE:Obj:=cO #[VS "_law_cell_at" 752,VS "_law_cell_at" 753,cP 754,i0 250,i0 2,i0 0,i0 0,i0 3,.ref 429,.bool true,i0 181,.ref 430,.none,.ref 431,.ref 432,.ref 433,i0 757,i0 250,cP 758]
abbrev agF:Obj:=fO "_law_cell_at" "_law_cell_at" (top 45) .none (VS "law_thirstwise_k04_whole_rounds" 750) 434
abbrev agG:Obj:=tU #[]
abbrev aoo:Obj:=tB #[]
abbrev agH:Obj:=tU #[VS "_law_cell" 763,VS "_law_k" 764,VS "_law_many" 765,VS "_law_primes" 766,VS "_law_blend" 767]
abbrev agI:Obj:=tU #[]
abbrev aop:Obj:=fB "_law_draw" "_law_draw" (top 46)
abbrev agJ:Obj:=cO #[VS "_law_draw" 760,VS "_law_draw" 761,cP 762,i0 254,i0 3,i0 0,i0 0,i0 3,.ref 436,.bool true,i0 181,.ref 437,.none,.ref 438,.ref 439,.ref 440,i0 768,i0 254,cP 769]
abbrev agK:Obj:=fO "_law_draw" "_law_draw" (top 46) .none (VS "law_thirstwise_k04_whole_rounds" 750) 441
abbrev agL:Obj:=tU #[]
abbrev o444:Obj:=tB #[]
abbrev agM:Obj:=tU #[VS "_law_script" 774,VS "_law_first" 775,VS "_law_cell" 776,VS "_law_other" 777,VS "_law_third" 778,VS "_law_count" 779,VS "_law_most" 780,VS "_law_names" 781,VS "_law_pots" 782,VS "_law_k" 783,VS "_law_gap" 784,VS "_law_rest" 785,VS "_law_week" 786,VS "_law_closed" 787]
abbrev agN:Obj:=tU #[]
abbrev aoq:Obj:=fB "_law_spec" "_law_spec" (top 47)
abbrev agO:Obj:=cO #[VS "_law_spec" 771,VS "_law_spec" 772,cP 773,i0 258,i0 2,i0 0,i0 0,i0 3,.ref 443,.bool true,i0 181,.ref 444,.none,.ref 445,.ref 446,.ref 447,i0 788,i0 258,cP 789]
abbrev agP:Obj:=fO "_law_spec" "_law_spec" (top 47) .none (VS "law_thirstwise_k04_whole_rounds" 750) 448
abbrev agQ:Obj:=tU #[]
abbrev aor:Obj:=tB #[]
abbrev agR:Obj:=tU #[VS "_law_spec_here" 794,VS "_law_pots" 795,VS "_law_name" 796,VS "_law_gap" 797,VS "_law_rest" 798]
abbrev agS:Obj:=tU #[]
abbrev aos:Obj:=fB "_law_garden" "_law_garden" (top 48)
abbrev agT:Obj:=cO #[VS "_law_garden" 791,VS "_law_garden" 792,cP 793,i0 286,i0 1,i0 0,i0 0,i0 3,.ref 450,.bool true,i0 181,.ref 451,.none,.ref 452,.ref 453,.ref 454,i0 799,i0 286,cP 800]
abbrev agU:Obj:=fO "_law_garden" "_law_garden" (top 48) .none (VS "law_thirstwise_k04_whole_rounds" 750) 455
abbrev agV:Obj:=tU #[]
abbrev aot:Obj:=tB #[]
abbrev agW:Obj:=tU #[VS "_law_spec_here" 805,VS "_law_state" 806,VS "_law_wet" 807,VS "_law_pots" 808,VS "_law_cans" 809,VS "_law_week" 810,VS "_law_closed" 811,VS "_law_day" 812,VS "_law_since" 813,VS "_law_k" 814,VS "_law_found" 815,VS "_law_far" 816]
abbrev agX:Obj:=tU #[]
abbrev aou:Obj:=fB "_law_behind" "_law_behind" (top 49)
abbrev agY:Obj:=cO #[VS "_law_behind" 802,VS "_law_behind" 803,cP 804,i0 294,i0 3,i0 0,i0 0,i0 3,.ref 457,.bool true,i0 181,.ref 458,.none,.ref 459,.ref 460,.ref 461,i0 817,i0 294,cP 818]
abbrev agZ:Obj:=fO "_law_behind" "_law_behind" (top 49) .none (VS "law_thirstwise_k04_whole_rounds" 750) 462
abbrev ag0:Obj:=tU #[]
abbrev aov:Obj:=tB #[]
abbrev aow:Obj:=fB "_law_steps" "_law_steps" (top 50)
abbrev ag1:Obj:=cO #[VS "_law_steps" 820,VS "_law_steps" 821,cP 822,i0 309,i0 2,i0 0,i0 0,i0 3,.ref 464,.bool true,i0 181,.ref 465,.none,.none,.none,.ref 466,i0 823,i0 309,cP 824]
abbrev ag2:Obj:=fO "_law_steps" "_law_steps" (top 50) .none (VS "law_thirstwise_k04_whole_rounds" 750) 467
abbrev ag3:Obj:=tU #[]
abbrev aox:Obj:=tB #[]
abbrev ag4:Obj:=tU #[VS "_law_spec_here" 829,VS "_law_state" 830,VS "_law_found" 831,VS "_law_k" 832]
abbrev ag5:Obj:=tU #[]
abbrev aoy:Obj:=fB "_law_number" "_law_number" (top 51)
abbrev ag6:Obj:=cO #[VS "_law_number" 826,VS "_law_number" 827,cP 828,i0 317,i0 2,i0 0,i0 0,i0 3,.ref 469,.bool true,i0 181,.ref 470,.none,.ref 471,.ref 472,.ref 473,i0 833,i0 317,cP 834]
abbrev ag7:Obj:=fO "_law_number" "_law_number" (top 51) .none (VS "law_thirstwise_k04_whole_rounds" 750) 474
abbrev ag8:Obj:=tU #[]
abbrev aoz:Obj:=tB #[]
abbrev aoA:Obj:=fB "_law_states" "_law_states" (top 52)
abbrev ag9:Obj:=cO #[VS "_law_states" 836,VS "_law_states" 837,cP 838,i0 322,i0 1,i0 0,i0 0,i0 3,.ref 476,.bool true,i0 181,.ref 477,.none,.none,.none,.ref 478,i0 839,i0 322,cP 840]
abbrev aha:Obj:=fO "_law_states" "_law_states" (top 52) .none (VS "law_thirstwise_k04_whole_rounds" 750) 479
abbrev ahb:Obj:=tU #[]
abbrev aoB:Obj:=tB #[]
abbrev aoC:Obj:=fB "_law_best" "_law_best" (top 53)
abbrev ahc:Obj:=cO #[VS "_law_best" 842,VS "_law_best" 843,cP 844,i0 333,i0 3,i0 0,i0 0,i0 3,.ref 481,.bool true,i0 181,.ref 482,.none,.none,.none,.ref 483,i0 845,i0 333,cP 846]
abbrev ahd:Obj:=fO "_law_best" "_law_best" (top 53) .none (VS "law_thirstwise_k04_whole_rounds" 750) 484
abbrev ahe:Obj:=tU #[]
abbrev aoD:Obj:=tB #[]
abbrev aoE:Obj:=fB "_law_due" "_law_due" (top 54)
abbrev ahf:Obj:=cO #[VS "_law_due" 848,VS "_law_due" 849,cP 850,i0 343,i0 3,i0 0,i0 0,i0 3,.ref 486,.bool true,i0 181,.ref 487,.none,.none,.none,.ref 488,i0 851,i0 343,cP 852]
abbrev ahg:Obj:=fO "_law_due" "_law_due" (top 54) .none (VS "law_thirstwise_k04_whole_rounds" 750) 489
abbrev ahh:Obj:=tU #[]
abbrev aoF:Obj:=tB #[]
abbrev ahi:Obj:=tU #[VS "_law_error" 857,VS "_law_found" 858]
abbrev ahj:Obj:=tU #[]
abbrev aoG:Obj:=fB "_law_sorts" "_law_sorts" (top 55)
abbrev ahk:Obj:=cO #[VS "_law_sorts" 854,VS "_law_sorts" 855,cP 856,i0 355,i0 1,i0 0,i0 0,i0 3,.ref 491,.bool true,i0 181,.ref 492,.none,.ref 493,.ref 494,.ref 495,i0 859,i0 355,cP 860]
abbrev ahl:Obj:=fO "_law_sorts" "_law_sorts" (top 55) .none (VS "law_thirstwise_k04_whole_rounds" 750) 496
abbrev ahm:Obj:=tU #[]
abbrev aoH:Obj:=tB #[]
abbrev ahn:Obj:=tU #[VS "_law_garden_here" 865,VS "_law_lives" 866,VS "_law_way" 867,VS "_law_state" 868,VS "_law_error" 869]
abbrev aho:Obj:=tU #[]
abbrev aoI:Obj:=fB "_law_no_state" "_law_no_state" (top 56)
abbrev ahp:Obj:=cO #[VS "_law_no_state" 862,VS "_law_no_state" 863,cP 864,i0 358,i0 3,i0 0,i0 0,i0 3,.ref 498,.bool true,i0 181,.ref 499,.none,.ref 500,.ref 501,.ref 502,i0 870,i0 358,cP 871]
abbrev ahq:Obj:=fO "_law_no_state" "_law_no_state" (top 56) .none (VS "law_thirstwise_k04_whole_rounds" 750) 503
abbrev ahr:Obj:=tU #[]
abbrev aoJ:Obj:=tB #[]
abbrev ahs:Obj:=tU #[VS "_law_script" 876,VS "_law_spec_here" 877,VS "_law_garden_here" 878,VS "_law_days" 879,VS "_law_lives" 880,VS "_law_states_here" 881,VS "_law_cell" 882,VS "_law_state" 883,VS "_law_due_here" 884,VS "_law_found" 885,VS "_law_row" 886]
abbrev aht:Obj:=tU #[]
abbrev aoK:Obj:=fB "law" "law" (top 57)
abbrev ahu:Obj:=cO #[VS "law" 873,VS "law" 874,cP 875,i0 372,i0 1,i0 0,i0 0,i0 3,.ref 505,.bool true,i0 181,.ref 506,.none,.ref 507,.ref 508,.ref 509,i0 887,i0 372,cP 888]
abbrev ahv:Obj:=fO "law" "law" (top 57) .none (VS "law_thirstwise_k04_whole_rounds" 750) 510
noncomputable def KK:Params->Frag:=fun P=>(nat_lit 2,(boot_o_2 P))::(nat_lit 3,(adl P))::(nat_lit 15,o15)::(nat_lit 17,o17)::(nat_lit 18,o18)::(nat_lit 20,o20)::(nat_lit 22,o22)::(nat_lit 24,o24)::(nat_lit 25,o25)::(nat_lit 27,o27)::(nat_lit 28,o28)::(nat_lit 29,o29)::(nat_lit 31,o31)::(nat_lit 32,o32)::(nat_lit 34,o34)::(nat_lit 35,o35)::(nat_lit 36,o36)::(nat_lit 43,o43)::(nat_lit 44,(o44 P))::(nat_lit 45,o45)::(nat_lit 46,o46)::(nat_lit 49,o49)::(nat_lit 56,o56)::(nat_lit 57,(o57 P))::(nat_lit 58,o58)::(nat_lit 61,o61)::(nat_lit 68,o68)::(nat_lit 70,o70)::(nat_lit 71,o71)::(nat_lit 73,o73)::(nat_lit 74,o74)::(nat_lit 75,o75)::(nat_lit 76,(o76 P))::(nat_lit 77,o77)::(nat_lit 80,o80)::(nat_lit 87,o87)::(nat_lit 88,(o88 P))::(nat_lit 89,o89)::(nat_lit 92,o92)::(nat_lit 99,o99)::(nat_lit 100,(o100 P))::(nat_lit 101,Xg)::(nat_lit 104,Xh)::(nat_lit 111,o111)::(nat_lit 112,(Xi P))::(nat_lit 113,Xj)::(nat_lit 116,Xk)::(nat_lit 123,Xl)::(nat_lit 125,Xm)::(nat_lit 126,Xn)::(nat_lit 128,Xo)::(nat_lit 129,Xp)::(nat_lit 130,Xq)::(nat_lit 131,(Xr P))::(nat_lit 132,Xu)::(nat_lit 135,Xv)::(nat_lit 138,Xw)::(nat_lit 139,Xx)::(nat_lit 147,Xy)::(nat_lit 149,Xz)::(nat_lit 150,XD)::(nat_lit 152,XF)::(nat_lit 153,XH)::(nat_lit 154,XJ)::(nat_lit 156,XM)::(nat_lit 157,XQ)::(nat_lit 159,XR)::(nat_lit 160,XS)::(nat_lit 161,X3)::(nat_lit 163,X4)::(nat_lit 164,X5)::(nat_lit 166,X6)::(nat_lit 168,X7)::(nat_lit 170,X8)::(nat_lit 171,Yb)::(nat_lit 173,Yc)::(nat_lit 174,Yd)::(nat_lit 175,Ye)::(nat_lit 177,Yg)::(nat_lit 178,Yh)::(nat_lit 180,Yi)::(nat_lit 182,Yj)::(nat_lit 183,(Yk P))::(nat_lit 184,JC)::(nat_lit 185,Yl)::(nat_lit 186,Ym)::(nat_lit 189,ad6)::(nat_lit 196,ad7)::(nat_lit 198,ad8)::(nat_lit 199,ad9)::(nat_lit 201,aea)::(nat_lit 202,aeb)::(nat_lit 203,aec)::(nat_lit 205,aed)::(nat_lit 206,aee)::(nat_lit 208,aef)::(nat_lit 209,aeg)::(nat_lit 210,aeh)::(nat_lit 212,aei)::(nat_lit 213,aej)::(nat_lit 215,aek)::(nat_lit 217,ael)::(nat_lit 219,aem)::(nat_lit 220,aen)::(nat_lit 222,aeo)::(nat_lit 223,aep)::(nat_lit 224,aer)::(nat_lit 226,aes)::(nat_lit 227,aeu)::(nat_lit 229,aev)::(nat_lit 231,aew)::(nat_lit 232,(aex P))::(nat_lit 233,aey)::(nat_lit 236,aez)::(nat_lit 239,aeA)::(nat_lit 240,aeB)::(nat_lit 241,aeC)::(nat_lit 243,aeD)::(nat_lit 244,aeE)::(nat_lit 246,aeF)::(nat_lit 247,aeG)::(nat_lit 248,aeH)::(nat_lit 251,aeI)::(nat_lit 252,aeJ)::(nat_lit 253,aeK)::(nat_lit 256,aeL)::(nat_lit 257,aeM)::(nat_lit 258,aeN)::(nat_lit 260,aeO)::(nat_lit 261,aeP)::(nat_lit 263,aeQ)::(nat_lit 264,aeR)::(nat_lit 272,aeS)::(nat_lit 273,aeT)::(nat_lit 275,aeU)::(nat_lit 276,aeV)::(nat_lit 278,aeW)::(nat_lit 279,aeX)::(nat_lit 280,aeY)::(nat_lit 282,aeZ)::(nat_lit 283,ae0)::(nat_lit 285,ae1)::(nat_lit 286,ae2)::(nat_lit 287,ae3)::(nat_lit 289,ae4)::(nat_lit 290,ae5)::(nat_lit 292,ae6)::(nat_lit 293,ae7)::(nat_lit 294,ae8)::(nat_lit 296,ae9)::(nat_lit 297,afa)::(nat_lit 299,afb)::(nat_lit 300,o300)::(nat_lit 301,afc)::(nat_lit 304,afd)::(nat_lit 305,afe)::(nat_lit 306,afg)::(nat_lit 307,(afh P))::(nat_lit 308,afi)::(nat_lit 309,afj)::(nat_lit 310,afk)::(nat_lit 313,afl)::(nat_lit 315,afm)::(nat_lit 316,afn)::(nat_lit 318,afo)::(nat_lit 319,afp)::(nat_lit 320,afq)::(nat_lit 322,afr)::(nat_lit 323,afs)::(nat_lit 325,aft)::(nat_lit 326,afu)::(nat_lit 327,afv)::(nat_lit 329,afw)::(nat_lit 330,afx)::(nat_lit 332,afy)::(nat_lit 333,afz)::(nat_lit 334,afA)::(nat_lit 337,afB)::(nat_lit 338,afC)::(nat_lit 339,afD)::(nat_lit 342,afE)::(nat_lit 343,afF)::(nat_lit 344,afG)::(nat_lit 347,afH)::(nat_lit 348,afI)::(nat_lit 349,afJ)::(nat_lit 352,afK)::(nat_lit 353,afL)::(nat_lit 354,afM)::(nat_lit 357,afN)::(nat_lit 358,afO)::(nat_lit 366,afP)::(nat_lit 368,afQ)::(nat_lit 369,afR)::(nat_lit 371,afS)::(nat_lit 372,afT)::(nat_lit 373,afU)::(nat_lit 375,afV)::(nat_lit 376,afW)::(nat_lit 378,afX)::(nat_lit 379,afY)::(nat_lit 380,afZ)::(nat_lit 382,af0)::(nat_lit 383,af2)::(nat_lit 385,af3)::(nat_lit 386,af4)::(nat_lit 387,af5)::(nat_lit 389,af7)::(nat_lit 390,af8)::(nat_lit 392,af9)::(nat_lit 393,aga)::(nat_lit 394,agb)::(nat_lit 395,(agc P))::(nat_lit 396,agd)::(nat_lit 397,agf)::(nat_lit 398,agg)::(nat_lit 401,agh)::(nat_lit 403,agi)::(nat_lit 404,agj)::(nat_lit 406,agk)::(nat_lit 407,agl)::(nat_lit 408,agm)::(nat_lit 409,agn)::(nat_lit 411,ago)::(nat_lit 412,agp)::(nat_lit 414,agq)::(nat_lit 415,agr)::(nat_lit 416,ags)::(nat_lit 419,agt)::(nat_lit 420,agu)::(nat_lit 421,agv)::(nat_lit 422,agw)::(nat_lit 424,agx)::(nat_lit 425,agy)::(nat_lit 427,agz)::(nat_lit 428,agA)::(nat_lit 429,agB)::(nat_lit 431,agC)::(nat_lit 432,agD)::(nat_lit 434,agE)::(nat_lit 435,agF)::(nat_lit 436,agG)::(nat_lit 438,agH)::(nat_lit 439,agI)::(nat_lit 441,agJ)::(nat_lit 442,agK)::(nat_lit 443,agL)::(nat_lit 445,agM)::(nat_lit 446,agN)::(nat_lit 448,agO)::(nat_lit 449,agP)::(nat_lit 450,agQ)::(nat_lit 452,agR)::(nat_lit 453,agS)::(nat_lit 455,agT)::(nat_lit 456,agU)::(nat_lit 457,agV)::(nat_lit 459,agW)::(nat_lit 460,agX)::(nat_lit 462,agY)::(nat_lit 463,agZ)::(nat_lit 464,ag0)::(nat_lit 467,ag1)::(nat_lit 468,ag2)::(nat_lit 469,ag3)::(nat_lit 471,ag4)::(nat_lit 472,ag5)::(nat_lit 474,ag6)::(nat_lit 475,ag7)::(nat_lit 476,ag8)::(nat_lit 479,ag9)::(nat_lit 480,aha)::(nat_lit 481,ahb)::(nat_lit 484,ahc)::(nat_lit 485,ahd)::(nat_lit 486,ahe)::(nat_lit 489,ahf)::(nat_lit 490,ahg)::(nat_lit 491,ahh)::(nat_lit 493,ahi)::(nat_lit 494,ahj)::(nat_lit 496,ahk)::(nat_lit 497,ahl)::(nat_lit 498,ahm)::(nat_lit 500,ahn)::(nat_lit 501,aho)::(nat_lit 503,ahp)::(nat_lit 504,ahq)::(nat_lit 505,ahr)::(nat_lit 507,ahs)::(nat_lit 508,aht)::(nat_lit 510,ahu)::(nat_lit 511,ahv)::[]
abbrev aPB:aA:=nat_lit 388
abbrev aCB:aA:=nat_lit 392
def KF:Params->Frag:=fun P=>(nat_lit 388,af6)::KK P
noncomputable def addrs:List aA:=[388,2,3,15,17,18,20,22,24,25,27,28,29,31,32,34,35,36,43,44,45,46,49,56,57,58,61,68,70,71,73,74,75,76,77,80,87,88,89,92,99,100,101,104,111,112,113,116,123,125,126,128,129,130,131,132,135,138,139,147,149,150,152,153,154,156,157,159,160,161,163,164,166,168,170,171,173,174,175,177,178,180,182,183,184,185,186,189,196,198,199,201,202,203,205,206,208,209,210,212,213,215,217,219,220,222,223,224,226,227,229,231,232,233,236,239,240,241,243,244,246,247,248,251,252,253,256,257,258,260,261,263,264,272,273,275,276,278,279,280,282,283,285,286,287,289,290,292,293,294,296,297,299,300,301,304,305,306,307,308,309,310,313,315,316,318,319,320,322,323,325,326,327,329,330,332,333,334,337,338,339,342,343,344,347,348,349,352,353,354,357,358,366,368,369,371,372,373,375,376,378,379,380,382,383,385,386,387,389,390,392,393,394,395,396,397,398,401,403,404,406,407,408,409,411,412,414,415,416,419,420,421,422,424,425,427,428,429,431,432,434,435,436,438,439,441,442,443,445,446,448,449,450,452,453,455,456,457,459,460,462,463,464,467,468,469,471,472,474,475,476,479,480,481,484,485,486,489,490,491,493,494,496,497,498,500,501,503,504,505,507,508,510,511]
abbrev LO:List Str:=["days_of","rounds_of"]
noncomputable def view:cC:={ PySem.Challenge.pw_thirstwise_k04_whole_rounds with main:={ PySem.Challenge.pw_thirstwise_k04_whole_rounds.main with body:=[top 0,top 2,top 3,top 5,top 6,top 7,top 8,top 9,top 10,top 11,top 13,top 14,top 15,top 16,top 17,top 19,top 20,top 21,top 22,top 23,top 24,top 25,top 26,top 27,top 28,top 29,top 31,top 32,top 33,top 34,top 35,top 37,top 38,top 39,top 40,top 42,top 45,top 46,top 47,top 48,top 49,top 50,top 51,top 52,top 53,top 54,top 55,top 56,top 57] } }
abbrev ANN:Option aB:=some (Value.ref 6)
abbrev QQ:Pos:={ line:=0,col:=0,endLine:=0,endCol:=0 }
abbrev BODY:List dW:=behindTheImports PySem.Challenge.pw_thirstwise_k04_whole_rounds
abbrev ENV:Env:={ scope:=PySem.Challenge.pw_thirstwise_k04_whole_rounds.main.scope,locals:=mainNs,globals:=mainNs,cells:=[],code:=Value.ref 13,frame:=some 14 }
abbrev CE:Code:=Code.body BODY ENV
abbrev aDA:Life:={ }
abbrev aoM:Life:={ }
def aaT:Params->Heap:=fun P=>Heap.mk (Array.mk [(boot_o_0 P),(boot_o_1 P),(boot_o_2 P),(boot_o_3 P),(boot_o_4 P),(boot_o_5 P),(boot_o_6 P),(boot_o_7 P),(boot_o_8 P),(boot_o_9 P),(boot_o_10 P),o11,o12,o13,o14]) aoM
abbrev aaU:Life:={ }
def aaV:Params->BT:=fun P=>(nD (boot_o_0 P) (nD (boot_o_1 P) (nD (boot_o_3 P) (lF (boot_o_7 P)) (lF o11)) (nD (boot_o_5 P) (lF (boot_o_9 P)) (lF o13))) (nD (boot_o_2 P) (nD (boot_o_4 P) (lF (boot_o_8 P)) (lF o12)) (nD (boot_o_6 P) (lF (boot_o_10 P)) (lF o14))))
abbrev aaW:Life:={ }
noncomputable def aaX:Params->BT:=fun P=>(nD (boot_o_0 P) (nD (boot_o_1 P) (nD (ayp P) (nD (boot_o_7 P) (nD o15 (nD o31 (nD (o63 P) (lF adG) .nil) (nD o95 (lF XR) .nil)) (nD o47 (nD o79 (lF adO) .nil) (nD o111 (lF Ye) .nil))) (nD o23 (nD o39 (nD o71 (lF Xv) .nil) (nD ado (lF adY) .nil)) (nD o55 (nD o87 (lF adT) .nil) (nD adB (lF (Yk P)) .nil)))) (nD o11 (nD o19 (nD o35 (nD o67 (lF (Xr P)) .nil) (nD o99 (lF X4) .nil)) (nD (o51 P) (nD o83 (lF Xy) .nil) (nD ady (lF ad2) .nil))) (nD o27 (nD o43 (nD o75 (lF Xx) .nil) (nD adt (lF Yb) .nil)) (nD o59 (nD o91 (lF adU) .nil) (nD Xl (lF ad4) .nil))))) (nD (boot_o_5 P) (nD (boot_o_9 P) (nD o17 (nD o33 (nD o65 (lF Xp) .nil) (nD o97 (lF X3) .nil)) (nD o49 (nD o81 (lF adQ) .nil) (nD Xj (lF Yg) .nil))) (nD o25 (nD o41 (nD o73 (lF adK) .nil) (nD adp (lF adZ) .nil)) (nD (o57 P) (nD o89 (lF XH) .nil) (nD adD (lF Yl) .nil)))) (nD o13 (nD o21 (nD o37 (nD o69 (lF adH) .nil) (nD Xg (lF adX) .nil)) (nD o53 (nD o85 (lF Xz) .nil) (nD adz (lF ad3) .nil))) (nD o29 (nD o45 (nD o77 (lF adM) .nil) (nD adv (lF Yc) .nil)) (nD o61 (nD o93 (lF XQ) .nil) (lF Xm)))))) (nD (boot_o_2 P) (nD (boot_o_4 P) (nD (boot_o_8 P) (nD o16 (nD o32 (nD o64 (lF Xo) .nil) (nD o96 (lF XS) .nil)) (nD o48 (nD o80 (lF adP) .nil) (nD (Xi P) (lF ad1) .nil))) (nD o24 (nD o40 (nD o72 (lF adJ) .nil) (nD Xh (lF X7) .nil)) (nD o56 (nD (o88 P) (lF XF) .nil) (nD adC (lF azb) .nil)))) (nD amQ (nD o20 (nD o36 (nD o68 (lF Xu) .nil) (nD (o100 P) (lF X5) .nil)) (nD o52 (nD o84 (lF adS) .nil) (nD Xk (lF Yi) .nil))) (nD o28 (nD (o44 P) (nD (o76 P) (lF adL) .nil) (nD adu (lF ad0) .nil)) (nD o60 (nD o92 (lF XM) .nil) (nD adF (lF ad5) .nil))))) (nD (boot_o_6 P) (nD (boot_o_10 P) (nD o18 (nD o34 (nD o66 (lF Xq) .nil) (nD o98 (lF adW) .nil)) (nD o50 (nD (o82 P) (lF adR) .nil) (nD adx (lF Yh) .nil))) (nD o26 (nD o42 (nD o74 (lF Xw) .nil) (nD (adq P) (lF X8) .nil)) (nD o58 (nD o90 (lF XJ) .nil) (nD adE (lF Ym) .nil)))) (nD o14 (nD o22 (nD (o38 P) (nD o70 (lF adI) .nil) (nD adn (lF X6) .nil)) (nD o54 (nD o86 (lF XD) .nil) (nD (adA P) (lF Yj) .nil))) (nD o30 (nD o46 (nD o78 (lF (adN P)) .nil) (nD adw (lF Yd) .nil)) (nD o62 (nD (o94 P) (lF adV) .nil) (lF Xn)))))))
abbrev aaY:Life:={ }
noncomputable def aaZ:Params->BT:=fun P=>(nD (boot_o_0 P) (nD (boot_o_1 P) (nD (adl P) (nD (boot_o_7 P) (nD o15 (nD o31 (nD (o63 P) (nD adG (nD ank (lF ahv) .nil) (lF af2)) (nD (amU P) (lF afp) (lF aoq))) (nD o95 (nD XR (lF ae3) (lF agr)) (nD aep (lF anW) (lF ag9)))) (nD o47 (nD o79 (nD adO (lF anv) (lF aod)) (nD am1 (lF anP) (lF agZ))) (nD o111 (nD Ye (lF anG) (lF agC)) (nD aeA (lF an7) (lF aoG))))) (nD o23 (nD o39 (nD o71 (nD Xv (lF aeQ) (lF aoc)) (nD ad9 (lF afv) (lF agT))) (nD ado (nD adY (lF anD) (lF aok)) (nD aew (lF an0) (lF aoD)))) (nD o55 (nD o87 (nD adT (lF aeX) (lF agl)) (nD aek (lF afF) (lF ag4))) (nD adB (nD (Yk P) (lF anH) (lF agI)) (nD aeG (lF afV) (lF ahp)))))) (nD o11 (nD o19 (nD o35 (nD o67 (nD (Xr P) (lF anl) (lF af5)) (nD amY (lF afs) (lF aor))) (nD o99 (nD X4 (lF anC) (lF agt)) (nD aeu (lF anY) (lF aoC)))) (nD (o51 P) (nD o83 (nD Xy (lF aeU) (lF agi)) (nD am2 (lF afD) (lF ag1))) (nD ady (nD ad2 (lF (afh P)) (lF agF)) (nD aeD (lF afS) (lF aoH))))) (nD o27 (nD o43 (nD o75 (nD Xx (lF (anq P)) (lF (agc P))) (nD aec (lF anO) (lF agW))) (nD adt (nD Yb (lF afb) (lF agz)) (nD anb (lF an4) (lF ahh)))) (nD o59 (nD o91 (nD adU (lF ae0) (lF ago)) (nD aem (lF afH) (lF ag7))) (nD Xl (nD ad4 (lF afm) (lF agL)) (nD aeI (lF afY) (lF ahs))))))) (nD (boot_o_5 P) (nD (boot_o_9 P) (nD o17 (nD o33 (nD o65 (nD Xp (lF aeM) (lF af3)) (nD amW (lF anL) (lF agP))) (nD o97 (nD X3 (lF ae4) (lF aoi)) (nD am7 (lF afL) (lF ahb)))) (nD o49 (nD o81 (nD adQ (lF aeT) (lF agh)) (nD aeg (lF afB) (lF aov))) (nD Xj (nD Yg (lF afe) (lF aon)) (nD aeC (lF afR) (lF ahl))))) (nD o25 (nD o41 (nD o73 (nD adK (lF ano) (lF aga)) (nD aea (lF afw) (lF agV))) (nD adp (nD adZ (lF afa) (lF agy)) (nD aey (lF (an2 P)) (lF ahf)))) (nD (o57 P) (nD o89 (nD XH (lF anz) (lF agn)) (nD ael (lF anT) (lF aoy))) (nD adD (nD Yl (lF afl) (lF agJ)) (nD anh (lF o377) (lF ahr)))))) (nD o13 (nD o21 (nD o37 (nD o69 (nD adH (lF aeP) (lF af7)) (nD amZ (lF aft) (lF agS))) (nD Xg (nD adX (lF ae7) (lF agv)) (nD aev (lF afN) (lF ahd)))) (nD o53 (nD o85 (nD Xz (lF anx) (lF aof)) (nD aej (lF anS) (lF ag3))) (nD adz (nD ad3 (lF afj) (lF aoo)) (nD ang (lF afU) (lF aho))))) (nD o29 (nD o45 (nD o77 (nD adM (lF ant) (lF agf)) (nD aed (lF afz) (lF aou))) (nD adv (nD Yc (lF afc) (lF agB)) (nD anc (lF an6) (lF ahi)))) (nD o61 (nD o93 (nD XQ (lF ae1) (lF aoh)) (nD am6 (lF afJ) (lF aoz))) (nD Xm (nD ad6 (lF anK) (lF agM)) (nD aeK (lF aoa) (lF aoK)))))))) (nD (boot_o_2 P) (nD (boot_o_4 P) (nD (boot_o_8 P) (nD o16 (nD o32 (nD o64 (nD Xo (lF aeL) (lF aob)) (nD amV (lF afq) (lF agO))) (nD o96 (nD XS (lF anB) (lF ags)) (nD aer (lF afK) (lF aha)))) (nD o48 (nD o80 (nD adP (lF aeS) (lF o400)) (nD aef (lF anQ) (lF ag0))) (nD (Xi P) (nD ad1 (lF afd) (lF agD)) (nD aeB (lF afQ) (lF ahk))))) (nD o24 (nD o40 (nD o72 (nD adJ (lF aeR) (lF af9)) (nD o200 (lF anN) (lF agU))) (nD Xh (nD X7 (lF ae9) (lF agx)) (nD (aex P) (lF an1) (lF aoE)))) (nD o56 (nD (o88 P) (nD XF (lF aeY) (lF agm)) (nD am4 (lF afG) (lF ag5))) (nD adC (nD JC (lF anI) (lF aop)) (nD aeH (lF afW) (lF ahq)))))) (nD aaS (nD o20 (nD o36 (nD o68 (nD Xu (lF aeO) (lF af6)) (nD ad7 (lF anM) (lF agR))) (nD (o100 P) (nD X5 (lF ae6) (lF agu)) (nD am8 (lF anZ) (lF ahc)))) (nD o52 (nD o84 (nD adS (lF aeV) (lF agj)) (nD aei (lF anR) (lF ag2))) (nD Xk (nD Yi (lF afi) (lF agG)) (nD aeE (lF afT) (lF ahn))))) (nD o28 (nD (o44 P) (nD (o76 P) (nD adL (lF anr) (lF agd)) (nD am0 (lF afy) (lF agX))) (nD adu (nD ad0 (lF o300) (lF agA)) (nD aez (lF an5) (lF aoF)))) (nD o60 (nD o92 (nD XM (lF anA) (lF agp)) (nD aen (lF afI) (lF ag8))) (nD adF (nD ad5 (lF afn) (lF o444)) (nD aeJ (lF afZ) (lF aht))))))) (nD (boot_o_6 P) (nD (boot_o_10 P) (nD o18 (nD o34 (nD o66 (nD Xq (lF aeN) (lF af4)) (nD amX (lF afr) (lF agQ))) (nD o98 (nD adW (lF ae5) (lF aoj)) (nD aes (lF afM) (lF aoB)))) (nD o50 (nD (o82 P) (nD adR (lF anw) (lF aoe)) (nD aeh (lF afC) (lF aow))) (nD adx (nD Yh (lF afg) (lF agE)) (nD anf (lF an8) (lF ahm))))) (nD o26 (nD o42 (nD o74 (nD Xw (lF anp) (lF agb)) (nD aeb (lF afx) (lF aot))) (nD (adq P) (nD X8 (lF anE) (lF aol)) (nD ana (lF an3) (lF ahg)))) (nD o58 (nD o90 (nD XJ (lF aeZ) (lF aog)) (nD am5 (lF anU) (lF ag6))) (nD adE (nD Ym (lF anJ) (lF agK)) (nD ani (lF afX) (lF aoJ)))))) (nD o14 (nD o22 (nD (o38 P) (nD o70 (nD adI (lF anm) (lF af8)) (nD ad8 (lF afu) (lF aos))) (nD adn (nD X6 (lF ae8) (lF agw)) (nD am9 (lF afO) (lF ahe)))) (nD o54 (nD o86 (nD XD (lF aeW) (lF agk)) (nD am3 (lF afE) (lF aox))) (nD (adA P) (nD Yj (lF afk) (lF agH)) (nD aeF (lF an9) (lF aoI))))) (nD o30 (nD o46 (nD o78 (nD (adN P) (lF anu) (lF agg)) (nD aee (lF afA) (lF agY))) (nD adw (nD Yd (lF anF) (lF aom)) (nD ane (lF afP) (lF ahj)))) (nD o62 (nD (o94 P) (nD adV (lF ae2) (lF agq)) (nD aeo (lF anV) (lF aoA))) (nD Xn (nD amT (lF afo) (lF agN)) (nD anj (lF af0) (lF ahu)))))))))
abbrev aoN:Life:={ }
noncomputable def uW:Params->Heap:=fun P=>Heap.mk (Array.mk [(boot_o_0 P),(boot_o_1 P),(boot_o_2 P),(adl P),(boot_o_4 P),(boot_o_5 P),(boot_o_6 P),(boot_o_7 P),(boot_o_8 P),(boot_o_9 P),(boot_o_10 P),o11,aaS,o13,o14,o15,o16,o17,o18,o19,o20,o21,o22,o23,o24,o25,o26,o27,o28,o29,o30,o31,o32,o33,o34,o35,o36,o37,(o38 P),o39,o40,o41,o42,o43,(o44 P),o45,o46,o47,o48,o49,o50,(o51 P),o52,o53,o54,o55,o56,(o57 P),o58,o59,o60,o61,o62,(o63 P),o64,o65,o66,o67,o68,o69,o70,o71,o72,o73,o74,o75,(o76 P),o77,o78,o79,o80,o81,(o82 P),o83,o84,o85,o86,o87,(o88 P),o89,o90,o91,o92,o93,(o94 P),o95,o96,o97,o98,o99,(o100 P),Xg,adn,ado,Xh,adp,(adq P),adt,adu,adv,adw,o111,(Xi P),Xj,adx,ady,Xk,adz,(adA P),adB,adC,adD,adE,Xl,adF,Xm,Xn,adG,Xo,Xp,Xq,(Xr P),Xu,adH,adI,Xv,adJ,adK,Xw,Xx,adL,adM,(adN P),adO,adP,adQ,adR,Xy,adS,Xz,XD,adT,XF,XH,XJ,adU,XM,XQ,adV,XR,XS,X3,adW,X4,X5,adX,X6,adY,X7,adZ,X8,Yb,ad0,Yc,Yd,Ye,ad1,Yg,Yh,ad2,Yi,ad3,Yj,(Yk P),JC,Yl,Ym,ad4,ad5,ad6,amT,(amU P),amV,amW,amX,amY,ad7,amZ,ad8,ad9,o200,aea,aeb,aec,am0,aed,aee,am1,aef,aeg,aeh,am2,aei,aej,am3,aek,am4,ael,am5,aem,aen,am6,aeo,aep,aer,am7,aes,aeu,am8,aev,am9,aew,(aex P),aey,ana,anb,aez,anc,ane,aeA,aeB,aeC,anf,aeD,aeE,ang,aeF,aeG,aeH,anh,ani,aeI,aeJ,aeK,anj,ank,aeL,aeM,aeN,anl,aeO,aeP,anm,aeQ,aeR,ano,anp,(anq P),anr,ant,anu,anv,aeS,aeT,anw,aeU,aeV,anx,aeW,aeX,aeY,anz,aeZ,ae0,anA,ae1,ae2,ae3,anB,ae4,ae5,anC,ae6,ae7,ae8,anD,ae9,afa,anE,afb,o300,afc,anF,anG,afd,afe,afg,(afh P),afi,afj,afk,anH,anI,afl,anJ,afm,afn,anK,afo,afp,afq,anL,afr,afs,anM,aft,afu,afv,anN,afw,afx,anO,afy,afz,afA,anP,anQ,afB,afC,afD,anR,anS,afE,afF,afG,anT,anU,afH,afI,afJ,anV,anW,afK,afL,afM,anY,anZ,afN,afO,an0,an1,(an2 P),an3,an4,an5,an6,afP,an7,afQ,afR,an8,afS,afT,afU,an9,afV,afW,o377,afX,afY,afZ,aoa,af0,af2,aob,af3,af4,af5,af6,af7,af8,aoc,af9,aga,agb,(agc P),agd,agf,agg,aod,o400,agh,aoe,agi,agj,aof,agk,agl,agm,agn,aog,ago,agp,aoh,agq,agr,ags,aoi,aoj,agt,agu,agv,agw,aok,agx,agy,aol,agz,agA,agB,aom,agC,agD,aon,agE,agF,agG,aoo,agH,agI,aop,agJ,agK,agL,o444,agM,agN,aoq,agO,agP,agQ,aor,agR,agS,aos,agT,agU,agV,aot,agW,agX,aou,agY,agZ,ag0,aov,aow,ag1,ag2,ag3,aox,ag4,ag5,aoy,ag6,ag7,ag8,aoz,aoA,ag9,aha,ahb,aoB,aoC,ahc,ahd,ahe,aoD,aoE,ahf,ahg,ahh,aoF,ahi,ahj,aoG,ahk,ahl,ahm,aoH,ahn,aho,aoI,ahp,ahq,ahr,aoJ,ahs,aht,aoK,ahu,ahv]) aoN
end
theorem aa0 {tb:String->Option Builtin} {p:cC} {w:World} {n₀:Nat} {ann:Option aB} {env:Env} {q:Pos} {n N:Nat} {s s' r:aX} {b:List dW} {c:Code} {pos p':Pos} (i k:Nat) (h:segRun tb p w n₀ ann 1 n s (piecesOf ((b.drop i).take k) env c pos [topFrame q])=some (.next,s',c,p')) (g:topRun tb p w n₀ ann N s' (restOf (b.drop (i + k)) env c p' [topFrame q])=some r):topRun tb p w n₀ ann (n + N) s (restOf (b.drop i) env c pos [topFrame q])=some r:=by
 have e:b.drop i=(b.drop i).take k++b.drop (i + k):=by rw [<- List.drop_drop,take_append_drop]
 rw [e];exact piece_app h g
theorem Rp:∀ w:World,(fun os=>topGo treeTable PySem.Challenge.pw_thirstwise_k04_whole_rounds w 11 ANN 12 (Shared.mk (boot_heap w.params) (Array.mk []) boot_drawn boot_toks os) (topStub PySem.Challenge.pw_thirstwise_k04_whole_rounds))=fun os=>some ((Shared.mk (aaT w.params) (Array.mk []) boot_drawn 187 os),Thread.mk (denote treeTable CE) CE { line:=0,col:=0,endLine:=0,endCol:=0 } [topFrame QQ]):=by
 intro w; kernel_rfl
theorem JD:∀ w:World,(fun os=>segRun treeTable PySem.Challenge.pw_thirstwise_k04_whole_rounds w 11 ANN 1 1 (Shared.mk (aaT w.params) (Array.mk []) boot_drawn 187 os) (blockOf BODY ENV CE { line:=0,col:=0,endLine:=0,endCol:=0 } [topFrame QQ]))=fun os=>some (Flow.next,(SharedT.abs (SharedT.mk (aaV w.params) 15 aaU (Array.mk []) boot_drawn 187 os)),CE,{ line:=0,col:=0,endLine:=0,endCol:=0 }):=by
 intro w; kernel_rfl
theorem aoO:∀ w:World,(fun os=>segRunT treeTable PySem.Challenge.pw_thirstwise_k04_whole_rounds w 11 ANN 1 2040 (SharedT.mk (aaV w.params) 15 aaU (Array.mk []) boot_drawn 187 os) (piecesOf ((BODY.drop 0).take 17) ENV CE { line:=0,col:=0,endLine:=0,endCol:=0 } [topFrame QQ]))=fun os=>some (Flow.next,(SharedT.mk (aaX w.params) 189 aaW (Array.mk []) boot_drawn 420 os),CE,{ line:=39,col:=0,endLine:=59,endCol:=16 }):=by
 intro w; kernel_rfl
theorem aoP:∀ w:World,(fun os=>segRunT treeTable PySem.Challenge.pw_thirstwise_k04_whole_rounds w 11 ANN 1 2032 (SharedT.mk (aaX w.params) 189 aaW (Array.mk []) boot_drawn 420 os) (piecesOf ((BODY.drop 17).take 41) ENV CE { line:=39,col:=0,endLine:=59,endCol:=16 } [topFrame QQ]))=fun os=>some (Flow.next,(SharedT.mk (aaZ w.params) 512 aaY (Array.mk []) boot_drawn 890 os),CE,{ line:=372,col:=0,endLine:=395,endCol:=98 }):=by
 intro w; kernel_rfl
theorem Rq:∀ w:World,(fun os=>topRun treeTable PySem.Challenge.pw_thirstwise_k04_whole_rounds w 11 ANN 2 (SharedT.abs (SharedT.mk (aaZ w.params) 512 aaY (Array.mk []) boot_drawn 890 os)) (restOf (BODY.drop 58) ENV CE { line:=372,col:=0,endLine:=395,endCol:=98 } [topFrame QQ]))=fun os=>some (Shared.mk (uW w.params) (Array.mk []) boot_drawn 890 os):=by
 intro w; kernel_rfl
theorem azc (w:World) (os:OsState):topRun treeTable PySem.Challenge.pw_thirstwise_k04_whole_rounds w 11 ANN (12 + (1 + (2040 + (2032 + (2))))) (Shared.mk (boot_heap w.params) (Array.mk []) boot_drawn boot_toks os) (topStub PySem.Challenge.pw_thirstwise_k04_whole_rounds)=some (Shared.mk (uW w.params) (Array.mk []) boot_drawn 890 os) := go_top (congrFun (Rp w) os) (piece_block (congrFun (JD w) os) (aa0 0 17 (segRun_of (congrFun (aoO w) os)) (aa0 17 41 (segRun_of (congrFun (aoP w) os)) (congrFun (Rq w) os))))
theorem lk1:∀ w:World,(fun os=>(staticsOk (importedModules PySem.Challenge.pw_thirstwise_k04_whole_rounds.main.body) (boot_heap w.params) (uW w.params) && namesBound PySem.Challenge.pw_thirstwise_k04_whole_rounds (uW w.params) && gensDone (Shared.mk (uW w.params) (Array.mk []) boot_drawn 890 os) && laidKept (boot_heap w.params) (uW w.params)))=fun _=>true:=by
 intro w; kernel_rfl
theorem lk2:∀ w:World,(fun os=>openSeen view LO (importedModules PySem.Challenge.pw_thirstwise_k04_whole_rounds.main.body) (fun s=>xlAt view [] s && recOk (RowW.records (OpenRow.toRowW (OpenLaw.row PySem.Challenge.rw_thirstwise_k04_whole_rounds))) s) true (Shared.mk (uW w.params) (Array.mk []) boot_drawn 890 os))=fun _=>openGood view LO:=by
 intro w; kernel_rfl
theorem lk3:∀ w:World,(fun os=>Hook.obs (kHook KF addrs (fun _=>by kernel_rfl)) (Shared.mk (uW w.params) (Array.mk []) boot_drawn 890 os))=fun _=>Hook.val (kHook KF addrs (fun _=>by kernel_rfl)) w:=by
 intro w; kernel_rfl
theorem opn:∀ w:World,(fencedOpening treeTable PySem.Challenge.pw_thirstwise_k04_whole_rounds w 8266).map (fun s=>(s.heap,s.gens,s.drawn,s.toks))=some (boot_heap w.params,Array.mk [],boot_drawn,boot_toks):=boot_open (by kernel_rfl) (by kernel_rfl) (fun s=>by kernel_rfl)
theorem siz:∀ w:World,((boot_heap w.params).isNs mainGlobals && (Array.mk []:Array GenState).size == 0,(boot_heap w.params).objs.size,(boot_heap w.params).nsMap mainGlobals "__annotations__")=(true,11,ANN):=by
 intro w; kernel_rfl
theorem hl:LeftO PySem.Challenge.rw_thirstwise_k04_whole_rounds.row.prog view LO (fun s=>xlAt view [] s && recOk (RowW.records (OpenRow.toRowW (OpenLaw.row PySem.Challenge.rw_thirstwise_k04_whole_rounds))) s) (Hook.obs (kHook KF addrs (fun _=>by kernel_rfl))) (Hook.val (kHook KF addrs (fun _=>by kernel_rfl))) 8266 := LeftO.of_pieces (p:=PySem.Challenge.pw_thirstwise_k04_whole_rounds) (q:=view) (loose:=LO) (Xt:=(fun s=>xlAt view [] s && recOk (RowW.records (OpenRow.toRowW (OpenLaw.row PySem.Challenge.rw_thirstwise_k04_whole_rounds))) s)) (Yf:=Hook.obs (kHook KF addrs (fun _=>by kernel_rfl))) (Ya:=Hook.val (kHook KF addrs (fun _=>by kernel_rfl))) (N:=8266) (g0:=true) (H₀:=boot_heap) (H₁:=uW) (gs₀:=Array.mk []) (gs₁:=(Array.mk [])) (d₀:=boot_drawn) (d₁:=boot_drawn) (k₀:=boot_toks) (k₁:=890) (m₀:=11) (ann:=ANN) (M:=12 + (1 + (2040 + (2032 + (2))))) opn siz azc (by kernel_rfl) (fun w=>funext fun os=>Prod.ext (congrFun (lk1 w) os) (Prod.ext (congrFun (lk2 w) os) (congrFun (lk3 w) os)))
end Tw
namespace L2
open PySem PySem.Spec PyProof.Rows
abbrev Key:=Sum Int Str
def aa1:Key->aB->Bool
 | .inl k,v=>Value.isInt k v
 | .inr x,v=>Value.isStrOf x v
def azd (w:World):Key->Int
 | .inl k=>hashInt k
 | .inr x=>hashStr w x
theorem gY:∀ {k:Key} {v:aB},aa1 k v=true->(∃ i t,k=Sum.inl i/\v=Value.int i t)\/(∃ x t,k=Sum.inr x/\v=Value.str x t)
 | .inl i,v,h=>by
  obtain ⟨t,e⟩:=Value.isInt_shape (k:=i) (v:=v) h;exact .inl ⟨i,t,rfl,e⟩
 | .inr x,v,h=>by
  obtain ⟨t,e⟩:=Value.isStrOf_shape (x:=x) (v:=v) h;exact .inr ⟨x,t,rfl,e⟩
theorem ahw (a b:Int):decide ((Sum.inl a:Key)=Sum.inl b)=(a == b):=by
 by_cases e:a=b
 ·subst e; simp
 ·have h:¬ (Sum.inl a:Key)=Sum.inl b:=fun q=>e (Sum.inl.inj q)
  rw [aL h];exact (beq_eq_false_iff_ne.mpr e).symm
theorem ahx (a b:Str):decide ((Sum.inr a:Key)=Sum.inr b)=decide (a=b):=by
 by_cases e:a=b
 ·subst e; simp
 ·have h:¬ (Sum.inr a:Key)=Sum.inr b:=fun q=>e (Sum.inr.inj q)
  rw [aL h,aL e]
theorem ahy (a:Int) (b:Str):decide ((Sum.inl a:Key)=Sum.inr b)=false:=aL (fun q=>nomatch q)
theorem ahz (a:Str) (b:Int):decide ((Sum.inr a:Key)=Sum.inl b)=false:=aL (fun q=>nomatch q)
noncomputable def DP (prog:cC) (w:World):PySem.KeyKind prog w Key where
 is:=aa1
 hash:=azd w
 inj:=fun v a b ha hb=>by
  rcases gY ha with ⟨i,t,rfl,rfl⟩ | ⟨x,t,rfl,rfl⟩
  ·rcases gY hb with ⟨j,u,rfl,e⟩ | ⟨y,u,rfl,e⟩
   ·injection e with e1 _; rw [e1]
   ·exact nomatch e
  ·rcases gY hb with ⟨j,u,rfl,e⟩ | ⟨y,u,rfl,e⟩
   ·exact nomatch e
   ·injection e with e1 _; rw [e1]
 byValue:=fun k v h=>by
  rcases gY h with ⟨i,t,rfl,rfl⟩ | ⟨x,t,rfl,rfl⟩ <;> rfl
 pyHash:=fun hv h=>by
  rcases gY hv with ⟨i,t,rfl,rfl⟩ | ⟨x,t,rfl,rfl⟩
  ·exact wpAny_pyHash_int h
  ·exact wpAny_pyHash_str h
 eqBool:=fun hu hv h=>by
  rcases gY hu with ⟨i,t,rfl,rfl⟩ | ⟨x,t,rfl,rfl⟩
  ·rcases gY hv with ⟨j,u,rfl,rfl⟩ | ⟨y,u,rfl,rfl⟩
   ·rw [ahw] at h; exact wpAny_eqBool_int h
   ·rw [ahy] at h; exact SeqAt.EqAt.int_str i t y u _ _ _ _ h
  ·rcases gY hv with ⟨j,u,rfl,rfl⟩ | ⟨y,u,rfl,rfl⟩
   ·rw [ahz] at h; exact SeqAt.EqAt.str_int x t j u _ _ _ _ h
   ·rw [ahx] at h; exact wpAny_eqBool_str h
 «strs»:=fun k x t v h=>by
  rcases gY h with ⟨i,u,rfl,e⟩ | ⟨y,u,rfl,e⟩
  ·exact nomatch e
  ·injection e with e1 _
   subst e1;cases v <;> rfl
inductive V where
 | non | bl (b:Bool) | int (i:Int) | str (x:Str) | Mf (b:Array UInt8) | flt (b:UInt64) | ref (a:aA) | ty (n:String)
 deriving DecidableEq
def RelV:V->aB->Prop
 | .non,u=>u=Value.none
 | .bl b,u=>u=Value.bool b
 | .int i,u=>∃ t,u=Value.int i t
 | .str x,u=>∃ t,u=Value.str x t
 | .Mf b,u=>∃ t,u=Value.bytes b t
 | .flt b,u=>∃ t,u=Value.float b t
 | .ref a,u=>u=Value.ref a
 | .ty n,u=>u=Value.type n
abbrev Vals:List V->List aB->Prop:=Paired RelV
theorem Vals.length {xs:List V} {us:List aB} (r:Vals xs us):xs.length=us.length:=Paired.length r
theorem Vals.get:∀ {xs:List V} {us:List aB} {i:Nat} {x:V},Vals xs us->xs[i]?=some x->∃ u,us[i]?=some u/\RelV x u
 | _,_,_,_,.nil,e=>by simp at e
 | _,_,0,_,.cons r _,e=>by simp at e; subst e; exact ⟨_,rfl,r⟩
 | _,_,i + 1,x,.cons _ t,e=>by
  obtain ⟨u,h1,h2⟩:=Vals.get (i:=i) (x:=x) t (by simpa using e);exact ⟨u,by simpa using h1,h2⟩
theorem Vals.set {x:V} {u:aB} (r:RelV x u):∀ {xs:List V} {us:List aB} (i:Nat),Vals xs us->Vals (xs.set i x) (us.set i u)
 | _,_,_,.nil=>.nil
 | _,_,0,.cons _ t=>.cons r t
 | _,_,i + 1,.cons q t=>.cons q (Vals.set r i t)
theorem Vals.append:∀ {xs ys:List V} {us ws:List aB},Vals xs us->Vals ys ws->Vals (xs++ys) (us++ws)
 | _,_,_,_,.nil,s=>s
 | _,_,_,_,.cons r t,s=>.cons r (Vals.append t s)
theorem Vals.take:∀ {xs:List V} {us:List aB} (n:Nat),Vals xs us->Vals (xs.take n) (us.take n)
 | _,_,0,_=>.nil
 | _,_,_ + 1,.nil=>.nil
 | _,_,n + 1,.cons r t=>.cons r (Vals.take n t)
theorem Vals.drop:∀ {xs:List V} {us:List aB} (n:Nat),Vals xs us->Vals (xs.drop n) (us.drop n)
 | _,_,0,r=>r
 | _,_,_ + 1,.nil=>.nil
 | _,_,n + 1,.cons _ t=>Vals.drop n t
theorem Vals.none_of:∀ {xs:List V} {us:List aB} {i:Nat},Vals xs us->xs[i]?=none->us[i]?=none:=fun {xs us i} r e=>by
 have h1:=r.length;have h2:xs.length<=i:=List.getElem?_eq_none_iff.mp e;exact List.getElem?_eq_none_iff.mpr (by omega)
def Bs:Option V->Option aB->Prop
 | some v,some u=>RelV v u
 | none,none=>True
 | _,_=>False
def KV {κ:Type}:List (κ × V)->List (κ × aB)->Prop:=Paired fun (p:κ × V) (q:κ × aB)=>p.1=q.1/\RelV p.2 q.2
def kV:Key->V
 | .inl i=>.int i
 | .inr x=>.str x
inductive HO where
 | lst (xs:List V)
 | tup (xs:List V)
 | dK (kvs:List (Key × V)) | dT (kvs:List (List Key × V))
 | set (S:Int->Bool) (n:Nat)
 | ins (C dx:aA) (fs:List (Str × V))
 | own (x:aA)
 | xd (fs:List (Str × V))
 | met (f x:aA)
 | rng (lo hi:Int)
 | DQ (o:Obj) (u:HO)
 | yd (ps:Array aB)
 | ext (φ:Heap->Prop)
abbrev Hp:=aA->Option HO
def upd (H:Hp) (a:aA) (o:HO):Hp:=fun b=>if b=a then some o else H b
theorem aD {H:Hp} {a:aA} {o:HO}:upd H a o a=some o:=by unfold upd; rw [if_pos rfl]
theorem bf {H:Hp} {a b:aA} {o:HO} (h:b≠a):upd H a o b=H b:=by unfold upd; rw [if_neg h]
theorem lQ {H:Hp} {a:aA} {o u:HO}:upd (upd H a o) a u=upd H a u:=by
 funext b; unfold upd; split <;> rfl
theorem jX {H:Hp} {a b:aA} {o u:HO} (h:H a=some o) (h':H b=some u) (d:o≠u):a≠b:=by
 intro e; subst e; rw [h] at h'; exact d (bQ h')
theorem dw {H:Hp} {a b:aA} {o:HO} (h:H a=some o) (h':H b=none):a≠b:=by
 intro e; subst e; rw [h] at h'; cases h'
section
variable (P:cC) (w:World)
noncomputable def gD (H:Hp) (h:Heap) (a:aA):HO->Prop
 | .lst xs=>xs.length<=sizeLine/\∃ (its:List aB) (n:Nat),Vals xs its/\h.get? a=some { cls:=.type "list",data:=.seq its.toArray n }
 | .tup xs=>xs.length<=sizeLine/\∃ its:List aB,Vals xs its/\IsTup h a its.toArray
 | .dK kvs=>kvs.length<=sizeLine/\(a == sysModules)=false/\∃ vs,KV kvs vs/\h.DictOf (DP P w) a vs
 | .dT kvs=>kvs.length<=sizeLine/\(a == sysModules)=false/\∃ xs:List (List Key × aA × aB),Paired (fun (p:List Key × V) (q:List Key × aA × aB)=>p.1=q.1/\H q.2.1=some (.tup (p.1.map kV))/\RelV p.2 q.2.2) kvs xs /\ ∃ o es ep,h.get? a=some o/\o.ExactDict/\o.data=.dict es ep/\es.toList=xs.map (entryOfKey (tupleKind (DP P w)))/\(xs.map (·.1)).Nodup
 | .set S n=>h.SetOf (intKind P w) a S n
 | .ins C dx fs=>H dx=some (.own a)/\fs.length<=1000/\dx≠a/\h.get? a=some (instObj C dx) /\ ∃ mA,h.Ns1 dx mA/\(∀ f,Bs (fs.lookup f) (mA f))/\PySem.Within mA (fs.map (·.1))
 | .own _=>∃ o,h.get? a=some o
 | .xd fs=>∃ mA,h.Ns1 a mA/\∀ f,Bs (fs.lookup f) (mA f)
 | .rng lo hi=>∃ t u v,h.get? a=some { cls:=.type "range",data:=.fields #[.int lo t,.int hi u,.int 1 v] }
 | .DQ o u=>h.get? a=some o/\gD H h a u
 | .yd ps=>h.get? a=some { cls:=.none,data:=.fields ps }
 | .met f x=>h.get? a=some (methodObj (.ref f) (.ref x))
 | .ext φ=>φ h/\(∃ o,h.get? a=some o)/\∀ h1 h2:Heap,φ h1->(∀ o,h1.get? a=some o->h2.get? a=some o)->φ h2
def wH (H:Hp) (h:Heap):Prop:=∀ a o,H a=some o->gD P w H h a o
end
section
variable {P:cC} {w:World} {H H':Hp} {h h':Heap} {a:aA} {o:HO}
theorem gD.lt (x:gD P w H h a o):a < h.objs.size:=by
 cases o with
 | lst xs=>obtain ⟨_,_,_,_,e⟩:=x; exact Heap.lt_size e
 | tup xs=>obtain ⟨_,_,_,p⟩:=x; exact p.lt
 | dK kvs=>obtain ⟨_,_,_,_,o,_,_,e,_⟩:=x; exact Heap.lt_size e
 | dT kvs=>obtain ⟨_,_,_,_,o,_,_,e,_⟩:=x; exact Heap.lt_size e
 | set S n=>obtain ⟨o,_,_,_,e,_⟩:=x; exact Heap.lt_size e
 | ins C dx fs=>obtain ⟨_,_,_,e,_⟩:=x; exact Heap.lt_size e
 | own y=>obtain ⟨_,e⟩:=x; exact Heap.lt_size e
 | xd fs=>obtain ⟨_,⟨_,_,_,e,_⟩,_⟩:=x; exact Heap.lt_size e
 | rng lo hi=>obtain ⟨_,_,_,e⟩:=x; exact Heap.lt_size e
 | DQ ob u=>obtain ⟨e,_⟩:=x; exact Heap.lt_size e
 | yd ps=>exact Heap.lt_size (show h.get? a=some _ from x)
 | met f y=>exact Heap.lt_size (show h.get? a=some _ from x)
 | ext φ=>obtain ⟨_,⟨_,e⟩,_⟩:=x; exact Heap.lt_size e
theorem Paired.gG {α β:Type} {F G:α->β->Prop}:∀ {l₁:List α} {l₂:List β},Paired F l₁ l₂->(∀ a b,F a b->G a b)->Paired G l₁ l₂
 | _,_,.nil,_=>.nil
 | _,_,.cons r t,f=>.cons (f _ _ r) (Paired.gG t f)
theorem gD.stay (x:gD P w H h a o) (k:∀ b u,(b=a\/H b=some (.own a))->h.get? b=some u->h'.get? b=some u) (ho:∀ b,H b=some (.own a)->H' b=some (.own a)) (ht:∀ b xs,H b=some (.tup xs)->H' b=some (.tup xs)):gD P w H' h' a o:=by
 induction o with
 | lst xs=>obtain ⟨z,its,n,r,e⟩:=x; exact ⟨z,its,n,r,k _ _ (.inl rfl) e⟩
 | tup xs=>obtain ⟨z,its,r,ob,e,c⟩:=x; exact ⟨z,its,r,ob,k _ _ (.inl rfl) e,c⟩
 | dK kvs=>obtain ⟨z,y,vs,r,ob,es,ep,e,c⟩:=x; exact ⟨z,y,vs,r,ob,es,ep,k _ _ (.inl rfl) e,c⟩
 | dT kvs =>
  obtain ⟨z,y,xs,r,ob,es,ep,e,c⟩:=x;exact ⟨z,y,xs,Paired.gG r fun p q z=>⟨z.1,ht _ _ z.2.1,z.2.2⟩,ob,es,ep,k _ _ (.inl rfl) e,c⟩
 | set S n=>obtain ⟨ob,es,ep,t,e,c⟩:=x; exact ⟨ob,es,ep,t,k _ _ (.inl rfl) e,c⟩
 | ins C dx fs =>
  obtain ⟨d,z,ne,e,mA,⟨od,es,ep,e2,c⟩,r⟩:=x;exact ⟨ho _ d,z,ne,k _ _ (.inl rfl) e,mA,⟨od,es,ep,k _ _ (.inr d) e2,c⟩,r⟩
 | own y=>obtain ⟨ob,e⟩:=x; exact ⟨ob,k _ _ (.inl rfl) e⟩
 | xd fs=>obtain ⟨mA,⟨od,es,ep,e,c⟩,r⟩:=x; exact ⟨mA,⟨od,es,ep,k _ _ (.inl rfl) e,c⟩,r⟩
 | rng lo hi=>obtain ⟨t,u,v,e⟩:=x; exact ⟨t,u,v,k _ _ (.inl rfl) e⟩
 | DQ ob u ih=>obtain ⟨e,q⟩:=x; exact ⟨k _ _ (.inl rfl) e,ih q⟩
 | yd ps =>
  have e:h.get? a=some { cls:=.none,data:=.fields ps }:=x
  show h'.get? a=some { cls:=.none,data:=.fields ps }
  exact k a _ (.inl rfl) e
 | met f y =>
  have e:h.get? a=some (methodObj (.ref f) (.ref y)):=x
  show h'.get? a=some (methodObj (.ref f) (.ref y))
  exact k a _ (.inl rfl) e
 | ext φ=>obtain ⟨p,⟨o,e⟩,st⟩:=x; exact ⟨st _ _ p fun o q=>k _ _ (.inl rfl) q,⟨o,k _ _ (.inl rfl) e⟩,st⟩
theorem wH.lt (x:wH P w H h) (e:H a=some o):a < h.objs.size:=(x a o e).lt
theorem wH.fresh (x:wH P w H h) (e:h.objs.size<=a):H a=none:=by
 cases q:H a with
 | none=>rfl
 | some u=>exact absurd (bA (x.lt q) e) (cR _)
theorem wH.kept (x:wH P w H h) (k:∀ b u,h.get? b=some u->h'.get? b=some u):wH P w H h':=fun a o e =>
 (x a o e).stay (fun b u _ q=>k b u q) (fun _ q=>q) fun _ _ q=>q
theorem wH.laid (x:wH P w H h) (k:∀ b u,h.get? b=some u->h'.get? b=some u) (hp:h.objs.size<=a) (new:gD P w (upd H a o) h' a o):wH P w (upd H a o) h':=fun b u e=>by
 have hn:=x.fresh hp
 by_cases hb:b=a
 ·subst hb; rw [aD] at e; cases e; exact new
 ·rw [bf hb] at e;exact (x b u e).stay (fun c v _ q=>k c v q) (fun c q=>by rw [bf (dw q hn)]; exact q) fun c xs q=>by rw [bf (dw q hn)]; exact q
end
def Rd (H:Hp) (a:aA) (u:HO):Prop:=H a=some u\/∃ o,H a=some (.DQ o u)
theorem Rd.ok {P:cC} {w:World} {H:Hp} {h:Heap} {a:aA} {u:HO} (r:Rd H a u) (x:wH P w H h):gD P w H h a u:=by
 rcases r with r | ⟨o,r⟩
 ·exact x a u r
 ·obtain ⟨_,q⟩:=x a _ r;exact q
def Mut:Option HO->Prop
 | some (.lst _)=>True
 | some (.dK _)=>True
 | some (.dT _)=>True
 | some (.set _ _)=>True
 | some (.ins _ _ _)=>True
 | some (.ext _)=>True
 | _=>False
section
variable {P:cC} {w:World} {H:Hp} {h h':Heap} {x e:aA} {o':HO}
theorem wH.write (ok:wH P w H h) (mu:Mut (H x)) (he:e=x\/H e=some (.own x)) (k:∀ b u,b≠e->h.get? b=some u->h'.get? b=some u) (heo:∃ u,h'.get? e=some u) (new:gD P w (upd H x o') h' x o'):wH P w (upd H x o') h':=fun b u q=>by
 have aoQ:∀ c y,H c=some (.own y)->c≠x:=fun c y r z=>by subst z; rw [r] at mu; exact mu
 have aze:∀ c xs,H c=some (.tup xs)->c≠x:=fun c xs r z=>by subst z; rw [r] at mu; exact mu
 by_cases hb:b=x
 ·subst hb; rw [aD] at q; cases q; exact new
 ·rw [bf hb] at q
  by_cases hbe:b=e
  ·have q':H b=some (.own x):=by
    rcases he with z | z
    ·exact absurd (hbe.trans z) hb
    ·rw [hbe]; exact z
   rw [q] at q'; cases q';obtain ⟨v,hv⟩:=heo;exact ⟨v,by rw [hbe]; exact hv⟩
  ·refine (ok b u q).stay (fun c v hc r=>k c v ?_ r) (fun c r=>by rw [bf (aoQ c b r)]; exact r) fun c xs r=>by rw [bf (aze c xs r)]; exact r
   rcases hc with rfl | hc
   ·exact hbe
   ·rintro rfl;rcases he with z | z
    ·exact aoQ c b hc z
    ·rw [hc] at z; cases z; exact hb rfl
end
structure Un (fs ex:List aA) (H H':Hp) (h h':Heap):Prop where
 keep:∀ b o,h.get? b=some o->H b=none->b ∉ fs->b ∉ ex->h'.get? b=some o
 slot:∀ b o,h.get? b=some o->H b=none->b ∈ fs->b ∉ ex->∃ sl,h'.get? b=some { o with slots:=sl }
 free:∀ b o,h.get? b=some o->H b=none->b ∉ ex->H' b=none
 there:∀ b o,h.get? b=some o->b ∉ ex->∃ o',h'.get? b=some o'
 tups:∀ b xs,H b=some (.tup xs)->H' b=some (.tup xs)
 yI:∀ b o u,H b=some (.DQ o u)->H' b=some (.DQ o u)
 yJ:∀ b ps,H b=some (.yd ps)->∃ more,H' b=some (.yd (ps++more))
section
variable {fs fs' ex ex':List aA} {H H1 H2:Hp} {h h1 h2 h':Heap} {a x e:aA} {o:HO}
theorem Un.any (u:Un fs ex H H1 h h1) {b:aA} {ob:Obj} (q:h.get? b=some ob) (n:H b=none) (hx:b ∉ ex):∃ sl,h1.get? b=some { ob with slots:=sl }:=by
 by_cases hb:b ∈ fs
 ·exact u.slot b ob q n hb hx
 ·exact ⟨ob.slots,u.keep b ob q n hb hx⟩
theorem Un.kept (k:∀ b u,h.get? b=some u->h'.get? b=some u):Un fs ex H H h h' := ⟨fun b ob q _ _ _=>k b ob q,fun b ob q _ _ _=>⟨ob.slots,k b ob q⟩,fun _ _ _ n _=>n,fun b ob q _=>⟨ob,k b ob q⟩,fun _ _ q=>q,fun _ _ _ q=>q,fun _ ps q=>⟨#[],by rw [q]; simp⟩⟩
theorem Un.refl:Un fs ex H H h h:=Un.kept fun _ _ q=>q
theorem Un.laid (k:∀ b u,h.get? b=some u->h'.get? b=some u) (hp:h.objs.size<=a) (hn:H a=none):Un fs ex H (upd H a o) h h' where
 keep:=fun b u q _ _ _=>k b u q
 slot:=fun b u q _ _ _=>⟨u.slots,k b u q⟩
 free:=fun b u q n _=>by rw [bf (Nat.ne_of_lt (bA (Heap.lt_size q) hp))]; exact n
 there:=fun b u q _=>⟨u,k b u q⟩
 tups:=fun b xs q=>by rw [bf (dw q hn)]; exact q
 yI:=fun b u xs q=>by rw [bf (dw q hn)]; exact q
 yJ:=fun b ps q=>⟨#[],by rw [bf (dw q hn),q]; simp⟩
theorem Un.write (mu:Mut (H x)) (he:e=x\/H e=some (.own x)) (k:∀ b u,b≠e->h.get? b=some u->h'.get? b=some u) (heo:∃ u,h'.get? e=some u):Un fs ex H (upd H x o) h h':=by
 have hx:∀ b,H b=none->b≠x:=fun b n z=>by subst z; rw [n] at mu; exact mu
 have hb:∀ b,H b=none->b≠e:=fun b n z=>by
  subst z;rcases he with r | r
  ·exact hx b n r
  ·rw [n] at r; cases r
 have hm:∀ b u,H b=some u->¬ Mut (some u)->b≠x:=fun b u q nm z=>by subst z; rw [q] at mu; exact nm mu
 refine ⟨fun b u q n _ _=>k b u (hb b n) q,fun b u q n _ _=>⟨u.slots,k b u (hb b n) q⟩,fun b u q n _=>by rw [bf (hx b n)]; exact n,fun b u q _=>?_,fun b xs q=>by rw [bf (hm b _ q fun z=>z)]; exact q,fun b u xs q=>by rw [bf (hm b _ q fun z=>z)]; exact q,fun b ps q=>⟨#[],by rw [bf (hm b _ q fun z=>z),q]; simp⟩⟩
 by_cases hbe:b=e
 ·subst hbe; exact heo
 ·exact ⟨u,k b u hbe q⟩
end
def trk (h:Heap) (H:Hp):List aA:=(List.range h.objs.size).filter fun a=>(H a).isSome
def Bt (h:Heap) (H:Hp):Heap:=PySem.W.hideAll h (trk h H)
theorem Oq (h:Heap) (H:Hp):(Bt h H).objs.size=h.objs.size:=PySem.W.hideAll_size _ _
theorem Rr {h:Heap} {H:Hp} {b:aA} {o:Obj} (e:h.get? b=some o) (n:H b=none):(Bt h H).get? b=some o := PySem.W.hideAll_get _ e fun hm=>by
 have q:(H b).isSome=true:=(mem_filter.mp hm).2;rw [n] at q; simp at q
theorem Yn {h:Heap} {H:Hp} {b:aA} {o:Obj} (e:(Bt h H).get? b=some o):h.get? b=some o/\H b=none:=by
 have e':h.get? b=some o:=PySem.W.of_hideAll (trk h H) e;refine ⟨e',?_⟩;cases q:H b with
 | none=>rfl
 | some x =>
  have hm:b ∈ trk h H:=mem_filter.mpr ⟨mem_range.mpr (Heap.lt_size e'),by simp [q]⟩;have z:(Bt h H).get? b=none:=PySem.W.hideAll_none (trk h H) hm;rw [z] at e; cases e
structure Mod (K:Fg) (mg:Str->Option aB) (base:Heap):Prop where
 Xd:K.In base
 glob:base.Ns mainGlobals mg
 blt:∃ mb,base.Ns builtinsNs mb/\∀ x:Str,x≠"__name__"->mb x=bootBuiltins x
 nolimit:base.NoLimit
structure Cx where
 prog:cC
 w:World
 K:Fg
 mg:Str->Option aB
 base:Heap
 A:d7
 N:List Str
 s₀:aX
 H₀:Hp
 env:Env
 outer:List Env
 stack:List Env
 ex:List aA
 fn:Str->Bool
 calm:Bool
 pn:List (aA × Obj)
 xe:aB->aX->Prop
def frs (l:List Env):List aA:=l.filterMap (·.frame)
abbrev Cx.fs (X:Cx):List aA:=frs X.outer
def Vis (sc:Scope) (x:Str):Prop:=sc.names.lookup x=some .local\/sc.names.lookup x=some .cell\/sc.names.lookup x=some .free
def Loc (sc:Scope) (x:Str):Prop:=sc.names.lookup x=some .local\/sc.names.lookup x=some .cell
def Look (env:Env) (h:Heap) (m:Str->Option aB) (x:Str) (u:aB):Prop := (env.kindOf x=some .local/\m x=some u)\/((env.kindOf x=some .cell\/env.kindOf x=some .free)/\∃ c,env.cells.lookup x=some c/\h.IsCell c (some u))
structure Cx.Ok (X:Cx):Prop where
 mod:Mod X.K X.mg X.base
 kind:X.env.scope.kind=.function
 glob:X.env.globals=mainGlobals
 blt:X.env.builtins=builtinsNs
 above:X.s₀.heap.objs.size<=X.env.locals
 inj:∀ x y c,X.env.cells.lookup x=some c->X.env.cells.lookup y=some c->x=y
 has:∀ x,(X.env.kindOf x=some .cell\/X.env.kindOf x=some .free)->∃ c,X.env.cells.lookup x=some c
 cab:∀ x c,X.fn x=true->X.env.cells.lookup x=some c->X.s₀.heap.objs.size<=c
 hd:X.calm=true->X.A.handled=none
 frames:X.A.frames=some X.stack
 stk:X.stack=X.outer\/(X.stack=X.env::X.outer/\X.env.frame=some X.env.locals)
 exf:∀ b ∈ X.ex,b≠X.env.locals/\∀ x c,X.env.cells.lookup x=some c->c≠b
 bs:∀ b o,X.base.get? b=some o->X.s₀.heap.get? b=some o/\X.H₀ b=none
 Ot:X.base.objs.size<=X.s₀.heap.objs.size
 Ou:∀ b o,X.base.get? b=some o->b ∉ X.ex
 Rt:∀ b ∈ X.ex,b ∉ X.fs
 sY:X.s₀.heap.FunFrames X.base X.outer
 Yo:∀ b ∈ X.fs,X.H₀ b=none
structure Inv (X:Cx) (pins:List (aA × Obj)) (σ:List (Option V)) (H:Hp) (s:aX):Prop where
 ok:X.Ok
 os:s.os=X.s₀.os
 bare:AllBare s.gens
 base:Un X.fs X.ex X.H₀ H X.s₀.heap s.heap
 loc:∃ m,s.heap.Ns X.env.locals m/\∀ (i:Nat) (x:Str) (v:V),X.N[i]?=some x->σ[i]?=some (some v)->Vis X.env.scope x->∃ u,RelV v u/\Look X.env s.heap m x u
 cell:∀ x c,X.env.cells.lookup x=some c->∃ v,s.heap.IsCell c v
 free:H X.env.locals=none
 jY:∀ x c,X.env.cells.lookup x=some c->H c=none
 pin:∀ p ∈ X.pn++pins,s.heap.get? p.1=some p.2/\H p.1=none/\p.1≠X.env.locals/\p.1 ∉ X.fs/\∀ v,p.2.data≠.cell v
 hok:wH X.prog X.w H s.heap
 len:σ.length=X.N.length
section
variable {X:Cx} {pins:List (aA × Obj)} {σ:List (Option V)} {H H':Hp} {s:aX} {h':Heap}
theorem Cx.Ok.azg (ok:X.Ok) {b:aA} {o:Obj} (e:X.base.get? b=some o):b ∉ X.fs:=fun hb=>by
 have:=(ok.sY.mem hb).1;rw [e] at this; cases this
theorem Inv.bs (I:Inv X pins σ H s):∀ b o,X.base.get? b=some o->s.heap.get? b=some o/\H b=none:=fun b o e =>
 ⟨I.base.keep b o (I.ok.bs b o e).1 (I.ok.bs b o e).2 (I.ok.azg e) (I.ok.Ou b o e),I.base.free b o (I.ok.bs b o e).1 (I.ok.bs b o e).2 (I.ok.Ou b o e)⟩
theorem Inv.bk (I:Inv X pins σ H s):∀ b o,X.base.get? b=some o->s.heap.get? b=some o:=fun b o e=>(I.bs b o e).1
theorem Inv.mod (I:Inv X pins σ H s):Mod X.K X.mg X.base:=I.ok.mod
theorem Inv.sG (I:Inv X pins σ H s):X.K.In s.heap:=I.ok.mod.Xd.keeps I.bk
theorem Inv.nolimit (I:Inv X pins σ H s):s.heap.NoLimit:=I.ok.mod.nolimit.keeps I.bk
theorem Inv.fr (I:Inv X pins σ H s):∃ m,Fr X.base X.env.locals s.heap m := let ⟨m,hn,_⟩:=I.loc
 ⟨m,hn,I.bk,bJ I.ok.Ot I.ok.above⟩
theorem Inv.lt (I:Inv X pins σ H s):X.env.locals < s.heap.objs.size:=let ⟨_,hn,_⟩:=I.loc; hn.lt
theorem Inv.sz (I:Inv X pins σ H s):X.s₀.heap.objs.size<=s.heap.objs.size:=bJ I.ok.above (Nat.le_of_lt I.lt)
theorem Inv.azh (I:Inv X pins σ H s) {a:aA} (h:s.heap.objs.size<=a):a ∉ X.fs:=fun hb=>by
 obtain ⟨_,o,ho,_⟩:=I.ok.sY.mem hb;exact absurd (bA (Heap.lt_size ho) (bJ I.sz h)) (cR _)
theorem Inv.cne (I:Inv X pins σ H s):∀ x c,X.env.cells.lookup x=some c->c≠X.env.locals:=fun x c e z=>by
 obtain ⟨v,o,ho,hd⟩:=I.cell x c e;obtain ⟨m,⟨o',es,ep,ho',hd',_⟩,_⟩:=I.loc;rw [z,ho'] at ho; cases ho; rw [hd'] at hd; cases hd
theorem Inv.sY (I:Inv X pins σ H s):s.heap.FunFrames X.base X.outer:=by
 have all:∀ (l:List Env),(∀ b ∈ frs l,b ∈ X.fs)->X.s₀.heap.FunFrames X.base l->s.heap.FunFrames X.base l:=by
  intro l
  induction l with
  | nil=>intro _ _; trivial
  | cons env r ih =>
   intro hs hl;obtain ⟨hk,⟨L,o,hf,hn,ho,hd⟩,hr⟩:=hl;have hL:L ∈ X.fs:=hs L (by unfold frs; rw [filterMap_cons,hf]; exact mem_cons_self);obtain ⟨sl,e⟩:=I.base.slot L o ho (I.ok.Yo L hL) hL fun z=>I.ok.Rt L z hL
   exact ⟨hk,⟨L,_,hf,hn,e,hd⟩,ih (fun b hb=>hs b (by unfold frs; rw [filterMap_cons,hf]; exact mem_cons_of_mem _ hb)) hr⟩
 exact all X.outer (fun _ hb=>hb) I.ok.sY
theorem Inv.stack (I:Inv X pins σ H s):s.heap.FunFrames X.base X.stack:=by
 rcases I.ok.stk with e | ⟨e,hf⟩
 ·rw [e]; exact I.sY
 ·rw [e];obtain ⟨m,hn,_⟩:=I.loc;refine .cons (by rw [I.ok.kind]; decide) hf hn ?_ I.sY;exact Heap.get?_none_of_le (bJ I.ok.Ot I.ok.above)
theorem Inv.wI (I:Inv X pins σ H s):∀ b ∈ frs X.stack,b ∈ X.env.locals::X.fs:=fun b hb=>by
 rcases I.ok.stk with e | ⟨e,hf⟩
 ·rw [e] at hb; exact mem_cons_of_mem _ hb
 ·rw [e] at hb;unfold frs at hb;rw [filterMap_cons,hf] at hb;exact hb
theorem Inv.yR (I:Inv X pins σ H s):∀ b ∈ frs X.stack,H b=none:=fun b hb=>by
 rcases aR.mp (I.wI b hb) with e | hb
 ·rw [e]; exact I.free
 ·obtain ⟨_,o,ho,_⟩:=I.ok.sY.mem hb;exact I.base.free b o ho (I.ok.Yo b hb) fun z=>I.ok.Rt b z hb
theorem Inv.step {g':Array GenState} {t':Nat} {d':Drawn} {ch:List aA} (I:Inv X pins σ H s) (hch:∀ b ∈ ch,(b ∈ X.ex\/X.s₀.heap.objs.size<=b)/\b≠X.env.locals/\(∀ x c,X.env.cells.lookup x=some c->c≠b)/\∀ p ∈ X.pn++pins,p.1≠b) (keep:∀ b o,b≠X.env.locals->b ∉ X.fs->b ∉ ch->s.heap.get? b=some o->H b=none->h'.get? b=some o) (slot:∀ b o,b≠X.env.locals->b ∈ X.fs->b ∉ ch->s.heap.get? b=some o->H b=none->∃ sl,h'.get? b=some { o with slots:=sl }) (free:∀ b o,b ∉ ch->s.heap.get? b=some o->H b=none->H' b=none) (there:∀ b o,b ∉ ch->s.heap.get? b=some o->∃ o',h'.get? b=some o') (tups:∀ b xs,H b=some (.tup xs)->H' b=some (.tup xs)) (yI:∀ b o u,H b=some (.DQ o u)->H' b=some (.DQ o u)) (yJ:∀ b ps,H b=some (.yd ps)->∃ more,H' b=some (.yd (ps++more))) (ns:∀ m,s.heap.Ns X.env.locals m->h'.Ns X.env.locals m) (hok:wH X.prog X.w H' h') (hg:AllBare g') : Inv X pins σ H' { s with heap:=h',gens:=g',drawn:=d',toks:=t' }:=by
 have neL:∀ b o,X.s₀.heap.get? b=some o->b≠X.env.locals:=fun b o e=>Nat.ne_of_lt (bA (Heap.lt_size e) I.ok.above)
 have neC:∀ b o,X.s₀.heap.get? b=some o->b ∉ X.ex->b ∉ ch:=fun b o e hx hb=>by
  rcases (hch b hb).1 with z | z
  ·exact hx z
  ·exact absurd (bA (Heap.lt_size e) z) (cR _)
 have cellK:∀ x c,X.env.cells.lookup x=some c->∀ v,s.heap.IsCell c v->h'.IsCell c v:=fun x c e v ⟨o,ho,hd⟩=>by
  have Ru:c ∉ ch:=fun z=>(hch c z).2.2.1 x c e rfl
  by_cases hc:c ∈ X.fs
  ·obtain ⟨sl,q⟩:=slot c o (I.cne x c e) hc Ru ho (I.jY x c e);exact ⟨_,q,hd⟩
  ·exact ⟨o,keep c o (I.cne x c e) hc Ru ho (I.jY x c e),hd⟩
 refine ⟨I.ok,I.os,hg,⟨fun b o e n hb hx=>?_,fun b o e n hb hx=>?_,fun b o e n hx=>?_,fun b o e hx=>?_,fun b xs e=>tups b xs (I.base.tups b xs e),fun b o xs e=>yI b o xs (I.base.yI b o xs e),fun b ps e=>?_⟩,?_,fun x c e=>?_,?_,fun x c e=>?_,fun p hp=>?_,hok,I.len⟩
 ·exact keep b o (neL b o e) hb (neC b o e hx) (I.base.keep b o e n hb hx) (I.base.free b o e n hx)
 ·obtain ⟨sl,e1⟩:=I.base.slot b o e n hb hx;obtain ⟨sl',e2⟩:=slot b _ (neL b o e) hb (neC b o e hx) e1 (I.base.free b o e n hx);exact ⟨sl',e2⟩
 ·obtain ⟨o',e1⟩:=I.base.there b o e hx;exact free b o' (neC b o e hx) e1 (I.base.free b o e n hx)
 ·obtain ⟨o',e1⟩:=I.base.there b o e hx;exact there b o' (neC b o e hx) e1
 ·obtain ⟨m1,e1⟩:=I.base.yJ b ps e;obtain ⟨m2,e2⟩:=yJ b _ e1;exact ⟨m1++m2,by rw [e2,Array.append_assoc]⟩
 ·obtain ⟨m,hn,hl⟩:=I.loc;refine ⟨m,ns m hn,fun i x v e1 e2 e3=>?_⟩;obtain ⟨u,r,l⟩:=hl i x v e1 e2 e3;refine ⟨u,r,?_⟩;rcases l with l | ⟨k,c,e,z⟩
  ·exact .inl l
  ·exact .inr ⟨k,c,e,cellK x c e _ z⟩
 ·obtain ⟨v,z⟩:=I.cell x c e;exact ⟨v,cellK x c e v z⟩
 ·obtain ⟨m,⟨o,_,_,ho,_⟩,_⟩:=I.loc;exact free _ o (fun z=>(hch _ z).2.1 rfl) ho I.free
 ·obtain ⟨v,o,ho,hd⟩:=I.cell x c e;exact free c o (fun z=>(hch c z).2.2.1 x c e rfl) ho (I.jY x c e)
 ·obtain ⟨e,n,ne,nf,d⟩:=I.pin p hp;have Ru:p.1 ∉ ch:=fun z=>(hch p.1 z).2.2.2 p hp rfl
  exact ⟨keep p.1 p.2 ne nf Ru e n,free p.1 p.2 Ru e n,ne,nf,d⟩
theorem Inv.un {t':Nat} (I:Inv X pins σ H s) (u:Un X.fs [] H H' s.heap h') (hok:wH X.prog X.w H' h'):Inv X pins σ H' { s with heap:=h',toks:=t' }:=by
 obtain ⟨m,⟨o,es,ep,ho,r⟩,_⟩:=id I.loc;obtain ⟨sl,hL⟩:=u.any ho I.free (by simp);exact I.step (g':=s.gens) (d':=s.drawn) (ch:=[]) (fun _ z=>nomatch z) (fun b o _ hb _ e n=>u.keep b o e n hb (by simp)) (fun b o _ hb _ e n=>u.slot b o e n hb (by simp)) (fun b o _ e n=>u.free b o e n (by simp)) (fun b o _ e=>u.there b o e (by simp)) u.tups u.yI u.yJ (fun m' hm=>by
  obtain ⟨o',es',ep',ho',r'⟩:=hm;rw [ho] at ho'; cases ho';exact ⟨_,es',ep',hL,r'⟩) hok I.bare
theorem Inv.call {g':Array GenState} {t':Nat} {d':Drawn} {ch:List aA} (I:Inv X pins σ H s) (u:Un (frs X.stack) ch H H' s.heap h') (hok:wH X.prog X.w H' h') (hg:AllBare g') (hch:∀ b ∈ ch,(b ∈ X.ex\/X.s₀.heap.objs.size<=b)/\b≠X.env.locals/\(∀ x c,X.env.cells.lookup x=some c->c≠b)/\∀ p ∈ X.pn++pins,p.1≠b) : Inv X pins σ H' { s with heap:=h',gens:=g',drawn:=d',toks:=t' }:=by
 obtain ⟨m,⟨o,es,ep,ho,r⟩,_⟩:=id I.loc;obtain ⟨sl,hL⟩:=u.any ho I.free fun z=>(hch _ z).2.1 rfl
 exact I.step (ch:=ch) hch (fun b o hL hb hc e n=>u.keep b o e n (fun z=>(aR.mp (I.wI b z)).elim hL hb) hc) (fun b o _ _ hc e n=>u.any e n hc) (fun b o hc e n=>u.free b o e n hc) (fun b o hc e=>u.there b o e hc) u.tups u.yI u.yJ (fun m' hm=>by
  obtain ⟨o',es',ep',ho',r'⟩:=hm;rw [ho] at ho'; cases ho';exact ⟨_,es',ep',hL,r'⟩) hok hg
theorem Inv.turned {t':Nat} {it:aA} (I:Inv X pins σ H s) (k:∀ b o,b≠it->s.heap.get? b=some o->h'.get? b=some o) (hn:H it=none) (hL:it≠X.env.locals) (h1:it ∈ X.ex\/X.s₀.heap.objs.size<=it) (h2:∀ x c,X.env.cells.lookup x=some c->c≠it) (h3:∀ p ∈ X.pn++pins,p.1≠it):Inv X pins σ H { s with heap:=h',toks:=t' }:=by
 have nit:∀ b u,H b=some u->b≠it:=fun b u e z=>by rw [z,hn] at e; cases e
 refine I.step (g':=s.gens) (d':=s.drawn) (ch:=[it]) (fun b hb=>?_) (fun b o _ _ hc e _=>k b o (fun z=>hc (by simp [z])) e) (fun b o _ _ hc e _=>⟨o.slots,k b o (fun z=>hc (by simp [z])) e⟩) (fun _ _ _ _ n=>n) (fun b o hc e=>⟨o,k b o (fun z=>hc (by simp [z])) e⟩) (fun _ _ e=>e) (fun _ _ _ e=>e) (fun b ps e=>⟨#[],by rw [e]; simp⟩) (fun m hm=>?_) (fun b u e=>?_) I.bare
 ·have e:b=it:=by simpa using hb
  subst e;exact ⟨h1,hL,h2,h3⟩
 ·obtain ⟨o,es,ep,ho,r⟩:=hm;exact ⟨o,es,ep,k _ o (Ne.symm hL) ho,r⟩
 ·refine (I.hok b u e).stay (fun c v hc q=>k c v ?_ q) (fun _ q=>q) fun _ _ q=>q
  rcases hc with z | z
  ·rw [z]; exact nit b u e
  ·exact nit c _ z
theorem Inv.tok (I:Inv X pins σ H s) (t:Nat):Inv X pins σ H { s with toks:=t }:=I.un (h':=s.heap) (t':=t) Un.refl I.hok
theorem Inv.kept {t':Nat} (I:Inv X pins σ H s) (k:∀ b u,s.heap.get? b=some u->h'.get? b=some u):Inv X pins σ H { s with heap:=h',toks:=t' }:=I.un (Un.kept k) (I.hok.kept k)
theorem Inv.laid {a:aA} {o:HO} {t':Nat} (I:Inv X pins σ H s) (k:∀ b u,s.heap.get? b=some u->h'.get? b=some u) (hp:s.heap.objs.size<=a) (new:gD X.prog X.w (upd H a o) h' a o) : Inv X pins σ (upd H a o) { s with heap:=h',toks:=t' }:=I.un (Un.laid k hp (I.hok.fresh hp)) (I.hok.laid k hp new)
theorem Inv.write {x e:aA} {o:HO} {t':Nat} (I:Inv X pins σ H s) (mu:Mut (H x)) (he:e=x\/H e=some (.own x)) (k:∀ b u,b≠e->s.heap.get? b=some u->h'.get? b=some u) (heo:∃ u,h'.get? e=some u) (new:gD X.prog X.w (upd H x o) h' x o):Inv X pins σ (upd H x o) { s with heap:=h',toks:=t' }:=I.un (Un.write mu he k heo) (I.hok.write mu he k heo new)
theorem Inv.weak {σ':List (Option V)} (I:Inv X pins σ H s) (hl:σ'.length=σ.length) (w:∀ (i:Nat) v,σ'[i]?=some (some v)->σ[i]?=some (some v)):Inv X pins σ' H s := ⟨I.ok,I.os,I.bare,I.base,let ⟨m,hn,hl'⟩:=I.loc; ⟨m,hn,fun i x v e1 e2 e3=>hl' i x v e1 (w i v e2) e3⟩,I.cell,I.free,I.jY,I.pin,I.hok,hl.trans I.len⟩
theorem Inv.DR {p8:List (aA × Obj)} (I:Inv X pins σ H s) (h:∀ p ∈ p8,s.heap.get? p.1=some p.2/\H p.1=none/\p.1≠X.env.locals/\p.1 ∉ X.fs/\∀ v,p.2.data≠.cell v):Inv X p8 σ H s := ⟨I.ok,I.os,I.bare,I.base,I.loc,I.cell,I.free,I.jY,fun p hp=>(cM.mp hp).elim (fun z=>I.pin p (mem_append_left _ z)) (h p),I.hok,I.len⟩
theorem Gm {N:List Str} (hN:N.Nodup) {i j:Nat} {x:Str} (a:N[i]?=some x) (b:N[j]?=some x):i=j:=by
 obtain ⟨h1,e1⟩:=aF.mp a;obtain ⟨h2,e2⟩:=aF.mp b;exact (List.getElem_inj hN).mp (e1.trans e2.symm)
theorem BW {M:Model} {A:d7} {E:aB->aX->Prop} {i:Nat} {x:Str} {v:V} {u:aB} {Q:Unit->aX->Prop} (I:Inv X pins σ H s) (hN:X.N.Nodup) (hi:X.N[i]?=some x) (hx:Loc X.env.scope x) (r:RelV v u) (h:∀ s',Inv X pins (σ.set i (some v)) H s'->(∃ a,Heap.SameBut a s.heap s'.heap/\(a=X.env.locals\/X.env.cells.lookup x=some a))->Q () s') (hf:autoParam (X.fn x=true\/X.env.scope.names.lookup x=some .local) zau2):wpAny M A (storeName X.env x u) Q E s:=by
 obtain ⟨m,hn,hl⟩:=id I.loc;have hcls:(X.env.scope.kind == .class || (X.env.scope.kind == .module && X.env.locals != X.env.globals))=false:=by rw [I.ok.kind]; rfl
 have hiσ:i < σ.length:=by rw [I.len]; exact (aF.mp hi).1
 have cne:=I.cne;have tracked:∀ {a:aA} {h':Heap},(∃ o,s.heap.get? a=some o/\H a=none)->Heap.SameBut a s.heap h'->wH X.prog X.w H h':=fun {a h'} ha hs b ob e=>by
  obtain ⟨_,_,hfree⟩:=ha;refine (I.hok b ob e).stay (fun c w' hc q=>(hs.2 c ?_).trans q) (fun _ q=>q) fun _ _ q=>q
  rintro rfl;rcases hc with rfl | hc
  ·rw [hfree] at e; cases e
  ·rw [hfree] at hc; cases hc
 rcases hx with hk | hk
 ·refine wpAny_storeName_local hk hn (fun h' hn' hs=>?_) hcls;obtain ⟨oL,_,_,hoL,_⟩:=id hn;refine h _ ⟨I.ok,I.os,I.bare,⟨fun b o e n hb hx=>?_,fun b o e n hb hx=>?_,I.base.free,fun b o e hx=>?_,I.base.tups,I.base.yI,I.base.yJ⟩,⟨_,hn',fun j y v' e1 e2 e3=>?_⟩,fun y c e=>?_,I.free,I.jY,fun p hp=>?_,tracked ⟨oL,hoL,I.free⟩ hs,by simpa using I.len⟩ ⟨_,hs,.inl rfl⟩
  ·exact (hs.2 b (Nat.ne_of_lt (bA (Heap.lt_size e) I.ok.above))).trans (I.base.keep b o e n hb hx)
  ·obtain ⟨sl,e1⟩:=I.base.slot b o e n hb hx;exact ⟨sl,(hs.2 b (Nat.ne_of_lt (bA (Heap.lt_size e) I.ok.above))).trans e1⟩
  ·obtain ⟨o',e1⟩:=I.base.there b o e hx;exact ⟨o',(hs.2 b (Nat.ne_of_lt (bA (Heap.lt_size e) I.ok.above))).trans e1⟩
  ·by_cases hj:j=i
   ·subst hj;rw [hi] at e1; cases e1;rw [List.getElem?_set_self hiσ] at e2;cases e2;exact ⟨u,r,.inl ⟨hk,by simp⟩⟩
   ·rw [List.getElem?_set_ne (Ne.symm hj)] at e2;obtain ⟨u',r',q⟩:=hl j y v' e1 e2 e3;refine ⟨u',r',?_⟩;rcases q with ⟨k,e⟩ | ⟨k,c,e,z⟩
    ·refine .inl ⟨k,?_⟩;have:y≠x:=fun e=>hj (Gm hN e1 (e ▸ hi))
     simp [this,e]
    ·exact .inr ⟨k,c,e,z.sameBut hs (cne y c e)⟩
  ·obtain ⟨w',z⟩:=I.cell y c e;exact ⟨w',z.sameBut hs (cne y c e)⟩
  ·obtain ⟨e,n,ne,nf,d⟩:=I.pin p hp;exact ⟨(hs.2 p.1 ne).trans e,n,ne,nf,d⟩
 ·have hfn:X.fn x=true:=by
   rcases hf with z | z
   ·exact z
   ·rw [z] at hk; cases hk
  obtain ⟨c,hc⟩:=I.ok.has x (.inl hk);obtain ⟨w',z⟩:=I.cell x c hc;refine wpAny_storeName_cell I.ok.kind hk hc z (fun h' hc' hs=>?_);obtain ⟨oc,hoc,azi⟩:=id z;refine h { s with heap:=h' } ⟨I.ok,I.os,I.bare,⟨fun b o e n hb hx=>?_,fun b o e n hb hx=>?_,I.base.free,fun b o e hx=>?_,I.base.tups,I.base.yI,I.base.yJ⟩,⟨m,hn.sameBut hs (Ne.symm (cne x c hc)),fun j y v' e1 e2 e3=>?_⟩,fun y c' e=>?_,I.free,I.jY,fun p hp=>?_,tracked ⟨oc,hoc,I.jY x c hc⟩ hs,by simpa using I.len⟩ ⟨c,hs,.inr hc⟩
  ·exact (hs.2 b (Nat.ne_of_lt (bA (Heap.lt_size e) (I.ok.cab x c hfn hc)))).trans (I.base.keep b o e n hb hx)
  ·obtain ⟨sl,e1⟩:=I.base.slot b o e n hb hx;exact ⟨sl,(hs.2 b (Nat.ne_of_lt (bA (Heap.lt_size e) (I.ok.cab x c hfn hc)))).trans e1⟩
  ·obtain ⟨o',e1⟩:=I.base.there b o e hx;exact ⟨o',(hs.2 b (Nat.ne_of_lt (bA (Heap.lt_size e) (I.ok.cab x c hfn hc)))).trans e1⟩
  ·by_cases hj:j=i
   ·subst hj;rw [hi] at e1; cases e1;rw [List.getElem?_set_self hiσ] at e2;cases e2;exact ⟨u,r,.inr ⟨.inl hk,c,hc,hc'⟩⟩
   ·rw [List.getElem?_set_ne (Ne.symm hj)] at e2;obtain ⟨u',r',q⟩:=hl j y v' e1 e2 e3;refine ⟨u',r',?_⟩;rcases q with q | ⟨k,c',e,z'⟩
    ·exact .inl q
    ·refine .inr ⟨k,c',e,z'.sameBut hs ?_⟩;rintro rfl;exact hj (Gm hN e1 (I.ok.inj _ _ _ e hc ▸ hi))
  ·by_cases hcc:c'=c
   ·subst hcc; exact ⟨_,hc'⟩
   ·obtain ⟨w2,z2⟩:=I.cell y c' e;exact ⟨w2,z2.sameBut hs hcc⟩
  ·obtain ⟨e,n,ne,nf,d⟩:=I.pin p hp;refine ⟨(hs.2 p.1 ?_).trans e,n,ne,nf,d⟩;intro q;rw [q,hoc] at e;have q':oc=p.2:=bQ e;exact d w' (by rw [<- q']; exact azi)
theorem uX {M:Model} {A:d7} {E:aB->aX->Prop} {i:Nat} {x:Str} {v:V} {u:aB} {Q:Unit->aX->Prop} (I:Inv X pins σ H s) (hN:X.N.Nodup) (hi:X.N[i]?=some x) (hx:Loc X.env.scope x) (r:RelV v u) (h:∀ s',Inv X pins (σ.set i (some v)) H s'->Q () s') (hf:autoParam (X.fn x=true\/X.env.scope.names.lookup x=some .local) zau2):wpAny M A (storeName X.env x u) Q E s := BW I hN hi hx r (fun s' I' _=>h s' I') hf
theorem Inv.call' {s':aX} {ch:List aA} (I:Inv X pins σ H s) (ho:s'.os=s.os) (u:Un (frs X.stack) ch H H' s.heap s'.heap) (hok:wH X.prog X.w H' s'.heap) (hg:AllBare s'.gens) (hch:∀ b ∈ ch,(b ∈ X.ex\/X.s₀.heap.objs.size<=b)/\b≠X.env.locals/\(∀ x c,X.env.cells.lookup x=some c->c≠b)/\∀ p ∈ X.pn++pins,p.1≠b):Inv X pins σ H' s':=by
 obtain ⟨h',g',d',t',o'⟩:=s';have e:o'=s.os:=ho;subst e;exact I.call (g':=g') (t':=t') (d':=d') u hok hg hch
end
abbrev XK:=aB->Option aA->Hp->Prop
abbrev St:=List (Option V)
abbrev VK:=V->Hp->Prop
abbrev TE:=St->Hp->VK->Prop
abbrev TT:=St->Hp->(Bool->Hp->Prop)->Prop
abbrev TA:=St->Hp->(List V->Hp->Prop)->Prop
structure Ends where
 nx:St->Hp->Prop
 rt:VK
 bk:St->Hp->Prop:=fun _ _=>False
 ct:St->Hp->Prop:=fun _ _=>False
abbrev TS:=Ends->St->Hp->Prop
def EP (X:Cx) (pins:List (aA × Obj)) (σ:St) (Q:VK) (u:aB) (s':aX):Prop:=∃ v H',Inv X pins σ H' s'/\RelV v u/\Q v H'
def TP (X:Cx) (pins:List (aA × Obj)) (σ:St) (Q:Bool->Hp->Prop) (b:Bool) (s':aX):Prop:=∃ H',Inv X pins σ H' s'/\Q b H'
def AP (X:Cx) (pins:List (aA × Obj)) (σ:St) (Q:List V->Hp->Prop) (us:List aB) (s':aX):Prop:=∃ vs H',Inv X pins σ H' s'/\Vals vs us/\Q vs H'
def SP (X:Cx) (pins:List (aA × Obj)) (D:Ends) (f:Flow) (s':aX):Prop := match f with
 | .next=>∃ σ' H',Inv X pins σ' H' s'/\D.nx σ' H'
 | .brk=>∃ σ' H',Inv X pins σ' H' s'/\D.bk σ' H'
 | .cont=>∃ σ' H',Inv X pins σ' H' s'/\D.ct σ' H'
 | .ret u=>∃ v σ' H',Inv X pins σ' H' s'/\RelV v u/\D.rt v H'
def PE (X:Cx) (e:Expr) (t:TE):Prop := ∀ (pins:List (aA × Obj)) (s:aX) (σ:St) (H:Hp) (Q:VK),Inv X pins σ H s->t σ H Q->wpAny (model X.prog X.w) X.A (eval e X.env) (EP X pins σ Q) X.xe s
def PT (X:Cx) (e:Expr) (t:TT):Prop := ∀ (pins:List (aA × Obj)) (s:aX) (σ:St) (H:Hp) (Q:Bool->Hp->Prop),Inv X pins σ H s->t σ H Q->wpAny (model X.prog X.w) X.A (isTrue e X.env (eval e X.env)) (TP X pins σ Q) X.xe s
def PW (X:Cx) (e:Expr) (t:TT):Prop := ∀ (whole:Sem aB) (pins:List (aA × Obj)) (s:aX) (σ:St) (H:Hp) (Q:Bool->Hp->Prop),Inv X pins σ H s->t σ H Q->wpAny (model X.prog X.w) X.A (isTrue e X.env whole) (TP X pins σ Q) X.xe s
theorem PW.pt {X:Cx} {e:Expr} {t:TT} (h:PW X e t):PT X e t:=h _
def PA (X:Cx) (es:List Expr) (t:TA):Prop := ∀ (pos:Pos) (pins:List (aA × Obj)) (s:aX) (σ:St) (H:Hp) (Q:List V->Hp->Prop),Inv X pins σ H s->t σ H Q->wpAny (model X.prog X.w) X.A (spliced (backTo pos (starEach es X.env))) (AP X pins σ Q) X.xe s
def PS (X:Cx) (st:dW) (t:TS):Prop := ∀ (pins:List (aA × Obj)) (s:aX) (σ:St) (H:Hp) (D:Ends),Inv X pins σ H s->t D σ H->wpAny (model X.prog X.w) X.A (exec st X.env) (SP X pins D) X.xe s
def Br (X:Cx) (st:List dW) (t:TS):Prop := ∀ (pins:List (aA × Obj)) (s:aX) (σ:St) (H:Hp) (D:Ends),Inv X pins σ H s->t D σ H->wpAny (model X.prog X.w) X.A (execs st X.env) (SP X pins D) X.xe s
theorem fV {α:Type} {t:Sem α} {Q Q':α->aX->Prop} {M:Model} {A:d7} {E:aB->aX->Prop} {s:aX} (h:wpAny M A t Q E s) (hQ:∀ a s,Q a s->Q' a s):wpAny M A t Q' E s:=eU h hQ fun _ _ x=>x
section
variable {X:Cx}
theorem bin {a b:Expr} {ta tb:TE} (ha:PE X a ta) (hb:PE X b tb) {pins:List (aA × Obj)} {s:aX} {σ:St} {H:Hp} {R:V->V->Hp->Prop} (I:Inv X pins σ H s) (h:ta σ H fun x H1=>tb σ H1 fun y H2=>R x y H2) {α:Type} {Q:α->aX->Prop} {f:aB->aB->Sem α} (hf:∀ v u s2 x y H2,Inv X pins σ H2 s2->RelV x v->RelV y u->R x y H2->wpAny (model X.prog X.w) X.A (f v u) Q X.xe s2) : wpAny (model X.prog X.w) X.A (eval a X.env) (fun v s₁=>wpAny (model X.prog X.w) X.A (eval b X.env) (fun u s₂=>wpAny (model X.prog X.w) X.A (f v u) Q X.xe s₂) X.xe s₁) X.xe s:=by
 refine fV (ha pins s σ H _ I h) fun v s1 ⟨x,H1,I1,r1,q1⟩=>?_
 refine fV (hb pins s1 σ H1 _ I1 q1) fun u s2 ⟨y,H2,I2,r2,q2⟩=>?_
 exact hf v u s2 x y H2 I2 r1 r2 q2
def Yp (i:Nat):TE:=fun σ H Q=>∃ v,σ[i]?=some (some v)/\Q v H
def tC (v:V):TE:=fun _ H Q=>Q v H
theorem ahA {i:Nat} {x:Str} {pos:Pos} (hN:X.N[i]?=some x) (hv:Vis X.env.scope x) (hd:autoParam ((x == ("__debug__":Str))=false) zau1) (hcd:autoParam ((x == ("__classdict__":Str))=false) zau1):PE X (.Name x pos) (Yp i):=by
 intro pins s σ H Q I h;obtain ⟨v,e,h⟩:=h;obtain ⟨m,hn,hl⟩:=I.loc;obtain ⟨u,r,l⟩:=hl i x v hN e hv;have fin:EP X pins σ Q u s:=⟨v,H,I,r,h⟩;rcases l with ⟨hk,hm⟩ | ⟨hk,c,hc,hcell⟩
 ·exact wpAny_Name (wpAny_loadName_local I.ok.kind hk hn hm fin) hd
 ·rcases hk with hk | hk
  ·exact wpAny_Name (wpAny_loadName_cell I.ok.kind hk hc hcell fin) hd
  ·exact wpAny_Name (wpAny_loadName_free I.ok.kind hk hc hcell fin hcd) hd
theorem aV {i j pos}:PE X (.Constant (.int i) j pos) (tC (.int i)):=fun _ _ _ H _ I h=>wpAny_Constant_int ⟨.int i,H,I.tok _,⟨_,rfl⟩,h⟩
theorem qb {b j pos}:PE X (.Constant (.bool b) j pos) (tC (.bl b)):=fun _ _ _ H _ I h=>Constant_bool ⟨.bl b,H,I,rfl,h⟩
theorem ji {j pos}:PE X (.Constant .none j pos) (tC .non):=fun _ _ _ H _ I h=>Constant_none ⟨.non,H,I,rfl,h⟩
theorem ju {x j pos}:PE X (.Constant (.str x) j pos) (tC (.str x)):=fun _ _ _ H _ I h=>Calls.Constant_str ⟨.str x,H,I.tok _,⟨_,rfl⟩,h⟩
def Gl (X:Cx) (x:Str):Prop:=X.env.kindOf x=some .globalImplicit
theorem pC {E:aB->aX->Prop} {pins:List (aA × Obj)} {s:aX} {σ:St} {H:Hp} {x:Str} {u:aB} {pos:Pos} {Q:aB->aX->Prop} (I:Inv X pins σ H s) (hg:Gl X x) (hm:X.mg x=some u) (h:Q u s) (hd:autoParam ((x == ("__debug__":Str))=false) zau1):wpAny (model X.prog X.w) X.A (eval (.Name x pos) X.env) Q E s := Calls.Name_function_global I.ok.kind hg (Calls.loadGlobal_global (by rw [I.ok.glob]; exact I.mod.glob.keeps I.bk) hm h) hd
theorem nZ {E:aB->aX->Prop} {pins:List (aA × Obj)} {s:aX} {σ:St} {H:Hp} {x:Str} {u:aB} {pos:Pos} {Q:aB->aX->Prop} (I:Inv X pins σ H s) (hg:Gl X x) (hm:X.mg x=none) (hv:bootBuiltins x=some u) (h:Q u s) (hn:autoParam (x≠"__name__") zau1) (hd:autoParam ((x == ("__debug__":Str))=false) zau1):wpAny (model X.prog X.w) X.A (eval (.Name x pos) X.env) Q E s:=by
 obtain ⟨mb,h1,h2⟩:=I.mod.blt;exact Calls.Name_function_global I.ok.kind hg (Calls.loadGlobal_builtin (by rw [I.ok.glob]; exact I.mod.glob.keeps I.bk) hm (by rw [I.ok.blt]; exact h1.keeps I.bk) ((h2 x hn).trans hv) h) hd
theorem Mg {x:Str} {v:V} {u:aB} {pos:Pos} (hg:Gl X x) (hm:X.mg x=some u) (r:RelV v u) (hd:autoParam ((x == ("__debug__":Str))=false) zau1):PE X (.Name x pos) (tC v) := fun _ _ _ H _ I h=>pC I hg hm ⟨v,H,I,r,h⟩ hd
theorem Yq {x:Str} {v:V} {u:aB} {pos:Pos} (hg:Gl X x) (hm:X.mg x=none) (hv:bootBuiltins x=some u) (r:RelV v u) (hn:autoParam (x≠"__name__") zau1) (hd:autoParam ((x == ("__debug__":Str))=false) zau1):PE X (.Name x pos) (tC v) := fun _ _ _ H _ I h=>nZ I hg hm hv ⟨v,H,I,r,h⟩ hn hd
variable {a b:Expr} {ta tb:TE} {pos:Pos}
noncomputable def PC (X:Cx) (op:CmpOp) (a b:Expr) (t:TE):Prop := ∀ (pins:List (aA × Obj)) (s:aX) (σ:St) (H:Hp) (Q:VK),Inv X pins σ H s->t σ H Q -> wpAny (model X.prog X.w) X.A (eval a X.env) (fun v s₁=>wpAny (model X.prog X.w) X.A (eval b X.env) (fun u s₂=>wpAny (model X.prog X.w) X.A (compareOp op v u) (EP X pins σ Q) X.xe s₂) X.xe s₁) X.xe s
def tB (t:TE):TT:=fun σ H Q=>t σ H fun x H1=>∃ c,x=.bl c/\Q c H1
theorem azj {op:CmpOp} {t:TE} (h:PC X op a b t) (h1:behindInMarks op b=false:=by first | exact aoR _ (by decide) (by decide) | rfl):PT X (.Compare a [op] [b] pos) (tB t):=by
 intro pins s σ H Q I hw;refine wpAny_isTrue_Compare1 (fV (h pins s σ H _ I hw) fun v s1 h1=>fV h1 fun u s2 h2=>fV h2 fun c s3 ⟨x,H1,I1,r1,q1⟩=>?_) h1;obtain ⟨d,rfl,q⟩:=q1;cases r1;exact wpAny_truthy_bool ⟨H1,I1,q⟩
theorem gQ {e:Expr} {t:TE} (h:PE X e t) (he:autoParam (∀ whole,isTrue e X.env whole=(do let v <- whole; standAt e.pos; holding [v] (truthy v))) zau3):PT X e (tB t):=by
 intro pins s σ H Q I hw;refine isTrue_plain (fV (h pins s σ H _ I hw) fun v s1 ⟨x,H1,I1,r1,q1⟩=>?_) (he _);obtain ⟨d,rfl,q⟩:=q1;cases r1;exact wpAny_truthy_bool ⟨H1,I1,q⟩
variable {tA tB':TT} {rest:List Expr}
def azk (t u:TT):TT:=fun σ H Q=>t σ H fun c H1=>if c=true then u σ H1 Q else Q false H1
def tOr (t u:TT):TT:=fun σ H Q=>t σ H fun c H1=>if c=true then Q true H1 else u σ H1 Q
def azl (t:TT):TT:=fun σ H Q=>t σ H fun c H1=>Q (!c) H1
theorem pw_and1 (ha:PT X a tA):PW X (.BoolOp .And [a] pos) tA:=by
 intro wh pins s σ H Q I h;refine isTrue_and (fV (ha pins s σ H Q I h) fun c s1 e=>?_);cases c with
 | true=>exact isTrue_and_nil e
 | false=>exact e
theorem pw_or1 (ha:PT X a tA):PW X (.BoolOp .Or [a] pos) tA:=by
 intro wh pins s σ H Q I h;refine isTrue_or (fV (ha pins s σ H Q I h) fun c s1 e=>?_);cases c with
 | false=>exact isTrue_or_nil e
 | true=>exact e
theorem pw_and (ha:PT X a tA) (hb:PW X (.BoolOp .And (b::rest) pos) tB'):PW X (.BoolOp .And (a::b::rest) pos) (azk tA tB'):=by
 intro wh pins s σ H Q I h;refine isTrue_and (fV (ha pins s σ H _ I h) fun c s1 ⟨H1,I1,q1⟩=>?_);cases c with
 | true=>exact hb wh pins s1 σ H1 Q I1 q1
 | false=>exact ⟨H1,I1,q1⟩
theorem pw_or (ha:PT X a tA) (hb:PW X (.BoolOp .Or (b::rest) pos) tB'):PW X (.BoolOp .Or (a::b::rest) pos) (tOr tA tB'):=by
 intro wh pins s σ H Q I h;refine isTrue_or (fV (ha pins s σ H _ I h) fun c s1 ⟨H1,I1,q1⟩=>?_);cases c with
 | true=>exact ⟨H1,I1,q1⟩
 | false=>exact hb wh pins s1 σ H1 Q I1 q1
theorem iG (ha:PT X a tA):PT X (.UnaryOp .Not a pos) (azl tA):=by
 intro pins s σ H Q I h;exact isTrue_not (ha pins s σ H (fun c H1=>Q (!c) H1) I h)
def aa5 (ta tb:TE):TE:=fun σ H Q=>ta σ H fun x H1=>∃ c,x=.bl c/\if c=true then tb σ H1 Q else Q (.bl false) H1
theorem ahB {op} {t:TE} (h:PE X a t):PE X (.BoolOp op [a] pos) t:=fun pins s σ H Q I hw=>BoolOp_one (h pins s σ H Q I hw)
theorem ahC (ha:PE X a ta) (hb:PE X (.BoolOp .And (b::rest) pos) tb):PE X (.BoolOp .And (a::b::rest) pos) (aa5 ta tb):=by
 intro pins s σ H Q I h;refine BoolOp_and (fV (ha pins s σ H _ I h) fun v s1 ⟨x,H1,I1,r1,q1⟩=>?_);obtain ⟨c,rfl,q1⟩:=q1;cases r1;refine wpAny_truthy_bool ?_;cases c with
 | true=>exact hb pins s1 σ H1 Q I1 q1
 | false=>exact ⟨.bl false,H1,I1,rfl,q1⟩
def tIf (t:TT) (ta tb:TE):TE:=fun σ H Q=>t σ H fun c H1=>if c=true then ta σ H1 Q else tb σ H1 Q
theorem uY {c:Expr} (hc:PT X c tA) (ha:PE X a ta) (hb:PE X b tb):PE X (.IfExp c a b pos) (tIf tA ta tb):=by
 intro pins s σ H Q I h;refine wpAny_IfExp (fV (hc pins s σ H _ I h) fun d s1 ⟨H1,I1,q1⟩=>?_);cases d with
 | true=>exact ha pins s1 σ H1 Q I1 q1
 | false=>exact hb pins s1 σ H1 Q I1 q1
end
def cU (K:Fg) (H:Hp) (a:aA) (xs:List V):Prop := Rd H a (.lst xs) \/ ∃ (o:Obj) (its:Array aB) (n:Nat),K.lookup a=some o/\o.cls=.type "list"/\o.dict=none/\o.data=.seq its n/\its.size<=sizeLine/\Vals xs its.toList
def fj (K:Fg) (H:Hp) (a:aA) (xs:List V):Prop := Rd H a (.tup xs) \/ ∃ (o:Obj) (its:Array aB) (n:Nat),K.lookup a=some o/\o.cls=.type "tuple"/\o.data=.seq its n/\its.size<=sizeLine/\Vals xs its.toList
def azm:aB->Option V
 | .none=>some .non
 | .bool b=>some (.bl b)
 | .int i _=>some (.int i)
 | .str x _=>some (.str x)
 | .bytes b _=>some (.Mf b)
 | .float b _=>some (.flt b)
 | .ref a=>some (.ref a)
 | .type n=>some (.ty n)
 | _=>none
theorem RelV.abs {x:V} {u:aB} (r:RelV x u):azm u=some x:=by
 cases x with
 | non=>cases r; rfl
 | bl _=>cases r; rfl
 | int _=>obtain ⟨t,rfl⟩:=r; rfl
 | str _=>obtain ⟨t,rfl⟩:=r; rfl
 | Mf _=>obtain ⟨t,rfl⟩:=r; rfl
 | flt _=>obtain ⟨t,rfl⟩:=r; rfl
 | ref _=>cases r; rfl
 | ty _=>cases r; rfl
theorem RelV.inj {x y:V} {u:aB} (r:RelV x u) (q:RelV y u):x=y:=bQ (r.abs.symm.trans q.abs)
theorem Vals.inj:∀ {xs ys:List V} {us:List aB},Vals xs us->Vals ys us->xs=ys
 | _,_,_,.nil,.nil=>rfl
 | _,_,_,.cons r t,.cons r' t'=>by rw [r.inj r',Vals.inj t t']
section
variable {X:Cx} {pins:List (aA × Obj)} {σ:St} {H:Hp} {s:aX} {a:aA} {xs ys:List V}
theorem cU.of {K:Fg} (h:H a=some (.lst xs)):cU K H a xs:=.inl (.inl h)
theorem fj.of {K:Fg} (h:H a=some (.tup xs)):fj K H a xs:=.inl (.inl h)
theorem Inv.list (I:Inv X pins σ H s) (h:cU X.K H a xs):∃ its:List aB,Vals xs its/\PlainL s.heap a its.toArray/\xs.length<=sizeLine:=by
 rcases h with h | ⟨o,its,n,hk,hc,hd,hs,hz,r⟩
 ·obtain ⟨z,its,n,r,e⟩:=h.ok I.hok;exact ⟨its,r,⟨_,n,e,rfl,rfl,rfl⟩,z⟩
 ·refine ⟨its.toList,r,⟨o,n,I.sG a o hk,hc,hd,by simpa using hs⟩,?_⟩;have e:=r.length;simp only [Array.length_toList] at e;omega
theorem Inv.tuple (I:Inv X pins σ H s) (h:fj X.K H a xs):∃ its:List aB,Vals xs its/\IsTup s.heap a its.toArray/\xs.length<=sizeLine:=by
 rcases h with h | ⟨o,its,n,hk,hc,hs,hz,r⟩
 ·obtain ⟨z,its,r,p⟩:=h.ok I.hok;exact ⟨its,r,p,z⟩
 ·refine ⟨its.toList,r,⟨o,I.sG a o hk,hc,n,by simpa using hs⟩,?_⟩;have e:=r.length;simp only [Array.length_toList] at e;omega
theorem Inv.uZ (I:Inv X pins σ H s) (h:cU X.K H a xs) (h':cU X.K H a ys):xs=ys:=by
 obtain ⟨its,r,⟨o,n,e,_,_,d⟩,_⟩:=I.list h;obtain ⟨its',r',⟨o',n',e',_,_,d'⟩,_⟩:=I.list h';rw [e] at e'; cases e';rw [d] at d';injection d' with d1 _;have:its=its':=by simpa using congrArg Array.toList d1
 subst this;exact r.inj r'
theorem Inv.Ov (I:Inv X pins σ H s) (h:fj X.K H a xs) (h':fj X.K H a ys):xs=ys:=by
 obtain ⟨its,r,⟨o,e,_,n,d⟩,_⟩:=I.tuple h;obtain ⟨its',r',⟨o',e',_,n',d'⟩,_⟩:=I.tuple h';rw [e] at e'; cases e';rw [d] at d';injection d' with d1 _;have:its=its':=by simpa using congrArg Array.toList d1
 subst this;exact r.inj r'
end
section
variable {X:Cx} {pins:List (aA × Obj)} {σ:St} {H:Hp} {s:aX} {E:aB->aX->Prop}
end
section
variable {X:Cx} {st:dW} {rest:List dW} {t u:TS} {e:Expr} {te:TE} {pos:Pos}
def aoS:TS:=fun D σ H=>D.nx σ H
def azn (t u:TS):TS:=fun D σ H=>t { D with nx:=u D } σ H
theorem cX:Br X [] aoS:=fun _ _ σ H _ I h=>wpAny_execs_nil ⟨σ,H,I,h⟩
theorem aH (h1:PS X st t) (h2:Br X rest u):Br X (st::rest) (azn t u):=by
 intro pins s σ H D I h;refine wpAny_execs_cons (fV (h1 pins s σ H { D with nx:=u D } I h) fun f s1 q=>?_);cases f with
 | next =>
  obtain ⟨σ',H',I',q⟩:=q;exact h2 pins s1 σ' H' D I' q
 | ret v=>exact q
 | brk=>exact q
 | cont=>exact q
theorem aU (h1:PS X st t):Br X [st] t:=by
 intro pins s σ H D I h;refine wpAny_execs_cons (fV (h1 pins s σ H D I h) fun f s1 q=>?_);cases f with
 | next=>exact wpAny_execs_nil q
 | ret v=>exact q
 | brk=>exact q
 | cont=>exact q
theorem Inv.quiet {pins:List (aA × Obj)} {σ:St} {H:Hp} {s:aX} (I:Inv X pins σ H s):interactive X.env=false:=by simp [interactive,I.ok.kind]
def aoT (te:TE):TS:=fun D σ H=>te σ H fun _ H1=>D.nx σ H1
theorem fu (he:PE X e te) (hs:autoParam (swapsWith e none pos.line X.env=pure false) zau0):PS X (.Expr e pos) (aoT te):=by
 intro pins s σ H D I h;exact wpAny_Expr_any (fV (he pins s σ H _ I h) fun v s1 ⟨x,H1,I1,r1,q1⟩=>⟨σ,H1,I1,q1⟩) I.quiet hs
def aoU (te:TE):TS:=fun D σ H=>te σ H D.rt
theorem cj (he:PE X e te):PS X (.Return (some e) pos) (aoU te):=by
 intro pins s σ H D I h;exact wpAny_Return_some (fV (he pins s σ H _ I h) fun v s1 ⟨x,H1,I1,r1,q1⟩=>⟨x,σ,H1,I1,r1,q1⟩)
def azo (c:TT) (t u:TS):TS:=fun D σ H=>c σ H fun b H1=>if b=true then t D σ H1 else u D σ H1
theorem eV {c:Expr} {a b:List dW} {tc:TT} (hc:PT X c tc) (ha:Br X a t) (hb:Br X b u):PS X (.If c a b pos) (azo tc t u):=by
 intro pins s σ H D I h;refine wpAny_If (fV (hc pins s σ H _ I h) fun d s1 ⟨H1,I1,q1⟩=>?_);cases d with
 | true=>exact ha pins s1 σ H1 D I1 q1
 | false=>exact hb pins s1 σ H1 D I1 q1
end
abbrev TG:=V->St->Hp->(St->Hp->Prop)->Prop
abbrev TGs:=List V->St->Hp->(St->Hp->Prop)->Prop
def PG (X:Cx) (target:Expr) (t:TG):Prop := ∀ (pins:List (aA × Obj)) (s:aX) (σ:St) (H:Hp) (v:V) (u:aB) (Q:St->Hp->Prop),Inv X pins σ H s->RelV v u->t v σ H Q -> wpAny (model X.prog X.w) X.A (assign target X.env u) (fun _ s'=>∃ σ' H',Inv X pins σ' H' s'/\Q σ' H') X.xe s
noncomputable def PGs (X:Cx) (ts:List Expr) (t:TGs):Prop := ∀ (pins:List (aA × Obj)) (s:aX) (σ:St) (H:Hp) (vs:List V) (us:List aB) (Q:St->Hp->Prop),Inv X pins σ H s->Vals vs us->t vs σ H Q -> wpAny (model X.prog X.w) X.A (assignInOrder ((assignEach ts X.env).map (·.2)) us) (fun _ s'=>∃ σ' H',Inv X pins σ' H' s'/\Q σ' H') X.xe s
abbrev Ow:=V->V->V->Hp->(Hp->Prop)->Prop
def Yr (X:Cx) (t:Ow):Prop := ∀ (pins:List (aA × Obj)) (s:aX) (σ:St) (H:Hp) (o i v:V) (ov iv u:aB) (Q:Hp->Prop),Inv X pins σ H s->RelV o ov->RelV i iv->RelV v u->t o i v H Q -> wpAny (model X.prog X.w) X.A (setItem ov iv u) (fun _ s'=>∃ H',Inv X pins σ H' s'/\Q H') X.xe s
abbrev TIp:=V->V->Hp->VK->Prop
def PIp (X:Cx) (op:Operator) (t:TIp):Prop := ∀ (pins:List (aA × Obj)) (s:aX) (σ:St) (H:Hp) (x y:V) (v u:aB) (Q:VK),Inv X pins σ H s->RelV x v->RelV y u->t x y H Q -> wpAny (model X.prog X.w) X.A (inplaceOp op v u) (EP X pins σ Q) X.xe s
section
variable {X:Cx} {pos:Pos}
def Mh (i:Nat):TG:=fun v σ H Q=>Q (σ.set i (some v)) H
theorem Ys {i:Nat} {x:Str} (hN:X.N.Nodup) (hi:X.N[i]?=some x) (hx:Loc X.env.scope x) (hf:autoParam (X.fn x=true\/X.env.scope.names.lookup x=some .local) zau2):PG X (.Name x pos) (Mh i):=by
 intro pins s σ H v u Q I r h;exact wpAny_assign_Name (uX I hN hi hx r (fun s' I'=>⟨_,H,I',h⟩) hf)
def azp:TGs:=fun vs σ H Q=>vs=[]/\Q σ H
def aoW (t:TG) (u:TGs):TGs:=fun vs σ H Q=>∃ v r,vs=v::r/\t v σ H fun σ' H'=>u r σ' H' Q
theorem gM:PGs X [] azp:=by
 intro pins s σ H vs us Q I r h;obtain ⟨e,h⟩:=h;subst e;cases r;exact assignInOrder_nil ⟨σ,H,I,h⟩
theorem cg {e:Expr} {es:List Expr} {t:TG} {u:TGs} (h1:PG X e t) (h2:PGs X es u) (hs:autoParam ((assignEach (e::es) X.env).map (·.2)=assign e X.env::(assignEach es X.env).map (·.2)) zau0):PGs X (e::es) (aoW t u):=by
 intro pins s σ H vs us Q I r h;obtain ⟨v,vr,e1,h⟩:=h;subst e1;cases r with
 | cons r rr =>
  rw [hs];refine assignInOrder_cons (fV (h1 pins s σ H _ _ _ I r h) fun _ s1 ⟨σ1,H1,I1,q1⟩=>?_);exact h2 pins s1 σ1 H1 _ _ Q I1 rr q1
def aoX (K:Fg) (n:Nat) (t:TGs):TG:=fun v σ H Q=>∃ a xs,v=.ref a/\fj K H a xs/\xs.length=n/\t xs σ H Q
theorem lZ {es:List Expr} {k:Nat} {t:TGs} {n:Nat} (hc:X.calm=true) (h:PGs X es t) (hn:autoParam ((assignEach es X.env).length=n) zau0) (hst:autoParam ((assignEach es X.env).findIdx? (·.1)=none) zau0):PG X (.Tuple es k pos) (aoX X.K n t):=by
 intro pins s σ H v u Q I r hw;obtain ⟨a,xs,e1,hq,hl,hw⟩:=hw;subst e1;cases r;obtain ⟨its,rv,ht,hz⟩:=I.tuple hq;refine assign_Tuple_tuple (I.ok.hd hc) ht (by simp [hn,<- hl,rv.length]) hst fun h' hx=>?_
 have I1:Inv X pins σ H { s with heap:=h' }:=I.kept (t':=s.toks) fun b o e=>hx b o (Nat.ne_of_lt (Heap.lt_size e)) e
 exact h pins _ σ H xs _ Q I1 (by simpa using rv) hw
def azq (to ti:TE) (t:Ow):TG:=fun v σ H Q=>to σ H fun o H1=>ti σ H1 fun i H2=>t o i v H2 fun H3=>Q σ H3
theorem Rv {o i:Expr} {to ti:TE} {t:Ow} (ho:PE X o to) (hi:PE X i ti) (hs:Yr X t) (ha:autoParam (∀ v,assign (.Subscript o i pos) X.env v=(do
  let ov <- holding [v] (eval o X.env)
  let iv <- holding [v,ov] (eval i X.env)
  standAt pos
  holding [v,ov,iv] (setItem ov iv v)
  release [v,ov,iv] [])) zau3):PG X (.Subscript o i pos) (azq to ti t):=by
 intro pins s σ H v u Q I r h;rw [ha];refine aj (wpAny_holding (fV (ho pins s σ H _ I h) fun ov s1 ⟨x,H1,I1,r1,q1⟩=>?_));refine aj (wpAny_holding (fV (hi pins s1 σ H1 _ I1 q1) fun iv s2 ⟨y,H2,I2,r2,q2⟩=>?_));refine aj (wpAny_standAt (aj (wpAny_holding (fV (hs pins s2 σ H2 x y v ov iv u _ I2 r1 r2 r q2) fun _ s3 ⟨H3,I3,q3⟩=>?_))));exact wpAny_release ⟨σ,H3,I3,q3⟩
def ahD (te:TE) (g:TG):TS:=fun D σ H=>te σ H fun x H1=>g x σ H1 D.nx
theorem DW {tg e:Expr} {te:TE} {g:TG} (he:PE X e te) (hg:PG X tg g) (hs:autoParam (swapsWithSole [tg] e pos.line X.env=pure false) zau0) (hw:autoParam (swappedStores [tg] e X.env=pure none) zau0) (h1:autoParam ((assignEach [tg] X.env).map (·.2)=[assign tg X.env]) zau0):PS X (.Assign [tg] e pos) (ahD te g):=by
 intro pins s σ H D I h;refine wpAny_Assign_stores (fV (he pins s σ H _ I h) fun v s1 ⟨x,H1,I1,r1,q1⟩=>?_) hs hw;rw [h1];exact fV (hg pins s1 σ H1 x v _ I1 r1 q1) fun _ s2 q=>q
theorem bM {i:Nat} {x:Str} {e:Expr} {te:TE} {pos':Pos} (hN:X.N.Nodup) (hi:X.N[i]?=some x) (hx:Loc X.env.scope x) (he:PE X e te) (hs:autoParam (swapsWith e (some (.Name x pos')) pos.line X.env=pure false) zau0) (hf:autoParam (X.fn x=true\/X.env.scope.names.lookup x=some .local) zau2) : PS X (.Assign [.Name x pos'] e pos) (ahD te (Mh i)):=by
 intro pins s σ H D I h;refine wpAny_Assign_Name (fV (he pins s σ H _ I h) fun v s1 ⟨y,H1,I1,r1,q1⟩=>?_) hs;exact uX I1 hN hi hx r1 (fun s2 I2=>⟨_,H1,I2,q1⟩) hf
def azr (i:Nat) (te:TE) (ti:TIp):TS:=fun D σ H=>∃ x,σ[i]?=some (some x)/\te σ H fun y H1=>ti x y H1 fun z H2=>D.nx (σ.set i (some z)) H2
theorem ahE {i:Nat} {x:Str} {e:Expr} {te:TE} {op:Operator} {ti:TIp} {pos':Pos} (hN:X.N.Nodup) (hi:X.N[i]?=some x) (hx:Loc X.env.scope x) (he:PE X e te) (ho:PIp X op ti) (hf:autoParam (X.fn x=true\/X.env.scope.names.lookup x=some .local) zau2) : PS X (.AugAssign (.Name x pos') op e pos) (azr i te ti):=by
 intro pins s σ H D I h;obtain ⟨v,e1,h⟩:=h;obtain ⟨m,hn,hl⟩:=I.loc;have vis:Vis X.env.scope x:=by rcases hx with k | k; exact .inl k; exact .inr (.inl k)
 obtain ⟨u,r,l⟩:=hl i x v hi e1 vis;refine wpAny_AugAssign_Name ?_;have go:wpAny (model X.prog X.w) X.A (eval e X.env) (fun w s₂=>wpAny (model X.prog X.w) X.A (inplaceOp op u w) (fun r s₃=>wpAny (model X.prog X.w) X.A (storeName X.env x r) (fun _=>SP X pins D .next) X.xe s₃) X.xe s₂) X.xe s:=by
  refine fV (he pins s σ H _ I h) fun w s1 ⟨y,H1,I1,r1,q1⟩=>?_
  refine fV (ho pins s1 σ H1 v y u w _ I1 r r1 q1) fun z s2 ⟨zv,H2,I2,r2,q2⟩=>?_
  exact uX I2 hN hi hx r2 (fun s3 I3=>⟨_,H2,I3,q2⟩) hf
 rcases l with ⟨hk,hm⟩ | ⟨hk,c,hc,hcell⟩
 ·exact wpAny_loadName_local I.ok.kind hk hn hm go
 ·rcases hk with hk | hk
  ·exact wpAny_loadName_cell I.ok.kind hk hc hcell go
  ·rcases hx with k | k
   ·have:X.env.scope.names.lookup x=some .free:=hk;rw [k] at this; cases this
   ·have:X.env.scope.names.lookup x=some .free:=hk;rw [k] at this; cases this
def aoY (to ti te:TE) (Yt:V->V->Hp->VK->Prop) (tip:TIp) (Yu:Ow):TS:=fun D σ H=>to σ H fun o H1=>ti σ H1 fun i H2=>Yt o i H2 fun x H3=>te σ H3 fun y H4=>tip x y H4 fun z H5=>Yu o i z H5 fun H6=>D.nx σ H6
def aoZ (X:Cx) (t:V->V->Hp->VK->Prop):Prop := ∀ (pins:List (aA × Obj)) (s:aX) (σ:St) (H:Hp) (o i:V) (ov iv:aB) (Q:VK),Inv X pins σ H s->RelV o ov->RelV i iv->t o i H Q -> wpAny (model X.prog X.w) X.A (getItem ov iv) (EP X pins σ Q) X.xe s
theorem Yv {o i e:Expr} {to ti te:TE} {Yt:V->V->Hp->VK->Prop} {tip:TIp} {Yu:Ow} {op:Operator} {tpos:Pos} (ho:PE X o to) (hi:PE X i ti) (hg:aoZ X Yt) (he:PE X e te) (hp:PIp X op tip) (hs:Yr X Yu) (ha:∀ ov iv new,augStore i ov iv new=(do holding [new,ov,iv] (setItem ov iv new); release [new,ov,iv] []; pure .next):=by intros; rfl):PS X (.AugAssign (.Subscript o i tpos) op e pos) (aoY to ti te Yt tip Yu):=by
 intro pins s σ H D I h;refine wpAny_AugAssign_SubscriptAny (fV (ho pins s σ H _ I h) fun ov s1 ⟨x1,H1,I1,r1,q1⟩=>?_) ha;refine fV (hi pins s1 σ H1 _ I1 q1) fun iv s2 ⟨x2,H2,I2,r2,q2⟩=>?_
 refine fV (hg pins s2 σ H2 x1 x2 ov iv _ I2 r1 r2 q2) fun old s3 ⟨x3,H3,I3,r3,q3⟩=>?_
 refine fV (he pins s3 σ H3 _ I3 q3) fun v s4 ⟨x4,H4,I4,r4,q4⟩=>?_
 refine fV (hp pins s4 σ H4 x3 x4 old v _ I4 r3 r4 q4) fun new s5 ⟨x5,H5,I5,r5,q5⟩=>?_
 exact fV (hs pins s5 σ H5 x1 x2 x5 ov iv new _ I5 r1 r2 r5 q5) fun _ s6 ⟨H6,I6,q6⟩=>⟨σ,H6,I6,q6⟩
def ipI (f:Int->Int->Int):TIp:=fun x y H Q=>∃ i j,x=.int i/\y=.int j/\Q (.int (f i j)) H
theorem ahF:PIp X .Add (ipI fun i j=>i + j):=by
 intro pins s σ H x y v u Q I r1 r2 h;obtain ⟨i,j,e1,e2,q⟩:=h;subst e1; subst e2;obtain ⟨t,rfl⟩:=r1;obtain ⟨t',rfl⟩:=r2;exact iadd_int ⟨.int _,H,I.tok _,⟨_,rfl⟩,q⟩
theorem ahG:PIp X .Sub (ipI fun i j=>i - j):=by
 intro pins s σ H x y v u Q I r1 r2 h;obtain ⟨i,j,e1,e2,q⟩:=h;subst e1; subst e2;obtain ⟨t,rfl⟩:=r1;obtain ⟨t',rfl⟩:=r2;exact isub_int ⟨.int _,H,I.tok _,⟨_,rfl⟩,q⟩
end
section
variable {X:Cx} {pos:Pos}
def ahH (c:TT) (tb:TS):TS:=fun D σ H=>∃ W:Nat->St->Hp->Prop,(∃ m,W m σ H)/\∀ m σ H,W m σ H -> c σ H fun b H1=>if b=true then ∃ N:St->Hp->Prop,(∀ σ' H',N σ' H'->∃ m',m' < m/\W m' σ' H')/\tb { D with nx:=N,ct:=N,bk:=D.nx } σ H1 else D.nx σ H1
theorem zy {c:Expr} {body:List dW} {tc:TT} {tb:TS} (hp:PassesOwn (model X.prog X.w) X.A X.env X.xe) (hc:PT X c tc) (hb:Br X body tb):PS X (.While c body [] pos) (ahH tc tb):=by
 intro pins s σ H D I h;obtain ⟨W,⟨m0,w0⟩,turn⟩:=h;refine wpAny_While (codeAny_whileLoop (fun n s'=>∃ σ' H',Inv X pins σ' H' s'/\W n σ' H') ?_ m0 ⟨σ,H,I,w0⟩);rintro n s1 ⟨σ1,H1,I1,w1⟩;refine wpAny_passesOwn hp (fV (hc pins s1 σ1 H1 _ I1 (turn n σ1 H1 w1)) fun b s2 ⟨H2,I2,q2⟩=>?_);cases b with
 | true =>
  obtain ⟨N,hN,q2⟩:=q2;rw [if_pos rfl];refine wpAny_passesOwn hp (fV (hb pins s2 σ1 H2 _ I2 q2) fun f s3 q3=>?_);cases f with
  | next =>
   obtain ⟨σ3,H3,I3,n3⟩:=q3;obtain ⟨m',hm,w3⟩:=hN σ3 H3 n3;exact ⟨m',hm,σ3,H3,I3,w3⟩
  | cont =>
   obtain ⟨σ3,H3,I3,n3⟩:=q3;obtain ⟨m',hm,w3⟩:=hN σ3 H3 n3;exact ⟨m',hm,σ3,H3,I3,w3⟩
  | brk=>exact q3
  | ret v=>exact q3
 | false =>
  rw [if_neg Bool.false_ne_true];exact wpAny_execs_nil ⟨σ1,H2,I2,q2⟩
end
structure It where
 go:Nat->Hp->Prop
 Rw:Nat->Hp->V->Hp->Prop
 stop:Nat->Hp->Prop
def oK (X:Cx) (pins:List (aA × Obj)) (H:Hp) (b:aA):Prop := H b=none/\b≠X.env.locals/\b ∉ X.fs/\(b ∈ X.ex\/X.s₀.heap.objs.size<=b)/\(∀ x c,X.env.cells.lookup x=some c->c≠b)/\∀ p ∈ X.pn++pins,p.1≠b
theorem Inv.zA {X:Cx} {pins:List (aA × Obj)} {σ:St} {H H':Hp} {s:aX} {b:aA} (I:Inv X pins σ H s) (hb:s.heap.objs.size<=b) (hn:H' b=none):oK X pins H' b:=by
 refine ⟨hn,Nat.ne_of_gt (bA I.lt hb),I.azh hb,.inr (bJ I.sz hb),fun x c e z=>?_,fun p hp z=>?_⟩
 ·obtain ⟨v,q⟩:=I.cell x c e;exact absurd (bA q.lt (by rw [z]; exact hb)) (cR _)
 ·exact absurd (bA (Heap.lt_size (I.pin p hp).1) (by rw [z]; exact hb)) (cR _)
structure Turn (P:cC) (w:World) (K:Fg) (tg:Expr) (J:It) (fp:List aA) (it:aA) (tn:Nat->Heap->Prop):Prop where
 mem:it ∈ fp
 obj:∀ i h,tn i h->∀ b ∈ fp,∃ o,h.get? b=some o/\∀ v,o.data≠.cell v
 keep:∀ i h h',tn i h->(∀ b ∈ fp,∀ o,h.get? b=some o->h'.get? b=some o)->tn i h'
 item:∀ (X:Cx),X.prog=P->X.w=w->X.K=K->X.calm=true->∀ (i:Nat) (pins:List (aA × Obj)) (s:aX) (σ:St) (H:Hp) (E:aB->aX->Prop),Inv X pins σ H s->(∀ b ∈ fp,oK X pins H b)->tn i s.heap->J.go i H -> wpAny (model P w) X.A (pyNext (.ref it)) (fun r s1=>∃ u,r=some u /\ wpAny (model P w) X.A (letOwnedTupleGo tg (.ref it) u) (fun _ s2=>∃ x H',Inv X pins σ H' s2/\RelV x u/\J.Rw i H x H'/\tn (i + 1) s2.heap/\∀ b ∈ fp,H' b=none) E s1) E s
 done:∀ (X:Cx),X.prog=P->X.w=w->X.K=K->X.calm=true->∀ (i:Nat) (pins:List (aA × Obj)) (s:aX) (σ:St) (H:Hp) (E:aB->aX->Prop),Inv X pins σ H s->(∀ b ∈ fp,oK X pins H b)->tn i s.heap->J.stop i H -> wpAny (model P w) X.A (pyNext (.ref it)) (fun r s1=>r=none/\Inv X pins σ H s1) E s
 self:∀ (A:d7) (i:Nat) (s:aX) (Q:aB->aX->Prop) (E:aB->aX->Prop),tn i s.heap->Q (.ref it) s->wpAny (model P w) A (pyIter (.ref it)) Q E s
abbrev TI:=St->Hp->(It->Hp->Prop)->Prop
def PIE (X:Cx) (pins:List (aA × Obj)) (σ:St) (tg:Expr) (R:It->Hp->Prop) (itv:aB) (s2:aX):Prop := ∃ (it:aA) (fp:List aA) (tn:Nat->Heap->Prop) (J:It) (H':Hp),itv=.ref it/\Inv X pins σ H' s2/\Turn X.prog X.w X.K tg J fp it tn/\tn 0 s2.heap/\(∀ b ∈ fp,oK X pins H' b)/\R J H'
def PI (X:Cx) (tg iter:Expr) (wi:TI):Prop := ∀ (pins:List (aA × Obj)) (s:aX) (σ:St) (H:Hp) (R:It->Hp->Prop),Inv X pins σ H s->wi σ H R -> wpAny (model X.prog X.w) X.A (eval iter X.env) (fun v s1=>wpAny (model X.prog X.w) X.A (pyIter v) (PIE X pins σ tg R) X.xe s1) X.xe s
theorem Rx {M:Model} {A:d7} {E:aB->aX->Prop} {s:aX} {tg:Expr} {it:aA} {u:aB} {o:Obj} {n:String} {vs:Array aB} {Q:Unit->aX->Prop} (ho:s.heap.get? it=some o) (hc:o.cls=.type n) (hd:o.data=.fields vs) (hn:["enumerate","zip","dict_itemiterator","dict_reverseitemiterator","odict_iterator","itertools.zip_longest","itertools.pairwise"].contains n=false) (hQ:Q () s):wpAny M A (letOwnedTupleGo tg (.ref it) u) Q E s:=by
 unfold letOwnedTupleGo;cases tg <;> first
  | exact au hQ
  | (cases u <;> first
   | exact au hQ
   | (
    refine aj (wpAny_load ho (?_));rw [hc,hd]
    show wpAny M A (if (["enumerate","zip","dict_itemiterator","dict_reverseitemiterator","odict_iterator","itertools.zip_longest","itertools.pairwise"].contains n && vs[0]? == some (rawInt _))=true then _ else _) Q E s
    rw [if_neg (by intro h; rw [hn,Bool.false_and] at h; cases h)];exact au hQ))
def Itl (K:Fg) (a:aA):It := ⟨fun i H=>∃ xs x,cU K H a xs/\xs[i]?=some x,fun i H x H'=>H'=H/\∀ xs,cU K H a xs->xs[i]?=some x,fun i H=>∃ xs,cU K H a xs/\xs.length<=i⟩
def Itr (lo:Int) (n:Nat):It:=⟨fun i _=>i < n,fun i H x H'=>H'=H/\x=.int (lo + i),fun i _=>n<=i⟩
theorem Ox {P:cC} {w:World} {K:Fg} {tg:Expr} (a it:aA):Turn P w K tg (Itl K a) [it] it (fun i h=>h.IsListIter it a i) where
 mem:=by simp
 obj:=fun i h st b hb=>by
  have e:b=it:=by simpa using hb
  subst e;obtain ⟨o,e,c,d⟩:=st;exact ⟨o,e,fun v z=>by rw [d] at z; cases z⟩
 keep:=fun i h h' st k=>st.at fun o e=>k it (by simp) o e
 item:=by
  intro X hP hw hK hc i pins s σ H E I hf st hg;subst hP hw hK;obtain ⟨xs,x,hq,hx⟩:=hg;obtain ⟨its,rv,p,hz⟩:=I.list hq;obtain ⟨u,hu,ru⟩:=rv.get hx;obtain ⟨f0,f1,f2,f3,f4,f5⟩:=hf it (by simp);refine wpAny_pyNext_list_item st p.isList (x:=u) (by simpa using hu) fun h' st' sb=>?_
  have I1:Inv X pins σ H { s with heap:=h' }:=I.turned (t':=s.toks) (fun b o hb e=>(sb.2 b hb).trans e) f0 f1 f3 f4 f5;obtain ⟨o,e,c,d⟩:=id st';exact ⟨u,rfl,Rx (s:={ s with heap:=h' }) e c d (by decide) ⟨x,H,I1,ru,⟨rfl,fun ys hy=>by rw [I.uZ hy hq]; exact hx⟩,st',fun b hb=>(hf b hb).1⟩⟩
 done:=by
  intro X hP hw hK hc i pins s σ H E I hf st hg;subst hP hw hK;obtain ⟨xs,hq,hx⟩:=hg;obtain ⟨its,rv,p,hz⟩:=I.list hq;obtain ⟨f0,f1,f2,f3,f4,f5⟩:=hf it (by simp);have hl:=rv.length;exact wpAny_pyNext_list_end (I.ok.hd hc) st p.isList (by simp; omega) fun h' eb=>⟨rfl,I.turned (t':=s.toks) (fun b o hb e=>eb b o hb e) f0 f1 f3 f4 f5⟩
 self:=fun _ _ _ _ _ st h=>wpAny_pyIter_listiter st h
theorem JF {P:cC} {w:World} {K:Fg} {tg:Expr} (it:aA) (lo:Int) (n:Nat):Turn P w K tg (Itr lo n) [it] it (fun i h=>IsRangeIter h it (lo + (i:Nat) * 1) ((n:Int) - (i:Nat)) 1) where
 mem:=by simp
 obj:=fun i h st b hb=>by
  have e:b=it:=by simpa using hb
  subst e;exact ⟨_,st,fun v z=>by
   have z':Data.fields _=Data.cell v:=z;cases z'⟩
 keep:=fun i h h' st k=>k it (by simp) _ st
 item:=by
  intro X hP hw hK hc i pins s σ H E I hf st hg;subst hP hw hK;obtain ⟨f0,f1,f2,f3,f4,f5⟩:=hf it (by simp);have W:=Walks.range (prog:=X.prog) (w:=X.w) (I.ok.hd hc) it lo 1 n;refine W.item i s _ _ hg st fun v h' tk hv st' kk=>?_
  obtain ⟨t,rfl⟩:=hv;have I1:Inv X pins σ H { s with heap:=h',toks:=tk }:=I.turned (fun b o hb e=>kk b o (by simpa using hb) e) f0 f1 f3 f4 f5;refine ⟨_,rfl,Rx (s:={ s with heap:=h',toks:=tk }) (n:="range_iterator") st' rfl rfl (by decide) ⟨.int (lo + i),H,I1,⟨t,?_⟩,⟨rfl,rfl⟩,st',fun b hb=>(hf b hb).1⟩⟩;rw [Int.mul_one]
 done:=by
  intro X hP hw hK hc i pins s σ H E I hf st hg;subst hP hw hK;obtain ⟨f0,f1,f2,f3,f4,f5⟩:=hf it (by simp);exact wpAny_pyNext_range_end (I.ok.hd hc) st (by have:n<=i:=hg; omega) fun h' eb=>⟨rfl,I.turned (t':=s.toks) (fun b o hb e=>eb b o hb e) f0 f1 f3 f4 f5⟩
 self:=fun _ _ _ _ _ st h=>wpAny_pyIter_rangeiter st h
section
variable {X:Cx} {tg:Expr}
def ao0 (K:Fg) (tl:TE):TI:=fun σ H R=>tl σ H fun x H1=>∃ a,x=.ref a/\(∃ xs,cU K H1 a xs)/\R (Itl K a) H1
theorem fK {l:Expr} {tl:TE} (hl:PE X l tl):PI X tg l (ao0 X.K tl):=by
 intro pins s σ H R I h;refine fV (hl pins s σ H _ I h) fun v s1 ⟨x,H1,I1,r1,q1⟩=>?_
 obtain ⟨a,e,⟨xs,hq⟩,q⟩:=q1;subst e;cases r1;obtain ⟨its,rv,p,hz⟩:=I1.list hq;refine wpAny_pyIter_list p.isList ?_;refine ⟨s1.heap.objs.size,[s1.heap.objs.size],_,_,H1,rfl,I1.kept (t':=s1.toks) fun b o e=>aq _ e,Ox a _,⟨_,aN _ rfl,rfl,rfl⟩,fun b hb=>?_,q⟩;have e:b=s1.heap.objs.size:=by simpa using hb
 subst e;exact I1.zA (aO _) (I1.hok.fresh (aO _))
theorem Ry {pins:List (aA × Obj)} {σ:St} {H:Hp} {s:aX} {R:It->Hp->Prop} {E:aB->aX->Prop} {lo hi:Int} {t u v:Tok} {tk:Nat} (I:Inv X pins σ H s) (h1:-(2 ^ 62)<=lo) (h2:lo < 2 ^ 62) (h3:-(2 ^ 62)<=hi) (h4:hi < 2 ^ 62) (q:R (Itr lo (hi - lo).toNat) H):wpAny (model X.prog X.w) X.A (pyIter (.ref s.heap.objs.size)) (PIE X pins σ tg R) E { s with heap:=s.heap.push { cls:=.type "range",data:=.fields #[.int lo t,.int hi u,.int 1 v] },toks:=tk }:=by
 refine wpAny_pyIter_range (IsRange.new ..) (small_one h1 h2 h3 h4) ?_;have I1:Inv X pins σ H { s with heap:=s.heap.push { cls:=.type "range",data:=.fields #[.int lo t,.int hi u,.int 1 v] },toks:=tk }:=I.kept fun b o e=>aq _ e
 refine ⟨(s.heap.push { cls:=.type "range",data:=.fields #[.int lo t,.int hi u,.int 1 v] }).objs.size,[(s.heap.push { cls:=.type "range",data:=.fields #[.int lo t,.int hi u,.int 1 v] }).objs.size],_,_,H,rfl,I1.kept (t':=tk) fun b o e=>aq _ e,JF _ lo (hi - lo).toNat,?_,fun b hb=>?_,q⟩
 ·have e1:lo + ((0:Nat):Int) * 1=lo:=by simp
  have e2:(((hi - lo).toNat:Nat):Int) - ((0:Nat):Int)=Builtin.Range.rangeSize lo hi 1:=by rw [rangeSize_one]; split <;> omega
  show IsRangeIter _ _ (lo + ((0:Nat):Int) * 1) ((((hi - lo).toNat:Nat):Int) - ((0:Nat):Int)) 1
  rw [e1,e2];exact aN _ rfl
 ·have e:b=(s.heap.push { cls:=.type "range",data:=.fields #[.int lo t,.int hi u,.int 1 v] }).objs.size:=by simpa using hb
  subst e;exact I1.zA (aO _) (I1.hok.fresh (aO _))
def ao1 (ta:TA):TI:=fun σ H R=>ta σ H fun vs H1=>∃ j:Int,vs=[.int j]/\-(2 ^ 62)<=j/\j < 2 ^ 62/\R (Itr 0 j.toNat) H1
theorem jq {a:Expr} {ta:TA} {p pos:Pos} (hg:Gl X "range") (hm:X.mg "range"=none) (ha:PA X [a] ta) (hs:autoParam (starEach [a] X.env=[(false,eval a X.env)]) zau0):PI X tg (.Call (.Name "range" p) [a] [] pos) (ao1 ta):=by
 intro pins s σ H R I h;refine Call_ (nZ I hg hm boot_range (callWith_type1 (fV (ha pos pins s σ H _ I h) fun us s1 ⟨vs,H1,I1,r1,q1⟩=>?_) hs rfl));obtain ⟨j,e,q1,q2,q⟩:=q1;subst e;cases r1 with
 | cons r rr =>
  cases rr;obtain ⟨t,rfl⟩:=r;exact call_range_1 (Ry I1 (by omega) (by omega) q1 q2 (by simpa using q))
noncomputable def azs (wi:TI) (g:TG) (tb:TS):TS:=fun D σ H=>wi σ H fun J H1=>∃ W:Nat->Nat->St->Hp->Prop,(∃ m,W 0 m σ H1)/\∀ i m σ H,W i m σ H -> (J.stop i H/\D.nx σ H)\/(J.go i H/\∃ N:St->Hp->Prop,(∀ σ' H',N σ' H'->∃ m',m' < m/\W (i + 1) m' σ' H')/\∀ x H',J.Rw i H x H'->g x σ H' fun σ2 H2=>tb { D with nx:=N,ct:=N,bk:=D.nx } σ2 H2)
def qu (fp:List aA) (h:Heap):List (aA × Obj):=fp.filterMap fun b=>(h.get? b).map fun o=>(b,o)
theorem j6 {fp:List aA} {h:Heap} {b:aA} {o:Obj} (hb:b ∈ fp) (e:h.get? b=some o):(b,o) ∈ qu fp h:=mem_filterMap.mpr ⟨b,hb,by rw [e]; rfl⟩
theorem Oz {fp:List aA} {h:Heap} {p:aA × Obj} (hp:p ∈ qu fp h):p.1 ∈ fp/\h.get? p.1=some p.2:=by
 obtain ⟨b,hb,e⟩:=mem_filterMap.mp hp;cases q:h.get? b with
 | none=>rw [q] at e; cases e
 | some o =>
  rw [q] at e;have e':(b,o)=p:=bQ e;subst e';exact ⟨hb,q⟩
theorem Inv.pinned {pins:List (aA × Obj)} {σ:St} {H:Hp} {s:aX} {fp:List aA} (I:Inv X pins σ H s) (hf:∀ b ∈ fp,oK X pins H b) (ho:∀ b ∈ fp,∃ o,s.heap.get? b=some o/\∀ v,o.data≠.cell v):Inv X (pins++qu fp s.heap) σ H s := I.DR fun p hp=>(cM.mp hp).elim (fun z=>I.pin p (mem_append_right _ z)) fun z=>by
 obtain ⟨hb,e⟩:=Oz z;obtain ⟨f0,f1,f2,_⟩:=hf p.1 hb;obtain ⟨o,e',d⟩:=ho p.1 hb;rw [e] at e'; cases e';exact ⟨e,f0,f1,f2,d⟩
theorem Inv.mj {pins pl:List (aA × Obj)} {σ:St} {H:Hp} {s:aX} (I:Inv X (pins++pl) σ H s):Inv X pins σ H s:=I.DR fun p hp=>I.pin p (mem_append_right _ (mem_append_left _ hp))
theorem gR {iter:Expr} {body:List dW} {wi:TI} {g:TG} {tb:TS} {pos:Pos} (hp:PassesOwn (model X.prog X.w) X.A X.env X.xe) (hc:X.calm=true) (hi:PI X tg iter wi) (hg:PG X tg g) (hb:Br X body tb) (hs:autoParam (∀ x,foldedSetIterable iter X.env x=pure x) zau3):PS X (.For tg iter body [] pos) (azs wi g tb):=by
 intro pins s σ H D I h;refine wpAny_For (fV (hi pins s σ H _ I h) fun v s1 h1=>fV h1 fun itv s2 h2=>?_) hs;obtain ⟨it,fp,tn,J,H2,e,I2,T,st2,f2,W,⟨m0,w0⟩,turn⟩:=h2;subst e;have stat:∀ {H':Hp},(∀ b ∈ fp,H' b=none)->∀ b ∈ fp,oK X pins H' b:=fun hn b hb=>⟨hn b hb,(f2 b hb).2⟩
 refine codeAny_forLoop_any (fun n s'=>∃ i σ' H',Inv X pins σ' H' s'/\tn i s'.heap/\(∀ b ∈ fp,H' b=none)/\W i n σ' H') ?_ m0 ⟨0,σ,H2,I2,st2,fun b hb=>(f2 b hb).1,w0⟩;rintro n s3 ⟨i,σ3,H3,I3,st3,fr3,w3⟩;rcases turn i n σ3 H3 w3 with ⟨stop,qn⟩ | ⟨go,N,hN,step⟩
 ·refine wpAny_passesOwn hp (fV (T.done X rfl rfl rfl hc i pins s3 σ3 H3 X.xe I3 (stat fr3) st3 stop) fun r s4 ⟨hr,I4⟩=>?_);subst hr;exact wpAny_execs_nil ⟨σ3,H3,I4,qn⟩
 ·refine wpAny_passesOwn hp (fV (T.item X rfl rfl rfl hc i pins s3 σ3 H3 X.xe I3 (stat fr3) st3 go) fun r s4 ⟨u,hr,h4⟩=>?_);subst hr;refine wpAny_passesOwn hp (fV h4 fun _ s5 ⟨x,H5,I5,r5,y5,st5,fr5⟩=>?_);have I5':=I5.pinned (stat fr5) (T.obj _ _ st5);refine wpAny_passesOwn hp (fV (hg _ s5 σ3 H5 x u _ I5' r5 (step x H5 y5)) fun _ s6 ⟨σ6,H6,I6,q6⟩=>?_);refine wpAny_passesOwn hp (fV (hb _ s6 σ6 H6 _ I6 q6) fun f s7 q7=>?_);have again:∀ {σ7:St} {H7:Hp},Inv X (pins++qu fp s5.heap) σ7 H7 s7->N σ7 H7->∃ m,m < n/\∃ i σ' H',Inv X pins σ' H' s7/\tn i s7.heap/\(∀ b ∈ fp,H' b=none)/\W i m σ' H':=fun {σ7 H7} I7 n7=>by
   obtain ⟨m',hm,w7⟩:=hN σ7 H7 n7;refine ⟨m',hm,i + 1,σ7,H7,I7.mj,T.keep _ _ _ st5 fun b hb o e=>(I7.pin (b,o) (mem_append_right _ (mem_append_right _ (j6 hb e)))).1,fun b hb=>?_,w7⟩;obtain ⟨o,e,d⟩:=T.obj _ _ st5 b hb;exact (I7.pin (b,o) (mem_append_right _ (mem_append_right _ (j6 hb e)))).2.1
  cases f with
  | next=>obtain ⟨σ7,H7,I7,n7⟩:=q7; exact again I7 n7
  | cont=>obtain ⟨σ7,H7,I7,n7⟩:=q7; exact again I7 n7
  | brk=>obtain ⟨σ7,H7,I7,q7⟩:=q7; exact ⟨σ7,H7,I7.mj,q7⟩
  | ret v=>obtain ⟨x7,σ7,H7,I7,r7,q7⟩:=q7; exact ⟨x7,σ7,H7,I7.mj,r7,q7⟩
end
theorem gZ {K:Fg} {a:aA} {xs:List V} {g:TG} {tb:TS} {D:Ends} {σ:St} {H:Hp} (Pv:Nat->St->Hp->Prop) (h0:Pv 0 σ H) (hl:∀ i σ H,i<=xs.length->Pv i σ H->cU K H a xs) (hs:∀ i x σ H,xs[i]?=some x->Pv i σ H->g x σ H fun σ2 H2=>tb { D with nx:=Pv (i + 1),ct:=Pv (i + 1),bk:=D.nx } σ2 H2) (hd:∀ σ H,Pv xs.length σ H->D.nx σ H) : ∃ W:Nat->Nat->St->Hp->Prop,(∃ m,W 0 m σ H)/\∀ i m σ H,W i m σ H -> ((Itl K a).stop i H/\D.nx σ H)\/((Itl K a).go i H/\∃ N:St->Hp->Prop,(∀ σ' H',N σ' H'->∃ m',m' < m/\W (i + 1) m' σ' H')/\∀ x H',(Itl K a).Rw i H x H'->g x σ H' fun σ2 H2=>tb { D with nx:=N,ct:=N,bk:=D.nx } σ2 H2):=by
 refine ⟨fun i m σ H=>m=xs.length - i/\i<=xs.length/\Pv i σ H,⟨xs.length,by simp,dG _,h0⟩,?_⟩;rintro i m σ H ⟨rfl,hi,p⟩;have q:=hl i σ H hi p
 by_cases hlt:i < xs.length
 ·refine .inr ⟨⟨xs,xs[i],q,by simp [hlt]⟩,Pv (i + 1),fun σ' H' p'=>⟨xs.length - (i + 1),by omega,rfl,hlt,p'⟩,fun x H' y=>?_⟩;obtain ⟨e,y⟩:=y;subst e;exact hs i x σ _ (y xs q) p
 ·have e:i=xs.length:=by omega
  subst e;exact .inl ⟨⟨xs,q,aO _⟩,hd σ H p⟩
theorem oM {lo:Int} {n:Nat} {g:TG} {tb:TS} {D:Ends} {σ:St} {H:Hp} (Pv:Nat->St->Hp->Prop) (h0:Pv 0 σ H) (hs:∀ i σ H,i < n->Pv i σ H->g (.int (lo + i)) σ H fun σ2 H2=>tb { D with nx:=Pv (i + 1),ct:=Pv (i + 1),bk:=D.nx } σ2 H2) (hd:∀ σ H,Pv n σ H->D.nx σ H) : ∃ W:Nat->Nat->St->Hp->Prop,(∃ m,W 0 m σ H)/\∀ i m σ H,W i m σ H -> ((Itr lo n).stop i H/\D.nx σ H)\/((Itr lo n).go i H/\∃ N:St->Hp->Prop,(∀ σ' H',N σ' H'->∃ m',m' < m/\W (i + 1) m' σ' H')/\∀ x H',(Itr lo n).Rw i H x H'->g x σ H' fun σ2 H2=>tb { D with nx:=N,ct:=N,bk:=D.nx } σ2 H2):=by
 refine ⟨fun i m σ H=>m=n - i/\i<=n/\Pv i σ H,⟨n,by simp,dG _,h0⟩,?_⟩;rintro i m σ H ⟨rfl,hi,p⟩
 by_cases hlt:i < n
 ·refine .inr ⟨hlt,Pv (i + 1),fun σ' H' p'=>⟨n - (i + 1),by omega,rfl,hlt,p'⟩,fun x H' y=>?_⟩;obtain ⟨e,y⟩:=y;subst e y;exact hs i σ _ hlt p
 ·have e:i=n:=by omega
  subst e;exact .inl ⟨aO _,hd σ H p⟩
abbrev R2:=V->V->Hp->VK->Prop
def pB (X:Cx) (f:aB->aB->Sem aB) (r:R2):Prop := ∀ (pins:List (aA × Obj)) (s:aX) (σ:St) (H:Hp) (x y:V) (v u:aB) (Q:VK),Inv X pins σ H s->RelV x v->RelV y u->r x y H Q -> wpAny (model X.prog X.w) X.A (f v u) (EP X pins σ Q) X.xe s
def UnR (X:Cx) (f:aB->Sem aB) (r:V->Hp->VK->Prop):Prop := ∀ (pins:List (aA × Obj)) (s:aX) (σ:St) (H:Hp) (x:V) (v:aB) (Q:VK),Inv X pins σ H s->RelV x v->r x H Q -> wpAny (model X.prog X.w) X.A (f v) (EP X pins σ Q) X.xe s
def jH (X:Cx) (f:aB) (r:List V->Hp->VK->Prop):Prop := ∀ (pins:List (aA × Obj)) (s:aX) (σ:St) (H:Hp) (xs:List V) (us:List aB) (Q:VK),Inv X pins σ H s->Vals xs us->r xs H Q -> wpAny (model X.prog X.w) X.A (call f us) (EP X pins σ Q) X.xe s
def azu (X:Cx) (r:V->Hp->(Bool->Hp->Prop)->Prop):Prop := ∀ (pins:List (aA × Obj)) (s:aX) (σ:St) (H:Hp) (x:V) (v:aB) (Q:Bool->Hp->Prop),Inv X pins σ H s->RelV x v->r x H Q -> wpAny (model X.prog X.w) X.A (truthy v) (TP X pins σ Q) X.xe s
def tOp (r:R2) (ta tb:TE):TE:=fun σ H Q=>ta σ H fun x H1=>tb σ H1 fun y H2=>r x y H2 Q
def tUn (r:V->Hp->VK->Prop) (ta:TE):TE:=fun σ H Q=>ta σ H fun x H1=>r x H1 Q
def rI (C:Int->Int->Prop) (g:Int->Int->V):R2:=fun x y H Q=>∃ i j,x=.int i/\y=.int j/\C i j/\Q (g i j) H
def Yw (g:Int->Int->V):R2:=fun x y H Q=>∃ i j,x=.int i/\y=.int j/\Q (g i j) H
def rU (g:Int->V):V->Hp->VK->Prop:=fun x H Q=>∃ i,x=.int i/\Q (g i) H
section
variable {X:Cx} {a b c:Expr} {ta tb tc:TE} {pos:Pos}
theorem ahM (ha:PE X a ta) (hb:PE X b tb) {pins:List (aA × Obj)} {s:aX} {σ:St} {H:Hp} {R:V->V->Hp->Prop} (I:Inv X pins σ H s) (h:ta σ H fun x H1=>tb σ H1 fun y H2=>R x y H2) {Q:aB->aX->Prop} {f:aB->aB->Sem aB} (hf:∀ v u s2 x y H2,Inv X pins σ H2 s2->RelV x v->RelV y u->R x y H2->wpAny (model X.prog X.w) X.A (f v u) Q X.xe s2) : wpAny (model X.prog X.w) X.A (eval a X.env) (fun v s₁=>wpAny (model X.prog X.w) X.A (eval b X.env) (fun u s₂=>wpAny (model X.prog X.w) X.A (f v u) Q X.xe s₂) X.xe s₁) X.xe s:=by
 refine fV (ha pins s σ H _ I h) fun v s1 ⟨x,H1,I1,r1,q1⟩=>?_
 refine fV (hb pins s1 σ H1 _ I1 q1) fun u s2 ⟨y,H2,I2,r2,q2⟩=>?_
 exact hf v u s2 x y H2 I2 r1 r2 q2
theorem bZ {op:Operator} {r:R2} (ho:pB X (binaryOp op) r) (ha:PE X a ta) (hb:PE X b tb):PE X (.BinOp a op b pos) (tOp r ta tb):=by
 intro pins s σ H Q I h;exact wpAny_BinOp (ahM ha hb I h fun v u s2 x y H2 I2 rx ry q=>ho pins s2 σ H2 x y v u Q I2 rx ry q)
theorem aa7 {op:UnaryOp} {r:V->Hp->VK->Prop} (ho:UnR X (unaryOp op) r) (ha:PE X a ta):PE X (.UnaryOp op a pos) (tUn r ta):=by
 intro pins s σ H Q I h;exact UnaryOp_ (fV (ha pins s σ H _ I h) fun v s1 ⟨x,H1,I1,r1,q1⟩=>ho pins s1 σ H1 x v Q I1 r1 q1)
theorem opI {f:aB->aB->Sem aB} {C:Int->Int->Prop} {g:Int->Int->Int} (rule:∀ (i j:Int) (t u:Tok) (s:aX) (Q:aB->aX->Prop) (E:aB->aX->Prop),C i j->Q (.int (g i j) s.toks) { s with toks:=s.toks + 1 }->wpAny (model X.prog X.w) X.A (f (.int i t) (.int j u)) Q E s) : pB X f (rI C fun i j=>.int (g i j)):=by
 intro pins s σ H x y v u Q I rx ry h;obtain ⟨i,j,rfl,rfl,hc,q⟩:=h;obtain ⟨t,rfl⟩:=rx;obtain ⟨t',rfl⟩:=ry;exact rule i j t t' s _ _ hc ⟨.int (g i j),H,I.tok _,⟨_,rfl⟩,q⟩
theorem ahN {f:aB->aB->Sem aB} {g:Int->Int->Int} (rule:∀ (i j:Int) (t u:Tok) (s:aX) (Q:aB->aX->Prop) (E:aB->aX->Prop),Q (.int (g i j) s.toks) { s with toks:=s.toks + 1 }->wpAny (model X.prog X.w) X.A (f (.int i t) (.int j u)) Q E s) : pB X f (Yw fun i j=>.int (g i j)):=by
 intro pins s σ H x y v u Q I rx ry h;obtain ⟨i,j,rfl,rfl,q⟩:=h;obtain ⟨t,rfl⟩:=rx;obtain ⟨t',rfl⟩:=ry;exact rule i j t t' s _ _ ⟨.int (g i j),H,I.tok _,⟨_,rfl⟩,q⟩
theorem Yx {f:aB->aB->Sem aB} {g:Int->Int->Bool} (rule:∀ (i j:Int) (t u:Tok) (s:aX) (Q:aB->aX->Prop) (E:aB->aX->Prop),Q (.bool (g i j)) s->wpAny (model X.prog X.w) X.A (f (.int i t) (.int j u)) Q E s) : pB X f (Yw fun i j=>.bl (g i j)):=by
 intro pins s σ H x y v u Q I rx ry h;obtain ⟨i,j,rfl,rfl,q⟩:=h;obtain ⟨t,rfl⟩:=rx;obtain ⟨t',rfl⟩:=ry;exact rule i j t t' s _ _ ⟨.bl (g i j),H,I,rfl,q⟩
def azv (i j:Int):Prop:=0 < j/\j < 1073741824
def azw (i j:Int):Prop:=0<=j/\j<=1000000/\i.natAbs < 2 ^ 64
def ahO (i j:Int):Prop:=(-(2 ^ 64) < i/\i < 2 ^ 64)\/(-(2 ^ 64) < j/\j < 2 ^ 64)
theorem ahO.ok {i j:Int} (h:ahO i j):IntMulOk i j:=by
 rcases h with ⟨h1,h2⟩ | ⟨h1,h2⟩
 ·exact .of_left (intBits_le_64 h1 h2)
 ·exact .of_right (intBits_le_64 h1 h2)
theorem JG (k:Nat):(0:Int)<=2 ^ k:=by
 rw [two_pow_cast];exact Int.natCast_nonneg _
theorem iH:pB X (binaryOp .Add) (Yw fun i j=>.int (i + j)):=ahN fun _ _ _ _ _ _ _ q=>add_int q
theorem wJ:pB X (binaryOp .Sub) (Yw fun i j=>.int (i - j)):=ahN fun _ _ _ _ _ _ _ q=>sub_int q
theorem tD:pB X (binaryOp .Mult) (rI ahO fun i j=>.int (i * j)):=opI fun _ _ _ _ _ _ _ hc q=>mul_int q hc.ok
theorem jO:pB X (binaryOp .FloorDiv) (rI azv fun i j=>.int (i / j)):=opI fun i j _ _ _ _ _ hc q=>by
 have h1:(0:Int) < j:=hc.1;have h2:j < 1073741824:=hc.2;exact floordiv_int (by omega) (by rw [Int.fdiv_eq_ediv_of_nonneg i (by omega)]; exact q) (.inl (PyProof.noPylong_small (by omega)))
theorem gH:pB X (binaryOp .Mod) (rI (fun _ j=>0 < j) fun i j=>.int (i % j)):=opI fun i j _ _ _ _ _ hc q=>by
 have h1:(0:Int) < j:=hc;exact mod_int' (by omega) (by rw [Int.fmod_eq_emod_of_nonneg i (by omega)]; exact q)
theorem JH:pB X (binaryOp .LShift) (rI azw fun i j=>.int (i * 2 ^ j.toNat)):=opI fun _ _ _ _ _ _ _ hc q=>lshift_int_small hc.1 hc.2.1 hc.2.2 q
theorem DX:pB X (binaryOp .RShift) (rI (fun _ j=>0<=j) fun i j=>.int (i / 2 ^ j.toNat)):=opI fun i j _ _ _ _ _ hc q =>
 rshift_int hc (by rw [Int.fdiv_eq_ediv_of_nonneg i (JG _)]; exact q)
theorem DY:pB X (binaryOp .BitAnd) (Yw fun i j=>.int (Builtin.bitAnd i j)):=ahN fun _ _ _ _ _ _ _ q=>and_int q
theorem unI {f:aB->Sem aB} {g:Int->Int} (rule:∀ (i:Int) (t:Tok) (s:aX) (Q:aB->aX->Prop) (E:aB->aX->Prop),Q (.int (g i) s.toks) { s with toks:=s.toks + 1 }->wpAny (model X.prog X.w) X.A (f (.int i t)) Q E s) : UnR X f (rU fun i=>.int (g i)):=by
 intro pins s σ H x v Q I rx h;obtain ⟨i,rfl,q⟩:=h;obtain ⟨t,rfl⟩:=rx;exact rule i t s _ _ ⟨.int (g i),H,I.tok _,⟨_,rfl⟩,q⟩
theorem Rz:UnR X (unaryOp .USub) (rU fun i=>.int (-i)):=unI fun _ _ _ _ _ q=>neg_int q
end
noncomputable def ao3:V->V->Bool
 | .non,.non=>true | .non,.int _=>true | .int _,.non=>true | .non,.bl _=>true | .bl _,.non=>true | .non,.str _=>true | .str _,.non=>true
 | .int _,.int _=>true | .bl _,.bl _=>true | .str _,.str _=>true | .Mf _,.Mf _=>true
 | .int _,.str _=>true | .str _,.int _=>true | .bl _,.str _=>true | .str _,.bl _=>true
 | _,_=>false
def rEq:R2:=fun x y H Q=>ao3 x y=true/\Q (.bl (decide (x=y))) H
def rNe:R2:=fun x y H Q=>ao3 x y=true/\Q (.bl (!decide (x=y))) H
theorem Mi {i j:Int}:decide (V.int i=V.int j)=(i == j):=by
 rw [Bool.eq_iff_iff];simp
theorem RB {i j:Bool}:decide (V.bl i=V.bl j)=(i == j):=by
 rw [Bool.eq_iff_iff];simp
theorem Mj {i j:Str}:decide (V.str i=V.str j)=(i == j):=by
 rw [Bool.eq_iff_iff];simp
theorem Ml {i j:Array UInt8}:decide (V.Mf i=V.Mf j)=(i.toList == j.toList):=by
 rw [Bool.eq_iff_iff];cases i;cases j;simp
section
variable {X:Cx} {a b c:Expr} {ta tb tc:TE} {pos:Pos}
theorem eZ {pins:List (aA × Obj)} {σ:St} {H:Hp} {s:aX} {Q:VK} {k k':Bool} (I:Inv X pins σ H s) (q:Q (.bl k) H) (e:k=k'):EP X pins σ Q (.bool k') s:=by
 subst e;exact ⟨.bl k,H,I,rfl,q⟩
theorem jJ:pB X (compareOp .Eq) rEq:=by
 intro pins s σ H x y v u Q I rx ry h;obtain ⟨hs,q⟩:=h;cases x with
 | non =>
  cases rx;cases y with
  | non=>cases ry; exact PySem.EqNone.eq_none_none (eZ I q (by simp))
  | bl j=>cases ry; exact PySem.EqNone.eq_none_bool (eZ I q (by simp))
  | int j=>obtain ⟨t',rfl⟩:=ry; exact PySem.EqNone.eq_none_int (eZ I q (by simp))
  | str j=>obtain ⟨t',rfl⟩:=ry; exact PySem.EqNone.eq_none_str (eZ I q (by simp))
  | _=>exact absurd (show false=true from hs) Bool.false_ne_true
 | bl i =>
  cases rx;cases y with
  | non=>cases ry; exact PySem.EqNone.eq_bool_none (eZ I q (by simp))
  | bl j=>cases ry; exact eq_bool (eZ I q RB)
  | str j=>obtain ⟨t',rfl⟩:=ry; exact PySem.EqMixed.eq_bool_str (eZ I q (by simp))
  | _=>exact absurd (show false=true from hs) Bool.false_ne_true
 | int i =>
  obtain ⟨t,rfl⟩:=rx;cases y with
  | non=>cases ry; exact PySem.EqNone.eq_int_none (eZ I q (by simp))
  | int j=>obtain ⟨t',rfl⟩:=ry; exact eq_int (eZ I q Mi)
  | str j=>obtain ⟨t',rfl⟩:=ry; exact PySem.EqMixed.eq_int_str (eZ I q (by simp))
  | _=>exact absurd (show false=true from hs) Bool.false_ne_true
 | str i =>
  obtain ⟨t,rfl⟩:=rx;cases y with
  | non=>cases ry; exact PySem.EqNone.eq_str_none (eZ I q (by simp))
  | bl j=>cases ry; exact PySem.EqMixed.eq_str_bool (eZ I q (by simp))
  | int j=>obtain ⟨t',rfl⟩:=ry; exact PySem.EqMixed.eq_str_int (eZ I q (by simp))
  | str j=>obtain ⟨t',rfl⟩:=ry; exact eq_str (eZ I q Mj)
  | _=>exact absurd (show false=true from hs) Bool.false_ne_true
 | Mf i =>
  obtain ⟨t,rfl⟩:=rx;cases y with
  | Mf j=>obtain ⟨t',rfl⟩:=ry; exact PySem.W.eq_bytes (eZ I q Ml)
  | _=>exact absurd (show false=true from hs) Bool.false_ne_true
 | _=>cases y <;> exact absurd (show false=true from hs) Bool.false_ne_true
theorem BX:pB X (compareOp .NotEq) rNe:=by
 intro pins s σ H x y v u Q I rx ry h;obtain ⟨hs,q⟩:=h;cases x with
 | non =>
  cases rx;cases y with
  | non=>cases ry; exact PySem.EqNone.ne_none_none (eZ I q (by simp))
  | bl j=>cases ry; exact PySem.EqNone.ne_none_bool (eZ I q (by simp))
  | int j=>obtain ⟨t',rfl⟩:=ry; exact PySem.EqNone.ne_none_int (eZ I q (by simp))
  | str j=>obtain ⟨t',rfl⟩:=ry; exact PySem.EqNone.ne_none_str (eZ I q (by simp))
  | _=>exact absurd (show false=true from hs) Bool.false_ne_true
 | bl i =>
  cases rx;cases y with
  | non=>cases ry; exact PySem.EqNone.ne_bool_none (eZ I q (by simp))
  | bl j=>cases ry; exact ne_bool (eZ I q (congrArg not RB))
  | str j=>obtain ⟨t',rfl⟩:=ry; exact PySem.EqMixed.ne_bool_str (eZ I q (by simp))
  | _=>exact absurd (show false=true from hs) Bool.false_ne_true
 | int i =>
  obtain ⟨t,rfl⟩:=rx;cases y with
  | non=>cases ry; exact PySem.EqNone.ne_int_none (eZ I q (by simp))
  | int j=>obtain ⟨t',rfl⟩:=ry; exact ne_int (eZ I q (congrArg not Mi))
  | str j=>obtain ⟨t',rfl⟩:=ry; exact PySem.EqMixed.ne_int_str (eZ I q (by simp))
  | _=>exact absurd (show false=true from hs) Bool.false_ne_true
 | str i =>
  obtain ⟨t,rfl⟩:=rx;cases y with
  | non=>cases ry; exact PySem.EqNone.ne_str_none (eZ I q (by simp))
  | bl j=>cases ry; exact PySem.EqMixed.ne_str_bool (eZ I q (by simp))
  | int j=>obtain ⟨t',rfl⟩:=ry; exact PySem.EqMixed.ne_str_int (eZ I q (by simp))
  | str j=>obtain ⟨t',rfl⟩:=ry; exact ne_str (eZ I q (congrArg not Mj))
  | _=>exact absurd (show false=true from hs) Bool.false_ne_true
 | Mf i =>
  obtain ⟨t,rfl⟩:=rx;cases y with
  | Mf j=>obtain ⟨t',rfl⟩:=ry; exact PySem.W.ne_bytes (eZ I q (congrArg not Ml))
  | _=>exact absurd (show false=true from hs) Bool.false_ne_true
 | _=>cases y <;> exact absurd (show false=true from hs) Bool.false_ne_true
theorem RD:pB X (compareOp .Lt) (Yw fun i j=>.bl (decide (i < j))):=Yx fun _ _ _ _ _ _ _ q=>lt_int q
theorem BZ:pB X (compareOp .LtE) (Yw fun i j=>.bl (decide (i<=j))):=Yx fun _ _ _ _ _ _ _ q=>le_int q
theorem Mp:pB X (compareOp .Gt) (Yw fun i j=>.bl (decide (j < i))):=Yx fun _ _ _ _ _ _ _ q=>gt_int q
theorem ao4:pB X (compareOp .GtE) (Yw fun i j=>.bl (decide (j<=i))):=Yx fun _ _ _ _ _ _ _ q=>ge_int q
theorem tE:pB X (compareOp .Is) (fun x y H Q=>y=.non/\Q (.bl (decide (x=.non))) H):=by
 intro pins s σ H x y v u Q I rx ry h;obtain ⟨rfl,q⟩:=h;cases ry;refine is_none_gen (eZ I q ?_);cases x <;> first
  | (cases rx; rfl)
  | (obtain ⟨t,rfl⟩:=rx; rfl)
theorem Ea:pB X (compareOp .IsNot) (fun x y H Q=>y=.non/\Q (.bl (!decide (x=.non))) H):=by
 intro pins s σ H x y v u Q I rx ry h;obtain ⟨rfl,q⟩:=h;cases ry;refine isnot_none_gen (eZ I q ?_);cases x <;> first
  | (cases rx; rfl)
  | (obtain ⟨t,rfl⟩:=rx; rfl)
theorem dz (b:Expr) {op:CmpOp} (h:autoParam (op≠.In) zau1) (h2:autoParam (op≠.NotIn) zau1):behindInMarks op b=false:=by
 have e1:(op == CmpOp.In)=false:=by cases op <;> first | rfl | exact absurd rfl h
 have e2:(op == CmpOp.NotIn)=false:=by cases op <;> first | rfl | exact absurd rfl h2
 cases b <;> simp [behindInMarks,e1,e2]
theorem nQ {op:CmpOp} {r:R2} (ho:pB X (compareOp op) r) (ha:PE X a ta) (hb:PE X b tb) (hm:behindInMarks op b=false):PE X (.Compare a [op] [b] pos) (tOp r ta tb):=by
 intro pins s σ H Q I h;exact wpAny_Compare1 (ahM ha hb I h fun v u s2 x y H2 I2 rx ry q=>ho pins s2 σ H2 x y v u Q I2 rx ry q) hm
def aa8 (t:TE):TT:=fun σ H Q=>t σ H fun x H'=>∃ k,x=.bl k/\Q k H'
theorem cN {op:CmpOp} {r:R2} (ho:pB X (compareOp op) r) (ha:PE X a ta) (hb:PE X b tb) (hm:behindInMarks op b=false):PT X (.Compare a [op] [b] pos) (aa8 (tOp r ta tb)):=by
 intro pins s σ H Q I h;refine wpAny_isTrue_Compare1 (fV (ha pins s σ H _ I h) fun v s1 ⟨x,H1,I1,r1,q1⟩=>fV (hb pins s1 σ H1 _ I1 q1) fun u s2 ⟨y,H2,I2,r2,q2⟩ =>
  fV (ho pins s2 σ H2 x y v u _ I2 r1 r2 q2) fun c s3 ⟨z,H3,I3,r3,k,e,q3⟩=>?_) hm
 subst e;cases r3;exact wpAny_truthy_bool ⟨H3,I3,q3⟩
def RG (r r':R2) (ta tb tc:TE):TE:=fun σ H Q=>ta σ H fun x H1=>tb σ H1 fun y H2=>r x y H2 fun z H3=>∃ k,z=.bl k /\ (if k=true then tc σ H3 fun w' H4=>r' y w' H4 Q else Q (.bl false) H3)
theorem Gn {op op':CmpOp} {r r':R2} (ho:pB X (compareOp op) r) (ho':pB X (compareOp op') r') (ha:PE X a ta) (hb:PE X b tb) (hc:PE X c tc) (hm:autoParam (lastMarks [op,op'] [b,c]=false) zau4):PE X (.Compare a [op,op'] [b,c] pos) (RG r r' ta tb tc):=by
 intro pins s σ H Q I h;refine Compare_chain (fV (ha pins s σ H _ I h) fun v s1 ⟨x,H1,I1,r1,q1⟩=>chain_link (fV (hb pins s1 σ H1 _ I1 q1) fun u s2 ⟨y,H2,I2,r2,q2⟩ =>
  fV (ho pins s2 σ H2 x y v u _ I2 r1 r2 q2) fun d s3 ⟨z,H3,I3,r3,k,e,q3⟩=>?_)) hm
 subst e;cases r3;refine wpAny_truthy_bool ?_;cases k with
 | false=>exact ite_ff ⟨.bl false,H3,I3,rfl,q3⟩
 | true=>exact ite_tt (chain_last (fV (hc pins s3 σ H3 _ I3 q3) fun w' s4 ⟨z',H4,I4,r4,q4⟩=>ho' pins s4 σ H4 y z' u w' Q I4 r2 r4 q4))
theorem Gp {op op':CmpOp} {r r':R2} (ho:pB X (compareOp op) r) (ho':pB X (compareOp op') r') (ha:PE X a ta) (hb:PE X b tb) (hc:PE X c tc) (hm:autoParam (lastMarks [op,op'] [b,c]=false) zau4):PT X (.Compare a [op,op'] [b,c] pos) (aa8 (RG r r' ta tb tc)):=by
 intro pins s σ H Q I h;refine isTrue_chain (fV (ha pins s σ H _ I h) fun v s1 ⟨x,H1,I1,r1,q1⟩=>test_link (fV (hb pins s1 σ H1 _ I1 q1) fun u s2 ⟨y,H2,I2,r2,q2⟩ =>
  fV (ho pins s2 σ H2 x y v u _ I2 r1 r2 q2) fun d s3 ⟨z,H3,I3,r3,k,e,q3⟩=>?_)) hm
 subst e;cases r3;refine wpAny_truthy_bool ?_;cases k with
 | false =>
  obtain ⟨k',e',q'⟩:=q3;cases e';exact ite_ff ⟨H3,I3,q'⟩
 | true =>
  refine ite_tt (test_last (fV (hc pins s3 σ H3 _ I3 q3) fun w' s4 ⟨z',H4,I4,r4,q4⟩=>fV (ho' pins s4 σ H4 y z' u w' _ I4 r2 r4 q4) fun d' s5 ⟨z2,H5,I5,r5,k2,e2,q5⟩=>?_));subst e2;cases r5;exact wpAny_truthy_bool ⟨H5,I5,q5⟩
noncomputable def ao5 (K:Fg) (x:V) (H:Hp) (k:Bool):Prop := match x with
 | .non=>k=false
 | .bl b=>k=b
 | .int i=>k=(i != 0)
 | .str y=>y.length<=sizeLine/\k=((y.length:Int) != 0)
 | .Mf y=>y.size<=sizeLine/\k=((y.size:Int) != 0)
 | .ref p=>(∃ xs,cU K H p xs/\k=!xs.isEmpty)\/(∃ xs,fj K H p xs/\k=!xs.isEmpty)\/∃ kvs,H p=some (.dK kvs)/\k=!kvs.isEmpty
 | _=>False
theorem JK {κ:Type} {kvs:List (κ × V)} {vs:List (κ × aB)} (r:KV kvs vs):(!vs.isEmpty)=!kvs.isEmpty:=by
 cases r <;> rfl
theorem zB {xs:List V} {its:List aB} (r:Vals xs its):(!its.toArray.isEmpty)=!xs.isEmpty:=by
 cases r <;> simp
theorem tH:(sizeLine:Nat) < 2 ^ 63:=by rw [sizeLine_eq]; decide
theorem ahP:azu X (fun x H Q=>∃ k,ao5 X.K x H k/\Q k H):=by
 intro pins s σ H x v Q I rx h;obtain ⟨k,e,q⟩:=h;have hl:=tH;have hs:sizeLine=16777216:=sizeLine_eq;cases x with
 | non =>
  cases rx;have e':k=false:=e;subst e';exact truthy_none ⟨H,I,q⟩
 | bl b =>
  cases rx;have e':k=b:=e;subst e';exact wpAny_truthy_bool ⟨H,I,q⟩
 | int i =>
  obtain ⟨t,rfl⟩:=rx;have e':k=(i != 0):=e;subst e';exact PySem.P.truthy_int ⟨H,I,q⟩
 | str y =>
  obtain ⟨t,rfl⟩:=rx;obtain ⟨hy,e'⟩:y.length<=sizeLine/\k=((y.length:Int) != 0):=e;subst e';exact PySem.P.truthy_str (by omega) ⟨H,I.tok _,q⟩
 | Mf y =>
  obtain ⟨t,rfl⟩:=rx;obtain ⟨hy,e'⟩:y.size<=sizeLine/\k=((y.size:Int) != 0):=e;subst e';exact PySem.W.truthy_bytes (by omega) ⟨H,I.tok _,q⟩
 | ref p =>
  cases rx;have e':(∃ xs,cU X.K H p xs/\k=!xs.isEmpty)\/(∃ xs,fj X.K H p xs/\k=!xs.isEmpty)\/∃ kvs,H p=some (.dK kvs)/\k=!kvs.isEmpty:=e;rcases e' with ⟨xs,hx,e'⟩ | ⟨xs,hx,e'⟩ | ⟨kvs,hx,e'⟩
  ·subst e';obtain ⟨its,r,pl,hz⟩:=I.list hx;have hlen:=r.length;exact wpAny_truthy_list pl.isList (by simp only [size_toArray]; omega) ⟨H,I.tok _,by rw [zB r]; exact q⟩
  ·subst e';obtain ⟨its,r,pl,hz⟩:=I.tuple hx;have hlen:=r.length;exact truthy_tuple pl (by simp only [size_toArray]; omega) ⟨H,I.tok _,by rw [zB r]; exact q⟩
  ·subst e';obtain ⟨hz,hS,vs,r,m⟩:kvs.length<=sizeLine/\(p == sysModules)=false/\∃ vs,KV kvs vs/\s.heap.DictOf (DP X.prog X.w) p vs:=I.hok p _ hx;have hlen:kvs.length=vs.length:=Paired.length r;exact wpAny_truthy_dict hS m (by omega) ⟨H,I.tok _,by rw [JK r]; exact q⟩
 | _=>exact (show False from e).elim
theorem RJ (ha:PE X a ta) (he:∀ whole,isTrue a X.env whole=(do let v <- whole; standAt a.pos; holding [v] (truthy v))) :
  PT X a (fun σ H Q=>ta σ H fun x H'=>∃ k,ao5 X.K x H' k/\Q k H'):=by
 intro pins s σ H Q I h;exact isTrue_plain (fV (ha pins s σ H _ I h) fun v s1 ⟨x,H1,I1,r1,q1⟩=>ahP pins s1 σ H1 x v Q I1 r1 q1) (he _)
theorem vals1 {x:V} {us:List aB} (r:Vals [x] us):∃ u,us=[u]/\RelV x u:=by
 cases r with
 | cons r1 r2=>cases r2; exact ⟨_,rfl,r1⟩
theorem OD:jH X (.type "int") (fun xs H Q=>(∃ i,xs=[.int i]/\Q (.int i) H)\/∃ k,xs=[.bl k]/\Q (.int (if k then 1 else 0)) H):=by
 intro pins s σ H xs us Q I r h;rcases h with ⟨i,rfl,q⟩ | ⟨k,rfl,q⟩
 ·obtain ⟨u,rfl,t,rfl⟩:=vals1 r;exact call_int_int ⟨.int i,H,I,⟨_,rfl⟩,q⟩
 ·obtain ⟨u,rfl,r1⟩:=vals1 r;cases r1;exact call_int_bool ⟨.int (if k then 1 else 0),H,I.tok _,⟨_,rfl⟩,q⟩
end
structure JL (h:Heap) (x dx C:aA) (mA:Str->Option aB):Prop where
 obj:h.get? x=some (instObj C dx)
 ns:h.Ns1 dx mA
 ne:dx≠x
theorem OJ {h:Heap} {dx:aA} {mA:Str->Option aB} (n:h.Ns1 dx mA):∃ od,h.get? dx=some od/\∀ name,lookIn name od=some (mA name):=by
 obtain ⟨o,es,ep,ho,hd,hk,_,hm⟩:=n;refine ⟨o,ho,fun name=>?_⟩;have e:=hm name;unfold nsFind findBy at e;rw [<- Array.find?_toList] at e;unfold lookIn;rw [hd];dsimp only
 split
 ·rename_i y q
  rw [q] at e;exact congrArg some e
 ·rename_i q
  rw [q] at e;have a:es.toList.any (·.refKey)=false:=by
   rw [List.any_eq_false];intro y hy;obtain ⟨z,t,hkey⟩:=hk y (Array.mem_toList_iff.mp hy);simp [DictEntry.refKey,hkey]
  have a':¬ es.toList.any (·.refKey)=true:=by rw [a]; exact Bool.false_ne_true
  rw [if_neg a'];exact congrArg some e
theorem JL.look {h:Heap} {x dx C:aA} {mA:Str->Option aB} (I:JL h x dx C mA):∃ od,InstAt h x (instObj C dx) C (some od)/\∀ name,lookIn name od=some (mA name) := let ⟨od,ho,hl⟩:=OJ I.ns
 ⟨od,⟨I.obj,rfl,rfl,ho⟩,hl⟩
section
variable {prog:cC} {w:World} {A:d7} {E:aB->aX->Prop} {s:aX} {K:Fg} {x dx C f:aA} {mA:Str->Option aB} {name:Str} {v:aB}
theorem get_map {expr:Bool} {Q:aB->aX->Prop} (X:K.In s.heap) (I:JL s.heap x dx C mA) (hg:plainGet K C name=true) (hh:hasDictIn K C=true) (ha:findIn K (.ref C) name=some none) (hv:mA name=some v) (hv':handedIn v=true) (h:Q v { s with toks:=s.toks + 1 }) : wpAny (model prog w) A (getAttr (.ref x) name expr) Q E s:=by
 obtain ⟨od,J,hl⟩:=I.look;exact PySem.W.get_value X J (plainGet_of hg).1 (PySem.W.findObj_own hh ha rfl (by rw [hl,hv])) hv' h
theorem RK {pl:Sem Bool} {Q:aB × List aB->aX->Prop} (X:K.In s.heap) (I:JL s.heap x dx C mA) (hg:plainGet K C name=true) (hf:findIn K (.ref C) name=some (some (.ref f))) (ht:isFn K (.ref f)=true) (hv:mA name=none) (h:Q (.ref f,[.ref x]) s) : wpAny (model prog w) A (getMethod (.ref x) name pl) Q E s:=by
 obtain ⟨od,J,hl⟩:=I.look;exact PySem.W.method_fn X J (plainGet_of hg).1 (plainGet_of hg).2 hf (beq_iff_eq.mp ht) (by show (lookIn name od).map (·.isSome)=some false; rw [hl,hv]; rfl) h
theorem Yy {ns:List Str} {Q:Unit->aX->Prop} (X:K.In s.heap) (I:JL s.heap x dx C mA) (hs:findIn K (.ref C) "__setattr__"=some (some (.builtin "object.__setattr__"))) (hp:plainOver K C=true) (ht:takerIn K C name=some none) (hh:hasDictIn K C=true) (hw:PySem.Within mA ns) (hsz:ns.length<=sizeLine) (h:∀ h',JL h' x dx C (fun y=>if y=name then some v else mA y)->Heap.SameBut dx s.heap h'->Q () { s with heap:=h',toks:=s.toks + 2 }) : wpAny (model prog w) A (setAttr (.ref x) name v) Q E s:=by
 obtain ⟨od,J,hl⟩:=I.look;refine PySem.W.set_plain X J hs (PySem.W.osa_open (s:={ s with toks:=s.toks + 1 }) (r:=none) X J hp ht fun b=>?_);obtain ⟨cd,hc,hd'⟩:=PySem.W.any_some hh;have hx:s.heap.get? x=some ⟨.ref C,some dx,.plain,#[]⟩:=I.obj;refine aj (au (aj (aj (wpAny_loadPart hx (aj (Looks.here (s:={ s with toks:=s.toks + 1 }) (PySem.W.looks_clsIn X hc) ?_))))));rw [hd'];refine au (a:=some dx) (aj (au (aj ?_)));refine wpAny_nsSet1 (s:={ s with toks:=s.toks + 1 }) I.ns fun h' hn2 hs2=>?_
 obtain ⟨oD,esD,epD,hoD,hdD,hcD⟩:=hn2.count (PySem.Within.cons name v hw);refine aj (wpAny_lookBehind hoD (by rw [hdD]; exact pastItsLine_dict (bJ hcD (by rw [length_cons]; omega))) ?_);exact au (h _ ⟨(hs2.2 _ (Ne.symm I.ne)).trans I.obj,hn2,I.ne⟩ hs2)
theorem RL {R:Result->aX->Prop} {vs:List aB} {kw:List (Str × aB)} (X:K.In s.heap) (hm:makesIn K C=true) (hi:findIn K (.ref C) "__init__"=some (some (.ref f))) (hf:PySem.W.typeIn K (.ref f)=some (.type "function")) (h:codeAny (model prog w) (A.under (.builtin "type.__call__" ⟨.ref C::vs,kw⟩)) (.call (.ref f) ⟨.ref (s.heap.objs.size + 1)::vs,kw⟩) (PySem.W.InitBack (s.heap.objs.size + 1) R) { s with heap:=(s.heap.push emptyDict).push (instObj C s.heap.objs.size) }) : codeAny (model prog w) A (.call (.ref C) ⟨vs,kw⟩) R s:=by
 obtain ⟨hh,g,d,t,os⟩:=s;exact PySem.W.make_core (PySem.W.makes_of X hm) (looks_findIn X hi) (fun self=>PySem.W.bind_fn X self hf) (.inl rfl) h
end
def iw (f:Str) (v:V):List (Str × V)->List (Str × V)
 | []=>[(f,v)]
 | (g,x)::r=>if g=f then (g,v)::r else (g,x)::iw f v r
theorem yg (f g:Str) (v:V):∀ fs:List (Str × V),(iw f v fs).lookup g=if g=f then some v else fs.lookup g
 | []=>by
  show List.lookup g [(f,v)]=_
  by_cases h:g=f
  ·have hb:(g == f)=true:=beq_iff_eq.mpr h;simp only [List.lookup,hb,if_pos h]
  ·have hb:(g == f)=false:=beq_eq_false_iff_ne.mpr h;simp only [List.lookup,hb,if_neg h]
 | (k,x)::r=>by
  have ih:=yg f g v r;rw [show iw f v ((k,x)::r)=(if k=f then (k,v)::r else (k,x)::iw f v r) from rfl]
  by_cases hk:k=f
  ·rw [if_pos hk]
   by_cases h:g=k
   ·have hb:(g == k)=true:=beq_iff_eq.mpr h;simp only [List.lookup,hb,if_pos (h.trans hk)]
   ·have hb:(g == k)=false:=beq_eq_false_iff_ne.mpr h;simp only [List.lookup,hb,if_neg (fun e:g=f=>h (e.trans hk.symm))]
  ·rw [if_neg hk]
   by_cases h:g=k
   ·have hb:(g == k)=true:=beq_iff_eq.mpr h;simp only [List.lookup,hb,if_neg (fun e:g=f=>hk (h.symm.trans e))]
   ·have hb:(g == k)=false:=beq_eq_false_iff_ne.mpr h;simp only [List.lookup,hb];exact ih
theorem wK (f:Str) (v:V):∀ fs:List (Str × V),f ∈ (iw f v fs).map (·.1)/\∀ g,g ∈ fs.map (·.1)->g ∈ (iw f v fs).map (·.1)
 | []=>⟨by simp [iw],fun g h=>by simp at h⟩
 | (k,x)::r=>by
  obtain ⟨i1,i2⟩:=wK f v r;rw [show iw f v ((k,x)::r)=(if k=f then (k,v)::r else (k,x)::iw f v r) from rfl]
  by_cases hk:k=f
  ·rw [if_pos hk];subst hk;exact ⟨by simp,fun g h=>by simpa using h⟩
  ·rw [if_neg hk];refine ⟨?_,fun g h=>?_⟩
   ·rw [cY];exact mem_cons_of_mem _ i1
   ·rw [cY] at h ⊢;rcases aR.mp h with e | e
    ·exact aR.mpr (.inl e)
    ·exact mem_cons_of_mem _ (i2 g e)
theorem kZ (f:Str) (v:V):∀ fs:List (Str × V),(iw f v fs).length<=fs.length + 1
 | []=>by simp [iw]
 | (k,x)::r=>by
  have ih:=kZ f v r;rw [show iw f v ((k,x)::r)=(if k=f then (k,v)::r else (k,x)::iw f v r) from rfl]
  by_cases hk:k=f
  ·rw [if_pos hk,length_cons,length_cons]; omega
  ·rw [if_neg hk,length_cons,length_cons]; omega
theorem Bs.some_of {v:V} {o:Option aB} (r:Bs (some v) o):∃ u,o=some u/\RelV v u:=by
 cases o with
 | none=>exact (show False from r).elim
 | some u=>exact ⟨u,rfl,r⟩
theorem Bs.none_of {o:Option aB} (r:Bs none o):o=none:=by
 cases o with
 | none=>rfl
 | some u=>exact (show False from r).elim
theorem O1 {v:V} {u:aB} (r:RelV v u):handedIn u=true:=by
 cases v with
 | non=>cases (show u=Value.none from r); rfl
 | bl b=>cases (show u=Value.bool b from r); rfl
 | int i=>obtain ⟨t,e⟩:=(show ∃ t,u=Value.int i t from r); cases e; rfl
 | str x=>obtain ⟨t,e⟩:=(show ∃ t,u=Value.str x t from r); cases e; rfl
 | Mf b=>obtain ⟨t,e⟩:=(show ∃ t,u=Value.bytes b t from r); cases e; rfl
 | flt b=>obtain ⟨t,e⟩:=(show ∃ t,u=Value.float b t from r); cases e; rfl
 | ref a=>cases (show u=Value.ref a from r); rfl
 | ty n=>cases (show u=Value.type n from r); rfl
section
variable {P:cC} {w:World} {H H':Hp} {h h':Heap} {a C dx:aA} {fs fs':List (Str × V)}
theorem yS (hok:wH P w H h) (e:H a=some (.ins C dx fs)):∃ mA,JL h a dx C mA/\(∀ f,Bs (fs.lookup f) (mA f))/\PySem.Within mA (fs.map (·.1))/\fs.length<=1000/\H dx=some (.own a):=by
 obtain ⟨d,z,ne,ob,mA,n,r,q⟩:=(show gD P w H h a (.ins C dx fs) from hok a _ e);exact ⟨mA,⟨ob,n,ne⟩,r,q,z,d⟩
end
structure Cls (K:Fg) (C:aA):Prop where
 pg:plainGet K C Str.empty=true
 hd:hasDictIn K C=true
 po:plainOver K C=true
 sa:findIn K (.ref C) "__setattr__"=some (some (.builtin "object.__setattr__"))
theorem Cls.get {K:Fg} {C:aA} (c:Cls K C) (f:Str):plainGet K C f=true:=c.pg
def jG (K:Fg) (C:aA) (f:Str):Prop:=findIn K (.ref C) f=some none
theorem jG.taker {K:Fg} {C:aA} {f:Str} (n:jG K C f):takerIn K C f=some none:=by
 unfold takerIn;rw [show findIn K (.ref C) f=some none from n];rfl
structure Meth (K:Fg) (C:aA) (m:Str) (f:aA):Prop where
 at_:findIn K (.ref C) m=some (some (.ref f))
 fn:isFn K (.ref f)=true
 kp:keepIn K (.ref f)=true
section
variable {X:Cx} {pins:List (aA × Obj)} {σ:St} {H:Hp} {s:aX} {a C dx:aA} {fs:List (Str × V)} {f:Str} {v:V} {A:d7} {E:aB->aX->Prop}
theorem JM {b:Bool} {Q:aB->aX->Prop} (I:Inv X pins σ H s) (e:H a=some (.ins C dx fs)) (c:Cls X.K C) (n:jG X.K C f) (l:fs.lookup f=some v) (h:∀ u s',Inv X pins σ H s'->RelV v u->Q u s'):wpAny (model X.prog X.w) A (getAttr (.ref a) f b) Q E s:=by
 obtain ⟨mA,O,r,_,_,_⟩:=yS I.hok e;obtain ⟨u,hu,ru⟩:=Bs.some_of (v:=v) (o:=mA f) (by rw [<- l]; exact r f);exact get_map I.sG O (c.get f) c.hd n hu (O1 ru) (h u _ (I.tok _) ru)
theorem pD {m:Str} {g:aA} {pl:Sem Bool} {Q:aB × List aB->aX->Prop} (I:Inv X pins σ H s) (e:H a=some (.ins C dx fs)) (c:Cls X.K C) (k:Meth X.K C m g) (l:fs.lookup m=none) (h:Q (.ref g,[.ref a]) s):wpAny (model X.prog X.w) A (getMethod (.ref a) m pl) Q E s:=by
 obtain ⟨mA,O,r,_,_,_⟩:=yS I.hok e;have hn:mA m=none:=Bs.none_of (by rw [<- l]; exact r m);exact RK I.sG O (c.get m) k.at_ k.fn hn h
theorem JN {y:V} {u:aB} {Q:Unit->aX->Prop} (I:Inv X pins σ H s) (e:H a=some (.ins C dx fs)) (c:Cls X.K C) (n:jG X.K C f) (hl:fs.length < 1000) (ry:RelV y u) (h:∀ s',Inv X pins σ (upd H a (.ins C dx (iw f y fs))) s'->Q () s'):wpAny (model X.prog X.w) A (setAttr (.ref a) f u) Q E s:=by
 obtain ⟨mA,O,r,wi,_,ho⟩:=yS I.hok e;have hz:(fs.map (·.1)).length<=sizeLine:=by rw [ak,sizeLine_eq]; omega
 refine Yy I.sG O c.sa c.po n.taker c.hd wi hz fun h' O' sb=>h _ ?_
 have hd:∃ o,h'.get? dx=some o:=let ⟨o,_,_,e',_⟩:=O'.ns; ⟨o,e'⟩;refine I.write (x:=a) (e:=dx) (by rw [e]; exact True.intro) (.inr ho) (fun b q hb z=>(sb.2 b hb).trans z) hd ?_;refine ⟨by rw [bf O.ne]; exact ho,?_,O.ne,O'.obj,_,O'.ns,fun g=>?_,fun g hg=>?_⟩
 ·have:=kZ f y fs; omega
 ·show Bs ((iw f y fs).lookup g) (if g=f then some u else mA g)
  rw [yg]
  by_cases q:g=f
  ·rw [if_pos q,if_pos q]; exact ry
  ·rw [if_neg q,if_neg q]; exact r g
 ·by_cases q:g=f
  ·rw [q]; exact (wK f y fs).1
  ·refine (wK f y fs).2 g (wi g fun z=>hg ?_)
   show (if g=f then some u else mA g)=none
   rw [if_neg q]; exact z
theorem Inv.made (I:Inv X pins σ H s):Inv X pins σ (upd (upd H s.heap.objs.size (.own (s.heap.objs.size + 1))) (s.heap.objs.size + 1) (.ins C s.heap.objs.size [])) { s with heap:=(s.heap.push emptyDict).push (instObj C s.heap.objs.size) }:=by
 have e1:(s.heap.push emptyDict).get? s.heap.objs.size=some emptyDict:=aN s.heap rfl;have e2:((s.heap.push emptyDict).push (instObj C s.heap.objs.size)).get? (s.heap.objs.size + 1)=some (instObj C s.heap.objs.size):=by
  have:=aN (s.heap.push emptyDict) (o:=instObj C s.heap.objs.size) rfl
  rwa [Heap.size_push] at this
 have e3:(s.heap.push emptyDict).Ns s.heap.objs.size (fun _=>none):=⟨emptyDict,#[],_,e1,rfl,(fun e he=>absurd he (by simp)),fun _=>rfl⟩;have I1:=I.laid (a:=s.heap.objs.size) (o:=.own (s.heap.objs.size + 1)) (h':=s.heap.push emptyDict) (t':=s.toks) (fun b u q=>aq _ q) (aO _) ⟨_,e1⟩;refine I1.laid (a:=s.heap.objs.size + 1) (o:=.ins C s.heap.objs.size []) (t':=s.toks) (fun b u q=>aq _ q) (Nat.le_of_eq (Heap.size_push _ _)) ?_;have ne:s.heap.objs.size≠s.heap.objs.size + 1:=Nat.ne_of_lt (Nat.lt_succ_self _);refine ⟨by rw [bf ne,aD],dG _,ne,e2,fun _=>none,(Heap.Ns1.of_empty e3).at fun o q=>aq _ q,fun _=>True.intro,fun y hy=>absurd rfl hy⟩
theorem Yz {prog:cC} {w:World} {env:Env} {e:Expr} {f:Str} {pos:Pos} {s:aX} {Q:aB->aX->Prop} (hb:attributeBase e f env (eval e env)=eval e env) (h:wpAny (model prog w) A (eval e env) (fun o s₁=>wpAny (model prog w) A (getAttr o f true) Q E s₁) E s):wpAny (model prog w) A (eval (.Attribute e f pos) env) Q E s := Attribute_any_ h (by rw [arm_eval_Attribute,hb])
end
def ao6 (K:Fg) (ta:TE) (f:Str):TE:=fun σ H Q=>ta σ H fun x H1=>∃ a C dx fs v,x=.ref a/\H1 a=some (.ins C dx fs)/\Cls K C/\jG K C f/\fs.lookup f=some v/\Q v H1
def azx (K:Fg) (ta tv:TE) (f:Str):TS:=fun D σ H=>tv σ H fun y H1=>ta σ H1 fun x H2=>∃ a C dx fs,x=.ref a/\H2 a=some (.ins C dx fs)/\Cls K C/\jG K C f/\fs.length < 1000 /\ D.nx σ (upd H2 a (.ins C dx (iw f y fs)))
section
variable {X:Cx} {o e value:Expr} {f:Str} {pos pos' tpos:Pos} {ta tv:TE}
theorem fG (he:PE X e ta) (hb:attributeBase e f X.env (eval e X.env)=eval e X.env):PE X (.Attribute e f pos) (ao6 X.K ta f):=by
 intro pins s σ H Q I h;refine Yz hb (fV (he pins s σ H _ I h) fun u s1 ⟨x,H1,I1,rx,a,C,dx,fs,v,ex,ea,c,n,l,q⟩=>?_);subst ex;obtain rfl:u=Value.ref a:=rx;exact JM I1 ea c n l fun u' s2 I2 ru=>⟨v,H1,I2,ru,q⟩
theorem pG (ha:PE X o ta) (hv:PE X value tv) (hs:swapsWith value (some (.Attribute o f pos')) pos.line X.env=pure false):PS X (.Assign [.Attribute o f pos'] value pos) (azx X.K ta tv f):=by
 intro pins s σ H D I h;refine plainObj_wpAny_Assign_Attribute (fV (hv pins s σ H _ I h) fun u s1 ⟨y,H1,I1,ry,q⟩=>fV (ha pins s1 σ H1 _ I1 q) fun ov s2 ⟨x,H2,I2,rx,a,C,dx,fs,ex,ea,c,n,l,q2⟩=>?_) hs;subst ex;obtain rfl:ov=Value.ref a:=rx;exact JN I2 ea c n l ry fun s3 I3=>⟨σ,_,I3,q2⟩
theorem aa9 {pl:Sem Bool} {m:Str} {apos:Pos} {args:List Expr} {pins:List (aA × Obj)} {s:aX} {σ:St} {H:Hp} {Q:aB->aX->Prop} {te:TE} (he:PE X e te) (I:Inv X pins σ H s) (h:te σ H fun x H1=>∃ a C dx fs g,x=.ref a/\H1 a=some (.ins C dx fs)/\Cls X.K C/\Meth X.K C m g/\fs.lookup m=none /\ ∀ s1,Inv X pins σ H1 s1->wpAny (model X.prog X.w) X.A (callWith pos (.ref g) [.ref a] (backTo pos (starEach args X.env)) (backToKw pos (keywordEach [] X.env))) Q X.xe s1) (ht:eval (.Call (.Attribute e m apos) args [] pos) X.env=(do
   let ov <- eval e X.env
   standAt apos.atName
   let (f,first) <- holding [ov] (getMethod ov m pl)
   callWith pos f first (backTo pos (starEach args X.env)) (backToKw pos (keywordEach [] X.env)))) :
  wpAny (model X.prog X.w) X.A (eval (.Call (.Attribute e m apos) args [] pos) X.env) Q X.xe s:=by
 refine methodCall_KW (pl:=pl) (fV (he pins s σ H _ I h) fun u s1 ⟨x,H1,I1,rx,a,C,dx,fs,g,ex,ea,c,k,l,q⟩=>?_) ht;subst ex;obtain rfl:u=Value.ref a:=rx;exact pD I1 ea c k l (q s1 I1)
end
section
variable {X:Cx} {pins:List (aA × Obj)} {σ:St} {H:Hp} {s:aX} {A:d7} {E:aB->aX->Prop} {Q:aB->aX->Prop} {c:aB} {b:Bool}
inductive tK (K:Fg) (H:Hp):V->aB->Prop where
 | non:tK K H .non (.type "NoneType")
 | bl (x:Bool):tK K H (.bl x) (.type "bool")
 | int (i:Int):tK K H (.int i) (.type "int")
 | str (x:Str):tK K H (.str x) (.type "str")
 | flt (x:UInt64):tK K H (.flt x) (.type "float")
 | lst {a:aA} {xs:List V} (e:H a=some (.lst xs)):tK K H (.ref a) (.type "list")
 | DQ {a:aA} {o:Obj} {xs:List V} (e:H a=some (.DQ o (.lst xs))):tK K H (.ref a) (.type "list")
 | tup {a:aA} {xs:List V} (e:H a=some (.tup xs)):tK K H (.ref a) (.type "tuple")
 | dK {a:aA} {kvs:List (Key × V)} (e:H a=some (.dK kvs)):tK K H (.ref a) (.type "dict")
 | dT {a:aA} {kvs:List (List Key × V)} (e:H a=some (.dT kvs)):tK K H (.ref a) (.type "dict")
 | ins {a C dx:aA} {fs:List (Str × V)} (e:H a=some (.ins C dx fs)) (cl:Cls K C) (ha:findIn K (.ref C) "__class__"=some (some (.builtin "object.__class__"))) (hn:specialIn K (.builtin "object.__class__") "__get__"=some (some (.builtin "getset_descriptor.__get__"))) (htk:takesIn K (.builtin "object.__class__")=some true) (hm:mroIn K C (.type "object")=some true):tK K H (.ref a) (.ref C)
theorem Ca {x:V} {u t:aB} (I:Inv X pins σ H s) (rx:RelV x u) (ty:tK X.K H x t) (e:kitOne X.K t c=some b) (h:∀ tk,Q (.bool b) { s with toks:=tk }) : wpAny (model X.prog X.w) A (call (.builtin "isinstance") [u,c]) Q E s:=by
 cases ty with
 | non=>cases (show u=Value.none from rx); exact kia_one PySem.W.kitx_none I.sG True.intro e (fun z=>nomatch z) h
 | bl y=>cases (show u=Value.bool y from rx); exact kia_one PySem.W.kitx_bool I.sG True.intro e (fun z=>nomatch z) h
 | int i=>obtain ⟨t,q⟩:=(show ∃ t,u=Value.int i t from rx); cases q; exact kia_one PySem.W.kitx_int I.sG True.intro e (fun z=>nomatch z) h
 | str y=>obtain ⟨t,q⟩:=(show ∃ t,u=Value.str y t from rx); cases q; exact kia_one PySem.W.kitx_str I.sG True.intro e (fun z=>nomatch z) h
 | flt y=>obtain ⟨t,q⟩:=(show ∃ t,u=Value.float y t from rx); cases q; exact kia_one PySem.W.kitx_float I.sG True.intro e (fun z=>nomatch z) h
 | @lst a xs ea =>
  cases (show u=Value.ref a from rx);obtain ⟨_,_,n,_,h1⟩:=(show gD X.prog X.w H s.heap a (.lst xs) from I.hok a _ ea);exact kia_one kitx_list I.sG ⟨_,h1,rfl⟩ e (fun z=>nomatch z) h
 | @DQ a ob xs ea =>
  cases (show u=Value.ref a from rx);obtain ⟨_,_,_,n,_,h1⟩:=(show gD X.prog X.w H s.heap a (.DQ ob (.lst xs)) from I.hok a _ ea);exact kia_one kitx_list I.sG ⟨_,h1,rfl⟩ e (fun z=>nomatch z) h
 | @tup a xs ea =>
  cases (show u=Value.ref a from rx);obtain ⟨_,_,_,p⟩:=(show gD X.prog X.w H s.heap a (.tup xs) from I.hok a _ ea);obtain ⟨o,h1,h2,_⟩:=p;exact kia_one PySem.W.kitx_tuple I.sG ⟨o,h1,h2⟩ e (fun z=>nomatch z) h
 | @dK a kvs ea =>
  cases (show u=Value.ref a from rx);obtain ⟨_,_,vs,_,p⟩:=(show gD X.prog X.w H s.heap a (.dK kvs) from I.hok a _ ea);obtain ⟨o,es,ep,h1,h2,_⟩:=p;exact kia_one kitx_dict I.sG ⟨o,h1,h2.1⟩ e (fun z=>nomatch z) h
 | @dT a kvs ea =>
  cases (show u=Value.ref a from rx);obtain ⟨_,_,xs,_,o,es,ep,h1,h2,_⟩:=(show gD X.prog X.w H s.heap a (.dT kvs) from I.hok a _ ea);exact kia_one kitx_dict I.sG ⟨o,h1,h2.1⟩ e (fun z=>nomatch z) h
 | @ins a C dx fs ea cl ha hn htk hm =>
  cases (show u=Value.ref a from rx);obtain ⟨mA,O,_⟩:=yS I.hok ea;obtain ⟨od,J,_⟩:=O.look;exact kia_one (PySem.W.kitx_own (cl.get _) cl.hd ha hn htk hm) I.sG J e (fun z=>nomatch z) h
end
structure d8 (k:Nat) (A:d7):Prop where
 hd:A.handled=none
 dp:A.depth + 3 * k + 5 < recursionLimit
 un:A.units + 16 * k + 200 < cLine
theorem d8.mono {j k:Nat} {A:d7} (r:d8 k A) (h:j<=k):d8 j A:=⟨r.hd,by have:=r.dp; omega,by have:=r.un; omega⟩
theorem d8.deeper {k:Nat} {A:d7} (r:d8 (k + 1) A) (env:Env):d8 k (A.deeper env) := ⟨r.hd,by have:=r.dp; show A.depth + 1 + 3 * k + 5 < _; omega,by have:=r.un; show A.units + 3 + 16 * k + 200 < _; omega⟩
theorem d8.in1 {k:Nat} {A:d7} (r:d8 (k + 1) A):d8 k A.in1 := ⟨r.hd,by have:=r.dp; show A.depth + 3 * k + 5 < _; omega,by have:=r.un; show A.units + 1 + 16 * k + 200 < _; omega⟩
theorem JQ {A:d7} {C:aA} {us:List aB} {kw:List (Str × aB)}:(A.under (.builtin "type.__call__" ⟨.ref C::us,kw⟩)).depth=A.depth + 1:=by
 first | rfl | simp [Around.under,Code.weight,Code.isCreation,Code.isGuard,Code.isCaller,Code.frames,Code.isFrame,guardIds]
theorem JR {A:d7} {C:aA} {us:List aB} {kw:List (Str × aB)}:(A.under (.builtin "type.__call__" ⟨.ref C::us,kw⟩)).units=A.units + 1:=by
 first | rfl | simp [Around.under,Code.cUnits,Code.frames,Code.isFrame]
theorem d8.make {k:Nat} {A:d7} (r:d8 (k + 1) A) (C:aA) (us:List aB) (kw:List (Str × aB)):d8 k (A.under (.builtin "type.__call__" ⟨.ref C::us,kw⟩)) := ⟨r.hd,by have:=r.dp; rw [JQ]; omega,by have:=r.un; rw [JR]; omega⟩
theorem d8.depth {k:Nat} {A:d7} (r:d8 k A):A.depth < recursionLimit:=by have:=r.dp; omega
theorem d8.units {k:Nat} {A:d7} (r:d8 k A):A.units + 64 < cLine:=by have:=r.un; omega
def JT:TA:=fun _ H Q=>Q [] H
def yh (ta:TE) (tr:TA):TA:=fun σ H Q=>ta σ H fun x H1=>tr σ H1 fun xs H2=>Q (x::xs) H2
section
variable {X:Cx} {e:Expr} {es:List Expr} {te:TE} {t:TA} {pos:Pos}
theorem aK:PA X [] JT:=fun _ _ _ _ H Q I h=>Calls.spliced_nil ⟨[],H,I,.nil,h⟩
theorem ao (ha:PE X e te) (hr:PA X es t) (hs:autoParam (starEach (e::es) X.env=(false,eval e X.env)::starEach es X.env) zau0):PA X (e::es) (yh te t):=by
 intro pos pins s σ H Q I h;rw [hs]
 show wpAny _ _ (spliced ((false,eval e X.env)::backTo pos (starEach es X.env))) _ _ s
 refine Calls.spliced_cons (fV (ha pins s σ H _ I h) fun u s1 ⟨x,H1,I1,r1,q1⟩=>?_);exact fV (hr pos pins s1 σ H1 _ I1 q1) fun us s2 ⟨xs,H2,I2,r2,q2⟩=>⟨x::xs,H2,I2,.cons r1 r2,q2⟩
def azy (t:TA):TE:=fun σ H Q=>t σ H fun xs H1=>xs.length<=sizeLine/\∀ p,H1 p=none->Q (.ref p) (upd H1 p (.tup xs))
def ahQ (t:TA):TE:=fun σ H Q=>t σ H fun xs H1=>xs.length<=sizeLine/\∀ p,H1 p=none->Q (.ref p) (upd H1 p (.lst xs))
theorem fJ {x1} (h:PA X es t):PE X (.Tuple es x1 pos) (azy t):=by
 intro pins s σ H Q I hq;refine wpAny_Tuple_spliced (fV (h pos pins s σ H _ I hq) fun us s1 ⟨xs,H1,I1,r,z,q⟩=>⟨by rw [<- r.length]; exact z,?_⟩);have hf:H1 s1.heap.objs.size=none:=I1.hok.fresh (aO _);refine ⟨.ref s1.heap.objs.size,upd H1 s1.heap.objs.size (.tup xs),I1.laid (t':=s1.toks) (fun b u e=>aq _ e) (aO _) ?_,rfl,q _ hf⟩;exact ⟨z,us,r,⟨_,aN _ rfl,rfl,_,rfl⟩⟩
theorem fZ (h:PA X es t):PE X (.List es pos) (ahQ t):=by
 intro pins s σ H Q I hq;refine wpAny_List_spliced (fV (h pos pins s σ H _ I hq) fun us s1 ⟨xs,H1,I1,r,z,q⟩=>⟨by rw [<- r.length]; exact z,?_⟩);have hf:H1 s1.heap.objs.size=none:=I1.hok.fresh (aO _);refine ⟨.ref s1.heap.objs.size,upd H1 s1.heap.objs.size (.lst xs),I1.laid (t':=s1.toks) (fun b u e=>aq _ e) (aO _) ?_,rfl,q _ hf⟩;exact ⟨z,us,0,r,aN _ rfl⟩
end
abbrev Sp:=List V->Hp->VK->XK->Prop
abbrev Gj:=List Env->Hp->aX->XK->aB->aX->Prop
structure Gq (P:cC) (w:World) (K:Fg) (mg:Str->Option aB) (base:Heap) (A:d7) (outer:List Env) (s:aX) (H:Hp):Prop where
 frames:A.frames=some outer
 mod:Mod K mg base
 bs:∀ b o,base.get? b=some o->s.heap.get? b=some o/\H b=none
 Ot:base.objs.size<=s.heap.objs.size
 sY:s.heap.FunFrames base outer
 Yo:∀ b ∈ frs outer,H b=none
 hok:wH P w H s.heap
 bare:AllBare s.gens
def CE (outer:List Env) (P:cC) (w:World) (H:Hp) (s:aX) (Q:VK) (u:aB) (s':aX):Prop := ∃ v H',s'.os=s.os/\AllBare s'.gens/\Un (frs outer) [] H H' s.heap s'.heap/\wH P w H' s'.heap/\RelV v u/\Q v H'
def CR (CX:Gj) (outer:List Env) (P:cC) (w:World) (H:Hp) (s:aX) (Q:VK) (E:XK) (r:Result) (s':aX):Prop := match r with
 | .ok (.ret u)=>CE outer P w H s Q u s'
 | .ok _=>False
 | .error e=>CX outer H s E e s'
structure cD (P:cC) (w:World) (K:Fg) (mg:Str->Option aB) (base:Heap) (CX:Gj) (k:Nat) (f:aA) (fd:fQ) (ps:List Str) (sp:Sp):Prop where
 len:∀ vs H Q E,sp vs H Q E->vs.length=ps.length
 run:∀ (A:d7) (outer:List Env) (s:aX) (H:Hp) (args:Args) (us:List aB) (vs:List V) (Q:VK) (E:XK),d8 k A->Gq P w K mg base A outer s H->BindsTo s fd args (ps.zip us)->Vals vs us->sp vs H Q E -> codeAny (model P w) A (.call (.ref f) args) (CR CX outer P w H s Q E) s
theorem cD.mono {P:cC} {w:World} {K:Fg} {mg:Str->Option aB} {base:Heap} {CX:Gj} {j k:Nat} {f:aA} {fd:fQ} {ps:List Str} {sp:Sp} (F:cD P w K mg base CX j f fd ps sp) (h:j<=k) : cD P w K mg base CX k f fd ps sp:=⟨F.len,fun A outer s H args us vs Q E hr=>F.run A outer s H args us vs Q E (hr.mono h)⟩
theorem Gq.make {P:cC} {w:World} {K:Fg} {mg:Str->Option aB} {base:Heap} {A:d7} {outer:List Env} {s:aX} {H:Hp} (e:Gq P w K mg base A outer s H) (C:aA) (us:List aB) (kw:List (Str × aB)) : Gq P w K mg base (A.under (.builtin "type.__call__" ⟨.ref C::us,kw⟩)) outer s H:=⟨by first | exact e.frames | (simpa [Around.under,Code.envs,Code.isFrame,pushEnvs] using e.frames),e.mod,e.bs,e.Ot,e.sY,e.Yo,e.hok,e.bare⟩
section
variable {X:Cx} {pins:List (aA × Obj)} {σ:St} {H:Hp} {s s':aX}
theorem Inv.env0 (I:Inv X pins σ H s):Gq X.prog X.w X.K X.mg X.base X.A X.stack s H := ⟨I.ok.frames,I.ok.mod,I.bs,bJ I.ok.Ot I.sz,I.stack,I.yR,I.hok,I.bare⟩
theorem Inv.after {Q:VK} {u:aB} (I:Inv X pins σ H s) (h:CE X.stack X.prog X.w H s Q u s'):EP X pins σ Q u s':=by
 obtain ⟨v,H',os,bare,un,hok,r,q⟩:=h;obtain ⟨hh,g,d,t,os'⟩:=s';obtain rfl:os'=s.os:=os;exact ⟨v,H',I.call (h':=hh) (g':=g) (d':=d) (t':=t) (ch:=[]) un hok bare (fun b z=>absurd z (by simp)),r,q⟩
end
def Gs (sp:Sp) (uV:List V) (E:XK) (t:TA):TE:=fun σ H Q=>t σ H fun vs H1=>sp (vs++uV) H1 Q E
def abb (C:aA) (m:Str) (sp:Sp) (uV:List V) (E:XK) (ta:TE) (t:TA):TE:=fun σ H Q=>ta σ H fun x H1=>∃ a dx fs,x=.ref a/\H1 a=some (.ins C dx fs)/\fs.lookup m=none /\ t σ H1 fun vs H2=>sp (x::(vs++uV)) H2 Q E
def abd (C:aA) (sp:Sp) (uV:List V) (E:XK) (t:TA):TE:=fun σ H Q=>t σ H fun vs H1=>∀ x dx,H1 x=none->H1 dx=none->dx≠x -> sp (.ref x::(vs++uV)) (upd (upd H1 dx (.own x)) x (.ins C dx [])) (fun v H2=>v=.non/\Q (.ref x) H2) E
def Binds (K:Fg) (fd:fQ) (ps:List Str) (ds:List aB):Prop := ∀ (s:aX) (us:List aB),K.In s.heap->(us++ds).length=ps.length->BindsTo s fd ⟨us,[]⟩ (ps.zip (us++ds))
theorem Binds.all {K:Fg} {fd:fQ} {ps:List Str} (h:∀ us:List aB,us.length=ps.length->bindArgs fd ⟨us,[]⟩=pure (ps.zip us)):Binds K fd ps []:=fun s us _ hl=>by
 rw [cA] at hl ⊢;exact .of_eq (h us hl)
def Passes (CX:Gj) (X:Cx) (E:XK):Prop:=∀ (pins:List (aA × Obj)) (σ:St) (H:Hp) (s:aX) (e:aB) (s':aX),Inv X pins σ H s->CX X.stack H s E e s'->X.xe e s'
section
variable {X:Cx} {CX:Gj} {k:Nat} {f C:aA} {fd:fQ} {ps:List Str} {sp:Sp} {uV:List V} {ds:List aB} {E:XK} {x m:Str} {p pos apos:Pos} {e o:Expr} {es:List Expr} {ta:TE} {t:TA}
theorem zE {pins:List (aA × Obj)} {σ:St} {H:Hp} {s:aX} {Q:VK} {us:List aB} {vs:List V} (F:cD X.prog X.w X.K X.mg X.base CX k f fd ps sp) (hr:d8 k X.A) (hb:Binds X.K fd ps ds) (hd:Vals uV ds) (hx:Passes CX X E) (I:Inv X pins σ H s) (r:Vals vs us) (h:sp (vs++uV) H Q E):wpAny (model X.prog X.w) X.A (call (.ref f) us) (EP X pins σ Q) X.xe s:=by
 have r2:Vals (vs++uV) (us++ds):=r.append hd;have hl:(us++ds).length=ps.length:=by rw [<- r2.length]; exact F.len _ _ _ _ h
 refine wpAny_call (codeAny_mono (F.run X.A X.stack s H ⟨us,[]⟩ (us++ds) (vs++uV) Q E hr I.env0 (hb s us I.sG hl) r2 h) fun r s' hq=>?_);cases r with
 | error e=>exact hx pins σ H s e s' I hq
 | ok fl =>
  cases fl with
  | ret u=>exact I.after hq
  | next=>exact False.elim hq
  | brk=>exact False.elim hq
  | cont=>exact False.elim hq
theorem Mq (F:cD X.prog X.w X.K X.mg X.base CX k f fd ps sp) (hr:d8 k X.A) (hg:Gl X x) (hm:X.mg x=some (.ref f)) (hk:keepIn X.K (.ref f)=true) (hb:Binds X.K fd ps ds) (hd:Vals uV ds) (hx:Passes CX X E) (ha:PA X (e::es) t) (hdb:autoParam ((x == ("__debug__":Str))=false) zau1) (he:autoParam (starEach (e::es) X.env=(false,eval e X.env)::starEach es X.env) zau0) (hpl:autoParam ((backTo pos (starEach es X.env)).any (·.1)=false) zau0) : PE X (.Call (.Name x p) (e::es) [] pos) (Gs sp uV E t):=by
 intro pins s σ H Q I h;refine wpAny_Call_Name_kw (pC I hg hm ?_ hdb);refine callWith_K (h₀:=X.base) I.ok.mod.Xd hk (fV (ha pos pins s σ H _ I h) fun us s1 ⟨vs,H1,I1,r,q⟩=>⟨I1.sG,?_⟩) he hpl;exact zE F hr hb hd hx I1 r q
theorem kJ {pl:Sem Bool} (he:PE X o ta) (c:Cls X.K C) (hm:Meth X.K C m f) (F:cD X.prog X.w X.K X.mg X.base CX k f fd ps sp) (hr:d8 k X.A) (hb:Binds X.K fd ps ds) (hd:Vals uV ds) (hx:Passes CX X E) (ha:PA X (e::es) t) (hst:autoParam (starEach (e::es) X.env=(false,eval e X.env)::starEach es X.env) zau0) (hpl:autoParam ((backTo pos (starEach es X.env)).any (·.1)=false) zau0) (ht:autoParam (eval (.Call (.Attribute o m apos) (e::es) [] pos) X.env=(do
   let ov <- eval o X.env
   standAt apos.atName
   let (f,first) <- holding [ov] (getMethod ov m pl)
   callWith pos f first (backTo pos (starEach (e::es) X.env)) (backToKw pos (keywordEach [] X.env)))) zau0) :
  PE X (.Call (.Attribute o m apos) (e::es) [] pos) (abb C m sp uV E ta t):=by
 intro pins s σ H Q I h;refine methodCall_KW (pl:=pl) (fV (he pins s σ H _ I h) fun u s1 ⟨x,H1,I1,rx,a,dx,fs,ex,ea,l,q⟩=>?_) ht;subst ex;obtain rfl:u=Value.ref a:=rx;refine pD I1 ea c hm l ?_;refine callWith_K (first:=[.ref a]) (h₀:=X.base) I.ok.mod.Xd hm.kp (fV (ha pos pins s1 σ H1 _ I1 q) fun us s2 ⟨vs,H2,I2,r,q2⟩=>⟨I2.sG,?_⟩) hst hpl;exact zE (us:=.ref a::us) (vs:=.ref a::vs) F hr hb hd hx I2 (.cons rfl r) q2
theorem oN {pl:Sem Bool} (he:PE X o ta) (c:Cls X.K C) (hm:Meth X.K C m f) (F:cD X.prog X.w X.K X.mg X.base CX k f fd ps sp) (hr:d8 k X.A) (hb:Binds X.K fd ps ds) (hd:Vals uV ds) (hx:Passes CX X E) (ht:autoParam (eval (.Call (.Attribute o m apos) [] [] pos) X.env=(do
   let ov <- eval o X.env
   standAt apos.atName
   let (f,first) <- holding [ov] (getMethod ov m pl)
   callWith pos f first (backTo pos (starEach [] X.env)) (backToKw pos (keywordEach [] X.env)))) zau0) :
  PE X (.Call (.Attribute o m apos) [] [] pos) (abb C m sp uV E ta JT):=by
 intro pins s σ H Q I h;refine methodCall_KW (pl:=pl) (fV (he pins s σ H _ I h) fun u s1 ⟨x,H1,I1,rx,a,dx,fs,ex,ea,l,q⟩=>?_) ht;subst ex;obtain rfl:u=Value.ref a:=rx;refine pD I1 ea c hm l ?_;exact PySem.W.callWith_K0 (first:=[.ref a]) I1.sG hm.kp (zE (us:=[.ref a]) (vs:=[.ref a]) F hr hb hd hx I1 (.cons rfl .nil) q)
structure Mk (K:Fg) (C f:aA):Prop where
 makes:makesIn K C=true
 init:findIn K (.ref C) "__init__"=some (some (.ref f))
 fn:isFn K (.ref f)=true
 kp:keepIn K (.ref C)=true
theorem RM {pins:List (aA × Obj)} {σ:St} {H:Hp} {s:aX} {Q:VK} {us:List aB} {vs:List V} (M:Mk X.K C f) (F:cD X.prog X.w X.K X.mg X.base CX k f fd ps sp) (hr:d8 (k + 1) X.A) (hb:Binds X.K fd ps ds) (hd:Vals uV ds) (hx:Passes CX X E) (I:Inv X pins σ H s) (r:Vals vs us) (h:∀ x dx,H x=none->H dx=none->dx≠x->sp (.ref x::(vs++uV)) (upd (upd H dx (.own x)) x (.ins C dx [])) (fun v H2=>v=.non/\Q (.ref x) H2) E) : wpAny (model X.prog X.w) X.A (call (.ref C) us) (EP X pins σ Q) X.xe s:=by
 have hq:=h (s.heap.objs.size + 1) s.heap.objs.size (I.hok.fresh (Nat.le_succ _)) (I.hok.fresh (aO _)) (Nat.ne_of_lt (Nat.lt_succ_self _));have I2:=Inv.made (C:=C) I;have r2:Vals (V.ref (s.heap.objs.size + 1)::(vs++uV)) (Value.ref (s.heap.objs.size + 1)::(us++ds)):=.cons rfl (r.append hd);have hl:(Value.ref (s.heap.objs.size + 1)::us++ds).length=ps.length:=by
  have e:=r2.length;rw [F.len _ _ _ _ hq] at e;exact e.symm
 refine wpAny_call (RL (f:=f) I.sG M.makes M.init (beq_iff_eq.mp M.fn) (codeAny_mono (F.run _ X.stack _ _ ⟨Value.ref (s.heap.objs.size + 1)::us,[]⟩ (Value.ref (s.heap.objs.size + 1)::(us++ds)) _ _ E (hr.make C us []) (I2.env0.make C us []) (hb _ (Value.ref (s.heap.objs.size + 1)::us) I2.sG hl) r2 hq) fun r s' hq'=>?_));cases r with
 | error e=>exact hx pins σ _ _ e s' I2 hq'
 | ok fl =>
  cases fl with
  | ret u =>
   obtain ⟨v,H',I3,rv,ev,q3⟩:=I2.after hq';subst ev;exact ⟨rv,⟨V.ref (s.heap.objs.size + 1),H',I3,rfl,q3⟩⟩
  | next=>exact False.elim hq'
  | brk=>exact False.elim hq'
  | cont=>exact False.elim hq'
theorem YB (M:Mk X.K C f) (F:cD X.prog X.w X.K X.mg X.base CX k f fd ps sp) (hr:d8 (k + 1) X.A) (hg:Gl X x) (hm:X.mg x=some (.ref C)) (hb:Binds X.K fd ps ds) (hd:Vals uV ds) (hx:Passes CX X E) (ha:PA X (e::es) t) (hdb:autoParam ((x == ("__debug__":Str))=false) zau1) (he:autoParam (starEach (e::es) X.env=(false,eval e X.env)::starEach es X.env) zau0) (hpl:autoParam ((backTo pos (starEach es X.env)).any (·.1)=false) zau0) : PE X (.Call (.Name x p) (e::es) [] pos) (abd C sp uV E t):=by
 intro pins s σ H Q I h;refine wpAny_Call_Name_kw (pC I hg hm ?_ hdb);refine callWith_K (h₀:=X.base) I.ok.mod.Xd M.kp (fV (ha pos pins s σ H _ I h) fun us s1 ⟨vs,H1,I1,r,q⟩=>⟨I1.sG,?_⟩) he hpl;exact RM M F hr hb hd hx I1 r q
end
section
variable {X:Cx} {CX:Gj} {k:Nat} {f C:aA} {fd:fQ} {ps ks:List Str} {sp:Sp} {E:XK} {x m:Str} {p pos apos kpos:Pos} {e o:Expr} {es:List Expr} {kws:List Keyword} {te ta:TE} {t tk:TA} {nm:Option Str}
variable {g:List aB->List aB->List aB} {gV:List V->List V->List V}
end
structure bV (N P:List Str) (sc:Scope):Prop where
 kind:sc.kind=.function
 co:sc.isCoroutine=false
 gen:sc.isGenerator=false
 nd:N.Nodup
 pre:N.take P.length=P
 par:∀ x ∈ P,sc.names.lookup x=some .local\/sc.names.lookup x=some .cell
 ahR:∀ y ∈ sc.names,y.2≠.free
theorem eO {N P:List Str} {sc:Scope} (h:sc.kind=.function/\sc.isCoroutine=false/\sc.isGenerator=false/\N.Nodup/\N.take P.length=P/\(∀ x ∈ P,sc.names.lookup x=some .local\/sc.names.lookup x=some .cell)/\∀ y ∈ sc.names,y.2≠.free):bV N P sc:=⟨h.1,h.2.1,h.2.2.1,h.2.2.2.1,h.2.2.2.2.1,h.2.2.2.2.2.1,h.2.2.2.2.2.2⟩
theorem Cd {kindOf:Str->Option NameKind} {x:Str}:∀ {binds:List (Str × aB)} {m:Str->Option aB},(∀ v,(x,v) ∉ binds)->bindL kindOf binds m x=m x
 | [],_,_=>rfl
 | (n,v)::r,m,h=>by
  unfold bindL;rw [Cd fun w hw=>h w (mem_cons_of_mem _ hw)]
  split
  ·have:x≠n:=by rintro rfl; exact h v mem_cons_self
   simp [this]
  ·rfl
theorem Ce {kindOf:Str->Option NameKind} {x:Str}:∀ {binds:List (Str × aB)} {m:Str->Option aB},(∀ v,(x,v) ∉ binds)->bindC kindOf binds m x=m x
 | [],_,_=>rfl
 | (n,v)::r,m,h=>by
  unfold bindC;rw [Ce fun w hw=>h w (mem_cons_of_mem _ hw)]
  split
  ·rfl
  ·have:x≠n:=by rintro rfl; exact h v mem_cons_self
   simp [this]
theorem Cg {kindOf:Str->Option NameKind} {x:Str} {v:aB}:∀ {P:List Str} {vs:List aB} {i:Nat} {m:Str->Option aB},P.Nodup->P[i]?=some x->vs[i]?=some v->kindOf x=some .local -> bindL kindOf (P.zip vs) m x=some v
 | [],_,_,_,_,h,_,_=>by simp at h
 | _::_,[],_,_,_,_,h,_=>by simp at h
 | p::P,w::vs,0,m,nd,h1,h2,hk=>by
  simp at h1 h2; subst h1; subst h2
  show bindL kindOf ((p,w)::P.zip vs) m p=_
  unfold bindL;rw [Cd fun v hv=>(nodup_cons.mp nd).1 (of_mem_zip hv).1,if_pos hk];simp
 | p::P,w::vs,i + 1,m,nd,h1,h2,hk=>by
  show bindL kindOf ((p,w)::P.zip vs) m x=_
  unfold bindL;exact Cg (i:=i) (nodup_cons.mp nd).2 (by simpa using h1) (by simpa using h2) hk
theorem Ci {kindOf:Str->Option NameKind} {x:Str} {v:aB}:∀ {P:List Str} {vs:List aB} {i:Nat} {m:Str->Option aB},P.Nodup->P[i]?=some x->vs[i]?=some v->kindOf x≠some .local -> bindC kindOf (P.zip vs) m x=some v
 | [],_,_,_,_,h,_,_=>by simp at h
 | _::_,[],_,_,_,_,h,_=>by simp at h
 | p::P,w::vs,0,m,nd,h1,h2,hk=>by
  simp at h1 h2; subst h1; subst h2
  show bindC kindOf ((p,w)::P.zip vs) m p=_
  unfold bindC;rw [Ce fun v hv=>(nodup_cons.mp nd).1 (of_mem_zip hv).1,if_neg hk];simp
 | p::P,w::vs,i + 1,m,nd,h1,h2,hk=>by
  show bindC kindOf ((p,w)::P.zip vs) m x=_
  unfold bindC;exact Ci (i:=i) (nodup_cons.mp nd).2 (by simpa using h1) (by simpa using h2) hk
def start (N:List Str) (vs:List V):St:=vs.map some++List.replicate (N.length - vs.length) none
noncomputable def oO (CX:Gj) (P:cC) (w:World) (K:Fg) (mg:Str->Option aB) (base:Heap) (N:List Str) (qual:Str) (scope:Scope) (f:aA) (cd:aB) (A:d7) (outer:List Env) (s:aX) (H:Hp) (E:XK):Cx where
 prog:=P
 w:=w
 K:=K
 mg:=mg
 base:=base
 A:=A.deeper (envOfC qual scope s.heap.objs.size f cd)
 N:=N
 s₀:=s
 H₀:=H
 env:=envOfC qual scope s.heap.objs.size f cd
 outer:=outer
 stack:=envOfC qual scope s.heap.objs.size f cd::outer
 ex:=[]
 calm:=true
 fn:=fun _=>true
 pn:=[]
 xe:=fun e s'=>wpAny (model P w) (A.deeper (envOfC qual scope s.heap.objs.size f cd)) (leaving (envOfC qual scope s.heap.objs.size f cd) e) (fun _ s''=>CX outer H s E e s'') (fun e' s''=>CX outer H s E e' s'') s'
theorem Gu {sc:Scope} {n:Nat} {x:Str} (h:sc.names.lookup x=some .cell):∃ c,(cellsFrom n sc.names []).lookup x=some c:=by
 have q:=cellsFrom_some sc.names n [] (.inl h);exact Option.isSome_iff_exists.mp q
theorem Cj {CX:Gj} {P:cC} {w:World} {K:Fg} {mg:Str->Option aB} {base:Heap} {N ps:List Str} {qual:Str} {scope:Scope} {f:aA} {cd:aB} {A:d7} {outer:List Env} {s s1:aX} {H:Hp} {E:XK} {us:List aB} {vs:List V} (S:bV N ps scope) (hd:A.handled=none) (e0:Gq P w K mg base A outer s H) (hl:vs.length=ps.length) (r:Vals vs us) (x:InCallC s s.heap.objs.size (bindL (envOfC qual scope s.heap.objs.size f cd).kindOf (ps.zip us) fun _=>none) (cellsFrom (s.heap.objs.size + 1) scope.names []) (bindC (envOfC qual scope s.heap.objs.size f cd).kindOf (ps.zip us) fun _=>none) s1) : Inv (oO CX P w K mg base N qual scope f cd A outer s H E) [] (start N vs) H s1:=by
 have hpl:ps.length<=N.length:=by have:=congrArg List.length S.pre; rw [length_take] at this; omega
 obtain ⟨h1,tk,rfl,hk⟩:=x.done;have noA:∀ b:aA,b ∉ (oO CX P w K mg base N qual scope f cd A outer s H E).ex:=fun b z=>absurd (show b ∈ ([]:List aA) from z) (by simp)
 refine ⟨⟨e0.mod,S.kind,rfl,rfl,aO _,fun y z c h1 h2=>?_,fun y hy=>?_,fun y c _ h=>?_,fun _=>hd,Around.frames_deeper e0.frames,.inr ⟨rfl,rfl⟩,fun b z=>absurd z (noA b),e0.bs,e0.Ot,fun b _ _=>noA b,fun b z=>absurd z (noA b),e0.sY,e0.Yo⟩,rfl,e0.bare,Un.kept hk,⟨_,x.toInCall.ns,fun i y v h1 h2 h3=>?_⟩,fun y c h=>⟨_,x.cell y c h⟩,e0.hok.fresh (aO _),fun y c h=>?_,fun p hp=>absurd (show p ∈ ([]:List (aA × Obj)) from hp) (by simp),e0.hok.kept hk,?_⟩
 ·exact name_of_addr x.apart (PySem.mem_of_lookup h1) (PySem.mem_of_lookup h2)
 ·have hy:scope.names.lookup y=some .cell\/scope.names.lookup y=some .free:=hy;rcases hy with hy | hy
  ·exact Gu hy
  ·exact absurd rfl (S.ahR _ (PySem.mem_of_lookup hy))
 ·exact Nat.le_of_lt (x.above y c (PySem.mem_of_lookup h))
 ·have hi:i < vs.length:=by
   unfold start at h2
   by_cases hi:i < vs.length
   ·exact hi
   ·rw [List.getElem?_append_right (by simpa using hi)] at h2;rw [List.getElem?_replicate] at h2
    split at h2 <;> cases h2
  have ha:vs[i]?=some v:=by
   unfold start at h2;rw [List.getElem?_append_left (by simpa using hi),aJ] at h2;cases e:vs[i]? with
   | none=>rw [e] at h2; cases h2
   | some a=>rw [e] at h2; cases h2; rfl
  obtain ⟨u,hu,rv⟩:=r.get ha;have hp:ps[i]?=some y:=by
   rw [<- S.pre,List.getElem?_take_of_lt (by omega)]; exact h1
  have ndP:ps.Nodup:=by rw [<- S.pre]; exact S.nd.sublist (List.take_sublist _ _)
  refine ⟨u,rv,?_⟩;rcases S.par y (aP hp) with k | k
  ·exact .inl ⟨k,Cg ndP hp hu k⟩
  ·obtain ⟨c,e⟩:=Gu (n:=s.heap.objs.size + 1) k;refine .inr ⟨.inl k,c,e,?_⟩;have q:=x.cell y c e;rw [Ci ndP hp hu (by show scope.names.lookup y≠_; rw [k]; decide)] at q;exact q
 ·exact e0.hok.fresh (Nat.le_of_lt (x.above y c (PySem.mem_of_lookup h)))
 ·unfold start
  show _=N.length
  rw [aQ,ak,length_replicate];omega
theorem RN {CX:Gj} {P:cC} {w:World} {K:Fg} {mg:Str->Option aB} {base:Heap} {k:Nat} {f:aA} {name qual:Str} {params:Arguments} {body:List dW} {scope:Scope} {dV kV doc pm cdv ct oc:aB} {an od:Option aA} {osl:Array (Option aB)} {N ps:List Str} {sp:Sp} (lk:K.lookup f=some ⟨oc,od,.func (fnOf name qual params body scope dV kV doc pm an cdv ct),osl⟩) (hcd:codeIn K cdv qual=true) (S:bV N ps scope) (len:∀ vs H Q E,sp vs H Q E->vs.length=ps.length) (hbody:∀ (A:d7) (outer:List Env) (s:aX) (H:Hp) (vs:List V) (Q:VK) (E:XK),d8 k (A.deeper (envOfC qual scope s.heap.objs.size f cdv))->sp vs H Q E -> ∃ t,Br (oO CX P w K mg base N qual scope f cdv A outer s H E) body t/\t { nx:=fun _ H'=>Q .non H',rt:=Q } (start N vs) H) : cD P w K mg base CX (k + 1) f (fnOf name qual params body scope dV kV doc pm an cdv ct) ps sp:=by
 refine ⟨len,fun A outer s H args us vs Q E hr e0 hb r hsp=>?_⟩;have hl:=len _ _ _ _ hsp;have KX:K.In s.heap:=e0.mod.Xd.keeps fun b o e=>(e0.bs b o e).1
 have lim:s.heap.NoLimit:=e0.mod.nolimit.keeps fun b o e=>(e0.bs b o e).1
 have hkind:∀ y ∈ ps.zip us,scope.names.lookup y.1=some .local\/(scope.names.lookup y.1=some .cell/\((cellsFrom (s.heap.objs.size + 1) scope.names []).lookup y.1).isSome=true):=fun ⟨n,v⟩ hy=>by
  rcases S.par n (of_mem_zip hy).1 with q | q
  ·exact .inl q
  ·exact .inr ⟨q,cellsFrom_some _ _ _ (.inl q)⟩
 refine codeAny_call_function hr.depth (KX _ _ lk) rfl S.co S.gen rfl (codeRec_of KX hcd) (hb _ _ _ _ ?_);refine wpAny_newFunctionEnv_cells S.kind hkind fun env he s1 x=>?_
 subst he;refine ⟨lim.keeps x.toInCall.keep,codeAny_func ?_⟩;obtain ⟨t,ht,hq⟩:=hbody A outer s H vs Q E (hr.deeper _) hsp;have I:Inv (oO CX P w K mg base N qual scope f cdv A outer s H E) [] (start N vs) H s1:=Cj S hr.hd e0 hl r x;refine eU (ht [] s1 (start N vs) H _ I hq) (fun fl s' hs=>?_) fun e s' hs=>hs
 have fin:∀ {σ':St} {H':Hp} {v:V} {u:aB},Inv (oO CX P w K mg base N qual scope f cdv A outer s H E) [] σ' H' s'->RelV v u->Q v H'->CE outer P w H s Q u s' :=
  fun {σ' H' v u} J rv q=>⟨v,H',J.os,J.bare,J.base,J.hok,rv,q⟩
 cases fl with
 | ret u =>
  obtain ⟨v,σ',H',J,rv,q⟩:=hs;exact fin J rv q
 | next =>
  obtain ⟨σ',H',J,q⟩:=hs;exact fin (v:=V.non) (u:=Value.none) J rfl q
 | brk =>
  obtain ⟨_,_,_,q⟩:=hs;exact False.elim q
 | cont =>
  obtain ⟨_,_,_,q⟩:=hs;exact False.elim q
section
variable {X:Cx} {x:Str} {p pos:Pos} {e:Expr} {es:List Expr} {t:TA} {id T:String} {r:List V->Hp->VK->Prop}
def tCB (r:List V->Hp->VK->Prop) (t:TA):TE:=fun σ H Q=>t σ H fun vs H1=>r vs H1 Q
theorem zF (hc:jH X (.builtin id) r) (hg:Gl X x) (hm:X.mg x=none) (hv:bootBuiltins x=some (.builtin id)) (ha:PA X (e::es) t) (hn:autoParam (x≠"__name__") zau1) (hdb:autoParam ((x == ("__debug__":Str))=false) zau1) (he:autoParam (starEach (e::es) X.env=(false,eval e X.env)::starEach es X.env) zau0) (hpl:autoParam ((backTo pos (starEach es X.env)).any (·.1)=false) zau0):PE X (.Call (.Name x p) (e::es) [] pos) (tCB r t):=by
 intro pins s σ H Q I h;refine wpAny_Call_Name_kw (nZ I hg hm hv ?_ hn hdb);exact PyProof.Rows.callWith_builtin1 (fV (ha pos pins s σ H _ I h) fun us s1 ⟨vs,H1,I1,r1,q1⟩=>hc pins s1 σ H1 vs us Q I1 r1 q1) he hpl
theorem O2 (hc:jH X (.type T) r) (hg:Gl X x) (hm:X.mg x=none) (hv:bootBuiltins x=some (.type T)) (ha:PA X (e::es) t) (hn:autoParam (x≠"__name__") zau1) (hdb:autoParam ((x == ("__debug__":Str))=false) zau1) (he:autoParam (starEach (e::es) X.env=(false,eval e X.env)::starEach es X.env) zau0) (hpl:autoParam ((backTo pos (starEach es X.env)).any (·.1)=false) zau0):PE X (.Call (.Name x p) (e::es) [] pos) (tCB r t):=by
 intro pins s σ H Q I h;refine wpAny_Call_Name_kw (nZ I hg hm hv ?_ hn hdb);exact callWith_type1 (fV (ha pos pins s σ H _ I h) fun us s1 ⟨vs,H1,I1,r1,q1⟩=>hc pins s1 σ H1 vs us Q I1 r1 q1) he hpl
end
end L2
namespace HT
open PySem PyProof.Rows
section
open PySem.SeqAt
open PySem.AutoSeq1 (wpAny_loadPart')
open PySem.MeetsSeq PySem.MeetsSeq2 PySem.MeetsSeq3
end
section
variable {prog:cC} {w:World} {A:d7} {E:aB->aX->Prop} {s:aX}
theorem YC {t b:aA} {vs ws:List aB} {Q:aB->aX->Prop} (ht:IsTup s.heap t vs.toArray) (hb:IsTup s.heap b ws.toArray) (hv:vs≠[]) (h1:ws=[]->Q (.ref t) s) (h2:ws≠[]->Q (.ref s.heap.objs.size) { s with heap:=s.heap.push { cls:=.type "tuple",data:=.seq (vs++ws).toArray } }) (hsz:vs.length + ws.length<=sizeLine):wpAny (model prog w) A (binaryOp .Add (.ref t) (.ref b)) Q E s:=by
 obtain ⟨⟨cls,dd,data,sl⟩,ho,hc,n,hd⟩:=id ht;obtain ⟨⟨cls2,dd2,data2,sl2⟩,ho2,hc2,n2,hd2⟩:=id hb;simp only at hc hd hc2 hd2;subst hc hd hc2 hd2;have e:vs.toArray++ws.toArray=(vs++ws).toArray:=by simp
 by_cases hw:ws=[]
 ·exact concat_meets ⟨_,ho,rfl⟩ ⟨_,ho2,rfl⟩ noFill_tuple_add seq_tuple_add PySem.F.slot_tuple_add PySem.F.entry_tuple_add (PySem.F.args_tuple_add_2 _ _) (tuple_addW1 t b vs.toArray ws.toArray n n2 dd dd2 sl sl2 (by simpa using hv) (by simp [hw])) ⟨ho,ho2,h1 hw⟩
 ·refine concat_meets ⟨_,ho,rfl⟩ ⟨_,ho2,rfl⟩ noFill_tuple_add seq_tuple_add PySem.F.slot_tuple_add PySem.F.entry_tuple_add (PySem.F.args_tuple_add_2 _ _) (tuple_addW2 t b vs.toArray ws.toArray n n2 dd dd2 sl sl2 (by simpa using hv) (by simpa using hw) (by rw [size_toArray,size_toArray]; exact hsz)) ⟨ho,ho2,?_⟩;rw [e];exact h2 hw
def yU (n d:Nat):Option Int->Nat
 | none=>d
 | some v=>if v < 0 then (v + (n:Int)).toNat else min v.toNat n
theorem Ec (n d k:Nat):yU n d (some (k:Int))=min k n:=by
 show (if (k:Int) < 0 then ((k:Int) + (n:Int)).toNat else min (k:Int).toNat n)=min k n
 rw [if_neg (by omega),cQ]
end
end HT
namespace L2
open PySem PySem.Spec PyProof.Rows
abbrev TO:=St->Hp->(Option Int->Hp->Prop)->Prop
def PO (X:Cx) (e:Option Expr) (t:TO):Prop := ∀ (pins:List (aA × Obj)) (s:aX) (σ:St) (H:Hp) (Q:Option Int->Hp->Prop),Inv X pins σ H s->t σ H Q -> wpAny (model X.prog X.w) X.A (evalPart e X.env) (fun u s'=>∃ o H',Inv X pins σ H' s'/\IsPart u o/\Q o H') X.xe s
def YD:TO:=fun _ H Q=>Q none H
def ao7 (t:TE):TO:=fun σ H Q=>t σ H fun x H1=>∃ i,x=.int i/\Q (some i) H1
section
variable {X:Cx} {e:Expr} {te:TE} {lo hi:Option Expr} {tl th:TO} {pos p2:Pos}
theorem yV:PO X none YD:=by
 intro pins s σ H Q I h;rw [evalPart_none];exact au ⟨none,H,I,.none,h⟩
theorem rJ (h:PE X e te):PO X (some e) (ao7 te):=by
 intro pins s σ H Q I hw;rw [evalPart_some];refine fV (h pins s σ H _ I hw) fun u s1 ⟨x,H1,I1,r1,q1⟩=>?_
 obtain ⟨i,rfl,q⟩:=q1;obtain ⟨t,rfl⟩:=r1;exact ⟨some i,H1,I1,.int i t,q⟩
noncomputable def SlR (X:Cx) (r:V->Option Int->Option Int->Hp->VK->Prop):Prop := ∀ (pins:List (aA × Obj)) (s:aX) (σ:St) (H:Hp) (x:V) (v vl vu:aB) (lo hi:Option Int) (sl:aA) (Q:VK),Inv X pins σ H s->RelV x v->s.heap.IsSliceOf sl vl vu .none->IsPart vl lo->IsPart vu hi->r x lo hi H Q -> ∃ T id,typeLookup (.type T) "__getitem__"=pure (some (.builtin id))/\s.TypeIs v T/\wpAny (model X.prog X.w) X.A (getItem v (.ref sl)) (EP X pins σ Q) X.xe s
def tSl (r:V->Option Int->Option Int->Hp->VK->Prop) (te:TE) (tl th:TO):TE:=fun σ H Q=>te σ H fun x H1=>tl σ H1 fun l H2=>th σ H2 fun u H3=>r x l u H3 Q
theorem qw {r:V->Option Int->Option Int->Hp->VK->Prop} (hr:SlR X r) (he:PE X e te) (hl:PO X lo tl) (hu:PO X hi th):PE X (.Subscript e (.Slice lo hi none p2) pos) (tSl r te tl th):=by
 intro pins s σ H Q I h;refine Subscript_ (fV (he pins s σ H _ I h) fun v s1 ⟨x,H1,I1,r1,q1⟩=>?_);refine wpAny_Slice (fV (hl pins s1 σ H1 _ I1 q1) fun vl s2 ⟨l,H2,I2,pl,q2⟩=>fV (hu pins s2 σ H2 _ I2 q2) fun vu s3 ⟨u,H3,I3,pu,q3⟩=>?_);rw [evalPart_none];refine au ?_;have I4:Inv X pins σ H3 { s3 with heap:=s3.heap.push { cls:=.type "slice",data:=.fields #[vl,vu,.none] } }:=I3.kept (t':=s3.toks) fun b ob q=>aq _ q
 obtain ⟨T,id,hT,ht,hg⟩:=hr pins { s3 with heap:=s3.heap.push { cls:=.type "slice",data:=.fields #[vl,vu,.none] } } σ H3 x v vl vu l u s3.heap.objs.size Q I4 r1 (Heap.IsSliceOf.new ..) pl pu q3
 show wpAny (model X.prog X.w) X.A (subscriptTail e (.Slice lo hi none p2) v (.ref s3.heap.objs.size)) (EP X pins σ Q) X.xe { s3 with heap:=s3.heap.push { cls:=.type "slice",data:=.fields #[vl,vu,.none] } }
 exact tail_any (ops:=[.ref s3.heap.objs.size,v]) ht hT hg (by with_unfolding_all rfl)
def qx (xs:List V) (lo hi:Option Int):List V:=(xs.drop (HT.yU xs.length 0 lo)).take (HT.yU xs.length xs.length hi - HT.yU xs.length 0 lo)
theorem Gv (xs:List V) (lo hi:Option Int):(qx xs lo hi).length<=xs.length:=by
 unfold qx;rw [length_take,List.length_drop];omega
def ao8 (K:Fg):R2:=fun x y H Q=>∃ a b xs ys,x=.ref a/\y=.ref b/\fj K H a xs/\fj K H b ys/\xs≠[]/\xs.length + ys.length<=sizeLine /\ (ys=[]->Q (.ref a) H)/\(ys≠[]->∀ p,H p=none->Q (.ref p) (upd H p (.tup (xs++ys))))
theorem Vals.Ed {xs:List V} {us:List aB} (r:Vals xs us):us=[] ↔ xs=[]:=by
 cases r with
 | nil=>simp
 | cons _ _=>simp
theorem YF:pB X (binaryOp .Add) (ao8 X.K):=by
 intro pins s σ H x y v u Q I rx ry h;obtain ⟨a,b,xs,ys,rfl,rfl,ha,hb,hx,hz,q1,q2⟩:=h;cases rx;cases ry;obtain ⟨its,r1,p1,_⟩:=I.tuple ha;obtain ⟨its2,r2,p2,_⟩:=I.tuple hb;refine HT.YC p1 p2 (fun z=>hx (r1.Ed.mp z)) (fun z=>⟨.ref a,H,I,rfl,q1 (r2.Ed.mp z)⟩) (fun z=>?_) (by rw [<- r1.length,<- r2.length]; exact hz);refine ⟨.ref s.heap.objs.size,_,I.laid (t':=s.toks) (o:=.tup (xs++ys)) (fun b ob q=>aq _ q) (aO _) ?_,rfl,q2 (fun w=>z (r2.Ed.mpr w)) _ (I.hok.fresh (aO _))⟩;exact ⟨by rw [aQ]; exact hz,_,r1.append r2,IsTup.new _ _⟩
end
def YG (n:Nat) (i:Int):Option Nat:=if 0<=i then (if i < n then some i.toNat else none) else if -(n:Int)<=i then some (i + n).toNat else none
def YH {α:Type} (xs:List α) (i:Int):Option α:=(YG xs.length i).bind fun j=>xs[j]?
theorem Mr {n:Nat} {i:Int} {j:Nat} (h:YG n i=some j):seqIndex? i n=some j/\j < n/\-(n:Int)<=i/\i < n:=by
 unfold YG at h
 by_cases h0:0<=i
 ·rw [if_pos h0] at h
  by_cases h1:i < n
  ·rw [if_pos h1] at h;have e:i.toNat=j:=bQ h;exact ⟨by rw [seqIndex_of h0 h1,e],by omega,by omega,h1⟩
  ·rw [if_neg h1] at h; cases h
 ·rw [if_neg h0] at h
  by_cases h1:-(n:Int)<=i
  ·rw [if_pos h1] at h;have e:(i + n).toNat=j:=bQ h;exact ⟨by rw [seqIndex_neg (by omega) h1,e],by omega,h1,by omega⟩
  ·rw [if_neg h1] at h; cases h
theorem Ms {α:Type} {xs:List α} {i:Int} {v:α} (h:YH xs i=some v):∃ j,seqIndex? i xs.length=some j/\xs[j]?=some v/\j < xs.length/\-(xs.length:Int)<=i/\i < xs.length:=by
 unfold YH at h;cases e:YG xs.length i with
 | none=>rw [e] at h; cases h
 | some j =>
  rw [e] at h;obtain ⟨h1,h2,h3,h4⟩:=Mr e;exact ⟨j,h1,h,h2,h3,h4⟩
theorem fD {α:Type} {xs:List α} {j:Nat} {v:α} (h:xs[j]?=some v):YH xs (j:Int)=some v:=by
 have hj:j < xs.length:=(aF.mp h).1;have e:YG xs.length (j:Int)=some j:=by
  unfold YG;rw [if_pos (by omega),if_pos (by omega)]; simp
 unfold YH; rw [e]; exact h
def YJ (b:Expr):Prop:=∀ o i,subscripted b false o i=operate [o,i] (getItem o i)
noncomputable def IxR (X:Cx) (r:R2):Prop := ∀ (value slice:Expr) (pins:List (aA × Obj)) (s:aX) (σ:St) (H:Hp) (x y:V) (v u:aB) (Q:VK),Inv X pins σ H s->RelV x v->RelV y u->r x y H Q -> subscripted slice false v u=operate [v,u] (getItem v u)->wpAny (model X.prog X.w) X.A (subscriptTail value slice v u) (EP X pins σ Q) X.xe s
def MtR (X:Cx) (id:String) (r:V->List V->Hp->VK->Prop):Prop := ∀ (pins:List (aA × Obj)) (s:aX) (σ:St) (H:Hp) (x:V) (xs:List V) (v:aB) (us:List aB) (Q:VK),Inv X pins σ H s->RelV x v->Vals xs us->r x xs H Q -> wpAny (model X.prog X.w) X.A (call (.builtin id) (v::us)) (EP X pins σ Q) X.xe s
section
variable {X:Cx} {a b:Expr} {ta tb:TE} {pos:Pos}
theorem dh {r:R2} (hr:IxR X r) (ha:PE X a ta) (hb:PE X b tb) (hs:YJ b):PE X (.Subscript a b pos) (tOp r ta tb):=by
 intro pins s σ H Q I h;exact Subscript_ (ahM ha hb I h fun v u s2 x y H2 I2 rx ry q=>hr a b pins s2 σ H2 x y v u Q I2 rx ry q (hs _ _))
def ao9 (K:Fg):R2:=fun x y H Q=>∃ p xs i v,x=.ref p/\y=.int i/\cU K H p xs/\YH xs i=some v/\Q v H
def apa (K:Fg):R2:=fun x y H Q=>∃ p xs i v,x=.ref p/\y=.int i/\fj K H p xs/\YH xs i=some v/\Q v H
theorem gO:IxR X (ao9 X.K):=by
 intro value slice pins s σ H x y v u Q I rx ry h hs;obtain ⟨p,xs,i,z,rfl,rfl,hq,he,q⟩:=h;cases rx;obtain ⟨t,rfl⟩:=ry;obtain ⟨its,r,pl,hz⟩:=I.list hq;obtain ⟨j,h1,h2,h3,h4,h5⟩:=Ms he;obtain ⟨w,ew,rw'⟩:=r.get h2;have hl:=r.length;have hn:=tH;have fin:EP X pins σ Q w s:=⟨z,H,I,rw',q⟩
 by_cases h0:0<=i
 ·have hj:i.toNat=j:=by
   rw [seqIndex_of h0 h5] at h1;exact bQ h1
  exact item_listR pl.isList h0 (by omega) (by rw [hj]; simpa using ew) fin hs
 ·have hj:(i + (its.toArray.size:Int)).toNat=j:=by
   rw [seqIndex_neg (by omega) h4] at h1;rw [size_toArray,<- hl];exact bQ h1
  exact subscriptTail_builtinR (x:=w) pl.isList.typeIs slot_list_getitem.lookup (wpAny_getItem_list_neg (Q:=fun r s'=>r=w/\EP X pins σ Q r s') pl.isList (by omega) (by rw [size_toArray] <;> omega) (by omega) (by rw [hj]; simpa using ew) ⟨rfl,fin⟩) hs
theorem dM:IxR X (apa X.K):=by
 intro value slice pins s σ H x y v u Q I rx ry h hs;obtain ⟨p,xs,i,z,rfl,rfl,hq,he,q⟩:=h;cases rx;obtain ⟨t,rfl⟩:=ry;obtain ⟨its,r,pl,hz⟩:=I.tuple hq;obtain ⟨j,h1,h2,h3,h4,h5⟩:=Ms he;obtain ⟨w,ew,rw'⟩:=r.get h2;have hl:=r.length;have hn:=tH;have fin:EP X pins σ Q w s:=⟨z,H,I,rw',q⟩;exact subscriptTail_builtinR (x:=w) pl.typeIs slot_tuple_getitem.lookup (getItem_tuple (j:=j) (Q:=fun r s'=>r=w/\EP X pins σ Q r s') pl (by omega) (by omega) (by rw [size_toArray,<- hl]; exact h1) (by simpa using ew) ⟨rfl,fin⟩) hs
theorem JV (its:List aB) (n j:Nat) (u:aB):Obj.mapSeq (·.setIfInBounds j u) { cls:=.type "list",data:=.seq its.toArray n }={ cls:=.type "list",data:=.seq (its.set j u).toArray n }:=by
 simp [Obj.mapSeq]
theorem Inv.lst {pins:List (aA × Obj)} {σ:St} {H:Hp} {s:aX} {p:aA} {xs:List V} (I:Inv X pins σ H s) (h:H p=some (.lst xs)) : ∃ (its:List aB) (n:Nat),Vals xs its/\s.heap.get? p=some { cls:=.type "list",data:=.seq its.toArray n }/\xs.length<=sizeLine:=by
 obtain ⟨z,its,n,r,e⟩:=I.hok p _ h;exact ⟨its,n,r,e,z⟩
theorem Inv.ahT {pins:List (aA × Obj)} {σ:St} {H:Hp} {s:aX} {p:aA} {xs ys:List V} {its its':List aB} {n n':Nat} {f:Obj->Obj} (I:Inv X pins σ H s) (h:H p=some (.lst xs)) (ho:s.heap.get? p=some { cls:=.type "list",data:=.seq its.toArray n }) (hf:f { cls:=.type "list",data:=.seq its.toArray n }={ cls:=.type "list",data:=.seq its'.toArray n' }) (r:Vals ys its') (hz:ys.length<=sizeLine) (t:Nat) : Inv X pins σ (upd H p (.lst ys)) { s with heap:=s.heap.update p f,toks:=t }:=by
 have e:(s.heap.update p f).get? p=some { cls:=.type "list",data:=.seq its'.toArray n' }:=by
  rw [Heap.get?_update_self f ho (by rw [hf] <;> rfl),hf]
 refine I.write (x:=p) (e:=p) (by rw [h]; trivial) (.inl rfl) (fun b u hb q=>(Heap.get?_update_other _ _ (Ne.symm hb)).trans q) ⟨_,e⟩ ?_;exact ⟨hz,its',n',r,e⟩
def apc:V->V->V->Hp->(Hp->Prop)->Prop:=fun o i v H Q=>∃ p xs k j,o=.ref p/\i=.int k/\H p=some (.lst xs)/\YG xs.length k=some j/\Q (upd H p (.lst (xs.set j v)))
theorem set_list:Yr X apc:=by
 intro pins s σ H o i v ov iv u Q I ro ri rv h;obtain ⟨p,xs,k,j,rfl,rfl,hp,hj,q⟩:=h;cases ro;obtain ⟨t,rfl⟩:=ri;obtain ⟨its,n,r,ho,hz⟩:=I.lst hp;obtain ⟨h1,h2,h3,h4⟩:=Mr hj;have hl:=r.length;have hn:=tH;have I':Inv X pins σ (upd H p (.lst (xs.set j v))) { s with heap:=s.heap.update p (Obj.mapSeq (·.setIfInBounds j u)) } :=
  I.ahT hp ho (JV its n j u) (r.set rv j) (by rw [length_set]; exact hz) s.toks
 by_cases h0:0<=k
 ·have hk:k.toNat=j:=by
   rw [seqIndex_of h0 h4] at h1;exact bQ h1
  exact PySem.W.ki_setAt ho h0 (by omega) (by rw [size_toArray,<- hl]; exact h4) (by rw [hk]; exact ⟨_,I',q⟩)
 ·have hk:(k + (its.toArray.size:Int)).toNat=j:=by
   rw [seqIndex_neg (by omega) h3] at h1;rw [size_toArray,<- hl];exact bQ h1
  exact PySem.W.ki_setBack ho (by omega) (by rw [size_toArray,<- hl]; exact h3) (by omega) (by rw [hk]; exact ⟨_,I',q⟩)
theorem Ef (lo hi:Option Int) (n:Nat):(sliceBounds lo hi none n).1=((HT.yU n 0 lo:Nat):Int)/\(sliceBounds lo hi none n).2.1=((HT.yU n n hi:Nat):Int)/\(sliceBounds lo hi none n).2.2=1:=by
 refine ⟨?_,?_,rfl⟩
 ·cases lo with
  | none=>simp [sliceBounds,HT.yU]
  | some i =>
   simp only [sliceBounds,HT.yU,Option.getD_none,show (1:Int) > 0 by decide,if_true]
   by_cases h:i < 0
   ·simp only [h,if_true] <;> omega
   ·simp only [h,if_false] <;> omega
 ·cases hi with
  | none=>simp [sliceBounds,HT.yU]
  | some i =>
   simp only [sliceBounds,HT.yU,Option.getD_none,show (1:Int) > 0 by decide,if_true]
   by_cases h:i < 0
   ·simp only [h,if_true] <;> omega
   ·simp only [h,if_false] <;> omega
theorem Bu (its:List aB) (lo hi:Option Int):slicePick its.toArray lo hi none=((its.drop (HT.yU its.length 0 lo)).take (HT.yU its.length its.length hi - HT.yU its.length 0 lo)).toArray:=by
 obtain ⟨h1,h2,h3⟩:=Ef lo hi its.toArray.size;unfold slicePick;rw [h1,h2,h3];simp only [sliceRange_one,pick_run,size_toArray] <;> rfl
def azA (K:Fg):V->Option Int->Option Int->Hp->VK->Prop:=fun x lo hi H Q=>∃ a xs,x=.ref a/\cU K H a xs/\∀ p,H p=none->Q (.ref p) (upd H p (.lst (qx xs lo hi)))
theorem vg:SlR X (azA X.K):=by
 intro pins s σ H x v vl vu lo hi sl Q I rx hs pl pu h;obtain ⟨a,xs,rfl,hx,q⟩:=h;cases rx;obtain ⟨its,r,ht,hz⟩:=I.list hx;have hlen:=r.length;refine ⟨"list",_,slot_list_getitem.lookup,ht.isList.typeIs,?_⟩;refine wpAny_getItem_list_slice ht.isList hs pl pu .none (by simp) ?_ (by rw [size_toArray] <;> omega);rw [Bu,<- hlen];refine ⟨.ref s.heap.objs.size,_,I.laid (t':=s.toks) (o:=.lst (qx xs lo hi)) (fun b ob q=>aq _ q) (aO _) ?_,rfl,q _ (I.hok.fresh (aO _))⟩;exact ⟨bJ (Gv xs lo hi) hz,_,0,(r.drop (HT.yU xs.length 0 lo)).take (HT.yU xs.length xs.length hi - HT.yU xs.length 0 lo),aN _ rfl⟩
def mq:V->Bool
 | .non=>true
 | .bl _=>true
 | .int _=>true
 | .str _=>true
 | _=>false
def Gk:V->V->Bool
 | .non,.non=>true
 | .bl a,.bl b=>a == b
 | .bl a,.int b=>(if a then 1 else 0) == b
 | .int a,.bl b=>a == (if b then 1 else 0)
 | .int a,.int b=>a == b
 | .str a,.str b=>a == b
 | _,_=>false
theorem RP {A:d7} {s:aX} {y x:V} {u v:aB} (ry:RelV y u) (rx:RelV x v) (fy:mq y=true) (fx:mq x=true):SeqAt.EqAt A s u v (Gk y x):=by
 cases y with
 | non =>
  cases ry;cases x with
  | non=>cases rx; exact SeqAt.EqAt.same _
  | bl b=>cases rx; exact SeqAt.EqAt.none_bool b
  | int b=>obtain ⟨t,rfl⟩:=rx; exact SeqAt.EqAt.none_int b t
  | str b=>obtain ⟨t,rfl⟩:=rx; exact SeqAt.EqAt.none_str b t
  | _=>exact absurd (show false=true from fx) Bool.false_ne_true
 | bl a =>
  cases ry;cases x with
  | non=>cases rx; exact SeqAt.EqAt.bool_none a
  | bl b=>cases rx; exact SeqAt.EqAt.bool_bool a b
  | int b=>obtain ⟨t,rfl⟩:=rx; exact SeqAt.EqAt.bool_int a b t
  | str b=>obtain ⟨t,rfl⟩:=rx; exact SeqAt.EqAt.bool_str a b t
  | _=>exact absurd (show false=true from fx) Bool.false_ne_true
 | int a =>
  obtain ⟨t',rfl⟩:=ry;cases x with
  | non=>cases rx; exact SeqAt.EqAt.int_none a t'
  | bl b=>cases rx; exact SeqAt.EqAt.int_bool a t' b
  | int b=>obtain ⟨t,rfl⟩:=rx; exact SeqAt.EqAt.int_int a t' b t
  | str b=>obtain ⟨t,rfl⟩:=rx; exact SeqAt.EqAt.int_str a t' b t
  | _=>exact absurd (show false=true from fx) Bool.false_ne_true
 | str a =>
  obtain ⟨t',rfl⟩:=ry;cases x with
  | non=>cases rx; exact SeqAt.EqAt.str_none a t'
  | bl b=>cases rx; exact SeqAt.EqAt.str_bool a t' b
  | int b=>obtain ⟨t,rfl⟩:=rx; exact SeqAt.EqAt.str_int a t' b t
  | str b=>obtain ⟨t,rfl⟩:=rx; exact SeqAt.EqAt.str_str a t' b t
  | _=>exact absurd (show false=true from fx) Bool.false_ne_true
 | _=>exact absurd (show false=true from fy) Bool.false_ne_true
def YK (x:V) (u:aB):Bool:=match u with
 | .none=>Gk .non x
 | .bool b=>Gk (.bl b) x
 | .int i _=>Gk (.int i) x
 | .str z _=>Gk (.str z) x
 | _=>false
theorem RQ {x y:V} {u:aB} (r:RelV y u) (f:mq y=true):YK x u=Gk y x:=by
 cases y with
 | non=>cases r; rfl
 | bl b=>cases r; rfl
 | int i=>obtain ⟨t,rfl⟩:=r; rfl
 | str z=>obtain ⟨t,rfl⟩:=r; rfl
 | _=>exact absurd (show false=true from f) Bool.false_ne_true
theorem Eh {x:V}:∀ {xs:List V} {us:List aB},Vals xs us->xs.all mq=true->us.any (YK x)=xs.any fun y=>Gk y x
 | _,_,.nil,_=>rfl
 | y::xs,u::us,.cons r t,f=>by
  rw [all_cons,Bool.and_eq_true] at f;rw [any_cons,any_cons,RQ r f.1,Eh t f.2]
theorem zG {A:d7} {s:aX} {x:V} {v:aB} (rx:RelV x v) (fx:mq x=true):∀ {xs:List V} {us:List aB},Vals xs us->xs.all mq=true->∀ u ∈ us,SeqAt.EqAt A s u v (YK x u)
 | _,_,.nil,_=>fun u hu=>by cases hu
 | y::xs,u::us,.cons r t,f=>fun u' hu=>by
  rw [all_cons,Bool.and_eq_true] at f;rcases aR.mp hu with rfl | hu
  ·rw [RQ r f.1]; exact RP r rx f.1 fx
  ·exact zG rx fx t f.2 u' hu
def inV (x:V) (xs:List V):Bool:=xs.any fun y=>Gk y x
def rIn (K:Fg) (neg:Bool):R2:=fun x y H Q=>∃ p xs,y=.ref p/\(cU K H p xs\/fj K H p xs)/\mq x=true/\xs.all mq=true/\Q (.bl (if neg then !inV x xs else inV x xs)) H
theorem O3:pB X (compareOp .In) (rIn X.K false):=by
 intro pins s σ H x y v u Q I rx ry h;obtain ⟨p,xs,rfl,hq,fx,fs,q⟩:=h;cases ry;rcases hq with hq | hq
 ·obtain ⟨its,r,pl,hz⟩:=I.list hq;refine SeqAt.in_listAt (YK x) pl.isList (fun w hw=>zG rx fx r fs w (by simpa using hw)) ⟨.bl _,H,I,rfl,?_⟩;rw [show its.toArray.any (YK x)=its.any (YK x) by simp,Eh r fs];exact q
 ·obtain ⟨its,r,pl,hz⟩:=I.tuple hq;refine SeqAt.in_tupleAt (YK x) pl (fun w hw=>zG rx fx r fs w (by simpa using hw)) ⟨.bl _,H,I,rfl,?_⟩;rw [show its.toArray.any (YK x)=its.any (YK x) by simp,Eh r fs];exact q
theorem dJ:jH X (.builtin "len") (fun xs H Q=>∃ p ys,xs=[.ref p]/\(cU X.K H p ys\/fj X.K H p ys)/\Q (.int ys.length) H):=by
 intro pins s σ H xs us Q I r h;obtain ⟨p,ys,rfl,hq,q⟩:=h;obtain ⟨u,rfl,rx⟩:=vals1 r;cases rx;have hn:=tH;rcases hq with hq | hq
 ·obtain ⟨its,r',pl,hz⟩:=I.list hq;have hlen:=r'.length;exact Calls.call_len_list pl.isList (by simp only [size_toArray] <;> omega) ⟨.int ys.length,H,I.tok _,⟨s.toks + 1,by rw [size_toArray,hlen]⟩,q⟩
 ·obtain ⟨its,r',pl,hz⟩:=I.tuple hq;have hlen:=r'.length;exact len_tuple pl (by simp only [size_toArray] <;> omega) ⟨.int ys.length,H,I.tok _,⟨s.toks + 1,by rw [size_toArray,hlen]⟩,q⟩
theorem Ei:jH X (.builtin "len") (fun xs H Q=>∃ z,xs=[.str z]/\z.length<=sizeLine/\Q (.int z.length) H):=by
 intro pins s σ H xs us Q I r h;obtain ⟨z,rfl,hz,q⟩:=h;obtain ⟨u,rfl,t,rfl⟩:=vals1 r;have hn:=tH;exact len_str (by omega) ⟨.int z.length,H,I.tok _,⟨_,rfl⟩,q⟩
theorem sO:jH X (.type "tuple") (fun xs H Q=>∃ p ys,xs=[.ref p]/\((cU X.K H p ys/\∀ l,H l=none->Q (.ref l) (upd H l (.tup ys)))\/(fj X.K H p ys/\Q (.ref p) H))):=by
 intro pins s σ H xs us Q I r h;obtain ⟨p,ys,rfl,h⟩:=h;obtain ⟨u,rfl,rx⟩:=vals1 r;cases rx;rcases h with ⟨hq,q⟩ | ⟨hq,q⟩
 ·obtain ⟨its,r',pl,hz⟩:=I.list hq;have hlen:=r'.length;refine call_tuple_list pl.isList (fun h' kp=>?_) (by simp only [size_toArray] <;> omega);have I1:Inv X pins σ H { s with heap:=h' }:=I.kept (t':=s.toks) kp;have I2:Inv X pins σ (upd H h'.objs.size (.tup ys)) { s with heap:=h'.push { cls:=.type "tuple",data:=.seq its.toArray } } :=
   I1.laid (t':=s.toks) (fun b o e=>aq _ e) (aO _) (show gD X.prog X.w _ _ _ (.tup ys) from ⟨hz,its,r',IsTup.new _ _⟩)
  exact ⟨.ref h'.objs.size,_,I2,rfl,q _ (I1.hok.fresh (aO _))⟩
 ·obtain ⟨its,r',pl,hz⟩:=I.tuple hq;exact call_tuple_same pl ⟨.ref p,H,I,rfl,q⟩
noncomputable def tyV (K:Fg) (T:String) (x:V) (H:Hp):Prop:=match x with
 | .str _=>T="str"
 | .int _=>T="int"
 | .ref p=>(T="list"/\∃ xs,cU K H p xs)\/(T="tuple"/\∃ o,K.lookup p=some o/\o.cls=.type "tuple"/\o.dict=none) \/ (T="dict"/\((∃ kvs,H p=some (.dK kvs))\/∃ kvs,H p=some (.dT kvs)))\/(T="set"/\∃ S n,H p=some (.set S n))
 | _=>False
theorem ahU {pins:List (aA × Obj)} {σ:St} {H:Hp} {s:aX} {T:String} {x:V} {v:aB} (I:Inv X pins σ H s) (r:RelV x v) (ty:tyV X.K T x H) : s.TypeIs v T/\∀ a,v=.ref a->∃ ob,s.heap.get? a=some ob/\ob.dict=none:=by
 cases x with
 | str z =>
  obtain ⟨t,rfl⟩:=r;cases (show T="str" from ty);exact ⟨typeIs_str s z t,fun _ e=>nomatch e⟩
 | int i =>
  obtain ⟨t,rfl⟩:=r;cases (show T="int" from ty);exact ⟨typeIs_int s i t,fun _ e=>nomatch e⟩
 | ref p =>
  cases r;rcases ty with ⟨rfl,xs,hq⟩ | ⟨rfl,o,hk,hc,hd⟩ | ⟨rfl,hk⟩ | ⟨rfl,S,n,hk⟩
  ·obtain ⟨its,_,pl,_⟩:=I.list hq;refine ⟨pl.isList.typeIs,fun a e=>?_⟩;cases e;obtain ⟨o,n,e,c,hd,_⟩:=pl;exact ⟨o,e,hd⟩
  ·refine ⟨⟨o,I.sG p o hk,hc⟩,fun a e=>?_⟩;cases e;exact ⟨o,I.sG _ o hk,hd⟩
  ·have z:∃ o,s.heap.get? p=some o/\o.ExactDict:=by
    rcases hk with ⟨kvs,hk⟩ | ⟨kvs,hk⟩
    ·obtain ⟨_,_,_,_,o,_,_,e,ex,_⟩:=I.hok p _ hk;exact ⟨o,e,ex⟩
    ·obtain ⟨_,_,_,_,o,_,_,e,ex,_⟩:=I.hok p _ hk;exact ⟨o,e,ex⟩
   obtain ⟨o,e,ex⟩:=z;refine ⟨⟨o,e,ex.1⟩,fun a e2=>?_⟩;cases e2;exact ⟨o,e,ex.2.1⟩
  ·obtain ⟨o,_,_,_,e,ex,_⟩:=I.hok p _ hk;refine ⟨⟨o,e,ex.1⟩,fun a e2=>?_⟩;cases e2;exact ⟨o,e,ex.2.1⟩
 | _=>exact False.elim ty
def tBM (K:Fg) (T:String) (r:V->List V->Hp->VK->Prop) (to:TE) (t:TA):TE:=fun σ H Q=>to σ H fun x H1=>tyV K T x H1/\t σ H1 fun xs H2=>r x xs H2 Q
variable {o e:Expr} {es:List Expr} {to:TE} {t:TA} {name:Str} {apos cpos:Pos} {T id:String} {r:V->List V->Hp->VK->Prop}
theorem lH (pa:PlainAttrs T) (slot:Slot T name id) (hty:typeOf (.builtin id)=pure (.type "method_descriptor")) (hm:MtR X id r) (ho:PE X o to) (ha:PA X (e::es) t) (hbase:autoParam (attributeBase o name X.env (eval o X.env)=eval o X.env) zau0) (hfew:autoParam (((backTo cpos (starEach (e::es) X.env)).all (fun x=>!x.1) && (backToKw cpos (keywordEach [] X.env)).all (fun x=>x.1.isSome) && decide ((e::es).length + ([]:List Keyword).length + (if ([]:List Keyword).isEmpty then 0 else 1) < 30))=true) zau0) (hline:autoParam ((apos.endLine == cpos.line)=true) zau0) (hs:autoParam (starEach (e::es) X.env=(false,eval e X.env)::starEach es X.env) zau0) (hplain:autoParam ((backTo cpos (starEach es X.env)).any (·.1)=false) zau0) : PE X (.Call (.Attribute o name apos) (e::es) [] cpos) (tBM X.K T r to t):=by
 intro pins s σ H Q I h;refine wpAny_Call_method_late hbase hfew hline rfl (fV (ho pins s σ H _ I h) fun v s1 ⟨x,H1,I1,r1,ty,q1⟩=>?_);obtain ⟨h1,h2⟩:=ahU I1 r1 ty;refine ⟨T,id,pa,slot,hty,h1,h2,?_⟩;have hA:=ha cpos pins s1 σ H1 _ I1 q1;rw [hs] at hA ⊢;refine Calls.callWith_builtin (by show (false || (backTo cpos (starEach es X.env)).any (·.1))=false; rw [hplain] <;> rfl) (Calls.evalArgs_plain ?_);exact fV hA fun us s2 ⟨vs,H2,I2,r2,q2⟩=>hm pins s2 σ H2 x vs v us Q I2 r1 r2 q2
end
def MtM (X:Cx) (id:String) (r:V->List V->Hp->VK->Prop):Prop := ∀ (pins:List (aA × Obj)) (s:aX) (σ:St) (H:Hp) (x:V) (xs:List V) (v:aB) (us:List aB) (Q:VK),Inv X pins σ H s->RelV x v->Vals xs us->r x xs H Q -> wpAny (model X.prog X.w) X.A (call (.builtin id) (v::us)) (EP X pins σ Q) X.xe s
theorem Vals.one {x:V} {us:List aB} (h:Vals [x] us):∃ u,us=[u]/\RelV x u:=by cases h with
  | cons r t=>cases t;exact ⟨_,rfl,r⟩
theorem Vals.two {x y:V} {us:List aB} (h:Vals [x,y] us):∃ u v,us=[u,v]/\RelV x u/\RelV y v:=by cases h with
  | cons r t=>cases t with
    | cons q n=>cases n;exact ⟨_,_,rfl,r,q⟩
theorem Vals.rep {xs:List V} {us:List aB} (h:Vals xs us):∀ k:Nat,Vals (List.replicate k xs).flatten (List.replicate k us).flatten
 | 0=>.nil
 | k + 1=>by
  rw [replicate_succ,replicate_succ,flatten_cons,flatten_cons];exact Vals.append h (Vals.rep h k)
theorem foldl_rep (its:List aB):∀ (k:Nat) (acc:List aB),List.foldl (fun x1 x2=>x1++x2) acc.toArray (List.replicate k its.toArray)=(acc++(List.replicate k its).flatten).toArray
 | 0,acc=>by simp
 | k + 1,acc=>by
  have e:acc.toArray++its.toArray=(acc++its).toArray:=by simp
  have e2:(acc++its)++(List.replicate k its).flatten=acc++(List.replicate (k + 1) its).flatten:=by
   rw [replicate_succ,flatten_cons,append_assoc]
  rw [<- e2,<- foldl_rep its k (acc++its),<- e,replicate_succ,foldl_cons]
section
variable {X:Cx} {pins:List (aA × Obj)} {σ:St} {H:Hp} {s:aX} {l b:aA} {xs ys zs:List V}
theorem Inv.apd {its its':List aB} {n:Nat} {f:Array aB->Array aB} {t':Nat} (I:Inv X pins σ H s) (hH:H l=some (.lst xs)) (e:s.heap.get? l=some { cls:=.type "list",data:=.seq its.toArray n }) (hf:f its.toArray=its'.toArray) (hv:Vals ys its') (hz:ys.length<=sizeLine) : Inv X pins σ (upd H l (.lst ys)) { s with heap:=s.heap.update l (Obj.mapSeq f),toks:=t' }:=by
 have q:=PySem.IsL.update e f;rw [hf] at q;refine I.write (x:=l) (e:=l) (by rw [hH]; exact trivial) (.inl rfl) (fun b' u hb hu=>(Heap.get?_update_other s.heap (Obj.mapSeq f) (Ne.symm hb)).trans hu) ⟨_,q⟩ ?_;exact ⟨hz,its',_,hv,q⟩
theorem Inv.ape {its:List aB} {t':Nat} (I:Inv X pins σ H s) (hv:Vals ys its) (hz:ys.length<=sizeLine) : Inv X pins σ (upd H s.heap.objs.size (.lst ys)) { s with heap:=s.heap.push { cls:=.type "list",data:=.seq its.toArray },toks:=t' } := I.laid (fun _ _ q=>aq _ q) (aO _) ⟨hz,its,0,hv,aN _ rfl⟩
theorem Inv.fresh (I:Inv X pins σ H s):H s.heap.objs.size=none:=I.hok.fresh (aO _)
theorem Inv.JW (I:Inv X pins σ H s) (hH:H l=some (.lst xs)):xs.length<=sizeLine/\∃ (its:List aB) (n:Nat),Vals xs its/\xs.length=its.length/\s.heap.get? l=some { cls:=.type "list",data:=.seq its.toArray n }:=by
 obtain ⟨z,its,n,r,e⟩:=I.hok l _ hH;exact ⟨z,its,n,r,r.length,e⟩
theorem Gw {n:Nat} (h:n<=sizeLine):Builtin.List.listTooLong n=false:=by
 unfold Builtin.List.listTooLong;exact aL (by omega)
end
section
variable {X:Cx}
def YL:V->List V->Hp->VK->Prop:=fun x vs H Q=>∃ l xs y,x=.ref l/\vs=[y]/\H l=some (.lst xs)/\xs.length < sizeLine/\Q .non (upd H l (.lst (xs++[y])))
theorem fX:MtM X "list.append" YL:=by
 intro pins s σ H x vs v us Q I rx rv h;obtain ⟨l,xs,y,rfl,rfl,hH,hz,q⟩:=h;cases rx;obtain ⟨u,rfl,ru⟩:=rv.one;obtain ⟨z,its,n,r,hl,e⟩:=I.JW hH;refine call_meets F.slot_list_append ⟨_,e,rfl⟩ F.entry_list_append (F.args_list_append_2 _ _) (PySem.list_append l its.toArray n u (by rw [size_toArray]; omega)) ⟨e,?_⟩;refine ⟨.non,_,I.apd (its':=its++[u]) hH e (by simp) (r.append (.cons ru .nil)) ?_,rfl,q⟩;rw [aQ,List.length_singleton];omega
def YM:V->List V->Hp->VK->Prop:=fun x vs H Q=>∃ l b xs zs,x=.ref l/\vs=[.ref b]/\H l=some (.lst xs)/\H b=some (.lst zs)/\xs.length + zs.length<=sizeLine/\Q .non (upd H l (.lst (xs++zs)))
theorem Ck:MtM X "list.extend" YM:=by
 intro pins s σ H x vs v us Q I rx rv h;obtain ⟨l,b,xs,zs,rfl,rfl,hH,hB,hz,q⟩:=h;cases rx;obtain ⟨u,rfl,ru⟩:=rv.one;cases ru;obtain ⟨z,its,n,r,hl,e⟩:=I.JW hH;obtain ⟨z2,its2,n2,r2,hl2,e2⟩:=I.JW hB;have hsz:its.toArray.size + its2.toArray.size<=sizeLine:=by rw [size_toArray,size_toArray]; omega
 have RT:¬ (!its.toArray.isEmpty && Builtin.List.listTooLong (its.toArray.size + its2.toArray.size))=true:=by
  rw [Gw hsz,Bool.and_false];exact Bool.false_ne_true
 refine call_meets F.slot_list_extend ⟨_,e,rfl⟩ F.entry_list_extend (F.args_list_extend_2 _ _) (AutoSeq1.list_extend_list_list_0 l its.toArray n b its2.toArray n2 RT (by rw [size_toArray]; omega) (by omega)) ⟨e,e2,?_⟩;refine ⟨.non,_,I.apd (its':=its++its2) hH e (by simp) (r.append r2) ?_,rfl,q⟩;rw [aQ];omega
def apf:R2:=fun x y H Q=>∃ l b xs zs,x=.ref l/\y=.ref b/\H l=some (.lst xs)/\H b=some (.lst zs)/\xs.length + zs.length<=sizeLine/\∀ p,H p=none->Q (.ref p) (upd H p (.lst (xs++zs)))
theorem wL:pB X (binaryOp .Add) apf:=by
 intro pins s σ H x y v u Q I rx ry h;obtain ⟨l,b,xs,zs,rfl,rfl,hH,hB,hz,q⟩:=h;cases rx;cases ry;obtain ⟨z,its,n,r,hl,e⟩:=I.JW hH;obtain ⟨z2,its2,n2,r2,hl2,e2⟩:=I.JW hB;refine PySem.P.add_list e e2 ?_ (by rw [size_toArray,size_toArray]; omega);have ea:its.toArray++its2.toArray=(its++its2).toArray:=by simp
 rw [ea];exact ⟨.ref _,_,I.ape (t':=s.toks) (r.append r2) (by rw [aQ]; omega),rfl,q _ I.fresh⟩
def apg:R2:=fun x y H Q=>∃ l k xs,x=.ref l/\y=.int k/\H l=some (.lst xs)/\-(2 ^ 63)<=k/\k < 2 ^ 63/\xs.length * k.toNat<=sizeLine /\ ∀ p,H p=none->Q (.ref p) (upd H p (.lst (List.replicate k.toNat xs).flatten))
theorem len_rep {α:Type} (xs:List α) (k:Nat):(List.replicate k xs).flatten.length=k * xs.length:=by
 induction k with
 | zero=>simp
 | succ k ih=>rw [replicate_succ,flatten_cons,aQ,ih,Nat.succ_mul,Nat.add_comm]
theorem ahV:pB X (binaryOp .Mult) apg:=by
 intro pins s σ H x y v u Q I rx ry h;obtain ⟨l,k,xs,rfl,rfl,hH,h1,h2,hz,q⟩:=h;cases rx;obtain ⟨t,rfl⟩:=ry;obtain ⟨z,its,n,r,hl,e⟩:=I.JW hH;have hlen:its.toArray.size * k.toNat<=sizeLine:=by rw [size_toArray,<- hl]; exact hz
 have hcap:¬ its.toArray.size * k.toNat > (2 ^ 63 - 1) / 8:=by
  have:(sizeLine:Nat)<=(2 ^ 63 - 1) / 8:=by decide
  omega
 have hfit:¬ (!Builtin.List.listFitsIndex k)=true:=by
  rw [fitsIndex_both h1 h2];exact Bool.false_ne_true
 have RT:¬ Builtin.List.listTooLong (its.toArray.size * k.toNat)=true:=by
  rw [Gw hlen];exact Bool.false_ne_true
 have hnew:List.foldl (fun x1 x2=>x1++x2) #[] (List.replicate (if its.toArray.isEmpty=true then 0 else k.toNat) its.toArray)=(List.replicate k.toNat its).flatten.toArray:=by
  have f0:∀ m:Nat,List.foldl (fun x1 x2=>x1++x2) #[] (List.replicate m its.toArray)=(List.replicate m its).flatten.toArray:=fun m=>by
   have:=foldl_rep its m [];rw [nil_append] at this;exact this
  rw [f0];cases its with
  | nil=>simp
  | cons a r'=>rw [if_neg (by simp)]
 refine wpAny_binaryOp_repeat_ref (T:="list") (U:="int") (by decide) ⟨_,e,rfl⟩ (fun s'=>typeIs_int s' k t) noFill_list_mul F.fills_int_mul F.slot_int_rmul repeat_list F.slot_int_index.lookup (call_meets F.slot_int_rmul (typeIs_int s k t) F.entry_int_rmul (F.args_int_rmul_2 _ _) (int___rmul___int_list k t l its.toArray n) ⟨e,rfl,⟨_,e,rfl⟩,call_meets F.slot_list_mul ⟨_,e,rfl⟩ F.entry_list_mul (F.args_list_mul_2 _ _) (AutoListH.list___mul___list_int_3 l its.toArray n k t hfit hcap RT) ⟨e,?_⟩⟩);rw [hnew];exact ⟨.ref _,_,I.ape (t':=s.toks) (r.rep k.toNat) (by rw [len_rep,Nat.mul_comm]; exact hz),rfl,q _ I.fresh⟩
end
section
variable {prog:cC} {w:World} {A:d7} {E:aB->aX->Prop} {s:aX}
set_option maxRecDepth 100000 in
end
section
variable {X:Cx}
end
end L2
namespace Att
open PySem PySem.W PySem.Calls PyProof.Rows
theorem yK {P:Params} {h:Heap}:∀ (ns:List Int) (vs:List aB),WellAll P h vs (ns.map WData.int)->IntsAre vs ns:=by
 intro ns
 induction ns with
 | nil =>
  intro vs w;rw [List.map_nil] at w;cases w;exact .nil
 | cons n ns ih =>
  intro vs w;rw [cY] at w;cases w with
  | cons a b =>
   cases a;exact .cons _ _ (ih _ b)
theorem O4 {l:OpenLaw} {n:Nat} (hn:l.most=some n) {P:Params} {h:Heap} {args:List WData} {vals:List aB} (hpre:l.row.toRowW.claim.pre args=true) (hwl:WellAll P h vals args) : ∃ a vs ns,vals=[Value.ref a]/\args=[WData.list (ns.map WData.int)]/\h.get? a=some { cls:=.type "list",data:=.seq vs.toArray }/\IntsAre vs ns/\ns.length<=n:=by
 have hsh:WShape.hasAll [] args [.list .int]=true:=(pre_splitW hpre).1;have hc:l.pre.holds [] { args:=args }=true:=(pre_splitW hpre).2;obtain ⟨d,r,rfl,h1,h2⟩:=hasAllW_cons hsh;obtain rfl:=hasAllW_nil h2;obtain ⟨xs,rfl,h3⟩:=hasW_list h1;obtain ⟨ns,rfl⟩:=items_int h3;have hlen:ns.length<=n:=by
  unfold OpenLaw.pre at hc;have h4:(WTm.not (.lt (.lit (.int (n:Int))) (.len (.arg 0)))).holds [] { args:=[.list (ns.map .int)] }=true:=by
   have h4:=(holds_andW hc).1;rw [hn] at h4;exact h4
  have h5:=condW_of h4 (w_not (w_lt w_lit (w_len_list (w_arg rfl))));rw [ak] at h5;refine Nat.le_of_not_lt fun q=>?_
  have q':(n:Int) < ((ns.length:Nat):Int):=by omega
  first
   | (rw [aM q'] at h5; exact absurd h5 (by decide))
   | (simp at h5; omega)
 cases hwl with
 | cons w1 w2 =>
  cases w2;cases w1 with
  | list ho hall=>exact ⟨_,_,ns,rfl,rfl,ho,yK ns _ hall,hlen⟩
theorem O5 (l:OpenLaw) (args:List WData):l.row.toRowW.claim.post args (.bool true) args=true := postW_of (r:=l.row.toRowW) (X:=(true == true)) (show WShape.has [] (.bool true) .bool=true by first | rfl | decide | simp [WShape.has,WShape.arms,WShape.armsAll]) (show (WTm.eq .res (.lit (.bool true))).value [] { args:=args,res:=some (.bool true),after:=args }=some (.bool (true == true)) from w_eq_bool (w_res rfl) w_lit) rfl
theorem Gx {l:OpenLaw} {n:Nat} {q:cC} {loose:List Str} {XP:(Str->Option aB)->Heap->Prop} {YP:World->Heap->Prop} {d:DefRec} (hn:l.most=some n) (hdf:d.params.defaults=[]) (call:∀ (w:World) (s₀ s₁:aX) (mg mb:Str->Option aB) (fa:aA) (o:Obj) (pm cd doc:aB) (a:aA) (vs:List aB) (ns:List Int),Ground q loose [] XP w s₀ mg mb s₁.heap->YP w s₁.heap -> s₁.heap.get? fa=some o->o.data=.func (docDef d.name d.params d.body d.scope pm cd doc)->s₁.heap.CodeRec cd d.name->mg d.name=some (.ref fa) -> s₁.heap.get? a=some { cls:=.type "list",data:=.seq vs.toArray }->IntsAre vs ns->ns.length<=n->s₁.gens=#[] -> codeAny (model l.prog w) callerA (.call (.ref fa) ⟨[.ref a],[]⟩) (fun r s'=>r=.ok (.ret (.bool true))/\OldK s₁.heap s'.heap/\s'.os=s₁.os/\AllBare s'.gens) s₁) : WalkO q loose XP YP l.row.toRowW d [] (fun f vs=>PySem.call f vs):=by
 intro w s₀ s₁ mg mb G Y fa o pm cd doc dV kV ho hd hcd hD hmg hg args vals as hpre hlay hrd hwl hlo;obtain rfl:dV=.none:=Dflts.none hD hdf;obtain rfl:kV=.none:=Dflts.noKw hD;obtain ⟨a,vs,ns,rfl,rfl,hobj,hints,hlen⟩:=O4 hn hpre hwl;refine enter_call (codeAny_mono (call w s₀ s₁ mg mb fa o pm cd doc a vs ns G Y ho (fd_plain hd) hcd hmg hobj hints hlen hg) fun r s' hq=>?_);obtain ⟨rfl,h2,h3,h4⟩:=hq;exact ⟨.inl ⟨.bool true,.bool true,[],rfl,fun _=>rfl,.bool true,O5 l _,fun _=>⟨Pairwise.nil,fun _ hm=>(nomatch hm)⟩⟩,h2,h3,h4⟩
section
variable {prog:cC} {w:World} {A:d7} {E:aB->aX->Prop} {s:aX} {K:Frag}
end
end Att
namespace L2
open PySem PySem.Spec PyProof.Rows
theorem Cm:∀ {vs:List aB} {ns:List Int},IntsAre vs ns->Vals (ns.map V.int) vs
 | _,_,.nil=>.nil
 | _,_,.cons n t h=>.cons ⟨t,rfl⟩ (Cm h)
structure n6 (K:Fg) (x qual:Str) (st:dW) (f:aA) (fd:fQ):Prop where
 ex:∃ (oc:aB) (od:Option aA) (kV doc pm:aB) (an:Option aA) (cdv ct:aB) (osl:Array (Option aB)),fd=fnOf x qual (nO st) (gq st) (aW st) .none kV doc pm an cdv ct/\K.lookup f=some ⟨oc,od,.func fd,osl⟩/\codeIn K cdv qual=true
 kp:keepIn K (.ref f)=true
section
variable {P:cC} {w:World} {K:Fg} {mg:Str->Option aB} {base:Heap}
theorem n6.binds {x qual:Str} {st:dW} {f:aA} {fd:fQ} {ps:List Str} (F:n6 K x qual st f fd) (h:∀ (kV doc pm:aB) (an:Option aA) (cdv ct:aB) (us:List aB),us.length=ps.length->bindArgs (fnOf x qual (nO st) (gq st) (aW st) .none kV doc pm an cdv ct) ⟨us,[]⟩=pure (ps.zip us)):Binds K fd ps []:=by
 obtain ⟨oc,od,kV,doc,pm,an,cdv,ct,osl,rfl,lk,hcd⟩:=F.ex;exact .all (h kV doc pm an cdv ct)
theorem dH {x qual:Str} {st:dW} {f:aA} {oc:aB} {od an:Option aA} {osl:Array (Option aB)} {kV doc pm cdv ct:aB} (l:K.lookup f=some ⟨oc,od,.func (fnOf x qual (nO st) (gq st) (aW st) .none kV doc pm an cdv ct),osl⟩) (c:codeIn K cdv qual=true) (k:keepIn K (.ref f)=true):n6 K x qual st f (fnOf x qual (nO st) (gq st) (aW st) .none kV doc pm an cdv ct):=⟨⟨oc,od,kV,doc,pm,an,cdv,ct,osl,rfl,l,c⟩,k⟩
end
section
variable {X:Cx}
theorem pv (i:Nat) {x:Str} {pos:Pos} (hN:autoParam (X.N[i]?=some x) zau0) (hv:Vis X.env.scope x:=by first | exact Or.inl rfl | exact Or.inr (Or.inl rfl) | exact Or.inr (Or.inr rfl)) (hd:autoParam ((x == ("__debug__":Str))=false) zau1) (hcd:autoParam ((x == ("__classdict__":Str))=false) zau1):PE X (.Name x pos) (Yp i):=ahA hN hv hd hcd
end
theorem d9 {A B:Prop} (h:B):if false=true then A else B:=by
 rw [if_neg Bool.false_ne_true];exact h
theorem eE {A B:Prop} (h:A):if true=true then A else B:=by
 rw [if_pos rfl];exact h
theorem Ej {c A B:Prop} [Decidable c] (h1:c->A) (h2:¬ c->B):if c then A else B:=by
 by_cases h:c
 ·rw [if_pos h];exact h1 h
 ·rw [if_neg h];exact h2 h
def Same (H H':Hp):Prop:=∀ b o,H b=some o->H' b=some o
theorem Same.refl (H:Hp):Same H H:=fun _ _ h=>h
theorem Same.trans {H H1 H2:Hp} (a:Same H H1) (b:Same H1 H2):Same H H2:=fun c o h=>b c o (a c o h)
theorem Same.free {H H':Hp} (e:Same H H') {l:aA} (h:H' l=Option.none):H l=Option.none:=by
 cases q:H l with
 | none=>rfl
 | some o =>
  rw [e l o q] at h;cases h
theorem Same.seq {K:Fg} {H H':Hp} {a:aA} {xs:List V} (e:Same H H') (h:cU K H a xs):cU K H' a xs:=by
 rcases h with (h | ⟨o,h⟩) | h
 ·exact .inl (.inl (e _ _ h))
 ·exact .inl (.inr ⟨o,e _ _ h⟩)
 ·exact .inr h
theorem zH (o:Obj) (f:Array aB->Array aB):(o.mapFields f).dict=o.dict:=by
 obtain ⟨c,d,dt,sl⟩:=o;cases dt <;> rfl
def Exc (h:Heap) (e:aA) (cls:aB) (dx:Option aA) (T:Option aA):Prop := ∃ oe vs,h.get? e=some oe/\oe.cls=cls/\oe.dict=dx/\oe.data=.fields vs /\ match T with
 | none=>vs[1]?=some Value.none
 | some t=>vs[1]?=some (.ref t)/\t≠e/\∃ oT ts fl,h.get? t=some oT/\oT.data=.fields ts/\ts[3]?=some fl
theorem Exc.keeps {h h':Heap} {e:aA} {cls:aB} {dx T:Option aA} (x:Exc h e cls dx T) (k:∀ b o,(b=e\/T=some b)->h.get? b=some o->h'.get? b=some o):Exc h' e cls dx T:=by
 obtain ⟨oe,vs,he,hc,hx,hd,hT⟩:=x;refine ⟨oe,vs,k _ _ (.inl rfl) he,hc,hx,hd,?_⟩;cases T with
 | none=>exact hT
 | some t =>
  obtain ⟨h1,hne,oT,ts,fl,h2,h3,h4⟩:=hT;exact ⟨h1,hne,oT,ts,fl,k _ _ (.inr rfl) h2,h3,h4⟩
def Gy (head:aB) (L:aA) (pl:List aB):Obj := { cls:=.type "traceback",dict:=none,data:=.fields ([head,.ref L,.none,rawInt L,.none]++(if pl.isEmpty then List.replicate 6 Value.none else pl)).toArray }
theorem Ek (head:aB) (L:aA) (pl:List aB):∃ ts,(Gy head L pl).data=.fields ts/\ts[3]?=some (rawInt L):=⟨_,rfl,by simp⟩
structure Gz (fr:List aA) (e:aA) (T:Option aA) (h h':Heap):Prop where
 same:∀ b o,b ∉ fr->b≠e->T≠some b->h.get? b=some o->h'.get? b=some o
 upto:∀ b o,b≠e->T≠some b->h.get? b=some o->∃ sl,h'.get? b=some { o with slots:=sl }
abbrev pH (l:List Env):List aA:=l.filterMap (·.frame)
section
variable {M:Model} {A:d7} {E:aB->aX->Prop} {Q:Unit->aX->Prop}
variable {s:aX} {base:Heap} {env top:Env} {rest:List Env} {L e:aA} {cls:aB} {dx:Option aA}
theorem RV {Qv:aB->aX->Prop} (st:A.frames=some (top::rest)) (JX:s.heap.FunFrames base (top::rest)) (e0:top.frame=some L) (e1:env.frame=some L) (k:∀ h',Heap.SlotsOnly (pH (top::rest)) s.heap h'->Qv (.ref L) { s with heap:=h' }):wpAny M A (PySem.frameOf env) Qv E s:=by
 have swap:PySem.frameOf env=PySem.frameOf top:=by unfold PySem.frameOf; rw [e0,e1]
 rw [swap];exact wpAny_frameOf_fun st JX e0 k
theorem Cq {oe:Obj} {vs:Array aB} {head:aB} {b₀:Bool} (st:A.frames=some (top::rest)) (JX:s.heap.FunFrames base (top::rest)) (e0:top.frame=some L) (e1:env.frame=some L) (at_:s.heap.get? e=some oe) (pI:oe.data=.fields vs) (two:1 < vs.size) (k:∀ h' T,Gz (pH (top::rest)) e none s.heap h'->s.heap.get? T=none->Exc h' e oe.cls oe.dict (some T)->Q () { s with heap:=h' }) : wpAny M A (PySem.frameOf env >>= fun a=>entryPlaceOf L b₀ >>= fun pl=>EntryCells.newEntry head a .none (rawInt L) .none pl >>= fun r=>setField (.ref e) 1 r) Q E s:=by
 refine aj (RV st JX e0 e1 fun g sg=>aj (wpAny_entryPlaceOf fun pl ok=>?_));have out:e ∉ pH (top::rest):=fun q=>(JX.mem q).2.elim fun o z=>z.2 vs (by rw [at_] at z; rw [<- bQ z.1]; exact pI)
 have g_e:g.get? e=some oe:=(sg.2.1 e out).trans at_;have apart:g.objs.size≠e:=Nat.ne_of_gt (Heap.lt_size g_e)
 let g1:=g.push (Gy head L pl)
 have aph:g1.get? e=some oe:=aq (Gy head L pl) g_e;have azC:g1.get? g.objs.size=some (Gy head L pl):=aN g rfl
 let turn:Obj->Obj:=Obj.mapFields fun xs=>xs.setIfInBounds 1 (Value.ref g.objs.size)
 have now:(turn oe).data=.fields (vs.setIfInBounds 1 (.ref g.objs.size)):=Obj.data_mapFields pI _;have self:(g1.update e turn).get? e=some (turn oe):=Heap.get?_update_self turn aph (Obj.isFreed_of_fields now);have others:∀ b,b≠e->(g1.update e turn).get? b=g1.get? b:=fun b nb=>Heap.get?_update_other g1 turn (Ne.symm nb)
 have up:∀ b o,b≠e->g.get? b=some o->(g1.update e turn).get? b=some o:=fun b o nb q=>(others b nb).trans (aq (Gy head L pl) q)
 refine aj (wpAny_newObj_type ?_ (ok.sizeOk5 _ _ _ _ _));refine wpAny_setField (s:={ s with heap:=g1 }) aph pI two ?_;refine k (g1.update e turn) g.objs.size ⟨fun b o nf nb _ q=>up b o nb ((sg.2.1 b nf).trans q),fun b o nb _ q=>?_⟩ ?_ ?_
 ·obtain ⟨sl,z⟩:=sg.2.2 b o q;exact ⟨sl,up b _ nb z⟩
 ·exact Heap.get?_none_of_le (Nat.le_of_eq sg.1.symm)
 ·obtain ⟨ts,d,f⟩:=Ek head L pl;exact ⟨turn oe,_,self,Obj.cls_mapFields _ _,zH _ _,now,by simp [two],apart,_,ts,_,(others _ apart).trans azC,d,f⟩
theorem Gz.weaken {fr:List aA} {T:Option aA} {h h':Heap} (n:Gz fr e none h h'):Gz fr e T h h':=⟨fun b o a c _ q=>n.same b o a c (fun z=>nomatch z) q,fun b o c _ q=>n.upto b o c (fun z=>nomatch z) q⟩
theorem RW {T:Option aA} (st:A.frames=some (top::rest)) (JX:s.heap.FunFrames base (top::rest)) (e0:top.frame=some L) (e1:env.frame=some L) (x:Exc s.heap e cls dx T) (k:∀ h' T',Gz (pH (top::rest)) e T s.heap h'->(s.heap.get? T'=none\/T=some T')->Exc h' e cls dx (some T')->Q () { s with heap:=h' }):wpAny M A (noteFrame (.ref e) env) Q E s:=by
 obtain ⟨oe,vs,at_,rfl,rfl,pI,more⟩:=id x;unfold noteFrame;simp only [e1];cases T with
 | none =>
  have nil:vs[1]?=some Value.none:=more;refine aj (wpAny_field at_ pI nil ?_);rw [if_neg (show ¬ (Value.none != Value.none)=true by decide)];exact Cq st JX e0 e1 at_ pI (Array.getElem?_eq_some_iff.mp nil).1 fun h' T' n new y=>k h' T' n (.inl new) y
 | some t =>
  obtain ⟨one,apart,oT,ts,fl,tAt,tF,three⟩:=more;have YQ:=(Array.getElem?_eq_some_iff.mp one).1;have lt3:=(Array.getElem?_eq_some_iff.mp three).1;refine aj (wpAny_field at_ pI (x:=.ref t) one ?_);have has:(Value.ref t != Value.none)=true:=rfl;simp only [has,if_true];refine aj (wpAny_field tAt tF three ?_)
  by_cases here:(fl == rawInt L)=true
  ·simp only [here,if_true];exact au (k s.heap t ⟨fun _ _ _ _ _ q=>q,fun _ o _ _ q=>⟨o.slots,q⟩⟩ (.inr rfl) x)
  ·rw [if_neg here]
   let off:Obj->Obj:=Obj.mapFields fun xs=>xs.setIfInBounds 3 Value.none
   have else_:∀ b,b≠t->(s.heap.update t off).get? b=s.heap.get? b:=fun b nb=>Heap.get?_update_other s.heap off (Ne.symm nb)
   have frames':(s.heap.update t off).FunFrames base (top::rest):=JX.of_keeps fun b o q nf=>⟨o,(else_ b fun z=>nf ts (by rw [z,tAt] at q; rw [<- bQ q]; exact tF)).trans q,rfl⟩
   refine aj (wpAny_setField tAt tF lt3 (Cq (s:={ s with heap:=s.heap.update t off }) st frames' e0 e1 ((else_ e (Ne.symm apart)).trans at_) pI YQ fun h' T' n new y=>k h' T' ?_ ?_ y))
   ·exact ⟨fun b o a c d q=>n.same b o a c (fun z=>nomatch z) ((else_ b fun z=>d (congrArg some z.symm)).trans q),fun b o c d q=>n.upto b o c (fun z=>nomatch z) ((else_ b fun z=>d (congrArg some z.symm)).trans q)⟩
   ·by_cases z:T'=t
    ·exact .inr (congrArg some z.symm)
    ·exact .inl ((else_ T' z).symm.trans new)
theorem JZ {t:aA} {fr:Option aA} (x:Exc s.heap e cls dx (some t)) (k:∀ h',(∀ b o,b≠t->s.heap.get? b=some o->h'.get? b=some o)->Exc h' e cls dx (some t)->Q () { s with heap:=h' }) : wpAny M A (setFlight (.ref e) fr) Q E s:=by
 obtain ⟨oe,vs,at_,rfl,rfl,pI,one,apart,oT,ts,fl,tAt,tF,three⟩:=x;have lt3:=(Array.getElem?_eq_some_iff.mp three).1;have has:(Value.ref t != Value.none)=true:=rfl;unfold setFlight;refine aj (wpAny_field at_ pI one ?_);simp only [has,if_true]
 let mark:aB:=fr.elim Value.none fun f=>rawInt f
 have tF':(oT.mapFields fun xs=>xs.setIfInBounds 3 mark).data=.fields (ts.setIfInBounds 3 mark):=Obj.data_mapFields tF _;refine wpAny_setField tAt tF lt3 (k _ (fun b o nb q=>(Heap.get?_update_other s.heap _ (Ne.symm nb)).trans q) ?_);exact ⟨oe,vs,(Heap.get?_update_other s.heap _ apart).trans at_,rfl,rfl,pI,one,apart,_,_,mark,Heap.get?_update_self _ tAt (Obj.isFreed_of_fields tF'),tF',by simp [lt3]⟩
end
theorem gD.there {P:cC} {w:World} {H:Hp} {h:Heap} {a:aA} {o:HO} (x:gD P w H h a o):∃ ob,h.get? a=some ob:=by
 cases o with
 | lst xs=>obtain ⟨_,_,_,_,e⟩:=x; exact ⟨_,e⟩
 | tup xs=>obtain ⟨_,_,_,ob,e,_⟩:=x; exact ⟨_,e⟩
 | dK kvs=>obtain ⟨_,_,_,_,o,_,_,e,_⟩:=x; exact ⟨_,e⟩
 | dT kvs=>obtain ⟨_,_,_,_,o,_,_,e,_⟩:=x; exact ⟨_,e⟩
 | set S n=>obtain ⟨o,_,_,_,e,_⟩:=x; exact ⟨_,e⟩
 | ins C dx fs=>obtain ⟨_,_,_,e,_⟩:=x; exact ⟨_,e⟩
 | own y=>exact x
 | xd fs=>obtain ⟨_,⟨_,_,_,e,_⟩,_⟩:=x; exact ⟨_,e⟩
 | rng lo hi=>obtain ⟨_,_,_,e⟩:=x; exact ⟨_,e⟩
 | DQ ob u=>obtain ⟨e,_⟩:=x; exact ⟨_,e⟩
 | yd ps=>exact ⟨_,(show h.get? a=some _ from x)⟩
 | met f y=>exact ⟨_,(show h.get? a=some _ from x)⟩
 | ext φ=>obtain ⟨_,e,_⟩:=x; exact e
theorem wH.none_of {P:cC} {w:World} {H:Hp} {h:Heap} {b:aA} (x:wH P w H h) (hb:h.get? b=none):H b=none:=by
 cases q:H b with
 | none=>rfl
 | some o =>
  obtain ⟨ob,e⟩:=(x b o q).there;rw [hb] at e; cases e
def Loose (X:Cx) (pins:List (aA × Obj)) (H:Hp) (b:aA):Prop := H b=none/\b≠X.env.locals/\b ∉ X.fs/\(b ∉ X.ex->X.s₀.heap.get? b=none)/\(∀ x c,X.env.cells.lookup x=some c->c≠b)/\∀ p ∈ X.pn++pins,p.1≠b
section
variable {X:Cx} {pins:List (aA × Obj)} {σ:St} {H:Hp} {s:aX} {b:aA}
theorem Inv.oR (I:Inv X pins σ H s) (hb:s.heap.get? b=none):Loose X pins H b:=by
 refine ⟨I.hok.none_of hb,fun z=>?_,fun z=>?_,fun z=>?_,fun x c e z=>?_,fun p hp z=>?_⟩
 ·obtain ⟨m,⟨o,_,_,ho,_⟩,_⟩:=I.loc;rw [<- z,hb] at ho; cases ho
 ·obtain ⟨_,o,ho,_⟩:=I.sY.mem z;rw [hb] at ho; cases ho
 ·cases q:X.s₀.heap.get? b with
  | none=>rfl
  | some o =>
   obtain ⟨o',e⟩:=I.base.there b o q z;rw [hb] at e; cases e
 ·obtain ⟨v,o,ho,_⟩:=I.cell x c e;rw [z,hb] at ho; cases ho
 ·have e:=(I.pin p hp).1;rw [z,hb] at e; cases e
theorem Inv.qy {h':Heap} {t':Nat} {ch:List aA} (I:Inv X pins σ H s) (hch:∀ b ∈ ch,Loose X pins H b) (keep:∀ b o,b ∉ frs X.stack->b ∉ ch->s.heap.get? b=some o->h'.get? b=some o) (slot:∀ b o,b ∉ ch->s.heap.get? b=some o->∃ sl,h'.get? b=some { o with slots:=sl }):Inv X pins σ H { s with heap:=h',toks:=t' }:=by
 have neL:∀ b o,X.s₀.heap.get? b=some o->b≠X.env.locals:=fun b o e=>Nat.ne_of_lt (bA (Heap.lt_size e) I.ok.above)
 have neC:∀ b o,X.s₀.heap.get? b=some o->b ∉ X.ex->b ∉ ch:=fun b o e hx hb=>by
  have:=(hch b hb).2.2.2.1 hx;rw [e] at this; cases this
 have stk:∀ b,b≠X.env.locals->b ∉ X.fs->b ∉ frs X.stack:=fun b h1 h2 hb=>(aR.mp (I.wI b hb)).elim h1 h2
 have cellK:∀ x c,X.env.cells.lookup x=some c->∀ v,s.heap.IsCell c v->h'.IsCell c v:=fun x c e v ⟨o,ho,hd⟩=>by
  obtain ⟨sl,q⟩:=slot c o (fun z=>(hch c z).2.2.2.2.1 x c e rfl) ho;exact ⟨_,q,hd⟩
 refine ⟨I.ok,I.os,I.bare,⟨fun b o e n hb hx=>?_,fun b o e n hb hx=>?_,I.base.free,fun b o e hx=>?_,I.base.tups,I.base.yI,I.base.yJ⟩,?_,fun x c e=>?_,I.free,I.jY,fun p hp=>?_,fun a u e=>?_,I.len⟩
 ·exact keep b o (stk b (neL b o e) hb) (neC b o e hx) (I.base.keep b o e n hb hx)
 ·obtain ⟨sl,e1⟩:=I.base.slot b o e n hb hx;obtain ⟨sl',e2⟩:=slot b _ (neC b o e hx) e1;exact ⟨sl',e2⟩
 ·obtain ⟨o',e1⟩:=I.base.there b o e hx;obtain ⟨sl',e2⟩:=slot b _ (neC b o e hx) e1;exact ⟨_,e2⟩
 ·obtain ⟨m,⟨o,es,ep,ho,r⟩,hl⟩:=I.loc;obtain ⟨sl,e⟩:=slot _ o (fun z=>(hch _ z).2.1 rfl) ho;refine ⟨m,⟨_,es,ep,e,r⟩,fun i x v e1 e2 e3=>?_⟩;obtain ⟨u,ru,l⟩:=hl i x v e1 e2 e3;refine ⟨u,ru,?_⟩;rcases l with l | ⟨k,c,e,z⟩
  ·exact .inl l
  ·exact .inr ⟨k,c,e,cellK x c e _ z⟩
 ·obtain ⟨v,z⟩:=I.cell x c e;exact ⟨v,cellK x c e v z⟩
 ·obtain ⟨e,n,ne,nf,d⟩:=I.pin p hp;exact ⟨keep p.1 p.2 (stk _ ne nf) (fun z=>(hch _ z).2.2.2.2.2 p hp rfl) e,n,ne,nf,d⟩
 ·refine (I.hok a u e).stay (fun c v hc q=>?_) (fun _ q=>q) fun _ _ q=>q
  have ht:∃ z,H c=some z:=by
   rcases hc with z | z
   ·exact ⟨u,by rw [z]; exact e⟩
   ·exact ⟨_,z⟩
  obtain ⟨z,hz⟩:=ht;refine keep c v (fun y=>?_) (fun y=>?_) q
  ·have:=I.yR c y;rw [hz] at this; cases this
  ·have:=(hch c y).1;rw [hz] at this; cases this
end
def Fly (X:Cx) (pins:List (aA × Obj)) (H:Hp) (s:aX) (e:aA) (cls:aB) (dx:Option aA):Prop := ∃ T,Exc s.heap e cls dx T/\Loose X pins H e/\∀ t,T=some t->Loose X pins H t
def RX (X:Cx) (pins:List (aA × Obj)) (H:Hp) (s:aX) (e:aA) (cls:aB) (dx:Option aA):Prop := ∃ t,Exc s.heap e cls dx (some t)/\Loose X pins H e/\Loose X pins H t
theorem RX.fly {X:Cx} {pins:List (aA × Obj)} {H:Hp} {s:aX} {e:aA} {cls:aB} {dx:Option aA} (f:RX X pins H s e cls dx):Fly X pins H s e cls dx:=by
 obtain ⟨t,x,l1,l2⟩:=f;exact ⟨some t,x,l1,fun y z=>by cases z; exact l2⟩
def vh (X:Cx) (L:aA):Prop:=∃ env₀ outer,X.stack=env₀::outer/\env₀.frame=some L/\X.env.frame=some L
section
variable {X:Cx} {pins:List (aA × Obj)} {σ:St} {H:Hp} {s:aX} {e L:aA} {cls:aB} {dx:Option aA} {M:Model} {A:d7} {E:aB->aX->Prop} {Q:Unit->aX->Prop}
theorem J0 (I:Inv X pins σ H s) (hA:A.frames=some X.stack) (F:vh X L) (f:Fly X pins H s e cls dx) (h:∀ s',Inv X pins σ H s'->RX X pins H s' e cls dx->Q () s') : wpAny M A (noteFrame (.ref e) X.env) Q E s:=by
 obtain ⟨T,x,le,lt⟩:=f;obtain ⟨env₀,outer,es,hf₀,hf⟩:=F;refine RW (base:=X.base) (by rw [hA,es]) (by rw [<- es]; exact I.stack) hf₀ hf x fun h' T' nt k3 x'=>?_
 have hch:∀ b ∈ e::T.toList,Loose X pins H b:=fun b hb=>by
  rcases aR.mp hb with z | z
  ·rw [z]; exact le
  ·exact lt b (by simpa using z)
 have I':Inv X pins σ H { s with heap:=h',toks:=s.toks }:=I.qy (ch:=e::T.toList) hch
  (fun b o hb hc q=>nt.same b o (by unfold frs at hb; rw [es] at hb; exact hb) (fun z=>hc (by rw [z]; exact mem_cons_self)) (fun z=>hc (mem_cons_of_mem _ (by simp [z]))) q)
  (fun b o hc q=>nt.upto b o (fun z=>hc (by rw [z]; exact mem_cons_self)) (fun z=>hc (mem_cons_of_mem _ (by simp [z]))) q)
 refine h _ I' ⟨T',x',le,?_⟩;rcases k3 with z | z
 ·exact I.oR z
 ·exact lt T' z
theorem vm {fr:Option aA} (I:Inv X pins σ H s) (f:RX X pins H s e cls dx) (h:∀ s',Inv X pins σ H s'->RX X pins H s' e cls dx->Q () s') : wpAny M A (setFlight (.ref e) fr) Q E s:=by
 obtain ⟨t,x,le,lt⟩:=f;refine JZ x fun h' k x'=>?_
 have I':Inv X pins σ H { s with heap:=h',toks:=s.toks }:=I.qy (ch:=[t]) (fun b hb=>by rw [aC.mp hb]; exact lt)
  (fun b o _ hc q=>k b o (fun z=>hc (by rw [z]; exact mem_cons_self)) q) (fun b o hc q=>⟨o.slots,k b o (fun z=>hc (by rw [z]; exact mem_cons_self)) q⟩)
 exact h _ I' ⟨t,x',le,lt⟩
end
def fL (P:cC) (w:World):Gj:=fun outer H s E ev s'=>∃ e cls dx H' t,ev=.ref e/\s'.os=s.os/\AllBare s'.gens/\Un (frs outer) [] H H' s.heap s'.heap/\wH P w H' s'.heap /\ Exc s'.heap e cls dx (some t)/\H' e=none/\H' t=none/\s.heap.get? e=none/\s.heap.get? t=none/\E cls dx H'
def yL (X:Cx) (E:XK):Prop:=∀ pins σ H s e cls dx,Inv X pins σ H s->Fly X pins H s e cls dx->E cls dx H->X.xe (.ref e) s
theorem cV {X:Cx} {E:XK} (acc:yL X E):Passes (fL X.prog X.w) X E:=by
 intro pins σ H s ev s' I h;obtain ⟨e,cls,dx,H',t,rfl,os,bare,un,hok,x,ne,nt,fe,ft,q⟩:=h;have I':Inv X pins σ H' s':=I.call' (ch:=[]) os un hok bare (fun b z=>nomatch z);refine acc pins σ H' s' e cls dx I' ⟨some t,x,⟨ne,(I.oR fe).2⟩,fun y z=>?_⟩ q;cases z;exact ⟨nt,(I.oR ft).2⟩
theorem bB {X:Cx} {P:cC} {w:World}:Passes (fL P w) X (fun _ _ _=>False):=by
 intro pins σ H s ev s' I h;obtain ⟨_,_,_,_,_,_,_,_,_,_,_,_,_,_,_,q⟩:=h;exact q.elim
theorem bW {P:cC} {w:World} {K:Fg} {mg:Str->Option aB} {base:Heap} {N:List Str} {qual:Str} {scope:Scope} {f:aA} {cd:aB} {A:d7} {outer:List Env} {s:aX} {H:Hp} {E:XK} : yL (oO (fL P w) P w K mg base N qual scope f cd A outer s H E) E:=by
 intro pins σ H' s' e cls dx I fl q
 show wpAny (model P w) _ (leaving _ (.ref e)) _ _ s'
 unfold leaving;refine aj (J0 I I.ok.frames ⟨_,_,rfl,rfl,rfl⟩ fl fun s1 I1 f1=>?_);refine vm I1 f1 fun s2 I2 f2=>?_
 obtain ⟨t,x2,le,lt⟩:=f2;exact ⟨e,cls,dx,H',t,rfl,I2.os,I2.bare,I2.base,I2.hok,x2,le.1,lt.1,le.2.2.2.1 (fun z=>nomatch z),lt.2.2.2.1 (fun z=>nomatch z),q⟩
theorem dY {P:cC} {w:World} {K:Fg} {mg:Str->Option aB} {base:Heap} {N:List Str} {qual:Str} {scope:Scope} {f:aA} {cd:aB} {A:d7} {outer:List Env} {s:aX} {H:Hp} {E:XK} {CX:Gj} : PassesOwn (model P w) (oO CX P w K mg base N qual scope f cd A outer s H E).A (oO CX P w K mg base N qual scope f cd A outer s H E).env (oO CX P w K mg base N qual scope f cd A outer s H E).xe:=PassesOwn.leaving
theorem GC {K:Fg} {C:aA} {base:List aB} {new:String} (q:excIn K C base new=true) : ∃ dd cd up a b c d f,K.lookup C=some ⟨.type "type",dd,.cls cd,#[a,b,c,d,some (.builtin new),f]⟩/\cd.mro=.ref C::up/\cd.hasDel=false/\tailIn K base up=true/\nsOkIn K cd.ns=true/\nsIn K cd.ns "__init__"=some none:=by
 unfold excIn at q
 split at q
 ·rename_i dd cd sl look
  split at q
  ·rename_i C' up a b c d apj f mro slots
   have q':((((C'=C/\apj=new)/\cd.hasDel=false)/\tailIn K base up=true)/\nsOkIn K cd.ns=true)/\nsIn K cd.ns "__init__"=some none:=by simpa using q
   obtain ⟨⟨⟨⟨⟨i1,i2⟩,i3⟩,i4⟩,i5⟩,i6⟩:=q';subst i1; subst i2;have as_array:sl=#[a,b,c,d,some (.builtin apj),f]:=Array.toList_inj.mp slots;exact ⟨dd,cd,up,a,b,c,d,f,as_array ▸ look,mro,i3,i4,i5,i6⟩
  ·exact absurd q Bool.false_ne_true
 ·exact absurd q Bool.false_ne_true
theorem ahX {K:Fg} {h:Heap} {mg:Str->Option aB} {x:Str} {C:aA} {base:List aB} {new:String} (k:K.In h) (named:mg x=some (.ref C)) (q:excIn K C base new=true):OwnCls x C base new mg h:=by
 obtain ⟨dd,cd,up,a,b,c,d,f,look,mro,del,tl,ok,ini⟩:=GC q;obtain ⟨nm,bs,aFr,ns,qn,hd,sn,sub,ab,col,aFs⟩:=cd;cases mro; cases del;exact ⟨named,up,ns,nm,qn,bs,hd,sn,sub,ab,col,dd,a,b,c,d,f,_,k C _ look,Heap.Ns.of_isNs (PySem.W.isNs_of_in k ok),PySem.W.nsMap_none_of_in k ok ini,PySem.W.tail_of_in k tl⟩
def ahY (C:aA) (E:XK) (ta:TA):TS:=fun _ σ H=>ta σ H fun vs H1=>vs.length<=sizeLine/\E (.ref C) none H1
section
variable {X:Cx} {E:XK} {x:Str} {C:aA} {bmB:List aB} {B newId initId:String} {np cpos pos:Pos} {e₀:Expr} {rest:List Expr} {ta:TA}
theorem iI (acc:yL X E) (hc:X.calm=true) (hg:Gl X x) (hm:X.mg x=some (.ref C)) (q:excIn X.K C bmB newId=true) (FB:ExcBaseFacts B newId initId bmB) (ha:PA X (e₀::rest) ta) (he:autoParam (starEach (e₀::rest) X.env=(false,eval e₀ X.env)::starEach rest X.env) zau0) (hpl:autoParam ((backTo cpos (starEach rest X.env)).any (·.1)=false) zau0) (hdb:autoParam ((x == ("__debug__":Str))=false) zau1) : PS X (.Raise (some (.Call (.Name x np) (e₀::rest) [] cpos)) none pos) (ahY C E ta):=by
 intro pins s σ H D I h;obtain ⟨tl,N,nm,qn,bs,hdct,sn,sub,ab,col,dd,k0,k1,k2,k3,k5,mN,hC,hN,hni,T⟩:=(ahX (mg:=X.mg) I.mod.Xd hm q).obj;refine wpAny_Raise_call_subT (C:=C) (nm:=nm) (q:=qn) (N:=N) (bs:=bs) (bm:=tl) (hdct:=hdct) (sn:=sn) (sub:=sub) (ab:=ab) (col:=col) (dd:=dd) (k0:=k0) (k1:=k1) (k2:=k2) (k3:=k3) (k5:=k5) FB (mN:=mN) (T.hasType FB.hasBase) (I.ok.hd hc) (by rw [he]; show (false || (backTo cpos (starEach rest X.env)).any (·.1))=false; rw [hpl]; rfl) hni (pC I hg hm ⟨rfl,?_⟩ hdb);have hA:=ha cpos pins s σ H _ I h;rw [he] at hA ⊢;refine Calls.evalArgs_plain (fV hA fun us s2 h2=>?_);obtain ⟨vs,H1,I1,rv,hz,hE⟩:=h2;refine ⟨rfl,by rw [<- rv.length]; exact hz,I1.bk _ _ hC,hN.keeps I1.bk,T.keeps I1.bk,fun h' e hm'=>?_⟩;have I2:Inv X pins σ H1 { s2 with heap:=h' }:=I1.kept (t':=s2.toks) hm'.keeps;obtain ⟨t,hte,_,_⟩:=hm'.there;refine acc pins σ H1 _ e (.ref C) none I2 ⟨none,⟨_,_,hte,rfl,rfl,rfl,rfl⟩,I1.oR hm'.new,fun _ z=>nomatch z⟩ hE
end
def zJ (e:aA) (cls:aB) (dx:Option aA):HO:=.ext fun h=>∃ oe vs,h.get? e=some oe/\oe.cls=cls/\oe.dict=dx/\oe.data=.fields vs
def blank (n:Nat):St:=List.replicate n none
theorem GD {n i:Nat} {v:V}:¬ (blank n)[i]?=some (some v):=by
 unfold blank;rw [List.getElem?_replicate]
 split <;> intro h <;> cases h
section
variable {X:Cx} {pins:List (aA × Obj)} {σ:St} {H:Hp} {s:aX}
theorem Inv.adopt {b:aA} {o:HO} (I:Inv X pins σ H s) (l:Loose X pins H b) (hx:b ∉ X.ex) (new:gD X.prog X.w (upd H b o) s.heap b o):Inv X pins σ (upd H b o) s:=by
 have h0:=l.2.2.2.1 hx;have ne:∀ c u,H c=some u->c≠b:=fun c u e z=>by rw [z,l.1] at e; cases e
 refine ⟨I.ok,I.os,I.bare,⟨I.base.keep,I.base.slot,fun c u e n hxc=>?_,I.base.there,fun c xs e=>?_,fun c u xs e=>?_,fun c ps e=>?_⟩,I.loc,I.cell,?_,fun x c e=>?_,fun p hp=>?_,fun c u e=>?_,I.len⟩
 ·rw [bf (fun z=>by rw [z,h0] at e; cases e)];exact I.base.free c u e n hxc
 ·have q:=I.base.tups c xs e;rw [bf (ne _ _ q)]; exact q
 ·have q:=I.base.yI c u xs e;rw [bf (ne _ _ q)]; exact q
 ·obtain ⟨m,q⟩:=I.base.yJ c ps e;exact ⟨m,by rw [bf (ne _ _ q)]; exact q⟩
 ·rw [bf (Ne.symm l.2.1)]; exact I.free
 ·rw [bf (l.2.2.2.2.1 x c e)]; exact I.jY x c e
 ·obtain ⟨e,n,r⟩:=I.pin p hp;exact ⟨e,by rw [bf (l.2.2.2.2.2 p hp)]; exact n,r⟩
 ·by_cases z:c=b
  ·subst z;rw [aD] at e; cases e; exact new
  ·rw [bf z] at e;exact (I.hok c u e).stay (fun _ _ _ q=>q) (fun d q=>by rw [bf (ne _ _ q)]; exact q) fun d xs q=>by rw [bf (ne _ _ q)]; exact q
theorem Inv.RZ {h':Heap} {t':Nat} {m':Str->Option aB} (I:Inv X pins σ H s) (hn:h'.Ns X.env.locals m') (sb:Heap.SameBut X.env.locals s.heap h'):Inv X pins (blank X.N.length) H { s with heap:=h',toks:=t' }:=by
 obtain ⟨m,⟨oL,_,_,hoL,_⟩,_⟩:=id I.loc;have neL:∀ b o,X.s₀.heap.get? b=some o->b≠X.env.locals:=fun b o e=>Nat.ne_of_lt (bA (Heap.lt_size e) I.ok.above)
 have k:∀ b o,b≠X.env.locals->s.heap.get? b=some o->h'.get? b=some o:=fun b o ne e=>(sb.2 b ne).trans e
 refine ⟨I.ok,I.os,I.bare,⟨fun b o e n hb hx=>?_,fun b o e n hb hx=>?_,I.base.free,fun b o e hx=>?_,I.base.tups,I.base.yI,I.base.yJ⟩,⟨m',hn,fun i x v _ e2 _=>absurd e2 GD⟩,fun x c e=>?_,I.free,I.jY,fun p hp=>?_,fun a u e=>?_,by simp [blank]⟩
 ·exact k b o (neL b o e) (I.base.keep b o e n hb hx)
 ·obtain ⟨sl,e1⟩:=I.base.slot b o e n hb hx;exact ⟨sl,k b _ (neL b o e) e1⟩
 ·obtain ⟨o',e1⟩:=I.base.there b o e hx;exact ⟨o',k b _ (neL b o e) e1⟩
 ·obtain ⟨v,o,ho,hd⟩:=I.cell x c e;exact ⟨v,o,k c o (I.cne x c e) ho,hd⟩
 ·obtain ⟨e,n,ne,nf,d⟩:=I.pin p hp;exact ⟨k p.1 p.2 ne e,n,ne,nf,d⟩
 ·refine (I.hok a u e).stay (fun c v hc q=>k c v (fun z=>?_) q) (fun _ q=>q) fun _ _ q=>q
  have hf:=I.free;rw [<- z] at hf;rcases hc with y | y
  ·rw [y,e] at hf; cases hf
  ·rw [y] at hf; cases hf
end
abbrev Cx.Bv (X:Cx) (E':aB->aX->Prop) (sU:List (aA × Obj)):Cx:={ X with xe:=E',pn:=sU }
abbrev Cx.hand (X:Cx) (e:aA):Cx:={ X with A:=X.A.mark (some (.ref e)),calm:=false,xe:=fun _ _=>False }
section
variable {X:Cx} {pins sU:List (aA × Obj)} {σ:St} {H:Hp} {s:aX} {E':aB->aX->Prop}
theorem Inv.Bv (I:Inv X pins σ H s) (E':aB->aX->Prop):Inv (X.Bv E' (X.pn++pins)) [] σ H s := ⟨⟨I.ok.mod,I.ok.kind,I.ok.glob,I.ok.blt,I.ok.above,I.ok.inj,I.ok.has,I.ok.cab,I.ok.hd,I.ok.frames,I.ok.stk,I.ok.exf,I.ok.bs,I.ok.Ot,I.ok.Ou,I.ok.Rt,I.ok.sY,I.ok.Yo⟩,I.os,I.bare,I.base,I.loc,I.cell,I.free,I.jY,fun p hp=>I.pin p (by simpa using hp),I.hok,I.len⟩
theorem Inv.El {p8:List (aA × Obj)} (ok:X.Ok) (I:Inv (X.Bv E' (X.pn++pins)) p8 σ H s):Inv X pins σ H s := ⟨ok,I.os,I.bare,I.base,I.loc,I.cell,I.free,I.jY,fun p hp=>I.pin p (mem_append_left _ hp),I.hok,I.len⟩
theorem Inv.hand (I:Inv X pins σ H s) (e:aA):Inv (X.hand e) pins σ H s := ⟨⟨I.ok.mod,I.ok.kind,I.ok.glob,I.ok.blt,I.ok.above,I.ok.inj,I.ok.has,I.ok.cab,(fun z=>nomatch z),I.ok.frames,I.ok.stk,I.ok.exf,I.ok.bs,I.ok.Ot,I.ok.Ou,I.ok.Rt,I.ok.sY,I.ok.Yo⟩,I.os,I.bare,I.base,I.loc,I.cell,I.free,I.jY,I.pin,I.hok,I.len⟩
theorem Inv.ahZ {e:aA} (ok:X.Ok) (I:Inv (X.hand e) pins σ H s):Inv X pins σ H s := ⟨ok,I.os,I.bare,I.base,I.loc,I.cell,I.free,I.jY,I.pin,I.hok,I.len⟩
end
def ah0 (N i:Nat) (hit:aB->Prop) (tb:XK->TS) (ts:TS):TS:=fun D σ H =>
 tb (fun cls dx H'=>hit cls/\∀ e,H' e=none->ts { nx:=fun _ H2=>D.nx (blank N) H2,rt:=D.rt } ((blank N).set i (some (.ref e))) (upd H' e (zJ e cls dx))) D σ H
section
variable {X:Cx} {x n:Str} {c:aB} {i:Nat} {np hpos pos:Pos} {body suite:List dW} {b₀:dW} {tb:XK->TS} {ts:TS} {L:aA} {hit:aB->Prop}
theorem R0 (hex:X.ex=[]) (F:vh X L) (hN:X.N.Nodup) (hi:X.N[i]?=some n) (hln:X.env.scope.names.lookup n=some .local) (hg:Gl X x) (hm:X.mg x=some c) (azF:∀ cls,hit cls->exmOne X.K cls c=some true) (hb:∀ (E':aB->aX->Prop) (sU:List (aA × Obj)) (Eb:XK),yL (X.Bv E' sU) Eb->Br (X.Bv E' sU) body (tb Eb)) (hs:∀ e,Br (X.hand e) (b₀::suite) ts) (hdb:autoParam ((x == ("__debug__":Str))=false) zau1) : PS X (.Try body [.ExceptHandler (some (.Name x np)) (some n) (b₀::suite) hpos] [] [] pos) (ah0 X.N.length i hit tb ts):=by
 intro pins s σ H D I h;have hcls:(X.env.scope.kind == .class || (X.env.scope.kind == .module && X.env.locals != X.env.globals))=false:=by rw [I.ok.kind]; rfl
 refine wpAny_Try_except ?_
 let Eb:XK:=fun cls dx H'=>hit cls/\∀ e,H' e=none->ts { nx:=fun _ H2=>D.nx (blank X.N.length) H2,rt:=D.rt } ((blank X.N.length).set i (some (.ref e))) (upd H' e (zJ e cls dx))
 let E':aB->aX->Prop:=fun ev s₁=>wpAny (model X.prog X.w) X.A (noteFrame ev X.env) (fun _ s₂=>wpAny (model X.prog X.w) X.A (setFlight ev none) (fun _ s₃ =>
   wpAny (model X.prog X.w) X.A (handleBy ev X.env [.ExceptHandler (some (.Name x np)) (some n) (b₀::suite) hpos]) (SP X pins D) X.xe s₃) X.xe s₂) X.xe s₁
 suffices acc:yL (X.Bv E' (X.pn++pins)) Eb by
  refine eU (hb E' (X.pn++pins) Eb acc [] s σ H D (I.Bv E') h) (fun f s1 h1=>?_) fun ev s1 h1=>h1
  have un:∀ {σ':St} {H':Hp},Inv (X.Bv E' (X.pn++pins)) [] σ' H' s1->Inv X pins σ' H' s1:=fun J=>J.El I.ok
  cases f with
  | next=>obtain ⟨σ',H',J,q⟩:=h1; exact wpAny_execs_nil ⟨σ',H',un J,q⟩
  | brk=>obtain ⟨σ',H',J,q⟩:=h1; exact ⟨σ',H',un J,q⟩
  | cont=>obtain ⟨σ',H',J,q⟩:=h1; exact ⟨σ',H',un J,q⟩
  | ret u=>obtain ⟨v,σ',H',J,r,q⟩:=h1; exact ⟨v,σ',H',un J,r,q⟩
 ·intro p8 σ' H' s' e cls dx I' fl q;obtain ⟨hh,q⟩:=q;refine J0 (X:=X.Bv E' (X.pn++pins)) I' I'.ok.frames F fl fun s1 I1 f1=>?_
  refine vm I1 f1 fun s2 I2 f2=>?_
  obtain ⟨t2,x2,le2,Em⟩:=f2;have J2:Inv X pins σ' H' s2:=I2.El I.ok;have J2h:=J2.hand e;refine wpAny_handleBy_cons (codeAny_handlers_test ?_) (by intro z; cases z);refine pC (X:=X.hand e) J2h hg hm ?_ hdb;obtain ⟨oe,vs,he,hc,hd,hv,_⟩:=id x2;have ty:Looks (model X.prog X.w) s2.heap (typeOf (.ref e)) cls:=hc ▸ (Looks.ld he).andThen .now;refine (PySem.W.exm_one J2.sG ty (azF cls hh)).here ?_;refine codeAny_handlers_suite_as (vm I2 ⟨t2,x2,le2,Em⟩ fun s3 I3 f3=>?_);obtain ⟨t3,x3,le3,lt3⟩:=f3;obtain ⟨oe3,vs3,he3,hc3,hd3,hv3,_⟩:=id x3;have J3:Inv X pins σ' H' s3:=I3.El I.ok;have lX:Loose X pins H' e:=⟨le3.1,le3.2.1,le3.2.2.1,le3.2.2.2.1,le3.2.2.2.2.1,fun p hp=>le3.2.2.2.2.2 p (mem_append_left _ hp)⟩;have J4:Inv X pins σ' (upd H' e (zJ e cls dx)) s3:=J3.adopt lX (by rw [hex]; exact fun z=>nomatch z) (by
   refine ⟨⟨oe3,vs3,he3,hc3,hd3,hv3⟩,⟨oe3,he3⟩,fun h1 h2 p k=>?_⟩;obtain ⟨o,v,a,b⟩:=p;exact ⟨o,v,k o a,b⟩)
  have J5:Inv X pins (blank X.N.length) (upd H' e (zJ e cls dx)) s3:=J4.weak (by simp [blank,J4.len]) fun i v z=>absurd z GD
  refine uX (X:=X.hand e) (J5.hand e) hN hi (.inl hln) (show RelV (.ref e) (.ref e) from rfl) (fun s4 I4=>?_) (.inr hln);refine eU (hs e pins s4 _ _ _ I4 (q e le3.1)) (fun f s5 h5=>?_) fun _ _ z=>z.elim
  have gone:∀ {σ5:St} {H5:Hp} (Q:aX->Prop),Inv (X.hand e) pins σ5 H5 s5->(∀ s6,Inv X pins (blank X.N.length) H5 s6->Q s6) ->
    wpAny (model X.prog X.w) X.A (do bindName X.env n .none; unbindBehindTheSuite X.env n hpos) (fun _ s6=>Q s6) X.xe s5:=fun {σ5 H5} Q I5 k=>by
   obtain ⟨m,hn,_⟩:=I5.loc;exact wpAny_nameGoes hln hn hcls fun h' m' hn' sb=>k _ (Inv.RZ (I5.ahZ I.ok) hn' sb)
  cases f with
  | next =>
   obtain ⟨σ5,H5,I5,q5⟩:=h5;exact gone (fun s6=>SP X pins D .next s6) I5 fun s6 I6=>⟨_,H5,I6,q5⟩
  | ret u =>
   obtain ⟨v,σ5,H5,I5,r5,q5⟩:=h5;exact gone (fun s6=>SP X pins D (.ret u) s6) I5 fun s6 I6=>⟨v,_,H5,I6,r5,q5⟩
  | brk=>obtain ⟨_,_,_,z⟩:=h5; exact z.elim
  | cont=>obtain ⟨_,_,_,z⟩:=h5; exact z.elim
end
def jy (cap:List (Option Nat)) (σ:St):St:=cap.map fun o=>o.bind fun j=>(σ[j]?).join
abbrev jj (X:Cx) (scope:Scope) (cl:List (Str × aA)) (N':List Str) (s₀:aX) (H₀:Hp) (fp:List aA) (sU:List (aA × Obj)) (E':aB->aX->Prop):Cx := { X with N:=N',s₀:=s₀,H₀:=H₀,env:=compEnvC scope cl s₀.heap.objs.size X.env,outer:=X.stack,ex:=fp,fn:=fun _=>false,pn:=sU,xe:=E' }
structure jk (X:Cx) (scope:Scope) (cl:List (Str × aA)) (N':List Str) (cap:List (Option Nat)):Prop where
 kind:scope.kind=.function
 qz:∀ y ∈ scope.names,y.2≠.cell
 names:∀ y ∈ scope.names,y.2=.local->scope.names.lookup y.1=some .local
 clos:closureFor scope X.env=pure cl
 sub:∀ n c,cl.lookup n=some c->X.env.cells.lookup n=some c
 has:∀ n,((relabel scope X.env).names.lookup n=some .cell\/(relabel scope X.env).names.lookup n=some .free)->∃ c,cl.lookup n=some c
 len:cap.length=N'.length
 ah2:∀ (i j:Nat) (x:Str),cap[i]?=some (some j)->N'[i]?=some x->X.N[j]?=some x/\X.env.scope.names.lookup x=some .cell/\(relabel scope X.env).names.lookup x=some .cell
theorem jk.plain {X:Cx} {scope:Scope} {N':List Str} (kind:scope.kind=.function) (names:∀ y ∈ scope.names,y.2=.local\/y.2=.globalImplicit) (look:∀ y ∈ scope.names,y.2=.local->scope.names.lookup y.1=some .local) : jk X scope [] N' (List.replicate N'.length none):=by
 have nf:∀ y ∈ scope.names,y.2≠.free:=fun y hy z=>by rcases names y hy with q | q <;> rw [q] at z <;> cases z
 have same:(relabel scope X.env).names=scope.names:=by
  unfold relabel;refine map_eq_self fun y hy=>?_
  obtain ⟨n,k⟩:=y;have:(k == NameKind.free)=false:=by simpa using nf _ hy
  simp [this]
 refine ⟨kind,fun y hy z=>?_,look,closureFor_none nf,fun n c h=>?_,fun n h=>?_,by simp,fun i j x h=>?_⟩
 ·rcases names y hy with q | q <;> rw [q] at z <;> cases z
 ·simp at h
 ·rw [same] at h;rcases h with h | h
  ·have:=names _ (PySem.mem_of_lookup h);simp at this
  ·have:=names _ (PySem.mem_of_lookup h);simp at this
 ·rw [List.getElem?_replicate] at h
  split at h <;> simp at h
section
variable {X:Cx} {pins sU:List (aA × Obj)} {σ:St} {H:Hp} {s:aX} {scope:Scope} {cl:List (Str × aA)} {N':List Str} {cap:List (Option Nat)} {fp:List aA} {E':aB->aX->Prop}
theorem YS (I:Inv X pins σ H s) (O:jk X scope cl N' cap) (hf:∀ b ∈ fp,oK X pins H b) (hlt:∀ b ∈ fp,b < s.heap.objs.size):(jj X scope cl N' s H fp sU E').Ok:=by
 refine ⟨I.ok.mod,O.kind,I.ok.glob,I.ok.blt,aO _,fun x y c h1 h2=>I.ok.inj x y c (O.sub _ _ h1) (O.sub _ _ h2),fun x hx=>O.has x hx,(fun x c h=>nomatch h),I.ok.hd,I.ok.frames,.inl rfl,fun b hb=>⟨Nat.ne_of_lt (hlt b hb),fun x c e=>(hf b hb).2.2.2.2.1 x c (O.sub _ _ e)⟩,I.bs,bJ I.ok.Ot I.sz,fun b o e hb=>?_,fun b hb z=>?_,I.stack,I.yR⟩
 ·rcases (hf b hb).2.2.2.1 with z | z
  ·exact I.ok.Ou b o e z
  ·exact absurd (bA (Heap.lt_size e) (bJ I.ok.Ot z)) (cR _)
 ·exact (aR.mp (I.wI b z)).elim (fun y=>(hf b hb).2.1 y) fun y=>(hf b hb).2.2.1 y
theorem R3 {h':Heap} {t':Nat} {m':Str->Option aB} (I:Inv X pins σ H s) (O:jk X scope cl N' cap) (hf:∀ b ∈ fp,oK X pins H b) (hlt:∀ b ∈ fp,b < s.heap.objs.size) (hn:h'.Ns s.heap.objs.size m') (hk:∀ b o,s.heap.get? b=some o->h'.get? b=some o) : Inv (jj X scope cl N' s H fp (X.pn++pins) E') [] (jy cap σ) H { s with heap:=h',toks:=t' }:=by
 refine ⟨YS I O hf hlt,rfl,I.bare,Un.kept hk,⟨m',hn,fun i x v e1 e2 e3=>?_⟩,fun x c e=>?_,I.hok.fresh (aO _),fun x c e=>I.jY x c (O.sub _ _ e),fun p hp=>?_,I.hok.kept hk,?_⟩
 ·unfold jy at e2;rw [aJ] at e2;cases q:cap[i]? with
  | none=>rw [q] at e2; cases e2
  | some o =>
   rw [q] at e2;cases o with
   | none=>cases e2
   | some j =>
    have e2':(σ[j]?).join=some v:=by simpa using e2
    have e4:σ[j]?=some (some v):=by
     cases z:σ[j]? with
     | none=>rw [z] at e2'; cases e2'
     | some y=>rw [z] at e2'; simp at e2'; rw [e2']
    obtain ⟨h1,h2,h3⟩:=O.ah2 i j x q e1;obtain ⟨m,_,hl⟩:=I.loc;obtain ⟨u,ru,l⟩:=hl j x v h1 e4 (.inr (.inl h2));rcases l with ⟨l,_⟩ | ⟨_,c,l,z⟩
    ·have l':X.env.scope.names.lookup x=some .local:=l;rw [h2] at l'; cases l'
    ·obtain ⟨c',hc'⟩:=O.has x (.inl h3);have:=O.sub _ _ hc';rw [l] at this; cases this;exact ⟨u,ru,.inr ⟨.inl h3,c,hc',z.keeps hk⟩⟩
 ·obtain ⟨v,z⟩:=I.cell x c (O.sub _ _ e);exact ⟨v,z.keeps hk⟩
 ·obtain ⟨e,n,ne,nf,d⟩:=I.pin p (by simpa using hp);refine ⟨hk _ _ e,n,Nat.ne_of_lt (Heap.lt_size e),fun z=>?_,d⟩;exact (aR.mp (I.wI _ z)).elim ne nf
 ·simp [jy,O.len]
theorem comp_back {p8:List (aA × Obj)} {σ':St} {H':Hp} {s':aX} (I:Inv X pins σ H s) (hf:∀ b ∈ fp,oK X pins H b) (J:Inv (jj X scope cl N' s H fp sU E') p8 σ' H' s'):Inv X pins σ H' s' := I.call' (ch:=fp) J.os J.base J.hok J.bare fun b hb=>⟨(hf b hb).2.2.2.1,(hf b hb).2.1,(hf b hb).2.2.2.2.1,(hf b hb).2.2.2.2.2⟩
end
abbrev GF (ifs:List Expr) (env:Env):Sem Bool := forIn ifs true fun c r=>if r=true then do let ok <- isTrue c env (eval c env); pure (ForInStep.yield ok) else pure (ForInStep.yield r)
section
variable {prog:cC} {w:World} {A:d7} {s:aX} {R:Result->aX->Prop} {elt target iter:Expr} {ifs:List Expr} {scope:Scope} {pos:Pos} {it acc:aB} {env:Env}
abbrev tL (prog:cC) (w:World) (A:d7) (env:Env) (R:Result->aX->Prop):aB->aX->Prop:=notedBy (model prog w) A env fun x s'=>R (.error x) s'
noncomputable abbrev turnOf (prog:cC) (w:World) (A:d7) (env:Env) (R:Result->aX->Prop) (target elt:Expr) (ifs:List Expr) (it acc:aB) (J:Nat->aX->Prop) (n:Nat):Option aB->aX->Prop
 | none,s₁=>R (.ok .next) s₁
 | some v,s₁=>wpAny (model prog w) A (letOwnedTupleGo target it v) (fun _ a=>wpAny (model prog w) A (assign target env v) (fun _ b=>wpAny (model prog w) A (GF ifs env) (fun ok c =>
  if ok=true then wpAny (model prog w) A (eval elt env) (fun y d=>wpAny (model prog w) A (call (.builtin "list.append") [acc,y]) (fun _ z=>∃ m,m < n/\J m z) (tL prog w A env R) d) (tL prog w A env R) c
  else ∃ m,m < n/\J m c) (tL prog w A env R) b) (tL prog w A env R) a) (tL prog w A env R) s₁
theorem En (J:Nat->aX->Prop) (go:∀ n s,J n s->wpAny (model prog w) A (pyNext it) (turnOf prog w A env R target elt ifs it acc J n) (tL prog w A env R) s) (n:Nat) (h:J n s) : codeAny (model prog w) A (.compLoop (.ListComp elt [⟨target,iter,ifs,0⟩] scope pos) 0 it acc env) R s := codeAny_loop rfl J (fun m a ha=>wpAny_noted (by
 rw [compTurn_list];refine aj (wpAny_standAt (aj (fV (go m a ha) fun r b hb=>?_)))
 match r,hb with
 | none,hb=>exact au hb
 | some v,hb =>
  refine aj (fV hb fun _ c hc=>aj (fV hc fun _ d hd=>aj (fV hd fun ok f hf=>?_)))
  match ok,hf with
  | false,hf=>exact au ⟨rfl,hf⟩
  | true,hf=>exact aj (aj (fV hf fun y g hg=>aj (fV hg fun _ z hz=>au (au ⟨rfl,hz⟩)))))) n h
end
def PTs (X:Cx) (ifs:List Expr) (t:TT):Prop := ∀ (pins:List (aA × Obj)) (s:aX) (σ:St) (H:Hp) (Q:Bool->Hp->Prop),Inv X pins σ H s->t σ H Q -> wpAny (model X.prog X.w) X.A (GF ifs X.env) (TP X pins σ Q) X.xe s
def J1:TT:=fun _ H Q=>Q true H
theorem jf {X:Cx}:PTs X [] J1:=fun _ _ _ H _ I h=>wpAny_tests_nil ⟨H,I,h⟩
theorem vo {X:Cx} {c:Expr} {t:TT} (h:PT X c t):PTs X [c] t:=fun pins s σ H Q I hw=>wpAny_tests_one (h pins s σ H Q I hw)
def qd (σ0 σ2:St):Prop:=∀ (j:Nat) v,σ0[j]?=some (some v)->σ2[j]?=some (some v)
theorem GJ {n j:Nat} {σ:St} {v:V}:¬ (jy (List.replicate n none) σ)[j]?=some (some v):=by
 unfold jy;rw [aJ,List.getElem?_replicate]
 split <;> intro h <;> simp at h
theorem g8 {n:Nat} {σ σ2:St}:qd (jy (List.replicate n none) σ) σ2:=fun _ _ h=>absurd h GJ
noncomputable def yj (D:aA) (J:It) (σ0:St) (g:TG) (tc:TT) (te:TE) (Qe:Hp->Prop) (W:Nat->Nat->List V->Hp->Prop):Prop := ∀ i m acc H',W i m acc H'->H' D=some (.lst acc)/\((J.stop i H'/\Qe H')\/(J.go i H'/\acc.length < sizeLine /\ ∀ x yp,J.Rw i H' x yp->g x σ0 yp fun σ2 H2=>qd σ0 σ2/\tc σ2 H2 fun b H3=>if b=true then te σ2 H3 fun y H4=>H4 D=some (.lst acc)/\∃ m',m' < m/\W (i + 1) m' (acc++[y]) (upd H4 D (.lst (acc++[y])))
 else ∃ m',m' < m/\W (i + 1) m' acc H3))
def abf (cap:List (Option Nat)) (wi:TI) (g:TG) (tc:TT) (te:TE):TE:=fun σ H Q=>wi σ H fun J H1=>∀ D,H1 D=none -> ∃ W:Nat->Nat->List V->Hp->Prop,(∃ m,W 0 m [] (upd H1 D (.lst [])))/\yj D J (jy cap σ) g tc te (Q (.ref D)) W
section
variable {X:Cx} {scope:Scope} {cl:List (Str × aA)} {N':List Str} {cap:List (Option Nat)} {target iter elt:Expr} {ifs:List Expr} {pos:Pos} {wi:TI} {g:TG} {tc:TT} {te:TE} {E:XK} {L:aA}
theorem zK {pins:List (aA × Obj)} {σ:St} {H2:Hp} {s2:aX} {it:aA} {fp:List aA} {tn:Nat->Heap->Prop} {J:It} {Qe:aA->Hp->Prop} {E₀:aB->aX->Prop} {RR:aB->aA->Result->aX->Prop} (acc:yL X E) (hc:X.calm=true) (F:vh X L) (O:jk X scope cl N' cap) (hg:∀ s₀ H₀ fp sU E',PG (jj X scope cl N' s₀ H₀ fp sU E') target g) (ht:∀ s₀ H₀ fp sU E',PTs (jj X scope cl N' s₀ H₀ fp sU E') ifs tc) (he:∀ s₀ H₀ fp sU E',yL (jj X scope cl N' s₀ H₀ fp sU E') E->PE (jj X scope cl N' s₀ H₀ fp sU E') elt te) (I2:Inv X pins σ H2 s2) (T:Turn X.prog X.w X.K target J fp it tn) (st2:tn 0 s2.heap) (f2:∀ b ∈ fp,oK X pins H2 b) (hq:∀ D,H2 D=none->∃ W:Nat->Nat->List V->Hp->Prop,(∃ m,W 0 m [] (upd H2 D (.lst [])))/\yj D J (jy cap σ) g tc te (Qe D) W) (hok:∀ D C s',(∃ m,s'.heap.Ns C m)->Loose X pins (fun _=>none) C->(∃ H',Inv X pins σ H' s'/\H' C=none/\Qe D H')->RR (.ref D) C (.ok .next) s') (azG:∀ D C x s',(∃ m,s'.heap.Ns C m)->(∀ h',Heap.SameBut C s'.heap h'->∀ cenv:Env,cenv.locals=C->wpAny (model X.prog X.w) X.A (passOn "comprehension.variables-let-go" x cenv:Sem aB) (fun _ _=>False) X.xe { s' with heap:=h' })->RR (.ref D) C (.error x) s') :
  wpAny (model X.prog X.w) X.A (newList []) (fun O6 s₃=>wpAny (model X.prog X.w) X.A (newFunctionEnv scope X.env.globals cl [] X.env.qual none .none (some X.env)) (fun cenv s₄ =>
   codeAny (model X.prog X.w) X.A (.compStart (.ListComp elt [⟨target,iter,ifs,0⟩] scope pos) 0 (.ref it) O6 { cenv with scope:=relabel scope X.env }) (RR O6 cenv.locals) s₄) E₀ s₃) E₀ s2:=by
 refine wpAny_newObj_type ?_;obtain ⟨W,⟨m0,w0⟩,turn⟩:=hq s2.heap.objs.size (I2.hok.fresh (aO _));have I3:Inv X pins σ (upd H2 s2.heap.objs.size (.lst [])) { s2 with heap:=s2.heap.push { cls:=.type "list",dict:=none,data:=.seq ([]:List aB).toArray } } :=
  I2.laid (t':=s2.toks) (fun b u e=>aq _ e) (aO _) ⟨dG _,[],_,.nil,aN _ rfl⟩
 have hfD:∀ b ∈ fp,b≠s2.heap.objs.size:=fun b hb z=>by
  obtain ⟨o,e,_⟩:=T.obj 0 _ st2 b hb;exact absurd (Heap.lt_size e) (by rw [z]; exact cR _)
 generalize hs3:({ s2 with heap:=s2.heap.push { cls:=.type "list",dict:=none,data:=.seq ([]:List aB).toArray } }:aX)=s3 at I3 ⊢;have k23:∀ b o,s2.heap.get? b=some o->s3.heap.get? b=some o:=fun b o e=>by rw [<- hs3]; exact aq _ e
 have f3:∀ b ∈ fp,oK X pins (upd H2 s2.heap.objs.size (.lst [])) b:=fun b hb=>⟨by rw [bf (hfD b hb)]; exact (f2 b hb).1,(f2 b hb).2⟩
 have hlt:∀ b ∈ fp,b < s3.heap.objs.size:=fun b hb=>by
  obtain ⟨o,e,_⟩:=T.obj 0 _ st2 b hb;exact Heap.lt_size (k23 b o e)
 have st3:tn 0 s3.heap:=T.keep 0 _ _ st2 fun b _ o e=>k23 b o e
 refine wpAny_newFunctionEnv O.qz (fun x hx=>nomatch hx) (fun h' hns hsb=>?_) O.kind;have k34:∀ b o,s3.heap.get? b=some o->h'.get? b=some o:=fun b o e=>(hsb.2 b (Nat.ne_of_lt (Heap.lt_size e))).trans (aq _ e)
 have lC:Loose X pins (upd H2 s2.heap.objs.size (.lst [])) s3.heap.objs.size:=I3.oR (Heap.get?_none_of_le (aO _));have lC0:Loose X pins (fun _=>none) s3.heap.objs.size:=⟨rfl,lC.2⟩
 let NE:aB->aX->Prop:=tL X.prog X.w X.A (compEnvC scope cl s3.heap.objs.size X.env) (RR (.ref s2.heap.objs.size) s3.heap.objs.size)
 let Y0:Cx:=jj X scope cl N' s3 (upd H2 s2.heap.objs.size (.lst [])) fp (X.pn++pins) NE
 have I4:∀ t',Inv Y0 [] (jy cap σ) (upd H2 s2.heap.objs.size (.lst [])) { s3 with heap:=h',toks:=t' }:=fun t'=>R3 I3 O f3 hlt hns k34
 have loop:∀ s4:aX,Inv Y0 [] (jy cap σ) (upd H2 s2.heap.objs.size (.lst [])) s4->tn 0 s4.heap ->
   codeAny (model X.prog X.w) X.A (.compLoop (.ListComp elt [⟨target,iter,ifs,0⟩] scope pos) 0 (.ref it) (.ref s2.heap.objs.size) (compEnvC scope cl s3.heap.objs.size X.env)) (RR (.ref s2.heap.objs.size) s3.heap.objs.size) s4:=by
  intro s4 I4 st4;have stat:∀ {H':Hp},(∀ b ∈ fp,H' b=none)->∀ b ∈ fp,oK Y0 [] H' b:=fun {H'} hn b hb =>
   ⟨hn b hb,Nat.ne_of_lt (hlt b hb),fun z=>(aR.mp (I3.wI b z)).elim (fun y=>(f3 b hb).2.1 y) fun y=>(f3 b hb).2.2.1 y,.inl hb,fun x c e=>(f3 b hb).2.2.2.2.1 x c (O.sub _ _ e),fun p hp=>(f3 b hb).2.2.2.2.2 p (by have q:p ∈ (X.pn++pins)++[]:=hp; simpa using q)⟩
  refine En (fun n s'=>∃ i ac H',Inv Y0 [] (jy cap σ) H' s'/\tn i s'.heap/\(∀ b ∈ fp,H' b=none)/\W i n ac H') ?_ m0 ⟨0,[],_,I4,st4,fun b hb=>(f3 b hb).1,w0⟩;rintro n s5 ⟨i,ac,H5,I5,st5,fr5,w5⟩;obtain ⟨hD5,alt⟩:=turn i n ac H5 w5;rcases alt with ⟨stop,qe⟩ | ⟨go,hsz,step⟩
  ·refine fV (T.done Y0 rfl rfl rfl hc i [] s5 _ H5 NE I5 (stat fr5) st5 stop) fun r s6 ⟨hr,I6⟩=>?_
   subst hr;obtain ⟨m,hn,_⟩:=I6.loc;exact hok _ _ s6 ⟨m,hn⟩ lC0 ⟨H5,comp_back I3 f3 I6,I6.free,qe⟩
  ·refine fV (T.item Y0 rfl rfl rfl hc i [] s5 _ H5 NE I5 (stat fr5) st5 go) fun r s6 ⟨u,hr,h6⟩=>?_
   subst hr;refine fV h6 fun _ s7 ⟨x,H7,I7,r7,y7,st7,fr7⟩=>?_
   have I7p:=I7.pinned (stat fr7) (T.obj _ _ st7);have I7t:=I7p.Bv NE
   let Y1:Cx:=jj X scope cl N' s3 (upd H2 s2.heap.objs.size (.lst [])) fp ((X.pn++pins)++([]++qu fp s7.heap)) NE
   have I7y:Inv Y1 [] (jy cap σ) H7 s7:=I7t;have ac1:yL Y1 E:=by
    intro p8 σ' H' s' e cls dx I' fl q;have nfp:e ∉ fp/\∀ t,Loose Y1 p8 H' t->t ∉ fp:=by
     have nn:∀ t,Loose Y1 p8 H' t->t ∉ fp:=fun t l hb=>by
      obtain ⟨o,eo,_⟩:=T.obj _ _ st7 t hb;exact l.2.2.2.2.2 (t,o) (mem_append_left _ (mem_append_right _ (mem_append_right _ (j6 hb eo)))) rfl
     obtain ⟨_,_,l,_⟩:=fl;exact ⟨nn e l,nn⟩
    show wpAny (model X.prog X.w) X.A (noteFrame (.ref e) _) _ _ s'
    obtain ⟨env₀,outer,es,hf₀,hf⟩:=F;refine J0 (X:=Y1) I' I'.ok.frames ⟨env₀,outer,es,hf₀,hf⟩ fl fun s8 I8 f8=>?_
    obtain ⟨t8,x8,le8,lt8⟩:=f8;obtain ⟨m,hn8,_⟩:=id I8.loc;refine azG _ _ _ s8 ⟨m,hn8⟩ fun h' sb cenv hcl=>?_
    have J8:Inv X pins σ H' s8:=comp_back I3 f3 I8;have lX:∀ b,Loose Y1 p8 H' b->Loose X pins H' b:=fun b l=>⟨l.1,(I3.oR (l.2.2.2.1 (nfp.2 b l))).2⟩
    have nC:∀ b,Loose Y1 p8 H' b->b≠s3.heap.objs.size:=fun b l=>l.2.1
    have J9:Inv X pins σ H' { s8 with heap:=h' }:=J8.qy (t':=s8.toks) (ch:=[s3.heap.objs.size]) (fun b hb=>by rw [aC.mp hb]; exact ⟨I8.free,lC.2⟩)
     (fun b o _ hc' z=>(sb.2 b fun y=>hc' (by rw [y]; exact mem_cons_self)).trans z) (fun b o hc' z=>⟨o.slots,(sb.2 b fun y=>hc' (by rw [y]; exact mem_cons_self)).trans z⟩)
    have x9:Exc h' e cls dx (some t8):=x8.keeps fun b o hb z=>(sb.2 b (by
     rcases hb with y | y
     ·rw [y]; exact nC e le8
     ·cases y; exact nC _ lt8)).trans z
    unfold PySem.passOn;obtain ⟨oe,vs,he9,hc9,hd9,hv9,h19,_⟩:=id x9;refine aj (wpAny_field he9 hv9 h19 ?_);rw [if_neg (by simp)];refine aj (vm (X:=X) J9 ⟨t8,x9,lX _ le8,lX _ lt8⟩ fun Mt I10 f10=>?_);exact wpAny_throw (acc pins σ H' Mt e cls dx I10 f10.fly q)
   refine fV (hg s3 _ fp _ NE [] s7 _ H7 x u _ I7y r7 (step x H7 y7)) fun _ s8 ⟨σ8,H8,I8,kp8,q8⟩=>?_
   refine fV (ht s3 _ fp _ NE [] s8 σ8 H8 _ I8 q8) fun ok s9 ⟨H9,I9,q9⟩=>?_
   have again:∀ {H':Hp} {s':aX} {ac':List V},Inv Y1 [] σ8 H' s'->(∃ m',m' < n/\W (i + 1) m' ac' H') ->
     ∃ m,m < n/\∃ i ac H',Inv Y0 [] (jy cap σ) H' s'/\tn i s'.heap/\(∀ b ∈ fp,H' b=none)/\W i m ac H':=fun {H' s' ac'} I' ⟨m',hm,w'⟩=>by
    have I0:Inv Y0 ([]++qu fp s7.heap) σ8 H' s':=Inv.El (X:=Y0) (pins:=[]++qu fp s7.heap) I5.ok I';have apl:∀ b ∈ fp,∀ o,s7.heap.get? b=some o->s'.heap.get? b=some o/\H' b=none:=fun b hb o e=>by
     have z:=I0.pin (b,o) (mem_append_right _ (mem_append_right _ (j6 hb e)));exact ⟨z.1,z.2.1⟩
    refine ⟨m',hm,i + 1,ac',H',(Inv.mj (pins:=[]) (pl:=qu fp s7.heap) I0).weak (by rw [I0.len]; show _=N'.length; simp [jy,O.len]) kp8,T.keep _ _ _ st7 fun b hb o e=>(apl b hb o e).1,fun b hb=>?_,w'⟩;obtain ⟨o,e,_⟩:=T.obj _ _ st7 b hb;exact (apl b hb o e).2
   cases ok with
   | false =>
    rw [if_neg Bool.false_ne_true] at q9 ⊢;exact again I9 q9
   | true =>
    rw [if_pos rfl] at q9 ⊢;refine fV (he s3 _ fp _ NE ac1 [] s9 σ8 H9 _ I9 q9) fun yv Mt ⟨y,H10,I10,r10,azJ,q10⟩=>?_
    refine fV (fX (X:=Y1) [] Mt σ8 H10 (.ref s2.heap.objs.size) [y] (.ref s2.heap.objs.size) [yv] (fun _ H'=>H'=upd H10 s2.heap.objs.size (.lst (ac++[y]))) I10 rfl (.cons r10 .nil) ⟨_,ac,y,rfl,rfl,azJ,hsz,rfl⟩) fun _ R4 ⟨_,H11,I11,_,e11⟩=>?_
    subst e11;exact again I11 q10
 have ah3:tn 0 h':=T.keep 0 _ _ st3 fun b _ o e=>k34 b o e
 exact codeAny_compStart_list (loop _ (I4 _) ah3) (T.self _ 0 _ _ _ ah3 (loop _ (I4 _) ah3))
theorem jg (acc:yL X E) (hc:X.calm=true) (F:vh X L) (O:jk X scope cl N' cap) (hi:PI X target iter wi) (hg:∀ s₀ H₀ fp sU E',PG (jj X scope cl N' s₀ H₀ fp sU E') target g) (ht:∀ s₀ H₀ fp sU E',PTs (jj X scope cl N' s₀ H₀ fp sU E') ifs tc) (he:∀ s₀ H₀ fp sU E',yL (jj X scope cl N' s₀ H₀ fp sU E') E->PE (jj X scope cl N' s₀ H₀ fp sU E') elt te) (hs:autoParam (∀ x,foldedSetIterable iter X.env x=pure x) zau3):PE X (.ListComp elt [⟨target,iter,ifs,0⟩] scope pos) (abf cap wi g tc te):=by
 intro pins s σ H Q I h;rw [eval_ListComp];refine wpAny_comprehension_free (use:=none) rfl hs O.clos O.kind O.names (fV (hi pins s σ H _ I h) fun xv s₁ h₁=>fV h₁ fun itv s₂ h₂=>?_);obtain ⟨it,fp,tn,J,H2,e,I2,T,st2,f2,q⟩:=h₂;subst e;refine zK (RR:=fun O6 C=>compPost (model X.prog X.w) X.A X.xe none (EP X pins σ Q) O6 C) (Qe:=fun D=>Q (.ref D)) acc hc F O hg ht he I2 T st2 f2 q ?_ ?_
 ·rintro D C s' ⟨m,hn⟩ lC ⟨H',I',hC,q'⟩;refine ⟨m,hn,fun h' sb=>⟨.ref D,H',I'.qy (t':=s'.toks) (ch:=[C]) (fun b hb=>by rw [aC.mp hb]; exact ⟨hC,lC.2⟩) (fun b o _ hc' z=>(sb.2 b fun y=>hc' (by rw [y]; exact mem_cons_self)).trans z) (fun b o hc' z=>⟨o.slots,(sb.2 b fun y=>hc' (by rw [y]; exact mem_cons_self)).trans z⟩),rfl,q'⟩⟩
 ·rintro D C x s' ⟨m,hn⟩ k;exact ⟨m,hn,k⟩
theorem vq {i:Nat} {y:Str} {py spos:Pos} (hN:X.N.Nodup) (hi':X.N[i]?=some y) (hx:Loc X.env.scope y) (acc:yL X E) (hc:X.calm=true) (F:vh X L) (O:jk X scope cl N' cap) (hi:PI X target iter wi) (hg:∀ s₀ H₀ fp sU E',PG (jj X scope cl N' s₀ H₀ fp sU E') target g) (ht:∀ s₀ H₀ fp sU E',PTs (jj X scope cl N' s₀ H₀ fp sU E') ifs tc) (he:∀ s₀ H₀ fp sU E',yL (jj X scope cl N' s₀ H₀ fp sU E') E->PE (jj X scope cl N' s₀ H₀ fp sU E') elt te) (hsw:autoParam (swapsWith (.ListComp elt [⟨target,iter,ifs,0⟩] scope pos) (some (.Name y py)) spos.line X.env=pure true) zau0) (hs:autoParam (∀ x,foldedSetIterable iter X.env x=pure x) zau3) (hf:autoParam (X.fn y=true\/X.env.scope.names.lookup y=some .local) zau2) : PS X (.Assign [.Name y py] (.ListComp elt [⟨target,iter,ifs,0⟩] scope pos) spos) (ahD (abf cap wi g tc te) (Mh i)):=by
 intro pins s σ H D I h;rw [exec_Assign_Name_used y py _ spos hsw];refine aj (wpAny_standAt ?_);refine aj ?_
 show wpAny _ X.A (do let _ <- comprehension (.ListComp elt [⟨target,iter,ifs,0⟩] scope pos) scope X.env _ (newList []) false (eval iter X.env) (some (assign (.Name y py) X.env))) _ _ s
 refine aj (eU (wpAny_comprehension_free (use:=some (assign (.Name y py) X.env)) (Q:=fun _ s'=>SP X pins D .next s') rfl hs O.clos O.kind O.names (fV (hi pins s σ H _ I h) fun xv s₁ h₁=>fV h₁ fun itv s₂ h₂=>?_)) (fun _ s' hq=>au (au hq)) fun _ _ e=>e);obtain ⟨it,fp,tn,J,H2,e,I2,T,st2,f2,q⟩:=h₂;subst e;refine zK (RR:=fun O6 C=>compPost (model X.prog X.w) X.A X.xe (some (assign (.Name y py) X.env)) (fun _ s'=>SP X pins D .next s') O6 C) (Qe:=fun Dl H1=>D.nx (σ.set i (some (.ref Dl))) H1) acc hc F O hg ht he I2 T st2 f2 q ?_ ?_
 ·rintro Dl C s' ⟨m,hn⟩ lC ⟨H',I',hC,q'⟩
  show wpAny _ X.A (assign (.Name y py) X.env (.ref Dl)) _ _ s'
  refine wpAny_assign_Name (BW I' hN hi' hx (show RelV (.ref Dl) (.ref Dl) from rfl) (fun s'' I'' hsb=>?_) hf);obtain ⟨a,sba,ha⟩:=hsb;have nCa:C≠a:=by
   rcases ha with z | z
   ·rw [z]; exact lC.2.1
   ·exact Ne.symm (lC.2.2.2.2.1 _ _ z)
  refine ⟨m,hn.sameBut sba nCa,fun h' sb=>⟨_,H',I''.qy (t':=s''.toks) (ch:=[C]) (fun b hb=>by rw [aC.mp hb]; exact ⟨hC,lC.2⟩) (fun b o _ hc' z=>(sb.2 b fun y=>hc' (by rw [y]; exact mem_cons_self)).trans z) (fun b o hc' z=>⟨o.slots,(sb.2 b fun y=>hc' (by rw [y]; exact mem_cons_self)).trans z⟩),q'⟩⟩
 ·rintro D C x s' ⟨m,hn⟩ k;exact ⟨m,hn,k⟩
end
structure oU (k:Nat) (A:d7):Prop where
 dp:A.depth + 3 * k + 5 < recursionLimit
 un:A.units + 16 * k + 200 < cLine
theorem d8.toH {k:Nat} {A:d7} (r:d8 k A):oU k A:=⟨r.dp,r.un⟩
theorem oU.deeper {k:Nat} {A:d7} (r:oU (k + 1) A) (env:Env):oU k (A.deeper env) := ⟨by have:=r.dp; show A.depth + 1 + 3 * k + 5 < _; omega,by have:=r.un; show A.units + 3 + 16 * k + 200 < _; omega⟩
structure Cr (P:cC) (w:World) (K:Fg) (mg:Str->Option aB) (base:Heap) (CX:Gj) (k:Nat) (f:aA) (fd:fQ) (ps:List Str) (sp:Sp):Prop where
 len:∀ vs H Q E,sp vs H Q E->vs.length=ps.length
 run:∀ (A:d7) (outer:List Env) (s:aX) (H:Hp) (args:Args) (us:List aB) (vs:List V) (Q:VK) (E:XK),oU k A->Gq P w K mg base A outer s H->BindsTo s fd args (ps.zip us)->Vals vs us->sp vs H Q E -> codeAny (model P w) A (.call (.ref f) args) (CR CX outer P w H s Q E) s
abbrev Mu (CX:Gj) (P:cC) (w:World) (K:Fg) (mg:Str->Option aB) (base:Heap) (N:List Str) (qual:Str) (scope:Scope) (f:aA) (cd:aB) (A:d7) (outer:List Env) (s:aX) (H:Hp) (E:XK):Cx := { oO CX P w K mg base N qual scope f cd A outer s H E with calm:=false }
theorem ah4 {CX:Gj} {P:cC} {w:World} {K:Fg} {mg:Str->Option aB} {base:Heap} {k:Nat} {f:aA} {name qual:Str} {params:Arguments} {body:List dW} {scope:Scope} {dV kV doc pm cdv ct oc:aB} {an od:Option aA} {osl:Array (Option aB)} {N ps:List Str} {sp:Sp} (lk:K.lookup f=some ⟨oc,od,.func (fnOf name qual params body scope dV kV doc pm an cdv ct),osl⟩) (hcd:codeIn K cdv qual=true) (S:bV N ps scope) (len:∀ vs H Q E,sp vs H Q E->vs.length=ps.length) (hbody:∀ (A:d7) (outer:List Env) (s:aX) (H:Hp) (vs:List V) (Q:VK) (E:XK),oU k (A.deeper (envOfC qual scope s.heap.objs.size f cdv))->sp vs H Q E -> ∃ t,Br (Mu CX P w K mg base N qual scope f cdv A outer s H E) body t/\t { nx:=fun _ H'=>Q .non H',rt:=Q } (start N vs) H) : Cr P w K mg base CX (k + 1) f (fnOf name qual params body scope dV kV doc pm an cdv ct) ps sp:=by
 refine ⟨len,fun A outer s H args us vs Q E hr e0 hb r hsp=>?_⟩;have hl:=len _ _ _ _ hsp;have KX:K.In s.heap:=e0.mod.Xd.keeps fun b o e=>(e0.bs b o e).1
 have lim:s.heap.NoLimit:=e0.mod.nolimit.keeps fun b o e=>(e0.bs b o e).1
 have hkind:∀ y ∈ ps.zip us,scope.names.lookup y.1=some .local\/(scope.names.lookup y.1=some .cell/\((cellsFrom (s.heap.objs.size + 1) scope.names []).lookup y.1).isSome=true):=fun ⟨n,v⟩ hy=>by
  rcases S.par n (of_mem_zip hy).1 with q | q
  ·exact .inl q
  ·exact .inr ⟨q,cellsFrom_some _ _ _ (.inl q)⟩
 have azK:A.depth < recursionLimit:=by have:=hr.dp; omega
 refine codeAny_call_function azK (KX _ _ lk) rfl S.co S.gen rfl (codeRec_of KX hcd) (hb _ _ _ _ ?_);refine wpAny_newFunctionEnv_cells S.kind hkind fun env he s1 x=>?_
 subst he;refine ⟨lim.keeps x.toInCall.keep,codeAny_func ?_⟩;obtain ⟨t,ht,hq⟩:=hbody A outer s H vs Q E (hr.deeper _) hsp;have I0:Inv (oO CX P w K mg base N qual scope f cdv { A with handled:=none } outer s H E) [] (start N vs) H s1 :=
  Cj S rfl ⟨e0.frames,e0.mod,e0.bs,e0.Ot,e0.sY,e0.Yo,e0.hok,e0.bare⟩ hl r x
 have I:Inv (Mu CX P w K mg base N qual scope f cdv A outer s H E) [] (start N vs) H s1 :=
  ⟨⟨I0.ok.mod,I0.ok.kind,I0.ok.glob,I0.ok.blt,I0.ok.above,I0.ok.inj,I0.ok.has,I0.ok.cab,(fun z=>nomatch z),Around.frames_deeper e0.frames,I0.ok.stk,I0.ok.exf,I0.ok.bs,I0.ok.Ot,I0.ok.Ou,I0.ok.Rt,I0.ok.sY,I0.ok.Yo⟩,I0.os,I0.bare,I0.base,I0.loc,I0.cell,I0.free,I0.jY,I0.pin,I0.hok,I0.len⟩
 refine eU (ht [] s1 (start N vs) H _ I hq) (fun fl s' hs=>?_) fun e s' hs=>hs
 have fin:∀ {σ':St} {H':Hp} {v:V} {u:aB},Inv (Mu CX P w K mg base N qual scope f cdv A outer s H E) [] σ' H' s'->RelV v u->Q v H'->CE outer P w H s Q u s' :=
  fun {σ' H' v u} J rv q=>⟨v,H',J.os,J.bare,J.base,J.hok,rv,q⟩
 cases fl with
 | ret u =>
  obtain ⟨v,σ',H',J,rv,q⟩:=hs;exact fin J rv q
 | next =>
  obtain ⟨σ',H',J,q⟩:=hs;exact fin (v:=V.non) (u:=Value.none) J rfl q
 | brk =>
  obtain ⟨_,_,_,q⟩:=hs;exact False.elim q
 | cont =>
  obtain ⟨_,_,_,q⟩:=hs;exact False.elim q
section
variable {X:Cx} {CX:Gj} {k:Nat} {f:aA} {fd:fQ} {ps:List Str} {sp:Sp} {uV:List V} {ds:List aB} {E:XK} {x:Str} {p pos:Pos} {e:Expr} {es:List Expr} {t:TA}
theorem YT {pins:List (aA × Obj)} {σ:St} {H:Hp} {s:aX} {Q:VK} {us:List aB} {vs:List V} (F:Cr X.prog X.w X.K X.mg X.base CX k f fd ps sp) (hr:oU k X.A) (hb:Binds X.K fd ps ds) (hd:Vals uV ds) (hx:Passes CX X E) (I:Inv X pins σ H s) (r:Vals vs us) (h:sp (vs++uV) H Q E):wpAny (model X.prog X.w) X.A (call (.ref f) us) (EP X pins σ Q) X.xe s:=by
 have r2:Vals (vs++uV) (us++ds):=r.append hd;have hl:(us++ds).length=ps.length:=by rw [<- r2.length]; exact F.len _ _ _ _ h
 refine wpAny_call (codeAny_mono (F.run X.A X.stack s H ⟨us,[]⟩ (us++ds) (vs++uV) Q E hr I.env0 (hb s us I.sG hl) r2 h) fun r s' hq=>?_);cases r with
 | error e=>exact hx pins σ H s e s' I hq
 | ok fl =>
  cases fl with
  | ret u=>exact I.after hq
  | next=>exact False.elim hq
  | brk=>exact False.elim hq
  | cont=>exact False.elim hq
theorem R5 (F:Cr X.prog X.w X.K X.mg X.base CX k f fd ps sp) (hr:oU k X.A) (hg:Gl X x) (hm:X.mg x=some (.ref f)) (hk:keepIn X.K (.ref f)=true) (hb:Binds X.K fd ps ds) (hd:Vals uV ds) (hx:Passes CX X E) (ha:PA X (e::es) t) (hdb:autoParam ((x == ("__debug__":Str))=false) zau1) (he:autoParam (starEach (e::es) X.env=(false,eval e X.env)::starEach es X.env) zau0) (hpl:autoParam ((backTo pos (starEach es X.env)).any (·.1)=false) zau0) : PE X (.Call (.Name x p) (e::es) [] pos) (Gs sp uV E t):=by
 intro pins s σ H Q I h;refine wpAny_Call_Name_kw (pC I hg hm ?_ hdb);refine callWith_K (h₀:=X.base) I.ok.mod.Xd hk (fV (ha pos pins s σ H _ I h) fun us s1 ⟨vs,H1,I1,r,q⟩=>⟨I1.sG,?_⟩) he hpl;exact YT F hr hb hd hx I1 r q
end
def jP:List Str->List Str
 | []=>[]
 | x::l=>x::(jP l).filter fun y=>decide (y≠x)
theorem zL {y:Str}:∀ {l:List Str},y ∈ jP l ↔ y ∈ l
 | []=>Iff.rfl
 | x::l=>by
  by_cases e:y=x
  ·simp [jP,e]
  ·simp [jP,e,zL (l:=l)]
theorem Eo:∀ l:List Str,(jP l).length<=l.length
 | []=>aO _
 | _::l=>Nat.succ_le_succ (bJ (length_filter_le _ _) (Eo l))
theorem Cu (v:Str):∀ l:List Str,jP (l++[v])=if v ∈ l then jP l else jP l++[v]
 | []=>by simp [jP]
 | x::l=>by
  have ih:=Cu v l
  by_cases e:v=x
  ·subst e
   by_cases m:v ∈ l <;> simp [jP,ih,m,cG]
  ·by_cases m:v ∈ l <;> simp [jP,ih,m,e,cG]
theorem Mv:∀ l:List Str,(jP l).length=l.length ↔ l.Nodup
 | []=>by simp [jP]
 | x::l=>by
  have le1:=length_filter_le (fun y=>decide (y≠x)) (jP l);have le2:=Eo l;have ih:=Mv l;have all:((jP l).filter fun y=>decide (y≠x)).length=(jP l).length ↔ ¬ x ∈ l:=by
   rw [List.length_filter_eq_length_iff];constructor
   ·intro h m;simpa using h x (zL.mpr m)
   ·intro h y hy;simpa using fun z:y=x=>h (z ▸ zL.mp hy)
  simp only [jP,length_cons,nodup_cons];constructor
  ·intro h;exact ⟨all.mp (by omega),ih.mp (by omega)⟩
  ·rintro ⟨h1,h2⟩;have:=all.mpr h1;have:=ih.mpr h2;omega
section
variable {prog:cC} {w:World} {A:d7} {E:aB->aX->Prop} {Q:aB->aX->Prop} {s:aX}
theorem Ep {T newId initId:String} {args:List aB} (ft:TypeCalled T newId initId) (ok:checkTypeCall T ⟨args,[]⟩=pure ()) (mk:codeAny (model prog w) A.in1 (.call (.builtin newId) ⟨.type T::args,[]⟩) (wants (fun obj a=>a.TypeIs obj T/\codeAny (model prog w) A.in1 (.call (.builtin initId) ⟨obj::args,[]⟩) (wants (fun r b=>r=.none/\Q obj b) E) a) E) s):wpAny (model prog w) A (call (.type T) args) Q E s:=by
 obtain ⟨c,tl,mro⟩:=ft.mro;have made:=ft.made; have sub:=ft.sub; have n1:=ft.notType; have n2:=ft.canCreate;have look:=ft.init.lookup;refine wpAny_call (codeAny_of_tree (show wpAny _ _ (callAny (.type T) _) _ _ _ from au ⟨Code.quiet_builtin _ (by decide +kernel),codeAny_builtin PySem.F.entry_type_call ?_⟩));have plain:=Around.under_plain (A:=A) (weight_type_call_type T args []) (units_type_call_type T args []);rw [plain]
 repeat any_goals first | assumption | wp_step
 refine codeAny_mono mk fun r a ha=>?_
 match r,ha with
 | .error _,ha=>exact ha
 | .ok (.ret obj),ha =>
  obtain ⟨ty,ini⟩:=ha;have bnd:=ft.init.bind obj
  repeat any_goals first | assumption | wp_step
  refine codeAny_mono ini fun r b hb=>?_
  match r,hb with
  | .error _,hb=>exact hb
  | .ok (.ret v),hb =>
   obtain ⟨rfl,q⟩:=hb
   repeat any_goals first | assumption | wp_step
theorem YW {S:aA} {done:List Str} {x:Str} {t:Tok} {Qu:Bool->aX->Prop} (small:(jP done).length + 1 < scanBound) (at_:s.heap.SetOf (strKind prog w) S (fun k=>decide (k ∈ done)) (jP done).length) (k:∀ h' tk b,Heap.SameBut S s.heap h'->h'.SetOf (strKind prog w) S (fun k=>decide (k ∈ done++[x])) (jP (done++[x])).length->Qu b { s with heap:=h',toks:=tk }):wpAny (model prog w) A (setAdd S (.str x t)) Qu E s:=by
 have is:(strKind prog w).is x (.str x t)=true:=by show Value.isStrOf x (.str x t)=true; simp [Value.isStrOf]
 unfold setAdd;refine wpAny_holding (aj ((strKind prog w).pyHash (k:=x) is (wpAny_setAddHashed_of (knd:=strKind prog w) (s:={ s with toks:=s.toks + 1 }) is rfl at_ small fun h' sb set=>k h' _ _ sb ?_)));refine SetOf_congr set (fun y=>?_) ?_
 ·simp [cM,Bool.decide_or]
 ·rw [Cu]
  by_cases m:x ∈ done <;> simp [m]
theorem GK {S I l:aA} {its:List aB} {ls:List Str} (calm:A.handled=none) (SI:S≠I) (Sl:S≠l) (lI:l≠I) (txt:Paired (fun x v=>∃ t,v=Value.str x t) ls its) (small:ls.length + 1 < scanBound) {R:Result->aX->Prop} : ∀ (todo done:List Str) (s:aX),ls=done++todo->s.heap.IsListIter I l done.length->s.heap.IsList l its.toArray->s.heap.SetOf (strKind prog w) S (fun k=>decide (k ∈ done)) (jP done).length -> (∀ h' tk,(∀ b o,b≠S->b≠I->s.heap.get? b=some o->h'.get? b=some o)->h'.SetOf (strKind prog w) S (fun k=>decide (k ∈ ls)) (jP ls).length->R (.ok (.ret .none)) { s with heap:=h',toks:=tk }) -> codeAny (model prog w) A (.builtin "set.update.loop" ⟨[.ref S,.ref I],[]⟩) R s
 | [],done,s,e,it,li,at_,k=>by
  have e':ls=done:=by simpa using e
  have len:=txt.length;refine codeAny_builtin PyProof.Rows.F.entry_set_update_loop ?_;rw [Around.under_plainId PyProof.Rows.F.plain_set_update_loop _];refine aj (m:=pyNext (.ref I)) (wpAny_pyNext_list_end (by simpa using calm) it li (by rw [<- e']; simp [len]) fun h' ext=>?_);obtain ⟨o,es,ep,t,ho,more⟩:=at_;subst e';exact au (k h' s.toks (fun b o _ nI q=>ext b o nI q) ⟨o,es,ep,t,ext S o SI ho,more⟩)
 | x::todo,done,s,e,it,li,at_,k=>by
  have apm:done.length < ls.length:=by rw [e,aQ,length_cons]; omega
  have item:∃ t,its[done.length]?=some (Value.str x t):=by
   have at1:ls[done.length]?=some x:=by rw [e]; simp
   clear e it li at_ k apm small
   induction txt generalizing done with
   | nil=>simp at at1
   | @cons a b l₁ l₂ r rr ih =>
    cases done with
    | nil=>simp at at1; subst at1; obtain ⟨t,q⟩:=r; exact ⟨t,by simp [q]⟩
    | cons y ys=>exact ih ys (by simpa using at1)
  obtain ⟨t,item⟩:=item;have room:(jP done).length + 1 < scanBound:=by have:=Eo done; omega
  refine codeAny_builtin PyProof.Rows.F.entry_set_update_loop ?_;rw [Around.under_plainId PyProof.Rows.F.plain_set_update_loop _];refine aj (m:=pyNext (.ref I)) (wpAny_pyNext_list_item it li (x:=Value.str x t) (by simpa using item) fun h' it' sb=>?_);obtain ⟨o,es,ep,tb,ho,more⟩:=at_;refine aj (wpAny_holding (YW (s:={ s with heap:=h' }) room ⟨o,es,ep,tb,(sb.2 S SI).trans ho,more⟩ fun g tk b sg set=>?_));refine au ⟨plainId_quiet PyProof.Rows.F.plain_set_update_loop _,GK calm SI Sl lI txt small todo (done++[x]) _ (by simp [e]) ?_ ?_ set fun g' tk' keep fin=>?_⟩
  ·rw [aQ];exact it'.at fun o q=>(sg.2 I (Ne.symm SI)).trans q
  ·exact (li.at fun o q=>(sb.2 l lI).trans q).at fun o q=>(sg.2 l (Ne.symm Sl)).trans q
  ·exact k g' tk' (fun b o nS nI q=>keep b o nS nI ((sg.2 b nS).trans ((sb.2 b nI).trans q))) fin
theorem Bw {l:aA} {its:List aB} {ls:List Str} (calm:A.handled=none) (li:s.heap.IsList l its.toArray) (txt:Paired (fun x v=>∃ t,v=Value.str x t) ls its) (small:ls.length + 1 < scanBound) (k:∀ h' tk,h'.SetOf (strKind prog w) s.heap.objs.size (fun y=>decide (y ∈ ls)) (jP ls).length->(∀ b o,s.heap.get? b=some o->h'.get? b=some o)->Q (.ref s.heap.objs.size) { s with heap:=h',toks:=tk }) : wpAny (model prog w) A (call (Value.type "set") [Value.ref l]) Q E s:=by
 refine Ep PySem.F.called_set (PySem.F.typeCall_set_1 _) (code_set_new_1 (.ref l) fun led=>?_)
 let o₀:Obj:={ cls:=.type "set",dict:=none,data:=.set #[] 0 (.fresh 0 0 led) }
 have there:(s.heap.push o₀).get? s.heap.objs.size=some o₀:=aN s.heap rfl;have ty:Shared.TypeIs { s with heap:=s.heap.push o₀ } (.ref s.heap.objs.size) "set":=⟨o₀,there,rfl⟩;refine ⟨ty,codeAny_call_builtin PySem.F.called_set.init.plain PySem.F.entry_set_init (check_set_init_1 ty ?_)⟩;have lt:l < s.heap.objs.size:=by obtain ⟨o,q,_⟩:=li; exact Heap.lt_size q
 have YX:(s.heap.push o₀).IsList l its.toArray:=li.push o₀;obtain ⟨⟨c,d,dt,sl⟩,get,rfl,n,rfl⟩:=id YX;have azL:=PySem.F.sub_list_set; have amw:=PySem.F.sub_list_frozenset;have notDict:(Value.type "list" == Value.type "dict")=false:=by decide
 unfold Builtin.«set.__init__»;unfold noKeywords;unfold Builtin.Frozenset.updateFrom;generalize R6:pyIter=PI
 wp_walk
 subst R6;refine wpAny_pyIter_list YX (aj (wpAny_runValue ?_))
 let it₀:Obj:={ cls:=.type "list_iterator",data:=.fields #[.ref l,.int 0 0] }
 have R7:(s.heap.push o₀).objs.size=s.heap.objs.size + 1:=Heap.size_push _ _;refine GK (its:=its) (ls:=ls) (by simpa using calm) (by rw [R7]; exact Nat.ne_of_lt (Nat.lt_succ_self _)) (Nat.ne_of_gt lt) (by rw [R7]; exact Nat.ne_of_lt (Nat.lt_succ_of_lt lt)) txt small ls [] _ rfl ⟨it₀,aN _ rfl,rfl,rfl⟩ (YX.push it₀) ?_ fun h' tk keep fin=>?_
 ·exact SetOf_congr ((setObjOf_fresh (knd:=strKind prog w) led).setOf (aq it₀ there) (by unfold scanBound; omega)) (fun y=>by simp) (by simp [jP])
 ·refine au (show wpAny _ _ (ret Value.none) _ _ _ from au ⟨rfl,k h' tk fin fun b o q=>?_⟩);have below:=Heap.lt_size q;exact keep b o (Nat.ne_of_lt below) (by rw [R7]; exact Nat.ne_of_lt (Nat.lt_succ_of_lt below)) (aq it₀ (aq o₀ q))
end
def zM (P:cC) (w:World) (a:aA) (n:Nat):HO:=.ext fun h=>∃ S,h.SetOf (strKind P w) a S n
theorem GP:∀ {ls:List Str} {us:List aB},Vals (ls.map V.str) us->Paired (fun x v=>∃ t,v=Value.str x t) ls us
 | [],_,r=>by cases r; exact .nil
 | x::ls,_,r=>by cases r with | cons r rr=>exact .cons r (GP rr)
section
variable {X:Cx}
theorem O7 (hc:X.calm=true):jH X (.type "set") (fun xs H Q=>∃ p ls,xs=[.ref p]/\cU X.K H p (ls.map V.str)/\ls.length + 1 < scanBound/\∀ l,H l=none->Q (.ref l) (upd H l (zM X.prog X.w l (jP ls).length))):=by
 intro pins s σ H xs us Q I r h;obtain ⟨p,ls,rfl,hq,hb,q⟩:=h;obtain ⟨u,rfl,rx⟩:=Vals.one r;cases rx;obtain ⟨its,rv,pl,hz⟩:=I.list hq;refine Bw (I.ok.hd hc) pl.isList (GP rv) hb fun h' tk hS hk=>?_
 refine ⟨.ref s.heap.objs.size,_,I.laid (a:=s.heap.objs.size) (o:=zM X.prog X.w s.heap.objs.size (jP ls).length) hk (aO _) ?_,rfl,q _ (I.hok.fresh (aO _))⟩;obtain ⟨o,es,ep,t,ho,rest⟩:=id hS;refine ⟨⟨_,hS⟩,⟨o,ho⟩,fun h1 h2 p k=>?_⟩;obtain ⟨S,o,es,ep,t,ho,rest⟩:=p;exact ⟨S,o,es,ep,t,k o ho,rest⟩
theorem O8:jH X (.builtin "len") (fun xs H Q=>∃ p n,xs=[.ref p]/\H p=some (zM X.prog X.w p n)/\Q (.int n) H):=by
 intro pins s σ H xs us Q I r h;obtain ⟨p,n,rfl,e,q⟩:=h;obtain ⟨u,rfl,rx⟩:=Vals.one r;cases rx;obtain ⟨⟨S,o,es,ep,t,ho,hex,hd,hel,hm,hb,hf,hn⟩,_⟩:=(show gD X.prog X.w H s.heap p (zM X.prog X.w p n) from I.hok p _ e);subst hn;refine call_len_set ho hex hd hf (by unfold scanBound at hb; omega) ⟨.int es.size,H,I.tok _,⟨_,rfl⟩,q⟩
end
def apn (fp:List aA) (P:Heap->Prop):Prop:=∀ h h',P h->(∀ b ∈ fp,∀ o,h.get? b=some o->h'.get? b=some o)->P h'
def J6 (h:Heap) (e:aA):Prop:=∃ o,h.get? e=some o/\o.cls=.type "StopIteration"
def Draws (prog:cC) (w:World) (A:d7) (it:aA) (P:Heap->Prop) (x:aB) (P':Heap->Prop):Prop := ∀ (s:aX) (Q:aB->aX->Prop) (E:aB->aX->Prop),P s.heap->(∀ h',P' h'->Heap.SameBut it s.heap h'->Q x { s with heap:=h' })->wpAny (model prog w) A (Builtin.SmallTypes.nextOf (.ref it)) Q E s
def apo (prog:cC) (w:World) (A:d7) (it:aA) (P:Heap->Prop):Prop := ∀ (s:aX) (Q:aB->aX->Prop) (E:aB->aX->Prop),P s.heap->(∀ h' e,Heap.ExtBut it s.heap h'->J6 h' e->E (.ref e) { s with heap:=h' })->wpAny (model prog w) A (Builtin.SmallTypes.nextOf (.ref it)) Q E s
inductive Over (h:Heap) (it l:aA) (xs:Array aB) (k:Nat):Bool->Prop
 | lst (a:h.IsListIter it l k) (b:h.IsList l xs):Over h it l xs k false
 | tup (a:h.IsTupleIter it l k) (b:h.IsTuple l xs):Over h it l xs k true
section
variable {prog:cC} {w:World} {A:d7} {it l:aA} {xs:Array aB} {k:Nat} {tu:Bool}
theorem iy:apn [it,l] (fun h=>Over h it l xs k tu):=fun h h' o keep=>by
 have k1:=keep it (by simp);have k2:=keep l (by simp);cases o with
 | lst a b=>exact .lst (a.at k1) (b.at k2)
 | tup a b =>
  obtain ⟨o1,q1,r1⟩:=a;obtain ⟨o2,q2,r2⟩:=b;exact .tup ⟨o1,k1 o1 q1,r1⟩ ⟨o2,k2 o2 q2,r2⟩
theorem oV {s:aX} {Q:aB->aX->Prop} {E:aB->aX->Prop} {o:Obj} (at_:s.heap.get? it=some o) (c:o.cls=.type "tuple_iterator") (pI:o.data=.fields #[.ref l,.int k 0]) {ol:Obj} {n:Nat} (sq:s.heap.get? l=some ol) (its:ol.data=.seq xs n) : (∀ x,xs[k]?=some x->(∀ h',h'.IsTupleIter it l (k + 1)->Heap.SameBut it s.heap h'->Q x { s with heap:=h' })->wpAny (model prog w) A (Builtin.SmallTypes.nextOf (.ref it)) Q E s) /\ (xs[k]?=none->A.handled=none->(∀ h' e,Heap.ExtBut it s.heap h'->J6 h' e->E (.ref e) { s with heap:=h' })->wpAny (model prog w) A (Builtin.SmallTypes.nextOf (.ref it)) Q E s):=by
 have ty:s.TypeIs (.ref it) "tuple_iterator":=⟨o,at_,c⟩;have GQ:¬ (Value.ref l == Value.none)=true:=Bool.false_ne_true;constructor
 ·intro x hx q;have abg:=Obj.data_mapFields pI fun v=>v.setIfInBounds 1 (rawInt ((k:Int) + 1))
  refine aj (wpAny_callSpecial?_slot (name:=Str.ofString "__next__") ty PySem.F.slot_tuple_iterator_next (wpAny_call_entry PySem.F.slot_tuple_iterator_next ty PySem.F.entry_tuple_iterator_next ?_ (PySem.F.args_tuple_iterator_next_1 _)));refine aj (m:=field (.ref it) 0) (wpAny_field at_ pI (x:=.ref l) rfl ?_);rw [if_neg GQ];refine aj (m:=field (.ref it) 1) (wpAny_field at_ pI (x:=.int k 0) rfl (aj (m:=seqItems? (.ref l)) (wpAny_seqItems sq its ?_)));simp only [show ((k:Int)).toNat=k from cQ k,hx];refine aj (wpAny_setField at_ pI (by simp) (au ⟨x,rfl,au (q _ ⟨_,Heap.get?_update_self _ at_ (Obj.isFreed_of_fields abg),(Obj.cls_mapFields ..).trans c,?_⟩ (Heap.SameBut.update ..))⟩));rw [abg]; simp [rawInt]
 ·intro hx calm q;refine aj (wpAny_callSpecial?_slot (name:=Str.ofString "__next__") ty PySem.F.slot_tuple_iterator_next (wpAny_call_entry PySem.F.slot_tuple_iterator_next ty PySem.F.entry_tuple_iterator_next ?_ (PySem.F.args_tuple_iterator_next_1 _)));refine aj (m:=field (.ref it) 0) (wpAny_field at_ pI (x:=.ref l) rfl ?_);rw [if_neg GQ];refine aj (m:=field (.ref it) 1) (wpAny_field at_ pI (x:=.int k 0) rfl (aj (m:=seqItems? (.ref l)) (wpAny_seqItems sq its ?_)));simp only [show ((k:Int)).toNat=k from cQ k,hx];refine aj (wpAny_rule (aj (wpAny_setField at_ pI (by simp) (aj (m:=newExc (.type "StopIteration") []) ?_))));simp only [newExc,newTuple];refine aj (wpAny_newObj_type (aj (m:=firstArgMember _ _) (wpAny_of_eq (a:=Value.none) (by first | rfl | (simp only [firstArgMember]; rfl)) (wpAny_newObj_type ?_ (by size_fits)))) (by size_fits));exact wpAny_raiseNew_none (show A.in1.handled=none from calm) (q _ _ (((Heap.SameBut.update ..).extBut.push _).push _) ⟨_,aN _ rfl,rfl⟩)
theorem tM {x:aB} (ne:l≠it) (hx:xs[k]?=some x):Draws prog w A it (fun h=>Over h it l xs k tu) x (fun h=>Over h it l xs (k + 1) tu):=by
 intro s Q E o q;cases o with
 | lst a b=>exact wpAny_nextOf_list_item a b hx fun h' a' sb=>q h' (.lst a' (b.at fun _ z=>(sb.2 l ne).trans z)) sb
 | tup a b =>
  obtain ⟨ob,z,c,d⟩:=a;obtain ⟨ol,y,r,n,its⟩:=b;exact (oV z c d y its).1 x hx fun h' a' sb=>q h' (.tup a' ⟨ol,(sb.2 l ne).trans y,r,n,its⟩) sb
theorem Cv (hx:xs[k]?=none) (calm:A.handled=none):apo prog w A it (fun h=>Over h it l xs k tu):=by
 intro s Q E o q;cases o with
 | lst a b=>exact wpAny_nextOf_list_end calm a b hx q
 | tup a b =>
  obtain ⟨ob,z,c,d⟩:=a;obtain ⟨ol,y,_,n,its⟩:=b;exact (oV z c d y its).2 hx calm q
end
structure lq (z ti to a b l m:aA):Prop where
 own:[z,to,a,b].Nodup
 tis:ti ∉ [z,to,a,b]
 ls:l ∉ [z,to,a,b]
 ms:m ∉ [z,to,a,b]
section
variable {prog:cC} {w:World} {A:d7} {E:aB->aX->Prop} {s:aX} {z ti to a b l m:aA} {xs ys:Array aB} {i j:Nat} {u v:aB} {t1 t2:Bool}
theorem lq.ne (D:lq z ti to a b l m):to≠z/\a≠z/\b≠z/\a≠to/\b≠to/\b≠a:=by
 have:=D.own;simp only [nodup_cons,aR,not_mem_nil,or_false,not_or] at this;obtain ⟨⟨h1,h2,h3⟩,⟨h4,h5⟩,h6,_⟩:=this;exact ⟨Ne.symm h1,Ne.symm h2,Ne.symm h3,Ne.symm h4,Ne.symm h5,Ne.symm h6⟩
theorem four {c x y p q:aA} (h:c ∉ [x,y,p,q]):c≠x/\c≠y/\c≠p/\c≠q:=by simpa using h
def GR (z to a b:aA) (h h':Heap):Prop:=∀ c o,c ∉ [z,to,a,b]->h.get? c=some o->h'.get? c=some o
structure qC (t1 t2:Bool) (z ti to a b l m:aA) (xs ys:Array aB) (f:aB) (i j:Nat) (h:Heap):Prop where
 cell:IsZip h z ti to f
 its:IsPair h ti (.ref a) (.ref b)
 kept:∃ u v,IsPair h to u v
 one:Over h a l xs i t1
 two:Over h b m ys j t2
theorem qC.moved {f f':aB} {h h':Heap} {i' j':Nat} (Z:qC t1 t2 z ti to a b l m xs ys f i j h) (D:lq z ti to a b l m) (past:GR z to a b h h') (r:IsZip h' z ti to f') (k:∃ u v,IsPair h' to u v) (o:Over h' a l xs i' t1) (t:Over h' b m ys j' t2) : qC t1 t2 z ti to a b l m xs ys f' i' j' h':=⟨r,past ti _ D.tis Z.its,k,o,t⟩
theorem zN {t:aA} {n:Nat} {x:aB} {Q:Unit->aX->Prop} (P:IsPair s.heap t u v) (k:∀ h',h'.get? t=some { cls:=.type "tuple",data:=.seq ((#[u,v]:Array aB).setIfInBounds n x) }->Heap.SameBut t s.heap h'->Q () { s with heap:=h' }) : wpAny (model prog w) A (updateSeq t (·.setIfInBounds n x)) Q E s:=wpAny_updateSeq_pair P k
theorem R8 {x y:aB} {Q:Option aB->aX->Prop} (D:lq z ti to a b l m) (Z:qC t1 t2 z ti to a b l m xs ys .none i j s.heap) (hx:xs[i]?=some x) (hy:ys[j]?=some y) (k:∀ h',qC t1 t2 z ti to a b l m xs ys (rawInt s.heap.objs.size) (i + 1) (j + 1) h'->IsPair h' s.heap.objs.size x y->GR z to a b s.heap h'->Q (some (.ref s.heap.objs.size)) { s with heap:=h' }):wpAny (model prog w) A (pyNext (.ref z)) Q E s:=by
 obtain ⟨YZ,az,bz,ato,bto,ba⟩:=D.ne;obtain ⟨lz,lto,la,lb⟩:=four D.ls;obtain ⟨mz,mto,ma,mb⟩:=four D.ms;obtain ⟨cell,its,⟨u,v,kept⟩,one,two⟩:=id Z;have ty:s.TypeIs (.ref z) "zip":=⟨_,cell,rfl⟩;refine aj (wpAny_attempt (wpAny_callSpecial?_slot (name:=Str.ofString "__next__") ty PySem.F.slot_zip_next (wpAny_call_entry PySem.F.slot_zip_next ty PySem.F.entry_zip_next ?_ (PySem.F.args_zip_next_1 _))));refine aj (m:=field (.ref z) 2) (wpAny_field cell rfl (x:=.bool false) rfl (aj (m:=field (.ref z) 3) (wpAny_field cell rfl (x:=.ref ti) rfl (aj (wpAny_seqItems its rfl ?_)))));refine aj (m:=Builtin.SmallTypes.ownedTupleIsFree (.ref z)) (aj (m:=field (.ref z) 0) (wpAny_field cell rfl (x:=.none) rfl (au ?_)));simp only [if_true];refine aj (wpAny_rule (aj (wpAny_field cell rfl (x:=.ref to) rfl (aj (wpAny_setField_rec cell (by simp) fun h1 Mw s1=>aj ?_)))));simp only [List.forIn_nil,List.forIn_cons,List.zipIdx_nil,List.zipIdx_cons];refine aj (aj (wpAny_onRaise (aj (m:=Builtin.SmallTypes.nextOf (.ref a)) (tM la hx { s with heap:=h1 } _ _ (iy _ _ one fun c hc o q=>s1.extBut c o ?_ q) fun h2 apr s2=>au ?_))))
 ·rcases aR.mp hc with e | e
  ·exact e ▸ az
  ·exact aC.mp e ▸ lz
 have kept2:IsPair h2 to u v:=s2.extBut _ _ (Ne.symm ato) (s1.extBut _ _ YZ kept);refine aj (wpAny_seqItems kept2 rfl (aj (zN (s:={ s with heap:=h2 }) kept2 fun h3 Mx s3=>aj (wpAny_letGo (au ?_)))));have Mx:IsPair h3 to x v:=Mx;have ah5:Over h3 b m ys j t2:=iy _ _ two fun c hc o q=>by
  have cz:c≠z/\c≠a/\c≠to:=by
   rcases aR.mp hc with e | e
   ·exact e ▸ ⟨bz,ba,bto⟩
   ·exact aC.mp e ▸ ⟨mz,ma,mto⟩
  exact s3.extBut c o cz.2.2 (s2.extBut c o cz.2.1 (s1.extBut c o cz.1 q))
 refine aj (aj (wpAny_onRaise (aj (m:=Builtin.SmallTypes.nextOf (.ref b)) (tM mb hy { s with heap:=h3 } _ _ ah5 fun h4 azM s4=>au ?_))));have abh:IsPair h4 to x v:=s4.extBut _ _ (Ne.symm bto) Mx;refine aj (wpAny_seqItems abh rfl (aj (zN (s:={ s with heap:=h4 }) abh fun h5 Mz s5=>aj (wpAny_letGo (au (au ?_))))));have Mz:IsPair h5 to x y:=Mz;refine aj (wpAny_seqItems Mz rfl (aj (wpAny_newTuple (aj ?_))));have R9:h5.objs.size=s.heap.objs.size:=by rw [s5.1,s4.1,s3.1,s2.1,s1.1]
 have abj:IsZip h5 z ti to .ellipsis:=s5.extBut _ _ (Ne.symm YZ) (s4.extBut _ _ (Ne.symm bz) (s3.extBut _ _ (Ne.symm YZ) (s2.extBut _ _ (Ne.symm az) Mw)));have abk:GR z to a b s.heap h5:=fun c o out q=>by
  obtain ⟨c1,c2,c3,c4⟩:=four out;exact s5.extBut c o c2 (s4.extBut c o c4 (s3.extBut c o c2 (s2.extBut c o c3 (s1.extBut c o c1 q))))
 have azN:Over h5 a l xs (i + 1) t1:=iy _ _ apr fun c hc o q=>by
  have cz:c≠to/\c≠b:=by
   rcases aR.mp hc with e | e
   ·exact e ▸ ⟨ato,Ne.symm ba⟩
   ·exact aC.mp e ▸ ⟨lto,lb⟩
  exact s5.extBut c o cz.1 (s4.extBut c o cz.2 (s3.extBut c o cz.1 q))
 have azO:Over h5 b m ys (j + 1) t2:=iy _ _ azM fun c hc o q=>by
  refine s5.extBut c o ?_ q;rcases aR.mp hc with e | e
  ·exact e ▸ bto
  ·exact aC.mp e ▸ mto
 let pr:Obj:={ cls:=.type "tuple",data:=.seq #[x,y] }
 have zlt:=Heap.lt_size abj;refine (?_:wpAny _ _ (Builtin.SmallTypes.ownedTupleHandOut (.ref z) (.ref h5.objs.size)) _ _ _);refine aj (wpAny_setField_rec (aq pr abj) (by simp) fun h6 aps s6=>wpAny_setField_rec (s:={ s with heap:=h6 }) aps (by simp) fun h7 apt s7=>?_);have up:∀ c o,c≠z->h5.get? c=some o->h7.get? c=some o:=fun c o nz q=>s7.extBut c o nz (s6.extBut c o nz (aq pr q))
 have fresh:h7.get? h5.objs.size=some pr:=s7.extBut _ _ (Nat.ne_of_gt zlt) (s6.extBut _ _ (Nat.ne_of_gt zlt) (aN h5 rfl));refine au ⟨_,rfl,au ?_⟩;rw [R9] at fresh
 show Q (some (.ref h5.objs.size)) _
 rw [R9];refine k h7 (Z.moved D (fun c o out q=>up c o (four out).1 (abk c o out q)) ?_ ⟨x,y,up _ _ YZ Mz⟩ (iy _ _ azN fun c hc o q=>up c o ?_ q) (iy _ _ azO fun c hc o q=>up c o ?_ q)) fresh fun c o out q=>up c o (four out).1 (abk c o out q)
 ·have:=apt;rw [R9] at this;exact this
 ·rcases aR.mp hc with e | e
  ·exact e ▸ az
  ·exact aC.mp e ▸ lz
 ·rcases aR.mp hc with e | e
  ·exact e ▸ bz
  ·exact aC.mp e ▸ mz
theorem Sd {Q:Option aB->aX->Prop} (calm:A.handled=none) (D:lq z ti to a b l m) (Z:qC t1 t2 z ti to a b l m xs ys .none i j s.heap) (hend:xs[i]?=none\/(∃ x,xs[i]?=some x)/\ys[j]?=none) (k:∀ h',GR z to a b s.heap h'->Q none { s with heap:=h' }):wpAny (model prog w) A (pyNext (.ref z)) Q E s:=by
 obtain ⟨YZ,az,bz,ato,bto,ba⟩:=D.ne;obtain ⟨lz,lto,la,lb⟩:=four D.ls;obtain ⟨mz,mto,ma,mb⟩:=four D.ms;obtain ⟨cell,its,⟨u,v,kept⟩,one,two⟩:=id Z;have ty:s.TypeIs (.ref z) "zip":=⟨_,cell,rfl⟩;have abl:A.in1.handled=none:=calm;have over:∀ (h':Heap) (e:aA),GR z to a b s.heap h'->J6 h' e ->
   wpAny (model prog w) A (do if <- isInstance (.ref e) (.type "StopIteration") then pure none else throw (.ref e)) Q E { s with heap:=h' }:=fun h' e past st=>by
  obtain ⟨o,q,c⟩:=st;exact aj (wpAny_isInstance (T:="StopIteration") (b:=true) ⟨o,q,c⟩ isSubtype_stop (au (k h' past)))
 refine aj (wpAny_attempt (wpAny_callSpecial?_slot (name:=Str.ofString "__next__") ty PySem.F.slot_zip_next (wpAny_call_entry PySem.F.slot_zip_next ty PySem.F.entry_zip_next ?_ (PySem.F.args_zip_next_1 _))));refine aj (m:=field (.ref z) 2) (wpAny_field cell rfl (x:=.bool false) rfl (aj (m:=field (.ref z) 3) (wpAny_field cell rfl (x:=.ref ti) rfl (aj (wpAny_seqItems its rfl ?_)))));refine aj (m:=Builtin.SmallTypes.ownedTupleIsFree (.ref z)) (aj (m:=field (.ref z) 0) (wpAny_field cell rfl (x:=.none) rfl (au ?_)));simp only [if_true];refine aj (wpAny_rule (aj (wpAny_field cell rfl (x:=.ref to) rfl (aj (wpAny_setField_rec cell (by simp) fun h1 Mw s1=>aj ?_)))));simp only [List.forIn_nil,List.forIn_cons,List.zipIdx_nil,List.zipIdx_cons];have apu:Over h1 a l xs i t1:=iy _ _ one fun c hc o q=>s1.extBut c o (by
  rcases aR.mp hc with e | e
  ·exact e ▸ az
  ·exact aC.mp e ▸ lz) q
 rcases hend with apv | ⟨⟨x,hx⟩,apw⟩
 ·refine aj (aj (wpAny_onRaise (aj (m:=Builtin.SmallTypes.nextOf (.ref a)) (Cv apv abl { s with heap:=h1 } _ _ apu fun h2 e s2 st=>?_))));have abm:IsZip h2 z ti to .ellipsis:=s2 _ _ (Ne.symm az) Mw;obtain ⟨oe,qe,ce⟩:=st;have ez:e≠z:=fun y=>by rw [y,abm] at qe; cases qe; simp at ce
  refine wpAny_setField_rec (s:={ s with heap:=h2 }) abm (by simp) fun h3 _ s3=>over h3 e (fun c o out q=>?_) ⟨oe,s3.extBut _ _ ez qe,ce⟩
  exact s3.extBut c o (four out).1 (s2 c o (four out).2.2.1 (s1.extBut c o (four out).1 q))
 ·refine aj (aj (wpAny_onRaise (aj (m:=Builtin.SmallTypes.nextOf (.ref a)) (tM la hx { s with heap:=h1 } _ _ apu fun h2 apr s2=>au ?_))));have kept2:IsPair h2 to u v:=s2.extBut _ _ (Ne.symm ato) (s1.extBut _ _ YZ kept);refine aj (wpAny_seqItems kept2 rfl (aj (zN (s:={ s with heap:=h2 }) kept2 fun h3 Mx s3=>aj (wpAny_letGo (au ?_)))));have ah5:Over h3 b m ys j t2:=iy _ _ two fun c hc o q=>by
   have cz:c≠z/\c≠a/\c≠to:=by
    rcases aR.mp hc with e | e
    ·exact e ▸ ⟨bz,ba,bto⟩
    ·exact aC.mp e ▸ ⟨mz,ma,mto⟩
   exact s3.extBut c o cz.2.2 (s2.extBut c o cz.2.1 (s1.extBut c o cz.1 q))
  refine aj (aj (wpAny_onRaise (aj (m:=Builtin.SmallTypes.nextOf (.ref b)) (Cv apw abl { s with heap:=h3 } _ _ ah5 fun h4 e s4 st=>?_))));have abn:IsZip h4 z ti to .ellipsis:=s4 _ _ (Ne.symm bz) (s3.extBut _ _ (Ne.symm YZ) (s2.extBut _ _ (Ne.symm az) Mw));obtain ⟨oe,qe,ce⟩:=st;have ez:e≠z:=fun y=>by rw [y,abn] at qe; cases qe; simp at ce
  refine wpAny_setField_rec (s:={ s with heap:=h4 }) abn (by simp) fun h5 _ s5=>over h5 e (fun c o out q=>?_) ⟨oe,s5.extBut _ _ ez qe,ce⟩
  obtain ⟨c1,c2,c3,c4⟩:=four out;exact s5.extBut c o c1 (s4 c o c4 (s3.extBut c o c2 (s2.extBut c o c3 (s1.extBut c o c1 q))))
theorem O9 {elts:List Expr} {k:Nat} {pos:Pos} {T:aA} {Q:Unit->aX->Prop} (D:lq z ti to a b l m) (Z:qC t1 t2 z ti to a b l m xs ys (rawInt T) i j s.heap) (q:∀ h',qC t1 t2 z ti to a b l m xs ys .none i j h'->Heap.SameBut z s.heap h'->Q () { s with heap:=h' }):wpAny (model prog w) A (letOwnedTupleGo (.Tuple elts k pos) (.ref z) (.ref T)) Q E s:=by
 obtain ⟨YZ,az,bz,ato,bto,ba⟩:=D.ne;obtain ⟨u,v,kept⟩:=Z.kept;refine wpAny_letOwnedTupleGo_zip Z.cell fun h' cell' sb=>q h' (Z.moved D (fun c o out y=>sb.extBut c o (four out).1 y) cell' ⟨u,v,sb.extBut _ _ YZ kept⟩ (iy _ _ Z.one fun c hc o y=>sb.extBut c o ?_ y) (iy _ _ Z.two fun c hc o y=>sb.extBut c o ?_ y)) sb
 ·rcases aR.mp hc with e | e
  ·exact e ▸ az
  ·exact aC.mp e ▸ (four D.ls).1
 ·rcases aR.mp hc with e | e
  ·exact e ▸ bz
  ·exact aC.mp e ▸ (four D.ms).1
def Pa (l:aA):Obj:={ cls:=.type "tuple_iterator",data:=.fields #[.ref l,.int 0 0] }
def zip2 (m:aA):Obj:={ cls:=.type "list_iterator",data:=.fields #[.ref m,.int 0 0] }
def pairOf (u v:aB):Obj:={ cls:=.type "tuple",data:=.seq #[u,v] }
def apx (ti to:aA):Obj:={ cls:=.type "zip",data:=.fields #[.none,.bool false,.bool false,.ref ti,.ref to] }
def pJ (h:Heap) (l m:aA):Heap := ((((h.push (Pa l)).push (zip2 m)).push (pairOf (.ref h.objs.size) (.ref (h.objs.size + 1)))).push (pairOf .none .none)).push (apx (h.objs.size + 2) (h.objs.size + 3))
theorem Bx (l m:aA) (xs ys:Array aB):Meets (Builtin.«zip.__new__» ⟨[.type "zip",.ref l,.ref m],[]⟩) (fun _ R s=>s.heap.IsTuple l xs/\s.heap.IsList m ys/\R (.ok (.ret (.ref (s.heap.objs.size + 4)))) { s with heap:=pJ s.heap l m }) := .of_wp fun prog w A R s h=>by
 obtain ⟨hp,g,d,tk,os⟩:=s; obtain ⟨q1,q2,r⟩:=h; have sub:=sub_zip;have q1':Heap.IsTuple (Shared.heap ⟨hp,g,d,tk,os⟩) l xs:=q1;have q2':Heap.IsList (Shared.heap ⟨hp.push { cls:=.type "tuple_iterator",data:=.fields #[.ref l,.int 0 0] },g,d,tk,os⟩) m ys:=Heap.IsList.push q2 _
 wp_walk using wpAny_pyIter_tuple q1',wpAny_pyIter_list q2'
 refine ⟨_,rfl,?_⟩;simp only [Heap.size_push];exact r
theorem Sg {Q:aB->aX->Prop} (q1:s.heap.IsTuple l xs) (q2:s.heap.IsList m ys) (k:∀ h',lq (s.heap.objs.size + 4) (s.heap.objs.size + 2) (s.heap.objs.size + 3) s.heap.objs.size (s.heap.objs.size + 1) l m -> qC true false (s.heap.objs.size + 4) (s.heap.objs.size + 2) (s.heap.objs.size + 3) s.heap.objs.size (s.heap.objs.size + 1) l m xs ys .none 0 0 h'->(∀ c o,s.heap.get? c=some o->h'.get? c=some o)->Q (.ref (s.heap.objs.size + 4)) { s with heap:=h' }) : wpAny (model prog w) A (call (.type "zip") [.ref l,.ref m]) Q E s:=by
 have YQ:l < s.heap.objs.size:=by obtain ⟨o,q,_⟩:=q1; exact Heap.lt_size q
 have Em:m < s.heap.objs.size:=by obtain ⟨o,q,_⟩:=q2; exact Heap.lt_size q
 have old:∀ c o,s.heap.get? c=some o->(pJ s.heap l m).get? c=some o:=fun c o q=>aq _ (aq _ (aq _ (aq _ (aq _ q))))
 have z1:(s.heap.push (Pa l)).objs.size=s.heap.objs.size + 1:=Heap.size_push _ _;have z2:((s.heap.push (Pa l)).push (zip2 m)).objs.size=s.heap.objs.size + 2:=by rw [Heap.size_push,z1]
 have z3:(((s.heap.push (Pa l)).push (zip2 m)).push (pairOf (.ref s.heap.objs.size) (.ref (s.heap.objs.size + 1)))).objs.size=s.heap.objs.size + 3:=by rw [Heap.size_push,z2]
 have z4:((((s.heap.push (Pa l)).push (zip2 m)).push (pairOf (.ref s.heap.objs.size) (.ref (s.heap.objs.size + 1)))).push (pairOf .none .none)).objs.size=s.heap.objs.size + 4:=by rw [Heap.size_push,z3]
 have g1:(pJ s.heap l m).get? s.heap.objs.size=some (Pa l):=aq _ (aq _ (aq _ (aq _ (aN _ rfl))));have g2:(pJ s.heap l m).get? (s.heap.objs.size + 1)=some (zip2 m):=by rw [<- z1]; exact aq _ (aq _ (aq _ (aN _ rfl)))
 have g3:(pJ s.heap l m).get? (s.heap.objs.size + 2)=some (pairOf (.ref s.heap.objs.size) (.ref (s.heap.objs.size + 1))):=by rw [<- z2]; exact aq _ (aq _ (aN _ rfl))
 have g4:(pJ s.heap l m).get? (s.heap.objs.size + 3)=some (pairOf .none .none):=by rw [<- z3]; exact aq _ (aN _ rfl)
 have g5:(pJ s.heap l m).get? (s.heap.objs.size + 4)=some (apx (s.heap.objs.size + 2) (s.heap.objs.size + 3)):=by rw [<- z4]; exact aN _ rfl
 refine callType_new PySem.F.called_zip (by decide) (PySem.F.typeCall_zip_2 _ _) (PySem.F.newCall_zip_2 _ _) (fun obj=>PySem.F.args_object_init_3 obj _ _) PySem.F.entry_zip_new (Bx l m xs ys) ⟨q1,q2,⟨_,g5,rfl⟩,k _ ?_ ?_ old⟩
 ·have n1:∀ i j:Nat,i≠j->s.heap.objs.size + i≠s.heap.objs.size + j:=fun i j h e=>h (Nat.add_left_cancel e)
  have out:∀ c,c < s.heap.objs.size->∀ i:Nat,c≠s.heap.objs.size + i:=fun c h i=>Nat.ne_of_lt (bA h (Nat.le_add_right _ _))
  refine ⟨?_,?_,?_,?_⟩
  ·simp only [nodup_cons,aR,not_mem_nil,or_false,not_or,not_false_eq_true,nodup_nil,and_true];exact ⟨⟨n1 4 3 (by decide),n1 4 0 (by decide),n1 4 1 (by decide)⟩,⟨n1 3 0 (by decide),n1 3 1 (by decide)⟩,n1 0 1 (by decide)⟩
  ·simp only [aR,not_mem_nil,or_false,not_or];exact ⟨n1 2 4 (by decide),n1 2 3 (by decide),n1 2 0 (by decide),n1 2 1 (by decide)⟩
  ·simp only [aR,not_mem_nil,or_false,not_or];exact ⟨out l YQ 4,out l YQ 3,out l YQ 0,out l YQ 1⟩
  ·simp only [aR,not_mem_nil,or_false,not_or];exact ⟨out m Em 4,out m Em 3,out m Em 0,out m Em 1⟩
 ·obtain ⟨o1,y1,r1⟩:=q1;obtain ⟨o2,y2,r2⟩:=q2;exact ⟨g5,g3,⟨_,_,g4⟩,.tup ⟨_,g1,rfl,rfl⟩ ⟨o1,old _ _ y1,r1⟩,.lst ⟨_,g2,rfl,rfl⟩ ⟨o2,old _ _ y2,r2⟩⟩
end
section
variable {X:Cx} {pins:List (aA × Obj)} {σ:St} {H:Hp} {s:aX}
theorem Inv.drawn {h':Heap} {t':Nat} {T:aA} {o:HO} {ch:List aA} (I:Inv X pins σ H s) (hch:∀ b ∈ ch,oK X pins H b) (keep:∀ b ob,b ∉ ch->s.heap.get? b=some ob->h'.get? b=some ob) (fr:s.heap.get? T=none) (new:gD X.prog X.w (upd H T o) h' T o):Inv X pins σ (upd H T o) { s with heap:=h',toks:=t' }:=by
 have hT:H T=none:=I.hok.none_of fr;have nT:∀ b u,H b=some u->b≠T:=fun b u e z=>by rw [z,hT] at e; cases e
 have Ru:∀ b u,H b=some u->b ∉ ch:=fun b u e z=>by rw [(hch b z).1] at e; cases e
 refine I.call (ch:=ch) (g':=s.gens) (d':=s.drawn) ⟨fun b ob e _ _ hx=>keep b ob hx e,fun b ob e _ _ hx=>⟨ob.slots,keep b ob hx e⟩,fun b ob e n hx=>?_,fun b ob e hx=>⟨ob,keep b ob hx e⟩,fun b xs e=>?_,fun b ob xs e=>?_,fun b ps e=>⟨#[],?_⟩⟩ (fun c u e=>?_) I.bare fun b hb=>⟨(hch b hb).2.2.2.1,(hch b hb).2.1,(hch b hb).2.2.2.2.1,(hch b hb).2.2.2.2.2⟩
 ·rw [bf (fun z=>by rw [z,fr] at e; cases e)]; exact n
 ·rw [bf (nT _ _ e)]; exact e
 ·rw [bf (nT _ _ e)]; exact e
 ·rw [bf (nT _ _ e),e]; simp
 ·by_cases z:c=T
  ·subst z; rw [aD] at e; cases e; exact new
  ·rw [bf z] at e;refine (I.hok c u e).stay (fun d v hd q=>keep d v ?_ q) (fun d q=>by rw [bf (nT _ _ q)]; exact q) fun d xs q=>by rw [bf (nT _ _ q)]; exact q
   rcases hd with y | y
   ·rw [y]; exact Ru c u e
   ·exact Ru d _ y
theorem Inv.turns {h':Heap} {t':Nat} {ch:List aA} (I:Inv X pins σ H s) (hch:∀ b ∈ ch,oK X pins H b) (keep:∀ b ob,b ∉ ch->s.heap.get? b=some ob->h'.get? b=some ob):Inv X pins σ H { s with heap:=h',toks:=t' }:=by
 have Ru:∀ b u,H b=some u->b ∉ ch:=fun b u e z=>by rw [(hch b z).1] at e; cases e
 refine I.call (ch:=ch) (g':=s.gens) (d':=s.drawn) ⟨fun b ob e _ _ hx=>keep b ob hx e,fun b ob e _ _ hx=>⟨ob.slots,keep b ob hx e⟩,fun b ob e n hx=>n,fun b ob e hx=>⟨ob,keep b ob hx e⟩,fun b xs e=>e,fun b ob xs e=>e,fun b ps e=>⟨#[],by rw [e]; simp⟩⟩ (fun c u e=>?_) I.bare fun b hb=>⟨(hch b hb).2.2.2.1,(hch b hb).2.1,(hch b hb).2.2.2.2.1,(hch b hb).2.2.2.2.2⟩
 refine (I.hok c u e).stay (fun d v hd q=>keep d v ?_ q) (fun d q=>q) fun d xs q=>q
 rcases hd with y | y
 ·rw [y]; exact Ru c u e
 ·exact Ru d _ y
end
theorem MF:2<=sizeLine:=by decide
noncomputable def Itz (K:Fg) (l m:aA):It := ⟨fun i H=>∃ xs ys x y,fj K H l xs/\cU K H m ys/\xs[i]?=some x/\ys[i]?=some y,fun i H v H'=>∃ T,H T=none/\v=.ref T/\∀ xs ys x y,fj K H l xs->cU K H m ys->xs[i]?=some x->ys[i]?=some y->H'=upd H T (.tup [x,y]),fun i H=>∃ xs ys,fj K H l xs/\cU K H m ys/\(xs.length<=i\/ys.length<=i)⟩
structure ah6 (z ti to a b l m:aA) (i:Nat) (h:Heap):Prop where
 cell:IsZip h z ti to .none
 its:IsPair h ti (.ref a) (.ref b)
 kept:∃ u v,IsPair h to u v
 one:h.IsTupleIter a l i
 two:h.IsListIter b m i
theorem Sh {P:cC} {w:World} {K:Fg} {elts:List Expr} {k:Nat} {pos:Pos} {z ti to a b l m:aA} (D:lq z ti to a b l m):Turn P w K (.Tuple elts k pos) (Itz K l m) [z,ti,to,a,b] z (ah6 z ti to a b l m) where
 mem:=by simp
 obj:=fun i h R c hc=>by
  obtain ⟨u,v,kept⟩:=R.kept;obtain ⟨o1,q1,_,d1⟩:=R.one;obtain ⟨o2,q2,_,d2⟩:=R.two;simp only [aR,not_mem_nil,or_false] at hc;rcases hc with rfl | rfl | rfl | rfl | rfl
  ·exact ⟨_,R.cell,fun v q=>by cases q⟩
  ·exact ⟨_,R.its,fun v q=>by cases q⟩
  ·exact ⟨_,kept,fun v q=>by cases q⟩
  ·exact ⟨o1,q1,fun v q=>by rw [d1] at q; cases q⟩
  ·exact ⟨o2,q2,fun v q=>by rw [d2] at q; cases q⟩
 keep:=fun i h h' R kp=>by
  obtain ⟨u,v,kept⟩:=R.kept;obtain ⟨o1,q1,r1⟩:=R.one;obtain ⟨o2,q2,r2⟩:=R.two;exact ⟨kp z (by simp) _ R.cell,kp ti (by simp) _ R.its,⟨u,v,kp to (by simp) _ kept⟩,⟨o1,kp a (by simp) _ q1,r1⟩,⟨o2,kp b (by simp) _ q2,r2⟩⟩
 item:=by
  intro X hP hw hK hc i pins s σ H E I hf R go;subst hP hw hK;obtain ⟨xs,ys,x,y,sx,sy,hx,hy⟩:=go;obtain ⟨GX,v1,p1,_⟩:=I.tuple sx;obtain ⟨its2,v2,p2,_⟩:=I.list sy;obtain ⟨ux,gx,rx⟩:=v1.get hx;obtain ⟨uy,gy,ry⟩:=v2.get hy;have Z:qC true false z ti to a b l m GX.toArray its2.toArray .none i i s.heap:=⟨R.cell,R.its,R.kept,.tup R.one p1,.lst R.two p2.isList⟩;have fr:s.heap.get? s.heap.objs.size=none:=Heap.get?_none_of_le (aO _);have there:∀ c ∈ [z,ti,to,a,b],∃ o,s.heap.get? c=some o:=fun c hc=>by
   obtain ⟨u,v,kept⟩:=R.kept;obtain ⟨o1,q1,_⟩:=R.one;obtain ⟨o2,q2,_⟩:=R.two;simp only [aR,not_mem_nil,or_false] at hc;rcases hc with e | e | e | e | e <;> rw [e]
   ·exact ⟨_,R.cell⟩
   ·exact ⟨_,R.its⟩
   ·exact ⟨_,kept⟩
   ·exact ⟨_,q1⟩
   ·exact ⟨_,q2⟩
  have h4:∀ c ∈ [z,to,a,b],oK X pins H c:=fun c hc=>hf c (by simp at hc ⊢; rcases hc with r | r | r | r <;> simp [r])
  refine R8 D Z (x:=ux) (y:=uy) (by simpa using gx) (by simpa using gy) fun h1 Z1 pr past=>⟨.ref s.heap.objs.size,rfl,O9 D (s:={ s with heap:=h1 }) Z1 fun h2 Z2 sb=>?_⟩
  have zlt:s.heap.objs.size≠z:=Nat.ne_of_gt (Heap.lt_size R.cell);have pr2:IsPair h2 s.heap.objs.size ux uy:=sb.extBut _ _ zlt pr;refine ⟨.ref s.heap.objs.size,upd H s.heap.objs.size (.tup [x,y]),Inv.drawn (h':=h2) (t':=s.toks) (ch:=[z,to,a,b]) (s:=s) I h4 (fun c o out q=>sb.extBut c o (four out).1 (past c o out q)) fr ⟨MF,[ux,uy],.cons rx (.cons ry .nil),⟨_,pr2,rfl,_,rfl⟩⟩,rfl,⟨_,I.hok.none_of fr,rfl,fun xs' ys' x' y' sx' sy' hx' hy'=>?_⟩,?_,fun c hc=>?_⟩
  ·have e1:=I.Ov sx' sx;have e2:=I.uZ sy' sy;subst e1; subst e2;rw [hx] at hx'; rw [hy] at hy';cases hx'; cases hy'; rfl
  ·refine ⟨Z2.cell,Z2.its,Z2.kept,?_,?_⟩
   ·cases Z2.one with
    | tup q _=>exact q
   ·cases Z2.two with
    | lst q _=>exact q
  ·obtain ⟨o,q⟩:=there c hc;rw [bf (fun e=>by rw [e,fr] at q; cases q)];exact (hf c hc).1
 done:=by
  intro X hP hw hK hc i pins s σ H E I hf R stop;subst hP hw hK;obtain ⟨xs,ys,sx,sy,le⟩:=stop;obtain ⟨GX,v1,p1,_⟩:=I.tuple sx;obtain ⟨its2,v2,p2,_⟩:=I.list sy;have Z:qC true false z ti to a b l m GX.toArray its2.toArray .none i i s.heap:=⟨R.cell,R.its,R.kept,.tup R.one p1,.lst R.two p2.isList⟩;have h4:∀ c ∈ [z,to,a,b],oK X pins H c:=fun c hc=>hf c (by simp at hc ⊢; rcases hc with r | r | r | r <;> simp [r])
  have l1:=v1.length;have l2:=v2.length;have hend:GX.toArray[i]?=none\/(∃ x,GX.toArray[i]?=some x)/\its2.toArray[i]?=none:=by
   by_cases q:GX.length<=i
   ·exact .inl (by simp [q])
   ·exact .inr ⟨⟨GX[i]'(by omega),by simp⟩,by simp; omega⟩
  exact Sd (I.ok.hd hc) D Z hend fun h' past=>⟨rfl,I.turns (t':=s.toks) h4 past⟩
 self:=fun _ _ _ _ _ R q=>wpAny_pyIter_zip R.cell q
section
variable {X:Cx}
def azR (K:Fg) (ta:TA):TI:=fun σ H R=>ta σ H fun vs H1=>∃ l m xs ys,vs=[.ref l,.ref m]/\fj K H1 l xs/\cU K H1 m ys/\R (Itz K l m) H1
theorem J7 {e1 e2:Expr} {elts:List Expr} {k:Nat} {tp p pos:Pos} {ta:TA} (hg:Gl X "zip") (hm:X.mg "zip"=none) (ha:PA X [e1,e2] ta) (st1:autoParam (starEach [e1,e2] X.env=[(false,eval e1 X.env),(false,eval e2 X.env)]) zau0) (st2:autoParam (starEach [e2] X.env=[(false,eval e2 X.env)]) zau0) : PI X (.Tuple elts k tp) (.Call (.Name "zip" p) [e1,e2] [] pos) (azR X.K ta):=by
 intro pins s σ H R I h;refine Call_ (nZ I hg hm boot_zip (callWith_type1 (fV (ha pos pins s σ H _ I h) fun us a ⟨vs,H1,I1,r,q⟩=>?_) (by rw [st1,st2]) (by rw [st2]; rfl)));obtain ⟨l,m,xs,ys,e,sx,sy,q⟩:=q;subst e;obtain ⟨u1,u2,e,r1,r2⟩:=Vals.two r;subst e;cases r1; cases r2;obtain ⟨GX,v1,p1,_⟩:=I1.tuple sx;obtain ⟨its2,v2,p2,_⟩:=I1.list sy;refine Sg p1 p2.isList fun h' D Z old=>?_
 have I2:Inv X pins σ H1 { a with heap:=h' }:=I1.kept (t':=a.toks) old;refine wpAny_pyIter_zip (s:={ a with heap:=h' }) Z.cell ⟨_,[a.heap.objs.size + 4,a.heap.objs.size + 2,a.heap.objs.size + 3,a.heap.objs.size,a.heap.objs.size + 1],_,_,H1,rfl,I2,Sh D,⟨Z.cell,Z.its,Z.kept,?_,?_⟩,fun b hb=>?_,q⟩
 ·cases Z.one with
  | tup q _=>exact q
 ·cases Z.two with
  | lst q _=>exact q
 ·have le:a.heap.objs.size<=b:=by
   have hb5:b=a.heap.objs.size + 4\/b=a.heap.objs.size + 2\/b=a.heap.objs.size + 3\/b=a.heap.objs.size\/b=a.heap.objs.size + 1:=by simpa using hb
   rcases hb5 with e | e | e | e | e <;> rw [e] <;> first | exact Nat.le_add_right _ _ | exact aO _
  have f:=I1.zA (H':=H1) le (I1.hok.fresh le);exact f
theorem MJ {K:Fg} {l m:aA} {xs ys:List V} {g:TG} {tb:TS} {D:Ends} {σ:St} {H:Hp} (Pv:Nat->St->Hp->Prop) (len:xs.length=ys.length) (h0:Pv 0 σ H) (hl:∀ i σ H,i<=xs.length->Pv i σ H->fj K H l xs/\cU K H m ys) (hs:∀ i x y T σ H,xs[i]?=some x->ys[i]?=some y->Pv i σ H->H T=none->g (.ref T) σ (upd H T (.tup [x,y])) fun σ2 H2=>tb { D with nx:=Pv (i + 1),ct:=Pv (i + 1),bk:=D.nx } σ2 H2) (hd:∀ σ H,Pv xs.length σ H->D.nx σ H) : ∃ W:Nat->Nat->St->Hp->Prop,(∃ k,W 0 k σ H)/\∀ i k σ H,W i k σ H -> ((Itz K l m).stop i H/\D.nx σ H)\/((Itz K l m).go i H/\∃ N:St->Hp->Prop,(∀ σ' H',N σ' H'->∃ k',k' < k/\W (i + 1) k' σ' H')/\∀ x H',(Itz K l m).Rw i H x H'->g x σ H' fun σ2 H2=>tb { D with nx:=N,ct:=N,bk:=D.nx } σ2 H2):=by
 refine ⟨fun i k σ H=>k=xs.length - i/\i<=xs.length/\Pv i σ H,⟨xs.length,by simp,dG _,h0⟩,?_⟩;rintro i k σ H ⟨rfl,hi,p⟩;obtain ⟨q1,q2⟩:=hl i σ H hi p
 by_cases lt:i < xs.length
 ·have Em:i < ys.length:=len ▸ lt;refine .inr ⟨⟨xs,ys,xs[i],ys[i],q1,q2,by simp [lt],by simp [Em]⟩,Pv (i + 1),fun σ' H' p'=>⟨xs.length - (i + 1),by omega,rfl,lt,p'⟩,fun x H' y=>?_⟩;obtain ⟨T,hT,rfl,y⟩:=y;rw [y xs ys xs[i] ys[i] q1 q2 (by simp [lt]) (by simp [Em])];exact hs i xs[i] ys[i] T σ H (by simp [lt]) (by simp [Em]) p hT
 ·have e:i=xs.length:=by omega
  subst e;exact .inl ⟨⟨xs,ys,q1,q2,.inl (aO _)⟩,hd σ H p⟩
theorem Sq {bs:List Bool} {us:List aB} (r:Vals (bs.map V.bl) us) {i:Nat} {v:aB} (h:us[i]?=some v):∃ b,bs[i]?=some b/\v=.bool b:=by
 cases q:bs[i]? with
 | none =>
  have z:=r.none_of (i:=i) (by rw [aJ,q]; rfl);rw [h] at z; cases z
 | some b =>
  obtain ⟨u,hu,ru⟩:=r.get (i:=i) (x:=.bl b) (by rw [aJ,q]; rfl);rw [h] at hu; cases hu;exact ⟨b,rfl,ru⟩
theorem all_range:∀ bs:List Bool,((List.range bs.length).all fun i=>(bs[i]?).getD true)=bs.all id
 | []=>rfl
 | b::bs=>by
  have ih:=all_range bs;simp only [length_cons,range_succ_eq_map,all_cons,all_map,List.getElem?_cons_zero,Option.getD_some];exact congrArg (b && ·) ih
theorem Cw (hc:X.calm=true):jH X (.builtin "all") (fun xs H Q=>∃ (p:aA) (bs:List Bool),xs=[.ref p]/\cU X.K H p (bs.map V.bl)/\Q (.bl (bs.all id)) H):=by
 intro pins s σ H xs us Q I r h;obtain ⟨p,bs,rfl,sq,q⟩:=h;obtain ⟨u,rfl,rx⟩:=Vals.one r;cases rx;obtain ⟨its,rv,pl,_⟩:=I.list sq;have lt:p < s.heap.objs.size:=by obtain ⟨o,e,_⟩:=pl.isList; exact Heap.lt_size e
 have len:its.length=bs.length:=by have:=rv.length; simpa using this.symm
 refine call_all_walk (wpAny_pyIter_list pl.isList ⟨_,[s.heap.objs.size,p],[s.heap.objs.size],its.toArray.size,_,_,fun i=>(bs[i]?).getD true,rfl,Walks.list (A:=X.A.in1) (I.ok.hd hc) _ p (Nat.ne_of_lt lt) its.toArray,⟨⟨_,aN _ rfl,rfl,rfl⟩,pl.isList.push _⟩,fun i v s' Q' E' hv hq=>?_,fun h' tk keep=>?_⟩)
 ·obtain ⟨b,hb,rfl⟩:=Sq rv (i:=i) (v:=v) (by simpa using hv);have hq:Q' ((bs[i]?).getD true) s':=hq;rw [hb] at hq;exact wpAny_truthy_bool hq
 ·rw [size_toArray,len,all_range];refine ⟨.bl _,H,I.kept (h':=h') (t':=tk) fun b o e=>keep b o ?_ (aq _ e),rfl,q⟩;rw [aC];exact Nat.ne_of_lt (Heap.lt_size e)
theorem GZ:jH X (.builtin "isinstance") (fun xs H Q=>∃ x c cv t b,xs=[x,c]/\(c=.ref cv/\kitOne X.K t (.ref cv)=some b)/\tK X.K H x t/\Q (.bl b) H):=by
 intro pins s σ H xs us Q I r h;obtain ⟨x,c,cv,t,b,rfl,⟨rfl,e⟩,ty,q⟩:=h;obtain ⟨u,v,rfl,rx,rc⟩:=Vals.two r;cases rc;exact Ca I rx ty e fun tk=>⟨.bl b,H,I.tok tk,rfl,q⟩
theorem Er:jH X (.builtin "isinstance") (fun xs H Q=>∃ x T t b,xs=[x,.ty T]/\kitOne X.K t (.type T)=some b/\tK X.K H x t/\Q (.bl b) H):=by
 intro pins s σ H xs us Q I r h;obtain ⟨x,T,t,b,rfl,e,ty,q⟩:=h;obtain ⟨u,v,rfl,rx,rc⟩:=Vals.two r;cases rc;exact Ca I rx ty e fun tk=>⟨.bl b,H,I.tok tk,rfl,q⟩
end
def Itv (K:Fg) (a:aA) (n:Nat):It := ⟨fun i H=>i < n/\∃ xs,cU K H a xs/\xs.length=n,fun i H x H'=>H'=H/\∀ xs,cU K H a xs->xs[n - 1 - i]?=some x,fun i _=>i=n⟩
theorem Ss {P:cC} {w:World} {K:Fg} {tg:Expr} (a it:aA) (n:Nat):Turn P w K tg (Itv K a n) [it] it (fun i h=>i<=n/\h.IsRevIter it a ((n:Int) - 1 - (i:Int))) where
 mem:=by simp
 obj:=fun i h st b hb=>by
  obtain ⟨o,e,c,d⟩:=st.2;rw [aC.mp hb];exact ⟨o,e,fun v z=>by rw [d] at z; cases z⟩
 keep:=fun i h h' st k=>⟨st.1,st.2.at fun o e=>k it (by simp) o e⟩
 item:=by
  intro X hP hw hK hc i pins s σ H E I hf st go;subst hP hw hK;obtain ⟨lt,xs,sq,len⟩:=go;obtain ⟨its,rv,p,hz⟩:=I.list sq;have lx:n - 1 - i < xs.length:=by omega
  obtain ⟨u,hu,ru⟩:=rv.get (i:=n - 1 - i) (x:=xs[n - 1 - i]) (by simp [lx]);obtain ⟨f0,f1,f2,f3,f4,f5⟩:=hf it (by simp);have st2:=st.2;have e1:(n:Int) - 1 - (i:Int)=((n - 1 - i:Nat):Int):=by omega
  rw [e1] at st2;refine wpAny_pyNext_rev_item st2 p.isList (x:=u) (by simpa using hu) fun h' st' sb=>?_
  have e2:((n - 1 - i:Nat):Int) - 1=(n:Int) - 1 - ((i + 1:Nat):Int):=by omega
  rw [e2] at st';have I1:Inv X pins σ H { s with heap:=h' }:=I.turned (t':=s.toks) (fun b o hb e=>(sb.2 b hb).trans e) f0 f1 f3 f4 f5;obtain ⟨o,e,c,d⟩:=id st';exact ⟨u,rfl,Rx (s:={ s with heap:=h' }) e c d (by decide) ⟨xs[n - 1 - i],H,I1,ru,⟨rfl,fun ys hy=>by rw [I.uZ hy sq]; simp [lx]⟩,⟨by omega,st'⟩,fun b hb=>(hf b hb).1⟩⟩
 done:=by
  intro X hP hw hK hc i pins s σ H E I hf st stop;subst hP hw hK;have e:i=n:=stop;subst e;obtain ⟨f0,f1,f2,f3,f4,f5⟩:=hf it (by simp);have st2:=st.2;have e1:(i:Int) - 1 - (i:Int)=-1:=by omega
  rw [e1] at st2;exact wpAny_pyNext_rev_end (I.ok.hd hc) st2 fun h' eb=>⟨rfl,I.turned (t':=s.toks) (fun b o hb e=>eb b o hb e) f0 f1 f3 f4 f5⟩
 self:=fun _ _ _ _ _ st h=>wpAny_pyIter_revIter st.2 h
section
variable {X:Cx}
def azS (K:Fg) (ta:TA):TI:=fun σ H R=>ta σ H fun vs H1=>∃ l xs,vs=[.ref l]/\cU K H1 l xs/\R (Itv K l xs.length) H1
theorem ah7 {tg e:Expr} {p pos:Pos} {ta:TA} (hg:Gl X "reversed") (hm:X.mg "reversed"=none) (ha:PA X [e] ta) (st:autoParam (starEach [e] X.env=[(false,eval e X.env)]) zau0) : PI X tg (.Call (.Name "reversed" p) [e] [] pos) (azS X.K ta):=by
 intro pins s σ H R I h;refine Call_ (nZ I hg hm boot_reversed (callWith_type1 (fV (ha pos pins s σ H _ I h) fun us a ⟨vs,H1,I1,r,q⟩=>?_) st rfl));obtain ⟨l,xs,e,sq,q⟩:=q;subst e;obtain ⟨u,e,r1⟩:=Vals.one r;subst e;cases r1;obtain ⟨its,rv,p,_⟩:=I1.list sq;have len:=rv.length;refine call_reversed_list p.isList ?_;have at0:(a.heap.push (revObj l ((its.toArray.size:Int) - 1))).IsRevIter a.heap.objs.size l ((xs.length:Int) - 1 - ((0:Nat):Int)):=⟨_,aN _ rfl,rfl,by simp [revObj,len]⟩;refine wpAny_pyIter_revIter at0 ⟨_,[a.heap.objs.size],_,_,H1,rfl,I1.kept (t':=a.toks) fun b o e=>aq _ e,Ss l _ xs.length,⟨dG _,at0⟩,fun b hb=>?_,q⟩;rw [aC.mp hb];exact I1.zA (aO _) (I1.hok.fresh (aO _))
end
section
variable {P:cC} {w:World} {K:Fg} {mg:Str->Option aB} {base:Heap} {x qual:Str} {st:dW} {f:aA} {fd:fQ} {N ps:List Str} {k:Nat} {sp:Sp}
theorem n6.mF (F:n6 K x qual st f fd) (S:bV N ps (aW st)) (len:∀ vs H Q E,sp vs H Q E->vs.length=ps.length) (body:∀ (cdv:aB) (A:d7) (outer:List Env) (s:aX) (H:Hp) (vs:List V) (Q:VK) (E:XK),d8 k (A.deeper (envOfC qual (aW st) s.heap.objs.size f cdv))->sp vs H Q E -> ∃ t,Br (oO (fL P w) P w K mg base N qual (aW st) f cdv A outer s H E) (gq st) t/\t { nx:=fun _ H'=>Q .non H',rt:=Q } (start N vs) H):cD P w K mg base (fL P w) (k + 1) f fd ps sp:=by
 obtain ⟨oc,od,kV,doc,pm,an,cdv,ct,osl,rfl,lk,hcd⟩:=F.ex;exact RN lk hcd S len fun A outer s H vs Q E hr h=>body cdv A outer s H vs Q E hr h
theorem n6.okH (F:n6 K x qual st f fd) (S:bV N ps (aW st)) (len:∀ vs H Q E,sp vs H Q E->vs.length=ps.length) (body:∀ (cdv:aB) (A:d7) (outer:List Env) (s:aX) (H:Hp) (vs:List V) (Q:VK) (E:XK),oU k (A.deeper (envOfC qual (aW st) s.heap.objs.size f cdv))->sp vs H Q E -> ∃ t,Br (Mu (fL P w) P w K mg base N qual (aW st) f cdv A outer s H E) (gq st) t/\t { nx:=fun _ H'=>Q .non H',rt:=Q } (start N vs) H):Cr P w K mg base (fL P w) (k + 1) f fd ps sp:=by
 obtain ⟨oc,od,kV,doc,pm,an,cdv,ct,osl,rfl,lk,hcd⟩:=F.ex;exact ah4 lk hcd S len fun A outer s H vs Q E hr h=>body cdv A outer s H vs Q E hr h
end
theorem MK {X:Cx} {x:Str} {T:String} {pos:Pos} (hg:Gl X x) (hm:X.mg x=none) (hv:bootBuiltins x=some (.type T)) (hn:autoParam (x≠"__name__") zau1) (hd:autoParam ((x == ("__debug__":Str))=false) zau1):PE X (.Name x pos) (tC (.ty T)) := Yq hg hm hv rfl hn hd
def Its (x:Str):It:=⟨fun i _=>i < x.cps.size,fun i H v H'=>H'=H/\∃ c,x.cps[i]?=some c/\v=.str ⟨#[c]⟩,fun i _=>i=x.cps.size⟩
theorem G3 {P:cC} {w:World} {K:Fg} {n ty:Str} {np:Pos} {k:String} (x:Str) (t:Tok) (it:aA) (W:∀ A:d7,A.handled=none->Walks P w A it [it] [it] x.cps.size (SignAt x) (fun i h=>h.IsStrIter it k x t i)) (self:∀ (A:d7) (i:Nat) (s:aX) (Q:aB->aX->Prop) (E:aB->aX->Prop),s.heap.IsStrIter it k x t i->Q (.ref it) s->wpAny (model P w) A (pyIter (.ref it)) Q E s) : Turn P w K (.Name n np) (Its x) [it] it (fun i h=>h.IsStrIter it k x t i) where
 mem:=by simp
 obj:=fun i h st b hb=>by
  obtain ⟨o,e,c,d⟩:=st;rw [aC.mp hb];exact ⟨o,e,fun v z=>by rw [d] at z; cases z⟩
 keep:=fun i h h' st kp=>by
  obtain ⟨o,e,r⟩:=st;exact ⟨o,kp it (by simp) o e,r⟩
 item:=by
  intro X hP hw hK hc i pins s σ H E I hf st go;subst hP hw hK;obtain ⟨f0,f1,f2,f3,f4,f5⟩:=hf it (by simp);refine (W X.A (I.ok.hd hc)).item i s _ _ go st fun v h' tk sg st' kk=>?_
  obtain ⟨c,u,hx,rfl⟩:=sg;have I1:Inv X pins σ H { s with heap:=h',toks:=tk }:=I.turned (fun b o hb e=>kk b o (by simpa using hb) e) f0 f1 f3 f4 f5;exact ⟨_,rfl,au ⟨.str ⟨#[c]⟩,H,I1,⟨u,rfl⟩,⟨rfl,c,hx,rfl⟩,st',fun b hb=>(hf b hb).1⟩⟩
 done:=by
  intro X hP hw hK hc i pins s σ H E I hf st stop;subst hP hw hK;have e:i=x.cps.size:=stop;subst e;obtain ⟨f0,f1,f2,f3,f4,f5⟩:=hf it (by simp);exact (W X.A (I.ok.hd hc)).done s _ _ st fun h' tk kk=>⟨rfl,I.turned (fun b o hb e=>kk b o (by simpa using hb) e) f0 f1 f3 f4 f5⟩
 self:=fun A i s Q E st h=>self A i s Q E st h
section
variable {X:Cx}
def azT (tl:TE):TI:=fun σ H R=>tl σ H fun v H1=>∃ x,v=.str x/\R (Its x) H1
theorem ah8 {n:Str} {np:Pos} {l:Expr} {tl:TE} (hl:PE X l tl):PI X (.Name n np) l (azT tl):=by
 intro pins s σ H R I h;refine fV (hl pins s σ H _ I h) fun v a ⟨y,H1,I1,r1,x,e,q⟩=>?_
 subst e;obtain ⟨t,rfl⟩:=r1;have I2:∀ o,Inv X pins σ H1 { a with heap:=a.heap.push o }:=fun o=>I1.kept (t':=a.toks) fun b ob e=>aq _ e
 have fp:∀ b ∈ [a.heap.objs.size],oK X pins H1 b:=fun b hb=>by
  rw [aC.mp hb];exact I1.zA (aO _) (I1.hok.fresh (aO _))
 cases ha:x.cps.all (· < 128) with
 | false=>exact wpAny_pyIter_wide ha ⟨_,[a.heap.objs.size],_,_,H1,rfl,I2 _,G3 (ty:=n) x t _ (fun A hA=>Walks.strWide hA _ x t) (fun A i s Q E st q=>wpAny_pyIter_striter_wide st q),⟨_,aN _ rfl,rfl,rfl⟩,fp,q⟩
 | true=>exact wpAny_pyIter_ascii ha ⟨_,[a.heap.objs.size],_,_,H1,rfl,I2 _,G3 (ty:=n) x t _ (fun A hA=>Walks.strAscii hA _ x t) (fun A i s Q E st q=>wpAny_pyIter_striter_ascii st q),⟨_,aN _ rfl,rfl,rfl⟩,fp,q⟩
theorem Cy:pB X (compareOp .LtE) (fun x y H Q=>∃ i j,x=.str i/\y=.str j/\Q (.bl (!decide (j.cps.toList < i.cps.toList))) H):=by
 intro pins s σ H x y v u Q I rx ry h;obtain ⟨i,j,rfl,rfl,q⟩:=h;obtain ⟨t,rfl⟩:=rx;obtain ⟨t',rfl⟩:=ry;exact PySem.P.le_str ⟨.bl _,H,I,rfl,q⟩
end
structure Y4 (K:Fg) (C:aA):Prop where
 ga:findIn K (.ref C) "__getattribute__"=some (some (.builtin "BaseException.__getattribute__"))
 hk:findIn K (.ref C) "__getattr__"=some none
 cls:(clsIn K C).isSome=true
 at_:findIn K (.ref C) "__class__"=some (some (.builtin "object.__class__"))
 gt:specialIn K (.builtin "object.__class__") "__get__"=some (some (.builtin "getset_descriptor.__get__"))
 tk:takesIn K (.builtin "object.__class__")=some true
 ob:mroIn K C (.type "object")=some true
 be:subIn K (.ref C) (.type "BaseException")=some true
section
variable {prog:cC} {w:World} {A:d7} {E:aB->aX->Prop} {s:aX} {K:Fg} {e C:aA} {oe:Obj} {od:Option Obj}
theorem Pb {tk:Tok} {Q:Fin->aX->Prop} (k:K.In s.heap) (t:Y4 K C) (I:InstAt s.heap e oe C od) (h:Q (.done (.ret (.ref C))) s) : wpAny (model prog w) A (Builtin.«object.__getattribute__» ⟨[.ref e,.str "__class__" tk],[]⟩) Q E s:=by
 obtain ⟨h0,g0,d0,tt,o0⟩:=s;have ht:=I.type (M:=model prog w);have hf:findObj K C od "__class__"=some (.bind (.builtin "getset_descriptor.__get__") (.builtin "object.__class__")) :=
  by obtain ⟨cd,hc⟩:=Option.isSome_iff_exists.mp t.cls; simp only [findObj,hc,Option.bind_some,t.at_,t.gt,t.tk]
 have lf:=PySem.W.looks_find (M:=model prog w) k I hf
 (unfold Builtin.«object.__getattribute__»; refine aj (au (aj (au (aj (ht.at (aj (lf.at ?_))))))))
 show wpAny _ _ (holding [Value.builtin "object.__class__"] (call (.builtin "getset_descriptor.__get__") [.builtin "object.__class__",.ref e,.ref C]) >>= ret) _ _ _
 refine aj (wpAny_holding (wpAny_call ?_));refine PySem.W.class_get (s:=⟨h0,g0,d0,tt,o0⟩) k I t.ob ?_
 show wpAny (model prog w) A (ret (Value.ref C)) Q E _
 exact au h
theorem Pg {Q:Option aB->aX->Prop} (k:K.In s.heap) (t:Y4 K C) (I:InstAt s.heap e oe C od) (h:Q (some (.ref C)) { s with toks:=s.toks + 1 }) : wpAny (model prog w) A (getAttr? (.ref e) "__class__") Q E s:=by
 obtain ⟨h0,g0,d0,tt,o0⟩:=s;have ht:=I.type (M:=model prog w);have lg:=looks_findIn (M:=model prog w) k t.ga;have lk:=looks_findIn (M:=model prog w) k t.hk;have isB:Looks (model prog w) h0 (isInstance (.ref e) (.type "BaseException")) true:=ht.andThen (PySem.W.looks_subIn k t.be)
 (unfold getAttr? getAttrBy? getAttrBy; refine aj (wpAny_mkText (aj (wpAny_attempt (wpAny_holding (aj (ht.at (aj (lg.at ?_)))))))))
 have no:(onTheHeap (Value.ref C) && Value.builtin "BaseException.__getattribute__" == Value.builtin "object.__getattribute__")=false:=by
  rw [show (Value.builtin "BaseException.__getattribute__" == Value.builtin "object.__getattribute__")=false by decide +kernel]; rfl
 dsimp only;rw [no,if_neg Bool.false_ne_true];unfold getAttrByItsOwn hookBefore;rw [if_pos (show onTheHeap (Value.ref C)=true from rfl)];refine aj (lk.at (aj (wpAny_attempt (wpAny_holding ?_))));unfold callGetattribute;rw [Bool.false_and,if_neg Bool.false_ne_true];unfold boundAndCalled;rw [(F.attr_ValueError).ga.bind];refine aj (au ?_)
 show wpAny _ _ (call (.builtin "BaseException.__getattribute__") [.ref e,.str "__class__" tt]) _ _ _
 refine wpAny_call (codeAny_call_builtin (F.attr_ValueError).ga.plain F.entry_bexc_ga ?_);have hB:builtinKind "BaseException.__getattribute__"=some .slot:=by decide +kernel
 have hS:splitId "BaseException.__getattribute__"=some ("BaseException","__getattribute__"):=by decide +kernel
 have hA:=F.args_bexc_ga (.ref e) (.str "__class__" tt);refine @PySem.W.check_slot (model prog w) _ _ ⟨h0,g0,d0,tt + 1,o0⟩ _ _ _ (.ref e) [.str "__class__" tt] [] _ hB hS isB hA ?_;refine Pb (s:=⟨h0,g0,d0,tt + 1,o0⟩) k t I ?_
 show wpAny (model prog w) A (handedOut (Value.ref C)) _ _ _
 exact PySem.W.handed_on rfl (au h)
def MN (e C:aA) (h:Heap):Prop:=∃ oe vs,h.get? e=some oe/\oe.cls=.ref C/\oe.dict=none/\oe.data=.fields vs
theorem MN.inst {h:Heap} (x:MN e C h):∃ oe,InstAt h e oe C none:=by
 obtain ⟨oe,vs,e1,e2,e3,e4⟩:=x;exact ⟨oe,e1,e2,by unfold PySem.W.notCls; rw [e4],by rw [e3]; trivial⟩
theorem Y4.obj (t:Y4 K C):∃ c dd cd sl,K.lookup C=some ⟨c,dd,.cls cd,sl⟩:=by
 obtain ⟨cd,hc⟩:=Option.isSome_iff_exists.mp t.cls;unfold clsIn at hc
 split at hc
 ·rename_i c dd cd' sl q
  exact ⟨c,dd,cd',sl,q⟩
 ·cases hc
theorem Y5 (t:Y4 K C):KitX K (.ref e) (.ref C) (MN e C) where
 ty:=fun M h k x=>by
  obtain ⟨oe,I⟩:=x.inst;exact I.type
 it:=fun M h k x=>by
  obtain ⟨c,dd,cd,sl,q⟩:=t.obj;intro A' Q' E' s' keep hq;unfold isType loadHead;exact aj (wpAny_loadPart (keep C _ (k C _ q)) (au hq))
 ne:=fun h tp dd its n sl k q=>by
  obtain ⟨c,d',cd,sl',q'⟩:=t.obj;cases z:(Value.ref C == Value.ref tp) with
  | false=>rfl
  | true =>
   obtain rfl:=Value.ref.inj (beq_iff_eq.mp z);rw [k C _ q'] at q;cases q
 ca:=fun k x h=>by
  obtain ⟨oe,I⟩:=x.inst;exact Pg k t I h
end
section
variable {X:Cx}
theorem mH:jH X (.builtin "isinstance") (fun xs H Q=>∃ e C c cv b,xs=[.ref e,c]/\RelV c cv/\(∃ C',c=.ref C'\/∃ T,c=.ty T)/\H e=some (zJ e (.ref C) none)/\Y4 X.K C/\kitOne X.K (.ref C) cv=some b/\Q (.bl b) H):=by
 intro pins s σ H xs us Q I r h;obtain ⟨e,C,c,cv,b,rfl,rc,kd,he,t,k1,q⟩:=h;obtain ⟨u,v,rfl,ru,rv⟩:=Vals.two r;obtain rfl:u=Value.ref e:=ru;have x:MN e C s.heap:=by
  obtain ⟨⟨oe,vs,p⟩,_⟩:=(show gD X.prog X.w H s.heap e (zJ e (.ref C) none) from I.hok e _ he);exact ⟨oe,vs,p⟩
 have ev:v=cv:=by
  obtain ⟨C',rfl | ⟨T,rfl⟩⟩:=kd
  ·exact rv.trans (Eq.symm rc)
  ·exact rv.trans (Eq.symm rc)
 subst ev;exact kia_one (Y5 t) I.sG x k1 (by
  obtain ⟨C',rfl | ⟨T,rfl⟩⟩:=kd
  ·intro z; obtain rfl:v=Value.ref C':=rv; cases z
  ·intro z; obtain rfl:v=Value.type T:=rv; cases z) fun tk=>⟨.bl b,H,I.tok tk,rfl,q⟩
end
inductive zO (K:Fg) (H:Hp):Nat->V->V->Bool->Prop where
 | flat {n:Nat} {x y:V} (fx:mq x=true) (fy:mq y=true):zO K H n x y (Gk x y)
 | self {n:Nat} {a:aA}:zO K H n (.ref a) (.ref a) true
 | tup {n:Nat} {a b:aA} {xs ys:List V} {e:Nat->Bool} (ne:a≠b) (ha:fj K H a xs) (hb:fj K H b ys) (h:∀ (j:Nat) x y,xs[j]?=some x->ys[j]?=some y->zO K H n x y (e j)) : zO K H (n + 1) (.ref a) (.ref b) ((List.range (min xs.length ys.length)).all e && xs.length == ys.length)
 | lst {n:Nat} {a b:aA} {xs ys:List V} {e:Nat->Bool} (ne:a≠b) (ha:cU K H a xs) (hb:cU K H b ys) (len:xs.length=ys.length) (h:∀ (j:Nat) x y,xs[j]?=some x->ys[j]?=some y->zO K H n x y (e j)) : zO K H (n + 1) (.ref a) (.ref b) ((List.range xs.length).all e)
 | Ph {n:Nat} {a b:aA} {xs ys:List V} (ne:a≠b) (ha:cU K H a xs) (hb:cU K H b ys) (len:xs.length≠ys.length):zO K H (n + 1) (.ref a) (.ref b) false
theorem Vals.item {xs:List V} {us:List aB} (r:Vals xs us) {j:Nat} (h:j < us.toArray.size):∃ x,xs[j]?=some x/\RelV x us.toArray[j]:=by
 have h':j < us.length:=by simpa using h
 have hx:j < xs.length:=by rw [r.length]; exact h'
 obtain ⟨u,e1,e2⟩:=r.get (aG hx);refine ⟨_,aG hx,?_⟩;rw [aG h'] at e1;cases e1;simpa using e2
theorem zO.at_ {X:Cx} {pins:List (aA × Obj)} {σ:St} {H:Hp} {s:aX} (I:Inv X pins σ H s) {n:Nat} {x y:V} {b:Bool} (d:zO X.K H n x y b) : ∀ (A:d7) (u v:aB),A.units + n < cLine->RelV x u->RelV y v->SeqAt.EqAt A s u v b:=by
 induction d with
 | flat fx fy=>exact fun A u v _ ru rv=>RP ru rv fx fy
 | self =>
  intro A u v _ ru rv;cases ru;cases rv;exact SeqAt.EqAt.same _
 | tup ne ha hb _ ih =>
  intro A u v hu ru rv;cases ru;cases rv;obtain ⟨us,r1,p1,_⟩:=I.tuple ha;obtain ⟨vs,r2,p2,_⟩:=I.tuple hb;have w:=SeqAt.RcAt.tuples (A:=A) p1 p2 (by omega) fun j h1 h2=>by
   obtain ⟨x,ex,rx⟩:=r1.item h1;obtain ⟨y,ey,ry⟩:=r2.item h2;exact ih j x y ex ey A.in1 _ _ (by rw [show ∀ A:d7,A.in1.units=A.units + 1 from fun _=>rfl]; omega) rx ry
  rw [size_toArray,size_toArray,<- r1.length,<- r2.length] at w;exact SeqAt.EqAt.of_refs ne w
 | lst ne ha hb len _ ih =>
  intro A u v hu ru rv;cases ru;cases rv;obtain ⟨us,r1,p1,_⟩:=I.list ha;obtain ⟨vs,r2,p2,_⟩:=I.list hb;have w:=SeqAt.RcAt.lists (A:=A) p1.isList p2.isList (by rw [size_toArray,size_toArray,<- r1.length,<- r2.length,len]) (by omega) fun j h1 h2=>by
   obtain ⟨x,ex,rx⟩:=r1.item h1;obtain ⟨y,ey,ry⟩:=r2.item h2;exact ih j x y ex ey A.in1 _ _ (by rw [show ∀ A:d7,A.in1.units=A.units + 1 from fun _=>rfl]; omega) rx ry
  rw [size_toArray,<- r1.length] at w;exact SeqAt.EqAt.of_refs ne w
 | Ph ne ha hb len =>
  intro A u v hu ru rv;cases ru;cases rv;obtain ⟨us,r1,p1,_⟩:=I.list ha;obtain ⟨vs,r2,p2,_⟩:=I.list hb;refine SeqAt.EqAt.of_refs ne (SeqAt.RcAt.lists_lengths p1.isList p2.isList ?_ (by omega));rw [size_toArray,size_toArray,<- r1.length,<- r2.length];simpa using len
section
variable {X:Cx}
def Sv (K:Fg) (neg:Bool):R2:=fun x y H Q=>∃ a b xs ys n e,x=.ref a/\y=.ref b/\fj K H a xs/\fj K H b ys/\n<=50/\(∀ (j:Nat) x y,xs[j]?=some x->ys[j]?=some y->zO K H n x y (e j)) /\ Q (.bl (neg ^^ ((List.range (min xs.length ys.length)).all e && xs.length == ys.length))) H
theorem Sw (hu:X.A.units + 64 < cLine):pB X (compareOp .Eq) (Sv X.K false):=by
 intro pins s σ H x y v u Q I rx ry h;obtain ⟨a,b,xs,ys,n,e,rfl,rfl,ha,hb,hn,d,q⟩:=h;cases rx;cases ry;obtain ⟨us,r1,p1,_⟩:=I.tuple ha;obtain ⟨vs,r2,p2,_⟩:=I.tuple hb;have w:=SeqAt.RcAt.tuples (A:=X.A) (e:=e) p1 p2 (by omega) fun j h1 h2=>by
  obtain ⟨x,ex,rx⟩:=r1.item h1;obtain ⟨y,ey,ry⟩:=r2.item h2;exact (d j x y ex ey).at_ I X.A.in1 _ _ (by rw [show ∀ A:d7,A.in1.units=A.units + 1 from fun _=>rfl]; omega) rx ry
 rw [size_toArray,size_toArray,<- r1.length,<- r2.length] at w;rw [Bool.false_xor] at q;exact w X.prog X.w X.xe _ ⟨.bl _,H,I,rfl,q⟩
theorem Sx (hu:X.A.units + 64 < cLine):pB X (compareOp .NotEq) (Sv X.K true):=by
 intro pins s σ H x y v u Q I rx ry h;obtain ⟨a,b,xs,ys,n,e,rfl,rfl,ha,hb,hn,d,q⟩:=h;cases rx;cases ry;obtain ⟨us,r1,p1,_⟩:=I.tuple ha;obtain ⟨vs,r2,p2,_⟩:=I.tuple hb;have w:=SeqAt.RcNeAt.tuples (A:=X.A) (e:=e) p1 p2 (by omega) fun j h1 h2=>by
  obtain ⟨x,ex,rx⟩:=r1.item h1;obtain ⟨y,ey,ry⟩:=r2.item h2;exact (d j x y ex ey).at_ I X.A.in1 _ _ (by rw [show ∀ A:d7,A.in1.units=A.units + 1 from fun _=>rfl]; omega) rx ry
 rw [size_toArray,size_toArray,<- r1.length,<- r2.length] at w;rw [Bool.true_xor] at q;exact w X.prog X.w X.xe _ ⟨.bl _,H,I,rfl,q⟩
noncomputable def Pj (K:Fg) (neg:Bool):R2:=fun x y H Q=>∃ a b xs ys n e,x=.ref a/\y=.ref b/\cU K H a xs/\cU K H b ys/\n<=50/\(xs.length=ys.length->∀ (j:Nat) x y,xs[j]?=some x->ys[j]?=some y->zO K H n x y (e j)) /\ (xs.length=ys.length->Q (.bl (neg ^^ (List.range xs.length).all e)) H)/\(xs.length≠ys.length->Q (.bl neg) H)
theorem ah9 (hu:X.A.units + 64 < cLine):pB X (compareOp .Eq) (Pj X.K false):=by
 intro pins s σ H x y v u Q I rx ry h;obtain ⟨a,b,xs,ys,n,e,rfl,rfl,ha,hb,hn,d,q1,q2⟩:=h;cases rx;cases ry;obtain ⟨us,r1,p1,_⟩:=I.list ha;obtain ⟨vs,r2,p2,_⟩:=I.list hb
 by_cases len:xs.length=ys.length
 ·have w:=SeqAt.RcAt.lists (A:=X.A) (e:=e) p1.isList p2.isList (by rw [size_toArray,size_toArray,<- r1.length,<- r2.length,len]) (by omega) fun j h1 h2=>by
   obtain ⟨x,ex,rx⟩:=r1.item h1;obtain ⟨y,ey,ry⟩:=r2.item h2;exact (d len j x y ex ey).at_ I X.A.in1 _ _ (by rw [show ∀ A:d7,A.in1.units=A.units + 1 from fun _=>rfl]; omega) rx ry
  rw [size_toArray,<- r1.length] at w;have q:=q1 len;rw [Bool.false_xor] at q;exact w X.prog X.w X.xe _ ⟨.bl _,H,I,rfl,q⟩
 ·have w:=SeqAt.RcAt.lists_lengths (A:=X.A) p1.isList p2.isList (by rw [size_toArray,size_toArray,<- r1.length,<- r2.length]; simpa using len) (by omega);exact w X.prog X.w X.xe _ ⟨.bl _,H,I,rfl,q2 len⟩
theorem aia (hu:X.A.units + 64 < cLine):pB X (compareOp .NotEq) (Pj X.K true):=by
 intro pins s σ H x y v u Q I rx ry h;obtain ⟨a,b,xs,ys,n,e,rfl,rfl,ha,hb,hn,d,q1,q2⟩:=h;cases rx;cases ry;obtain ⟨us,r1,p1,_⟩:=I.list ha;obtain ⟨vs,r2,p2,_⟩:=I.list hb
 by_cases len:xs.length=ys.length
 ·have w:=SeqAt.RcNeAt.lists (A:=X.A) (e:=e) p1.isList p2.isList (by rw [size_toArray,size_toArray,<- r1.length,<- r2.length,len]) (by omega) fun j h1 h2=>by
   obtain ⟨x,ex,rx⟩:=r1.item h1;obtain ⟨y,ey,ry⟩:=r2.item h2;exact (d len j x y ex ey).at_ I X.A.in1 _ _ (by rw [show ∀ A:d7,A.in1.units=A.units + 1 from fun _=>rfl]; omega) rx ry
  rw [size_toArray,<- r1.length] at w;have q:=q1 len;rw [Bool.true_xor] at q;exact w X.prog X.w X.xe _ ⟨.bl _,H,I,rfl,q⟩
 ·have w:=SeqAt.RcNeAt.lists_lengths (A:=X.A) p1.isList p2.isList (by rw [size_toArray,size_toArray,<- r1.length,<- r2.length]; simpa using len) (by omega);exact w X.prog X.w X.xe _ ⟨.bl _,H,I,rfl,q2 len⟩
end
section
variable {X:Cx} {pos:Pos}
end
def aib:Expr->Option V
 | .Constant (.int n) _ _=>some (V.int n)
 | .Constant (.str z) _ _=>some (V.str z)
 | .Constant (.bool b) _ _=>some (.bl b)
 | .Constant .none _ _=>some .non
 | .UnaryOp .USub (.Constant (.int n) _ _) _=>some (V.int (-n))
 | _=>none
def abo:List Expr->Option (List V)
 | []=>some []
 | e::es=>(aib e).bind fun v=>(abo es).map fun vs=>v::vs
section
variable {X:Cx}
theorem aic {e:Expr} {es:List Expr} {v:V} (h:aib e=some v):PE X e (tC v)/\starEach (e::es) X.env=(false,eval e X.env)::starEach es X.env:=by
 unfold aib at h
 split at h
 ·cases h; exact ⟨aV,rfl⟩
 ·cases h; exact ⟨ju,rfl⟩
 ·cases h; exact ⟨qb,rfl⟩
 ·cases h; exact ⟨ji,rfl⟩
 ·cases h;refine ⟨fun pins s σ H Q I q=>?_,rfl⟩;exact aa7 Rz aV pins s σ H Q I ⟨_,rfl,q⟩
 ·cases h
def Sy (vs:List V):TA:=fun _ H Q=>Q vs H
theorem iR (vs:List V) {es:List Expr} (h:abo es=some vs):PA X es (Sy vs):=by
 induction es generalizing vs with
 | nil =>
  cases h;exact fun pos pins s σ H Q I q=>aK pos pins s σ H Q I q
 | cons e es ih =>
  obtain ⟨v,hv,h⟩:=Option.bind_eq_some_iff.mp h;obtain ⟨ws,hw,rfl⟩:=bh.mp h;obtain ⟨p,st⟩:=aic (X:=X) (es:=es) hv;exact fun pos pins s σ H Q I q=>ao p (ih ws hw) st pos pins s σ H Q I q
end
theorem Pk:typeLookup (.type "list_reverseiterator") "__len__"=pure none:=by rw [typeLookup_type,builtinLookup_eq_fast]; kernel_rfl
theorem SJ:typeLookup (.type "list_reverseiterator") "__length_hint__"=pure (some (.builtin "list_reverseiterator.__length_hint__")):=by rw [typeLookup_type,builtinLookup_eq_fast]; kernel_rfl
section
variable {prog:cC} {w:World} {A:d7} {E:aB->aX->Prop} {s:aX} {J l:aA} {its:Array aB}
theorem Ka {Q:Bool->aX->Prop} (hT:s.TypeIs (.ref J) "list_reverseiterator") (h:Q false s):wpAny (model prog w) A (Builtin.List.listLengthHint (.ref J)) Q E s:=by
 unfold Builtin.List.listLengthHint; refine aj (wpAny_specialOf hT Pk ?_)
 show wpAny _ A (specialOf (Value.ref J) (Str.ofString "__length_hint__") >>= _) _ _ s
 refine aj (wpAny_specialOf hT SJ ?_);generalize hid:("list_reverseiterator.__length_hint__":String)=id0
 wp_delta
 rw [show splitId id0=some ("list_reverseiterator","__length_hint__") from by subst hid; decide +kernel];subst hid;refine aj (wpAny_isInstance (s:=s) (b:=true) hT (by rw [isSubtype_type]; kernel_rfl) ?_);exact au h
abbrev MP (J l:aA) (its:Array aB):Nat->aX->Prop:=fun i s=>i<=its.size/\s.heap.IsRevIter J l ((its.size:Int) - 1 - (i:Int))/\s.heap.IsList l its
theorem G4 {Q:List aB->aX->Prop} (hh:A.handled=none) (ne:l≠J) (st:MP J l its 0 s) (hz:its.size<=sizeLine) (hQ:∀ s' acc,Moved [J] (fun a b=>b=a) s s'->ItemsOf (fun i v=>its[its.size - 1 - i]?=some v) acc its.size->Q acc.toList s'):wpAny (model prog w) A (collect (.ref J)) Q E s:=by
 have W:=(Walks.listRev (prog:=prog) (w:=w) (A:=A.in1) hh J l ne its).toS;obtain ⟨lJ,ll⟩:J < s.heap.objs.size/\l < s.heap.objs.size:=by
  obtain ⟨_,⟨o,e,_⟩,⟨o',e',_⟩⟩:=st;exact ⟨Heap.lt_size e,Heap.lt_size e'⟩
 have out:s.heap.objs.size ∉ [J,l]:=by
  intro m;simp only [aR,mem_nil_iff,or_false] at m;rcases m with m | m
  ·exact cR _ (m ▸ lJ)
  ·exact cR _ (m ▸ ll)
 have neJ:s.heap.objs.size≠J:=fun m=>cR _ (m ▸ lJ)
 unfold collect; refine aj (wpAny_runValue (codeAny_builtin F.entry_proto_collect ?_)); rw [Around.under_plainId F.plain_proto_collect _]
 show wpAny _ A.in1 (newList [] >>= fun m=>again (.builtin "list.__iadd__" ⟨[m,.ref J],[]⟩)) _ _ s
 refine aj (wpAny_newObj_type (au ⟨plainId_quiet F.plain_list_iadd _,codeAny_builtin F.entry_list_iadd ?_⟩)); rw [Around.under_plainId F.plain_list_iadd _];have st1:=W.frame 0 s (s.heap.push { cls:=.type "list",data:=.seq ([]:List aB).toArray }) s.toks st (aO _) (fun b _ o e=>aq _ e);have new1:(s.heap.push { cls:=.type "list",data:=.seq ([]:List aB).toArray }).get? s.heap.objs.size=some { cls:=.type "list",data:=.seq ([]:List aB).toArray }:=(aN _ rfl);have same:Builtin.List.listSameRef (.ref s.heap.objs.size) (.ref J)=false:=by simp [Builtin.List.listSameRef,neJ]
 show wpAny _ A.in1 (Builtin.List.listExtendWith (.ref s.heap.objs.size) (.ref J) (.ref s.heap.objs.size)) _ _ _; unfold Builtin.List.listExtendWith
 have tJ:Shared.TypeIs { s with heap:=s.heap.push { cls:=.type "list",data:=.seq ([]:List aB).toArray } } (.ref J) "list_reverseiterator":=st1.2.1.typeIs;refine aj (wpAny_typeOf tJ ?_);rw [if_neg (by rw [same]; decide)];refine aj (W.self 0 _ _ _ st1 (aj (wpAny_holding (Ka tJ ?_))));rw [if_neg (by decide)];refine au ⟨plainId_quiet F.plain_extend_loop _,codeAny_extend_loopS W hz _ out _ its.size 0 _ _ _ rfl (dG _) st1 new1 (ItemsOf.nil _) fun s' acc c hm hS ha=>?_⟩
 show wpAny _ A (load s.heap.objs.size >>= _) _ _ s'; exact aj (wpAny_load hS (au (hQ s' acc (Moved.drop_new (o:={ cls:=.type "list",data:=.seq ([]:List aB).toArray }) (tk:=s.toks) hm (aO _)) ha)))
theorem BJ {Q:aB->aX->Prop} (hh:A.handled=none) (ne:l≠J) (st:MP J l its 0 s) (hz:its.size<=sizeLine) (hQ:∀ s' acc,Moved [J] (fun a b=>b=a) s s'->ItemsOf (fun i v=>its[its.size - 1 - i]?=some v) acc its.size->Q (.ref s'.heap.objs.size) { s' with heap:=s'.heap.push { cls:=.type "tuple",data:=.seq acc } }) : codeAny (model prog w) A (.call (.builtin "tuple.__new__") ⟨[.type "tuple",.ref J],[]⟩) (wants Q E) s:=by
 refine codeAny_of_tree ?_
 show wpAny _ A.in1 (do checkBuiltinCall "tuple.__new__" ⟨[.type "tuple",.ref J],[]⟩; again (.builtin "tuple.__new__" ⟨[.type "tuple",.ref J],[]⟩)) _ _ s
 refine aj (wpAny_of_eq (F.newCall_tuple_1 _) (au ⟨plainId_quiet F.plain_tuple_new _,codeAny_builtin (F.entry_tuple_new) ?_⟩));rw [Around.under_plainId F.plain_tuple_new _]; have h1:=sub_tuple_self;have h2:=init_tuple_lookup;have h3:=madeHere_tuple;have tJ:=st.2.1.typeIs
 wp_walk using wpAny_typeOf tJ,G4 (A:=A.in1) hh ne st hz
 intro s' acc hm ha
 show wpAny _ _ (Builtin.Tuple.tupleExact acc.toList.toArray >>= fun v=>ret v) _ _ s'
 rw [show acc.toList.toArray=acc by simp]; unfold Builtin.Tuple.tupleExact; refine aj (wpAny_newObj_type (au (hQ s' acc hm ha)) (by show acc.size<=sizeLine; rw [ha.1]; exact hz))
theorem Pn {Q:aB->aX->Prop} (hh:A.handled=none) (ne:l≠J) (st:MP J l its 0 s) (hz:its.size<=sizeLine) (hQ:∀ s' acc,Moved [J] (fun a b=>b=a) s s'->ItemsOf (fun i v=>its[its.size - 1 - i]?=some v) acc its.size->Q (.ref s'.heap.objs.size) { s' with heap:=s'.heap.push { cls:=.type "tuple",data:=.seq acc } }) : wpAny (model prog w) A (call (.type "tuple") [.ref J]) Q E s:=by
 refine callType_codes (Q₁:=fun obj s1=>s1.TypeIs obj "tuple"/\Q obj s1) F.called_tuple (F.typeCall_tuple_1 _) F.entry_object_init (BJ hh ne st hz fun s' acc hm ha=>⟨⟨_,aN _ rfl,rfl⟩,hQ s' acc hm ha⟩) fun obj s1 h1=>?_
 exact ⟨h1.1,F.args_object_init_2 obj _,object_init_meets F.called_tuple.init.lookup F.called_tuple.made (by decide) prog w A.in1 _ s1 ⟨h1.1,rfl,h1.2⟩⟩
theorem Pq {acc:Array aB} (h:ItemsOf (fun i v=>its[its.size - 1 - i]?=some v) acc its.size):acc.toList=its.toList.reverse:=by
 apply ext_getElem?;intro i
 by_cases lt:i < its.size
 ·have la:i < acc.size:=by rw [h.1]; exact lt
  have h2:=h.2 i acc[i] (by simp [la]);rw [List.getElem?_reverse (by simpa using lt)];simp only [Array.length_toList,Array.getElem?_toList];rw [h2];simp [la]
 ·have la:¬ i < acc.size:=by rw [h.1]; exact lt
  simp [lt,la]
end
theorem SM {xs:List V} {us:List aB} (r:Vals xs us):Vals xs.reverse us.reverse:=by
 induction r with
 | nil=>exact .nil
 | cons h t ih =>
  simp only [List.reverse_cons];exact Paired.snoc ih h
section
variable {X:Cx} {e:Expr} {te:TE} {p p2 pos pos2:Pos}
def Y6 (K:Fg) (ta:TA):TE:=fun σ H Q=>ta σ H fun vs H1=>∃ l ys,vs=[.ref l]/\cU K H1 l ys/\∀ t,H1 t=none->Q (.ref t) (upd H1 t (.tup ys.reverse))
theorem Pr {ta:TA} (hc:X.calm=true) (hm:X.mg "tuple"=none) (hm2:X.mg "reversed"=none) (ha:PA X [e] ta) (hg:autoParam (Gl X "tuple") zau0) (hg2:autoParam (Gl X "reversed") zau0) (st:autoParam (starEach [e] X.env=[(false,eval e X.env)]) zau0) (st2:autoParam (starEach [.Call (.Name "reversed" p2) [e] [] pos2] X.env=[(false,eval (.Call (.Name "reversed" p2) [e] [] pos2) X.env)]) zau0) : PE X (.Call (.Name "tuple" p) [.Call (.Name "reversed" p2) [e] [] pos2] [] pos) (Y6 X.K ta):=by
 intro pins s σ H Q I h;have inner:wpAny (model X.prog X.w) X.A (eval (.Call (.Name "reversed" p2) [e] [] pos2) X.env) (fun v s'=>∃ J l its ys H1,v=.ref J/\Inv X pins σ H1 s'/\oK X pins H1 J/\MP J l (List.toArray its) 0 s'/\l≠J/\Vals ys its/\ys.length<=sizeLine/\∀ t,H1 t=none->Q (.ref t) (upd H1 t (.tup ys.reverse))) X.xe s:=by
  refine Call_ (nZ I hg2 hm2 boot_reversed (callWith_type1 (fV (ha pos2 pins s σ H _ I h) fun us a ⟨vs,H1,I1,r,q⟩=>?_) st rfl));obtain ⟨l,ys,e,sq,q⟩:=q;subst e;obtain ⟨u,e,r1⟩:=Vals.one r;subst e;cases r1;obtain ⟨its,rv,pl,hz⟩:=I1.list sq;refine call_reversed_list pl.isList ⟨a.heap.objs.size,l,its,ys,H1,rfl,I1.kept (t':=a.toks) fun b o e=>aq _ e,I1.zA (aO _) (I1.hok.fresh (aO _)),⟨dG _,⟨_,aN _ rfl,rfl,by simp [revObj]⟩,pl.isList.push _⟩,?_,rv,hz,q⟩;obtain ⟨o,eo,_⟩:=pl.isList;exact Nat.ne_of_lt (Heap.lt_size eo)
 refine Call_ (nZ I hg hm boot_tuple (callWith_type1 ?_ st2 rfl))
 show wpAny _ _ (spliced (backTo pos (starEach [.Call (.Name "reversed" p2) [e] [] pos2] X.env))) _ _ s
 rw [st2];refine Calls.spliced_cons (fV inner fun v s1 ⟨J,l,its,ys,H1,ev,I1,fp,rs,ne,rv,hz,q⟩=>Calls.spliced_nil ?_);subst ev;have len:=rv.length;refine Pn (I1.ok.hd hc) ne rs (by simp only [size_toArray]; omega) fun s' acc hm ha=>?_
 have I2:Inv X pins σ H1 s':=by
  rw [hm.eq_with];exact I1.turns (t':=s'.toks) (ch:=[J]) (fun b hb=>by rw [aC.mp hb]; exact fp) hm.heap
 have hv:Vals ys.reverse acc.toList:=by rw [Pq ha]; simpa using SM rv
 refine ⟨.ref s'.heap.objs.size,_,I2.laid (t':=s'.toks) (o:=.tup ys.reverse) (fun b o e=>aq _ e) (aO _) ?_,rfl,q _ (I2.hok.fresh (aO _))⟩;exact ⟨by rw [List.length_reverse]; exact hz,acc.toList,hv,by simpa using IsTup.new s'.heap acc⟩
end
end L2
namespace Tw
open PySem L2
inductive Kd where
 | non | bl | int | str | lst | tup | ins (C:aA)
def Kd.ty:Kd->aB
 | .non=>.type "NoneType"
 | .bl=>.type "bool"
 | .int=>.type "int"
 | .str=>.type "str"
 | .lst=>.type "list"
 | .tup=>.type "tuple"
 | .ins C=>.ref C
inductive BT where
 | bool | int | str | list | tuple
def BT.nm:BT->String
 | .bool=>"bool" | .int=>"int" | .str=>"str" | .list=>"list" | .tuple=>"tuple"
def bi:Kd->BT->Bool
 | .bl,.bool=>true
 | .bl,.int=>true
 | .int,.int=>true
 | .str,.str=>true
 | .lst,.list=>true
 | .tup,.tuple=>true
 | _,_=>false
structure BK (K:Fg) (C:aA):Prop where
 cl:Cls K C
 ha:findIn K (.ref C) "__class__"=some (some (.builtin "object.__class__"))
 hn:specialIn K (.builtin "object.__class__") "__get__"=some (some (.builtin "getset_descriptor.__get__"))
 htk:takesIn K (.builtin "object.__class__")=some true
 hm:mroIn K C (.type "object")=some true
 no:∀ b:BT,kitOne K (.ref C) (.type b.nm)=some false
def gh (K:Fg) (H:Hp) (v:V):Kd->Prop
 | .non=>v=.non
 | .bl=>∃ b,v=.bl b
 | .int=>∃ i,v=.int i
 | .str=>∃ x,v=.str x
 | .lst=>∃ a xs,v=.ref a/\(H a=some (.lst xs)\/∃ o,H a=some (.DQ o (.lst xs)))
 | .tup=>∃ a xs,v=.ref a/\H a=some (.tup xs)
 | .ins C=>∃ a dx fs,v=.ref a/\H a=some (.ins C dx fs)/\BK K C
theorem gh.tyOf {K:Fg} {H:Hp} {v:V} {k:Kd} (h:gh K H v k):tK K H v k.ty:=by
 cases k with
 | non=>cases h; exact .non
 | bl=>obtain ⟨b,rfl⟩:=h; exact .bl b
 | int=>obtain ⟨i,rfl⟩:=h; exact .int i
 | str=>obtain ⟨x,rfl⟩:=h; exact .str x
 | lst =>
  obtain ⟨a,xs,rfl,e | ⟨o,e⟩⟩:=h
  ·exact .lst e
  ·exact .DQ e
 | tup=>obtain ⟨a,xs,rfl,e⟩:=h; exact .tup e
 | ins C=>obtain ⟨a,dx,fs,rfl,e,t⟩:=h; exact .ins e t.cl t.ha t.hn t.htk t.hm
theorem gh.bi {K:Fg} {H:Hp} {v:V} {k:Kd} (h:gh K H v k) (b:BT):kitOne K k.ty (.type b.nm)=some (bi k b):=by
 cases k with
 | ins C=>obtain ⟨a,dx,fs,rfl,e,t⟩:=h; cases b <;> exact t.no _
 | _=>cases b <;> rfl
theorem gh.same {K:Fg} {H H':Hp} {v:V} {k:Kd} (h:gh K H v k) (s:Same H H'):gh K H' v k:=by
 cases k with
 | lst =>
  obtain ⟨a,xs,rfl,e | ⟨o,e⟩⟩:=h
  ·exact ⟨a,xs,rfl,.inl (s _ _ e)⟩
  ·exact ⟨a,xs,rfl,.inr ⟨o,s _ _ e⟩⟩
 | tup=>obtain ⟨a,xs,rfl,e⟩:=h; exact ⟨a,xs,rfl,s _ _ e⟩
 | ins C=>obtain ⟨a,dx,fs,rfl,e,t⟩:=h; exact ⟨a,dx,fs,rfl,s _ _ e,t⟩
 | _=>exact h
section
variable {X:Cx} {e:Expr} {te:TE} {p pos p2:Pos}
theorem SN (b:BT):jH X (.builtin "isinstance") (fun xs H Q=>∃ v k,xs=[v,.ty b.nm]/\gh X.K H v k/\Q (.bl (bi k b)) H):=by
 intro pins s σ H xs us Q I r h;obtain ⟨v,k,rfl,hk,q⟩:=h;exact Er pins s σ H _ us Q I r ⟨v,b.nm,k.ty,bi k b,rfl,hk.bi b,hk.tyOf,q⟩
theorem SQ:jH X (.builtin "isinstance") (fun xs H Q=>∃ v k C b,xs=[v,.ref C]/\gh X.K H v k/\kitOne X.K k.ty (.ref C)=some b/\Q (.bl b) H):=by
 intro pins s σ H xs us Q I r h;obtain ⟨v,k,C,b,rfl,hk,e,q⟩:=h;exact GZ pins s σ H _ us Q I r ⟨v,.ref C,C,k.ty,b,rfl,⟨rfl,e⟩,hk.tyOf,q⟩
theorem qD {x:Str} (b:BT) (hi:X.mg "isinstance"=none) (hx:X.mg x=none) (he:PE X e te) (hg:autoParam (Gl X "isinstance") zau0) (hgx:autoParam (Gl X x) zau0) (hv:bootBuiltins x=some (.type b.nm):=by decide +kernel) (hn:autoParam (x≠"__name__") zau1) (hd:autoParam ((x == ("__debug__":Str))=false) zau1) (h1:autoParam (starEach [e,.Name x p2] X.env=(false,eval e X.env)::starEach [.Name x p2] X.env) zau0) (h2:autoParam ((backTo pos (starEach [.Name x p2] X.env)).any (·.1)=false) zau0) (h3:autoParam (starEach [.Name x p2] X.env=(false,eval (.Name x p2) X.env)::starEach [] X.env) zau0) : PE X (.Call (.Name "isinstance" p) [e,.Name x p2] [] pos) (tCB (fun xs H Q=>∃ v k,xs=[v,.ty b.nm]/\gh X.K H v k/\Q (.bl (bi k b)) H) (yh te (yh (tC (.ty b.nm)) JT))) := zF (X:=X) (p:=p) (pos:=pos) (SN b) hg hi boot_isinstance (ao he (ao (MK (T:=b.nm) (pos:=p2) hgx hx hv hn hd) aK h3) h1) (by decide) (by decide) h1 h2
theorem aie {x:Str} {C:aA} (hi:X.mg "isinstance"=none) (hx:X.mg x=some (.ref C)) (he:PE X e te) (hg:autoParam (Gl X "isinstance") zau0) (hgx:autoParam (Gl X x) zau0) (hd:autoParam ((x == ("__debug__":Str))=false) zau1) (h1:autoParam (starEach [e,.Name x p2] X.env=(false,eval e X.env)::starEach [.Name x p2] X.env) zau0) (h2:autoParam ((backTo pos (starEach [.Name x p2] X.env)).any (·.1)=false) zau0) (h3:autoParam (starEach [.Name x p2] X.env=(false,eval (.Name x p2) X.env)::starEach [] X.env) zau0) : PE X (.Call (.Name "isinstance" p) [e,.Name x p2] [] pos) (tCB (fun xs H Q=>∃ v k C b,xs=[v,.ref C]/\gh X.K H v k/\kitOne X.K k.ty (.ref C)=some b/\Q (.bl b) H) (yh te (yh (tC (.ref C)) JT))) := zF (X:=X) (p:=p) (pos:=pos) SQ hg hi boot_isinstance (ao he (ao (Mg (v:=.ref C) (pos:=p2) hgx hx rfl hd) aK h3) h1) (by decide) (by decide) h1 h2
theorem yW {D:aA} {J:It} {σ0:St} {g:TG} {te:TE} {Qe:Hp->Prop} {H1:Hp} (n:Nat) (hn:n<=sizeLine) (y:Nat->V) (Pv:Nat->Hp->Prop) (start:Pv 0 (upd H1 D (.lst []))) (at_:∀ i H,i<=n->Pv i H->H D=some (.lst ((List.range i).map y))) (stop:∀ H,Pv n H->J.stop n H/\Qe H) (go:∀ i H,i < n->Pv i H->J.go i H/\∀ x H',J.Rw i H x H'->∀ Qc:VK,(∀ H3,H3 D=some (.lst ((List.range i).map y))->Pv (i + 1) (upd H3 D (.lst ((List.range (i + 1)).map y)))->Qc (y i) H3)->g x σ0 H' fun σ2 H2=>qd σ0 σ2/\te σ2 H2 Qc) : ∃ W:Nat->Nat->List V->Hp->Prop,(∃ m,W 0 m [] (upd H1 D (.lst [])))/\yj D J σ0 g J1 te Qe W:=by
 refine ⟨fun i m ac H=>i<=n/\m=n - i/\ac=(List.range i).map y/\Pv i H,⟨n,dG _,rfl,rfl,start⟩,?_⟩;rintro i m ac H ⟨le,rfl,rfl,p⟩;refine ⟨at_ i H le p,?_⟩
 by_cases lt:i < n
 ·obtain ⟨g1,step⟩:=go i H lt p;refine .inr ⟨g1,by rw [ak,bw]; exact bA lt hn,fun x H' yl=>?_⟩;simp only [J1,if_true];refine step x H' yl _ fun H3 hD nx=>?_
  have e:(List.range i).map y++[y i]=(List.range (i + 1)).map y:=by rw [bY,aZ]; rfl
  exact ⟨hD,n - (i + 1),by omega,lt,rfl,e,by rw [e]; exact nx⟩
 ·have e:i=n:=by omega
  subst e;exact .inl (stop H p)
theorem aY {H:Hp} {D:aA} {o:HO} (h:H D=none):Same H (upd H D o):=fun b u e=>by rw [bf (dw e h)]; exact e
theorem ig {x:Str} {id:String} {r:List V->Hp->VK->Prop} {es:List Expr} {t:TA} (hc:jH X (.builtin id) r) (hm:X.mg x=none) (hv:bootBuiltins x=some (.builtin id)) (ha:PA X (e::es) t) (hg:autoParam (Gl X x) zau0) (hn:autoParam (x≠"__name__") zau1) (hdb:autoParam ((x == ("__debug__":Str))=false) zau1) (he:autoParam (starEach (e::es) X.env=(false,eval e X.env)::starEach es X.env) zau0) (hpl:autoParam ((backTo pos (starEach es X.env)).any (·.1)=false) zau0):PE X (.Call (.Name x p) (e::es) [] pos) (tCB r t):=zF hc hg hm hv ha hn hdb he hpl
theorem qg {x:Str} {u:aB} (v:V) (hm:X.mg x=some u) (r:RelV v u) (hg:autoParam (Gl X x) zau0) (hd:autoParam ((x == ("__debug__":Str))=false) zau1):PE X (.Name x pos) (tC v):=Mg hg hm r hd
theorem cZ (i:Nat) {x:Str} (hN:X.N.Nodup) (hi:autoParam (X.N[i]?=some x) zau0) (hx:Loc X.env.scope x:=by exact Or.inl rfl) (hf:X.fn x=true\/X.env.scope.names.lookup x=some .local:=by first | exact .inl rfl | exact .inr rfl):PG X (.Name x pos) (Mh i):=Ys hN hi hx hf
end
structure apA (K:Fg) (C:aA) (m:Str) (f:aA):Prop where
 rd:readsIn K C (.type "type")=true
 ga:specialIn K (.ref C) "__getattribute__"=some (some (.builtin "type.__getattribute__"))
 at_:findCls K (.ref C) (.type "type") m=some (.val (.ref f))
 kp:keepIn K (.ref f)=true
section
variable {X:Cx} {CX:Gj} {k:Nat} {f C:aA} {fd:fQ} {ps:List Str} {sp:Sp} {uV:List V} {ds:List aB} {E:XK} {x m:Str} {p pos apos:Pos} {e o:Expr} {es:List Expr} {ta:TE} {t:TA}
theorem dI (F:cD X.prog X.w X.K X.mg X.base CX k f fd ps sp) (hr:d8 k X.A) (hm:X.mg x=some (.ref f)) (hk:keepIn X.K (.ref f)=true) (hb:Binds X.K fd ps []) (hx:Passes CX X E) (ha:PA X (e::es) t) (hg:autoParam (Gl X x) zau0) (hdb:autoParam ((x == ("__debug__":Str))=false) zau1) (he:autoParam (starEach (e::es) X.env=(false,eval e X.env)::starEach es X.env) zau0) (hpl:autoParam ((backTo pos (starEach es X.env)).any (·.1)=false) zau0) : PE X (.Call (.Name x p) (e::es) [] pos) (Gs sp [] E t):=Mq F hr hg hm hk hb .nil hx ha hdb he hpl
theorem yq (M:Mk X.K C f) (F:cD X.prog X.w X.K X.mg X.base CX k f fd ps sp) (hr:d8 (k + 1) X.A) (hm:X.mg x=some (.ref C)) (hb:Binds X.K fd ps []) (hx:Passes CX X E) (ha:PA X (e::es) t) (hg:autoParam (Gl X x) zau0) (hdb:autoParam ((x == ("__debug__":Str))=false) zau1) (he:autoParam (starEach (e::es) X.env=(false,eval e X.env)::starEach es X.env) zau0) (hpl:autoParam ((backTo pos (starEach es X.env)).any (·.1)=false) zau0) : PE X (.Call (.Name x p) (e::es) [] pos) (abd C sp [] E t):=YB M F hr hg hm hb .nil hx ha hdb he hpl
theorem Y7 {pl:Sem Bool} (hx:X.mg x=some (.ref C)) (hm:apA X.K C m f) (F:cD X.prog X.w X.K X.mg X.base CX k f fd ps sp) (hr:d8 k X.A) (hb:Binds X.K fd ps []) (hp:Passes CX X E) (ha:PA X (e::es) t) (hg:autoParam (Gl X x) zau0) (hdb:autoParam ((x == ("__debug__":Str))=false) zau1) (hst:autoParam (starEach (e::es) X.env=(false,eval e X.env)::starEach es X.env) zau0) (hpl:autoParam ((backTo pos (starEach es X.env)).any (·.1)=false) zau0) (ht:autoParam (eval (.Call (.Attribute (.Name x p) m apos) (e::es) [] pos) X.env=(do
   let ov <- eval (.Name x p) X.env
   standAt apos.atName
   let (f,first) <- holding [ov] (getMethod ov m pl)
   callWith pos f first (backTo pos (starEach (e::es) X.env)) (backToKw pos (keywordEach [] X.env)))) zau0) :
  PE X (.Call (.Attribute (.Name x p) m apos) (e::es) [] pos) (Gs sp [] E t):=by
 intro pins s σ H Q I h;refine methodCall_KW (pl:=pl) (pC I hg hx ?_ hdb) ht;refine PySem.W.method_cls I.sG hm.ga (PySem.W.cls_value I.sG hm.rd hm.at_ rfl ?_);have I1:=I.tok (s.toks + 1);refine callWith_K (h₀:=X.base) I.ok.mod.Xd hm.kp (fV (ha pos pins _ σ H _ I1 h) fun us s2 ⟨vs,H2,I2,r,q2⟩=>⟨I2.sG,?_⟩) hst hpl;exact zE F hr hb .nil hp I2 r q2
def SX (Cs:aA->Prop) (m:Str) (sp:aA->Sp) (E:XK) (ta:TE) (t:TA):TE:=fun σ H Q=>ta σ H fun x H1=>∃ a C dx fs,x=.ref a/\H1 a=some (.ins C dx fs)/\Cs C/\fs.lookup m=none/\t σ H1 fun vs H2=>sp C (x::vs) H2 Q E
theorem G5 {pl:Sem Bool} {sp:aA->Sp} {Cs:aA->Prop} (he:PE X o ta) (hr:d8 k X.A) (hC:∀ C,Cs C->∃ f fd,Cls X.K C/\Meth X.K C m f/\cD X.prog X.w X.K X.mg X.base CX k f fd ps (sp C)/\Binds X.K fd ps []) (hx:Passes CX X E) (ha:PA X (e::es) t) (hst:autoParam (starEach (e::es) X.env=(false,eval e X.env)::starEach es X.env) zau0) (hpl:autoParam ((backTo pos (starEach es X.env)).any (·.1)=false) zau0) (ht:autoParam (eval (.Call (.Attribute o m apos) (e::es) [] pos) X.env=(do
   let ov <- eval o X.env
   standAt apos.atName
   let (f,first) <- holding [ov] (getMethod ov m pl)
   callWith pos f first (backTo pos (starEach (e::es) X.env)) (backToKw pos (keywordEach [] X.env)))) zau0) :
  PE X (.Call (.Attribute o m apos) (e::es) [] pos) (SX Cs m sp E ta t):=by
 intro pins s σ H Q I h;refine methodCall_KW (pl:=pl) (fV (he pins s σ H _ I h) fun u s1 ⟨x,H1,I1,rx,a,C,dx,fs,ex,ea,cs,l,q⟩=>?_) ht;subst ex;obtain rfl:u=Value.ref a:=rx;obtain ⟨f,fd,c,hm,F,hb⟩:=hC C cs;refine pD I1 ea c hm l ?_;refine callWith_K (first:=[.ref a]) (h₀:=X.base) I.ok.mod.Xd hm.kp (fV (ha pos pins s1 σ H1 _ I1 q) fun us s2 ⟨vs,H2,I2,r,q2⟩=>⟨I2.sG,?_⟩) hst hpl;have:=zE (us:=.ref a::us) (vs:=.ref a::vs) (uV:=[]) (ds:=[]) (Q:=Q) F hr hb .nil hx I2 (.cons rfl r) (by rw [cA]; exact q2);exact this
theorem M4 (K:Fg) {fl:Str} (he:PE X o ta) (hK:autoParam (X.K=K) zau0) (hb:autoParam (attributeBase o fl X.env (eval o X.env)=eval o X.env) zau0):PE X (.Attribute o fl pos) (ao6 K ta fl):=by
 subst hK;exact fG he hb
end
theorem oW {D:aA} {J:It} {σ0:St} {g:TG} {te:TE} {Qe:Hp->Prop} {H1:Hp} (n:Nat) (hn:n<=sizeLine) (Pv:Nat->List V->Hp->Prop) (start:Pv 0 [] (upd H1 D (.lst []))) (at_:∀ i acc H,i<=n->Pv i acc H->acc.length=i/\H D=some (.lst acc)) (stop:∀ acc H,Pv n acc H->J.stop n H/\Qe H) (go:∀ i acc H,i < n->Pv i acc H->J.go i H/\∀ x H',J.Rw i H x H'->∀ Qc:VK,(∀ v H3,H3 D=some (.lst acc)->Pv (i + 1) (acc++[v]) (upd H3 D (.lst (acc++[v])))->Qc v H3)->g x σ0 H' fun σ2 H2=>qd σ0 σ2/\te σ2 H2 Qc) : ∃ W:Nat->Nat->List V->Hp->Prop,(∃ m,W 0 m [] (upd H1 D (.lst [])))/\yj D J σ0 g J1 te Qe W:=by
 refine ⟨fun i m ac H=>i<=n/\m=n - i/\Pv i ac H,⟨n,dG _,rfl,start⟩,?_⟩;rintro i m ac H ⟨le,rfl,p⟩;obtain ⟨la,hD⟩:=at_ i ac H le p;refine ⟨hD,?_⟩
 by_cases lt:i < n
 ·obtain ⟨g1,step⟩:=go i ac H lt p;refine .inr ⟨g1,by rw [la]; exact bA lt hn,fun x H' yl=>?_⟩;simp only [J1,if_true];refine step x H' yl _ fun v H3 hD nx=>?_
  exact ⟨hD,n - (i + 1),by omega,lt,rfl,nx⟩
 ·have e:i=n:=by omega
  subst e;exact .inl (stop ac H p)
theorem vA {D:aA} {J:It} {σ0:St} {g:TG} {tc:TT} {te:TE} {Qe:Hp->Prop} {H1:Hp} (n:Nat) (hn:n<=sizeLine) (Pv:Nat->List V->Hp->Prop) (start:Pv 0 [] (upd H1 D (.lst []))) (at_:∀ i acc H,i<=n->Pv i acc H->acc.length<=i/\H D=some (.lst acc)) (stop:∀ acc H,Pv n acc H->J.stop n H/\Qe H) (go:∀ i acc H,i < n->Pv i acc H->J.go i H/\∀ x H',J.Rw i H x H'->∀ (Qc:VK) (Qn:Hp->Prop),(∀ v H3,H3 D=some (.lst acc)->Pv (i + 1) (acc++[v]) (upd H3 D (.lst (acc++[v])))->Qc v H3)->(∀ H3,Pv (i + 1) acc H3->Qn H3) -> g x σ0 H' fun σ2 H2=>qd σ0 σ2/\tc σ2 H2 fun b H3=>if b=true then te σ2 H3 Qc else Qn H3) : ∃ W:Nat->Nat->List V->Hp->Prop,(∃ m,W 0 m [] (upd H1 D (.lst [])))/\yj D J σ0 g tc te Qe W:=by
 refine ⟨fun i m ac H=>i<=n/\m=n - i/\Pv i ac H,⟨n,dG _,rfl,start⟩,?_⟩;rintro i m ac H ⟨le,rfl,p⟩;obtain ⟨la,hD⟩:=at_ i ac H le p;refine ⟨hD,?_⟩
 by_cases lt:i < n
 ·obtain ⟨g1,step⟩:=go i ac H lt p;refine .inr ⟨g1,Nat.lt_of_le_of_lt la (bA lt hn),fun x H' yl=>?_⟩;exact step x H' yl _ _ (fun v H3 hD nx=>⟨hD,n - (i + 1),by omega,lt,rfl,nx⟩) (fun H3 nx=>⟨n - (i + 1),by omega,lt,rfl,nx⟩)
 ·have e:i=n:=by omega
  subst e;exact .inl (stop ac H p)
theorem iY {X:Cx} {scope:Scope} {cl:List (Str × aA)} {N':List Str} (cap:List (Option Nat)) (N:List Str) (sn rn:List (Str × NameKind)) (ks:List Str) (kind:scope.kind=.function) (qz:∀ y ∈ scope.names,y.2≠.cell) (names:∀ y ∈ scope.names,y.2=.local->scope.names.lookup y.1=some .local) (clos:closureFor scope X.env=pure cl) (sub:∀ p ∈ cl,X.env.cells.lookup p.1=some p.2) (hN:X.N=N) (hs:X.env.scope.names=sn) (rel:(relabel scope X.env).names=rn) (hk:cl.map (·.1)=ks) (has:∀ y ∈ rn,(y.2=.cell\/y.2=.free)->y.1 ∈ ks) (len:cap.length=N'.length) (cp:∀ p ∈ cap.zip N',∀ j,p.1=some j->N[j]?=some p.2/\sn.lookup p.2=some .cell/\rn.lookup p.2=some .cell):jk X scope cl N' cap:=by
 refine ⟨kind,qz,names,clos,fun n c h=>?_,fun n h=>?_,len,fun i j x h1 h2=>?_⟩
 ·exact sub (n,c) (PySem.mem_of_lookup h)
 ·rw [rel] at h;have hm:n ∈ cl.map (·.1):=by
   rw [hk];rcases h with h | h
   ·exact has _ (PySem.mem_of_lookup h) (.inl rfl)
   ·exact has _ (PySem.mem_of_lookup h) (.inr rfl)
  obtain ⟨p,hp,rfl⟩:=bx.mp hm;cases e:cl.lookup p.1 with
  | some c=>exact ⟨c,rfl⟩
  | none =>
   rw [List.lookup_eq_none_iff] at e;exact absurd (beq_self_eq_true p.1) (by have:=e p hp; simpa using this)
 ·rw [hN,hs,rel];refine cp (some j,x) ?_ j rfl;rw [List.mem_iff_getElem?];exact ⟨i,by rw [List.getElem?_zip_eq_some]; exact ⟨h1,h2⟩⟩
theorem Kc {r:St} {x:Option V}:qd (none::r) ((none::r).set 0 x):=by
 intro j v h;cases j with
 | zero=>simp at h
 | succ j=>exact h
theorem dB {α β:Type} {R:α->β->Prop}:∀ {xs:List α} {ys:List β} {i:Nat} {x:α},Paired R xs ys->xs[i]?=some x->∃ y,ys[i]?=some y/\R x y
 | _,_,_,_,.nil,e=>by simp at e
 | _,_,0,_,.cons r _,e=>by simp at e; subst e; exact ⟨_,rfl,r⟩
 | _,_,i + 1,_,.cons _ t,e=>dB (i:=i) t (by simpa using e)
theorem take_snoc {α:Type} {xs:List α} {i:Nat} {x:α} (h:xs[i]?=some x):xs.take (i + 1)=xs.take i++[x]:=by
 rw [List.take_add_one,h]; rfl
theorem S5 {x:V} (h:mq x=true):Gk x x=true:=by
 cases x <;> first | rfl | (simp [Gk]; done) | exact absurd h (by simp [mq])
abbrev Rep (α:Type):=Hp->V->α->Prop
structure oX {α:Type} [DecidableEq α] (K:Fg) (n:Nat) (R:Rep α):Prop where
 same:∀ {H H':Hp} {v:V} {x:α},R H v x->Same H H'->R H' v x
 one:∀ {H:Hp} {v:V} {x y:α},R H v x->R H v y->x=y
 eq:∀ {H:Hp} {v w:V} {x y:α},R H v x->R H w y->zO K H n v w (decide (x=y))
def oh:Rep Int:=fun _ v i=>v=.int i
def Ke:Rep Str:=fun _ v x=>v=.str x
def vB {α:Type} (R:Rep α):Rep (List α):=fun H v xs=>∃ t vs,v=.ref t/\H t=some (.tup vs)/\Paired (R H) vs xs
def iJ {α:Type} (R:Rep α):Rep (List α):=fun H v xs=>∃ t vs,v=.ref t/\H t=some (.lst vs)/\Paired (R H) vs xs
def yr {α β:Type} (R:Rep α) (S:Rep β):Rep (α × β):=fun H v c=>∃ t u w,v=.ref t/\H t=some (.tup [u,w])/\R H u c.1/\S H w c.2
def M5 {α β γ:Type} (R:Rep α) (S:Rep β) (T:Rep γ):Rep (α × β × γ):=fun H v c=>∃ t u w z,v=.ref t/\H t=some (.tup [u,w,z])/\R H u c.1/\S H w c.2.1/\T H z c.2.2
section
variable {K:Fg} {α β γ:Type} [DecidableEq α] [DecidableEq β] [DecidableEq γ] {n:Nat} {R:Rep α} {S:Rep β} {T:Rep γ}
theorem eq_int:oX K n oh:=⟨fun h _=>h,fun h h'=>by cases h; cases h'; rfl,fun {H v w x y} h h'=>by
 cases h; cases h';have:=zO.flat (K:=K) (H:=H) (n:=n) (x:=.int x) (y:=.int y) rfl rfl;have e:Gk (.int x) (.int y)=decide (x=y):=by
  show (x == y)=_
  by_cases z:x=y <;> simp [z]
 rw [e] at this;exact this⟩
theorem eq_str:oX K n Ke:=⟨fun h _=>h,fun h h'=>by cases h; cases h'; rfl,fun {H v w x y} h h'=>by
 cases h; cases h';have:=zO.flat (K:=K) (H:=H) (n:=n) (x:=.str x) (y:=.str y) rfl rfl;have e:Gk (.str x) (.str y)=decide (x=y):=by
  show (x == y)=_
  by_cases z:x=y <;> simp [z]
 rw [e] at this;exact this⟩
theorem mJ {H:Hp} (o:∀ {v:V} {x y:α},R H v x->R H v y->x=y):∀ {vs:List V} {xs ys:List α},Paired (R H) vs xs->Paired (R H) vs ys->xs=ys
 | _,_,_,.nil,.nil=>rfl
 | _,_,_,.cons h t,.cons h' t'=>by rw [o h h',mJ o t t']
theorem qF:∀ (xs ys:List α),((List.range (min xs.length ys.length)).all (fun j=>decide (xs[j]?=ys[j]?)) && xs.length == ys.length)=decide (xs=ys)
 | [],[]=>rfl
 | [],y::ys=>by simp
 | x::xs,[]=>by simp
 | x::xs,y::ys=>by
  have ih:=qF xs ys;have e:min (x::xs).length (y::ys).length=min xs.length ys.length + 1:=by simp only [length_cons]; omega
  rw [e,range_succ_eq_map,all_cons,all_map];have e2:((fun j=>decide ((x::xs)[j]?=(y::ys)[j]?)) ∘ Nat.succ)=fun j=>decide (xs[j]?=ys[j]?):=by
   funext j
   simp
  rw [e2];have e3:((x::xs).length == (y::ys).length)=(xs.length == ys.length):=by simp
  rw [e3,Bool.and_assoc,ih]
  by_cases z:x=y <;> by_cases z':xs=ys <;> simp [z,z']
theorem rK {H:Hp} (h:oX K n R) {vs ws:List V} {xs ys:List α} (p:Paired (R H) vs xs) (q:Paired (R H) ws ys):∀ (j:Nat) x y,vs[j]?=some x->ws[j]?=some y->zO K H n x y (decide (xs[j]?=ys[j]?)):=by
 intro j v w hv hw;obtain ⟨x,hx,rx⟩:=dB p hv;obtain ⟨y,hy,ry⟩:=dB q hw;rw [hx,hy];have:=h.eq rx ry;have e:decide (some x=some y)=decide (x=y):=by by_cases z:x=y <;> simp [z]
 rw [e];exact this
theorem M6 (h:oX K n R):oX K (n + 1) (vB R):=by
 refine ⟨fun {H H' v xs} r s=>?_,fun {H v xs ys} r r'=>?_,fun {H v w xs ys} r r'=>?_⟩
 ·obtain ⟨t,vs,e,ht,p⟩:=r;exact ⟨t,vs,e,s _ _ ht,Paired.gG p fun _ _ z=>h.same z s⟩
 ·obtain ⟨t,vs,rfl,ht,p⟩:=r;obtain ⟨t',vs',e,ht',p'⟩:=r';cases e;rw [ht] at ht';cases ht';exact mJ (fun a b=>h.one a b) p p'
 ·obtain ⟨t,vs,rfl,ht,p⟩:=r;obtain ⟨t',vs',rfl,ht',p'⟩:=r'
  by_cases e:t=t'
  ·subst e;rw [ht] at ht';cases ht';rw [aM (mJ (fun a b=>h.one a b) p p')];exact .self
  ·have:=zO.tup e (fj.of (K:=K) ht) (fj.of (K:=K) ht') (rK h p p');rw [Paired.length p,Paired.length p',qF] at this;exact this
theorem S6 (h:oX K n R):oX K (n + 1) (iJ R):=by
 refine ⟨fun {H H' v xs} r s=>?_,fun {H v xs ys} r r'=>?_,fun {H v w xs ys} r r'=>?_⟩
 ·obtain ⟨t,vs,e,ht,p⟩:=r;exact ⟨t,vs,e,s _ _ ht,Paired.gG p fun _ _ z=>h.same z s⟩
 ·obtain ⟨t,vs,rfl,ht,p⟩:=r;obtain ⟨t',vs',e,ht',p'⟩:=r';cases e;rw [ht] at ht';cases ht';exact mJ (fun a b=>h.one a b) p p'
 ·obtain ⟨t,vs,rfl,ht,p⟩:=r;obtain ⟨t',vs',rfl,ht',p'⟩:=r'
  by_cases e:t=t'
  ·subst e;rw [ht] at ht';cases ht';rw [aM (mJ (fun a b=>h.one a b) p p')];exact .self
  ·have l1:=Paired.length p;have l2:=Paired.length p'
   by_cases len:xs.length=ys.length
   ·have:=zO.lst e (cU.of (K:=K) ht) (cU.of (K:=K) ht') (by omega) (rK h p p');have ea:=qF xs ys;rw [len,Nat.min_self,beq_self_eq_true,Bool.and_true] at ea;rw [l1,len,ea] at this;exact this
   ·rw [aL (fun z=>len (by rw [z]))];exact .Ph e (cU.of (K:=K) ht) (cU.of (K:=K) ht') (by omega)
theorem M7 (h:oX K n R) (g:oX K n S):oX K (n + 1) (yr R S):=by
 refine ⟨fun {H H' v xs} r s=>?_,fun {H v c c'} r r'=>?_,fun {H v w c c'} r r'=>?_⟩
 ·obtain ⟨t,u,w,e,ht,p,q⟩:=r;exact ⟨t,u,w,e,s _ _ ht,h.same p s,g.same q s⟩
 ·obtain ⟨t,u,w,rfl,ht,p,q⟩:=r;obtain ⟨t',u',w',e,ht',p',q'⟩:=r';cases e;rw [ht] at ht';cases ht';exact Prod.ext (h.one p p') (g.one q q')
 ·have r0:=r;have r0':=r';obtain ⟨t,u,w,rfl,ht,p,q⟩:=r;obtain ⟨t',u',w',rfl,ht',p',q'⟩:=r'
  by_cases e:t=t'
  ·subst e;rw [ht] at ht';cases ht';rw [aM (Prod.ext (h.one p p') (g.one q q'))];exact .self
  ·have:=zO.tup (n:=n) (e:=fun j=>if j=0 then decide (c.1=c'.1) else decide (c.2=c'.2)) e (fj.of (K:=K) ht) (fj.of (K:=K) ht') fun j x y hx hy=>by
    rcases j with _ | _ | j
    ·cases hx; cases hy; exact h.eq p p'
    ·cases hx; cases hy; exact g.eq q q'
    ·cases hx
   have ee:((List.range (min [u,w].length [u',w'].length)).all (fun j=>if j=0 then decide (c.1=c'.1) else decide (c.2=c'.2)) && [u,w].length == [u',w'].length)=decide (c=c'):=by
    show ((decide (c.1=c'.1) && (decide (c.2=c'.2) && true)) && true)=_
    obtain ⟨c1,c2⟩:=c;obtain ⟨d1,d2⟩:=c'
    by_cases z:c1=d1 <;> by_cases z':c2=d2 <;> simp [z,z']
   rw [ee] at this;exact this
theorem azV {H:Hp} {Q:VK} {v w:V} {xs ys:List α} (h:oX K n R) (hn:n<=50) (r:iJ R H v xs) (r':iJ R H w ys) (q:Q (.bl (decide (xs=ys))) H):Pj K false v w H Q:=by
 obtain ⟨t,vs,rfl,ht,p⟩:=r;obtain ⟨t',vs',rfl,ht',p'⟩:=r';have l1:=Paired.length p;have l2:=Paired.length p';refine ⟨t,t',vs,vs',n,_,rfl,rfl,cU.of ht,cU.of ht',hn,fun _=>rK h p p',fun len=>?_,fun len=>?_⟩
 ·have ea:=qF xs ys;have len':xs.length=ys.length:=by omega
  rw [len',Nat.min_self,beq_self_eq_true,Bool.and_true] at ea;rw [Bool.false_xor,l1,len',ea];exact q
 ·rw [aL (fun z=>len (by rw [l1,l2,z]))] at q;exact q
theorem aif {H:Hp} {Q:VK} {v w:V} {xs ys:List α} (h:oX K n R) (hn:n<=50) (r:iJ R H v xs) (r':iJ R H w ys) (q:Q (.bl (!decide (xs=ys))) H):Pj K true v w H Q:=by
 obtain ⟨t,vs,rfl,ht,p⟩:=r;obtain ⟨t',vs',rfl,ht',p'⟩:=r';have l1:=Paired.length p;have l2:=Paired.length p';refine ⟨t,t',vs,vs',n,_,rfl,rfl,cU.of ht,cU.of ht',hn,fun _=>rK h p p',fun len=>?_,fun len=>?_⟩
 ·have ea:=qF xs ys;have len':xs.length=ys.length:=by omega
  rw [len',Nat.min_self,beq_self_eq_true,Bool.and_true] at ea;rw [Bool.true_xor,l1,len',ea];exact q
 ·rw [aL (fun z=>len (by rw [l1,l2,z]))] at q;exact q
theorem aii {H:Hp} {Q:VK} {v w:V} {c c':α × β} (h:oX K n R) (g:oX K n S) (hn:n<=50) (r:yr R S H v c) (r':yr R S H w c') (neg:Bool) (q:Q (.bl (neg ^^ decide (c=c'))) H):Sv K neg v w H Q:=by
 obtain ⟨t,u,w,rfl,ht,p,q1⟩:=r;obtain ⟨t',u',w',rfl,ht',p',q1'⟩:=r';refine ⟨t,t',_,_,n,fun j=>if j=0 then decide (c.1=c'.1) else decide (c.2=c'.2),rfl,rfl,fj.of ht,fj.of ht',hn,fun j x y hx hy=>?_,?_⟩
 ·rcases j with _ | _ | j
  ·cases hx; cases hy; exact h.eq p p'
  ·cases hx; cases hy; exact g.eq q1 q1'
  ·cases hx
 ·have ee:((List.range (min [u,w].length [u',w'].length)).all (fun j=>if j=0 then decide (c.1=c'.1) else decide (c.2=c'.2)) && [u,w].length == [u',w'].length)=decide (c=c'):=by
   show ((decide (c.1=c'.1) && (decide (c.2=c'.2) && true)) && true)=_
   obtain ⟨c1,c2⟩:=c;obtain ⟨d1,d2⟩:=c'
   by_cases z:c1=d1 <;> by_cases z':c2=d2 <;> simp [z,z']
  rw [ee];exact q
end
end Tw
namespace L2
open PySem PySem.Spec PyProof.Rows
section
variable {X:Cx}
def apB:R2:=fun x y H Q=>∃ a b xs ys,x=.ref a/\y=.ref b/\H a=some (.tup xs)/\H b=some (.tup ys)/\xs.length + ys.length<=sizeLine/\∀ p H',Same H H'->H' p=some (.tup (xs++ys))->Q (.ref p) H'
theorem yX:pB X (binaryOp .Add) apB:=by
 intro pins s σ H x y v u Q I rx ry h;obtain ⟨a,b,xs,ys,rfl,rfl,ha,hb,hz,q⟩:=h
 by_cases hx:xs=[]
 ·subst hx;cases rx;cases ry;obtain ⟨its,r1,p1,_⟩:=I.tuple (fj.of (K:=X.K) ha);obtain ⟨its2,r2,p2,_⟩:=I.tuple (fj.of (K:=X.K) hb);cases r1;obtain ⟨⟨c1,d1,e1,l1⟩,ho,hc,n,hd⟩:=id p1;obtain ⟨⟨c2,d2,e2,l2⟩,ho2,hc2,n2,hd2⟩:=id p2;simp only at hc hd hc2 hd2;subst hc hd hc2 hd2;exact concat_meets ⟨_,ho,rfl⟩ ⟨_,ho2,rfl⟩ noFill_tuple_add seq_tuple_add PySem.F.slot_tuple_add PySem.F.entry_tuple_add (PySem.F.args_tuple_add_2 _ _) (tuple_addW0 a b _ _ n n2 d1 d2 l1 l2 rfl) ⟨ho,ho2,⟨.ref b,H,I,rfl,q b H (Same.refl _) hb⟩⟩
 ·refine YF pins s σ H _ _ v u Q I rx ry ⟨a,b,xs,ys,rfl,rfl,fj.of ha,fj.of hb,hx,hz,fun z=>?_,fun _ p hp=>?_⟩
  ·subst z;exact q a H (Same.refl _) (by rw [cA]; exact ha)
  ·exact q p _ (fun b o e=>by rw [bf (dw e hp)]; exact e) aD
end
def iQ (n b:Int):Bool:=decide (Builtin.bitAnd (n / 2 ^ b.toNat) 1=1)
theorem S7 (n b:Nat):iQ (n:Int) (b:Int)=n.testBit b:=by
 unfold iQ;have e:(n:Int) / 2 ^ ((b:Nat):Int).toNat=((n / 2 ^ b:Nat):Int):=by
  rw [cQ];simp
 rw [e,bitAnd_pp (Int.natCast_nonneg _) (by decide)];have e2:((n / 2 ^ b:Nat):Int).toNat &&& (1:Int).toNat=n / 2 ^ b % 2:=by
  rw [cQ];exact Nat.and_one_is_mod _
 rw [e2,Nat.testBit_eq_decide_div_mod_eq]
 by_cases z:n / 2 ^ b % 2=1
 ·simp [z]
 ·have:n / 2 ^ b % 2=0:=by omega
  simp [this]
def Ite (K:Fg) (l:aA):It := ⟨fun i H=>∃ xs x,cU K H l xs/\xs[i]?=some x,fun i H v H'=>∃ T,H T=none/\v=.ref T/\∀ xs x,cU K H l xs->xs[i]?=some x->H'=upd H T (.tup [.int (i:Nat),x]),fun i H=>∃ xs,cU K H l xs/\xs.length<=i⟩
structure Y8 (e it l:aA) (i:Nat) (h:Heap):Prop where
 cell:∃ old,IsEnum h e it i old
 one:h.IsListIter it l i
theorem Pu {P:cC} {w:World} {K:Fg} {elts:List Expr} {k:Nat} {pos:Pos} {e it l:aA} (ne:e≠it):Turn P w K (.Tuple elts k pos) (Ite K l) [e,it] e (Y8 e it l) where
 mem:=by simp
 obj:=fun i h R c hc=>by
  obtain ⟨old,q0⟩:=R.cell;obtain ⟨o1,q1,_,d1⟩:=R.one;simp only [aR,not_mem_nil,or_false] at hc;rcases hc with rfl | rfl
  ·exact ⟨_,q0,fun v q=>by cases q⟩
  ·exact ⟨o1,q1,fun v q=>by rw [d1] at q; cases q⟩
 keep:=fun i h h' R kp=>by
  obtain ⟨old,q0⟩:=R.cell;obtain ⟨o1,q1,r1⟩:=R.one;exact ⟨⟨old,kp e (by simp) _ q0⟩,⟨o1,kp it (by simp) _ q1,r1⟩⟩
 item:=by
  intro X hP hw hK hc i pins s σ H E I hf R go;subst hP hw hK;obtain ⟨xs,x,sx,hx⟩:=go;obtain ⟨its,v1,p1,_⟩:=I.list sx;obtain ⟨ux,gx,rx⟩:=v1.get hx;obtain ⟨old,q0⟩:=R.cell;have fr:s.heap.get? s.heap.objs.size=none:=Heap.get?_none_of_le (aO _);have there:∀ c ∈ [e,it],∃ o,s.heap.get? c=some o:=fun c hc=>by
   obtain ⟨o1,q1,_⟩:=R.one;simp only [aR,not_mem_nil,or_false] at hc;rcases hc with z | z <;> rw [z]
   ·exact ⟨_,q0⟩
   ·exact ⟨_,q1⟩
  have elt:s.heap.objs.size≠e:=Nat.ne_of_gt (Heap.lt_size q0);refine wpAny_pyNext_enum_item q0 R.one p1.isList (x:=ux) (by simpa using gx) ne fun h1 c1 o1 pr _ past=>⟨.ref s.heap.objs.size,rfl,wpAny_letOwnedTupleGo_enum (s:={ s with heap:=h1,toks:=s.toks + 1 }) c1 fun h2 c2 sb=>?_⟩
  have pr2:=sb.extBut _ _ elt pr;refine ⟨.ref s.heap.objs.size,upd H s.heap.objs.size (.tup [.int (i:Nat),x]),Inv.drawn (h':=h2) (t':=s.toks + 1) (ch:=[e,it]) (s:=s) I hf (fun c o out q=>?_) fr ⟨MF,[.int (i:Nat) s.toks,ux],.cons ⟨_,rfl⟩ (.cons rx .nil),⟨_,pr2,rfl,_,rfl⟩⟩,rfl,⟨_,I.hok.none_of fr,rfl,fun xs' x' sx' hx'=>?_⟩,⟨⟨_,c2⟩,?_⟩,fun c hc=>?_⟩
  ·simp only [aR,not_mem_nil,or_false,not_or] at out;exact sb.extBut c o out.1 (past c o out.1 out.2 q)
  ·have e1:=I.uZ sx' sx;subst e1;rw [hx] at hx';cases hx'; rfl
  ·exact o1.extBut sb.extBut (Ne.symm ne)
  ·obtain ⟨o,q⟩:=there c hc;rw [bf (fun z=>by rw [z,fr] at q; cases q)];exact (hf c hc).1
 done:=by
  intro X hP hw hK hc i pins s σ H E I hf R stop;subst hP hw hK;obtain ⟨xs,sx,le⟩:=stop;obtain ⟨its,v1,p1,_⟩:=I.list sx;obtain ⟨old,q0⟩:=R.cell;have l1:=v1.length;refine wpAny_pyNext_enum_end (I.ok.hd hc) q0 R.one p1.isList (by simp; omega) fun h' past=>⟨rfl,I.turns (t':=s.toks) (ch:=[e,it]) hf fun c o out q=>?_⟩
  simp only [aR,not_mem_nil,or_false,not_or] at out;exact past c o out.2 q
 self:=fun _ _ _ _ _ R q=>by
  obtain ⟨old,q0⟩:=R.cell;exact wpAny_pyIter_enum q0 q
section
variable {X:Cx}
def apC (K:Fg) (ta:TA):TI:=fun σ H R=>ta σ H fun vs H1=>∃ l xs,vs=[.ref l]/\cU K H1 l xs/\R (Ite K l) H1
theorem yZ {e1:Expr} {elts:List Expr} {k:Nat} {tp p pos:Pos} {ta:TA} (hg:Gl X "enumerate") (hm:X.mg "enumerate"=none) (ha:PA X [e1] ta) (st1:autoParam (starEach [e1] X.env=[(false,eval e1 X.env)]) zau0) : PI X (.Tuple elts k tp) (.Call (.Name "enumerate" p) [e1] [] pos) (apC X.K ta):=by
 intro pins s σ H R I h;refine Call_ (nZ I hg hm boot_enumerate (callWith_type1 (fV (ha pos pins s σ H _ I h) fun us a ⟨vs,H1,I1,r,q⟩=>?_) (by rw [st1]; rfl) (by rfl)));obtain ⟨l,xs,e,sx,q⟩:=q;subst e;obtain ⟨u1,e,r1⟩:=vals1 r;subst e;cases r1;obtain ⟨its,v1,p1,_⟩:=I1.list sx;refine call_enumerate_list p1.isList fun h' c1 o1 _ old=>?_
 have I2:Inv X pins σ H1 { a with heap:=h' }:=I1.kept (t':=a.toks) old;refine wpAny_pyIter_enum (s:={ a with heap:=h' }) c1 ⟨_,[a.heap.objs.size + 1,a.heap.objs.size],_,_,H1,rfl,I2,Pu (Nat.succ_ne_self _),⟨⟨_,c1⟩,o1⟩,fun b hb=>?_,q⟩;have le:a.heap.objs.size<=b:=by
  have hb2:b=a.heap.objs.size + 1\/b=a.heap.objs.size:=by simpa using hb
  rcases hb2 with e | e <;> rw [e] <;> first | exact Nat.le_add_right _ _ | exact aO _
 exact I1.zA (H':=H1) le (I1.hok.fresh le)
end
end L2
namespace Tw
open PySem L2
theorem fY {H H':Hp} {D:aA} {o:HO} (s:Same H H') (h:H D=none):Same H (L2.upd H' D o):=fun b u e=>by rw [bf (dw e h)]; exact s b u e
structure zP {α:Type} (R:Rep α):Prop where
 same:∀ {H H':Hp} {v:V} {x:α},R H v x->Same H H'->R H' v x
 upd:∀ {H:Hp} {v:V} {x:α} {D:aA} {zs:List V} {o:HO},R H v x->H D=some (.lst zs)->R (L2.upd H D o) v x
section
variable {K:Fg} {α β γ:Type} {R:Rep α} {S:Rep β} {T:Rep γ}
theorem jr:zP oh:=⟨fun h _=>h,fun h _=>h⟩
theorem M8:zP Ke:=⟨fun h _=>h,fun h _=>h⟩
theorem qG (s:zP R):zP (vB R):=by
 refine ⟨fun {H H' v x} h q=>?_,fun {H v x D zs o} h q=>?_⟩
 ·obtain ⟨t,vs,e,ht,p⟩:=h;exact ⟨t,vs,e,q _ _ ht,Paired.gG p fun _ _ z=>s.same z q⟩
 ·obtain ⟨t,vs,e,ht,p⟩:=h;exact ⟨t,vs,e,by rw [bf (jX ht q (by intro z; cases z))]; exact ht,Paired.gG p fun _ _ z=>s.upd z q⟩
theorem vG (s:zP R) (s':zP S):zP (yr R S):=by
 refine ⟨fun {H H' v x} h q=>?_,fun {H v x D zs o} h q=>?_⟩
 ·obtain ⟨t,u,w,e,ht,p,p'⟩:=h;exact ⟨t,u,w,e,q _ _ ht,s.same p q,s'.same p' q⟩
 ·obtain ⟨t,u,w,e,ht,p,p'⟩:=h;exact ⟨t,u,w,e,by rw [bf (jX ht q (by intro z; cases z))]; exact ht,s.upd p q,s'.upd p' q⟩
theorem G6 (s:zP R) (s':zP S) (s'':zP T):zP (M5 R S T):=by
 refine ⟨fun {H H' v x} h q=>?_,fun {H v x D zs o} h q=>?_⟩
 ·obtain ⟨t,u,w,z,e,ht,p,p',p''⟩:=h;exact ⟨t,u,w,z,e,q _ _ ht,s.same p q,s'.same p' q,s''.same p'' q⟩
 ·obtain ⟨t,u,w,z,e,ht,p,p',p''⟩:=h;exact ⟨t,u,w,z,e,by rw [bf (jX ht q (by intro z; cases z))]; exact ht,s.upd p q,s'.upd p' q,s''.upd p'' q⟩
theorem iJ.same (s:zP R) {H H':Hp} {v:V} {xs:List α} (h:iJ R H v xs) (q:Same H H'):iJ R H' v xs:=by
 obtain ⟨t,vs,e,ht,p⟩:=h;exact ⟨t,vs,e,q _ _ ht,Paired.gG p fun _ _ z=>s.same z q⟩
theorem oY {H:Hp} {vs:List V} {xs:List α} (p:Paired (R H) vs xs) {i:Nat} {x:α} (h:xs[i]?=some x):∃ v,vs[i]?=some v/\R H v x:=by
 have lt:i < vs.length:=by rw [Paired.length p]; exact (aF.mp h).1
 obtain ⟨y,hy,r⟩:=dB p (aG lt);rw [h] at hy;cases hy;exact ⟨_,aG lt,r⟩
theorem vH (sR:zP R) (sS:zP S) {l D:aA} {H:Hp} {xs:List α} {σ0:St} {g:TG} {te:TE} {Qe:Hp->Prop} (f:α->β) (hl:iJ R H (.ref l) xs) (hz:xs.length<=sizeLine) (hD:H D=none) (body:∀ (i:Nat) x v H2,xs[i]?=some x->R H2 v x->Same H H2->∀ Qc:VK,(∀ u H3,Same H2 H3->S H3 u (f x)->Qc u H3)->g v σ0 H2 fun σ2 H'=>qd σ0 σ2/\te σ2 H' Qc) (q:∀ H',Same H H'->iJ S H' (.ref D) (xs.map f)->Qe H') : ∃ W:Nat->Nat->List V->Hp->Prop,(∃ m,W 0 m [] (L2.upd H D (.lst [])))/\yj D (Itl K l) σ0 g J1 te Qe W:=by
 obtain ⟨l',vs,el,hv,pv⟩:=hl;cases el;have ln:=Paired.length pv;refine oW xs.length hz (fun i acc H'=>Same H H'/\H' D=some (.lst acc)/\Paired (S H') acc ((xs.take i).map f)) ⟨aY hD,aD,.nil⟩ (fun i acc H' le ⟨_,e,p⟩=>⟨?_,e⟩) ?_ ?_
 ·rw [Paired.length p,ak,length_take]; omega
 ·rintro acc H' ⟨s',e,p⟩;rw [bU] at p;exact ⟨⟨vs,cU.of (s' _ _ hv),by omega⟩,q H' s' ⟨D,acc,rfl,e,p⟩⟩
 ·rintro i acc H' lt ⟨s',e,p⟩;have hx:xs[i]?=some xs[i]:=aG lt;obtain ⟨v,hvi,rv⟩:=oY pv hx;have sq:cU K H' l vs:=cU.of (s' _ _ hv);refine ⟨⟨vs,v,sq,hvi⟩,?_⟩;rintro y yp ⟨rfl,hy⟩ Qc k;have ey:=hy vs sq;rw [hvi] at ey;cases ey;refine body i xs[i] v yp hx (sR.same rv s') s' Qc fun u H3 s3 ru=>?_
  have e3:=s3 _ _ e;refine k u H3 e3 ⟨fY (s'.trans s3) hD,aD,?_⟩;rw [take_snoc hx,aZ];exact Paired.snoc (Paired.gG p fun _ _ z=>sS.upd (sS.same z s3) e3) (sS.upd ru e3)
theorem Kf (sR:zP R) (sS:zP S) {l D:aA} {H:Hp} {xs:List α} {σ0:St} {g:TG} {tc:TT} {te:TE} {Qe:Hp->Prop} (pr:α->Bool) (f:α->β) (hl:iJ R H (.ref l) xs) (hz:xs.length<=sizeLine) (hD:H D=none) (body:∀ (i:Nat) x v H2,xs[i]?=some x->R H2 v x->Same H H2->∀ (Qc:VK) (Qn:Hp->Prop),(pr x=true->∀ u H3,Same H2 H3->S H3 u (f x)->Qc u H3)->(pr x=false->∀ H3,Same H2 H3->Qn H3) -> g v σ0 H2 fun σ2 H'=>qd σ0 σ2/\tc σ2 H' fun b H3=>if b=true then te σ2 H3 Qc else Qn H3) (q:∀ H',Same H H'->iJ S H' (.ref D) ((xs.filter pr).map f)->Qe H') : ∃ W:Nat->Nat->List V->Hp->Prop,(∃ m,W 0 m [] (L2.upd H D (.lst [])))/\yj D (Itl K l) σ0 g tc te Qe W:=by
 obtain ⟨l',vs,el,hv,pv⟩:=hl;cases el;have ln:=Paired.length pv;refine vA xs.length hz (fun i acc H'=>Same H H'/\H' D=some (.lst acc)/\Paired (S H') acc (((xs.take i).filter pr).map f)) ⟨aY hD,aD,.nil⟩ (fun i acc H' le ⟨_,e,p⟩=>⟨?_,e⟩) ?_ ?_
 ·rw [Paired.length p,ak];exact bJ (length_filter_le _ _) (by rw [length_take]; omega)
 ·rintro acc H' ⟨s',e,p⟩;rw [bU] at p;exact ⟨⟨vs,cU.of (s' _ _ hv),by omega⟩,q H' s' ⟨D,acc,rfl,e,p⟩⟩
 ·rintro i acc H' lt ⟨s',e,p⟩;have hx:xs[i]?=some xs[i]:=aG lt;obtain ⟨v,hvi,rv⟩:=oY pv hx;have sq:cU K H' l vs:=cU.of (s' _ _ hv);refine ⟨⟨vs,v,sq,hvi⟩,?_⟩;rintro y yp ⟨rfl,hy⟩ Qc Qn k kn;have ey:=hy vs sq;rw [hvi] at ey;cases ey;refine body i xs[i] v yp hx (sR.same rv s') s' Qc Qn (fun ep u H3 s3 ru=>?_) (fun ep H3 s3=>?_)
  ·have e3:=s3 _ _ e;refine k u H3 e3 ⟨fY (s'.trans s3) hD,aD,?_⟩;rw [take_snoc hx,cG,aZ];have ef:[xs[i]].filter pr=[xs[i]]:=by simp [ep]
   rw [ef];exact Paired.snoc (Paired.gG p fun _ _ z=>sS.upd (sS.same z s3) e3) (sS.upd ru e3)
  ·refine kn H3 ⟨s'.trans s3,s3 _ _ e,?_⟩;rw [take_snoc hx,cG];have ef:[xs[i]].filter pr=[]:=by simp [ep]
   rw [ef,cA];exact Paired.gG p fun _ _ z=>sS.same z s3
end
section
variable {K:Fg} {β:Type} {S:Rep β}
theorem G7 (sS:zP S) {D:aA} {H:Hp} {n m:Nat} {σ0:St} {g:TG} {te:TE} {Qe:Hp->Prop} (f:Nat->β) (em:m=n) (hz:n<=sizeLine) (hD:H D=none) (body:∀ (i:Nat) H2,i < n->Same H H2->∀ Qc:VK,(∀ u H3,Same H2 H3->S H3 u (f i)->Qc u H3)->g (.int ((i:Nat):Int)) σ0 H2 fun σ2 H'=>qd σ0 σ2/\te σ2 H' Qc) (q:∀ H',Same H H'->iJ S H' (.ref D) ((List.range n).map f)->Qe H') : ∃ W:Nat->Nat->List V->Hp->Prop,(∃ m,W 0 m [] (L2.upd H D (.lst [])))/\yj D (Itr 0 m) σ0 g J1 te Qe W:=by
 subst em;refine oW m hz (fun i acc H'=>Same H H'/\H' D=some (.lst acc)/\Paired (S H') acc ((List.range i).map f)) ⟨aY hD,aD,.nil⟩ (fun i acc H' le ⟨_,e,p⟩=>⟨?_,e⟩) ?_ ?_
 ·rw [Paired.length p,ak,bw]
 ·rintro acc H' ⟨s',e,p⟩;exact ⟨(by show m<=m; omega),q H' s' ⟨D,acc,rfl,e,p⟩⟩
 ·rintro i acc H' lt ⟨s',e,p⟩;refine ⟨lt,?_⟩;rintro y yp ⟨rfl,rfl⟩ Qc k;have e1:(0 + (i:Int))=((i:Nat):Int):=Int.zero_add _;rw [e1];refine body i yp lt s' Qc fun u H3 s3 ru=>?_
  have e3:=s3 _ _ e;refine k u H3 e3 ⟨fY (s'.trans s3) hD,aD,?_⟩;rw [bY,aZ];exact Paired.snoc (Paired.gG p fun _ _ z=>sS.upd (sS.same z s3) e3) (sS.upd ru e3)
end
end Tw
namespace Tw
def masks:Nat->List (List Bool)
 | 0=>[[]]
 | n + 1=>(masks n).map (·++[false])++(masks n).map (·++[true])
theorem rM:∀ n,(masks n).length=2 ^ n
 | 0=>rfl
 | n + 1=>by simp only [masks,aQ,ak,rM n]; omega
theorem lY:∀ {n:Nat} {m:List Bool},m ∈ masks n->m.length=n
 | 0,m,h=>by simp [masks] at h; simp [h]
 | n + 1,m,h=>by
  simp only [masks,cM,bx] at h;rcases h with ⟨m',h',rfl⟩ | ⟨m',h',rfl⟩ <;> simp [lY h']
def f9 (n j:Nat):List Bool:=(List.range n).map fun k=>j.testBit k
theorem zQ:∀ {n j:Nat},j < 2 ^ n->(masks n)[j]?=some (f9 n j)
 | 0,j,h=>by
  have:j=0:=by simpa using h
  subst this;rfl
 | n + 1,j,h=>by
  have hl:=rM n;unfold f9;rw [bY,aZ]
  by_cases lt:j < 2 ^ n
  ·have e:=zQ (n:=n) lt;rw [masks,List.getElem?_append_left (by rw [ak,hl]; exact lt),aJ,e];have e2:j.testBit n=false:=Nat.testBit_lt_two_pow lt;simp [f9,e2]
  ·have h2:j - 2 ^ n < 2 ^ n:=by
    have:2 ^ (n + 1)=2 ^ n + 2 ^ n:=by omega
    omega
   have e:=zQ (n:=n) h2;rw [masks,List.getElem?_append_right (by rw [ak,hl]; omega),ak,hl,aJ,e];have ej:j=2 ^ n + (j - 2 ^ n):=by omega
   have e2:j.testBit n=true:=by
    rw [ej,Nat.testBit_two_pow_add_eq,Nat.testBit_lt_two_pow h2]; rfl
   have e3:(List.range n).map (fun k=>(j - 2 ^ n).testBit k)=(List.range n).map (fun k=>j.testBit k):=by
    apply map_congr_left;intro k hk;have hk:=mem_range.mp hk
    conv=>rhs; rw [ej]
    rw [Nat.testBit_two_pow_add_gt hk]
   simp [f9,e2,e3]
def BL:List Bool->Nat
 | []=>0
 | b::m=>(if b then 1 else 0) + 2 * BL m
theorem rN (b:Bool):∀ m:List Bool,BL (m++[b])=BL m + if b then 2 ^ m.length else 0
 | []=>by cases b <;> rfl
 | c::m=>by
  have ih:=rN b m;rw [List.cons_append,BL,BL,ih,length_cons];cases b with
  | false=>simp
  | true =>
   simp only [if_true];have:2 ^ (m.length + 1)=2 * 2 ^ m.length:=by omega
   omega
theorem wM:∀ {n j:Nat},j < 2 ^ n->BL (f9 n j)=j
 | 0,j,h=>by
  have:j=0:=by simpa using h
  subst this;rfl
 | n + 1,j,h=>by
  have hb:f9 (n + 1) j=f9 n j++[j.testBit n]:=by
   unfold f9;rw [bY,aZ];rfl
  have hl:(f9 n j).length=n:=by simp [f9]
  rw [hb,rN,hl]
  by_cases lt:j < 2 ^ n
  ·rw [wM lt,Nat.testBit_lt_two_pow lt];simp
  ·have h2:j - 2 ^ n < 2 ^ n:=by
    have:2 ^ (n + 1)=2 ^ n + 2 ^ n:=by omega
    omega
   have ej:j=2 ^ n + (j - 2 ^ n):=by omega
   have e2:j.testBit n=true:=by
    rw [ej,Nat.testBit_two_pow_add_eq,Nat.testBit_lt_two_pow h2]; rfl
   have e3:f9 n j=f9 n (j - 2 ^ n):=by
    unfold f9;apply map_congr_left;intro k hk;have hk:=mem_range.mp hk
    conv=>lhs; rw [ej]
    rw [Nat.testBit_two_pow_add_gt hk]
   rw [e2,e3,wM h2];simp only [if_true];omega
structure Cp where
 s:Int
 gap:Int
 rest:Int
def sI (m:List Bool):Int:=((m.filter id).length:Int)
def Px (b:Bool) (c:Cp):Bool:=if b then decide (c.rest<=c.s) else decide (c.s + 1≠c.gap)
def Y9 (b:Bool) (c:Cp):Int:=if b then 0 else c.s + 1
def Rk (cans:Int) (l:List Cp) (m:List Bool):Bool:=((m.zip l).all fun q=>Px q.1 q.2) && decide (sI m<=cans)
def yM (l:List Cp) (m:List Bool):List Int:=(m.zip l).map fun q=>Y9 q.1 q.2
def tO (cans:Int) (l:List Cp) (m:List Bool):Option (Int × Int × List Int):=if Rk cans l m then some ((BL m:Int),cans - sI m,yM l m) else none
def jd (cans:Int) (l:List Cp) (i:Nat):List (Int × Int × List Int):=(masks i).filterMap (tO cans l)
def S8 (c:Cp) (ps:List (Int × Int × List Int)):List (Int × Int × List Int):=if c.s + 1=c.gap then [] else ps.map fun q=>(q.1,q.2.1,q.2.2++[c.s + 1])
def S9 (c:Cp) (bit:Int) (ps:List (Int × Int × List Int)):List (Int × Int × List Int):=if c.rest<=c.s then (ps.filter fun q=>decide (0 < q.2.1)).map fun q=>(q.1 + bit,q.2.1 - 1,q.2.2++[0]) else []
theorem qH {α β:Type}:∀ {m:List α} {l:List β} {b:α} {c:β},l[m.length]?=some c->(m++[b]).zip l=m.zip l++[(b,c)]
 | [],c'::l,b,c,h=>by simp at h; simp [h]
 | [],[],_,_,h=>by simp at h
 | x::m,y::l,b,c,h=>by
  have:=qH (m:=m) (l:=l) (b:=b) (c:=c) (by simpa using h);simp only [List.cons_append,List.zip_cons_cons,this]
 | x::m,[],_,_,h=>by simp at h
theorem vI {α β:Type} {f g:α->Option β}:∀ {l:List α},(∀ x ∈ l,f x=g x)->l.filterMap f=l.filterMap g
 | [],_=>rfl
 | x::l,h=>by
  rw [filterMap_cons,filterMap_cons,h x (by simp),vI fun y hy=>h y (by simp [hy])]
theorem rO (m:List Bool) (b:Bool):sI (m++[b])=sI m + if b then 1 else 0:=by
 unfold sI;rw [cG,aQ];cases b <;> simp
theorem Cz {cans:Int} {l:List Cp} {m:List Bool} {c:Cp} (h:l[m.length]?=some c):tO cans l (m++[false])=if c.s + 1=c.gap then none else (tO cans l m).map fun q=>(q.1,q.2.1,q.2.2++[c.s + 1]):=by
 have e1:Rk cans l (m++[false])=(decide (c.s + 1≠c.gap) && Rk cans l m):=by
  unfold Rk;rw [qH h,all_append,rO];generalize (m.zip l).all (fun q=>Px q.1 q.2)=x;cases x <;> simp [Px]
 have e2:yM l (m++[false])=yM l m++[c.s + 1]:=by
  unfold yM;rw [qH h,aZ];simp [Y9]
 unfold tO;rw [e1,e2,rN,rO]
 by_cases z:c.s + 1=c.gap
 ·simp [z]
 ·by_cases o:Rk cans l m=true
  ·simp [z,o]
  ·simp [z,o]
theorem G8 {cans:Int} {l:List Cp} {m:List Bool} {c:Cp} (h:l[m.length]?=some c):tO cans l (m++[true])=if c.rest<=c.s then ((tO cans l m).filter fun q=>decide (0 < q.2.1)).map fun q=>(q.1 + (2:Int) ^ m.length,q.2.1 - 1,q.2.2++[0]) else none:=by
 have e2:yM l (m++[true])=yM l m++[0]:=by
  unfold yM;rw [qH h,aZ];simp [Y9]
 have e3:((BL (m++[true]):Nat):Int)=(BL m:Int) + (2:Int) ^ m.length:=by
  rw [rN];simp
 have e1:Rk cans l (m++[true])=(decide (c.rest<=c.s) && ((m.zip l).all (fun q=>Px q.1 q.2) && decide (sI m + 1<=cans))):=by
  unfold Rk;rw [qH h,all_append,rO];generalize (m.zip l).all (fun q=>Px q.1 q.2)=x;cases x <;> simp [Px]
 unfold tO;rw [e1,e2,e3,rO]
 by_cases z:c.rest<=c.s
 ·unfold Rk
  by_cases o:(m.zip l).all (fun q=>Px q.1 q.2)=true
  ·by_cases k:sI m + 1<=cans
   ·have k1:sI m<=cans:=by omega
    have k2:0 < cans - sI m:=by omega
    have k3:cans - (sI m + 1)=cans - sI m - 1:=by omega
    simp [z,o,k,k1,k3,Option.filter];omega
   ·have k2:¬ 0 < cans - sI m:=by omega
    by_cases k1:sI m<=cans
    ·simp [z,o,k,k1,Option.filter];omega
    ·simp [z,o,k,k1]
  ·simp [z,o]
 ·simp [z]
theorem Kg {cans:Int} {l:List Cp} {i:Nat} {c:Cp} (h:l[i]?=some c):S8 c (jd cans l i)++S9 c ((2:Int) ^ i) (jd cans l i)=jd cans l (i + 1):=by
 unfold jd;rw [masks,List.filterMap_append,List.filterMap_map,List.filterMap_map]
 congr 1
 ·unfold S8
  by_cases z:c.s + 1=c.gap
  ·rw [if_pos z]
   symm
   rw [List.filterMap_eq_nil_iff];intro m hm;have hl:=lY hm
   show tO cans l (m++[false])=none
   rw [Cz (by rw [hl]; exact h),if_pos z]
  ·rw [if_neg z,List.map_filterMap];apply vI;intro m hm;have hl:=lY hm
   show _=tO cans l (m++[false])
   rw [Cz (by rw [hl]; exact h),if_neg z]
 ·unfold S9
  by_cases z:c.rest<=c.s
  ·rw [if_pos z,List.filter_filterMap,List.map_filterMap];apply vI;intro m hm;have hl:=lY hm
   show _=tO cans l (m++[true])
   rw [G8 (by rw [hl]; exact h),if_pos z,hl]
  ·rw [if_neg z]
   symm
   rw [List.filterMap_eq_nil_iff];intro m hm;have hl:=lY hm
   show tO cans l (m++[true])=none
   rw [G8 (by rw [hl]; exact h),if_neg z]
theorem Kh {cans:Int} {l:List Cp} (h:0<=cans):jd cans l 0=[(0,cans,[])]:=by
 simp [jd,masks,tO,Rk,sI,yM,BL,h]
inductive Bh (ν:Type) where
 | no
 | dry (nm:ν)
 | st (ds:List Int)
def jz (cans:Int) (shut:Bool) (l:List Cp) (jt:List Nat):Bool := !(!jt.isEmpty && (shut || decide (cans < (jt.length:Int)))) && jt.all fun k=>(l[k]?.map fun c=>decide (c.rest<=c.s)).getD true
def wN (l:List Cp) (jt:List Nat):List Int:=(List.range l.length).map fun k=>if k ∈ jt then 0 else (l[k]?.map fun c=>c.s + 1).getD 0
def Es {ν:Type} (nms:List ν) (l:List Cp) (jt:List Nat):Option ν:=(List.range l.length).findSome? fun k=>if (wN l jt)[k]?=l[k]?.map Cp.gap then nms[k]? else none
def jQ {ν:Type} (nms:List ν) (cans:Int) (shut:Bool) (l:List Cp) (jt:List Nat):Bh ν := if jz cans shut l jt then match Es nms l jt with
  | some nm=>.dry nm
  | none=>.st (wN l jt)
 else .no
def jh (n j:Nat):List Nat:=(List.range n).filter fun k=>j.testBit k
def lK {ν:Type} (nms:List ν) (cans:Int) (shut:Bool) (l:List Cp) (j:Nat):Option (Int × List Int):=match jQ nms cans shut l (jh l.length j) with
 | .st ds=>some ((j:Int),ds)
 | _=>none
def wO {ν:Type} (nms:List ν) (cans:Int) (shut:Bool) (l:List Cp):List (Int × List Int):=(List.range (2 ^ l.length)).filterMap (lK nms cans shut l)
def oZ (cans:Int) (l:List Cp):List (Int × List Int):=(jd cans l l.length).map fun q=>(q.1,q.2.2)
theorem Py (n:Nat):masks n=(List.range (2 ^ n)).map (f9 n):=by
 apply ext_getElem?;intro j
 by_cases h:j < 2 ^ n
 ·rw [zQ h,aJ,List.getElem?_range h];rfl
 ·rw [List.getElem?_eq_none (by rw [rM]; omega),List.getElem?_eq_none (by rw [ak,bw]; omega)]
theorem za {n j k:Nat} (h:k < n):(f9 n j)[k]?=some (j.testBit k):=by
 unfold f9;rw [aJ,List.getElem?_range h];rfl
theorem G9 (n j:Nat):(f9 n j).length=n:=by simp [f9]
theorem Tc (n j:Nat):sI (f9 n j)=((jh n j).length:Int):=by
 unfold sI jh f9;rw [List.filter_map,ak];rfl
theorem Za {α β:Type} {p:α->β->Bool} {m:List α} {l:List β} (h:m.length=l.length):((m.zip l).all fun q=>p q.1 q.2)=true ↔ ∀ (k:Nat) b c,m[k]?=some b->l[k]?=some c->p b c=true:=by
 rw [all_eq_true];constructor
 ·intro a k b c hb hc;have:(m.zip l)[k]?=some (b,c):=by rw [List.getElem?_zip_eq_some]; exact ⟨hb,hc⟩
  exact a (b,c) (aP this)
 ·intro a q hq;obtain ⟨k,hk⟩:=List.mem_iff_getElem?.mp hq;obtain ⟨b,c⟩:=q;rw [List.getElem?_zip_eq_some] at hk;exact a k b c hk.1 hk.2
theorem pK {n j k:Nat}:k ∈ jh n j ↔ k < n/\j.testBit k=true:=by
 unfold jh;rw [mem_filter,mem_range]
theorem zR {l:List Cp} {jt:List Nat} {k:Nat} {c:Cp} (h:l[k]?=some c):(wN l jt)[k]?=some (if k ∈ jt then 0 else c.s + 1):=by
 have lt:k < l.length:=(aF.mp h).1;unfold wN;rw [aJ,List.getElem?_range lt,Option.map_some,h];rfl
theorem Hf {ν:Type} {nms:List ν} {l:List Cp} {jt:List Nat} (hn:nms.length=l.length):Es nms l jt=none ↔ ∀ (k:Nat) c,l[k]?=some c->(if k ∈ jt then 0 else c.s + 1)≠c.gap:=by
 unfold Es;rw [List.findSome?_eq_none_iff];constructor
 ·intro a k c hc z;have lt:k < l.length:=(aF.mp hc).1;have:=a k (mem_range.mpr lt);rw [zR hc,hc,Option.map_some,z,if_pos rfl,aG (by omega)] at this;cases this
 ·intro a k hk;have lt:=mem_range.mp hk;have hc:l[k]?=some l[k]:=aG lt;rw [zR hc,hc,Option.map_some,if_neg];intro z;exact a k l[k] hc (bQ z)
theorem Te {l:List Cp} {j:Nat}:wN l (jh l.length j)=yM l (f9 l.length j):=by
 apply ext_getElem?;intro k
 by_cases lt:k < l.length
 ·have hc:l[k]?=some l[k]:=aG lt;rw [zR hc];unfold yM;rw [aJ];have hz:((f9 l.length j).zip l)[k]?=some (j.testBit k,l[k]):=by rw [List.getElem?_zip_eq_some]; exact ⟨za lt,hc⟩
  rw [hz];simp only [Option.map_some,Y9,pK,lt,true_and]
 ·rw [List.getElem?_eq_none (by simp [wN]; omega),List.getElem?_eq_none (by simp [yM,G9]; omega)]
theorem Tf {ν:Type} {nms:List ν} {cans:Int} {shut:Bool} {l:List Cp} {j:Nat} (hn:nms.length=l.length) (hc0:0<=cans) (hg:∀ c ∈ l,1<=c.gap) (hj:j < 2 ^ l.length) : lK nms cans shut l j=(tO (if shut then 0 else cans) l (f9 l.length j)).map fun q=>(q.1,q.2.2):=by
 have azW:=Tc l.length j;have e:(Rk (if shut then 0 else cans) l (f9 l.length j)=true) ↔ (jz cans shut l (jh l.length j)=true/\Es nms l (jh l.length j)=none):=by
  rw [Hf hn];unfold Rk jz;rw [Bool.and_eq_true,Za (G9 _ _),azW,decide_eq_true_eq,Bool.and_eq_true];have e1:((!(!(jh l.length j).isEmpty && (shut || decide (cans < ((jh l.length j).length:Int)))))=true) ↔ ((jh l.length j).length:Int)<=(if shut then 0 else cans):=by
   cases hw:jh l.length j with
   | nil=>cases shut <;> simp [hc0]
   | cons a t =>
    cases shut with
    | true=>simp
    | false=>simp
  rw [e1,all_eq_true];constructor
  ·rintro ⟨a,b⟩;refine ⟨⟨b,fun k hk=>?_⟩,fun k c hc=>?_⟩
   ·obtain ⟨lt,ht⟩:=pK.mp hk;have hc:l[k]?=some l[k]:=aG lt;have:=a k true l[k] (by rw [za lt,ht]) hc;rw [hc];simpa [Px] using this
   ·have lt:k < l.length:=(aF.mp hc).1;have:=a k _ c (za lt) hc;have g:=hg c (aP hc)
    by_cases ht:j.testBit k=true
    ·rw [if_pos (pK.mpr ⟨lt,ht⟩)]; omega
    ·rw [if_neg (fun z=>ht (pK.mp z).2)];have ht':j.testBit k=false:=by simpa using ht
     rw [ht'] at this;simpa [Px] using this
  ·rintro ⟨⟨b,a1⟩,a2⟩;refine ⟨fun k x c hx hc=>?_,b⟩;have lt:k < l.length:=(aF.mp hc).1;rw [za lt] at hx;cases hx;cases ht:j.testBit k with
   | true =>
    have:=a1 k (pK.mpr ⟨lt,ht⟩);rw [hc] at this;simpa [Px] using this
   | false =>
    have:=a2 k c hc;rw [if_neg (fun z=>by rw [(pK.mp z).2] at ht; cases ht)] at this;simpa [Px] using this
 unfold lK jQ tO
 by_cases o:Rk (if shut then 0 else cans) l (f9 l.length j)=true
 ·obtain ⟨h1,h2⟩:=e.mp o;rw [if_pos h1,if_pos o,h2];simp only [Option.map_some,wM hj,Te]
 ·rw [if_neg o]
  by_cases h1:jz cans shut l (jh l.length j)=true
  ·rw [if_pos h1];cases h2:Es nms l (jh l.length j) with
   | some nm=>rfl
   | none=>exact absurd (e.mpr ⟨h1,h2⟩) o
  ·rw [if_neg h1];rfl
theorem sV {ν:Type} {nms:List ν} {cans:Int} {shut:Bool} {l:List Cp} (hn:nms.length=l.length) (hc0:0<=cans) (hg:∀ c ∈ l,1<=c.gap):oZ (if shut then 0 else cans) l=wO nms cans shut l:=by
 unfold oZ jd wO;rw [Py,List.filterMap_map,List.map_filterMap];apply vI;intro j hj;rw [Tf hn hc0 hg (mem_range.mp hj)];rfl
end Tw
namespace L2
open PySem
abbrev NK:=Int × List Int
section
variable (prog:cC) (w:World)
def gU (h:Heap) (k:NK) (a:aA):Prop := ∃ (b:aA) (v:aB) (o:Obj) (n:Nat),h.get? a=some o/\o.cls=.type "tuple"/\o.data=.seq #[v,.ref b] n/\(intKind prog w).is k.1 v=true/\IsTupleKey (intKind prog w) h k.2 b
def vJ (k:NK):Int:=reduceHash (Builtin.Tuple.tupleHashOf [(intKind prog w).hash k.1,tupleKeyHash (intKind prog w) k.2])
end
section
variable {prog:cC} {w:World} {A:d7} {E:aB->aX->Prop} {s:aX}
theorem gU.ty {k:NK} {a:aA} (x:gU prog w s.heap k a):s.TypeIs (.ref a) "tuple":=by
 obtain ⟨_,_,o,_,ho,hc,_⟩:=x;exact ⟨o,ho,hc⟩
theorem gU.inj {h:Heap} {a:aA} {x y:NK} (p:gU prog w h x a) (q:gU prog w h y a):x=y:=by
 obtain ⟨b,v,o,n,ho,_,hd,h1,h2⟩:=p;obtain ⟨b',v',o',n',ho',_,hd',h1',h2'⟩:=q;rw [ho] at ho'; cases ho';rw [hd] at hd';injection hd' with e1 e2;have e:[v,Value.ref b]=[v',Value.ref b']:=congrArg Array.toList e1;cases e;exact Prod.ext ((intKind prog w).inj _ _ _ h1 h1') (h2.inj h2')
theorem gU.keeps {h h':Heap} {k:NK} {a d:aA} {o:Obj} {es ep} (x:gU prog w h k a) (ho:h.get? d=some o) (hd:o.data=.dict es ep) (sb:Heap.SameBut d h h'):gU prog w h' k a:=by
 obtain ⟨b,v,oa,n,g1,c,g2,h1,h2⟩:=x;have ne:a≠d:=fun z=>by subst z; rw [g1] at ho; cases ho; rw [g2] at hd; cases hd
 exact ⟨b,v,oa,n,(sb.2 a ne).trans g1,c,g2,h1,h2.keeps ho hd sb⟩
theorem Pz {k:NK} {a:aA} {Q:Int->aX->Prop} (hu:A.units + 1 < cLine) (hk:gU prog w s.heap k a) (q:Q (vJ prog w k) { s with toks:=s.toks + (k.2.length + 3) }):wpAny (model prog w) A (pyHash (.ref a)) Q E s:=by
 have ty:=hk.ty;obtain ⟨b,v,o,n,ho,_,hd,hv,hb⟩:=hk
 show wpAny _ _ (pyHashByItsType (.ref a)) Q E s
 unfold pyHashByItsType;have lk:=PySem.F.slot_tuple_hash.lookup;refine aj (wpAny_cRoomFor_or (.inr (by omega)) (aj (wpAny_specialOf ty lk ?_)));rw [if_neg (show ¬ (some (Value.builtin "tuple.__hash__") == some Value.none)=true by rw [beq_builtin_none]; exact Bool.false_ne_true)];refine aj (wpAny_specialOf ty lk ?_)
 show wpAny _ _ (callSpecialIfBoundUnlessNone? (Value.ref a) "__hash__" _ >>= _) _ _ _
 refine aj (wpAny_callSpecialIfBoundUnlessNone?_slot ty PySem.F.slot_tuple_hash (wpAny_call_entry PySem.F.slot_tuple_hash ty PySem.F.entry_tuple_hash ?_ (PySem.F.args_tuple_hash_1 _)))
 show wpAny _ _ (Builtin.Tuple.tupleItemsOf (Value.ref a) >>= _) _ _ _
 refine aj (wpAny_tupleItemsOf ho hd (aj ?_));rw [<- Array.forIn_toList];refine wpAny_forIn_list _ (fun rest (hs:Array Int) s'=>(rest=[v,.ref b]/\hs=#[]/\s'=s)\/(rest=[.ref b]/\hs=#[(intKind prog w).hash k.1]/\s'={ s with toks:=s.toks + 1 }) \/ (rest=[]/\hs=#[(intKind prog w).hash k.1,tupleKeyHash (intKind prog w) k.2]/\s'={ s with toks:=s.toks + 1 + (k.2.length + 1) })) _ ?_ ?_ _ _ (.inl ⟨rfl,rfl,rfl⟩)
 ·rintro x rest hs s' (⟨e,rfl,rfl⟩ | ⟨e,rfl,rfl⟩ | ⟨e,_⟩)
  ·cases e;exact aj ((intKind prog w).pyHash hv (aj (au (au (.inr (.inl ⟨rfl,rfl,rfl⟩))))))
  ·cases e;exact aj (wpAny_pyHash_tuple (s:={ s with toks:=s.toks + 1 }) hu hb (aj (au (au (.inr (.inr ⟨rfl,rfl,rfl⟩))))))
  ·cases e
 ·rintro hs s' (⟨e,_⟩ | ⟨e,_⟩ | ⟨_,rfl,rfl⟩)
  ·cases e
  ·cases e
  ·have q':Q (vJ prog w k) { s with toks:=s.toks + 1 + (k.2.length + 1) + 1 }:=by
    have e:s.toks + 1 + (k.2.length + 1) + 1=s.toks + (k.2.length + 3):=by omega
    rw [e]; exact q
   refine wpAny_ret_mkInt ?_;unfold vJ reduceHash at q'
   show wpAny _ _ (pyHashByItsType.reduced (Builtin.Tuple.tupleHashOf [(intKind prog w).hash k.1,tupleKeyHash (intKind prog w) k.2])) Q E _
   generalize Builtin.Tuple.tupleHashOf [(intKind prog w).hash k.1,tupleKeyHash (intKind prog w) k.2]=z at q' ⊢;unfold pyHashByItsType.reduced
   split
   ·rename_i c
    rw [if_pos c] at q';exact au q'
   ·rename_i c
    rw [if_neg c] at q';exact aj (wpAny_rule (au q'))
theorem PJ {x y:NK} {a b:aA} {R:Fin->aX->Prop} (hu:A.units < cLine) (hx:gU prog w s.heap x a) (hy:gU prog w s.heap y b) (q:R (.done (.ret (.bool (decide (x=y))))) s) : wpAny (model prog w) A (Builtin.«tuple.__eq__» ⟨[.ref a,.ref b],[]⟩) R E s:=by
 have ty:=hy.ty;obtain ⟨d,v,o,n,ho,_,hd,hv,hb⟩:=hx;obtain ⟨d',v',o',n',ho',_,hd',hv',hb'⟩:=hy
 show wpAny _ _ (isInstance (Value.ref b) (.type "tuple") >>= _) _ _ _
 refine aj (wpAny_isInstance ty isSubtype_tuple_tuple ?_);simp only [Bool.not_true,if_false,Bool.false_eq_true];refine aj (wpAny_tupleItemsOf ho hd (aj (wpAny_tupleItemsOf ho' hd' (aj ?_))));refine wpAny_forIn_list _ (fun rest r s'=>r.1=none/\s'=s/\((rest=[(v,v'),(.ref d,.ref d')])\/(rest=[(.ref d,.ref d')]/\x.1=y.1)\/(rest=[]/\x=y))) _ ?_ ?_ _ _ ⟨rfl,rfl,.inl rfl⟩
 ·rintro ⟨u1,u2⟩ rest r s' ⟨hr,rfl,e | ⟨e,e1⟩ | ⟨e,_⟩⟩
  ·cases e;refine aj ((intKind prog w).eqBool hv hv' ?_)
   by_cases hk:x.1=y.1
   ·rw [aM hk];simp only [Bool.not_true,if_false,Bool.false_eq_true];exact au ⟨by first | rfl | trivial,rfl,.inr (.inl ⟨by first | rfl | trivial,hk⟩)⟩
   ·rw [aL hk];simp only [if_true,Bool.not_false];rw [aL (fun z:x=y=>hk (by rw [z]))] at q;exact aj (au (au (au q)))
  ·cases e;refine aj (wpAny_eqBool_tuple hu hb hb' ?_)
   by_cases hk:x.2=y.2
   ·rw [aM hk];simp only [Bool.not_true,if_false,Bool.false_eq_true];exact au ⟨by first | rfl | trivial,rfl,.inr (.inr ⟨by first | rfl | trivial,Prod.ext e1 hk⟩)⟩
   ·rw [aL hk];simp only [if_true,Bool.not_false];rw [aL (fun z:x=y=>hk (by rw [z]))] at q;exact aj (au (au (au q)))
  ·cases e
 ·rintro ⟨r1,r2⟩ s' ⟨hr,rfl,e | ⟨e,_⟩ | ⟨_,e⟩⟩
  ·cases e
  ·cases e
  ·simp only at hr;subst hr;rw [aM e] at q;exact au q
theorem Zb {x y:NK} {a b:aA} {Q:Bool->aX->Prop} (hu:A.units + 1 < cLine) (hx:gU prog w s.heap x a) (hy:gU prog w s.heap y b) (q:Q (decide (x=y)) s):wpAny (model prog w) A (eqBool (.ref a) (.ref b)) Q E s:=by
 unfold eqBool;refine wpAny_holding ?_
 by_cases ab:(Value.ref a == Value.ref b)=true
 ·have e:a=b:=by have:=eq_of_beq ab; injection this
  subst e;cases hx.inj hy;rw [aM rfl] at q;rw [if_pos ab];exact aj (wpAny_rule (au q))
 ·rw [if_neg ab];exact aj (wpAny_richCompare_same_room (op:=.Eq) hx.ty hy.ty PySem.F.slot_tuple_eq (wpAny_call_entry PySem.F.slot_tuple_eq hx.ty PySem.F.entry_tuple_eq (PJ hu hx hy ⟨_,rfl,(fun e=>nomatch e),wpAny_truthy_bool q⟩) (PySem.F.args_tuple_eq_2 _ _)) (by omega))
theorem yt {a:aA} {o:Obj} {its:Array aB} {n d:Nat} {Q:Bool->aX->Prop} (ho:s.heap.get? a=some o) (hc:o.cls=.type "tuple") (hd:o.data=.seq its n) (hq:∀ v ∈ its.toList,∀ R:Bool->aX->Prop,R true s->wpAny (model prog w) A (eqIsQuiet d v) R E s) (q:Q true s):wpAny (model prog w) A (eqIsQuiet (d + 1) (.ref a)) Q E s:=by
 have ty:s.TypeIs (.ref a) "tuple":=⟨o,ho,hc⟩;unfold eqIsQuiet;refine aj (wpAny_specialOf ty PySem.F.slot_tuple_eq.lookup ?_)
 show wpAny _ _ (isInstance (Value.ref a) (.type "tuple") >>= _) _ _ _
 refine aj (wpAny_isInstance ty isSubtype_tuple_tuple ?_);simp only [Bool.not_true,if_false,Bool.false_eq_true];refine aj (wpAny_seqItems ho hd (aj ?_))
 show wpAny _ _ (forIn its _ _) _ _ s
 rw [<- Array.forIn_toList];refine wpAny_forIn_list _ (fun rest r s'=>r.1=none/\s'=s/\∀ v ∈ rest,v ∈ its.toList) _ ?_ ?_ _ _ ⟨rfl,rfl,fun _ m=>m⟩
 ·rintro v rest r s' ⟨hr,rfl,all⟩;refine aj (hq v (all v (by simp)) _ ?_);simp only [Bool.not_true,if_false,Bool.false_eq_true];exact au ⟨by first | rfl | trivial,rfl,fun u m=>all u (by simp [m])⟩
 ·rintro ⟨i,j⟩ s' ⟨hr,rfl,_⟩;simp only at hr;subst hr;exact au q
theorem Kl {k:NK} {a:aA} {Q:Bool->aX->Prop} (hk:gU prog w s.heap k a) (q:Q true s):wpAny (model prog w) A (eqIsQuiet 8 (.ref a)) Q E s:=by
 obtain ⟨b,v,o,n,ho,hc,hd,hv,ob,its,nb,gb,cb,db,ib⟩:=hk;refine yt ho hc hd (fun u m R r=>?_) q;rcases aR.mp m with rfl | m
 ·rw [eqIsQuiet_byValue _ ((intKind prog w).byValue _ _ hv)];exact au r
 ·cases aC.mp m;refine yt gb cb db (fun u m R r=>?_) r;rw [eqIsQuiet_byValue _ (ib.byValue u m)];exact au r
noncomputable def gJ (prog:cC) (w:World):HeapKind prog w NK where
 is:=gU prog w
 hash:=vJ prog w
 draws:=fun k=>k.2.length + 3
 room:=fun A=>A.units + 1 < cLine
 inj:=fun p q=>p.inj q
 keeps:=fun x ho hd sb=>x.keeps ho hd sb
 pyHash:=fun hu hk q=>Pz hu hk q
 eqBool:=fun hu hx hy q=>Zb hu hx hy q
 quiet:=fun hk q=>Kl hk q
end
theorem Et:typeLookup (.type "list") "keys"=pure none:=am_miss_of_fast (by kernel_rfl)
theorem Tg:entryFor table "dict.update.loop"=some Builtin.«dict.update.loop»:=entryFor_of_tree (by kernel_rfl)
theorem rP:plainId "dict.update.loop"=true:=by decide +kernel
section
variable {prog:cC} {w:World} {A:d7} {E:aB->aX->Prop}
section
variable {h:Heap} {g:Array GenState} {d:Drawn} {t:Nat} {os:OsState} {a:aA} {its:Array aB} {n:Nat} {sl:Array (Option aB)}
theorem PL {tk:Tok} {Q:Fin->aX->Prop} (hx:h.get? a=some { cls:=.type "list",dict:=none,data:=.seq its n,slots:=sl }) (calm:A.handled=none) (q:∀ h' tk' e,Heap.NewAttrErr h h' e (.ref a) "keys"->E (.ref e) ⟨h',g,d,tk',os⟩):wpAny (model prog w) A (Builtin.«object.__getattribute__» ⟨[.ref a,.str "keys" tk],[]⟩) Q E ⟨h,g,d,t,os⟩:=by
 have hT:(⟨h,g,d,t,os⟩:aX).TypeIs (.ref a) "list":=⟨_,hx,rfl⟩;have f4:=Et
 repeat any_goals first | assumption | wp_step
 exact wpAny_raiseAttrError calm (fun h' tk' e x=>q h' tk' e x) (attrMsg_fits (by decide +kernel) (by decide +kernel))
theorem PN {Q:Option aB->aX->Prop} (hx:h.get? a=some { cls:=.type "list",dict:=none,data:=.seq its n,slots:=sl }) (calm:A.handled=none) (q:∀ h' tk',(∀ b ob,h.get? b=some ob->h'.get? b=some ob)->Q none ⟨h',g,d,tk',os⟩):wpAny (model prog w) A (getAttr? (.ref a) "keys") Q E ⟨h,g,d,t,os⟩:=by
 have hT:(⟨h,g,d,t + 1,os⟩:aX).TypeIs (.ref a) "list":=⟨_,hx,rfl⟩;have f2:=PySem.F.slot_list_getattribute.lookup;have f3:=PySem.F.slot_list_getattribute.bind (.ref a);unfold getAttr? getAttrBy?;refine aj (wpAny_mkText (aj (wpAny_attempt ?_)))
 repeat any_goals first | assumption | wp_step
 refine codeAny_call_builtin PySem.F.slot_list_getattribute.plain PySem.F.entry_list_ga (PySem.F.slot_list_getattribute.check _ _ _ _ _ _ _ _ hT (PySem.F.args_list_getattribute_2 _ _) (PL hx (by simpa using calm) fun h' tk' e x=>?_));obtain ⟨u,v,there⟩:=x.there;have isE:(⟨h',g,d,tk',os⟩:aX).TypeIs (Value.ref e) "AttributeError":=⟨_,there,rfl⟩
 show wpAny _ _ (getattributeRaised (Value.ref a) _ _ _ _ _ _) _ _ _
 have f5:=sub_AttributeError;have f6:typeLookup (.type "list") "__getattr__"=pure none:=am_miss_of_fast (by kernel_rfl);unfold getattributeRaised
 repeat any_goals first | assumption | wp_step
 exact q h' tk' x.keeps
end
section
variable {s:aX}
theorem gU.move {h h':Heap} {k:NK} {a:aA} (x:gU prog w h k a) (keep:∀ b o,o.cls=.type "tuple"->h.get? b=some o->h'.get? b=some o):gU prog w h' k a:=by
 obtain ⟨b,v,o,n,ho,c,hd,h1,ob,its,nb,gb,cb,db,ib⟩:=x;exact ⟨b,v,o,n,keep _ _ c ho,c,hd,h1,ob,its,nb,keep _ _ cb gb,cb,db,ib⟩
def Km (h:Heap) (r:NK × aA × aB) (v:aB):Prop:=∃ p o n,v=.ref p/\h.get? p=some o/\o.cls=.type "tuple"/\o.data=.seq #[.ref r.2.1,r.2.2] n
theorem Ko {done:List (NK × aA × aB)} {r:NK × aA × aB} (nd:((done++[r]).map (·.1)).Nodup):atKey done r.1=none:=by
 refine atKey_none_of_get fun j p e=>?_
 rw [aZ,nodup_append] at nd;exact nd.2.2 r.1 (bx.mpr ⟨_,aP e,rfl⟩) r.1 (by simp) rfl
theorem CJ {D I l:aA} {its:List aB} {rows:List (NK × aA × aB)} {h0:Heap} (calm:A.handled=none) (hu:A.units + 8 < cLine) (DI:D≠I) (Dl:D≠l) (lI:l≠I) (small:rows.length<=sizeLine) (len:rows.length=its.length) (pr:∀ (j:Nat) r v,rows[j]?=some r->its[j]?=some v->Km h0 r v) (ky:∀ r ∈ rows,gU prog w h0 r.1 r.2.1) (nd:(rows.map (·.1)).Nodup) {R:Result->aX->Prop} : ∀ (todo done:List (NK × aA × aB)) (i:Int) (ti:Tok) (s:aX),rows=done++todo->s.heap.IsListIter I l done.length->s.heap.IsList l its.toArray->s.heap.DictOfH (gJ prog w) D done->(∀ b o,o.cls=.type "tuple"->h0.get? b=some o->s.heap.get? b=some o) -> (∀ h' tk,(∀ b o,b≠D->b≠I->s.heap.get? b=some o->h'.get? b=some o)->h'.DictOfH (gJ prog w) D rows->R (.ok (.ret .none)) { s with heap:=h',toks:=tk }) -> codeAny (model prog w) A (.builtin "dict.update.loop" ⟨[.ref D,.ref I,.int i ti,.none],[]⟩) R s
 | [],done,i,ti,s,e,it,li,at_,keep,k=>by
  have e':rows=done:=by simpa using e
  refine codeAny_builtin Tg ?_;rw [Around.under_plainId rP _];refine aj (m:=pyNext (.ref I)) (wpAny_pyNext_list_end (by simpa using calm) it li (by rw [<- e']; simp [len]) fun h' ext=>?_);obtain ⟨o,es,ep,ho,c,dd,he,his,nn⟩:=at_;subst e';have isI:∃ oi,s.heap.get? I=some oi/\oi.cls=.type "list_iterator":=by obtain ⟨oi,g1,g2,_⟩:=it; exact ⟨oi,g1,g2⟩
  obtain ⟨oi,gi,ci⟩:=isI;refine aj (au (au (k h' s.toks (fun b o _ nI q=>ext b o nI q) ⟨o,es,ep,ext D o DI ho,c,dd,he,fun x hx=>(his x hx).move fun b ob cb gb=>ext b ob (fun z=>?_) gb,nn⟩)));subst z;rw [gi] at gb;cases gb;rw [ci] at cb;exact absurd cb (by decide)
 | r::todo,done,i,ti,s,e,it,li,at_,keep,k=>by
  have apm:done.length < rows.length:=by rw [e,aQ,length_cons]; omega
  have hr:rows[done.length]?=some r:=by rw [e]; simp
  have hv:its[done.length]?=some its[done.length]:=aG (by omega);obtain ⟨p,op,np,ep,gp,cp,dp⟩:=pr _ _ _ hr hv;rw [ep] at hv;have nd':((done++[r]).map (·.1)).Nodup:=by
   rw [e,show done++r::todo=(done++[r])++todo by simp,aZ,nodup_append] at nd;exact nd.1
  have isI:∃ oi,s.heap.get? I=some oi/\oi.cls=.type "list_iterator":=by obtain ⟨oi,g1,g2,_⟩:=it; exact ⟨oi,g1,g2⟩
  obtain ⟨oi,gi,ci⟩:=isI;have tupI:∀ {b:aA} {o:Obj},o.cls=.type "tuple"->s.heap.get? b=some o->b≠I:=fun {b o} cb gb z=>by
   subst z;rw [gi] at gb;cases gb;rw [ci] at cb;exact absurd cb (by decide)
  refine codeAny_builtin Tg ?_;rw [Around.under_plainId rP _];refine aj (m:=pyNext (.ref I)) (wpAny_pyNext_list_item it li (x:=.ref p) (by simpa using hv) fun h' it' sb=>?_);have M9:∀ b o,o.cls=.type "tuple"->h0.get? b=some o->h'.get? b=some o:=fun b o cb gb=>(sb.2 b (tupI cb (keep b o cb gb))).trans (keep b o cb gb)
  have tyP:(⟨h',s.gens,s.drawn,s.toks,s.os⟩:aX).TypeIs (.ref p) "tuple":=⟨op,M9 p op cp gp,cp⟩;obtain ⟨o,es,en,ho,c,dd,he,his,nn⟩:=at_;have at1:h'.DictOfH (gJ prog w) D done:=⟨o,es,en,(sb.2 D DI).trans ho,c,dd,he,fun x hx=>(his x hx).move fun b ob cb gb=>(sb.2 b (tupI cb gb)).trans gb,nn⟩;have kr:gU prog w h' r.1 r.2.1:=(ky r (by rw [e]; simp)).move M9;refine aj (wpAny_holding (aj (wpAny_tryCatch ?_)));unfold Builtin.Dict.pairItems;refine aj (wpAny_typeOf tyP ?_);rw [if_pos (by decide)];refine aj (wpAny_seqItems (M9 p op cp gp) dp (au ?_))
  show wpAny _ _ (holding [Value.ref r.2.1,r.2.2] (dictSet D (.ref r.2.1) r.2.2)) _ _ _
  refine wpAny_holding (wpAny_dictSet_heap (knd:=gJ prog w) (s:={ s with heap:=h' }) (by show _ + 1 < cLine; first | omega | (simp; omega)) kr at1 (fun g dg sg=>?_) (by omega));rw [storedH_new (Ko nd')] at dg;obtain ⟨od,esd,epd,hod,cod,ddd,hed,aFZ,nnd⟩:=id dg;refine au ⟨plainId_quiet rP _,CJ calm hu DI Dl lI small len pr ky nd todo (done++[r]) _ _ _ (by simp [e]) ?_ ?_ ?_ ?_ fun g' tk' kp fin=>?_⟩
  ·rw [aQ];exact it'.at fun o q=>(sg.2 I (Ne.symm DI)).trans q
  ·exact (li.at fun o q=>(sb.2 l lI).trans q).at fun o q=>(sg.2 l (Ne.symm Dl)).trans q
  ·exact dg
  ·intro b ob cb gb;have g1:=M9 b ob cb gb;have nD:b≠D:=fun z=>by
    subst z;have g2:=(sb.2 b DI).trans ho;rw [g1] at g2;cases g2;rw [c.1] at cb;exact absurd cb (by decide)
   exact (sg.2 b nD).trans g1
  ·exact k g' tk' (fun b o nD nI q=>kp b o nD nI ((sg.2 b nD).trans ((sb.2 b nI).trans q))) fin
end
end
theorem aij:mroOf (.type "dict")=pure [.type "dict",.type "object"]:=(mroOf_type _).trans (by kernel_rfl)
theorem azX:typeLookup (.type "dict") "__new__"=pure (some (.builtin "dict.__new__")):=by
 have e:=typeLookup_type "dict" (Str.ofString "__new__");rw [builtinLookup_eq_fast] at e;exact e.trans (by kernel_rfl)
theorem apE:isSubtype (.type "dict") (.type "dict")=pure true:=(isSubtype_type _ _).trans (by kernel_rfl)
theorem Hg:TypeCalled "dict" "dict.__new__" "dict.__init__" where
 notType:=by decide +kernel
 canCreate:=by decide +kernel
 mro:=⟨_,_,aij⟩
 made:=madeBy_type aij azX (by decide +kernel)
 plain:=by decide +kernel
 sub:=apE
 init:=PySem.F.slot_dict_init
theorem Zc:entryFor table "dict.__new__"=some Builtin.«dict.__new__»:=entryFor_of_tree (by kernel_rfl)
section
variable {prog:cC} {w:World} {A:d7} {E:aB->aX->Prop} {s:aX}
abbrev Hh:Obj:={ cls:=.type "dict",data:=.dict #[] }
theorem Eu (a:aB) {Q:aB->aX->Prop} (q:Q (.ref s.heap.objs.size) { s with heap:=s.heap.push Hh }):codeAny (model prog w) A (.call (.builtin "dict.__new__") ⟨[.type "dict",a],[]⟩) (wants Q E) s:=by
 have f1:=apE; have f2:=aij;have ok:checkBuiltinCall "dict.__new__" ⟨[.type "dict",a],[]⟩=pure ():=by kernel_rfl
 refine codeAny_call_builtin (by decide +kernel) Zc (wpAny_of_eq ok ?_);obtain ⟨hp,gs,dr,tk,os⟩:=s;unfold Builtin.«dict.__new__»
 wp_walk
 exact q
theorem yN {l:aA} {its:List aB} {n:Nat} {sl:Array (Option aB)} {rows:List (NK × aA × aB)} {Q:aB->aX->Prop} (calm:A.handled=none) (hu:A.units + 16 < cLine) (li:s.heap.get? l=some { cls:=.type "list",dict:=none,data:=.seq its.toArray n,slots:=sl }) (small:rows.length<=sizeLine) (len:rows.length=its.length) (pr:∀ (j:Nat) r v,rows[j]?=some r->its[j]?=some v->Km s.heap r v) (ky:∀ r ∈ rows,gU prog w s.heap r.1 r.2.1) (nd:(rows.map (·.1)).Nodup) (k:∀ h' tk,h'.DictOfH (gJ prog w) s.heap.objs.size rows->(∀ b o,s.heap.get? b=some o->h'.get? b=some o)->Q (.ref s.heap.objs.size) { s with heap:=h',toks:=tk }):wpAny (model prog w) A (call (.type "dict") [.ref l]) Q E s:=by
 have yO:checkTypeCall "dict" ⟨[Value.ref l],[]⟩=pure ():=by kernel_rfl
 refine callType_codes (Q₁:=fun obj s₁=>obj=.ref s.heap.objs.size/\s₁={ s with heap:=s.heap.push Hh }) Hg yO PySem.F.entry_dict_init (Eu _ ⟨rfl,rfl⟩) ?_;rintro ob t₁ ⟨rfl,rfl⟩;have hnew:(s.heap.push Hh).DictOfH (gJ prog w) s.heap.objs.size []:=Heap.DictOfH.new s.heap;have YX:(s.heap.push Hh).get? l=some { cls:=.type "list",dict:=none,data:=.seq its.toArray n,slots:=sl }:=aq _ li;have tyL:(⟨s.heap.push Hh,s.gens,s.drawn,s.toks,s.os⟩:aX).TypeIs (.ref l) "list":=⟨_,YX,rfl⟩;refine ⟨hnew.typeIs,PySem.F.args_dict_init_2 _ _,?_⟩;unfold Builtin.«dict.__init__» Builtin.Dict.selfAndRest;refine aj (aj (wpAny_notOrdered_dict hnew.typeIs (au ?_)))
 show wpAny _ _ (Builtin.Dict.updateFrom "dict.__init__" s.heap.objs.size (.ref l) [] .none) _ _ _
 unfold Builtin.Dict.updateFrom; refine aj (wpAny_typeOf tyL ?_);rw [if_pos (by decide)];refine aj (PN YX (by simpa using calm) fun h1 tk1 kp1=>?_);simp only [Option.isNone_none,if_true];have isL:h1.IsList l its.toArray:=⟨_,kp1 _ _ YX,rfl,n,rfl⟩;refine aj (wpAny_rule (aj (wpAny_pyIter_list isL ?_)));have sz:s.heap.objs.size < h1.objs.size:=by
  obtain ⟨o,_,_,ho,_⟩:=hnew;exact Heap.lt_size (kp1 _ _ ho)
 have lt:l < s.heap.objs.size:=Heap.lt_size li;obtain ⟨o,es,ep,ho,c,dd,he,his,nn⟩:=id hnew;have all:∀ b o,s.heap.get? b=some o->(h1.push { cls:=.type "list_iterator",data:=.fields #[.ref l,.int 0 0] }).get? b=some o:=fun b o q=>aq _ (kp1 _ _ (aq _ q))
 refine au ⟨plainId_quiet rP _,CJ (D:=s.heap.objs.size) (I:=h1.objs.size) (l:=l) (its:=its) (rows:=rows) (h0:=s.heap) (by simpa using calm) (by simp; omega) (Nat.ne_of_lt sz) (Nat.ne_of_gt lt) (Nat.ne_of_lt (Nat.lt_trans lt sz)) small len pr ky nd rows [] _ _ _ rfl ⟨_,aN _ rfl,rfl,rfl⟩ ⟨_,all _ _ li,rfl,n,rfl⟩ ?_ (fun b o _ q=>all b o q) fun h' tk keep fin=>⟨rfl,k h' tk fin fun b o q=>?_⟩⟩
 ·exact ⟨o,es,ep,aq _ (kp1 _ _ ho),c,dd,he,(fun x hx=>by cases hx),nn⟩
 ·have below:=Heap.lt_size q;exact keep b o (Nat.ne_of_lt below) (Nat.ne_of_lt (Nat.lt_trans below sz)) (all b o q)
end
end L2
namespace L2
open PySem PySem.Spec PyProof.Rows
def dN (H:Hp) (k:NK) (a:aA):Prop:=∃ s,H a=some (.tup [.int k.1,.ref s])/\H s=some (.tup (k.2.map V.int))
theorem dN.same {H H':Hp} {k:NK} {a:aA} (x:dN H k a) (s:∀ b o,H b=some o->H' b=some o):dN H' k a:=by
 obtain ⟨t,h1,h2⟩:=x;exact ⟨t,s _ _ h1,s _ _ h2⟩
abbrev nH:=NK × aA × V
def qI (p:nH) (q:NK × aA × aB):Prop:=p.1=q.1/\p.2.1=q.2.1/\RelV p.2.2 q.2.2
def sW (P:cC) (w:World) (a:aA) (ks:List nH):HO:=.ext fun h=>∃ (rows:List (NK × aA × aB)) (o:Obj) (es:Array DictEntry) (ep:Nat),Paired qI ks rows/\h.get? a=some o/\o.ExactDict/\o.data=.dict es ep/\es.toList=rows.map (entryOfKey (gJ P w))/\(rows.map (·.1)).Nodup
theorem CK:∀ {ks:List nH} {rows:List (NK × aA × aB)},Paired qI ks rows->rows.map (·.1)=ks.map (·.1)
 | _,_,.nil=>rfl
 | _,_,.cons r t=>by rw [cY,cY,CK t,r.1]
theorem vK:∀ {ks:List nH} {rows:List (NK × aA × aB)} {q:NK × aA × aB},Paired qI ks rows->q ∈ rows->∃ p ∈ ks,qI p q
 | _,_,_,.cons r t,h=>by
  rcases aR.mp h with rfl | hm
  ·exact ⟨_,by simp,r⟩
  ·obtain ⟨p,hp,e⟩:=vK t hm;exact ⟨p,by simp [hp],e⟩
theorem Ew:∀ {ks:List nH} {rows:List (NK × aA × aB)} {i:Nat} {p:nH},Paired qI ks rows->ks[i]?=some p->∃ q,rows[i]?=some q/\qI p q
 | _,_,0,_,.cons r _,e=>by simp at e; subst e; exact ⟨_,rfl,r⟩
 | _,_,i + 1,p,.cons _ t,e=>by
  obtain ⟨q,h1,h2⟩:=Ew (i:=i) (p:=p) t (by simpa using e);exact ⟨q,by simpa using h1,h2⟩
section
variable {X:Cx} {pins:List (aA × Obj)} {σ:St} {H:Hp} {s:aX}
theorem zT {P:cC} {w:World}:∀ {ds:List Int} {us:List aB},Vals (ds.map V.int) us->ItemsAre (intKind P w) ds us
 | [],_,r=>by cases r; exact .nil
 | d::ds,_,r=>by
  cases r with
  | cons r t =>
   obtain ⟨k,rfl⟩:=r;exact .cons (by show Value.isInt d (.int d k)=true; simp [Value.isInt]) (zT t)
theorem dN.at (I:Inv X pins σ H s) {k:NK} {a:aA} (x:dN H k a):gU X.prog X.w s.heap k a:=by
 obtain ⟨b,h1,h2⟩:=x;obtain ⟨its,r,⟨o,g,c,n,d⟩,_⟩:=I.tuple (fj.of (K:=X.K) h1);obtain ⟨its2,r2,⟨o2,g2,c2,n2,d2⟩,_⟩:=I.tuple (fj.of (K:=X.K) h2);cases r with
 | cons r1 r' =>
  cases r' with
  | cons r3 r'' =>
   cases r'';cases r3;obtain ⟨t,rfl⟩:=r1;exact ⟨b,.int k.1 t,o,n,g,c,by simpa using d,(by show Value.isInt k.1 (.int k.1 t)=true; simp [Value.isInt]),o2,its2.toArray,n2,g2,c2,d2,zT r2⟩
theorem Nb (I:Inv X pins σ H s):∀ {ks:List nH} {ps:List aA},ks.length=ps.length->(∀ (j:Nat) r q,ks[j]?=some r->ps[j]?=some q->H q=some (.tup [.ref r.2.1,r.2.2])) -> ∃ rows:List (NK × aA × aB),Paired qI ks rows/\∀ (j:Nat) r q,rows[j]?=some r->ps[j]?=some q->Km s.heap r (.ref q)
 | [],[],_,_=>⟨[],.nil,fun j r q e=>by simp at e⟩
 | [],_::_,z,_=>by simp at z
 | _::_,[],z,_=>by simp at z
 | k::ks,p::ps,z,f=>by
  obtain ⟨rows,pr,at_⟩:=Nb I (ks:=ks) (ps:=ps) (by simpa using z) fun j r q e1 e2=>f (j + 1) r q (by simpa using e1) (by simpa using e2)
  obtain ⟨its,r,⟨o,g,c,n,d⟩,_⟩:=I.tuple (fj.of (K:=X.K) (f 0 k p rfl rfl));cases r with
  | cons r1 r' =>
   cases r' with
   | @cons _ u _ _ r3 r'' =>
    cases r'';cases r1;refine ⟨(k.1,k.2.1,u)::rows,.cons ⟨rfl,rfl,r3⟩ pr,fun j r q e1 e2=>?_⟩;cases j with
    | zero =>
     simp only [List.getElem?_cons_zero,Option.some.injEq] at e1 e2;subst e1 e2;exact ⟨p,o,n,rfl,g,c,by simpa using d⟩
    | succ j=>exact at_ j r q (by simpa using e1) (by simpa using e2)
theorem Kp (hc:X.calm=true) (hu:X.A.units + 64 < cLine):jH X (.type "dict") (fun xs H Q=>∃ (p:aA) (ps:List aA) (ks:List nH),xs=[.ref p]/\H p=some (.lst (ps.map V.ref))/\ks.length=ps.length /\ (∀ (j:Nat) r q,ks[j]?=some r->ps[j]?=some q->H q=some (.tup [.ref r.2.1,r.2.2]))/\(∀ r ∈ ks,dN H r.1 r.2.1)/\(ks.map (·.1)).Nodup/\∀ l,H l=none->Q (.ref l) (upd H l (sW X.prog X.w l ks))):=by
 intro pins s σ H xs us Q I r h;obtain ⟨p,ps,ks,rfl,hp,hl,hr,hk,nd,q⟩:=h;obtain ⟨u,rfl,rx⟩:=Vals.one r;cases rx;obtain ⟨z,its,n,rv,gp⟩:=(show gD X.prog X.w H s.heap p (.lst (ps.map V.ref)) from I.hok p _ hp);have ei:its=ps.map Value.ref:=by
  clear hr hl gp z hp
  induction ps generalizing its with
  | nil=>cases rv; rfl
  | cons a ps ih =>
   cases rv with
   | cons r1 r2=>cases r1; rw [cY,<- ih _ r2]
 obtain ⟨rows,pr,at_⟩:=Nb I hl hr;have lr:ks.length=rows.length:=Paired.length pr;rw [ak] at z;refine yN (its:=its) (rows:=rows) (n:=n) (sl:=#[]) (I.ok.hd hc) (by omega) gp (by omega) (by rw [ei,ak]; omega) (fun j r v e1 e2=>?_) (fun r m=>?_) (by rw [CK pr]; exact nd) fun h' tk dn keep=>?_
 ·rw [ei,aJ] at e2;obtain ⟨b,hb,rfl⟩:=bh.mp e2;exact at_ j r b e1 hb
 ·obtain ⟨p',hp',e1,e2,_⟩:=vK pr m;rw [<- e1,<- e2];exact (hk p' hp').at I
 ·obtain ⟨o,es,ep,ho,c,dd,he,_,nn⟩:=dn;refine ⟨.ref s.heap.objs.size,_,I.laid (a:=s.heap.objs.size) (o:=sW X.prog X.w s.heap.objs.size ks) keep (aO _) ?_,rfl,q _ (I.hok.fresh (aO _))⟩;refine ⟨⟨rows,o,es,ep,pr,ho,c,dd,he,nn⟩,⟨o,ho⟩,fun h1 h2 x k=>?_⟩;obtain ⟨Ti,o',es',ep',pr',ho',more⟩:=x;exact ⟨Ti,o',es',ep',pr',k o' ho',more⟩
def apF (P:cC) (w:World):R2:=fun x y H Q=>∃ (D:aA) (ks:List nH) (a:aA) (k:NK) (j:Nat) (r:nH),x=.ref D/\y=.ref a/\H D=some (sW P w D ks)/\(∀ r ∈ ks,dN H r.1 r.2.1)/\dN H k a/\ks[j]?=some r/\r.1=k/\Q r.2.2 H
theorem Tj (hu:X.A.units + 64 < cLine):IxR X (apF X.prog X.w):=by
 intro value slice pins s σ H x y v u Q I rx ry h hs;obtain ⟨D,ks,a,k,j,r,rfl,rfl,hD,hk,ka,hj,er,q⟩:=h;cases rx;cases ry;obtain ⟨⟨rows,o,es,ep,pr,ho,c,dd,he,nn⟩,_⟩:=(show gD X.prog X.w H s.heap D (sW X.prog X.w D ks) from I.hok D _ hD);obtain ⟨q',hq',e1,e2,rv⟩:=Ew pr hj;have dn:s.heap.DictOfH (gJ X.prog X.w) D rows:=⟨o,es,ep,ho,c,dd,he,fun x m=>by
  obtain ⟨p',hp',f1,f2,_⟩:=vK pr m;rw [<- f1,<- f2];exact (hk p' hp').at I,nn⟩
 have at_:atKey rows k=some q'.2:=atKey_of_get nn (by rw [hq',<- er,e1]);refine subscriptTail_builtinR (x:=q'.2.2) dn.typeIs slot_dict_getitem.lookup (wpAny_getItem_heap (Q:=fun r s'=>r=q'.2.2/\EP X pins σ Q r s') (knd:=gJ X.prog X.w) (by show _ + 1 < cLine; simp; omega) (ka.at I) dn at_ ⟨rfl,⟨_,H,I.tok _,rv,q⟩⟩) hs
end
def iu (P:cC) (w:World) (a:aA) (ks:List nH):HO:=.ext fun h=>(a == sysModules)=false/\∃ (rows:List (NK × aA × aB)) (o:Obj) (es:Array DictEntry) (ep:Nat),Paired qI ks rows/\h.get? a=some o/\o.ExactDict/\o.data=.dict es ep/\es.toList=rows.map (entryOfKey (gJ P w))/\(rows.map (·.1)).Nodup
theorem abp {P:cC} {w:World} {H:Hp} {h:Heap} {a:aA} {ks:List nH} {rows:List (NK × aA × aB)} (hs:(a == sysModules)=false) (pr:Paired qI ks rows) (x:∃ o es ep,h.get? a=some o/\o.ExactDict/\o.data=.dict es ep/\es.toList=rows.map (entryOfKey (gJ P w))/\(rows.map (·.1)).Nodup):gD P w H h a (iu P w a ks):=by
 obtain ⟨o,es,ep,ho,c,d,e,nd⟩:=x;refine ⟨⟨hs,rows,o,es,ep,pr,ho,c,d,e,nd⟩,⟨o,ho⟩,fun h1 h2 y k=>?_⟩;obtain ⟨y0,Ti,o',es',ep',pr',ho',more⟩:=y;exact ⟨y0,Ti,o',es',ep',pr',k o' ho',more⟩
section
variable {X:Cx} {pins:List (aA × Obj)} {σ:St} {H:Hp} {s:aX}
theorem Inv.PX (I:Inv X pins σ H s):sysModules < s.heap.objs.size:=Nat.lt_trans (by decide) (show mainGlobals < s.heap.objs.size from (I.mod.glob.keeps I.bk).lt)
theorem Tn {pos:Pos} (P:cC) (w:World) (hP:autoParam (X.prog=P) zau0) (hw:autoParam (X.w=w) zau0):PE X (.Dict [] [] pos) (fun _ H Q=>∀ p,H p=none->Q (.ref p) (upd H p (iu P w p []))):=by
 subst hP hw;intro pins s σ H Q I h;exact wpAny_Dict_empty ⟨.ref s.heap.objs.size,_,I.laid (a:=s.heap.objs.size) (o:=iu X.prog X.w s.heap.objs.size []) (t':=s.toks) (fun _ _ q=>aq _ q) (aO _) (abp (beq_eq_false_iff_ne.mpr (Ne.symm (Nat.ne_of_lt I.PX))) .nil ⟨_,#[],0,aN _ rfl,⟨rfl,rfl,rfl⟩,rfl,rfl,nodup_nil⟩),rfl,h _ (I.hok.fresh (aO _))⟩
theorem Tp (I:Inv X pins σ H s) {D:aA} {ks:List nH} (hD:H D=some (iu X.prog X.w D ks)) (hk:∀ r ∈ ks,dN H r.1 r.2.1):(D == sysModules)=false/\∃ rows,Paired qI ks rows/\s.heap.DictOfH (gJ X.prog X.w) D rows:=by
 obtain ⟨⟨hs,rows,o,es,ep,pr,ho,c,dd,he,nn⟩,_⟩:=(show gD X.prog X.w H s.heap D (iu X.prog X.w D ks) from I.hok D _ hD);refine ⟨hs,rows,pr,o,es,ep,ho,c,dd,he,fun x m=>?_,nn⟩;obtain ⟨p',hp',f1,f2,_⟩:=vK pr m;rw [<- f1,<- f2];exact (hk p' hp').at I
theorem Kq:∀ {ks:List nH} {rows:List (NK × aA × aB)} {k:NK},Paired qI ks rows->(atKey rows k).isSome=ks.any fun r=>decide (r.1=k)
 | _,_,_,.nil=>rfl
 | _,_,k,.cons (a:=p) (b:=q) r t=>by
  have ih:=Kq (k:=k) t;rw [any_cons,<- ih];unfold atKey;rw [List.find?_cons];have e:p.1=q.1:=r.1
  by_cases z:q.1=k
  ·have z':p.1=k:=e.trans z;simp [z,z']
  ·have z':¬ p.1=k:=fun y=>z (e.symm.trans y)
   simp [z,z']
def Zd (P:cC) (w:World):R2:=fun x y H Q=>∃ (D:aA) (ks:List nH) (a:aA) (k:NK),x=.ref a/\y=.ref D/\H D=some (iu P w D ks)/\(∀ r ∈ ks,dN H r.1 r.2.1)/\dN H k a/\Q (.bl (!(ks.any fun r=>decide (r.1=k)))) H
theorem P0 (P:cC) (w:World) (hu:X.A.units + 64 < cLine) (hP:autoParam (X.prog=P) zau0) (hw:autoParam (X.w=w) zau0):pB X (compareOp .NotIn) (Zd P w):=by
 subst hP hw;intro pins s σ H x y v u Q I rx ry h;obtain ⟨D,ks,a,k,rfl,rfl,hD,hk,ka,q⟩:=h;cases rx;cases ry;obtain ⟨hs,rows,pr,dd⟩:=Tp I hD hk;refine wpAny_notIn_heap (knd:=gJ X.prog X.w) (by show _ + 1 < cLine; simp; omega) (ka.at I) hs dd ?_;rw [Kq pr];exact ⟨.bl _,H,I.tok _,rfl,q⟩
def apG (P:cC) (w:World):Ow:=fun o i v H Q=>∃ (D:aA) (ks:List nH) (a:aA) (k:NK),o=.ref D/\i=.ref a/\H D=some (iu P w D ks)/\(∀ r ∈ ks,dN H r.1 r.2.1)/\dN H k a/\(∀ r ∈ ks,r.1≠k)/\ks.length<=sizeLine/\Q (upd H D (iu P w D (ks++[(k,a,v)])))
theorem Qa (P:cC) (w:World) (hu:X.A.units + 64 < cLine) (hP:autoParam (X.prog=P) zau0) (hw:autoParam (X.w=w) zau0):Yr X (apG P w):=by
 subst hP hw;intro pins s σ H o i v ov iv u Q I ro ri rv h;obtain ⟨D,ks,a,k,rfl,rfl,hD,hk,ka,nk,lz,q⟩:=h;cases ro;cases ri;obtain ⟨hs,rows,pr,dd⟩:=Tp I hD hk;have lr:ks.length=rows.length:=Paired.length pr;have none_:atKey rows k=none:=by
  have:=Kq (k:=k) pr;cases e:atKey rows k with
  | none=>rfl
  | some z =>
   rw [e] at this;have t:=this.symm;rw [show (some z).isSome=true from rfl,List.any_eq_true] at t;obtain ⟨r,hr,er⟩:=t;exact absurd (of_decide_eq_true er) (nk r hr)
 refine wpAny_setItem_heap (knd:=gJ X.prog X.w) (by show _ + 1 < cLine; simp; omega) (ka.at I) dd (fun h' dd' sb=>?_) (by omega);have st:storedH rows k a u=rows++[(k,a,u)]:=by
  unfold storedH;rw [none_];rfl
 rw [st] at dd';obtain ⟨o',es,ep,ho,c,de,he,_,nn⟩:=dd';refine ⟨_,I.write (x:=D) (e:=D) (o:=iu X.prog X.w D (ks++[(k,a,v)])) (by rw [hD]; trivial) (.inl rfl) (fun b z nb e=>(sb.2 b nb).trans e) ⟨_,ho⟩ (abp hs (Paired.snoc pr ⟨rfl,rfl,rv⟩) ⟨o',es,ep,ho,c,de,he,nn⟩),q⟩
def azZ (P:cC) (w:World):R2:=fun x y H Q=>∃ (D:aA) (ks:List nH) (a:aA) (k:NK) (j:Nat) (r:nH),x=.ref D/\y=.ref a/\H D=some (iu P w D ks)/\(∀ r ∈ ks,dN H r.1 r.2.1)/\dN H k a/\ks[j]?=some r/\r.1=k/\Q r.2.2 H
theorem Tt (P:cC) (w:World) (hu:X.A.units + 64 < cLine) (hP:autoParam (X.prog=P) zau0) (hw:autoParam (X.w=w) zau0):IxR X (azZ P w):=by
 subst hP hw;intro value slice pins s σ H x y v u Q I rx ry h hs;obtain ⟨D,ks,a,k,j,r,rfl,rfl,hD,hk,ka,hj,er,q⟩:=h;cases rx;cases ry;obtain ⟨_,rows,pr,dd⟩:=Tp I hD hk;obtain ⟨q',hq',e1,e2,rv⟩:=Ew pr hj;have nn:(rows.map (·.1)).Nodup:=by
  obtain ⟨_,_,_,_,_,_,_,_,nn⟩:=dd;exact nn
 have at_:atKey rows k=some q'.2:=atKey_of_get nn (by rw [hq',<- er,e1]);refine subscriptTail_builtinR (x:=q'.2.2) dd.typeIs slot_dict_getitem.lookup (wpAny_getItem_heap (Q:=fun r s'=>r=q'.2.2/\EP X pins σ Q r s') (knd:=gJ X.prog X.w) (by show _ + 1 < cLine; simp; omega) (ka.at I) dd at_ ⟨rfl,⟨_,H,I.tok _,rv,q⟩⟩) hs
end
section
variable {X:Cx}
theorem Tv:aoZ X (fun o i H Q=>∃ (p:aA) (xs:List V) (k:Nat) (v:V),o=.ref p/\i=.int (k:Int)/\cU X.K H p xs/\xs[k]?=some v/\Q v H):=by
 intro pins s σ H o i ov iv Q I ro ri h;obtain ⟨p,xs,k,v,rfl,rfl,hq,he,q⟩:=h;cases ro;obtain ⟨t,rfl⟩:=ri;obtain ⟨its,r,pl,hz⟩:=I.list hq;obtain ⟨w,ew,rw'⟩:=r.get he;have lt:=(aF.mp he).1;have hn:=tH;exact wpAny_getItem_list pl.isList (Int.natCast_nonneg k) (by omega) (by rw [cQ]; simpa using ew) ⟨v,H,I,rw',q⟩
theorem Tz {K:Fg} {l:aA} {xs:List V} {g:TG} {tb:TS} {D:Ends} {σ:St} {H:Hp} (Pv:Nat->St->Hp->Prop) (h0:Pv 0 σ H) (hl:∀ i σ H,i<=xs.length->Pv i σ H->cU K H l xs) (hs:∀ i x T σ H,xs[i]?=some x->Pv i σ H->H T=none->g (.ref T) σ (upd H T (.tup [.int (i:Nat),x])) fun σ2 H2=>tb { D with nx:=Pv (i + 1),ct:=Pv (i + 1),bk:=D.nx } σ2 H2) (hd:∀ σ H,Pv xs.length σ H->D.nx σ H) : ∃ W:Nat->Nat->St->Hp->Prop,(∃ k,W 0 k σ H)/\∀ i k σ H,W i k σ H -> ((Ite K l).stop i H/\D.nx σ H)\/((Ite K l).go i H/\∃ N:St->Hp->Prop,(∀ σ' H',N σ' H'->∃ k',k' < k/\W (i + 1) k' σ' H')/\∀ x H',(Ite K l).Rw i H x H'->g x σ H' fun σ2 H2=>tb { D with nx:=N,ct:=N,bk:=D.nx } σ2 H2):=by
 refine ⟨fun i k σ H=>k=xs.length - i/\i<=xs.length/\Pv i σ H,⟨xs.length,by simp,dG _,h0⟩,?_⟩;rintro i k σ H ⟨rfl,hi,p⟩;have sq:=hl i σ H hi p
 by_cases lt:i < xs.length
 ·have hx:xs[i]?=some xs[i]:=aG lt;refine .inr ⟨⟨xs,xs[i],sq,hx⟩,Pv (i + 1),fun σ' H' p'=>⟨xs.length - (i + 1),by omega,rfl,lt,p'⟩,fun x H' y=>?_⟩;obtain ⟨T,hT,rfl,y⟩:=y;rw [y xs xs[i] sq hx];exact hs i xs[i] T σ H hx p hT
 ·have e:i=xs.length:=by omega
  subst e;exact .inl ⟨⟨xs,sq,aO _⟩,hd σ H p⟩
end
section
variable {X:Cx}
theorem CN:∀ {ns:List Int} {us:List aB},Vals (ns.map V.int) us->numsOf us=ns/\∀ v ∈ us,∃ a t,v=Value.int a t
 | [],_,.nil=>⟨rfl,fun v hv=>by cases hv⟩
 | n::ns,_,.cons r t=>by
  obtain ⟨h1,h2⟩:=CN (ns:=ns) t;obtain ⟨tk,rfl⟩:=r;refine ⟨by show n::numsOf _=_; rw [h1],fun v hv=>?_⟩;rcases aR.mp hv with rfl | hm
  ·exact ⟨_,_,rfl⟩
  ·exact h2 v hm
theorem Qd (hc:X.calm=true):jH X (.builtin "max") (fun xs H Q=>∃ (p:aA) (ns:List Int),xs=[.ref p]/\cU X.K H p (ns.map V.int)/\ns≠[]/\∀ M,M ∈ ns->(∀ n ∈ ns,n<=M)->Q (.int M) H):=by
 intro pins s σ H xs us Q I r h;obtain ⟨p,ns,rfl,sq,ne,q⟩:=h;obtain ⟨u,rfl,rx⟩:=Vals.one r;cases rx;obtain ⟨its,rv,pl,_⟩:=I.list sq;obtain ⟨e1,e2⟩:=CN rv;obtain ⟨ys,ey⟩:=AllInts.items (vs:=its.toArray) fun v hv=>e2 v (by simpa using hv)
 have en:ys.toList.map (·.1)=ns:=by
  rw [<- nums_intItems,<- ey,<- e1]
 have ly:ys.size=ns.length:=by rw [<- en]; simp
 have pos:0 < ys.size:=by rw [ly]; exact List.length_pos_iff.mpr ne
 have at_:∀ k,k < ys.size->numAt ys k ∈ ns:=fun k lt=>by
  rw [<- en];refine bx.mpr ⟨ys[k],by simp,?_⟩;unfold numAt;rw [Array.getElem?_eq_getElem lt];rfl
 refine max_intList (I.ok.hd hc) (by rw [<- ey]; exact pl.isList) pos fun v h' tk hv hk=>?_
 obtain ⟨tv,rfl⟩:=intItems_at hv;obtain ⟨h1,h2⟩:=argBest_gt (numAt ys) (ys.size - 1);refine ⟨.int _,H,I.kept (h':=h') (t':=tk) hk,⟨tv,rfl⟩,q _ (at_ _ (by omega)) fun n hn=>?_⟩;rw [<- en] at hn;obtain ⟨y,hy,rfl⟩:=bx.mp hn;obtain ⟨k,hk,ek⟩:=List.mem_iff_getElem.mp hy;have lk:k < ys.size:=by simpa using hk
 have e3:numAt ys k=y.1:=by
  unfold numAt;rw [Array.getElem?_eq_getElem lk];have:ys[k]=y:=by rw [<- ek]; simp
  rw [this];rfl
 rw [<- e3];exact h2 k (by omega)
theorem Hi (K:Fg) (hK:autoParam (X.K=K) zau0):IxR X (ao9 K):=by
 subst hK;exact gO
theorem zc (K:Fg) (hK:autoParam (X.K=K) zau0):IxR X (apa K):=by
 subst hK;exact dM
end
section
variable {X:Cx} {pins:List (aA × Obj)} {σ:St} {H:Hp} {s:aX}
theorem Inv.grown {P:aA} {ps more:Array aB} {h':Heap} {t':Nat} (I:Inv X pins σ H s) (hP:H P=some (.yd ps)) (k:∀ b u,b≠P->s.heap.get? b=some u->h'.get? b=some u) (new:h'.get? P=some { cls:=.none,data:=.fields (ps++more) }) : Inv X pins σ (upd H P (.yd (ps++more))) { s with heap:=h',toks:=t' }:=by
 have ne:∀ b,H b=none->b≠P:=fun b e z=>by rw [z,hP] at e; cases e
 refine I.un (t':=t') ⟨fun b o e n _ _=>k b o (ne b n) e,fun b o e n _ _=>⟨o.slots,k b o (ne b n) e⟩,fun b o e n _=>by rw [bf (ne b n)]; exact n,fun b o e _=>?_,fun b xs e=>?_,fun b o u e=>?_,fun b qs e=>?_⟩ fun b u e=>?_
 ·by_cases z:b=P
  ·rw [z]; exact ⟨_,new⟩
  ·exact ⟨o,k b o z e⟩
 ·rw [bf (fun z=>by rw [z,hP] at e; cases e)]; exact e
 ·rw [bf (fun z=>by rw [z,hP] at e; cases e)]; exact e
 ·by_cases z:b=P
  ·subst z;rw [hP] at e;cases e;exact ⟨more,aD⟩
  ·exact ⟨#[],by rw [bf z,e]; simp⟩
 ·by_cases z:b=P
  ·subst z;rw [aD] at e;cases e;exact new
  ·rw [bf z] at e;refine (I.hok b u e).stay (fun c v hc q=>k c v ?_ q) (fun c q=>by rw [bf (fun z=>by rw [z,hP] at q; cases q)]; exact q) fun c xs q=>by rw [bf (fun z=>by rw [z,hP] at q; cases q)]; exact q
   rcases hc with rfl | hc
   ·exact z
   ·intro y;rw [y,hP] at hc;cases hc
def sX (c:aA) (qual:Str):HO:=.ext fun h=>h.CodeRec (.ref c) qual
theorem Ze {P:cC} {w:World} {H:Hp} {h:Heap} {c:aA} {qual:Str} (x:h.CodeRec (.ref c) qual):gD P w H h c (sX c qual):=by
 refine ⟨x,?_,fun h1 h2 y k=>?_⟩
 ·obtain ⟨c',oc,vs,tq,e,ho,_⟩:=x;cases e;exact ⟨oc,ho⟩
 ·obtain ⟨c',oc,vs,tq,e,ho,r⟩:=y;cases e;exact ⟨c,oc,vs,tq,rfl,k oc ho,r⟩
def jV (P:aA) (pos:Pos) (qual:Str) (H:Hp):Prop:=∃ ps:Array aB,H P=some (.yd ps)/\TriplesOk ps.toList/\(codeAmong pos ps.toList=none\/∃ c,codeAmong pos ps.toList=some (.ref c)/\H c=some (sX c qual))
def jw (P:aA) (H H':Hp):Prop:=∀ b o,b≠P->H b=some o->H' b=some o
theorem jw.refl {P:aA} {H:Hp}:jw P H H:=fun _ _ _ e=>e
theorem jw.trans {P:aA} {H H1 H2:Hp} (x:jw P H H1) (y:jw P H1 H2):jw P H H2:=fun b o n e=>y b o n (x b o n e)
theorem TF {A:d7} {E:aB->aX->Prop} {params:Arguments} {body:Expr} {scope:Scope} {pos:Pos} {cl:List (Str × aA)} {c P:aA} {qual:Str} {Q:aB->aX->Prop} (I:Inv X pins σ H s) (hdef:defaultsOf params X.env=([],[])) (hcl:closureFor scope X.env=pure cl) (hcode:X.env.code=.ref c) (C:CodeHd X.base c P) (hB:X.base.BuiltinsAt X.mg P) (hex:X.ex=[]) (T:jV P pos qual H) (hq:X.env.qual++"<lambda>"=qual) (k:∀ (f c':aA) (ctv pm:aB) (h':Heap) (tk:Nat) (H':Hp),s.heap.objs.size<=f->jw P H H'->jV P pos qual H'->H' c'=some (sX c' qual)->H' f=none->Inv X pins σ H' { s with heap:=h',toks:=tk } -> h'.get? f=some (kla_obj "<lambda>" qual params body scope cl pm c' ctv)->Q (.ref f) { s with heap:=h',toks:=tk }) : wpAny (model X.prog X.w) A (eval (.Lambda params body scope pos) X.env) Q E s:=by
 obtain ⟨ps,hP,ht,hit⟩:=T;subst hq;have hPo:s.heap.get? P=some { cls:=.none,data:=.fields ps }:=I.hok P _ hP;have hgl:=I.ok.mod.glob;have ngP:mainGlobals≠P:=fun z=>by
  obtain ⟨o,_,_,e,_⟩:=hgl;have:=(I.bs _ _ e).2;rw [z,hP] at this;cases this
 have hBs:s.heap.BuiltinsAt X.mg P:=by
  obtain ⟨bm,o,h1,h2,h3,h4,h5,h6⟩:=hB;exact ⟨bm,o,h1,h2,h3,h4,I.bk _ _ h5,h6⟩
 have hg:s.heap.Ns mainGlobals X.mg:=hgl.keeps I.bk;have Cs:=C.keeps I.bk;refine PySem.W.kla_eval hdef ?_;rcases hit with miss | ⟨c1,hf,hc1⟩
 ·refine PySem.W.kla_makeFunction (mg:=X.mg) hcl I.ok.glob hg hcode Cs hPo ht miss ngP hBs fun c' ctv h' tk hx ge lt hrec htb=>?_
  have ncP:c'≠P:=fun z=>cR _ (bA (Heap.lt_size hPo) (by rw [<- z]; exact ge))
  have hn:H c'=none:=I.hok.fresh ge;have I1:=I.grown (h':=h') (t':=tk) (more:=#[rawInt pos.line,rawInt pos.col,.ref c']) hP (fun b u nb e=>hx b u nb e) htb;have fpc:=I.zA (H':=upd H P (.yd (ps++#[rawInt pos.line,rawInt pos.col,.ref c']))) ge (by rw [bf ncP]; exact hn);have hnx:c' ∉ X.ex:=by rw [hex]; simp
  have I2:=I1.adopt (b:=c') (o:=sX c' (X.env.qual++"<lambda>")) ⟨fpc.1,fpc.2.1,fpc.2.2.1,fun _=>Heap.get?_none_of_le (bJ I.sz ge),fpc.2.2.2.2.1,fpc.2.2.2.2.2⟩ hnx (Ze hrec);have I3:Inv X pins σ _ { s with heap:=h'.push _,toks:=tk }:=I2.kept (t':=tk) (h':=h'.push (kla_obj "<lambda>" (X.env.qual++"<lambda>") params body scope cl ((X.mg "__name__").getD .none) c' ctv)) fun b u e=>aq _ e
  refine k h'.objs.size c' ctv _ _ tk _ (by omega) (fun b o nb e=>?_) ⟨_,by rw [bf (Ne.symm ncP),aD],by simpa using TriplesOk_snoc _ _ _ _ ht,.inr ⟨c',by simpa using codeAmong_snoc _ ht miss,aD⟩⟩ aD ?_ I3 (aN _ rfl)
  ·rw [bf (dw e hn),bf nb]; exact e
  ·exact I2.hok.fresh (aO _)
 ·refine PySem.W.kla_makeFunctionHit (mg:=X.mg) hcl I.ok.glob hg hcode Cs hPo ht hf hBs fun ctv h' tk kp sz=>?_
  have I3:Inv X pins σ H { s with heap:=h'.push _,toks:=tk }:=I.kept (t':=tk) (h':=h'.push (kla_obj "<lambda>" (X.env.qual++"<lambda>") params body scope cl ((X.mg "__name__").getD .none) c1 ctv)) fun b u e=>aq _ (kp b u e)
  exact k h'.objs.size c1 ctv _ _ tk H sz jw.refl ⟨ps,hP,ht,.inr ⟨c1,hf,hc1⟩⟩ hc1 (I.hok.fresh sz) I3 (aN _ rfl)
noncomputable abbrev Nf (X:Cx) (A:d7) (qual:Str) (scope:Scope) (cl:List (Str × aA)) (f:aA) (cd:aB) (N':List Str) (s₀:aX) (H₀:Hp) (E':aB->aX->Prop):Cx := { X with A:=A.deeper (envX qual scope s₀.heap.objs.size f cd cl),N:=N',s₀:=s₀,H₀:=H₀,env:=envX qual scope s₀.heap.objs.size f cd cl,outer:=X.stack,stack:=envX qual scope s₀.heap.objs.size f cd cl::X.stack,ex:=[],fn:=fun _=>false,pn:=[],xe:=E' }
structure CP (X:Cx) (scope:Scope) (cl:List (Str × aA)) (x:Str) (N':List Str) (cap:List (Option Nat)):Prop where
 kind:scope.kind=.function
 co:scope.isCoroutine=false
 gen:scope.isGenerator=false
 qz:∀ y ∈ scope.names,y.2≠.cell
 par:scope.names.lookup x=some .local
 sub:∀ n c,cl.lookup n=some c->X.env.cells.lookup n=some c
 has:∀ n,scope.names.lookup n=some .free->∃ c,cl.lookup n=some c
 len:cap.length=N'.length
 ah2:∀ (i j:Nat) (y:Str),cap[i]?=some (some j)->N'[i]?=some y->X.N[j]?=some y/\X.env.scope.names.lookup y=some .cell/\scope.names.lookup y=some .free
theorem Zf {A:d7} {E:aB->aX->Prop} {params:Arguments} {body:Expr} {scope:Scope} {cl:List (Str × aA)} {f c':aA} {qual x:Str} {ctv pm u:aB} {v:V} {N':List Str} {cap:List (Option Nat)} {tb:TE} {Q:VK} (I:Inv X pins σ H s) (L:CP X scope cl x N' cap) (hb:∀ f cd s₀ H₀ E',PE (Nf X A qual scope cl f cd (x::N') s₀ H₀ E') body tb) (hA:A.frames=some X.stack) (hh:X.calm=true->A.handled=none) (room:A.depth < recursionLimit) (ho:s.heap.get? f=some (kla_obj "<lambda>" qual params body scope cl pm c' ctv)) (hcd:s.heap.CodeRec (.ref c') qual) (hbind:bindArgs (kla_fn "<lambda>" qual params body scope cl pm (.ref c') ctv) ⟨[u],[]⟩=pure [(x,u)]) (r:RelV v u) (h:tb (some v::jy cap σ) H Q):wpAny (model X.prog X.w) A (call (.ref f) [u]) (EP X pins σ Q) E s:=by
 refine wpAny_call (PySem.W.kla_callFunE room ho rfl L.co L.gen rfl hcd ?_);rw [hbind];refine au (wpAny_newFunctionEnv L.qz (fun y hy=>by rw [aC.mp hy]; exact L.par) (fun h₁ hns hsb=>⟨I.nolimit.fresh _ hsb,?_⟩) L.kind);have hk:∀ b o,s.heap.get? b=some o->h₁.get? b=some o:=fun b o e=>hsb.extBut b o (Nat.ne_of_lt (Heap.lt_size e)) (aq _ e)
 have Qf:∀ (y:Str),scope.names.lookup y=some .cell->False:=fun y e=>L.qz _ (PySem.mem_of_lookup e) rfl
 refine PySem.W.kla_codeExpr (R:=fun r s'=>match r with | .ok (.ret v)=>EP X pins σ Q v s' | .ok _=>False | .error e=>E e s') ?_;have J:Inv (Nf X A qual scope cl f (.ref c') (x::N') s H fun e' s'=>wpAny (model X.prog X.w) (A.deeper (envX qual scope s.heap.objs.size f (.ref c') cl)) (leaving (envX qual scope s.heap.objs.size f (.ref c') cl) e') (fun _ s''=>E e' s'') (fun e'' s''=>E e'' s'') s') [] (some v::jy cap σ) H { s with heap:=h₁,toks:=s.toks + 1 }:=by
  refine ⟨⟨I.ok.mod,L.kind,rfl,rfl,aO _,fun y z c e1 e2=>I.ok.inj y z c (L.sub _ _ e1) (L.sub _ _ e2),fun y hy=>?_,(fun y c e=>nomatch e),hh,Around.frames_deeper hA,.inr ⟨rfl,rfl⟩,(fun b hb=>nomatch hb),I.bs,bJ I.ok.Ot I.sz,(fun b o e z=>nomatch z),(fun b hb=>nomatch hb),I.stack,I.yR⟩,rfl,I.bare,Un.kept hk,⟨_,hns,fun i y z e1 e2 e3=>?_⟩,fun y c e=>?_,I.hok.fresh (aO _),fun y c e=>I.jY y c (L.sub _ _ e),(fun p hp=>nomatch hp),I.hok.kept hk,?_⟩
  ·have hy:scope.names.lookup y=some .cell\/scope.names.lookup y=some .free:=hy;rcases hy with hy | hy
   ·exact (Qf y hy).elim
   ·exact L.has y hy
  ·cases i with
   | zero =>
    have e1:some x=some y:=e1;have e2:some (some v)=some (some z):=e2;cases e1;cases e2;exact ⟨u,r,.inl ⟨L.par,by simp⟩⟩
   | succ i =>
    have e1:N'[i]?=some y:=e1;have e2:(jy cap σ)[i]?=some (some z):=e2;unfold jy at e2;rw [aJ] at e2;obtain ⟨o,ho',eo⟩:=bh.mp e2;cases o with
    | none=>cases eo
    | some j =>
     have ez:(σ[j]?).join=some z:=eo;have e4:σ[j]?=some (some z):=by
      cases w:σ[j]? with
      | none=>rw [w] at ez; cases ez
      | some yy=>rw [w] at ez; exact congrArg some ez
     obtain ⟨g1,g2,g3⟩:=L.ah2 i j y ho' e1;obtain ⟨m,_,hl⟩:=I.loc;obtain ⟨uz,rz,l⟩:=hl j y z g1 e4 (.inr (.inl g2));rcases l with ⟨l,_⟩ | ⟨_,c,l,q⟩
     ·have l':X.env.scope.names.lookup y=some .local:=l;rw [g2] at l';cases l'
     ·obtain ⟨c2,hc2⟩:=L.has y g3;have:=L.sub _ _ hc2;rw [l] at this;cases this;exact ⟨uz,rz,.inr ⟨.inr g3,c,hc2,q.keeps hk⟩⟩
  ·obtain ⟨w,q⟩:=I.cell y c (L.sub _ _ e);exact ⟨w,q.keeps hk⟩
  ·show _=(x::N').length
   rw [length_cons,length_cons];unfold jy;rw [ak,L.len]
 refine eU (hb f (.ref c') s H _ [] _ _ H Q J h) (fun y s' hy=>?_) fun e s' he=>he
 obtain ⟨z,H',J',rz,q⟩:=hy;exact ⟨z,H',I.call' (ch:=[]) J'.os J'.base J'.hok J'.bare (fun b hb=>nomatch hb),rz,q⟩
end
theorem Zg (a u d:aB):argsOk "max" ⟨[a],[(Str.ofString "key",u),(Str.ofString "default",d)]⟩:=by unfold argsOk; kernel_rfl
def TJ (vs:List V) (kf:Nat->Int) (j:Nat) (B:Array aB):Prop := (j=0/\B=#[])\/∃ i u t v,B=#[u,.int (kf i) t]/\vs[i]?=some v/\RelV v u/\i < j/\∀ j',j' < j->kf j'<=kf i/\(j' < i->kf j' < kf i)
theorem Ey:(toString "max"++toString ".loop":String)="max.loop":=rfl
section
variable {X:Cx} {pins:List (aA × Obj)} {σ:St} {E:aB->aX->Prop} {Q:VK} {l I S f c':aA} {params:Arguments} {body:Expr} {scope:Scope} {cl:List (Str × aA)} {qual x:Str} {ctv pm:aB} {N':List Str} {cap:List (Option Nat)} {tb:TE}
variable {vs:List V} {kf:Nat->Int} {J:Nat->Hp->Prop}
abbrev TQ (X:Cx) (pins:List (aA × Obj)) (σ:St) (Q:VK) (E:aB->aX->Prop):Result->aX->Prop:=fun r s'=>match r with | .ok (.ret v)=>EP X pins σ Q v s' | .ok _=>False | .error e=>E e s'
theorem Qg (hc:X.calm=true) (L:CP X scope cl x N' cap) (hb:∀ f cd s₀ H₀ E',PE (Nf X X.A.in1 qual scope cl f cd (x::N') s₀ H₀ E') body tb) (room:X.A.depth < recursionLimit) (hbind:∀ u,bindArgs (kla_fn "<lambda>" qual params body scope cl pm (.ref c') ctv) ⟨[u],[]⟩=pure [(x,u)]) (IS:I≠S) (hL:∀ j H',J j H'->cU X.K H' l vs) (hC:∀ j H',J j H'->H' c'=some (sX c' qual)) (step:∀ j v H',vs[j]?=some v->J j H'->tb (some v::jy cap σ) H' fun y yp=>y=.int (kf j)/\J (j + 1) yp) (aik:vs=[]->∀ H',J 0 H'->Q .non H') (fin:∀ H' i v,J vs.length H'->vs[i]?=some v->(∀ j,j < vs.length->kf j<=kf i/\(j < i->kf j < kf i))->Q v H') : ∀ (r j:Nat) (H:Hp) (s:aX) (B:Array aB) (n:Nat),vs.length - j=r->j<=vs.length->Inv X (pins++[(f,kla_obj "<lambda>" qual params body scope cl pm c' ctv)]) σ H s->J j H -> (∀ b ∈ [I,S],oK X (pins++[(f,kla_obj "<lambda>" qual params body scope cl pm c' ctv)]) H b)->s.heap.IsListIter I l j->s.heap.get? S=some (seqObj "list" B n)->TJ vs kf j B -> codeAny (model X.prog X.w) X.A (.builtin "max.loop" ⟨[.ref I,.ref f,.ref S],[("default",.none)]⟩) (TQ X pins σ Q E) s:=by
 intro r
 induction r with
 | zero =>
  intro j H s B n hr hj In hJ fp it hS best;have ej:j=vs.length:=by omega
  subst ej;obtain ⟨its,rv,pl,_⟩:=In.list (hL _ _ hJ);have len:its.length=vs.length:=rv.length.symm;have nl:l≠I:=fun z=>by
   obtain ⟨oi,ei,_,di⟩:=it;obtain ⟨ol,el,cl',_,dl⟩:=pl.isList;rw [z,ei] at el;cases el;rw [di] at dl;cases dl
  have W:=Walks.list (prog:=X.prog) (w:=X.w) (A:=X.A.in1) (In.ok.hd hc) I l nl its.toArray;refine codeAny_builtin PySem.F.entry_max_loop ?_; rw [Around.under_plainId PySem.F.plain_max_loop _]; refine aj (wpAny_seqItems hS rfl ?_);refine aj (wpAny_tryCatch (W.done _ _ _ ⟨by rw [size_toArray,len]; exact it,pl.isList⟩ fun h' tk' hk'=>?_));have I1:=In.turns (h':=h') (t':=tk') (ch:=[I]) (fun b hb=>fp b (by simpa using Or.inl (aC.mp hb))) fun b o nb e=>hk' b o nb e
  have hS1:=hk' S _ (by simpa using Ne.symm IS) hS;rcases best with ⟨z,rfl⟩ | ⟨i,u,tq,v,rfl,hi,rv',lt,mx⟩
  ·have ev:vs=[]:=List.eq_nil_of_length_eq_zero z;exact aj (wpAny_rule (au ⟨.non,H,I1.mj,rfl,aik ev H (by rw [z] at hJ; exact hJ)⟩))
  ·refine aj (wpAny_updateSeq (s:={ s with heap:=h',toks:=tk' }) hS1 rfl (aj (wpAny_letGo (au ?_))));have sb:=Heap.SameBut.update h' S (Obj.mapSeq fun _=>(#[]:Array aB));have I2:=I1.turns (h':=h'.update S (Obj.mapSeq fun _=>(#[]:Array aB))) (t':=tk') (ch:=[S]) (fun b hb=>fp b (by simpa using Or.inr (aC.mp hb))) fun b o nb e=>(sb.2 b (fun z=>nb (by rw [z]; simp))).trans e
   exact ⟨v,H,I2.mj,rv',fin H i v hJ hi mx⟩
 | succ r ih =>
  intro j H s B n hr hj In hJ fp it hS best;have lt:j < vs.length:=by omega
  have hvj:vs[j]?=some vs[j]:=aG lt;obtain ⟨its,rv,pl,_⟩:=In.list (hL _ _ hJ);have len:its.length=vs.length:=rv.length.symm;have nl:l≠I:=fun z=>by
   obtain ⟨oi,ei,_,di⟩:=it;obtain ⟨ol,el,cl',_,dl⟩:=pl.isList;rw [z,ei] at el;cases el;rw [di] at dl;cases dl
  have W:=Walks.list (prog:=X.prog) (w:=X.w) (A:=X.A.in1) (In.ok.hd hc) I l nl its.toArray;refine codeAny_builtin PySem.F.entry_max_loop ?_; rw [Around.under_plainId PySem.F.plain_max_loop _]; refine aj (wpAny_seqItems hS rfl ?_);refine aj (wpAny_tryCatch (W.item j _ _ _ (by rw [size_toArray,len]; exact lt) ⟨it,pl.isList⟩ fun u h' tk' hP hst' hk'=>?_));obtain ⟨uj,huj,ruj⟩:=rv.get hvj;have eu:u=uj:=by
   have:its[j]?=some u:=by simpa using hP
   rw [huj] at this; exact (bQ this).symm
  subst eu;have I1:=In.turns (h':=h') (t':=tk') (ch:=[I]) (fun b hb=>fp b (by simpa using Or.inl (aC.mp hb))) fun b o nb e=>hk' b o nb e
  have hS1:=hk' S _ (by simpa using Ne.symm IS) hS;obtain ⟨oI,hoI,hcI,hdI⟩:=id hst'.1;have objs:∀ b ∈ [I,S],∃ o,h'.get? b=some o/\∀ z,o.data≠.cell z:=fun b hb=>by
   rcases aR.mp hb with e | hb'
   ·rw [e]; exact ⟨oI,hoI,fun z q=>by rw [hdI] at q; cases q⟩
   ·rw [aC.mp hb']; exact ⟨_,hS1,fun z q=>by cases q⟩
  have I2:=I1.pinned (fp:=[I,S]) fp objs;have hf:=(I2.pin (f,_) (mem_append_right _ (mem_append_left _ (mem_append_right _ (aC.mpr rfl))))).1;have hcd:h'.CodeRec (.ref c') qual:=(show gD X.prog X.w H h' c' (sX c' qual) from I2.hok c' _ (hC _ _ hJ)).1;refine aj (wpAny_tryCatch (wpAny_holding (eU (Zf (Q:=fun y yp=>y=.int (kf j)/\J (j + 1) yp) (E:=fun _ _=>False) I2 L hb I2.ok.frames (fun _=>I2.ok.hd hc) room hf hcd (hbind u) ruj (step j _ H hvj hJ)) (fun y s2 hy=>?_) fun _ _ hF=>hF.elim)));obtain ⟨z,H2,I3,rz,ez,J2⟩:=hy;subst ez;obtain ⟨t2,rfl⟩:=rz;have ail:=I3.pin (I,oI) (mem_append_right _ (mem_append_right _ (j6 (by simp) hoI)));have TV:=I3.pin (S,_) (mem_append_right _ (mem_append_right _ (j6 (by simp) hS1)));have fp2:∀ b ∈ [I,S],oK X (pins++[(f,kla_obj "<lambda>" qual params body scope cl pm c' ctv)]) H2 b:=fun b hb=>by
   obtain ⟨_,f2⟩:=fp b hb;refine ⟨?_,f2⟩;rcases aR.mp hb with e | hb'
   ·rw [e]; exact ail.2.1
   ·rw [aC.mp hb']; exact TV.2.1
  have I4:=I3.mj;have hit2:s2.heap.IsListIter I l (j + 1):=⟨oI,ail.1,hcI,hdI⟩;have put:∀ tk,TJ vs kf (j + 1) #[u,.int (kf j) t2]->codeAny (model X.prog X.w) X.A (.builtin "max.loop" ⟨[.ref I,.ref f,.ref S],[("default",.none)]⟩) (TQ X pins σ Q E) { s2 with heap:=s2.heap.update S (Obj.mapSeq fun _=>#[u,.int (kf j) t2]),toks:=tk }:=fun tk b2=>by
   have sb:=Heap.SameBut.update s2.heap S (Obj.mapSeq fun _=>#[u,.int (kf j) t2]);have I5:=I4.turns (h':=s2.heap.update S (Obj.mapSeq fun _=>#[u,.int (kf j) t2])) (t':=tk) (ch:=[S]) (fun b hb=>fp2 b (by simpa using Or.inr (aC.mp hb))) fun b o nb e=>(sb.2 b (fun z=>nb (by rw [z]; simp))).trans e
   exact ih (j + 1) H2 _ _ _ (by omega) lt I5 J2 fp2 ⟨oI,(sb.2 I IS).trans ail.1,hcI,hdI⟩ (get?_update_seq TV.1 fun _=>#[u,.int (kf j) t2]) b2
  rcases best with ⟨z,rfl⟩ | ⟨i,u0,tq,v0,rfl,hi,rv0,li,mx⟩
  ·refine aj (wpAny_updateSeq (s:=s2) TV.1 rfl ?_);rw [Ey];exact au ⟨plainId_quiet PySem.F.plain_max_loop _,put s2.toks (.inr ⟨j,u,t2,vs[j],rfl,hvj,ruj,Nat.lt_succ_self j,fun j' h=>by
    have:j'=j:=by omega
    subst this;exact ⟨dU _,fun h=>absurd h (cR _)⟩⟩)⟩
  ·refine aj (wpAny_tryCatch (wpAny_holding (aj (CmpOf.ints_gt (prog:=X.prog) (w:=X.w) (A:=X.A.in1) (P:=fun i v=>∃ t,v=.int (kf i) t) kf (fun i v h=>h) j i _ _ _ _ _ ⟨t2,rfl⟩ ⟨tq,rfl⟩ ?_))));refine aj (wpAny_holding (wpAny_truthy_bool (aj (wpAny_letGo (au ?_)))))
   by_cases gt:kf j > kf i
   ·simp only [gt,decide_true,if_true];refine aj (wpAny_updateSeq (s:=s2) TV.1 rfl (aj (wpAny_letGo ?_)));rw [Ey];exact au ⟨plainId_quiet PySem.F.plain_max_loop _,put s2.toks (.inr ⟨j,u,t2,vs[j],rfl,hvj,ruj,Nat.lt_succ_self j,fun j' h=>by
     by_cases e:j'=j
     ·subst e;exact ⟨dU _,fun h=>absurd h (cR _)⟩
     ·have:=(mx j' (by omega)).1;exact ⟨by omega,fun _=>by omega⟩⟩)⟩
   ·simp only [gt,decide_false,Bool.false_eq_true,if_false];refine aj (wpAny_letGo ?_);rw [Ey];refine au ⟨plainId_quiet PySem.F.plain_max_loop _,ih (j + 1) H2 s2 _ _ (by omega) lt I4 J2 fp2 hit2 TV.1 (.inr ⟨i,u0,tq,v0,rfl,hi,rv0,by omega,fun j' h=>?_⟩)⟩
    by_cases e:j'=j
    ·subst e;exact ⟨by omega,fun h=>by omega⟩
    ·exact mx j' (by omega)
end
section
variable {X:Cx} {e:Expr} {params:Arguments} {body:Expr} {scope:Scope} {cl:List (Str × aA)} {qual x:Str} {N':List Str} {cap:List (Option Nat)} {ta:TA} {tb:TE} {p pos Qh kp kp2 dp:Pos} {kd:Nat} {c P:aA}
noncomputable def apI (K:Fg) (P:aA) (Qh:Pos) (qual:Str) (cap:List (Option Nat)) (ta:TA) (tb:TE):TE:=fun σ H Q=>ta σ H fun ws H1=>∃ (l:aA) (vs:List V) (kf:Nat->Int),ws=[.ref l]/\cU K H1 l vs/\jV P Qh qual H1 /\ ∀ H2 c',jw P H1 H2->jV P Qh qual H2->H2 c'=some (sX c' qual)->∃ J:Nat->Hp->Prop,J 0 H2/\(∀ j H',J j H'->cU K H' l vs)/\(∀ j H',J j H'->H' c'=some (sX c' qual)) /\ (∀ j v H',vs[j]?=some v->J j H'->tb (some v::jy cap σ) H' fun y yp=>y=.int (kf j)/\J (j + 1) yp) /\ (vs=[]->∀ H',J 0 H'->Q .non H')/\∀ H' i v,J vs.length H'->vs[i]?=some v->(∀ j,j < vs.length->kf j<=kf i/\(j < i->kf j < kf i))->Q v H'
theorem Qi (hc:X.calm=true) (hm:X.mg "max"=none) (ha:PA X [e] ta) (hcl:closureFor scope X.env=pure cl) (hcode:X.env.code=.ref c) (C:CodeHd X.base c P) (hB:X.base.BuiltinsAt X.mg P) (hex:X.ex=[]) (hq:X.env.qual++"<lambda>"=qual) (L:CP X scope cl x N' cap) (hb:∀ f cd s₀ H₀ E',PE (Nf X X.A.in1 qual scope cl f cd (x::N') s₀ H₀ E') body tb) (room:X.A.depth < recursionLimit) (hbind:∀ pm c' ctv u,bindArgs (kla_fn "<lambda>" qual params body scope cl pm (.ref c') ctv) ⟨[u],[]⟩=pure [(x,u)]) (hdef:autoParam (defaultsOf params X.env=([],[])) zau0) (hg:autoParam (Gl X "max") zau0) (st1:autoParam (starEach [e] X.env=[(false,eval e X.env)]) zau0) : PE X (.Call (.Name "max" p) [e] [⟨some "key",.Lambda params body scope Qh,kp⟩,⟨some "default",.Constant .none kd dp,kp2⟩] pos) (apI X.K P Qh qual cap ta tb):=by
 intro pins s σ H Q I h;refine wpAny_Call_Name_kw (nZ I hg hm boot_max ?_);refine callWith_kw (fV (ha pos pins s σ H _ I h) fun us a ⟨ws,H1,I1,r,q⟩=>?_) (by rw [st1]; rfl) (by rw [st1]; rfl);obtain ⟨l,vs,kf,e1,sq,T,rest⟩:=q;subst e1;obtain ⟨u,e1,ru⟩:=vals1 r;subst e1;cases ru;refine kws_cons (TF I1 hdef hcl hcode C hB hex T hq fun f c' ctv pm h' tk H2 ge bp T2 hC2 hf2 I2 ho=>?_);refine kws_cons (Constant_none (kws_nil ?_));obtain ⟨J,j0,jL,jC,step,aik,fin⟩:=rest H2 c' bp T2 hC2;have fpf:=I1.zA (H':=H2) ge hf2;have I3:Inv X (pins++[(f,kla_obj "<lambda>" qual params body scope cl pm c' ctv)]) σ H2 { a with heap:=h',toks:=tk }:=I2.DR fun q hq'=>by
  rcases cM.mp hq' with hm' | hm'
  ·exact I2.pin q (mem_append_right _ hm')
  ·rw [aC.mp hm'];exact ⟨ho,hf2,fpf.2.1,fpf.2.2.1,fun z y=>by cases y⟩
 obtain ⟨its,rv,pl,_⟩:=I3.list (jL _ _ j0);refine kmk_tree PySem.F.kind_max PySem.F.plain_max PySem.F.entry_max (Zg _ _ _) ?_;refine aj (wpAny_of_eq (show Builtin.Builtins.bindParams "max" ["key","default"] 0 ⟨[],[(Str.ofString "key",.ref f),(Str.ofString "default",.none)]⟩=pure [some (.ref f),some .none] from rfl) ?_);refine aj (au ?_);refine aj (wpAny_pyIter_list pl.isList (aj (wpAny_newList ?_ (dG _))));rw [Ey];have sz:(h'.push { cls:=.type "list_iterator",data:=.fields #[.ref l,.int 0 0] }).objs.size=h'.objs.size + 1:=size_push' ..;have fpI:=I3.zA (H':=H2) (b:=h'.objs.size) (aO _) (I3.hok.fresh (aO _));have fpS:=I3.zA (H':=H2) (b:=(h'.push { cls:=.type "list_iterator",data:=.fields #[.ref l,.int 0 0] }).objs.size) (by rw [sz]; exact Nat.le_succ _) (I3.hok.fresh (by rw [sz]; exact Nat.le_succ _));have I4:=I3.kept (t':=tk) (h':=(h'.push { cls:=.type "list_iterator",data:=.fields #[.ref l,.int 0 0] }).push (seqObj "list" #[] 0)) fun b o e=>aq _ (aq _ e)
 refine au ⟨plainId_quiet PySem.F.plain_max_loop _,Qg (vs:=vs) (kf:=kf) (J:=J) hc L hb room (hbind _ _ _) ?_ jL jC step aik fin vs.length 0 H2 _ #[] 0 rfl (dG _) I4 j0 ?_ ⟨_,aq _ (aN _ rfl),rfl,rfl⟩ (aN _ rfl) (.inl ⟨rfl,rfl⟩)⟩
 ·rw [sz]; exact Nat.ne_of_lt (Nat.lt_succ_self _)
 ·intro b hb';rcases aR.mp hb' with z | hb'
  ·rw [z]; exact fpI
  ·rw [aC.mp hb']; exact fpS
end
section
variable {P:cC} {w:World} {K:Fg} {mg:Str->Option aB} {base:Heap} {x qual:Str} {st:dW} {f:aA} {fd:fQ} {N ps:List Str} {k:Nat} {sp:Sp}
theorem n6.Px {cv:aB} (F:n6 K x qual st f fd) (hcv:fd.code=cv) (S:bV N ps (aW st)) (len:∀ vs H Q E,sp vs H Q E->vs.length=ps.length) (body:∀ (A:d7) (outer:List Env) (s:aX) (H:Hp) (vs:List V) (Q:VK) (E:XK),d8 k (A.deeper (envOfC qual (aW st) s.heap.objs.size f cv))->sp vs H Q E -> ∃ t,Br (oO (fL P w) P w K mg base N qual (aW st) f cv A outer s H E) (gq st) t/\t { nx:=fun _ H'=>Q .non H',rt:=Q } (start N vs) H):cD P w K mg base (fL P w) (k + 1) f fd ps sp:=by
 obtain ⟨oc,od,kV,doc,pm,an,cdv,ct,osl,rfl,lk,hcd⟩:=F.ex;have e:cdv=cv:=hcv;subst e;exact RN lk hcd S len fun A outer s H vs Q E hr h=>body A outer s H vs Q E hr h
theorem CP.one {X:Cx} {scope:Scope} {x y:Str} {j:Nat} {c:aA} (kind:scope.kind=.function) (co:scope.isCoroutine=false) (gen:scope.isGenerator=false) (qz:∀ z ∈ scope.names,z.2≠.cell) (par:scope.names.lookup x=some .local) (hN:X.N[j]?=some y) (hs:X.env.scope.names.lookup y=some .cell) (hl:scope.names.lookup y=some .free) (only:∀ z ∈ scope.names,z.2=.free->z.1=y) (hc:X.env.cells.lookup y=some c):CP X scope [(y,c)] x [y] [some j]:=by
 refine ⟨kind,co,gen,qz,par,fun n c' h=>?_,fun n h=>?_,rfl,fun i k z h1 h2=>?_⟩
 ·by_cases e:n=y
  ·subst e;have:([(n,c)]:List (Str × aA)).lookup n=some c:=by simp [List.lookup]
   rw [this] at h;cases h;exact hc
  ·have:([(y,c)]:List (Str × aA)).lookup n=none:=by
    have:(n == y)=false:=by simpa using e
    simp [List.lookup,this]
   rw [this] at h;cases h
 ·have:=only _ (PySem.mem_of_lookup h) rfl;have e:n=y:=this;subst e;exact ⟨c,by simp [List.lookup]⟩
 ·cases i with
  | zero =>
   cases h1;cases h2;exact ⟨hN,hs,hl⟩
  | succ i=>cases h1
end
end L2
namespace Tw
def iB (s:List Int × List Nat) (o:Nat):List Int × List Nat:=(s.1.set o (s.1.getD o 0 - 1),if s.1.getD o 0 - 1=0 then s.2++[o] else s.2)
abbrev nq:=List (Option Int)
def apJ (ah:List (List Nat)) (d:Int) (s:nq × List Int × List Nat) (n:Nat):nq × List Int × List Nat := (s.1.set n (some d),((ah.getD n []).foldl iB (s.2.1,s.2.2)).1,((ah.getD n []).foldl iB (s.2.1,s.2.2)).2)
def tQ (ah:List (List Nat)) (d:Int) (ans:nq) (left:List Int) (E:List Nat):nq × List Int × List Nat:=E.foldl (apJ ah d) (ans,left,[])
theorem Ez:∀ (os:List Nat) (left:List Int) (yP:List Nat),(∀ o ∈ os,o < left.length)->(∀ n,((os.count n:Nat):Int)<=left.getD n 0\/os.count n=0) -> ((os.foldl iB (left,yP)).1.length=left.length)/\(∀ n,(os.foldl iB (left,yP)).1.getD n 0=left.getD n 0 - (os.count n:Int)) /\ ∃ new,(os.foldl iB (left,yP)).2=yP++new/\new.Nodup/\∀ n,n ∈ new ↔ (0 < os.count n/\left.getD n 0=(os.count n:Int))
 | [],left,yP,_,_=>⟨rfl,fun n=>by simp,[],by simp,by simp,fun n=>by simp⟩
 | o::os,left,yP,hl,hc=>by
  have ho:o < left.length:=hl o (by simp);have g:∀ n,(left.set o (left.getD o 0 - 1)).getD n 0=if n=o then left.getD o 0 - 1 else left.getD n 0:=by
   intro n
   by_cases e:n=o
   ·subst e; simp [ho]
   ·have:o≠n:=fun z=>e z.symm
    simp [getD,e,this]
  have cc:∀ n,(o::os).count n=os.count n + if n=o then 1 else 0:=by
   intro n;rw [count_cons]
   by_cases e:n=o
   ·subst e; simp
   ·have:¬ o=n:=fun z=>e z.symm
    simp [e,this]
  have hc':∀ n,((os.count n:Nat):Int)<=(left.set o (left.getD o 0 - 1)).getD n 0\/os.count n=0:=by
   intro n;rw [g];have h1:=hc n;rw [cc] at h1
   by_cases e:n=o
   ·subst e;simp only [if_true] at h1 ⊢;rcases h1 with h | h
    ·left; omega
    ·omega
   ·simp only [e,if_false,Nat.add_zero] at h1 ⊢;exact h1
  rw [foldl_cons]
  show _/\_/\_
  obtain ⟨i1,i2,new,i3,i4,i5⟩:=Ez os (left.set o (left.getD o 0 - 1)) (if left.getD o 0 - 1=0 then yP++[o] else yP) (fun x hx=>by rw [length_set]; exact hl x (by simp [hx])) hc';refine ⟨by show (os.foldl iB _).1.length=_; rw [show iB (left,yP) o=(left.set o (left.getD o 0 - 1),if left.getD o 0 - 1=0 then yP++[o] else yP) from rfl,i1,length_set],fun n=>?_,?_⟩
  ·show (os.foldl iB (left.set o (left.getD o 0 - 1),if left.getD o 0 - 1=0 then yP++[o] else yP)).1.getD n 0=_
   rw [i2,g,cc]
   by_cases e:n=o
   ·subst e; simp only [if_true]; omega
   ·simp only [e,if_false,Nat.add_zero]
  ·have h1:=hc o;rw [cc] at h1;simp only [if_true] at h1;have h2:((os.count o:Nat):Int) + 1<=left.getD o 0:=by
    rcases h1 with h | h
    ·omega
    ·omega
   by_cases z:left.getD o 0 - 1=0
   ·have c0:os.count o=0:=by omega
    refine ⟨o::new,?_,?_,fun n=>?_⟩
    ·show (os.foldl iB (left.set o (left.getD o 0 - 1),if left.getD o 0 - 1=0 then yP++[o] else yP)).2=_
     rw [i3,if_pos z]; simp
    ·rw [nodup_cons];refine ⟨fun hm=>?_,i4⟩;have:=(i5 o).mp hm;omega
    ·rw [aR,i5,g,cc]
     by_cases e:n=o
     ·subst e; simp only [true_or,if_true,true_iff]; omega
     ·simp only [e,false_or,if_false,Nat.add_zero]
   ·refine ⟨new,?_,i4,fun n=>?_⟩
    ·show (os.foldl iB (left.set o (left.getD o 0 - 1),if left.getD o 0 - 1=0 then yP++[o] else yP)).2=_
     rw [i3,if_neg z]
    ·rw [i5,g,cc]
     by_cases e:n=o
     ·subst e; simp only [if_true]; omega
     ·simp only [e,if_false,Nat.add_zero]
structure Gr (N:Nat) (su ah:List (List Nat)):Prop where
 ls:su.length=N
 la:ah.length=N
 CQ:∀ n t,t ∈ su.getD n []->t < N
 inA:∀ n t,n ∈ ah.getD t []->n < N
 edge:∀ n t,(ah.getD t []).count n=(su.getD n []).count t
def unk (ans:nq) (ts:List Nat):Nat:=ts.countP fun t=>ans.getD t none == none
structure Lv (N:Nat) (su ah:List (List Nat)) (d:Nat) (ans:nq) (left:List Int) (E:List Nat):Prop where
 TX:ans.length=N
 CT:left.length=N
 old:∀ t k,ans.getD t none=some k->∃ j:Nat,k=(j:Int)/\j < d/\(∀ s ∈ su.getD t [],∃ i:Nat,ans.getD s none=some (i:Int)/\i < j)/\(j=0->su.getD t []=[])/\(0 < j->∃ s ∈ su.getD t [],ans.getD s none=some ((j - 1:Nat):Int))
 cnt:∀ n,n < N->left.getD n 0=(unk ans (su.getD n []):Int)
 nd:E.Nodup
 mem:∀ t,t ∈ E ↔ (t < N/\ans.getD t none=none/\left.getD t 0=0)
 end_:∀ t ∈ E,(d=0->su.getD t []=[])/\(0 < d->∃ s ∈ su.getD t [],ans.getD s none=some ((d - 1:Nat):Int))
def dZ (ans:nq) (d:Int) (E:List Nat):nq:=E.foldl (fun a n=>a.set n (some d)) ans
theorem tR (d:Int):∀ (E:List Nat) (ans:nq),(dZ ans d E).length=ans.length
 | [],_=>rfl
 | n::E,ans=>by rw [dZ,foldl_cons,<- dZ,tR d E,length_set]
theorem CV (d:Int):∀ (E:List Nat) (ans:nq) (t:Nat),(∀ n ∈ E,n < ans.length)->(dZ ans d E).getD t none=if t ∈ E then some d else ans.getD t none
 | [],ans,t,_=>by simp [dZ]
 | n::E,ans,t,h=>by
  rw [dZ,foldl_cons,<- dZ,CV d E (ans.set n (some d)) t fun m hm=>by rw [length_set]; exact h m (by simp [hm])];have hn:=h n (by simp)
  by_cases e:t ∈ E
  ·simp [e]
  ·by_cases e2:t=n
   ·subst e2; simp [e,hn]
   ·have e3:¬ n=t:=fun z=>e2 z.symm
    simp [e,e2,getD,e3]
theorem vL (ah:List (List Nat)) (d:Int):∀ (E:List Nat) (ans:nq) (left:List Int) (yP:List Nat),E.foldl (apJ ah d) (ans,left,yP)=(dZ ans d E,((E.flatMap fun t=>ah.getD t []).foldl iB (left,yP)).1,((E.flatMap fun t=>ah.getD t []).foldl iB (left,yP)).2)
 | [],ans,left,yP=>rfl
 | n::E,ans,left,yP=>by
  rw [foldl_cons,flatMap_cons,foldl_append];have:=vL ah d E (ans.set n (some d)) ((ah.getD n []).foldl iB (left,yP)).1 ((ah.getD n []).foldl iB (left,yP)).2;exact this
theorem tV (f:Nat->List Nat) (n:Nat):∀ (E:List Nat),(E.flatMap f).count n=(E.map fun t=>(f t).count n).sum
 | []=>rfl
 | t::E=>by rw [flatMap_cons,count_append,cY,List.sum_cons,tV f n E]
theorem wQ:∀ (E ts:List Nat),E.Nodup->(E.map fun t=>ts.count t).sum=ts.countP fun s=>decide (s ∈ E)
 | E,[],_=>by
  simp only [List.count_nil,List.countP_nil]
  induction E with
  | nil=>rfl
  | cons a E ih=>rename_i h; simp_all
 | E,s::ts,h=>by
  have ih:=wQ E ts h;rw [countP_cons,<- ih];have:(E.map fun t=>(s::ts).count t)=E.map fun t=>ts.count t + if t=s then 1 else 0:=by
   apply map_congr_left;intro t _;rw [count_cons]
   by_cases e:t=s
   ·subst e; simp
   ·have e':¬ s=t:=fun z=>e z.symm
    simp [e,e']
  rw [this];clear this ih
  induction E with
  | nil=>simp
  | cons a E ih =>
   rw [nodup_cons] at h;have ih:=ih h.2;simp only [cY,List.sum_cons,aR]
   by_cases e:a=s
   ·subst e;have na:¬ a ∈ E:=h.1;simp only [na,decide_false,Bool.false_eq_true,if_false,Nat.add_zero] at ih;simp only [if_true,true_or,decide_true];omega
   ·have e':¬ s=a:=fun z=>e z.symm
    simp only [e,e',if_false,Nat.add_zero,false_or] at ih ⊢;omega
theorem vM {p q r:Nat->Bool}:∀ (ts:List Nat),(∀ s ∈ ts,p s=(q s || r s))->(∀ s ∈ ts,¬ (q s=true/\r s=true))->ts.countP p=ts.countP q + ts.countP r
 | [],_,_=>rfl
 | s::ts,h,g=>by
  have ih:=vM ts (fun x hx=>h x (by simp [hx])) (fun x hx=>g x (by simp [hx]));have h1:=h s (by simp);have g1:=g s (by simp);rw [countP_cons,countP_cons,countP_cons,ih,h1];cases hq:q s <;> cases hr:r s <;> simp_all <;> omega
theorem TY {N:Nat} {su ah:List (List Nat)} {d:Nat} {ans:nq} {left:List Int} {E:List Nat} (G:Gr N su ah) (L:Lv N su ah d ans left E) : Lv N su ah (d + 1) (tQ ah (d:Int) ans left E).1 (tQ ah (d:Int) ans left E).2.1 (tQ ah (d:Int) ans left E).2.2:=by
 unfold tQ;rw [vL];have inE:∀ n ∈ E,n < ans.length:=fun n hn=>by rw [L.TX]; exact ((L.mem n).mp hn).1
 have at_:=fun t=>CV (d:Int) E ans t inE
 have cn:∀ n,((E.flatMap fun t=>ah.getD t []).count n)=(su.getD n []).countP fun s=>decide (s ∈ E):=by
  intro n;rw [tV,<- wQ E (su.getD n []) L.nd]
  congr 1
  apply map_congr_left;intro t _;exact G.edge n t
 have sp:∀ n,unk ans (su.getD n [])=unk (dZ ans (d:Int) E) (su.getD n []) + (su.getD n []).countP fun s=>decide (s ∈ E):=by
  intro n;unfold unk;refine vM _ (fun s hs=>?_) (fun s hs=>?_)
  ·rw [at_ s]
   by_cases e:s ∈ E
   ·rw [((L.mem s).mp e).2.1,if_pos e];simp [e]
   ·simp [e]
  ·rw [at_ s]
   by_cases e:s ∈ E
   ·simp [e]
   ·simp [e]
 have named:∀ o ∈ (E.flatMap fun t=>ah.getD t []),o < left.length:=by
  intro o ho;obtain ⟨t,_,h⟩:=mem_flatMap.mp ho;rw [L.CT];exact G.inA o t h
 have big:∀ n,((((E.flatMap fun t=>ah.getD t []).count n:Nat):Int)<=left.getD n 0\/(E.flatMap fun t=>ah.getD t []).count n=0):=by
  intro n
  by_cases lt:n < N
  ·left
   rw [L.cnt n lt,cn,sp n];omega
  ·right
   rw [List.count_eq_zero];intro hm;have:=named n hm;rw [L.CT] at this;exact lt this
 obtain ⟨r1,r2,new,r3,r4,r5⟩:=Ez (E.flatMap fun t=>ah.getD t []) left [] named big;have known:∀ t,t ∈ E->∀ s ∈ su.getD t [],∃ i:Nat,ans.getD s none=some (i:Int)/\i < d:=by
  intro t ht s hs;obtain ⟨lt,_,h0⟩:=(L.mem t).mp ht;have c0:=L.cnt t lt;rw [h0] at c0;have u0:unk ans (su.getD t [])=0:=by omega
  unfold unk at u0;rw [List.countP_eq_zero] at u0;have:=u0 s hs;cases e:ans.getD s none with
  | none=>rw [e] at this; exact absurd rfl this
  | some k =>
   obtain ⟨j,rfl,hj,_⟩:=L.old s k e;exact ⟨j,rfl,hj⟩
 have az4:∀ t k,ans.getD t none=some k->t ∉ E:=fun t k e hm=>by
  have:=((L.mem t).mp hm).2.1;rw [this] at e;cases e
 have keep:∀ t k,ans.getD t none=some k->(dZ ans (d:Int) E).getD t none=some k:=fun t k e=>by
  rw [at_ t,if_neg (az4 t k e)]; exact e
 refine ⟨by show (dZ ans (d:Int) E).length=N; rw [tR,L.TX],by show ((E.flatMap fun t=>ah.getD t []).foldl iB (left,[])).1.length=N; rw [r1,L.CT],fun t k h=>?_,fun n lt=>?_,?_,fun t=>?_,fun t ht=>?_⟩
 ·
  have h:(dZ ans (d:Int) E).getD t none=some k:=h;rw [at_ t] at h
  by_cases e:t ∈ E
  ·rw [if_pos e] at h;cases h;obtain ⟨f1,f2⟩:=L.end_ t e;refine ⟨d,rfl,Nat.lt_succ_self d,fun s hs=>?_,f1,fun h0=>?_⟩
   ·obtain ⟨i,hi,lt⟩:=known t e s hs;exact ⟨i,keep s _ hi,lt⟩
   ·obtain ⟨s,hs,e2⟩:=f2 h0;exact ⟨s,hs,keep s _ e2⟩
  ·rw [if_neg e] at h;obtain ⟨j,rfl,hj,g1,g2,g3⟩:=L.old t k h;refine ⟨j,rfl,by omega,fun s hs=>?_,g2,fun h0=>?_⟩
   ·obtain ⟨i,hi,lt⟩:=g1 s hs;exact ⟨i,keep s _ hi,lt⟩
   ·obtain ⟨s,hs,e2⟩:=g3 h0;exact ⟨s,hs,keep s _ e2⟩
 ·show ((E.flatMap fun t=>ah.getD t []).foldl iB (left,[])).1.getD n 0=_
  rw [r2,L.cnt n lt,cn,sp n]
  show _=((unk (dZ ans (d:Int) E) (su.getD n []):Nat):Int)
  omega
 ·show ((E.flatMap fun t=>ah.getD t []).foldl iB (left,[])).2.Nodup
  rw [r3];simpa using r4
 ·show t ∈ ((E.flatMap fun t=>ah.getD t []).foldl iB (left,[])).2 ↔ (t < N/\(dZ ans (d:Int) E).getD t none=none/\((E.flatMap fun t=>ah.getD t []).foldl iB (left,[])).1.getD t 0=0)
  rw [r3,nil_append,r5,r2,at_ t];constructor
  ·rintro ⟨h1,h2⟩;have lt:t < N:=by
    have:t ∈ (E.flatMap fun t=>ah.getD t []):=List.count_pos_iff.mp h1;have:=named t this;rw [L.CT] at this;exact this
   have ne:t ∉ E:=fun hm=>by
    have:=((L.mem t).mp hm).2.2;omega
   refine ⟨lt,?_,by omega⟩;rw [if_neg ne];cases e:ans.getD t none with
   | none=>rfl
   | some k =>
    obtain ⟨j,_,_,g1,_⟩:=L.old t k e;have u0:unk ans (su.getD t [])=0:=by
     unfold unk;rw [List.countP_eq_zero];intro s hs;obtain ⟨i,hi,_⟩:=g1 s hs;rw [hi];simp
    have:=L.cnt t lt;rw [u0] at this;omega
  ·rintro ⟨lt,h2,h3⟩;have ne:t ∉ E:=fun hm=>by rw [if_pos hm] at h2; cases h2
   rw [if_neg ne] at h2;have l0:left.getD t 0≠0:=fun z=>ne ((L.mem t).mpr ⟨lt,h2,z⟩)
   have:=L.cnt t lt;omega
 ·
  have ht:t ∈ ((E.flatMap fun t=>ah.getD t []).foldl iB (left,[])).2:=ht;rw [r3,nil_append,r5,cn] at ht;refine ⟨fun z=>by omega,fun _=>?_⟩;obtain ⟨s,hs,e⟩:=List.countP_pos_iff.mp ht.1;have e:s ∈ E:=by simpa using e
  refine ⟨s,hs,?_⟩
  show (dZ ans (d:Int) E).getD s none=_
  rw [at_ s,if_pos e];simp
theorem Kr {N:Nat} {su ah:List (List Nat)} (G:Gr N su ah):Lv N su ah 0 (List.replicate N none) (su.map fun ts=>(ts.length:Int)) ((List.range N).filter fun n=>decide (((su.getD n []).length:Int)=0)):=by
 have g0:∀ t,(List.replicate N (none:Option Int)).getD t none=none:=by
  intro t;simp only [getD,List.getElem?_replicate]
  split <;> rfl
 have gl:∀ n,n < N->(su.map fun ts=>(ts.length:Int)).getD n 0=((su.getD n []).length:Int):=by
  intro n lt;have:n < su.length:=by rw [G.ls]; exact lt
  simp [this]
 refine ⟨by simp,by rw [ak,G.ls],fun t k h=>?_,fun n lt=>?_,?_,fun t=>?_,fun t ht=>⟨fun _=>?_,fun z=>absurd z (cR 0)⟩⟩
 ·rw [g0] at h; cases h
 ·rw [gl n lt];unfold unk;have:(su.getD n []).countP (fun t=>(List.replicate N (none:Option Int)).getD t none == none)=(su.getD n []).length:=by
   rw [List.countP_eq_length];intro t _;rw [g0];rfl
  rw [this]
 ·exact Pairwise.filter _ List.nodup_range
 ·rw [mem_filter,mem_range,decide_eq_true_eq,g0];constructor
  ·rintro ⟨lt,h⟩;exact ⟨lt,rfl,by rw [gl t lt]; exact h⟩
  ·rintro ⟨lt,_,h⟩;rw [gl t lt] at h;exact ⟨lt,h⟩
 ·rw [mem_filter,decide_eq_true_eq] at ht;have:(su.getD t []).length=0:=by have:=ht.2; omega
  exact List.length_eq_zero_iff.mp this
def nones (ans:nq):Nat:=ans.countP (· == none)
theorem Qj {ans:nq} {n:Nat} {d:Int} (lt:n < ans.length) (h:ans.getD n none=none):nones (ans.set n (some d)) + 1=nones ans:=by
 unfold nones;have hm:ans[n]=none:=by simpa [lt] using h
 rw [List.countP_set lt];have hp:0 < ans.countP (· == none):=by
  rw [List.countP_pos_iff];exact ⟨ans[n],List.getElem_mem lt,by rw [hm]; rfl⟩
 rw [hm];have e1:((none:Option Int) == none)=true:=rfl;have e2:((some d:Option Int) == none)=false:=rfl;rw [e1,e2];simp only [if_true,Bool.false_eq_true,if_false];omega
theorem CW (d:Int):∀ (E:List Nat) (ans:nq),E.Nodup->(∀ n ∈ E,n < ans.length/\ans.getD n none=none)->nones (dZ ans d E) + E.length=nones ans
 | [],_,_,_=>rfl
 | n::E,ans,nd,h=>by
  rw [nodup_cons] at nd;obtain ⟨lt,h0⟩:=h n (by simp);have ih:=CW d E (ans.set n (some d)) nd.2 fun m hm=>by
   obtain ⟨lm,hm0⟩:=h m (by simp [hm]);refine ⟨by rw [length_set]; exact lm,?_⟩;have ne:¬ n=m:=fun z=>nd.1 (by rw [z]; exact hm)
   simpa [getD,ne] using hm0
  have e:=Qj (d:=d) lt h0;rw [dZ,foldl_cons,<- dZ,length_cons];omega
theorem Ks {N:Nat} {su ah:List (List Nat)} {d:Nat} {ans:nq} {left:List Int} {E:List Nat} (L:Lv N su ah d ans left E):nones (tQ ah (d:Int) ans left E).1 + E.length=nones ans:=by
 unfold tQ;rw [vL];exact CW _ E ans L.nd fun n hn=>by
  have:=(L.mem n).mp hn;exact ⟨by rw [L.TX]; exact this.1,this.2.1⟩
structure Told (N:Nat) (su:List (List Nat)) (ans:nq):Prop where
 len:ans.length=N
 ever:∀ n,n < N->ans.getD n none=none->∃ s ∈ su.getD n [],ans.getD s none=none
 ends:∀ n k,ans.getD n none=some k->(∀ s ∈ su.getD n [],∃ i,ans.getD s none=some i/\0<=i/\i + 1<=k)/\(su.getD n []=[]->k=0)/\(su.getD n []≠[]->∃ s ∈ su.getD n [],∃ i,ans.getD s none=some i/\i + 1=k)
theorem Zh {N:Nat} {su ah:List (List Nat)} {d:Nat} {ans:nq} {left:List Int} (L:Lv N su ah d ans left []):Told N su ans:=by
 refine ⟨L.TX,fun n lt h=>?_,fun n k h=>?_⟩
 ·have l0:left.getD n 0≠0:=fun z=>by
   have:=(L.mem n).mpr ⟨lt,h,z⟩;cases this
  have c:=L.cnt n lt;have p:0 < unk ans (su.getD n []):=by omega
  obtain ⟨s,hs,e⟩:=List.countP_pos_iff.mp p;exact ⟨s,hs,by simpa using e⟩
 ·obtain ⟨j,rfl,_,g1,g2,g3⟩:=L.old n k h;refine ⟨fun s hs=>?_,fun z=>?_,fun z=>?_⟩
  ·obtain ⟨i,hi,lt⟩:=g1 s hs;exact ⟨i,hi,by omega,by omega⟩
  ·cases j with
   | zero=>rfl
   | succ j =>
    obtain ⟨s,hs,_⟩:=g3 (Nat.succ_pos j);rw [z] at hs;cases hs
  ·cases j with
   | zero=>exact absurd (g2 rfl) z
   | succ j =>
    obtain ⟨s,hs,e⟩:=g3 (Nat.succ_pos j);exact ⟨s,hs,_,e,by simp⟩
def pL (d:Int) (gs ds:List Int):Int:=(gs.zip ds).foldl (fun c q=>c * q.1 + q.2) d
def stL (gs:List Int) (n:Int):Int × List Int:=gs.foldr (fun g r=>(r.1 / g,r.1 % g::r.2)) (n,[])
inductive InB:List Int->List Int->Prop
 | nil:InB [] []
 | cons {g y:Int} {gs ds:List Int}:0<=y->y < g->InB gs ds->InB (g::gs) (y::ds)
theorem InB.of:∀ {gs ds:List Int},ds.length=gs.length->(∀ (i:Nat) y g,ds[i]?=some y->gs[i]?=some g->0<=y/\y < g)->InB gs ds
 | [],[],_,_=>.nil
 | [],_::_,len,_=>by simp at len
 | _::_,[],len,_=>by simp at len
 | g::gs,y::ds,h,f=>by
  obtain ⟨h0,h1⟩:=f 0 y g rfl rfl;exact .cons h0 h1 (InB.of (by simpa using h) fun i y' g' e1 e2=>f (i + 1) y' g' (by simpa using e1) (by simpa using e2))
theorem T3:∀ {gs ds:List Int} (d:Int),InB gs ds->stL gs (pL d gs ds)=(d,ds)
 | _,_,d,.nil=>rfl
 | _,_,d,.cons (g:=g) (y:=y) (gs:=gs) (ds:=ds) h0 h1 r=>by
  have ih:=T3 (d * g + y) r;have e:pL d (g::gs) (y::ds)=pL (d * g + y) gs ds:=rfl;have e2:stL (g::gs) (pL d (g::gs) (y::ds))=((stL gs (pL d (g::gs) (y::ds))).1 / g,(stL gs (pL d (g::gs) (y::ds))).1 % g::(stL gs (pL d (g::gs) (y::ds))).2):=rfl;rw [e2,e,ih];have g0:g≠0:=by omega
  have q1:(d * g + y) / g=d:=by
   rw [Int.add_comm,Int.add_mul_ediv_right _ _ g0,Int.ediv_eq_zero_of_lt h0 h1,Int.zero_add]
  have q2:(d * g + y) % g=y:=by
   rw [Int.add_comm,Int.add_mul_emod_self_right,Int.emod_eq_of_lt h0 h1]
  show ((d * g + y) / g,(d * g + y) % g::ds)=(d,y::ds)
  rw [q1,q2]
theorem Ku {α β:Type} {f:α->List β} {m:Nat} (hm:0 < m) (hf:∀ c,(f c).length=m):∀ (fs:List α) (k:Nat),(fs.flatMap f)[k]?=(fs[k / m]?).bind fun c=>(f c)[k % m]?
 | [],k=>by simp
 | c::fs,k=>by
  rw [flatMap_cons]
  by_cases lt:k < m
  ·rw [List.getElem?_append_left (by rw [hf]; exact lt),Nat.div_eq_of_lt lt,Nat.mod_eq_of_lt lt];rfl
  ·have e:k=k - m + m:=by omega
   rw [List.getElem?_append_right (by rw [hf]; omega),hf,Ku hm hf fs (k - m)];have e1:k / m=(k - m) / m + 1:=by
    conv=>lhs; rw [e]
    rw [Nat.add_div_right _ hm]
   have e2:k % m=(k - m) % m:=by
    conv=>lhs; rw [e]
    rw [Nat.add_mod_right]
   rw [e1,e2,List.getElem?_cons_succ]
theorem EY {α β:Type} {f:α->List β} {m:Nat} (hf:∀ c,(f c).length=m):∀ (fs:List α),(fs.flatMap f).length=fs.length * m
 | []=>by simp
 | c::fs=>by rw [flatMap_cons,aQ,hf,EY hf fs,length_cons,Nat.add_mul,Nat.one_mul,Nat.add_comm]
theorem CZ (g y:Int):∀ (gs ds:List Int) (d:Int),ds.length=gs.length->pL d (gs++[g]) (ds++[y])=pL d gs ds * g + y
 | [],[],d,_=>rfl
 | [],_::_,_,h=>by simp at h
 | _::_,[],_,h=>by simp at h
 | a::gs,b::ds,d,h=>CZ g y gs ds (d * a + b) (by simpa using h)
def lO (gs:List Int):Int:=gs.foldl (· * ·) 1
theorem rQ:∀ (gs:List Int) (a:Int),gs.foldl (· * ·) a=a * lO gs
 | [],a=>by simp [lO]
 | g::gs,a=>by
  have h1:=rQ gs (a * g);have h2:=rQ gs (1 * g)
  show gs.foldl (· * ·) (a * g)=a * (gs.foldl (· * ·) (1 * g))
  rw [h1,h2,Int.one_mul,Int.mul_assoc]
theorem Qk (gs:List Int) (g:Int):lO (gs++[g])=lO gs * g:=by
 unfold lO;rw [foldl_append];rfl
theorem zU:∀ (gs ds:List Int) (d:Int),ds.length=gs.length->pL d gs ds=d * lO gs + pL 0 gs ds
 | [],[],d,_=>by simp [pL,lO]
 | [],_::_,_,h=>by simp at h
 | _::_,[],_,h=>by simp at h
 | g::gs,y::ds,d,h=>by
  have h':ds.length=gs.length:=by simpa using h
  have h1:=zU gs ds (d * g + y) h';have h2:=zU gs ds (0 * g + y) h';have e1:pL d (g::gs) (y::ds)=pL (d * g + y) gs ds:=rfl;have e2:pL 0 (g::gs) (y::ds)=pL (0 * g + y) gs ds:=rfl;have e3:lO (g::gs)=g * lO gs:=by
   show gs.foldl (· * ·) (1 * g)=_
   rw [rQ,Int.one_mul]
  rw [e1,e2,h1,h2,e3,Int.add_mul,Int.add_mul,Int.zero_mul,Int.zero_mul,Int.zero_add,Int.mul_assoc,Int.add_assoc]
def jK (n:Nat) (ah:List (List Nat)) (t:Nat):List (List Nat):=ah.set t (ah.getD t []++[n])
theorem vO (n:Nat):∀ (ts:List Nat) (ah:List (List Nat)),(∀ t ∈ ts,t < ah.length)->(ts.foldl (jK n) ah).length=ah.length/\∀ t,(ts.foldl (jK n) ah).getD t []=ah.getD t []++List.replicate (ts.count t) n
 | [],ah,_=>⟨rfl,fun t=>by simp⟩
 | t::ts,ah,h=>by
  have ht:t < ah.length:=h t (by simp);have hl:(jK n ah t).length=ah.length:=by unfold jK; rw [length_set]
  obtain ⟨i1,i2⟩:=vO n ts (jK n ah t) fun x hx=>by rw [hl]; exact h x (by simp [hx])
  refine ⟨by rw [foldl_cons,i1,hl],fun u=>?_⟩;rw [foldl_cons,i2 u,count_cons]
  by_cases e:t=u
  ·subst e;have:(jK n ah t).getD t []=ah.getD t []++[n]:=by unfold jK; simp [ht]
   rw [this,append_assoc];simp [replicate_succ]
  ·have:(jK n ah t).getD u []=ah.getD u []:=by unfold jK; simp [getD,e]
   rw [this];simp [e]
def gW (su:List (List Nat)) (N i:Nat):List (List Nat):=(List.range i).foldl (fun ah n=>(su.getD n []).foldl (jK n) ah) (List.replicate N [])
theorem qJ (su:List (List Nat)) (N i:Nat):gW su N (i + 1)=(su.getD i []).foldl (jK i) (gW su N i):=by
 show (List.range (i + 1)).foldl _ _=_
 rw [bY,foldl_append,<- gW];rfl
theorem vP {N:Nat} {su:List (List Nat)} (CQ:∀ n t,t ∈ su.getD n []->t < N):∀ i,(gW su N i).length=N/\∀ n t,((gW su N i).getD t []).count n=if n < i then (su.getD n []).count t else 0
 | 0=>by
  refine ⟨by simp [gW],fun n t=>?_⟩;have:(gW su N 0).getD t []=[]:=by
   show (List.replicate N ([]:List Nat)).getD t []=[]
   by_cases lt:t < N <;> simp [getD,lt]
  rw [this];simp
 | i + 1=>by
  obtain ⟨h1,h2⟩:=vP CQ i;obtain ⟨r1,r2⟩:=vO i (su.getD i []) (gW su N i) fun t ht=>by rw [h1]; exact CQ i t ht
  rw [qJ];refine ⟨by rw [r1,h1],fun n t=>?_⟩;rw [r2 t,count_append,h2 n t,List.count_replicate]
  by_cases e:i=n
  ·subst e;simp
  ·have e':¬ (i == n)=true:=by simpa using e
   rw [if_neg e',Nat.add_zero]
   by_cases lt:n < i
   ·rw [if_pos lt,if_pos (by omega)]
   ·rw [if_neg lt,if_neg (by omega)]
theorem apK {N:Nat} {su:List (List Nat)} (ls:su.length=N) (CQ:∀ n t,t ∈ su.getD n []->t < N):Gr N su (gW su N N):=by
 obtain ⟨h1,h2⟩:=vP CQ N;have edge:∀ n t,((gW su N N).getD t []).count n=(su.getD n []).count t:=fun n t=>by
  rw [h2 n t]
  by_cases lt:n < N
  ·rw [if_pos lt]
  ·rw [if_neg lt];have:su.getD n []=[]:=by
    unfold getD;rw [List.getElem?_eq_none (by omega)];rfl
   rw [this];simp
 refine ⟨ls,h1,CQ,fun n t h=>?_,edge⟩;have c:0 < ((gW su N N).getD t []).count n:=List.count_pos_iff.mpr h;rw [h2 n t] at c
 by_cases lt:n < N
 ·exact lt
 ·rw [if_neg lt] at c;omega
theorem T4 {ν:Type} {nms:List ν} {cans:Int} {shut:Bool} {l:List Cp} (hn:nms.length=l.length) (hb:∀ (i:Nat) c,l[i]?=some c->0<=c.s/\c.s < c.gap) {q:Int × List Int} (h:q ∈ wO nms cans shut l) : q.2.length=l.length/\∀ (i:Nat) y c,q.2[i]?=some y->l[i]?=some c->0<=y/\y < c.gap:=by
 unfold wO at h;obtain ⟨j,hj,e⟩:=mem_filterMap.mp h;unfold lK at e
 split at e
 ·rename_i ds hbh
  cases e;unfold jQ at hbh
  split at hbh
  ·split at hbh
   ·cases hbh
   ·rename_i hd
    cases hbh;refine ⟨by unfold wN; rw [ak,bw],fun i y c hy hc=>?_⟩;rw [zR hc] at hy;cases hy;have nd:=(Hf hn).mp hd i c hc;obtain ⟨b0,b1⟩:=hb i c hc
    split
    ·exact ⟨dU _,by omega⟩
    ·rename_i ni
     rw [if_neg ni] at nd;exact ⟨by omega,by omega⟩
  ·cases hbh
 ·cases e
def vQ (gs:List Int):List (List Int):=gs.foldl (fun fs g=>fs.flatMap fun c=>(List.range g.toNat).map fun k:Nat=>c++[(k:Int)]) [[]]
def zV (fs:List (List Int)) (ps:List Int):Prop:=(fs.length:Int)=lO ps/\∀ (k:Nat) c,fs[k]?=some c->c.length=ps.length/\pL 0 ps c=(k:Int)
theorem Ql {fs:List (List Int)} {ps:List Int} {g:Int} (hg:1<=g) (h:zV fs ps):zV (fs.flatMap fun c=>(List.range g.toNat).map fun k:Nat=>c++[(k:Int)]) (ps++[g]):=by
 have hf:∀ c:List Int,((List.range g.toNat).map fun k:Nat=>c++[(k:Int)]).length=g.toNat:=fun c=>by rw [ak,bw]
 refine ⟨?_,fun k c e=>?_⟩
 ·rw [EY hf,Qk,<- h.1];have:((g.toNat:Nat):Int)=g:=by omega
  rw [Int.natCast_mul,this]
 ·rw [Ku (by omega) hf] at e;obtain ⟨b,hb,e⟩:=Option.bind_eq_some_iff.mp e;rw [aJ] at e;obtain ⟨j,hj,rfl⟩:=bh.mp e;have lj:k % g.toNat < g.toNat:=Nat.mod_lt _ (by omega);rw [List.getElem?_range lj] at hj;cases hj;obtain ⟨h1,h2⟩:=h.2 _ _ hb;refine ⟨by rw [aQ,aQ,h1]; rfl,?_⟩;rw [CZ _ _ _ _ _ h1,h2];have e1:=Nat.div_add_mod k g.toNat;have e2:((g.toNat:Nat):Int)=g:=by omega
  have e3:(k:Int)=((g.toNat * (k / g.toNat) + k % g.toNat:Nat):Int):=by rw [e1]
  conv=>rhs; rw [e3]
  rw [Int.natCast_add,Int.natCast_mul,e2,Int.mul_comm]
theorem Dc:∀ (gs ps:List Int) (fs:List (List Int)),(∀ g ∈ gs,1<=g)->zV fs ps->zV (gs.foldl (fun fs g=>fs.flatMap fun c=>(List.range g.toNat).map fun k:Nat=>c++[(k:Int)]) fs) (ps++gs)
 | [],ps,fs,_,h=>by rw [cA]; exact h
 | g::gs,ps,fs,hg,h=>by
  have ih:=Dc gs (ps++[g]) _ (fun x hx=>hg x (by simp [hx])) (Ql (hg g (by simp)) h);rw [append_assoc] at ih;exact ih
theorem Hj {gs:List Int} (hg:∀ g ∈ gs,1<=g):zV (vQ gs) gs:=by
 have h:=Dc gs [] [[]] hg ⟨rfl,fun k c e=>by
  cases k with
  | zero=>cases e; exact ⟨rfl,rfl⟩
  | succ k=>simp at e⟩
 rw [nil_append] at h;exact h
def Hl (wk:Int) (gs:List Int):List (Int × List Int):=(List.range wk.toNat).flatMap fun d:Nat=>(vQ gs).map fun c=>((d:Int),c)
theorem Ho:∀ (gs:List Int) (_:∀ g ∈ gs,1<=g) (a:Int),1<=a->1<=gs.foldl (· * ·) a
 | [],_,_,h=>h
 | g::gs,hg,a,h=>Ho gs (fun x hx=>hg x (by simp [hx])) (a * g) (by
  have h1:=hg g (by simp);have:a * 1<=a * g:=Int.mul_le_mul_of_nonneg_left h1 (by omega);omega)
theorem T5 {wk:Int} {gs:List Int} (hw:0<=wk) (hg:∀ g ∈ gs,1<=g):((Hl wk gs).length:Int)=wk * lO gs:=by
 have h:=Hj hg;unfold Hl;rw [EY (m:=(vQ gs).length) fun d=>by rw [ak],bw,Int.natCast_mul,h.1];have:((wk.toNat:Nat):Int)=wk:=by omega
 rw [this]
theorem T6 {wk:Int} {gs:List Int} (hg:∀ g ∈ gs,1<=g) {k:Nat} {d:Int} {ds:List Int} (h:(Hl wk gs)[k]?=some (d,ds)):pL d gs ds=(k:Int)/\ds.length=gs.length:=by
 have hc:=Hj hg;have pp:1<=lO gs:=Ho gs hg 1 (dU _);have lp:0 < (vQ gs).length:=by have:=hc.1; omega
 unfold Hl at h;rw [Ku lp fun d=>by rw [ak]] at h;obtain ⟨b,hb,e⟩:=Option.bind_eq_some_iff.mp h;rw [aJ] at e;obtain ⟨c,hcc,e⟩:=bh.mp e;cases e;have eb:b=k / (vQ gs).length:=by
  have lt:=(aF.mp hb).1;rw [bw] at lt;rw [List.getElem?_range lt] at hb;exact (bQ hb).symm
 obtain ⟨h1,h2⟩:=hc.2 _ _ hcc;refine ⟨?_,h1⟩;rw [zU _ _ _ h1,h2,<- hc.1,eb];have e1:=Nat.div_add_mod k (vQ gs).length;have e3:(k:Int)=(((vQ gs).length * (k / (vQ gs).length) + k % (vQ gs).length:Nat):Int):=by rw [e1]
 conv=>rhs; rw [e3]
 rw [Int.natCast_add,Int.natCast_mul,Int.mul_comm]
theorem Hq {N:Nat} {su ah:List (List Nat)} {E:List Nat} (G:Gr N su ah) {o:Nat} (h:o ∈ E.flatMap fun t=>ah.getD t []):o < N:=by
 obtain ⟨t,_,h⟩:=mem_flatMap.mp h;exact G.inA o t h
theorem Qm {N:Nat} {su ah:List (List Nat)} {d:Nat} {ans:nq} {left:List Int} {E:List Nat} (G:Gr N su ah) (L:Lv N su ah d ans left E) {n:Nat} (lt:n < N):(((E.flatMap fun t=>ah.getD t []).count n:Nat):Int)<=left.getD n 0:=by
 have cn:(E.flatMap fun t=>ah.getD t []).count n=(su.getD n []).countP fun s=>decide (s ∈ E):=by
  rw [tV,<- wQ E (su.getD n []) L.nd]
  congr 1
  exact map_congr_left fun t _=>G.edge n t
 rw [L.cnt n lt,cn];unfold unk;have:(su.getD n []).countP (fun s=>decide (s ∈ E))<=(su.getD n []).countP fun t=>ans.getD t none == none:=by
  apply List.countP_mono_left;intro s _ hs;have:=((L.mem s).mp (by simpa using hs)).2.1;rw [this];rfl
 omega
theorem Kv {N:Nat} {su ah:List (List Nat)} {d:Nat} {ans:nq} {left:List Int} {E os qs:List Nat} (G:Gr N su ah) (L:Lv N su ah d ans left E) (h:os++qs=E.flatMap fun t=>ah.getD t []) : (os.foldl iB (left,[])).1.length=N/\(os.foldl iB (left,[])).2.length<=N:=by
 have named:∀ o ∈ os,o < N:=fun o ho=>Hq (E:=E) G (by rw [<- h]; exact mem_append_left _ ho)
 obtain ⟨r1,_,new,r3,r4,r5⟩:=Ez os left [] (fun o ho=>by rw [L.CT]; exact named o ho) (fun n=>by
  by_cases lt:n < N
  ·have:=Qm G L lt;rw [<- h,count_append] at this
   left
   omega
  ·right
   rw [List.count_eq_zero];exact fun hm=>lt (named n hm))
 refine ⟨by rw [r1,L.CT],?_⟩;rw [r3,nil_append];have:new ⊆ List.range N:=fun n hn=>mem_range.mpr (named n (List.count_pos_iff.mp ((r5 n).mp hn).1))
 have:=Nodup.length_le_of_subset r4 this
 rwa [bw] at this
theorem Qo (ah:List (List Nat)) (d:Int) (ans:nq) (left:List Int) (E:List Nat):tQ ah d ans left E=(dZ ans d E,((E.flatMap fun t=>ah.getD t []).foldl iB (left,[])).1,((E.flatMap fun t=>ah.getD t []).foldl iB (left,[])).2):=vL ah d E ans left []
theorem Hr (ans:nq) (d:Int) (E:List Nat) (n:Nat):dZ ans d (E++[n])=(dZ ans d E).set n (some d):=by
 unfold dZ;rw [foldl_append];rfl
theorem Dd {N:Nat} {su:List (List Nat)} {u v:nq} (U:Told N su u) (V:Told N su v) (CQ:∀ n t,t ∈ su.getD n []->t < N):∀ (m:Nat) (k:Int),k.toNat<=m->∀ n,n < N->u.getD n none=some k->v.getD n none=some k:=by
 intro m
 induction m with
 | zero =>
  intro k hk n lt h;exact go 0 (fun k' h'=>absurd h' (by omega)) k hk n lt h
 | succ m ih =>
  intro k hk n lt h;exact go (m + 1) (fun k' h' n' l' e'=>ih k' (by omega) n' l' e') k hk n lt h
where
 go (m:Nat) (ih:∀ k':Int,k'.toNat < m->∀ n',n' < N->u.getD n' none=some k'->v.getD n' none=some k') (k:Int) (hk:k.toNat<=m) (n:Nat) (lt:n < N) (h:u.getD n none=some k):v.getD n none=some k:=by
  obtain ⟨a1,a2,a3⟩:=U.ends n k h;have both:∀ s ∈ su.getD n [],∃ i,u.getD s none=some i/\v.getD s none=some i/\i + 1<=k:=fun s hs=>by
   obtain ⟨i,e,i0,i1⟩:=a1 s hs;exact ⟨i,e,ih i (by omega) s (CQ n s hs) e,i1⟩
  cases e:v.getD n none with
  | none =>
   obtain ⟨s,hs,e2⟩:=V.ever n lt e;obtain ⟨i,_,e3,_⟩:=both s hs;rw [e2] at e3;cases e3
  | some k' =>
   obtain ⟨b1,b2,b3⟩:=V.ends n k' e
   by_cases z:su.getD n []=[]
   ·rw [a2 z,b2 z]
   ·obtain ⟨s,hs,i,e1,ek⟩:=a3 z;obtain ⟨j,f1,f2,_⟩:=both s hs;rw [e1] at f1;cases f1;obtain ⟨j',g1,_,g3⟩:=b1 s hs;rw [f2] at g1;cases g1;obtain ⟨s',hs',i',e1',ek'⟩:=b3 z;obtain ⟨j'',_,f2',f3'⟩:=both s' hs';rw [e1'] at f2';cases f2'
    congr 1
    omega
theorem vR {N:Nat} {su:List (List Nat)} {u v:nq} (U:Told N su u) (V:Told N su v) (CQ:∀ n t,t ∈ su.getD n []->t < N):u=v:=by
 apply ext_getElem?;intro n
 by_cases lt:n < N
 ·have l1:n < u.length:=by rw [U.len]; exact lt
  have l2:n < v.length:=by rw [V.len]; exact lt
  have e:u.getD n none=v.getD n none:=by
   cases h:u.getD n none with
   | some k=>exact (Dd U V CQ k.toNat k (aO _) n lt h).symm
   | none =>
    cases h':v.getD n none with
    | none=>rfl
    | some k =>
     rw [Dd V U CQ k.toNat k (aO _) n lt h'] at h;cases h
  simpa [getD,l1,l2] using e
 ·rw [List.getElem?_eq_none (by rw [U.len]; omega),List.getElem?_eq_none (by rw [V.len]; omega)]
def zW {α:Type} (cs:List α) (rk:α->Int) (o:Option α):Prop:=(cs=[]/\o=none)\/∃ (i:Nat) (c:α),cs[i]?=some c/\o=some c/\∀ (j:Nat) c',cs[j]?=some c'->rk c'<=rk c/\(j < i->rk c' < rk c)
theorem zW.one {α:Type} {cs:List α} {rk:α->Int} {o o':Option α} (h:zW cs rk o) (h':zW cs rk o'):o=o':=by
 rcases h with ⟨e,rfl⟩ | ⟨i,c,hc,rfl,f⟩
 ·rcases h' with ⟨_,rfl⟩ | ⟨i',c',hc',rfl,f'⟩
  ·rfl
  ·rw [e] at hc';simp at hc'
 ·rcases h' with ⟨e,rfl⟩ | ⟨i',c',hc',rfl,f'⟩
  ·rw [e] at hc;simp at hc
  ·have h1:=f i' c' hc';have h2:=f' i c hc
   by_cases lt:i < i'
   ·have:=h2.2 lt;omega
   ·by_cases lt':i' < i
    ·have:=h1.2 lt';omega
    ·have e:i=i':=by omega
     subst e;rw [hc] at hc';exact hc'
def yu {α:Type} (rk:α->Int):List α->Option α
 | []=>none
 | c::cs=>match yu rk cs with
  | none=>some c
  | some b=>if rk c < rk b then some b else some c
theorem pN {α:Type} (rk:α->Int):∀ cs:List α,zW cs rk (yu rk cs)
 | []=>.inl ⟨rfl,rfl⟩
 | c::cs=>by
  have ih:=pN rk cs;unfold yu;rcases ih with ⟨e,e'⟩ | ⟨i,b,hb,e',f⟩
  ·rw [e'];refine .inr ⟨0,c,rfl,rfl,fun j c' hj=>?_⟩;cases j with
   | zero =>
    cases hj;exact ⟨dU _,fun z=>absurd z (cR _)⟩
   | succ j =>
    rw [e] at hj;simp at hj
  ·rw [e'];dsimp only
   by_cases z:rk c < rk b
   ·rw [if_pos z];refine .inr ⟨i + 1,b,by simpa using hb,rfl,fun j c' hj=>?_⟩;cases j with
    | zero =>
     cases hj;exact ⟨by omega,fun _=>z⟩
    | succ j =>
     have:=f j c' (by simpa using hj);exact ⟨this.1,fun lt=>this.2 (by omega)⟩
   ·rw [if_neg z];refine .inr ⟨0,c,rfl,rfl,fun j c' hj=>?_⟩;cases j with
    | zero =>
     cases hj;exact ⟨dU _,fun z=>absurd z (cR _)⟩
    | succ j =>
     have:=f j c' (by simpa using hj);exact ⟨by omega,fun z=>absurd z (by omega)⟩
theorem zX {α:Type} {rk:α->Int} {cs:List α} {c:α} (h:yu rk cs=some c):c ∈ cs:=by
 rcases pN rk cs with ⟨_,e⟩ | ⟨i,b,hb,e,_⟩
 ·rw [e] at h;cases h
 ·rw [e] at h;cases h;exact aP hb
def o7 {σ ρ:Type} [DecidableEq σ] (B:σ->Option (ρ × σ)):Nat->σ->List σ->List ρ->List ρ × Option Nat
 | 0,_,_,cs=>(cs,none)
 | n + 1,s,met,cs=>if s ∈ met then (cs,some (met.idxOf s)) else match B s with
  | none=>(cs,none)
  | some c=>o7 B n c.2 (met++[s]) (cs++[c.1])
section
variable {σ ρ:Type} [DecidableEq σ] {B:σ->Option (ρ × σ)} {n:Nat} {s:σ} {met:List σ} {cs:List ρ}
theorem Zi (h:s ∈ met):o7 B (n + 1) s met cs=(cs,some (met.idxOf s)):=by
 unfold o7;rw [if_pos h]
theorem wR (h:s ∈ met):∃ j,met[j]?=some s/\(∀ i z,i < j->met[i]?=some z->z≠s)/\∀ n cs,o7 B (n + 1) s met cs=(cs,some j):=by
 have lj:met.idxOf s < met.length:=List.idxOf_lt_length_iff.mpr h;refine ⟨met.idxOf s,by rw [aG lj]; exact congrArg some (List.getElem_idxOf lj),fun i z lt hz e=>?_,fun n cs=>Zi h⟩;subst e;have l2:=(aF.mp hz).1;have:=List.not_of_lt_findIdx lt;rw [(aF.mp hz).2] at this;simp at this
theorem Fb (h:s ∉ met) (e:B s=none):o7 B (n + 1) s met cs=(cs,none):=by
 unfold o7;rw [if_neg h,e]
theorem Fd (h:s ∉ met) {c:ρ × σ} (e:B s=some c):o7 B (n + 1) s met cs=o7 B n c.2 (met++[s]) (cs++[c.1]):=by
 rw [o7,if_neg h,e]
end
theorem rR:∀ (n:Nat) (l:List Nat),l.Nodup->(∀ x ∈ l,x < n)->l.length<=n
 | 0,[],_,_=>aO _
 | 0,x::_,_,h=>absurd (h x (mem_cons_self ..)) (Nat.not_lt_zero _)
 | n + 1,l,nd,h=>by
  by_cases m:n ∈ l
  ·have:=rR n (l.erase n) (nd.erase n) fun x hx=>by
    have h1:=(Nodup.mem_erase_iff nd).mp hx;have h2:=h x h1.2;have:=h1.1;omega
   rw [List.length_erase_of_mem m] at this;omega
  ·have:=rR n l nd fun x hx=>by
    have h2:=h x hx;have:x≠n:=fun z=>m (z ▸ hx)
    omega
   omega
theorem Kw {σ:Type} {n:Nat} {l:List σ} (nm:σ->Nat) (st:Nat->σ) (nd:l.Nodup) (h:∀ x ∈ l,nm x < n/\st (nm x)=x):l.length<=n:=by
 have e:(l.map nm).map st=l:=by
  rw [eY];exact (map_congr_left fun x hx=>(h x hx).2).trans (List.map_id' l)
 have nd':(l.map nm).Nodup:=by
  rw [<- e] at nd;exact Pairwise.imp (fun h z=>h (by rw [z])) (List.pairwise_map.mp nd)
 have:=rR n (l.map nm) nd' fun x hx=>by
  obtain ⟨s0,hs0,rfl⟩:=bx.mp hx;exact (h s0 hs0).1
 rw [ak] at this;exact this
section
variable {α:Type} {rk:α->Int} {day:α->Option Int} {N:Int} {cs:List α} {c:α} {i:Nat}
theorem Qp (h0:∀ c,day c=none->rk c=N) (h1:∀ c k,day c=some k->rk c=k) (lt:∀ c ∈ cs,∀ k,day c=some k->k < N) (hc:cs[i]?=some c) (dn:day c=none) (no:∀ j c',j < i->cs[j]?=some c'->day c'≠none):yu rk cs=some c:=by
 refine (pN rk cs).one (.inr ⟨i,c,hc,rfl,fun j c' hj=>?_⟩);rw [h0 c dn];cases e:day c' with
 | none=>exact ⟨by rw [h0 c' e]; exact dU _,fun l=>absurd e (no j c' l hj)⟩
 | some k =>
  have:=lt c' (aP hj) k e;rw [h1 c' k e];exact ⟨by omega,fun _=>this⟩
theorem Qq {M:Int} (h1:∀ c k,day c=some k->rk c=k) (all:∀ c ∈ cs,∃ k,day c=some k/\k<=M) (hc:cs[i]?=some c) (dm:day c=some M) (no:∀ j c',j < i->cs[j]?=some c'->day c'≠some M):yu rk cs=some c:=by
 refine (pN rk cs).one (.inr ⟨i,c,hc,rfl,fun j c' hj=>?_⟩);obtain ⟨k,e,le⟩:=all c' (aP hj);rw [h1 c M dm,h1 c' k e];refine ⟨le,fun l=>?_⟩;have:k≠M:=fun z=>no j c' l hj (by rw [e,z])
 omega
end
section
variable {N:Nat} {su:List (List Nat)} {ans:nq}
theorem Ng (T:Told N su ans) {n:Nat} {k:Int} (h:ans.getD n none=some k):n < N:=by
 by_cases l:n < ans.length
 ·rw [<- T.len]; exact l
 ·rw [getD,List.getElem?_eq_none (by omega)] at h;cases h
theorem zY (T:Told N su ans) {n:Nat} {k:Int} (h:ans.getD n none=some k):0<=k:=by
 obtain ⟨f1,f2,f3⟩:=T.ends n k h
 by_cases z:su.getD n []=[]
 ·rw [f2 z]; exact dU _
 ·obtain ⟨t,ht,i,e,ei⟩:=f3 z;obtain ⟨j,e',p,_⟩:=f1 t ht;rw [e] at e';cases e';omega
theorem zZ (T:Told N su ans):∀ (m n:Nat),ans.getD n none=some (m:Int)->∃ l:List Nat,l.length=m + 1/\l.Nodup/\∀ t ∈ l,t < N/\∃ i:Int,ans.getD t none=some i/\i<=(m:Int)
 | 0,n,h=>⟨[n],rfl,by simp,fun t ht=>by
  rw [aC.mp ht];exact ⟨Ng T h,0,h,dU _⟩⟩
 | m + 1,n,h=>by
  obtain ⟨f1,f2,f3⟩:=T.ends n _ h;have z:su.getD n []≠[]:=fun z=>by
   have:=f2 z;omega
  obtain ⟨t,ht,i,e,ei⟩:=f3 z;have ei':i=(m:Int):=by omega
  subst ei';obtain ⟨l,ll,nd,hl⟩:=zZ T m t e;refine ⟨n::l,by rw [length_cons,ll],nodup_cons.mpr ⟨fun hm=>?_,nd⟩,fun t' ht'=>?_⟩
  ·obtain ⟨_,j,ej,lj⟩:=hl n hm;rw [h] at ej;cases ej;omega
  ·rcases aR.mp ht' with rfl | hm
   ·exact ⟨Ng T h,_,h,dU _⟩
   ·obtain ⟨l1,j,ej,lj⟩:=hl t' hm;exact ⟨l1,j,ej,by omega⟩
theorem Fe (T:Told N su ans) {n:Nat} {k:Int} (h:ans.getD n none=some k):k < (N:Int):=by
 have p:=zY T h;obtain ⟨m,rfl⟩:∃ m:Nat,k=(m:Int):=⟨k.toNat,by omega⟩;obtain ⟨l,ll,nd,hl⟩:=zZ T m n h;have:=rR N l nd fun t ht=>(hl t ht).1
 omega
end
end Tw
namespace Tw
open PySem PySem.Spec PyProof.Rows L2
section
variable {α:Type} [DecidableEq α] {R:Rep α}
open Classical in
noncomputable def isK (R:Rep α) (H:Hp) (k:α):aB->Bool:=fun w=>decide (∃ t,w=.ref t/\R H (.ref t) k)
open Classical in
theorem Fi {K:Fg} {n:Nat} (E:oX K n R) {H:Hp} {t:aA} {x k:α} (r:R H (.ref t) x):isK R H k (.ref t)=decide (x=k):=by
 unfold isK
 by_cases z:x=k
 ·subst z;rw [aM (show x=x from rfl)];exact aM ⟨t,rfl,r⟩
 ·rw [aL z];refine aL fun h=>z ?_
  obtain ⟨t',e,r'⟩:=h;cases e;exact E.one r r'
theorem Fj {H:Hp} (ro:∀ v x,R H v x->∃ t,v=.ref t):∀ {vs:List V} {xs:List α},Paired (R H) vs xs->∃ ts:List aA,vs=ts.map V.ref/\ts.length=xs.length/\∀ (i:Nat) t x,ts[i]?=some t->xs[i]?=some x->R H (.ref t) x
 | _,_,.nil=>⟨[],rfl,rfl,fun i t x h=>by simp at h⟩
 | _,_,.cons (a:=v) (b:=x) h r=>by
  obtain ⟨ts,rfl,l,f⟩:=Fj ro r;obtain ⟨t,rfl⟩:=ro _ _ h;refine ⟨t::ts,rfl,by rw [length_cons,length_cons,l],fun i t' x' h1 h2=>?_⟩;cases i with
  | zero =>
   cases h1;cases h2;exact h
  | succ i=>exact f i t' x' (by simpa using h1) (by simpa using h2)
theorem wU:∀ {ts:List aA} {us:List aB},Vals (ts.map V.ref) us->us=ts.map Value.ref
 | [],_,.nil=>rfl
 | t::ts,_,.cons r q=>by rw [cY,<- wU q]; cases r; rfl
theorem Nh {K:Fg} {n:Nat} (E:oX K n R) {H:Hp} {k:α}:∀ {ts:List aA} {xs:List α},ts.length=xs.length->(∀ (i:Nat) t x,ts[i]?=some t->xs[i]?=some x->R H (.ref t) x)->(ts.map Value.ref).any (isK R H k)=decide (k ∈ xs)
 | [],[],_,_=>by simp
 | [],_::_,len,_=>by simp at len
 | _::_,[],len,_=>by simp at len
 | t::ts,x::xs,h,f=>by
  rw [cY,any_cons,Fi E (f 0 t x rfl rfl),Nh E (by simpa using h) fun i t' x' h1 h2=>f (i + 1) t' x' (by simpa using h1) (by simpa using h2)]
  by_cases z:x=k
  ·simp [z]
  ·have z':¬ k=x:=fun y=>z y.symm
   simp [z,z']
end
section
variable {X:Cx} {α:Type} [DecidableEq α] {R:Rep α} {n:Nat}
def Zj (R:Rep α):R2:=fun x y H Q=>∃ xs k,iJ R H y xs/\R H x k/\Q (.bl (!decide (k ∈ xs))) H
theorem Qs (E:oX X.K n R) (hn:n<=50) (hu:X.A.units + 64 < cLine) (ro:∀ H v x,R H v x->∃ t,v=.ref t):pB X (compareOp .NotIn) (Zj R):=by
 intro pins s σ H x y v u Q I rx ry h;obtain ⟨xs,k,⟨l,vs,rfl,hl,pv⟩,rk,q⟩:=h;cases ry;obtain ⟨ts,rfl,lt,at_⟩:=Fj (ro H) pv;obtain ⟨its,r,pl,hz⟩:=I.list (cU.of (K:=X.K) hl);have ei:=wU r;subst ei;refine SeqAt.notIn_listAt (isK R H k) pl.isList (fun w hw=>?_) ⟨.bl _,H,I,rfl,?_⟩
 ·obtain ⟨t,ht,rfl⟩:=bx.mp (show w ∈ ts.map Value.ref by simpa using hw);obtain ⟨i,hi⟩:=cJ ht;have lx:i < xs.length:=by rw [<- lt]; exact (aF.mp hi).1
  have rt:=at_ i t _ hi (aG lx);rw [Fi E rt];exact (E.eq rt rk).at_ I X.A.in1 _ _ (by rw [show ∀ A:d7,A.in1.units=A.units + 1 from fun _=>rfl]; omega) rfl rx
 ·rw [show (ts.map Value.ref).toArray.any (isK R H k)=(ts.map Value.ref).any (isK R H k) by simp,Nh E lt at_];exact q
def Zk (R:Rep α):V->List V->Hp->VK->Prop:=fun x ws H Q=>∃ y xs k j,ws=[y]/\iJ R H x xs/\R H y k/\xs[j]?=some k/\(∀ i z,i < j->xs[i]?=some z->z≠k)/\Q (.int ((j:Nat):Int)) H
theorem Qt (E:oX X.K n R) (hn:n<=50) (hu:X.A.units + 64 < cLine) (ro:∀ H v x,R H v x->∃ t,v=.ref t):MtM X "list.index" (Zk R):=by
 intro pins s σ H x ws v us Q I rx rv h;obtain ⟨y,xs,k,j,rfl,⟨l,vs,rfl,hl,pv⟩,rk,hj,no,q⟩:=h;cases rx;obtain ⟨u,rfl,ru⟩:=rv.one;obtain ⟨ts,rfl,lt,at_⟩:=Fj (ro H) pv;obtain ⟨sz,its,m,r,hz,e⟩:=I.JW hl;have ei:=wU r;subst ei;have lj:j < ts.length:=by rw [lt]; exact (aF.mp hj).1
 have hj':j < (ts.map Value.ref).toArray.size:=by simpa using lj
 have small:(j:Int) < 2 ^ 63 - 1:=by
  have h1:ts.length<=sizeLine:=by rw [ak] at sz; exact sz
  have h2:(sizeLine:Nat) < 2 ^ 62:=by rw [sizeLine_eq]; decide
  omega
 have is:∀ (i:Nat) (hi:i < (ts.map Value.ref).toArray.size) x,xs[i]?=some x->isK R H k (ts.map Value.ref).toArray[i]=decide (x=k):=fun i hi x hx=>by
  have li:i < ts.length:=by simpa using hi
  have e1:(ts.map Value.ref).toArray[i]=.ref ts[i]:=by simp
  rw [e1];exact Fi E (at_ i _ x (aG li) hx)
 refine call_meets F.slot_list_index ⟨_,e,rfl⟩ F.entry_list_index (F.args_list_index_2 _ _) (SeqAt.list_indexAt l (ts.map Value.ref).toArray m none #[] u (isK R H k) j hj' small (by rw [is j hj' k hj,aM rfl]) fun i hi lt'=>?_) ⟨e,fun w hw=>?_,⟨.int _,H,I.tok _,⟨_,rfl⟩,q⟩⟩
 ·have li:i < xs.length:=by
   rw [<- lt];simpa using hi
  rw [is i hi _ (aG li)];exact aL (no i _ lt' (aG li))
 ·obtain ⟨t,ht,rfl⟩:=bx.mp (show w ∈ ts.map Value.ref by simpa using hw);obtain ⟨i,hi⟩:=cJ ht;have lx:i < xs.length:=by rw [<- lt]; exact (aF.mp hi).1
  have rt:=at_ i t _ hi (aG lx);rw [Fi E rt];exact (E.eq rt rk).at_ I _ _ _ (by simp; omega) rfl ru
end
end Tw
namespace L2
open PySem
def qp (H:Hp):Hp:=fun b=>match H b with
 | some (.yd _)=>none
 | o=>o
theorem iz {H:Hp} {b:aA} {o:HO} (h:H b=some o) (n:∀ ps,o≠.yd ps):qp H b=some o:=by
 unfold qp;rw [h];cases o <;> first | rfl | exact absurd rfl (n _)
theorem dR {H:Hp}:Same (qp H) H:=fun b o h=>by
 unfold qp at h
 split at h
 ·cases h
 ·exact h
theorem T7 {H:Hp} {b:aA} {o:HO} (h:qp H b=some o):∀ ps,o≠.yd ps:=by
 intro ps e;subst e;unfold qp at h
 split at h
 ·cases h
 ·rename_i o' n
  exact n ps h
theorem jw.off {P:aA} {H H':Hp} {ps:Array aB} (s:jw P H H') (t:H P=some (.yd ps)):Same (qp H) (qp H'):=fun b o h=>by
 refine iz (s b o (fun z=>?_) (dR _ _ h)) (T7 h);subst z;have:=dR _ _ h;rw [t] at this;cases this;exact T7 h _ rfl
theorem jw.lam {P:aA} {H H':Hp} {pos:Pos} {q:Str} (s:jw P H H') (t:jV P pos q H):Same (qp H) (qp H'):=by
 obtain ⟨ps,h,_⟩:=t;exact s.off h
theorem Same.but {P:aA} {H H':Hp} (s:Same H H'):jw P H H':=fun b o _ e=>s b o e
theorem jV.same {P:aA} {H H':Hp} {pos:Pos} {q:Str} (t:jV P pos q H) (s:Same H H'):jV P pos q H':=by
 obtain ⟨ps,h,ok,h'⟩:=t;refine ⟨ps,s _ _ h,ok,h'.imp id ?_⟩;rintro ⟨c,e,hc⟩;exact ⟨c,e,s _ _ hc⟩
end L2
namespace Tw
open PySem L2
structure qK {α:Type} (R:Rep α):Prop where
 of:∀ {H:Hp} {v:V} {x:α},R H v x->R (qp H) v x
theorem vU:qK oh:=⟨fun h=>h⟩
theorem Ni:qK Ke:=⟨fun h=>h⟩
section
variable {α β γ:Type} {R:Rep α} {S:Rep β} {T:Rep γ}
theorem T8 (r:qK R):qK (vB R):=by
 constructor;rintro H v xs ⟨t,vs,e,h,p⟩;exact ⟨t,vs,e,iz h (fun _ z=>by cases z),Paired.gG p fun _ _ z=>r.of z⟩
theorem zf (r:qK R):qK (iJ R):=by
 constructor;rintro H v xs ⟨t,vs,e,h,p⟩;exact ⟨t,vs,e,iz h (fun _ z=>by cases z),Paired.gG p fun _ _ z=>r.of z⟩
theorem Ht (r:qK R) (s:qK S):qK (yr R S):=by
 constructor;rintro H v c ⟨t,u,w,e,h,a,b⟩;exact ⟨t,u,w,e,iz h (fun _ z=>by cases z),r.of a,s.of b⟩
theorem T9 (r:qK R) (s:qK S) (q:qK T):qK (M5 R S T):=by
 constructor;rintro H v x ⟨t,u,w,z,e,h,a,b,c⟩;exact ⟨t,u,w,z,e,iz h (fun _ y=>by cases y),r.of a,s.of b,q.of c⟩
end
end Tw
namespace L2
open PySem
def Qw (q:Str):Obj:={ cls:=.none,data:=.fields #[.none,.str q 0] }
def z6 (q:Str):Nat->Heap
 | 0=>{ objs:=#[] }
 | n + 1=>(z6 q n).push (Qw q)
theorem Hu (q:Str):∀ n,(z6 q n).objs.size=n
 | 0=>rfl
 | n + 1=>by
  show ((z6 q n).push (Qw q)).objs.size=n + 1
  rw [show ((z6 q n).push (Qw q)).objs.size=(z6 q n).objs.size + 1 from Array.size_push _,Hu q n]
theorem Ua (q:Str) (c:aA):(z6 q (c + 1)).get? c=some (Qw q):=by
 have:((z6 q c).push (Qw q)).get? (z6 q c).objs.size=some (Qw q):=aN _ rfl;rw [Hu] at this;exact this
theorem Qx {P:cC} {w:World} {c:aA} {q:Str} {ks:List nH}:sX c q≠iu P w c ks:=by
 intro e;have e':(fun h:Heap=>h.CodeRec (.ref c) q)=_:=HO.ext.inj e;have h1:(z6 q (c + 1)).CodeRec (.ref c) q:=⟨c,_,_,0,rfl,Ua q c,rfl,rfl⟩;have h2:=congrFun e' (z6 q (c + 1));have h3:(z6 q (c + 1)).CodeRec (.ref c) q=_:=h2;rw [h3] at h1;obtain ⟨_,rows,o,es,ep,_,ho,_,hd,_⟩:=h1;rw [Ua] at ho;cases ho;cases hd
theorem jV.upd {P D:aA} {H:Hp} {pos:Pos} {q:Str} {o u:HO} (t:jV P pos q H) (hD:H D=some u) (n1:∀ ps,HO.yd ps≠u) (n2:sX D q≠u):jV P pos q (upd H D o):=by
 obtain ⟨ps,h,ok,h'⟩:=t;refine ⟨ps,by rw [bf (jX h hD (n1 ps))]; exact h,ok,h'.imp id ?_⟩;rintro ⟨c,e,hc⟩;refine ⟨c,e,?_⟩;rw [bf]
 ·exact hc
 ·intro z;subst z;rw [hc] at hD;exact n2 (bQ hD)
theorem jw.upd {P D:aA} {H H':Hp} {o:HO} (b:jw P H H') (n:H D=none):jw P H (upd H' D o):=fun c u nc e=>by
 rw [bf (dw e n)];exact b c u nc e
theorem jw.new {P D:aA} {H H':Hp} (b:jw P H H') (n:H' D=none) (ne:D≠P):H D=none:=by
 cases e:H D with
 | none=>rfl
 | some o=>rw [b D o ne e] at n; cases n
end L2
namespace L2
open PySem PySem.Spec PyProof.Rows
def hp0 (PB a:aA) (u:Option HO):Hp:=fun b=>if b=PB then some (.yd #[]) else if b=a then u else none
theorem Qy {P:cC} {w:World} {K:Fg} {mg mb:Str->Option aB} {CX:Gj} {k:Nat} {fa a PB cB:aA} {fd:fQ} {x:Str} {sp:Sp} {s₁:aX} {vs:List aB} {ns:List Int} (KX:K.In s₁.heap) (hns:s₁.heap.Ns mainGlobals mg) (hb:s₁.heap.Ns builtinsNs mb) (hbb:∀ x:Str,x≠"__name__"->mb x=bootBuiltins x) (hlim:s₁.heap.NoLimit) (hg:s₁.gens=#[]) (hP:s₁.heap.get? PB=some (tabObj #[])) (nP:K.lookup PB=none) (hC:CodeHd s₁.heap cB PB) (hbm:s₁.heap.BuiltinsAt mg PB) (ha:s₁.heap.get? a=some { cls:=.type "list",data:=.seq vs.toArray }) (hi:IntsAre vs ns) (hl:ns.length<=sizeLine) (hr:d8 k callerA) (F:∀ base:Heap,K.In base->base.Ns mainGlobals mg->base.BuiltinsAt mg PB->cD P w K mg base CX k fa fd [x] sp) (hbind:∀ (s:aX) (u:aB),BindsTo s fd ⟨[u],[]⟩ [(x,u)]) (hsp:∀ H:Hp,H PB=some (.yd #[])->cU K H a (ns.map V.int)->sp [.ref a] H (fun v _=>v=.bl true) fun _ _ _=>False) (hCX:∀ H e s',CX [] H s₁ (fun _ _ _=>False) e s'->False) : codeAny (model P w) callerA (.call (.ref fa) ⟨[.ref a],[]⟩) (fun r s'=>r=.ok (.ret (.bool true))/\OldK s₁.heap s'.heap/\s'.os=s₁.os/\AllBare s'.gens) s₁:=by
 have rv:=Cm hi;have lenV:=hi.length;have naP:a≠PB:=fun z=>by
  rw [z,hP] at ha;cases ha
 have core:∀ u:Option HO,(∀ o,u=some o->∃ ob xs,o=.DQ ob (.lst xs))->cU K (hp0 PB a u) a (ns.map V.int)->wH P w (hp0 PB a u) s₁.heap->(u≠none->K.lookup a=none) ->
   codeAny (model P w) callerA (.call (.ref fa) ⟨[.ref a],[]⟩) (fun r s'=>r=.ok (.ret (.bool true))/\OldK s₁.heap s'.heap/\s'.os=s₁.os/\AllBare s'.gens) s₁:=by
  intro u hu hS hok hK;have hPB:hp0 PB a u PB=some (.yd #[]):=if_pos rfl;have hA:∀ b,hp0 PB a u b≠none->b=PB\/(b=a/\u≠none):=fun b z=>by
   by_cases e:b=PB
   ·exact .inl e
   ·by_cases e':b=a
    ·refine .inr ⟨e',fun z'=>z ?_⟩;unfold hp0;rw [if_neg e,if_pos e',z']
    ·refine absurd ?_ z;unfold hp0;rw [if_neg e,if_neg e']
  have Fl:∀ {b:aA} {o:Obj},s₁.heap.get? b=some o->hp0 PB a u b=none->(Bt s₁.heap (hp0 PB a u)).get? b=some o:=fun e n=>Rr e n
  have no:∀ {b:aA} {o:Obj},s₁.heap.get? b=some o->(∀ its,o.data≠.seq its)->(∀ ps,o.data≠.fields ps)->hp0 PB a u b=none:=fun {b o} e n1 n2=>by
   cases q:hp0 PB a u b with
   | none=>rfl
   | some v =>
    rcases hA b (by rw [q]; simp) with e' | ⟨e',_⟩
    ·rw [e',hP] at e;cases e;exact absurd rfl (n2 _)
    ·rw [e',ha] at e;cases e;exact absurd rfl (n1 _)
  have nsK:∀ {b:aA} {m:Str->Option aB},s₁.heap.Ns b m->(Bt s₁.heap (hp0 PB a u)).Ns b m:=fun {b m} ⟨o,es,ep,e,d,r⟩=>⟨o,es,ep,Fl e (no e (fun _ z=>by rw [d] at z; cases z) (fun _ z=>by rw [d] at z; cases z)),d,r⟩
  have hKb:K.In (Bt s₁.heap (hp0 PB a u)):=fun b o e=>Fl (KX b o e) (by
   cases q:hp0 PB a u b with
   | none=>rfl
   | some v =>
    rcases hA b (by rw [q]; simp) with e' | ⟨e',z⟩
    ·rw [e',nP] at e; cases e
    ·rw [e',hK z] at e; cases e)
  have az6:(Bt s₁.heap (hp0 PB a u)).BuiltinsAt mg PB:=by
   obtain ⟨bm,o,h1,h2,h3,h4,h5,h6,h7,h8⟩:=hbm;exact ⟨bm,o,h1,h2,h3,h4,Fl h5 (no h5 (fun _ z=>by rw [h8] at z; cases z) (fun _ z=>by rw [h8] at z; cases z)),h6,h7,h8⟩
  have hM:Mod K mg (Bt s₁.heap (hp0 PB a u)):=⟨hKb,nsK hns,⟨mb,nsK hb,hbb⟩,let ⟨mc,h1,h2⟩:=hlim; ⟨mc,nsK h1,h2⟩⟩;have e0:Gq P w K mg (Bt s₁.heap (hp0 PB a u)) callerA [] s₁ (hp0 PB a u):=⟨rfl,hM,fun b o e=>Yn e,Nat.le_of_eq (Oq _ _),trivial,fun b hb=>absurd (show b ∈ ([]:List aA) from hb) (by simp),hok,.of_eq hg⟩;refine codeAny_mono ((F _ hKb (nsK hns) az6).run callerA [] s₁ (hp0 PB a u) ⟨[.ref a],[]⟩ [.ref a] [.ref a] _ _ hr e0 (hbind s₁ (.ref a)) (.cons rfl .nil) (hsp _ hPB hS)) fun r s' h=>?_
  cases r with
  | error e=>exact (hCX _ e s' h).elim
  | ok fl =>
   cases fl with
   | next=>exact False.elim h
   | brk=>exact False.elim h
   | cont=>exact False.elim h
   | ret v' =>
    obtain ⟨v,H',os,bare,un,hok',r',q⟩:=h;have q':v=.bl true:=q;subst q';obtain rfl:v'=Value.bool true:=r';have abu:∀ b o,b≠PB->s₁.heap.get? b=some o->s'.heap.get? b=some o:=fun b o nb e=>by
     cases q:hp0 PB a u b with
     | none=>exact un.keep b o e q (by intro z; exact absurd (show b ∈ ([]:List aA) from z) (by simp)) (by simp)
     | some v =>
      rcases hA b (by rw [q]; simp) with e' | ⟨e',_⟩
      ·exact absurd e' nb
      ·have hub:hp0 PB a u b=u:=by
        unfold hp0;rw [if_neg nb,if_pos e']
       obtain ⟨ob,xs,z⟩:=hu v (by rw [<- hub]; exact q);rw [z] at q;have z2:=un.yI b ob _ q;obtain ⟨e1,_⟩:=hok b _ q;obtain ⟨e2,_⟩:=hok' b _ z2;rw [e] at e1; cases e1;exact e2
    obtain ⟨more,hm⟩:=un.yJ PB #[] hPB;have htb:s'.heap.get? PB=some (tabObj (#[]++more)):=hok' PB _ hm;refine ⟨rfl,⟨fun b o e=>?_,fun b o e=>?_⟩,os,bare⟩
    ·by_cases nb:b=PB
     ·subst nb;rw [hP] at e;cases e;exact .inr (.inl ⟨(hC.tab hP).isCodeTable,rfl,#[],more,rfl,htb⟩)
     ·exact .inl (abu b o nb e)
    ·by_cases nb:b=PB
     ·subst nb;exact ⟨_,htb⟩
     ·exact ⟨o,abu b o nb e⟩
 cases hk:K.lookup a with
 | some o =>
  have e:=KX a o hk;rw [ha] at e;cases e;refine core none (fun o z=>by cases z) (.inr ⟨_,vs.toArray,_,hk,rfl,rfl,rfl,by rw [size_toArray,lenV]; exact hl,by simpa using rv⟩) (fun b u z=>?_) fun z=>absurd rfl z
  by_cases e1:b=PB
  ·subst e1;rw [show hp0 b a none b=some (.yd #[]) from if_pos rfl] at z;cases z;exact hP
  ·unfold hp0 at z;rw [if_neg e1] at z
   split at z <;> cases z
 | none =>
  have eA:hp0 PB a (some (.DQ { cls:=.type "list",data:=.seq vs.toArray } (.lst (ns.map V.int)))) a=some (.DQ { cls:=.type "list",data:=.seq vs.toArray } (.lst (ns.map V.int))):=by
   unfold hp0;rw [if_neg naP,if_pos rfl]
  refine core (some (.DQ { cls:=.type "list",data:=.seq vs.toArray } (.lst (ns.map V.int)))) (fun o z=>⟨_,_,(bQ z).symm⟩) (.inl (.inr ⟨_,eA⟩)) (fun b u z=>?_) fun _=>hk
  by_cases e1:b=PB
  ·subst e1;rw [show hp0 b a _ b=some (.yd #[]) from if_pos rfl] at z;cases z;exact hP
  ·by_cases e2:b=a
   ·subst e2;rw [eA] at z;cases z;exact ⟨ha,by rw [ak]; exact hl,vs,_,rv,ha⟩
   ·unfold hp0 at z;rw [if_neg e1,if_neg e2] at z;cases z
theorem Zm {K:Fg} {h:Heap} {PB:aA} {o:Obj} (nP:K.lookup PB=none) (X:PySem.W.Frag.In ((PB,o)::K) h):K.In h/\h.get? PB=some o:=by
 have h2:List.lookup PB ((PB,o)::K)=some o:=by rw [List.lookup_cons,beq_self_eq_true]
 have h1:∀ b u,K.lookup b=some u->List.lookup b ((PB,o)::K)=some u:=fun b u e=>by
  have nb:(b == PB)=false:=by
   rw [beq_eq_false_iff_ne];intro z;rw [z,nP] at e;cases e
  rw [List.lookup_cons,nb];exact e
 exact ⟨fun b u e=>X b u (h1 b u e),X PB o h2⟩
theorem Ub {l:PySem.W.OpenLaw} {n k:Nat} {q:cC} {loose:List Str} {XP:(Str->Option aB)->Heap->Prop} {YP:World->Heap->Prop} {d:DefRec} {K:Params->Fg} {CX:World->Gj} {sp:World->Sp} {x:Str} {PB cB:aA} (hn:l.most=some n) (hn2:n<=sizeLine) (hdf:d.params.defaults=[]) (hr:d8 k callerA) (hY:∀ (w:World) (h:Heap),YP w h->(K w.params).In h/\h.get? PB=some (tabObj #[])) (nP:∀ p,(K p).lookup PB=none) (F:∀ (w:World) (mg:Str->Option aB) (fa:aA) (h:Heap),(K w.params).In h->h.Ns mainGlobals mg->mg d.name=some (.ref fa) -> ∃ fd:fQ,(∀ (s:aX) (u:aB),BindsTo s fd ⟨[u],[]⟩ [(x,u)])/\(∀ base:Heap,(K w.params).In base->CodeHd base cB PB) /\ ∀ base:Heap,(K w.params).In base->base.Ns mainGlobals mg->base.BuiltinsAt mg PB->cD l.prog w (K w.params) mg base (CX w) k fa fd [x] (sp w)) (hsp:∀ (w:World) (H:Hp) (a:aA) (ns:List Int),ns.length<=n->H PB=some (.yd #[])->cU (K w.params) H a (ns.map V.int)->sp w [.ref a] H (fun v _=>v=.bl true) fun _ _ _=>False) (hCX:∀ (w:World) (H:Hp) (s:aX) (e:aB) (s':aX),CX w [] H s (fun _ _ _=>False) e s'->False) : PySem.W.WalkO q loose XP YP l.row.toRowW d [] (fun f vs=>PySem.call f vs):=by
 refine Att.Gx hn hdf fun w s₀ s₁ mg mb fa o pm cd doc a vs ns G Y ho hd hcd hmg hobj hints hlen hg=>?_
 obtain ⟨KX,hP⟩:=hY w _ Y;obtain ⟨fd,hb,hC,hF⟩:=F w mg fa _ KX G.T.g hmg;have hbm:s₁.heap.BuiltinsAt mg PB:=by
  obtain ⟨bm,ob,c1,c2,c3,c4,c5,c6⟩:=G.T.bmain;refine ⟨bm,ob,c1,c2,fun z=>?_,fun z=>?_,c3,c4,c5,c6⟩
  ·obtain ⟨o',es,ep,e',hd',_⟩:=G.T.g;rw [z,e'] at c3;cases c3;rw [hd'] at c6;cases c6
  ·rw [z,hP] at c3;cases c3;cases c4
 exact Qy KX G.T.g G.T.b G.T.builtins G.T.nolimit hg hP (nP _) (hC _ KX) hbm hobj hints (bJ hlen hn2) hr hF hb (fun H hO hS=>hsp w H a ns hlen hO hS) fun H e s'=>hCX w H s₁ e s'
end L2
namespace Tw
open PySem L2
abbrev wV:dW:=top 2
abbrev rT:dW:=top 15
structure Qz (mg:Str->Option aB):Prop where
 isinstance:mg "isinstance"=none
 bool:mg "bool"=none
 int:mg "int"=none
 str:mg "str"=none
 list:mg "list"=none
 tuple:mg "tuple"=none
 len:mg "len"=none
 all:mg "all"=none
 set:mg "set"=none
 zip:mg "zip"=none
 reversed:mg "reversed"=none
 range:mg "range"=none
section
variable {P:cC} {w:World} {K:Fg} {mg:Str->Option aB} {base:Heap}
def dD (v:V) (l m:Int):Bool:=match v with
 | .int i=>decide (l<=i) && decide (i<=m)
 | _=>false
def Nj (K:Fg):Sp:=fun vs H Q _=>∃ v l m k,vs=[v,.int l,.int m]/\gh K H v k/\Q (.bl (dD v l m)) H
theorem Zn:bV ["value","least","most"] ["value","least","most"] (aW wV):=eO (by decide +kernel)
theorem Uc {f:aA} {fd:fQ} (F:n6 K "is_whole" "is_whole" wV f fd) (B:Qz mg):cD P w K mg base (fL P w) 1 f fd ["value","least","most"] (Nj K):=by
 refine F.mF Zn (fun vs H Q E h=>?_) (fun cdv A outer s H vs Q E hr h=>?_)
 ·obtain ⟨v,l,m,k,rfl,_⟩:=h;rfl
 ·obtain ⟨v,l,m,k,rfl,hk,q⟩:=h;refine ⟨_,aH (eV (pw_or (gQ (qD .bool B.isinstance B.bool (pv 0))) (pw_or1 (iG (gQ (qD .int B.isinstance B.int (pv 0)))))).pt (aU (cj qb)) cX) (aU (cj (Gn BZ BZ (pv 1) (pv 0) (pv 2)))),?_⟩;refine ⟨_,rfl,v,k,rfl,hk,_,rfl,?_⟩;have no:(∀ i,v≠.int i)->dD v l m=false:=fun h=>by
   cases v with
   | int i=>exact absurd rfl (h i)
   | _=>rfl
  cases k with
  | bl=>obtain ⟨b,rfl⟩:=hk; exact eE (eE q)
  | int =>
   obtain ⟨z,rfl⟩:=hk;refine d9 ⟨_,rfl,_,.int,rfl,⟨z,rfl⟩,_,rfl,?_⟩;refine d9 ⟨_,rfl,_,rfl,_,_,rfl,rfl,_,rfl,?_⟩;have e:dD (.int z) l m=(decide (l<=z) && decide (z<=m)):=rfl;rw [e] at q
   by_cases h1:l<=z
   ·rw [aM h1] at q ⊢;exact eE ⟨_,rfl,_,_,rfl,rfl,q⟩
   ·rw [aL h1] at q ⊢;exact d9 q
  | non=>cases hk; exact d9 ⟨_,rfl,_,.non,rfl,rfl,_,rfl,eE q⟩
  | str=>obtain ⟨x,rfl⟩:=hk; exact d9 ⟨_,rfl,_,.str,rfl,⟨x,rfl⟩,_,rfl,eE q⟩
  | lst=>obtain ⟨a,xs,rfl,e⟩:=hk; exact d9 ⟨_,rfl,_,.lst,rfl,⟨a,xs,rfl,e⟩,_,rfl,eE q⟩
  | tup=>obtain ⟨a,xs,rfl,e⟩:=hk; exact d9 ⟨_,rfl,_,.tup,rfl,⟨a,xs,rfl,e⟩,_,rfl,eE q⟩
  | ins C=>obtain ⟨a,dx,fs,rfl,e⟩:=hk; exact d9 ⟨_,rfl,_,.ins C,rfl,⟨a,dx,fs,rfl,e⟩,_,rfl,eE q⟩
def letter (c:Nat):Bool:=!decide ([c] < [97]) && !decide ([122] < [c])
def nameV (v:V):Bool:=match v with
 | .str x=>decide (1<=x.length) && decide (x.length<=12) && x.cps.toList.all letter
 | _=>false
theorem QB (a:Array Nat):((List.range a.size).map fun i=>letter (a.getD i 0)).all id=a.toList.all letter:=by
 have e:a.toList=(List.range a.size).map fun i=>a.getD i 0:=by
  apply ext_getElem?;intro i
  by_cases h:i < a.size
  ·simp [h]
  ·simp [h]
 rw [e,all_map,all_map];rfl
def Ud (K:Fg):Sp:=fun vs H Q _=>∃ v k,vs=[v]/\gh K H v k/\(∀ x,v=.str x->x.length<=sizeLine)/\∀ H',Same H H'->Q (.bl (nameV v)) H'
theorem ain:bV ["value"] ["value"] (aW rT):=eO (by decide +kernel)
theorem Zo {f:aA} {fd:fQ} {t:Tok} (F:n6 K "is_name" "is_name" rT f fd) (B:Qz mg) (hl:mg "LONGEST_NAME"=some (.int 12 t)):cD P w K mg base (fL P w) 1 f fd ["value"] (Ud K):=by
 refine F.mF ain (fun vs H Q E h=>?_) (fun cdv A outer s H vs Q E hr h=>?_)
 ·obtain ⟨v,k,rfl,_⟩:=h;rfl
 ·obtain ⟨v,k,rfl,hk,hz,q⟩:=h;refine ⟨_,aH (eV (pw_or (iG (gQ (qD .str B.isinstance B.str (pv 0)))) (pw_or1 (iG (Gp BZ BZ aV (ig Ei B.len PySem.boot_len (ao (pv 0) aK)) (qg (.int 12) hl ⟨t,rfl⟩))))).pt (aU (cj qb)) cX) (aU (cj (ig (Cw rfl) B.all boot_all (ao (jg bW rfl ⟨_,_,rfl,rfl,rfl⟩ (jk.plain (N':=["sign"]) rfl (by decide +kernel) (by decide +kernel)) (ah8 (pv 0)) (fun _ _ _ _ _=>cZ 0 (show [("sign":Str)].Nodup by decide +kernel)) (fun _ _ _ _ _=>jf) (fun _ _ _ _ _ _=>Gn Cy Cy ju (pv 0) ju)) aK)))),?_⟩;refine ⟨_,rfl,v,k,rfl,hk,_,rfl,?_⟩;cases k with
  | str =>
   obtain ⟨x,rfl⟩:=hk;refine d9 ⟨_,rfl,x,rfl,hz x rfl,_,_,rfl,rfl,_,rfl,?_⟩;have en:nameV (.str x)=(decide (1<=x.length) && decide (x.length<=12) && x.cps.toList.all letter):=rfl
   by_cases h1:1<=x.length
   ·have h1':(1:Int)<=(x.length:Int):=by omega
    rw [aM h1'];refine eE ⟨_,_,rfl,rfl,_,rfl,?_⟩
    by_cases h2:x.length<=12
    ·have h2':(x.length:Int)<=12:=by omega
     rw [aM h2'];refine d9 ⟨_,rfl,x,rfl,fun D hD=>?_⟩;rw [aM h1,aM h2] at en;have hD1:Same H (upd H D (.lst ((List.range x.cps.size).map fun i=>V.bl (letter (x.cps.getD i 0))))):=aY hD;refine yW x.cps.size (hz x rfl) (fun i=>.bl (letter (x.cps.getD i 0))) (fun i H'=>H'=upd H D (.lst ((List.range i).map fun i=>V.bl (letter (x.cps.getD i 0))))) rfl (fun i H' _ e=>by rw [e,aD]) (fun H' e=>⟨rfl,?_⟩) (fun i H' lt e=>⟨lt,?_⟩)
     ·subst e;refine ⟨D,(List.range x.cps.size).map fun i=>letter (x.cps.getD i 0),rfl,cU.of (by rw [aD,eY]; rfl),?_⟩;rw [QB];have q':=q _ hD1;rw [en] at q';exact q'
     ·rintro v yp ⟨rfl,c,hc,rfl⟩ Qc k;subst e;refine ⟨g8,_,rfl,_,_,rfl,rfl,_,rfl,?_⟩;have k':=k _ aD (by rw [lQ]);have ec:x.cps.getD i 0=c:=by simp [hc]
      have el:letter c=(!decide ([c] < [97]) && !decide ([122] < [c])):=rfl;rw [ec,el] at k'
      change if (!decide ([c] < [97]))=true then _ else _
      cases h3:!decide ([c] < [97]) with
      | false =>
       rw [h3] at k';exact d9 k'
      | true =>
       rw [h3] at k';exact eE ⟨_,_,rfl,rfl,k'⟩
    ·have h2':¬ (x.length:Int)<=12:=by omega
     rw [aL h2'];have q':=q H (Same.refl _);rw [en,aM h1,aL h2] at q';exact eE q'
   ·have h1':¬ (1:Int)<=(x.length:Int):=by omega
    rw [aL h1'];have q':=q H (Same.refl _);rw [en,aL h1] at q';exact d9 ⟨_,rfl,eE q'⟩
  | non=>cases hk; exact eE (eE (q H (Same.refl _)))
  | bl=>obtain ⟨x,rfl⟩:=hk; exact eE (eE (q H (Same.refl _)))
  | int=>obtain ⟨x,rfl⟩:=hk; exact eE (eE (q H (Same.refl _)))
  | lst=>obtain ⟨a,xs,rfl,e⟩:=hk; exact eE (eE (q H (Same.refl _)))
  | tup=>obtain ⟨a,xs,rfl,e⟩:=hk; exact eE (eE (q H (Same.refl _)))
  | ins C=>obtain ⟨a,dx,fs,rfl,e⟩:=hk; exact eE (eE (q H (Same.refl _)))
end
abbrev qL:dW:=inClass (top 16) 0
abbrev vV:dW:=inClass (top 16) 3
abbrev qM:dW:=inClass (top 17) 0
abbrev vW:dW:=inClass (top 17) 3
abbrev Ue:List aB:=[.type "ValueError",.type "Exception",.type "BaseException",.type "object"]
structure Fn (K:Fg) (x qual:Str) (st:dW) (ps:List Str) (f:aA) (fd:fQ):Prop where
 F:n6 K x qual st f fd
 b:Binds K fd ps []
structure gw where
 (pot cH garden eX tooMany c7 yw Ky tW tX:aA)
 (Kz fName Ug Zq Zr Zt Hv Hw Hx Xe Uh aD0 aD1 aGc aD2 Ui KC Fo Fp QC:aA)
 (Uj dName dPI dPG dCI dCG apL apM apO dGI abv aD7 aD8 aGd aD9 abw Uk apQ apR aGe:fQ)
structure Exn (K:Fg) (mg:Str->Option aB) (x:Str) (C:aA):Prop where
 m:mg x=some (.ref C)
 q:excIn K C Ue "ValueError.__new__"=true
structure pO (K:Fg) (mg:Str->Option aB) (a:gw):Prop where
 B:Qz mg
 longest:∃ t,mg "LONGEST_NAME"=some (.int 12 t)
 Zu:∃ t,mg "MOST_GAP"=some (.int 60 t)
 eX:Exn K mg "BadPot" a.eX
 wh:Fn K "is_whole" "is_whole" wV ["value","least","most"] a.Kz a.Uj
 mwh:mg "is_whole"=some (.ref a.Kz)
 nm:Fn K "is_name" "is_name" rT ["value"] a.fName a.dName
 mnm:mg "is_name"=some (.ref a.fName)
 Zv:mg "Pot"=some (.ref a.pot)
 apS:mg "Cactus"=some (.ref a.cH)
 tP:BK K a.pot
 tC:BK K a.cH
 nP:∀ f ∈ (["name","gap","rest"]:List Str),jG K a.pot f
 nC:∀ f ∈ (["name","gap","rest"]:List Str),jG K a.cH f
 PI:Fn K "__init__" "Pot.__init__" qL ["self","name","gap"] a.Ug a.dPI
 PG:Fn K "with_gap" "Pot.with_gap" vV ["self","gap"] a.Zq a.dPG
 CI:Fn K "__init__" "Cactus.__init__" qM ["self","name","gap","rest"] a.Zr a.dCI
 CG:Fn K "with_gap" "Cactus.with_gap" vW ["self","gap"] a.Zt a.dCG
 kP:Mk K a.pot a.Ug
 kC:Mk K a.cH a.Zr
 gP:Meth K a.pot "with_gap" a.Zq
 gC:Meth K a.cH "with_gap" a.Zt
 cI:apA K a.pot "__init__" a.Ug
 ne:a.pot≠a.cH
section
variable {P:cC} {w:World} {K:Fg} {mg:Str->Option aB} {base:Heap} {a:gw}
theorem apT:¬ (("name":Str)="gap"):=by decide +kernel
theorem apU:¬ (("name":Str)="rest"):=by decide +kernel
theorem apV:¬ (("gap":Str)="rest"):=by decide +kernel
theorem Zw (u v:V):iw "gap" v [(("name":Str),u)]=([("name",u),("gap",v)]:List (Str × V)):=by
 show (if ("name":Str)="gap" then _ else _)=_
 rw [if_neg apT]; rfl
theorem Ul (u v x:V):iw "rest" x ([("name",u),("gap",v)]:List (Str × V))=([("name",u),("gap",v),("rest",x)]:List (Str × V)):=by
 show (if ("name":Str)="rest" then _ else (("name":Str),u)::(if ("gap":Str)="rest" then _ else (("gap":Str),v)::iw "rest" x []))=_
 rw [if_neg apU,if_neg apV]; rfl
def But (p:aA) (H H':Hp):Prop:=∀ b o,b≠p->H b=some o->H' b=some o
def jZ (n g:V):Bool:=nameV n && dD g 1 60
def z7 (v:V):Prop:=∀ x,v=.str x->x.length<=sizeLine
def Df (K:Fg) (a:gw):Sp:=fun vs H Q E=>∃ p dx C n g kn kg,vs=[.ref p,n,g]/\H p=some (.ins C dx [])/\(C=a.pot\/C=a.cH)/\gh K H n kn/\z7 n/\gh K H g kg /\ (jZ n g=false->∀ H',Same H H'->E (.ref a.eX) none H')/\(jZ n g=true->∀ H',But p H H'->H' p=some (.ins C dx [("name",n),("gap",g)])->Q .non H')
theorem az8:bV ["self","name","gap"] ["self","name","gap"] (aW qL):=eO (by decide +kernel)
theorem pO.cls (T:pO K mg a) {C:aA} (h:C=a.pot\/C=a.cH):BK K C/\∀ f ∈ (["name","gap","rest"]:List Str),jG K C f:=by
 rcases h with rfl | rfl
 ·exact ⟨T.tP,T.nP⟩
 ·exact ⟨T.tC,T.nC⟩
theorem pO.okW (T:pO K mg a):cD P w K mg base (fL P w) 1 a.Kz a.Uj ["value","least","most"] (Nj K):=Uc T.wh.F T.B
theorem pO.okN (T:pO K mg a):cD P w K mg base (fL P w) 1 a.fName a.dName ["value"] (Ud K):=by
 obtain ⟨t,e⟩:=T.longest;exact Zo T.nm.F T.B e
theorem tY (T:pO K mg a):cD P w K mg base (fL P w) 2 a.Ug a.dPI ["self","name","gap"] (Df K a):=by
 refine T.PI.F.mF az8 (fun vs H Q E h=>?_) (fun cdv A outer s H vs Q E hr h=>?_)
 ·obtain ⟨p,dx,C,n,g,kn,kg,rfl,_⟩:=h;rfl
 ·obtain ⟨p,dx,C,n,g,kn,kg,rfl,hp,hC,hn,sn,hg,bad,good⟩:=h;obtain ⟨t,mG⟩:=T.Zu;obtain ⟨tC,nA⟩:=T.cls hC;refine ⟨_,aH (eV (iG (gQ (dI T.okN hr T.mnm T.nm.F.kp T.nm.b bB (ao (pv 1) aK)))) (aU (iI bW rfl (by rfl) T.eX.m T.eX.q PySem.F.excBase_ValueError (ao ju aK))) cX) (aH (eV (iG (gQ (dI T.okW hr T.mwh T.wh.F.kp T.wh.b bB (ao (pv 2) (ao aV (ao (qg (.int 60) mG ⟨t,rfl⟩) aK)))))) (aU (iI bW rfl (by rfl) T.eX.m T.eX.q PySem.F.excBase_ValueError (ao ju aK))) cX) (aH (pG (pv 0) (pv 1) rfl) (aU (pG (pv 0) (pv 2) rfl)))),?_⟩;refine ⟨_,rfl,n,kn,rfl,hn,sn,fun H1 s1=>⟨_,rfl,?_⟩⟩;cases en:nameV n with
  | false=>exact eE ⟨by show 1<=sizeLine; decide,bad (by simp [jZ,en]) H1 s1⟩
  | true =>
   refine d9 ⟨_,rfl,g,1,60,kg,rfl,hg.same s1,_,rfl,?_⟩;cases eg:dD g 1 60 with
   | false=>exact eE ⟨by show 1<=sizeLine; decide,bad (by simp [jZ,en,eg]) H1 s1⟩
   | true =>
    refine d9 ⟨_,rfl,_,rfl,p,C,dx,_,rfl,s1 _ _ hp,tC.cl,nA _ (by simp),by show 0 < 1000; decide,?_⟩;refine ⟨_,rfl,_,rfl,p,C,dx,_,rfl,aD,tC.cl,nA _ (by simp),by show 1 < 1000; decide,?_⟩;refine good (by simp [jZ,en,eg]) _ (fun b o hb e=>?_) ?_
    ·rw [bf hb,bf hb]; exact s1 _ _ e
    ·rw [aD];exact congrArg (fun l=>some (HO.ins C dx l)) (Zw n g)
structure cL where
 nm:Str
 gap:Int
 rest:Option Int
def cL.fs (p:cL):List (Str × V):=match p.rest with
 | none=>[("name",.str p.nm),("gap",.int p.gap)]
 | some r=>[("name",.str p.nm),("gap",.int p.gap),("rest",.int r)]
def cL.cls (a:gw) (p:cL):aA:=match p.rest with
 | none=>a.pot
 | some _=>a.cH
def mQ (a:gw) (H:Hp) (x:aA) (p:cL):Prop:=∃ dx,H x=some (.ins (p.cls a) dx p.fs)
structure cL.Ok (p:cL):Prop where
 nm:nameV (.str p.nm)=true
 gap:1<=p.gap/\p.gap<=60
 rest:∀ r,p.rest=some r->0<=r/\r < p.gap
theorem mQ.same {H H':Hp} {x:aA} {p:cL} (h:mQ a H x p) (s:Same H H'):mQ a H' x p:=h.imp fun _ e=>s _ _ e
theorem cL.j7 (p:cL):p.cls a=a.pot\/p.cls a=a.cH:=by
 unfold cL.cls;cases p.rest
 ·exact .inl rfl
 ·exact .inr rfl
theorem cL.Fq (p:cL):p.fs.lookup ("name":Str)=some (.str p.nm):=by
 unfold cL.fs;cases p.rest <;> rfl
theorem jA {k k':Str} {v:V} {l:List (Str × V)} (h:(k == k')=false):((k',v)::l).lookup k=l.lookup k:=by simp only [List.lookup,h]
theorem yx {k:Str} {v:V} {l:List (Str × V)}:((k,v)::l).lookup k=some v:=by simp only [List.lookup,beq_self_eq_true]
theorem gn:(("gap":Str) == "name")=false:=by decide +kernel
theorem rn:(("rest":Str) == "name")=false:=by decide +kernel
theorem rg:(("rest":Str) == "gap")=false:=by decide +kernel
theorem Um (u v:V) (l:List (Str × V)):((("name",u)::("gap",v)::l:List (Str × V))).lookup ("gap":Str)=some v:=by rw [jA gn,yx]
theorem cL.z8 (p:cL):p.fs.lookup ("gap":Str)=some (.int p.gap):=by
 unfold cL.fs;cases p.rest with
 | none=>exact Um _ _ []
 | some r=>exact Um _ _ [("rest",.int r)]
theorem Nk (u v x:V):([("name",u),("gap",v),("rest",x)]:List (Str × V)).lookup ("rest":Str)=some x:=by rw [jA rn,jA rg,yx]
theorem cL.apW (p:cL) {m:Str} (h1:(m == "name")=false) (h2:(m == "gap")=false) (h3:(m == "rest")=false):p.fs.lookup m=none:=by
 unfold cL.fs;cases p.rest with
 | none=>exact (jA h1).trans (jA h2)
 | some r=>exact (jA h1).trans ((jA h2).trans (jA h3))
theorem pP {x:Str} (h:nameV (.str x)=true):z7 (.str x):=by
 intro y e;cases e;have e:nameV (.str x)=(decide (1<=x.length) && decide (x.length<=12) && x.cps.toList.all letter):=rfl;rw [e] at h;simp only [Bool.and_eq_true,decide_eq_true_eq] at h;exact bJ h.1.2 (by decide)
theorem But.made {H H':Hp} {x dx C:aA} (nx:H x=none) (ndx:H dx=none) (h:But x (upd (upd H dx (.own x)) x (.ins C dx [])) H'):Same H H':=fun b o e=>by
 have n1:=dw e nx;have n2:=dw e ndx;exact h b o n1 (by rw [bf n1,bf n2]; exact e)
theorem rW {H:Hp} {x dx C:aA} (nx:H x=none) (ndx:H dx=none):Same H (upd (upd H dx (.own x)) x (.ins C dx [])):=fun b o e=>by
 rw [bf (dw e nx),bf (dw e ndx)]; exact e
theorem Uo {H:Hp} {Q:aA->Hp->Prop} {E:XK} {n g:V} {kn kg:Kd} (hn:gh K H n kn) (sn:z7 n) (hg:gh K H g kg) (bad:jZ n g=false->∀ H',Same H H'->E (.ref a.eX) none H') (good:jZ n g=true->∀ H' x,H x=none->Same H H'->(∃ dx,H' x=some (.ins a.pot dx [("name",n),("gap",g)]))->Q x H') : ∀ x dx,H x=none->H dx=none->dx≠x->Df K a [.ref x,n,g] (upd (upd H dx (.own x)) x (.ins a.pot dx [])) (fun v H2=>v=.non/\Q x H2) E:=by
 intro x dx nx ndx ne;have s0:=rW (C:=a.pot) nx ndx;exact ⟨x,dx,a.pot,n,g,kn,kg,rfl,aD,.inl rfl,hn.same s0,sn,hg.same s0,fun e H' s'=>bad e H' (s0.trans s'),fun e H' b' hp=>⟨rfl,good e H' x nx (b'.made nx ndx) ⟨dx,hp⟩⟩⟩
def yC (p:cL) (g:V):Bool:=match p.rest with
 | none=>dD g 1 60
 | some r=>dD g 1 60 && match g with
  | .int i=>dD (.int r) 0 (i - 1)
  | _=>false
def Nm (K:Fg) (a:gw) (C:aA):Sp:=fun vs H Q E=>∃ x p g kg,vs=[.ref x,g]/\p.cls a=C/\mQ a H x p/\p.Ok/\gh K H g kg /\ (yC p g=false->∀ H',Same H H'->E (.ref a.eX) none H')/\(yC p g=true->∀ i H' y,g=.int i->H y=none->Same H H'->mQ a H' y { p with gap:=i }->Q (.ref y) H')
theorem az9:bV ["self","gap"] ["self","gap"] (aW vV):=eO (by decide +kernel)
theorem iZ {g:V} {l m:Int} (h:dD g l m=true):∃ i,g=.int i/\l<=i/\i<=m:=by
 cases g with
 | int i=>exact ⟨i,rfl,by simpa [dD] using h⟩
 | _=>exact absurd h (by simp [dD])
theorem QD (T:pO K mg a):cD P w K mg base (fL P w) 4 a.Zq a.dPG ["self","gap"] (Nm K a a.pot):=by
 refine T.PG.F.mF az9 (fun vs H Q E h=>?_) (fun cdv A outer s H vs Q E hr h=>?_)
 ·obtain ⟨x,p,g,kg,rfl,_⟩:=h;rfl
 ·obtain ⟨x,p,g,kg,rfl,hc,⟨dx,hx⟩,ok,hg,bad,good⟩:=h;refine ⟨_,aU (cj (yq T.kP (tY T) hr T.Zv T.PI.b (cV bW) (ao (fG (pv 0) rfl) (ao (pv 1) aK)))),?_⟩;rw [hc] at hx;have hr0:p.rest=none:=by
   cases e:p.rest with
   | none=>rfl
   | some r=>rw [cL.cls,e] at hc; exact absurd hc.symm T.ne
  refine ⟨_,rfl,x,a.pot,dx,_,_,rfl,hx,T.tP.cl,T.nP _ (by simp),p.Fq,_,rfl,?_⟩;refine Uo (kn:=.str) ⟨_,rfl⟩ (pP ok.nm) hg (fun e=>bad (by simpa [yC,hr0,jZ,ok.nm] using e)) (fun e H' y hy s' hy'=>?_);have eg:dD g 1 60=true:=by simpa [jZ,ok.nm] using e
  obtain ⟨i,rfl,_⟩:=iZ eg;obtain ⟨dy,hy'⟩:=hy';refine good (by simpa [yC,hr0] using eg) i H' y rfl hy s' ⟨dy,?_⟩;rw [hy'];simp only [cL.cls,cL.fs,hr0]
end
section
variable {P:cC} {w:World} {K:Fg} {mg:Str->Option aB} {base:Heap} {a:gw}
def restOk (g r:V):Bool:=match g with
 | .int i=>dD r 0 (i - 1)
 | _=>false
noncomputable def Dg (K:Fg) (a:gw):Sp:=fun vs H Q E=>∃ p dx n g r kn kg kr,vs=[.ref p,n,g,r]/\H p=some (.ins a.cH dx [])/\gh K H n kn/\z7 n/\gh K H g kg/\gh K H r kr/\(∀ q,r=.ref q->q≠p) /\ ((jZ n g && restOk g r)=false->∀ H',But p H H'->E (.ref a.eX) none H')/\((jZ n g && restOk g r)=true->∀ H',But p H H'->H' p=some (.ins a.cH dx [("name",n),("gap",g),("rest",r)])->Q .non H')
theorem aAa:bV ["self","name","gap","rest"] ["self","name","gap","rest"] (aW qM):=eO (by decide +kernel)
theorem gh.but {H H':Hp} {p:aA} {v:V} {k:Kd} (h:gh K H v k) (b:But p H H') (ne:∀ q,v=.ref q->q≠p):gh K H' v k:=by
 cases k with
 | lst =>
  obtain ⟨a,xs,rfl,e | ⟨o,e⟩⟩:=h
  ·exact ⟨a,xs,rfl,.inl (b _ _ (ne _ rfl) e)⟩
  ·exact ⟨a,xs,rfl,.inr ⟨o,b _ _ (ne _ rfl) e⟩⟩
 | tup=>obtain ⟨a,xs,rfl,e⟩:=h; exact ⟨a,xs,rfl,b _ _ (ne _ rfl) e⟩
 | ins C=>obtain ⟨a,dx,fs,rfl,e,t⟩:=h; exact ⟨a,dx,fs,rfl,b _ _ (ne _ rfl) e,t⟩
 | _=>exact h
theorem Same.but {H H':Hp} {p:aA} (s:Same H H'):But p H H':=fun b o _ e=>s b o e
theorem But.trans {H H1 H2:Hp} {p:aA} (s:But p H H1) (t:But p H1 H2):But p H H2:=fun b o n e=>t b o n (s b o n e)
theorem Zx {H:Hp} {p:aA} {o:HO}:But p H (upd H p o):=fun b u n e=>by rw [bf n]; exact e
theorem z9 (T:pO K mg a):cD P w K mg base (fL P w) 3 a.Zr a.dCI ["self","name","gap","rest"] (Dg K a):=by
 refine T.CI.F.mF aAa (fun vs H Q E h=>?_) (fun cdv A outer s H vs Q E hr h=>?_)
 ·obtain ⟨p,dx,n,g,r,kn,kg,kr,rfl,_⟩:=h;rfl
 ·obtain ⟨p,dx,n,g,r,kn,kg,kr,rfl,hp,hn,sn,hg,hkr,nr,bad,good⟩:=h;refine ⟨_,aH (fu (Y7 T.Zv T.cI (tY T) hr T.PI.b (cV bW) (ao (pv 0) (ao (pv 1) (ao (pv 2) aK))))) (aH (eV (iG (gQ (dI T.okW (hr.mono (by decide)) T.mwh T.wh.F.kp T.wh.b bB (ao (pv 3) (ao aV (ao (bZ wJ (pv 2) aV) aK)))))) (aU (iI bW rfl (by rfl) T.eX.m T.eX.q PySem.F.excBase_ValueError (ao ju aK))) cX) (aU (pG (pv 0) (pv 3) rfl))),?_⟩;refine ⟨_,rfl,_,rfl,_,rfl,p,dx,a.cH,n,g,kn,kg,rfl,hp,.inr rfl,hn,sn,hg,fun e H' s'=>bad (by simp [e]) H' (Same.but s'),fun e H1 b1 hp1=>?_⟩;have eg:dD g 1 60=true:=by
   rw [jZ,Bool.and_eq_true] at e;exact e.2
  obtain ⟨i,rfl,_⟩:=iZ eg;refine ⟨_,rfl,_,rfl,_,_,rfl,rfl,r,0,i - 1,kr,rfl,hkr.but b1 nr,_,rfl,?_⟩;cases er:dD r 0 (i - 1) with
  | false=>exact eE ⟨by show 1<=sizeLine; decide,bad (by simp [restOk,er]) H1 b1⟩
  | true =>
   refine d9 ⟨_,rfl,_,rfl,p,a.cH,dx,_,rfl,hp1,T.tC.cl,T.nC _ (by simp),by show 2 < 1000; decide,?_⟩;refine good (by simp [e,restOk,er]) _ (b1.trans Zx) ?_;rw [aD];exact congrArg (fun l=>some (HO.ins a.cH dx l)) (Ul n (.int i) r)
theorem Uq {H:Hp} {Q:aA->Hp->Prop} {E:XK} {n g r:V} {kn kg kr:Kd} (hn:gh K H n kn) (sn:z7 n) (hg:gh K H g kg) (hr:gh K H r kr) (bad:(jZ n g && restOk g r)=false->∀ H',Same H H'->E (.ref a.eX) none H') (good:(jZ n g && restOk g r)=true->∀ H' x,H x=none->Same H H'->(∃ dx,H' x=some (.ins a.cH dx [("name",n),("gap",g),("rest",r)]))->Q x H') : ∀ x dx,H x=none->H dx=none->dx≠x->Dg K a [.ref x,n,g,r] (upd (upd H dx (.own x)) x (.ins a.cH dx [])) (fun v H2=>v=.non/\Q x H2) E:=by
 intro x dx nx ndx ne;have s0:=rW (C:=a.cH) nx ndx;refine ⟨x,dx,n,g,r,kn,kg,kr,rfl,aD,hn.same s0,sn,hg.same s0,hr.same s0,fun q e z=>?_,fun e H' s'=>bad e H' (s'.made nx ndx),fun e H' b' hp=>⟨rfl,good e H' x nx (b'.made nx ndx) ⟨dx,hp⟩⟩⟩;subst e z;cases kr with
 | lst =>
  obtain ⟨_,_,e,h | ⟨_,h⟩⟩:=hr
  ·cases e; rw [nx] at h; cases h
  ·cases e; rw [nx] at h; cases h
 | tup=>obtain ⟨_,_,e,h⟩:=hr; cases e; rw [nx] at h; cases h
 | ins C=>obtain ⟨_,_,_,e,h,_⟩:=hr; cases e; rw [nx] at h; cases h
 | non=>cases hr
 | bl=>obtain ⟨_,e⟩:=hr; cases e
 | int=>obtain ⟨_,e⟩:=hr; cases e
 | str=>obtain ⟨_,e⟩:=hr; cases e
theorem aAb:bV ["self","gap"] ["self","gap"] (aW vW):=eO (by decide +kernel)
theorem QF (T:pO K mg a):cD P w K mg base (fL P w) 5 a.Zt a.dCG ["self","gap"] (Nm K a a.cH):=by
 refine T.CG.F.mF aAb (fun vs H Q E h=>?_) (fun cdv A outer s H vs Q E hr h=>?_)
 ·obtain ⟨x,p,g,kg,rfl,_⟩:=h;rfl
 ·obtain ⟨x,p,g,kg,rfl,hc,⟨dx,hx⟩,ok,hg,bad,good⟩:=h;refine ⟨_,aU (cj (yq T.kC (z9 T) hr T.apS T.CI.b (cV bW) (ao (fG (pv 0) rfl) (ao (pv 1) (ao (fG (pv 0) rfl) aK))))),?_⟩;rw [hc] at hx;obtain ⟨r,hr0⟩:∃ r,p.rest=some r:=by
   cases e:p.rest with
   | none=>rw [cL.cls,e] at hc; exact absurd hc T.ne
   | some r=>exact ⟨r,rfl⟩
  have lr:p.fs.lookup ("rest":Str)=some (.int r):=by simp only [cL.fs,hr0]; exact Nk _ _ _
  refine ⟨_,rfl,x,a.cH,dx,_,_,rfl,hx,T.tC.cl,T.nC _ (by simp),p.Fq,_,rfl,_,rfl,x,a.cH,dx,_,_,rfl,hx,T.tC.cl,T.nC _ (by simp),lr,?_⟩;have e0:(jZ (.str p.nm) g && restOk g (.int r))=yC p g:=by
   rw [jZ,ok.nm,Bool.true_and,yC,hr0];rfl
  refine Uq (kn:=.str) (kr:=.int) ⟨_,rfl⟩ (pP ok.nm) hg ⟨_,rfl⟩ (fun e=>bad (by rw [<- e0]; exact e)) (fun e H' y hy s' hy'=>?_);obtain ⟨i,rfl,_⟩:∃ i,g=.int i/\True:=by
   cases g with
   | int i=>exact ⟨i,rfl,trivial⟩
   | _=>exact absurd e (by simp [restOk])
  obtain ⟨dy,hy'⟩:=hy';refine good (by rw [<- e0]; exact e) i H' y rfl hy s' ⟨dy,?_⟩;rw [hy'];simp only [cL.cls,cL.fs,hr0]
theorem pO.gap (T:pO K mg a):∀ C,(C=a.pot\/C=a.cH)->∃ f fd,Cls K C/\Meth K C "with_gap" f/\cD P w K mg base (fL P w) 5 f fd ["self","gap"] (Nm K a C)/\Binds K fd ["self","gap"] []:=by
 intro C h;rcases h with rfl | rfl
 ·exact ⟨_,_,T.tP.cl,T.gP,(QD T).mono (by decide),T.PG.b⟩
 ·exact ⟨_,_,T.tC.cl,T.gC,QF T,T.CG.b⟩
theorem aio {X:Cx} {pl:Sem Bool} {o e:Expr} {es:List Expr} {ta:TE} {t:TA} {apos pos:Pos} {E:XK} (he:PE X o ta) (ha:PA X (e::es) t) (T:pO K mg a) (hr:d8 5 X.A) (hx:Passes (fL X.prog X.w) X E) (hK:autoParam (X.K=K) zau0) (hm:autoParam (X.mg=mg) zau0) (hst:autoParam (starEach (e::es) X.env=(false,eval e X.env)::starEach es X.env) zau0) (hpl:autoParam ((backTo pos (starEach es X.env)).any (·.1)=false) zau0) (ht:autoParam (eval (.Call (.Attribute o "with_gap" apos) (e::es) [] pos) X.env=(do
   let ov <- eval o X.env
   standAt apos.atName
   let (f,first) <- holding [ov] (getMethod ov "with_gap" pl)
   callWith pos f first (backTo pos (starEach (e::es) X.env)) (backToKw pos (keywordEach [] X.env)))) zau0) :
  PE X (.Call (.Attribute o "with_gap" apos) (e::es) [] pos) (SX (fun C=>C=a.pot\/C=a.cH) "with_gap" (Nm K a) E ta t):=by
 subst hK hm;exact G5 he hr T.gap hx ha hst hpl ht
end
abbrev Ur:dW:=top 23
abbrev Us:dW:=top 24
abbrev Ut:dW:=top 25
structure KD (K:Fg) (mg:Str->Option aB) (a:gw):Prop where
 T:pO K mg a
 kpp:kitOne K (.ref a.pot) (.ref a.pot)=some true
 kcp:kitOne K (.ref a.cH) (.ref a.pot)=some true
 kb:∀ k:Kd,(∀ C,k≠.ins C)->kitOne K k.ty (.ref a.pot)=some false
 own:Fn K "own_pots" "own_pots" Ur ["pots"] a.Hv a.apL
 aip:mg "own_pots"=some (.ref a.Hv)
 cnt:Fn K "refuse_bad_counts" "refuse_bad_counts" Us ["pots","cans","week","closed"] a.Hw a.apM
 aiq:mg "refuse_bad_counts"=some (.ref a.Hw)
 twc:Fn K "refuse_name_twice" "refuse_name_twice" Ut ["pots"] a.Hx a.apO
 air:mg "refuse_name_twice"=some (.ref a.Hx)
 tooMany:Exn K mg "TooMany" a.tooMany
 Uu:∃ t,mg "MOST_POTS"=some (.int 8 t)
 Uv:∃ t,mg "MOST_CANS"=some (.int 8 t)
 Uw:∃ t,mg "MOST_WEEK"=some (.int 14 t)
 KJ:∃ t,mg "MOST_STATES"=some (.int 20000 t)
section
variable {P:cC} {w:World} {K:Fg} {mg:Str->Option aB} {base:Heap} {a:gw}
def Xf (a:gw):Kd->Bool
 | .ins C=>decide (C=a.pot\/C=a.cH)
 | _=>false
def PK (a:gw) (k:Kd):Prop:=∀ C,k=.ins C->C=a.pot\/C=a.cH
theorem KD.Xf (G:KD K mg a) {k:Kd} (h:PK a k):kitOne K k.ty (.ref a.pot)=some (Tw.Xf a k):=by
 cases k with
 | ins C =>
  have e:Tw.Xf a (.ins C)=true:=aM (h C rfl);rw [e];rcases h C rfl with rfl | rfl
  ·exact G.kpp
  ·exact G.kcp
 | _=>exact G.kb _ (fun C z=>nomatch z)
theorem mQ.upd {H:Hp} {b D:aA} {p:cL} {xs:List V} {o:HO} (h:mQ a H b p) (hD:H D=some (.lst xs)):mQ a (L2.upd H D o) b p:=by
 obtain ⟨dx,e⟩:=h;exact ⟨dx,by rw [bf (jX e hD (by intro z; cases z))]; exact e⟩
theorem cL.ais {p:cL} (h:p.Ok):yC p (.int p.gap)=true:=by
 have h1:dD (.int p.gap) 1 60=true:=by simp [dD,h.gap.1,h.gap.2]
 unfold yC;cases e:p.rest with
 | none=>exact h1
 | some r =>
  obtain ⟨r0,r1⟩:=h.rest r e;have r1':r<=p.gap - 1:=by omega
  rw [h1]
  show (true && dD (.int r) 0 (p.gap - 1))=true
  simp [dD,r0,r1']
theorem jB {H H':Hp} {D:aA} {o:HO} (s:Same H H') (h:H D=none):Same H (L2.upd H' D o):=fun b u e=>by rw [bf (dw e h)]; exact s b u e
def mU (a:gw) (H:Hp) (as:List aA) (ps:List cL):Prop:=Paired (mQ a H) as ps
theorem mU.same {H H':Hp} {as:List aA} {ps:List cL} (h:mU a H as ps) (s:Same H H'):mU a H' as ps:=Paired.gG h fun _ _ e=>e.same s
theorem mU.upd {H:Hp} {as:List aA} {ps:List cL} {D:aA} {xs:List V} {o:HO} (h:mU a H as ps) (hD:H D=some (.lst xs)):mU a (L2.upd H D o) as ps:=Paired.gG h fun _ _ e=>e.upd hD
noncomputable def abz (K:Fg) (a:gw):Sp:=fun vs H Q E=>∃ v k,vs=[v]/\gh K H v k/\(bi k .list=false->∀ H',Same H H'->E (.ref a.eX) none H') /\ (bi k .list=true->∃ l xs ks,v=.ref l/\cU K H l xs/\xs.length<=1000/\Paired (gh K H) xs ks/\(∀ k ∈ ks,PK a k)/\(ks.all (Xf a)=false->∀ H',Same H H'->E (.ref a.eX) none H') /\ (ks.all (Xf a)=true->∃ as ps,xs=as.map V.ref/\mU a H as ps/\(∀ p ∈ ps,p.Ok)/\∀ H' l' bs,Same H H'->H l'=none->H' l'=some (.lst (bs.map V.ref))->mU a H' bs ps->Q (.ref l') H'))
theorem abA:bV ["pots","pot"] ["pots"] (aW Ur):=eO (by decide +kernel)
theorem ait (G:KD K mg a):cD P w K mg base (fL P w) 6 a.Hv a.apL ["pots"] (abz K a):=by
 refine G.own.F.mF abA (fun vs H Q E h=>?_) (fun cdv A outer s H vs Q E hr h=>?_)
 ·obtain ⟨v,k,rfl,_⟩:=h;rfl
 ·obtain ⟨v,k,rfl,hk,no,yes⟩:=h;have T:=G.T;refine ⟨_,aH (eV (iG (gQ (qD .list T.B.isinstance T.B.list (pv 0)))) (aU (iI bW rfl (by rfl) T.eX.m T.eX.q PySem.F.excBase_ValueError (ao ju aK))) cX) (aH (gR dY rfl (fK (pv 0)) (cZ 1 abA.nd) (aU (eV (iG (gQ (aie T.B.isinstance T.Zv (pv 1)))) (aU (iI bW rfl (by rfl) T.eX.m T.eX.q PySem.F.excBase_ValueError (ao ju aK))) cX))) (aU (cj (jg bW rfl ⟨_,_,rfl,rfl,rfl⟩ (jk.plain (N':=["pot"]) rfl (by decide +kernel) (by decide +kernel)) (fK (pv 0)) (fun _ _ _ _ _=>cZ 0 (show [("pot":Str)].Nodup by decide +kernel)) (fun _ _ _ _ _=>jf) (fun _ _ _ _ _ acc=>aio (pv 0) (ao (M4 K (pv 0)) aK) T hr (cV acc)))))),?_⟩;refine ⟨_,rfl,v,k,rfl,hk,_,rfl,?_⟩;cases ek:bi k .list with
  | false=>exact eE ⟨by show 1<=sizeLine; decide,no ek H (Same.refl _)⟩
  | true =>
   obtain ⟨l,xs,ks,rfl,hl,hlen,kds,pks,bad,good⟩:=yes ek;refine d9 ⟨_,rfl,l,rfl,⟨_,hl⟩,gZ (K:=K) (a:=l) (xs:=xs) (fun i σ H'=>∃ u,σ=[some (.ref l),u]/\H=H'/\(ks.take i).all (Xf a)=true) ⟨none,rfl,rfl,rfl⟩ (fun i σ H' _ ⟨_,_,e,_⟩=>e ▸ hl) ?_ ?_⟩
   ·rintro i x σ H' hi ⟨u,rfl,rfl,al⟩;obtain ⟨kx,hkx,kd⟩:=dB kds hi;refine ⟨_,rfl,x,kx,a.pot,_,rfl,kd,G.Xf (pks kx (aP hkx)),_,rfl,?_⟩;cases e:Xf a kx with
    | false =>
     refine eE ⟨by show 1<=sizeLine; decide,bad ?_ _ (Same.refl _)⟩;rw [Bool.eq_false_iff];intro z;rw [all_eq_true] at z;rw [z kx (aP hkx)] at e;cases e
    | true=>exact d9 ⟨_,rfl,rfl,by rw [take_snoc hkx,all_append,al]; simp [e]⟩
   ·rintro σ H' ⟨u,rfl,rfl,al⟩;have lk:xs.length=ks.length:=Paired.length kds;rw [lk,bU] at al;obtain ⟨as,ps,rfl,pots,pQ,q⟩:=good al;refine ⟨_,rfl,l,rfl,⟨_,hl⟩,fun D hD=>?_⟩;have sD:=aY (o:=.lst []) hD;have lp:as.length=ps.length:=Paired.length pots;refine oW as.length (by rw [ak] at hlen; exact bJ hlen (by decide)) (fun i acc H'=>∃ bs:List aA,acc=bs.map V.ref/\bs.length=i/\H' D=some (.lst acc)/\Same H H'/\mU a H' bs (ps.take i)) ⟨[],rfl,rfl,aD,sD,.nil⟩ (fun i acc H' _ ⟨bs,e,lb,hd,_⟩=>⟨by rw [e,ak,lb],hd⟩) ?_ ?_
    ·rintro acc H' ⟨bs,rfl,lb,hd,s',pt⟩;refine ⟨⟨_,s'.seq hl,by rw [ak]; exact aO _⟩,?_⟩;rw [lp,bU] at pt;exact q H' D bs s' hD hd pt
    ·rintro i acc H' lt ⟨bs,rfl,lb,hd,s',pt⟩;have hl':=s'.seq hl;obtain ⟨b,hb⟩:∃ b,as[i]?=some b:=⟨as[i],aG lt⟩;obtain ⟨p,hp,pb⟩:=dB pots hb;have hx:(as.map V.ref)[i]?=some (.ref b):=by rw [aJ,hb]; rfl
     refine ⟨⟨_,_,hl',hx⟩,?_⟩;rintro x yp ⟨rfl,hx'⟩ Qc k;have ex:=hx' _ hl';rw [hx] at ex;cases ex;obtain ⟨dx,hb'⟩:=pb.same s';have KN:=pQ p (aP hp);have cT:=T.cls p.j7;refine ⟨g8,_,rfl,b,p.cls a,dx,_,rfl,hb',p.j7,p.apW (by decide +kernel) (by decide +kernel) (by decide +kernel),_,rfl,b,p.cls a,dx,_,_,rfl,hb',cT.1.cl,cT.2 _ (by simp),p.z8,?_⟩;refine ⟨b,p,.int p.gap,.int,rfl,rfl,⟨dx,hb'⟩,KN,⟨_,rfl⟩,fun z=>(by rw [cL.ais KN] at z; cases z),fun _ j H3 y ej hy s3 py=>?_⟩;cases ej;refine k (.ref y) H3 (s3 _ _ hd) ⟨bs++[y],by rw [aZ]; rfl,by rw [aQ,lb]; rfl,aD,jB (s'.trans s3) hD,?_⟩
     ·rw [take_snoc hp];exact Paired.snoc ((pt.same s3).upd (s3 _ _ hd)) (mQ.upd py (s3 _ _ hd))
end
section
variable {X:Cx} {e:Expr} {p pos:Pos}
theorem Hy {x:Str} {T:String} {r:List V->Hp->VK->Prop} {es:List Expr} {t:TA} (hc:jH X (.type T) r) (hm:X.mg x=none) (hv:bootBuiltins x=some (.type T)) (ha:PA X (e::es) t) (hg:autoParam (Gl X x) zau0) (hn:autoParam (x≠"__name__") zau1) (hdb:autoParam ((x == ("__debug__":Str))=false) zau1) (he:autoParam (starEach (e::es) X.env=(false,eval e X.env)::starEach es X.env) zau0) (hpl:autoParam ((backTo pos (starEach es X.env)).any (·.1)=false) zau0):PE X (.Call (.Name x p) (e::es) [] pos) (tCB r t):=O2 hc hg hm hv ha hn hdb he hpl
end
section
variable {P:cC} {w:World} {K:Fg} {mg:Str->Option aB} {base:Heap} {a:gw}
def vX (w c:V):Bool:=match w with
 | .int i=>dD c 0 (1 * 2 ^ i.toNat - 1)
 | _=>false
def yD (n:Nat) (c w cl:V):Bool:=decide (1<=n) && decide (n<=8) && dD c 0 8 && dD w 1 14 && vX w cl
def apZ (K:Fg) (a:gw):Sp:=fun vs H Q E=>∃ l xs c w cl kc kw kl,vs=[.ref l,c,w,cl]/\cU K H l xs/\gh K H c kc/\gh K H w kw/\gh K H cl kl /\ (yD xs.length c w cl=false->E (.ref a.tooMany) none H)/\(yD xs.length c w cl=true->Q .non H)
theorem ap0:bV ["pots","cans","week","closed"] ["pots","cans","week","closed"] (aW Us):=eO (by decide +kernel)
theorem aiv (G:KD K mg a):cD P w K mg base (fL P w) 2 a.Hw a.apM ["pots","cans","week","closed"] (apZ K a):=by
 refine G.cnt.F.mF ap0 (fun vs H Q E h=>?_) (fun cdv A outer s H vs Q E hr h=>?_)
 ·obtain ⟨l,xs,c,wk,cl,kc,kw,kl,rfl,_⟩:=h;rfl
 ·obtain ⟨l,xs,c,wk,cl,kc,kw,kl,rfl,hl,hc,hw,hcl,bad,good⟩:=h;have T:=G.T;obtain ⟨t1,m1⟩:=G.Uu;obtain ⟨t2,m2⟩:=G.Uv;obtain ⟨t3,m3⟩:=G.Uw;refine ⟨_,aH (eV (iG (Gp BZ BZ aV (ig dJ T.B.len PySem.boot_len (ao (pv 0) aK)) (qg (.int 8) m1 ⟨t1,rfl⟩))) (aU (iI bW rfl (by rfl) G.tooMany.m G.tooMany.q PySem.F.excBase_ValueError (ao ju aK))) cX) (aH (eV (iG (gQ (dI T.okW hr T.mwh T.wh.F.kp T.wh.b bB (ao (pv 1) (ao aV (ao (qg (.int 8) m2 ⟨t2,rfl⟩) aK)))))) (aU (iI bW rfl (by rfl) G.tooMany.m G.tooMany.q PySem.F.excBase_ValueError (ao ju aK))) cX) (aH (eV (iG (gQ (dI T.okW hr T.mwh T.wh.F.kp T.wh.b bB (ao (pv 2) (ao aV (ao (qg (.int 14) m3 ⟨t3,rfl⟩) aK)))))) (aU (iI bW rfl (by rfl) G.tooMany.m G.tooMany.q PySem.F.excBase_ValueError (ao ju aK))) cX) (aU (eV (iG (gQ (dI T.okW hr T.mwh T.wh.F.kp T.wh.b bB (ao (pv 3) (ao aV (ao (bZ wJ (bZ JH aV (pv 2)) aV) aK)))))) (aU (iI bW rfl (by rfl) G.tooMany.m G.tooMany.q PySem.F.excBase_ValueError (ao ju aK))) cX)))),?_⟩;refine ⟨_,rfl,l,xs,rfl,.inl hl,_,_,rfl,rfl,_,rfl,?_⟩;unfold yD at bad good
  by_cases h1:1<=xs.length
  ·have h1':(1:Int)<=(xs.length:Int):=by omega
   rw [aM h1'];refine eE ⟨_,_,rfl,rfl,_,rfl,?_⟩
   by_cases h2:xs.length<=8
   ·have h2':(xs.length:Int)<=8:=by omega
    rw [aM h2'];rw [aM h1,aM h2] at bad good;refine d9 ⟨_,rfl,c,0,8,kc,rfl,hc,_,rfl,?_⟩;cases ec:dD c 0 8 with
    | false=>exact eE ⟨by show 1<=sizeLine; decide,bad (by rw [ec]; rfl)⟩
    | true =>
     refine d9 ⟨_,rfl,wk,1,14,kw,rfl,hw,_,rfl,?_⟩;cases ew:dD wk 1 14 with
     | false=>exact eE ⟨by show 1<=sizeLine; decide,bad (by rw [ec,ew]; rfl)⟩
     | true =>
      obtain ⟨i,rfl,i1,i2⟩:=iZ ew;refine d9 ⟨_,rfl,_,rfl,_,_,rfl,rfl,⟨by omega,by omega,by decide⟩,_,_,rfl,rfl,cl,0,_,kl,rfl,hcl,_,rfl,?_⟩;rw [ec,ew] at bad good;cases el:dD cl 0 (1 * 2 ^ i.toNat - 1) with
      | false=>exact eE ⟨by show 1<=sizeLine; decide,bad (by rw [vX,el]; rfl)⟩
      | true=>exact d9 (good (by rw [vX,el]; rfl))
   ·have h2':¬ (xs.length:Int)<=8:=by omega
    rw [aL h2'];exact eE ⟨by show 1<=sizeLine; decide,bad (by rw [aL h2]; simp)⟩
  ·have h1':¬ (1:Int)<=(xs.length:Int):=by omega
   rw [aL h1'];exact d9 ⟨_,rfl,eE ⟨by show 1<=sizeLine; decide,bad (by rw [aL h1]; simp)⟩⟩
def ap1 (K:Fg) (a:gw):Sp:=fun vs H Q E=>∃ l as ps,vs=[.ref l]/\cU K H l (as.map V.ref)/\mU a H as ps/\as.length<=8 /\ (¬ (ps.map cL.nm).Nodup->∀ H',Same H H'->E (.ref a.eX) none H')/\((ps.map cL.nm).Nodup->∀ H',Same H H'->Q .non H')
theorem ap2:bV ["pots"] ["pots"] (aW Ut):=eO (by decide +kernel)
theorem aiw (G:KD K mg a):cD P w K mg base (fL P w) 2 a.Hx a.apO ["pots"] (ap1 K a):=by
 refine G.twc.F.mF ap2 (fun vs H Q E h=>?_) (fun cdv A outer s H vs Q E hr h=>?_)
 ·obtain ⟨l,as,ps,rfl,_⟩:=h;rfl
 ·obtain ⟨l,as,ps,rfl,hl,pots,h8,bad,good⟩:=h;have T:=G.T;refine ⟨_,aU (eV (cN BX (ig O8 T.B.len PySem.boot_len (ao (Hy (O7 rfl) T.B.set boot_set (ao (jg bW rfl ⟨_,_,rfl,rfl,rfl⟩ (jk.plain (N':=["pot"]) rfl (by decide +kernel) (by decide +kernel)) (fK (pv 0)) (fun _ _ _ _ _=>cZ 0 (show [("pot":Str)].Nodup by decide +kernel)) (fun _ _ _ _ _=>jf) (fun _ _ _ _ _ _=>M4 K (pv 0))) aK)) aK)) (ig dJ T.B.len PySem.boot_len (ao (pv 0) aK)) (dz _)) (aU (iI bW rfl (by rfl) T.eX.m T.eX.q PySem.F.excBase_ValueError (ao ju aK))) cX),?_⟩;refine ⟨_,rfl,l,rfl,⟨_,hl⟩,fun D hD=>?_⟩;have lp:as.length=ps.length:=Paired.length pots;refine oW as.length (bJ h8 (by decide)) (fun i acc H'=>acc=((ps.take i).map cL.nm).map V.str/\upd H D (.lst acc)=H') ⟨rfl,rfl⟩ (fun i acc H' le ⟨e,eh⟩=>⟨?_,by rw [<- eh,aD]⟩) ?_ ?_
  ·rw [e,ak,ak,length_take,<- lp]; omega
  ·rintro acc H' ⟨rfl,rfl⟩;have sD:=aY (o:=.lst (((ps.take as.length).map cL.nm).map V.str)) hD;rw [lp,bU] at sD ⊢;refine ⟨⟨_,sD.seq hl,by rw [ak,lp]; exact aO _⟩,D,ps.map cL.nm,rfl,cU.of aD,?_,fun S hS=>?_⟩
   ·rw [ak,<- lp]; exact Nat.lt_of_le_of_lt (Nat.succ_le_succ h8) (by decide)
   ·have sS:=sD.trans (aY (o:=zM P w S (jP (ps.map cL.nm)).length) hS);refine ⟨S,_,rfl,aD,_,rfl,l,_,rfl,.inl (sS.seq hl),rfl,_,rfl,?_⟩;have e1:(V.int ((jP (ps.map cL.nm)).length:Int)=V.int ((as.map V.ref).length:Int)) ↔ (ps.map cL.nm).Nodup:=by
     rw [<- Mv,ak,ak,<- lp];constructor
     ·intro z; injection z with z; exact Int.ofNat.inj z
     ·intro z; rw [z]
    by_cases nd:(ps.map cL.nm).Nodup
    ·rw [aM (e1.mpr nd)];exact d9 (good nd _ sS)
    ·rw [aL (fun z=>nd (e1.mp z))];exact eE ⟨by show 1<=sizeLine; decide,bad nd _ sS⟩
  ·rintro i acc H' lt ⟨rfl,rfl⟩;have sD:=aY (o:=.lst (((ps.take i).map cL.nm).map V.str)) hD;have hl':=sD.seq hl;obtain ⟨b,hb⟩:∃ b,as[i]?=some b:=⟨as[i],aG lt⟩;obtain ⟨q,hq,pb⟩:=dB pots hb;have hx:(as.map V.ref)[i]?=some (.ref b):=by rw [aJ,hb]; rfl
   refine ⟨⟨_,_,hl',hx⟩,?_⟩;rintro x yp ⟨rfl,hx'⟩ Qc k;have ex:=hx' _ hl';rw [hx] at ex;cases ex;obtain ⟨dx,hb'⟩:=pb.same sD;have cT:=T.cls q.j7;refine ⟨g8,_,rfl,b,q.cls a,dx,_,_,rfl,hb',cT.1.cl,cT.2 _ (by simp),q.Fq,?_⟩;refine k _ _ aD ⟨?_,by rw [lQ]⟩;rw [take_snoc hq,aZ,aZ];rfl
end
abbrev Zy:dW:=inClass (top 28) 0
abbrev Hz:dW:=inClass (top 28) 1
structure yQ (K:Fg) (x qual:Str) (st:dW) (dV:aB) (f:aA) (fd:fQ):Prop where
 ex:∃ (oc:aB) (od:Option aA) (kV doc pm:aB) (an:Option aA) (cdv ct:aB) (osl:Array (Option aB)),fd=fnOf x qual (nO st) (gq st) (aW st) dV kV doc pm an cdv ct/\K.lookup f=some ⟨oc,od,.func fd,osl⟩/\codeIn K cdv qual=true
 kp:keepIn K (.ref f)=true
theorem yQ.mF {P:cC} {w:World} {K:Fg} {mg:Str->Option aB} {base:Heap} {x qual:Str} {st:dW} {dV:aB} {f:aA} {fd:fQ} {N ps:List Str} {k:Nat} {sp:Sp} (F:yQ K x qual st dV f fd) (S:bV N ps (aW st)) (len:∀ vs H Q E,sp vs H Q E->vs.length=ps.length) (body:∀ (cdv:aB) (A:d7) (outer:List Env) (s:aX) (H:Hp) (vs:List V) (Q:VK) (E:XK),d8 k (A.deeper (PyProof.Rows.envOfC qual (aW st) s.heap.objs.size f cdv))->sp vs H Q E -> ∃ t,Br (oO (fL P w) P w K mg base N qual (aW st) f cdv A outer s H E) (gq st) t/\t { nx:=fun _ H'=>Q .non H',rt:=Q } (start N vs) H):cD P w K mg base (fL P w) (k + 1) f fd ps sp:=by
 obtain ⟨oc,od,kV,doc,pm,an,cdv,ct,osl,rfl,lk,hcd⟩:=F.ex;exact RN lk hcd S len fun A outer s H vs Q E hr h=>body cdv A outer s H vs Q E hr h
structure KQ (K:Fg) (mg:Str->Option aB) (a:gw) (dV:aB):Prop where
 G:KD K mg a
 tG:BK K a.garden
 Zz:mg "Garden"=some (.ref a.garden)
 nG:∀ f ∈ (["pots","cans","week","closed"]:List Str),jG K a.garden f
 gi:yQ K "__init__" "Garden.__init__" Zy dV a.Xe a.dGI
 b4:Binds K a.dGI ["self","pots","cans","week","closed"] []
 b1:∃ t1 t2 t3,Binds K a.dGI ["self","pots","cans","week","closed"] [.int 1 t1,.int 1 t2,.int 0 t3]
 b2:∃ t2 t3,Binds K a.dGI ["self","pots","cans","week","closed"] [.int 1 t2,.int 0 t3]
 kG:Mk K a.garden a.Xe
 size:Fn K "size" "Garden.size" Hz ["self"] a.Uh a.abv
 Np:Meth K a.garden "size" a.Uh
section
variable {P:cC} {w:World} {K:Fg} {mg:Str->Option aB} {base:Heap} {a:gw} {dV:aB}
structure gB where
 pots:List cL
 cans:Int
 week:Int
 closed:Int
def Rm (l:aA) (c w cl:V):List (Str × V):=[("pots",.ref l),("cans",c),("week",w),("closed",cl)]
theorem ou (l:aA) (c w cl:V):(Rm l c w cl).lookup ("pots":Str)=some (.ref l):=yx
theorem Ux (l:aA) (c w cl:V):(Rm l c w cl).lookup ("cans":Str)=some c:=(jA (by decide +kernel)).trans yx
theorem tZ (l:aA) (c w cl:V):(Rm l c w cl).lookup ("week":Str)=some w:=(jA (by decide +kernel)).trans ((jA (by decide +kernel)).trans yx)
theorem HB (l:aA) (c w cl:V):(Rm l c w cl).lookup ("closed":Str)=some cl:=(jA (by decide +kernel)).trans ((jA (by decide +kernel)).trans ((jA (by decide +kernel)).trans yx))
theorem BP (l:aA) (c w cl:V) {m:Str} (h1:(m == "pots")=false) (h2:(m == "cans")=false) (h3:(m == "week")=false) (h4:(m == "closed")=false):(Rm l c w cl).lookup m=none := (jA h1).trans ((jA h2).trans ((jA h3).trans (jA h4)))
theorem nR {f g:Str} {v x:V} {r:List (Str × V)} (h:¬ g=f):iw f v ((g,x)::r)=(g,x)::iw f v r:=by
 show (if g=f then _ else _)=_
 rw [if_neg h]
theorem ap3 (l:aA) (c w cl:V):iw "closed" cl (iw "week" w (iw "cans" c (iw "pots" (.ref l) [])))=Rm l c w cl:=by
 have e1:iw "pots" (V.ref l) []=[(("pots":Str),V.ref l)]:=rfl;have e2:iw "cans" c [(("pots":Str),V.ref l)]=([("pots",V.ref l),("cans",c)]:List (Str × V)):=by rw [nR (by decide +kernel)]; rfl
 have e3:iw "week" w ([("pots",V.ref l),("cans",c)]:List (Str × V))=([("pots",V.ref l),("cans",c),("week",w)]:List (Str × V)):=by rw [nR (by decide +kernel),nR (by decide +kernel)]; rfl
 have e4:iw "closed" cl ([("pots",V.ref l),("cans",c),("week",w)]:List (Str × V))=([("pots",V.ref l),("cans",c),("week",w),("closed",cl)]:List (Str × V)):=by rw [nR (by decide +kernel),nR (by decide +kernel),nR (by decide +kernel)]; rfl
 rw [e1,e2,e3,e4];rfl
def sizeOf (wk:Int) (ps:List cL):Int:=ps.foldl (fun s p=>s * p.gap) wk
def fW (a:gw) (H:Hp) (x:aA) (g:gB):Prop:=∃ dx l as,H x=some (.ins a.garden dx (Rm l (.int g.cans) (.int g.week) (.int g.closed)))/\H l=some (.lst (as.map V.ref))/\mU a H as g.pots
theorem fW.same {H H':Hp} {x:aA} {g:gB} (h:fW a H x g) (s:Same H H'):fW a H' x g:=by
 obtain ⟨dx,l,as,h1,h2,h3⟩:=h;exact ⟨dx,l,as,s _ _ h1,s _ _ h2,h3.same s⟩
def aix (K:Fg) (a:gw):Sp:=fun vs H Q _=>∃ x dx l as ps c wk cl,vs=[.ref x]/\H x=some (.ins a.garden dx (Rm l c (.int wk) cl))/\cU K H l (as.map V.ref)/\mU a H as ps/\(∀ p ∈ ps,p.Ok)/\Q (.int (sizeOf wk ps)) H
theorem Ft:bV ["self","states","pot"] ["self"] (aW Hz):=eO (by decide +kernel)
theorem zj (Z:KQ K mg a dV):cD P w K mg base (fL P w) 1 a.Uh a.abv ["self"] (aix K a):=by
 refine Z.size.F.mF Ft (fun vs H Q E h=>?_) (fun cdv A outer s H vs Q E hr h=>?_)
 ·obtain ⟨x,dx,l,as,ps,c,wk,cl,rfl,_⟩:=h;rfl
 ·obtain ⟨x,dx,l,as,ps,c,wk,cl,rfl,hx,hl,pots,pQ,q⟩:=h;have T:=Z.G.T;refine ⟨_,aH (bM (i:=1) Ft.nd rfl (Or.inl rfl) (fG (pv 0) rfl)) (aH (gR dY rfl (fK (fG (pv 0) rfl)) (cZ 2 Ft.nd) (aU (bM (i:=1) Ft.nd rfl (Or.inl rfl) (bZ tD (pv 1) (fG (pv 2) rfl))))) (aU (cj (pv 1)))),?_⟩;refine ⟨_,rfl,x,a.garden,dx,_,_,rfl,hx,Z.tG.cl,Z.nG _ (by simp),tZ ..,_,rfl,x,a.garden,dx,_,_,rfl,hx,Z.tG.cl,Z.nG _ (by simp),ou ..,l,rfl,⟨_,hl⟩,gZ (K:=K) (a:=l) (xs:=as.map V.ref) (fun i σ H'=>∃ u,σ=[some (.ref x),some (.int (sizeOf wk (ps.take i))),u]/\H=H') ⟨none,rfl,rfl⟩ (fun i σ H' _ ⟨_,_,e⟩=>e ▸ hl) ?_ ?_⟩
  ·rintro i y σ H' hi ⟨u,rfl,rfl⟩;rw [aJ] at hi;obtain ⟨b,hb,rfl⟩:=bh.mp hi;obtain ⟨p,hp,dy,hb'⟩:=dB pots hb;have KN:=pQ p (aP hp);have cT:=T.cls p.j7;refine ⟨_,rfl,_,rfl,b,p.cls a,dy,_,_,rfl,hb',cT.1.cl,cT.2 _ (by simp),p.z8,_,_,rfl,rfl,.inr ⟨by have:=KN.gap; omega,by have:=KN.gap; omega⟩,?_⟩;have e:sizeOf wk (ps.take (i + 1))=sizeOf wk (ps.take i) * p.gap:=by
    rw [take_snoc hp,sizeOf,sizeOf,foldl_append];rfl
   refine ⟨some (.ref b),?_,rfl⟩;rw [e];rfl
  ·rintro σ H' ⟨u,rfl,rfl⟩;refine ⟨_,rfl,?_⟩;have lp:as.length=ps.length:=Paired.length pots;rw [ak,lp,bU];exact q
theorem nJ {σ:St} {H:Hp} {R:List V->Hp->Prop} (h:R [] H):JT σ H R:=h
inductive ap4 where
 | bad | many | ok
 deriving DecidableEq
def Aa (ps:List cL) (c w cl:V):ap4 := if yD ps.length c w cl=false then .many else if ¬ (ps.map cL.nm).Nodup then .bad else
 match w with
 | .int wk=>if 20000 < sizeOf wk ps then .many else .ok
 | _=>.many
def Fv (o:Option (List cL)) (c w cl:V):ap4:=match o with
 | none=>.bad
 | some ps=>Aa ps c w cl
inductive Ab (K:Fg) (a:gw) (H:Hp):V->Option (List cL)->Prop where
 | no {v:V} {k:Kd} (hk:gh K H v k) (h:bi k .list=false):Ab K a H v none
 | mix {l:aA} {xs:List V} {ks:List Kd} (hk:gh K H (.ref l) .lst) (hl:cU K H l xs) (len:xs.length<=1000) (kds:Paired (gh K H) xs ks) (pk:∀ k ∈ ks,PK a k) (h:ks.all (Xf a)=false):Ab K a H (.ref l) none
 | pots {l:aA} {as:List aA} {ps:List cL} (hk:gh K H (.ref l) .lst) (hl:cU K H l (as.map V.ref)) (len:as.length<=1000) (pots:mU a H as ps) (pQ:∀ p ∈ ps,p.Ok):Ab K a H (.ref l) (some ps)
theorem Uy (T:pO K mg a) {H:Hp} {as:List aA} {ps:List cL} (h:mU a H as ps):Paired (gh K H) (as.map V.ref) (ps.map fun p=>Kd.ins (p.cls a)):=by
 induction h with
 | nil=>exact .nil
 | cons r _ ih =>
  obtain ⟨dx,e⟩:=r;exact .cons ⟨_,dx,_,rfl,e,(T.cls (cL.j7 _)).1⟩ ih
theorem Uz {ps:List cL}:(ps.map fun p=>Kd.ins (p.cls a)).all (Xf a)=true:=by
 rw [all_map,all_eq_true];intro p _;exact aM p.j7
theorem aiy (T:pO K mg a) {H:Hp} {Q:VK} {E:XK} {v:V} {o:Option (List cL)} (g:Ab K a H v o) (bad:o=none->∀ H',Same H H'->E (.ref a.eX) none H') (good:∀ ps,o=some ps->(∀ p ∈ ps,p.Ok)->∀ H' l' bs,Same H H'->H l'=none->H' l'=some (.lst (bs.map V.ref))->mU a H' bs ps->Q (.ref l') H'):abz K a [v] H Q E:=by
 cases g with
 | no hk h=>exact ⟨v,_,rfl,hk,fun _=>bad rfl,fun z=>by rw [h] at z; cases z⟩
 | mix hk hl len kds pk h=>exact ⟨_,_,rfl,hk,(fun z=>nomatch z),fun _=>⟨_,_,_,rfl,hl,len,kds,pk,fun _=>bad rfl,fun z=>by rw [h] at z; cases z⟩⟩
 | pots hk hl len pots pQ =>
  refine ⟨_,_,rfl,hk,(fun z=>nomatch z),fun _=>⟨_,_,_,rfl,hl,by rw [ak]; exact len,Uy T pots,?_,fun z=>?_,fun _=>⟨_,_,rfl,pots,pQ,good _ rfl pQ⟩⟩⟩
  ·intro k hk C e;obtain ⟨p,_,rfl⟩:=bx.mp hk;cases e;exact p.j7
  ·rw [Uz] at z;cases z
def qN (a:gw) (H H':Hp) (x:aA) (g:gB):Prop:=∃ dx l as,H' x=some (.ins a.garden dx (Rm l (.int g.cans) (.int g.week) (.int g.closed)))/\H' l=some (.lst (as.map V.ref))/\mU a H' as g.pots/\H l=none
theorem qN.at {H H':Hp} {x:aA} {g:gB} (h:qN a H H' x g):fW a H' x g:=by
 obtain ⟨dx,l,as,h1,h2,h3,_⟩:=h;exact ⟨dx,l,as,h1,h2,h3⟩
theorem qN.from {H0 H H':Hp} {x:aA} {g:gB} (h:qN a H H' x g) (s:Same H0 H):qN a H0 H' x g:=by
 obtain ⟨dx,l,as,h1,h2,h3,h4⟩:=h;exact ⟨dx,l,as,h1,h2,h3,s.free h4⟩
noncomputable def ap5 (K:Fg) (a:gw):Sp:=fun vs H Q E=>∃ x dx v c w cl o kc kw kl,vs=[.ref x,v,c,w,cl]/\H x=some (.ins a.garden dx [])/\Ab K a H v o/\gh K H c kc/\gh K H w kw/\gh K H cl kl /\ (Fv o c w cl=.bad->∀ H',But x H H'->E (.ref a.eX) none H')/\(Fv o c w cl=.many->∀ H',But x H H'->E (.ref a.tooMany) none H') /\ (Fv o c w cl=.ok->∀ ps ci wi li H',o=some ps->c=.int ci->w=.int wi->cl=.int li->But x H H'->qN a H H' x ⟨ps,ci,wi,li⟩->Q .non H')
theorem ap6:bV ["self","pots","cans","week","closed","copies"] ["self","pots","cans","week","closed"] (aW Zy):=eO (by decide +kernel)
theorem abB (Z:KQ K mg a dV):cD P w K mg base (fL P w) 7 a.Xe a.dGI ["self","pots","cans","week","closed"] (ap5 K a):=by
 refine Z.gi.mF ap6 (fun vs H Q E h=>?_) (fun cdv A outer s H vs Q E hr h=>?_)
 ·obtain ⟨x,dx,v,c,wk,cl,o,kc,kw,kl,rfl,_⟩:=h;rfl
 ·obtain ⟨x,dx,v,c,wk,cl,o,kc,kw,kl,rfl,hx,ga,hc,hw,hcl,bad,many,good⟩:=h;have G:=Z.G;have T:=G.T;obtain ⟨t1,m1⟩:=G.KJ;have hr2:d8 2 _:=hr.mono (by decide);refine ⟨_,aH (bM (i:=5) ap6.nd rfl (Or.inl rfl) (dI (ait G) hr G.aip G.own.F.kp G.own.b (cV bW) (ao (pv 1) aK))) (aH (fu (dI (aiv G) hr2 G.aiq G.cnt.F.kp G.cnt.b (cV bW) (ao (pv 5) (ao (pv 2) (ao (pv 3) (ao (pv 4) aK)))))) (aH (fu (dI (aiw G) hr2 G.air G.twc.F.kp G.twc.b (cV bW) (ao (pv 5) aK))) (aH (pG (pv 0) (pv 5) rfl) (aH (pG (pv 0) (pv 2) rfl) (aH (pG (pv 0) (pv 3) rfl) (aH (pG (pv 0) (pv 4) rfl) (aU (eV (cN Mp (oN (pv 0) Z.tG.cl Z.Np (zj Z) (hr.mono (by decide)) Z.size.b .nil bB) (qg (.int 20000) m1 ⟨t1,rfl⟩) (dz _)) (aU (iI bW rfl (by rfl) G.tooMany.m G.tooMany.q PySem.F.excBase_ValueError (ao ju aK))) cX)))))))),?_⟩;refine ⟨_,rfl,nJ (aiy T ga (fun e H' s'=>bad (by rw [e]; rfl) H' (Same.but s')) (fun ps eo pQ H1 l bs s1 fl hl1 pt1=>?_))⟩;subst eo;have lb:bs.length=ps.length:=Paired.length pt1;have hl1':cU K H1 l (bs.map V.ref):=cU.of hl1;refine ⟨_,rfl,_,rfl,_,rfl,_,rfl,l,_,c,wk,cl,kc,kw,kl,rfl,hl1',hc.same s1,hw.same s1,hcl.same s1,fun e=>many ?_ H1 (Same.but s1),fun e=>?_⟩
  ·rw [ak,lb] at e
   show Aa _ _ _ _=_
   unfold Aa;rw [if_pos e]
  ·rw [ak,lb] at e;have e':¬ yD ps.length c wk cl=false:=by rw [e]; exact Bool.noConfusion
   have h8:ps.length<=8/\(∃ ci,c=.int ci)/\(∃ wi,wk=.int wi)/\∃ li,cl=.int li:=by
    unfold yD at e;simp only [Bool.and_eq_true,decide_eq_true_eq] at e;obtain ⟨⟨⟨⟨e1,e2⟩,e3⟩,e4⟩,e5⟩:=e;obtain ⟨ci,rfl,_⟩:=iZ e3;obtain ⟨wi,rfl,_⟩:=iZ e4;obtain ⟨li,rfl,_⟩:=iZ e5;exact ⟨e2,⟨_,rfl⟩,⟨_,rfl⟩,⟨_,rfl⟩⟩
   obtain ⟨h8,⟨ci,rfl⟩,⟨wi,rfl⟩,⟨li,rfl⟩⟩:=h8;refine ⟨_,rfl,l,bs,ps,rfl,hl1',pt1,by rw [lb]; exact h8,fun nd H2 s2=>bad ?_ H2 (Same.but (s1.trans s2)),fun nd H2 s2=>?_⟩
   ·show Aa _ _ _ _=_
    unfold Aa;rw [if_neg e',if_pos nd]
   ·have nxl:x≠l:=dw hx fl;have s12:=s1.trans s2;have hx2:=s12 _ _ hx;refine ⟨_,rfl,_,rfl,x,a.garden,dx,_,rfl,hx2,Z.tG.cl,Z.nG _ (by simp),by show 0 < 1000; decide,?_⟩;refine ⟨_,rfl,_,rfl,x,a.garden,dx,_,rfl,aD,Z.tG.cl,Z.nG _ (by simp),by show 1 < 1000; decide,?_⟩;refine ⟨_,rfl,_,rfl,x,a.garden,dx,_,rfl,aD,Z.tG.cl,Z.nG _ (by simp),(by rw [show iw "cans" (V.int ci) (iw "pots" (V.ref l) [])=[(("pots":Str),V.ref l),(("cans":Str),V.int ci)] from nR (by decide +kernel)]; show 2 < 1000; decide),?_⟩;refine ⟨_,rfl,_,rfl,x,a.garden,dx,_,rfl,aD,Z.tG.cl,Z.nG _ (by simp),?_,?_⟩
    ·have:=kZ "week" (V.int wi) (iw "cans" (V.int ci) (iw "pots" (V.ref l) []));have:=kZ "cans" (V.int ci) (iw "pots" (V.ref l) []);have:=kZ "pots" (V.ref l) [];simp at this;omega
    ·rw [lQ,lQ,lQ,ap3];generalize eH:upd H2 x (.ins a.garden dx (Rm l (.int ci) (.int wi) (.int li)))=H3;have ZC:H3 x=some (.ins a.garden dx (Rm l (.int ci) (.int wi) (.int li))):=by rw [<- eH,aD]
     have b3:But x H H3:=fun b o n e=>by rw [<- eH,bf n]; exact s12 _ _ e
     have hl3:H3 l=some (.lst (bs.map V.ref)):=by rw [<- eH,bf nxl.symm]; exact s2 _ _ hl1
     have pt3:mU a H3 bs ps:=by
      refine Paired.gG (pt1.same s2) fun b p e=>?_
      obtain ⟨dy,e⟩:=e;refine ⟨dy,?_⟩;rw [<- eH,bf ?_]
      ·exact e
      ·intro z;subst z;rw [e] at hx2;have:=(bQ hx2);injection this with _ _ e3;unfold cL.fs at e3
       split at e3 <;> cases e3
     refine ⟨_,rfl,x,dx,_,rfl,ZC,BP _ _ _ _ (by decide +kernel) (by decide +kernel) (by decide +kernel) (by decide +kernel),x,dx,l,bs,ps,_,wi,_,rfl,ZC,cU.of hl3,pt3,pQ,_,_,rfl,rfl,_,rfl,?_⟩
     by_cases big:20000 < sizeOf wi ps
     ·rw [aM big];refine eE ⟨by show 1<=sizeLine; decide,many ?_ _ b3⟩
      show Aa _ _ _ _=_
      unfold Aa;rw [if_neg e',if_neg (fun z=>z nd)];exact if_pos big
     ·rw [aL big];refine d9 (good ?_ ps ci wi li _ rfl rfl rfl rfl b3 ⟨dx,l,bs,ZC,hl3,pt3,fl⟩)
      show Aa _ _ _ _=_
      unfold Aa;rw [if_neg e',if_neg (fun z=>z nd)];exact if_neg big
end
theorem oU.mark {k:Nat} {A:d7} {o:Option aB} (r:oU k A):oU k (A.mark o):=⟨r.dp,r.un⟩
section
variable {P:cC} {w:World} {K:Fg} {mg:Str->Option aB} {base:Heap} {a:gw} {dV:aB}
theorem Ab.same {H H':Hp} {v:V} {o:Option (List cL)} (g:Ab K a H v o) (s:Same H H'):Ab K a H' v o:=by
 cases g with
 | no hk h=>exact .no (hk.same s) h
 | mix hk hl len kds pk h=>exact .mix (hk.same s) (s.seq hl) len (Paired.gG kds fun _ _ e=>e.same s) pk h
 | pots hk hl len pots pQ=>exact .pots (hk.same s) (s.seq hl) len (pots.same s) pQ
structure UG (a:gw) (H:Hp) (Q:aA->Hp->Prop) (E:XK) (o:Option (List cL)) (c w cl:V):Prop where
 bad:Fv o c w cl=.bad->∀ H',Same H H'->E (.ref a.eX) none H'
 many:Fv o c w cl=.many->∀ H',Same H H'->E (.ref a.tooMany) none H'
 ok:Fv o c w cl=.ok->∀ ps ci wi li H' x,o=some ps->c=.int ci->w=.int wi->cl=.int li->H x=none->Same H H'->qN a H H' x ⟨ps,ci,wi,li⟩->Q x H'
theorem UJ {H:Hp} {Q:aA->Hp->Prop} {E:XK} {v c w cl:V} {o:Option (List cL)} {kc kw kl:Kd} (ga:Ab K a H v o) (hc:gh K H c kc) (hw:gh K H w kw) (hcl:gh K H cl kl) (p:UG a H Q E o c w cl) : ∀ x dx,H x=none->H dx=none->dx≠x->ap5 K a [.ref x,v,c,w,cl] (upd (upd H dx (.own x)) x (.ins a.garden dx [])) (fun v H2=>v=.non/\Q x H2) E:=by
 intro x dx nx ndx ne;have s0:=rW (C:=a.garden) nx ndx;exact ⟨x,dx,v,c,w,cl,o,kc,kw,kl,rfl,aD,ga.same s0,hc.same s0,hw.same s0,hcl.same s0,fun e H' b=>p.bad e H' (b.made nx ndx),fun e H' b=>p.many e H' (b.made nx ndx),fun e ps ci wi li H' h1 h2 h3 h4 b g=>⟨rfl,p.ok e ps ci wi li H' x h1 h2 h3 h4 nx (b.made nx ndx) (g.from s0)⟩⟩
theorem fW.arg {H:Hp} {x l dx:aA} {as:List aA} {ps:List cL} (hl:H l=some (.lst (as.map V.ref))) (h8:as.length<=1000) (pt:mU a H as ps) (pQ:∀ p ∈ ps,p.Ok):Ab K a H (.ref l) (some ps) := .pots ⟨l,_,rfl,.inl hl⟩ (cU.of hl) h8 pt pQ
theorem eqT {x y:Int} {A B:Prop} (e:x=y) (h:A):if decide (V.int x=V.int y)=true then A else B:=by
 rw [aM (by rw [e])]; exact eE h
theorem ZD {x y:Int} {A B:Prop} (e:x≠y) (h:B):if decide (V.int x=V.int y)=true then A else B:=by
 rw [aL (fun z=>e (by injection z))]; exact d9 h
theorem abC {H:Hp} {Q:aA->Hp->Prop} {E:XK} {ps:List cL} {c w cl:Int} (h:Fv (some ps) (.int c) (.int w) (.int cl)=.ok) (k:∀ H' x,H x=none->Same H H'->qN a H H' x ⟨ps,c,w,cl⟩->Q x H'):UG a H Q E (some ps) (.int c) (.int w) (.int cl) := ⟨fun e=>(by rw [h] at e; cases e),fun e=>(by rw [h] at e; cases e),fun _ ps' ci wi li H' x e1 e2 e3 e4 hx s' g=>by cases e1; cases e2; cases e3; cases e4; exact k H' x hx s' g⟩
theorem UL {H:Hp} {n:Nat} {x:V} (h:mq x=true):zO K H n x x true:=by
 have:=zO.flat (K:=K) (H:=H) (n:=n) h h;rw [S5 h] at this;exact this
end
abbrev HD:dW:=top 45
abbrev HF:dW:=top 46
section
variable {P:cC} {w:World} {K:Fg} {mg:Str->Option aB} {base:Heap} {a:gw} {dV:aB}
def Ac (K:Fg):Sp:=fun vs H Q _=>∃ (s:aA) (ns:List Int) (k:Nat),vs=[.ref s,.int k]/\cU K H s (ns.map V.int)/\Q (.int (ns.getD k 0)) H
theorem aiz:bV ["_law_script","_law_k"] ["_law_script","_law_k"] (aW HD):=eO (by decide +kernel)
theorem zm {f:aA} {fd:fQ} (F:n6 K "_law_cell_at" "_law_cell_at" HD f fd) (B:Qz mg):cD P w K mg base (fL P w) 1 f fd ["_law_script","_law_k"] (Ac K):=by
 refine F.mF aiz (fun vs H Q E h=>?_) (fun cdv A outer s H vs Q E hr h=>?_)
 ·obtain ⟨x,ns,k,rfl,_⟩:=h;rfl
 ·obtain ⟨x,ns,k,rfl,hs,q⟩:=h;refine ⟨_,aH (eV (cN RD (pv 1) (ig dJ B.len PySem.boot_len (ao (pv 0) aK)) (dz _)) (aU (cj (dh gO (pv 0) (pv 1) (fun _ _=>rfl)))) cX) (aU (cj aV)),?_⟩;refine ⟨_,rfl,_,rfl,x,_,rfl,.inl hs,_,_,rfl,rfl,_,rfl,?_⟩
  by_cases lt:k < ns.length
  ·rw [aM (by rw [ak]; omega)];have e:(ns.map V.int)[k]?=some (.int (ns.getD k 0)):=by simp [lt]
   exact eE ⟨_,rfl,_,rfl,x,_,_,_,rfl,rfl,hs,fD e,q⟩
  ·rw [aL (by rw [ak]; omega)];have e:ns.getD k 0=0:=by simp [getD,List.getElem?_eq_none (by omega:ns.length<=k)]
   rw [e] at q;exact d9 q
def Fw:List Int:=[1000003,1000033,1000037,1000039,1000081,1000099,1000117,1000121]
def zp (k:Int):Int:=Fw.getD (k % 8).toNat 1
def HJ (c k m:Int):Int:=(c * 48271 + k * 69621 + c / 1000003 % 1000003 * 40692) % zp k % m
theorem Nq (c k:Int) {m:Int} (h:0 < m):0<=HJ c k m:=Int.emod_nonneg _ (by omega)
theorem Nr (c k:Int) {m:Int} (h:0 < m):HJ c k m < m:=Int.emod_lt_of_pos _ h
theorem UW (k:Int):YH (Fw.map V.int) (k % 8)=some (.int (zp k))/\0 < zp k:=by
 have h0:0<=k % 8:=Int.emod_nonneg _ (by decide);have h1:k % 8 < 8:=Int.emod_lt_of_pos _ (by decide);unfold zp;have h:k % 8=0\/k % 8=1\/k % 8=2\/k % 8=3\/k % 8=4\/k % 8=5\/k % 8=6\/k % 8=7:=by omega
 rcases h with e | e | e | e | e | e | e | e <;> rw [e] <;> exact ⟨rfl,by decide⟩
def U0:Sp:=fun vs H Q _=>∃ c k m:Int,vs=[.int c,.int k,.int m]/\0 < m/\∀ H',Same H H'->Q (.int (HJ c k m)) H'
theorem KR:bV ["_law_cell","_law_k","_law_many","_law_primes","_law_blend"] ["_law_cell","_law_k","_law_many"] (aW HF):=eO (by decide +kernel)
theorem ZF {f:aA} {fd:fQ} (F:n6 K "_law_draw" "_law_draw" HF f fd):cD P w K mg base (fL P w) 1 f fd ["_law_cell","_law_k","_law_many"] U0:=by
 refine F.mF KR (fun vs H Q E h=>?_) (fun cdv A outer s H vs Q E hr h=>?_)
 ·obtain ⟨c,k,m,rfl,_⟩:=h;rfl
 ·obtain ⟨c,k,m,rfl,m0,q⟩:=h;refine ⟨_,aH (bM (i:=3) KR.nd rfl (Or.inl rfl) (fJ (iR [.int 1000003,.int 1000033,.int 1000037,.int 1000039,.int 1000081,.int 1000099,.int 1000117,.int 1000121] rfl))) (aH (bM (i:=4) KR.nd rfl (Or.inl rfl) (bZ iH (bZ iH (bZ tD (pv 0) aV) (bZ tD (pv 1) aV)) (bZ tD (bZ gH (bZ jO (pv 0) aV) aV) aV))) (aU (cj (bZ gH (bZ gH (pv 4) (dh dM (pv 3) (bZ gH (pv 1) aV) (fun _ _=>rfl))) (pv 2))))),?_⟩;refine ⟨by show 8<=sizeLine; decide,fun t ht=>?_⟩;have st:=aY (o:=.tup (Fw.map V.int)) ht;refine ⟨_,rfl,_,_,rfl,rfl,.inr ⟨by decide,by decide⟩,_,rfl,_,_,rfl,rfl,.inr ⟨by decide,by decide⟩,_,_,rfl,rfl,_,rfl,_,_,rfl,rfl,⟨by decide,by decide⟩,_,_,rfl,rfl,(by show (0:Int) < 1000003; decide),_,_,rfl,rfl,.inr ⟨by decide,by decide⟩,_,_,rfl,rfl,?_⟩;obtain ⟨pa,p0⟩:=UW k;refine ⟨_,rfl,_,rfl,_,rfl,_,_,rfl,rfl,(by show (0:Int) < 8; decide),t,_,_,_,rfl,rfl,fj.of aD,pa,_,_,rfl,rfl,p0,_,rfl,_,_,rfl,rfl,m0,?_⟩;exact q _ st
end
abbrev Ad:dW:=top 55
structure XC (K:Fg) (a:gw) (C:aA) (j:Nat):Prop where
 t:Y4 K C
 b0:kitOne K (.ref C) (.ref a.eX)=some (0 == j)
 b1:kitOne K (.ref C) (.ref a.tooMany)=some (1 == j)
 b2:kitOne K (.ref C) (.ref a.yw)=some (2 == j)
 b3:kitOne K (.ref C) (.ref a.tX)=some (3 == j)
 b4:kitOne K (.ref C) (.ref a.tW)=some (4 == j)
 b5:kitOne K (.ref C) (.ref a.c7)=some (5 == j)
 v:kitOne K (.ref C) (.type "ValueError")=some true
 m:exmOne K (.ref C) (.ref a.Ky)=some true
structure KY (mg:Str->Option aB) (a:gw):Prop where
 is:mg "isinstance"=none
 ve:mg "ValueError"=none
 n0:mg "BadPot"=some (.ref a.eX)
 n1:mg "TooMany"=some (.ref a.tooMany)
 n2:mg "NoPot"=some (.ref a.yw)
 n3:mg "BadDay"=some (.ref a.tX)
 n4:mg "BadRow"=some (.ref a.tW)
 n5:mg "NoState"=some (.ref a.c7)
 ge:mg "GardenError"=some (.ref a.Ky)
section
variable {P:cC} {w:World} {K:Fg} {mg:Str->Option aB} {base:Heap} {a:gw} {dV:aB}
def hot (j:Nat):List V:=[.bl (0 == j),.bl (1 == j),.bl (2 == j),.bl (3 == j),.bl (4 == j),.bl (5 == j)]
def Fx (K:Fg) (a:gw):Sp:=fun vs H Q _=>∃ e C j,vs=[.ref e]/\H e=some (zJ e (.ref C) none)/\XC K a C j/\∀ H' l,Same H H'->H' l=some (.lst (hot j))->Q (.ref l) H'
theorem Nt:bV ["_law_error","_law_found"] ["_law_error"] (aW Ad):=eO (by decide +kernel)
theorem U3 {f:aA} {fd:fQ} (F:n6 K "_law_sorts" "_law_sorts" Ad f fd) (N:KY mg a):Cr P w K mg base (fL P w) 1 f fd ["_law_error"] (Fx K a):=by
 refine F.okH Nt (fun vs H Q E h=>?_) (fun cdv A outer s H vs Q E hr h=>?_)
 ·obtain ⟨e,C,j,rfl,_⟩:=h;rfl
 ·obtain ⟨e,C,j,rfl,he,x,q⟩:=h;refine ⟨_,aH (bM (i:=1) Nt.nd rfl (Or.inl rfl) (fZ (ao (ig mH N.is boot_isinstance (ao (pv 0) (ao (qg (.ref a.eX) N.n0 rfl) aK))) (ao (ig mH N.is boot_isinstance (ao (pv 0) (ao (qg (.ref a.tooMany) N.n1 rfl) aK))) (ao (ig mH N.is boot_isinstance (ao (pv 0) (ao (qg (.ref a.yw) N.n2 rfl) aK))) aK))))) (aU (cj (bZ wL (pv 1) (fZ (ao (ig mH N.is boot_isinstance (ao (pv 0) (ao (qg (.ref a.tX) N.n3 rfl) aK))) (ao (ig mH N.is boot_isinstance (ao (pv 0) (ao (qg (.ref a.tW) N.n4 rfl) aK))) (ao (ig mH N.is boot_isinstance (ao (pv 0) (ao (qg (.ref a.c7) N.n5 rfl) aK))) aK))))))),?_⟩;refine ⟨_,rfl,e,C,_,_,_,rfl,rfl,⟨_,.inl rfl⟩,he,x.t,x.b0,_,rfl,e,C,_,_,_,rfl,rfl,⟨_,.inl rfl⟩,he,x.t,x.b1,_,rfl,e,C,_,_,_,rfl,rfl,⟨_,.inl rfl⟩,he,x.t,x.b2,by show 3<=sizeLine; decide,fun l1 h1=>?_⟩;have s1:=aY (o:=.lst [V.bl (0 == j),.bl (1 == j),.bl (2 == j)]) h1;have he1:=s1 _ _ he;refine ⟨_,rfl,_,rfl,e,C,_,_,_,rfl,rfl,⟨_,.inl rfl⟩,he1,x.t,x.b3,_,rfl,e,C,_,_,_,rfl,rfl,⟨_,.inl rfl⟩,he1,x.t,x.b4,_,rfl,e,C,_,_,_,rfl,rfl,⟨_,.inl rfl⟩,he1,x.t,x.b5,by show 3<=sizeLine; decide,fun l2 h2=>?_⟩;have s2:=aY (o:=.lst [V.bl (3 == j),.bl (4 == j),.bl (5 == j)]) h2;refine ⟨l1,l2,_,_,rfl,rfl,s2 _ _ aD,aD,by show 6<=sizeLine; decide,fun l3 h3=>?_⟩;exact q _ l3 ((s1.trans s2).trans (aY h3)) aD
end
abbrev HN:dW:=top 26
abbrev Ae:dW:=top 27
abbrev U4:dW:=inClass (top 28) 2
abbrev U5:dW:=inClass (top 28) 3
structure HS (K:Fg) (mg:Str->Option aB) (a:gw) (dV:aB):Prop where
 Z:KQ K mg a dV
 aiA:Fn K "is_state" "is_state" HN ["garden","value"] a.Ui a.abw
 ap7:mg "is_state"=some (.ref a.Ui)
 ref:Fn K "refuse_no_state" "refuse_no_state" Ae ["garden","value"] a.KC a.Uk
 aiB:mg "refuse_no_state"=some (.ref a.KC)
 num:Fn K "number" "Garden.number" U4 ["self","state"] a.Fo a.apQ
 ap8:Meth K a.garden "number" a.Fo
 sta:Fn K "state" "Garden.state" U5 ["self","number"] a.Fp a.apR
 aAf:Meth K a.garden "state" a.Fp
 ZG:Exn K mg "NoState" a.c7
section
variable {P:cC} {w:World} {K:Fg} {mg:Str->Option aB} {base:Heap} {a:gw} {dV:aB}
theorem ap9 {x y:Int} {A B:Prop} (e:x≠y) (h:A):if (!decide (V.int x=V.int y))=true then A else B:=by
 rw [aL (fun z=>e (by injection z))]; exact eE h
theorem U6 {x y:Int} {A B:Prop} (e:x=y) (h:B):if (!decide (V.int x=V.int y))=true then A else B:=by
 rw [aM (by rw [e])]; exact d9 h
theorem yE {X:Cx} {pos:Pos} (K:Fg) {es:List Expr} {k:Nat} {t:TGs} {n:Nat} (hc:X.calm=true) (h:PGs X es t) (hK:autoParam (X.K=K) zau0) (hn:autoParam ((assignEach es X.env).length=n) zau0) (hst:autoParam ((assignEach es X.env).findIdx? (·.1)=none) zau0):PG X (.Tuple es k pos) (aoX K n t):=by
 subst hK;exact lZ hc h hn hst
def uc (ys:List V) (ps:List cL):Bool:=(ys.zip ps).all fun c=>dD c.1 0 (c.2.gap - 1)
inductive jM (K:Fg) (H:Hp) (wk:Int) (ps:List cL):V->Bool->Prop
 | no {v:V} {k:Kd}:gh K H v k->bi k .tuple=false->jM K H wk ps v false
 | len {t:aA} {xs:List V}:H t=some (.tup xs)->xs.length≠2->jM K H wk ps (.ref t) false
 | day {t:aA} {d s:V} {k:Kd}:H t=some (.tup [d,s])->gh K H d k->dD d 0 (wk - 1)=false->jM K H wk ps (.ref t) false
 | sn {t:aA} {d s:V} {k:Kd}:H t=some (.tup [d,s])->dD d 0 (wk - 1)=true->gh K H s k->bi k .tuple=false->jM K H wk ps (.ref t) false
 | sl {t s:aA} {d:V} {ys:List V}:H t=some (.tup [d,.ref s])->dD d 0 (wk - 1)=true->H s=some (.tup ys)->ys.length≠ps.length->jM K H wk ps (.ref t) false
 | all {t s:aA} {d:V} {ys:List V}:H t=some (.tup [d,.ref s])->dD d 0 (wk - 1)=true->H s=some (.tup ys)->ys.length=ps.length->(∀ y ∈ ys,∃ k,gh K H y k)->jM K H wk ps (.ref t) (uc ys ps)
def aiC (K:Fg) (a:gw):Sp:=fun vs H Q _=>∃ x g v b,vs=[.ref x,v]/\fW a H x g/\g.pots.length<=8/\jM K H g.week g.pots v b/\∀ H',Same H H'->Q (.bl b) H'
theorem KZ:bV ["garden","value","day","since"] ["garden","value"] (aW HN):=eO (by decide +kernel)
theorem Af {H:Hp} {v:V} {l m:Int} (h:dD v l m=true):gh K H v .int:=by
 obtain ⟨i,rfl,_⟩:=iZ h;exact ⟨i,rfl⟩
theorem ZJ (S:HS K mg a dV):cD P w K mg base (fL P w) 2 a.Ui a.abw ["garden","value"] (aiC K a):=by
 refine S.aiA.F.mF KZ (fun vs H Q E h=>?_) (fun cdv A outer s H vs Q E hr h=>?_)
 ·obtain ⟨x,g,v,b,rfl,_⟩:=h;rfl
 ·obtain ⟨x,g,v,b,rfl,⟨dx,l,as,hx,hl,pt⟩,h8,sa,q⟩:=h;have Z:=S.Z;have T:=Z.G.T;have nd2:[("days":Str),"pot"].Nodup:=by decide +kernel
  refine ⟨_,aH (eV (pw_or (iG (gQ (qD .tuple T.B.isinstance T.B.tuple (pv 1)))) (pw_or1 (cN BX (ig dJ T.B.len PySem.boot_len (ao (pv 1) aK)) aV (dz _)))).pt (aU (cj qb)) cX) (aH (bM (i:=2) KZ.nd rfl (Or.inl rfl) (dh dM (pv 1) aV (fun _ _=>rfl))) (aH (bM (i:=3) KZ.nd rfl (Or.inl rfl) (dh dM (pv 1) aV (fun _ _=>rfl))) (aH (eV (iG (gQ (dI T.okW hr T.mwh T.wh.F.kp T.wh.b bB (ao (pv 2) (ao aV (ao (bZ wJ (fG (pv 0) rfl) aV) aK)))))) (aU (cj qb)) cX) (aH (eV (pw_or (iG (gQ (qD .tuple T.B.isinstance T.B.tuple (pv 3)))) (pw_or1 (cN BX (ig dJ T.B.len PySem.boot_len (ao (pv 3) aK)) (ig dJ T.B.len PySem.boot_len (ao (fG (pv 0) rfl) aK)) (dz _)))).pt (aU (cj qb)) cX) (aU (cj (ig (Cw rfl) T.B.all boot_all (ao (jg bW rfl ⟨_,_,rfl,rfl,rfl⟩ (jk.plain (N':=["days","pot"]) rfl (by decide +kernel) (by decide +kernel)) (J7 (by rfl) T.B.zip (ao (pv 3) (ao (fG (pv 0) rfl) aK))) (fun _ _ _ _ _=>yE K (n:=2) rfl (cg (cZ 0 nd2) (cg (cZ 1 nd2) gM))) (fun _ _ _ _ _=>jf) (fun _ _ _ _ _ _=>dI T.okW hr T.mwh T.wh.F.kp T.wh.b bB (ao (pv 0) (ao aV (ao (bZ wJ (M4 K (pv 1)) aV) aK))))) aK)))))))),?_⟩;have la:as.length=g.pots.length:=Paired.length pt;have hL:cU K H l (as.map V.ref):=cU.of hl;cases sa with
  | no hk hb =>
   refine ⟨_,rfl,v,_,rfl,hk,_,rfl,?_⟩;rw [hb];exact eE (eE (q H (Same.refl _)))
  | @len t xs h1 h2 =>
   refine ⟨_,rfl,_,.tup,rfl,⟨t,_,rfl,h1⟩,_,rfl,d9 ⟨_,rfl,t,_,rfl,.inr (fj.of h1),rfl,_,rfl,ap9 (by omega) (q H (Same.refl _))⟩⟩
  | @day t d s k h1 h2 h3 =>
   refine ⟨_,rfl,_,.tup,rfl,⟨t,_,rfl,h1⟩,_,rfl,d9 ⟨_,rfl,t,_,rfl,.inr (fj.of h1),rfl,_,rfl,U6 rfl ⟨_,rfl,t,_,0,d,rfl,rfl,fj.of h1,rfl,_,rfl,t,_,1,s,rfl,rfl,fj.of h1,rfl,?_⟩⟩⟩;refine ⟨_,rfl,_,rfl,x,a.garden,dx,_,_,rfl,hx,Z.tG.cl,Z.nG _ (by simp),tZ ..,_,_,rfl,rfl,d,0,g.week - 1,k,rfl,h2,_,rfl,?_⟩;rw [h3];exact eE (q H (Same.refl _))
  | @sn t d s k h1 h2 h3 h4 =>
   refine ⟨_,rfl,_,.tup,rfl,⟨t,_,rfl,h1⟩,_,rfl,d9 ⟨_,rfl,t,_,rfl,.inr (fj.of h1),rfl,_,rfl,U6 rfl ⟨_,rfl,t,_,0,d,rfl,rfl,fj.of h1,rfl,_,rfl,t,_,1,s,rfl,rfl,fj.of h1,rfl,?_⟩⟩⟩;refine ⟨_,rfl,_,rfl,x,a.garden,dx,_,_,rfl,hx,Z.tG.cl,Z.nG _ (by simp),tZ ..,_,_,rfl,rfl,d,0,g.week - 1,.int,rfl,Af h2,_,rfl,?_⟩;rw [h2];refine d9 ⟨_,rfl,s,k,rfl,h3,_,rfl,?_⟩;rw [h4];exact eE (eE (q H (Same.refl _)))
  | @sl t s d ys h1 h2 h3 h4 =>
   refine ⟨_,rfl,_,.tup,rfl,⟨t,_,rfl,h1⟩,_,rfl,d9 ⟨_,rfl,t,_,rfl,.inr (fj.of h1),rfl,_,rfl,U6 rfl ⟨_,rfl,t,_,0,d,rfl,rfl,fj.of h1,rfl,_,rfl,t,_,1,.ref s,rfl,rfl,fj.of h1,rfl,?_⟩⟩⟩;refine ⟨_,rfl,_,rfl,x,a.garden,dx,_,_,rfl,hx,Z.tG.cl,Z.nG _ (by simp),tZ ..,_,_,rfl,rfl,d,0,g.week - 1,.int,rfl,Af h2,_,rfl,?_⟩;rw [h2];refine d9 ⟨_,rfl,.ref s,.tup,rfl,⟨s,_,rfl,h3⟩,_,rfl,d9 ⟨_,rfl,s,_,rfl,.inr (fj.of h3),_,rfl,x,a.garden,dx,_,_,rfl,hx,Z.tG.cl,Z.nG _ (by simp),ou ..,l,_,rfl,.inl hL,rfl,_,rfl,?_⟩⟩;exact ap9 (by rw [ak,la]; omega) (q H (Same.refl _))
  | @all t s d ys h1 h2 h3 h4 h5 =>
   refine ⟨_,rfl,_,.tup,rfl,⟨t,_,rfl,h1⟩,_,rfl,d9 ⟨_,rfl,t,_,rfl,.inr (fj.of h1),rfl,_,rfl,U6 rfl ⟨_,rfl,t,_,0,d,rfl,rfl,fj.of h1,rfl,_,rfl,t,_,1,.ref s,rfl,rfl,fj.of h1,rfl,?_⟩⟩⟩;refine ⟨_,rfl,_,rfl,x,a.garden,dx,_,_,rfl,hx,Z.tG.cl,Z.nG _ (by simp),tZ ..,_,_,rfl,rfl,d,0,g.week - 1,.int,rfl,Af h2,_,rfl,?_⟩;rw [h2];refine d9 ⟨_,rfl,.ref s,.tup,rfl,⟨s,_,rfl,h3⟩,_,rfl,d9 ⟨_,rfl,s,_,rfl,.inr (fj.of h3),_,rfl,x,a.garden,dx,_,_,rfl,hx,Z.tG.cl,Z.nG _ (by simp),ou ..,l,_,rfl,.inl hL,rfl,_,rfl,U6 (by rw [ak,la,h4]) ?_⟩⟩;refine ⟨_,rfl,_,rfl,x,a.garden,dx,_,_,rfl,hx,Z.tG.cl,Z.nG _ (by simp),ou ..,s,l,ys,_,rfl,fj.of h3,hL,fun D hD=>?_⟩;refine yW ys.length (bJ (by omega:ys.length<=8) (by decide)) (fun i=>.bl (((ys.zip g.pots)[i]?.map fun c=>dD c.1 0 (c.2.gap - 1)).getD true)) (fun i H'=>H' D=some (.lst ((List.range i).map fun i=>V.bl (((ys.zip g.pots)[i]?.map fun c=>dD c.1 0 (c.2.gap - 1)).getD true)))/\Same H H') ⟨aD,aY hD⟩ (fun i H' _ e=>e.1) (fun H' e=>⟨?_,?_⟩) (fun i H' lt e=>⟨?_,?_⟩)
   ·exact ⟨ys,_,fj.of (e.2 _ _ h3),e.2.seq hL,.inl (aO _)⟩
   ·refine ⟨D,(List.range ys.length).map fun i=>(((ys.zip g.pots)[i]?.map fun c=>dD c.1 0 (c.2.gap - 1)).getD true),rfl,cU.of (by rw [e.1,eY]; rfl),?_⟩;have ez:((List.range ys.length).map fun i=>(((ys.zip g.pots)[i]?.map fun c=>dD c.1 0 (c.2.gap - 1)).getD true)).all id=uc ys g.pots:=by
     have lz:(ys.zip g.pots).length=ys.length:=by rw [length_zip]; omega
     have:=all_range ((ys.zip g.pots).map fun c=>dD c.1 0 (c.2.gap - 1));rw [ak,lz] at this;rw [all_map] at this ⊢;refine Eq.trans ?_ this
     congr 1
     funext i
     simp
    rw [ez];exact q _ e.2
   ·have l2:i < (as.map V.ref).length:=by rw [ak]; omega
    exact ⟨ys,as.map V.ref,ys[i],(as.map V.ref)[i],fj.of (e.2 _ _ h3),e.2.seq hL,by simp [lt],by simp [l2]⟩
   ·rintro y yp ⟨t2,Nu,rfl,hu⟩ Qc k;obtain ⟨hd,s1⟩:=e;have lb:i < as.length:=by omega
    have hb:as[i]?=some as[i]:=aG lb;obtain ⟨p,hp,pb⟩:=dB pt hb;have hy:ys[i]?=some ys[i]:=aG lt;have hbm:(as.map V.ref)[i]?=some (.ref as[i]):=by rw [aJ,hb]; rfl
    have e2:=hu ys _ ys[i] (.ref as[i]) (fj.of (s1 _ _ h3)) (s1.seq hL) hy hbm;subst e2;have s2:=s1.trans (aY (o:=.tup [ys[i],V.ref as[i]]) Nu);obtain ⟨ky,hky⟩:=h5 ys[i] (List.getElem_mem lt);obtain ⟨dy,hb'⟩:=pb.same s2;have cT:=T.cls p.j7;refine ⟨t2,_,rfl,fj.of aD,rfl,_,_,rfl,_,_,rfl,rfl,g8,_,rfl,_,rfl,as[i],p.cls a,dy,_,_,rfl,hb',cT.1.cl,cT.2 _ (by simp),p.z8,_,_,rfl,rfl,ys[i],0,p.gap - 1,ky,rfl,hky.same s2,?_⟩;have hz:(ys.zip g.pots)[i]?=some (ys[i],p):=by rw [List.getElem?_zip_eq_some]; exact ⟨hy,hp⟩
    have k':=k (upd H' t2 (.tup [ys[i],V.ref as[i]])) (by rw [bf (dw hd Nu)]; exact hd) ⟨aD,jB s2 hD⟩;rw [hz] at k';exact k'
def ZK (K:Fg) (a:gw):Sp:=fun vs H Q E=>∃ x g v b,vs=[.ref x,v]/\fW a H x g/\g.pots.length<=8/\jM K H g.week g.pots v b/\(b=false->∀ H',Same H H'->E (.ref a.c7) none H')/\(b=true->∀ H',Same H H'->Q .non H')
theorem ZL:bV ["garden","value"] ["garden","value"] (aW Ae):=eO (by decide +kernel)
theorem Ag (S:HS K mg a dV):cD P w K mg base (fL P w) 3 a.KC a.Uk ["garden","value"] (ZK K a):=by
 refine S.ref.F.mF ZL (fun vs H Q E h=>?_) (fun cdv A outer s H vs Q E hr h=>?_)
 ·obtain ⟨x,g,v,b,rfl,_⟩:=h;rfl
 ·obtain ⟨x,g,v,b,rfl,gx,h8,sa,bad,good⟩:=h;refine ⟨_,aU (eV (iG (gQ (dI (ZJ S) hr S.ap7 S.aiA.F.kp S.aiA.b bB (ao (pv 0) (ao (pv 1) aK))))) (aU (iI bW rfl (by rfl) S.ZG.m S.ZG.q PySem.F.excBase_ValueError (ao ju aK))) cX),?_⟩;refine ⟨_,rfl,_,rfl,x,g,v,b,rfl,gx,h8,sa,fun H1 s1=>⟨_,rfl,?_⟩⟩;cases b with
  | false=>exact eE ⟨by show 1<=sizeLine; decide,bad rfl H1 s1⟩
  | true=>exact d9 (good rfl H1 s1)
def j8 (H:Hp) (v:V) (d:Int) (ds:List Int):Prop:=∃ t s,v=.ref t/\H t=some (.tup [.int d,.ref s])/\H s=some (.tup (ds.map V.int))
structure gK (wk:Int) (ps:List cL) (d:Int) (ds:List Int):Prop where
 d0:0<=d
 d1:d < wk
 len:ds.length=ps.length
 at_:∀ (i:Nat) (y:Int) (p:cL),ds[i]?=some y->ps[i]?=some p->0<=y/\y < p.gap
theorem j8.same {H H':Hp} {v:V} {d:Int} {ds:List Int} (h:j8 H v d ds) (s:Same H H'):j8 H' v d ds:=by
 obtain ⟨t,u,e,h1,h2⟩:=h;exact ⟨t,u,e,s _ _ h1,s _ _ h2⟩
theorem yF:∀ {ys:List V} {ps:List cL},ys.length=ps.length->uc ys ps=true->∃ ds:List Int,ys=ds.map V.int/\∀ (i:Nat) (y:Int) (p:cL),ds[i]?=some y->ps[i]?=some p->0<=y/\y < p.gap
 | [],_,_,_=>⟨[],rfl,fun i y p h=>by simp at h⟩
 | y::ys,[],h,_=>by simp at h
 | y::ys,p::ps,h,z=>by
  have z':(dD y 0 (p.gap - 1) && uc ys ps)=true:=z;rw [Bool.and_eq_true] at z';obtain ⟨i,rfl,h1,h2⟩:=iZ z'.1;obtain ⟨ds,rfl,hd⟩:=yF (by simpa using h) z'.2;refine ⟨i::ds,rfl,fun j y q hy hq=>?_⟩;cases j with
  | zero=>cases hy; cases hq; exact ⟨h1,by omega⟩
  | succ j=>exact hd j y q hy hq
theorem Dh:∀ {ds:List Int} {ps:List cL},ds.length=ps.length->(∀ (i:Nat) (y:Int) (p:cL),ds[i]?=some y->ps[i]?=some p->0<=y/\y < p.gap)->uc (ds.map V.int) ps=true
 | [],_,_,_=>rfl
 | y::ds,[],h,_=>by simp at h
 | y::ds,p::ps,h,z=>by
  show (dD (.int y) 0 (p.gap - 1) && uc (ds.map V.int) ps)=true
  rw [Dh (by simpa using h) fun i y q h1 h2=>z (i + 1) y q h1 h2];obtain ⟨h1,h2⟩:=z 0 y p rfl rfl;have h3:y<=p.gap - 1:=by omega
  simp [dD,h1,h3]
theorem jM.good {H:Hp} {wk:Int} {ps:List cL} {v:V} (h:jM K H wk ps v true):∃ d ds,j8 H v d ds/\gK wk ps d ds:=by
 generalize e:true=b at h;cases h with
 | no=>cases e
 | len=>cases e
 | day=>cases e
 | sn=>cases e
 | sl=>cases e
 | @all t s d ys h1 h2 h3 h4 h5 =>
  obtain ⟨i,rfl,i0,i1⟩:=iZ h2;obtain ⟨ds,rfl,hd⟩:=yF h4 e.symm;exact ⟨i,ds,⟨t,s,rfl,h1,h3⟩,i0,by omega,by simpa using h4,hd⟩
theorem j8.arg {H:Hp} {wk:Int} {ps:List cL} {v:V} {d:Int} {ds:List Int} (h:j8 H v d ds) (ok:gK wk ps d ds):jM K H wk ps v true:=by
 obtain ⟨t,s,rfl,h1,h2⟩:=h;have e:uc (ds.map V.int) ps=true:=Dh ok.len ok.at_;rw [<- e];refine .all h1 ?_ h2 (by rw [ak]; exact ok.len) fun y hy=>?_
 ·have:=ok.d0;have:=ok.d1;have h3:d<=wk - 1:=by omega
  simp [dD,ok.d0,h3]
 ·obtain ⟨i,_,rfl⟩:=bx.mp hy;exact ⟨.int,i,rfl⟩
theorem j8.one {H:Hp} {v:V} {d d':Int} {ds ds':List Int} (h:j8 H v d ds) (h':j8 H v d' ds'):d=d'/\ds=ds':=by
 obtain ⟨t,s,rfl,h1,h2⟩:=h;obtain ⟨t',s',e,h1',h2'⟩:=h';cases e;rw [h1] at h1';cases h1';rw [h2] at h2';injection h2' with h2';injection h2' with h2';exact ⟨rfl,(List.map_inj_right (fun _ _ z=>by injection z)).mp h2'⟩
def numOf (d:Int) (ps:List cL) (ds:List Int):Int:=(ps.zip ds).foldl (fun c q=>c * q.1.gap + q.2) d
def aqa (K:Fg) (a:gw):Sp:=fun vs H Q E=>∃ x g v b,vs=[.ref x,v]/\fW a H x g/\(∀ p ∈ g.pots,p.Ok)/\g.pots.length<=8/\jM K H g.week g.pots v b/\(b=false->∀ H',Same H H'->E (.ref a.c7) none H') /\ (b=true->∀ d ds H',j8 H v d ds->gK g.week g.pots d ds->Same H H'->Q (.int (numOf d g.pots ds)) H')
theorem HW:bV ["self","state","count","days","pot"] ["self","state"] (aW U4):=eO (by decide +kernel)
theorem U7 (S:HS K mg a dV):cD P w K mg base (fL P w) 4 a.Fo a.apQ ["self","state"] (aqa K a):=by
 refine S.num.F.mF HW (fun vs H Q E h=>?_) (fun cdv A outer s H vs Q E hr h=>?_)
 ·obtain ⟨x,g,v,b,rfl,_⟩:=h;rfl
 ·obtain ⟨x,g,v,b,rfl,gx,pQ,h8,sa,bad,good⟩:=h;have Z:=S.Z;have T:=Z.G.T;refine ⟨_,aH (fu (dI (Ag S) hr S.aiB S.ref.F.kp S.ref.b (cV bW) (ao (pv 0) (ao (pv 1) aK)))) (aH (bM (i:=2) HW.nd rfl (Or.inl rfl) (dh dM (pv 1) aV (fun _ _=>rfl))) (aH (gR dY rfl (J7 (by rfl) T.B.zip (ao (dh dM (pv 1) aV (fun _ _=>rfl)) (ao (fG (pv 0) rfl) aK))) (lZ rfl (cg (cZ 3 HW.nd) (cg (cZ 4 HW.nd) gM))) (aU (bM (i:=2) HW.nd rfl (Or.inl rfl) (bZ iH (bZ tD (pv 2) (fG (pv 4) rfl)) (pv 3))))) (aU (cj (pv 2))))),?_⟩;refine ⟨_,rfl,_,rfl,x,g,v,b,rfl,gx,h8,sa,fun eb H1 s1=>bad eb H1 s1,fun eb H1 s1=>?_⟩;subst eb;obtain ⟨d,ds,sv,ok⟩:=sa.good;have sv1:=sv.same s1;have gx1:=gx.same s1;obtain ⟨t,u,rfl,ht,hu⟩:=sv1;obtain ⟨dx,l,as,hx,hl,pt⟩:=gx1;have la:as.length=g.pots.length:=Paired.length pt;have ln:=ok.len;have hL:cU K H1 l (as.map V.ref):=cU.of hl;refine ⟨_,rfl,t,_,0,.int d,rfl,rfl,fj.of ht,rfl,_,rfl,t,_,1,.ref u,rfl,rfl,fj.of ht,rfl,_,rfl,x,a.garden,dx,_,_,rfl,hx,Z.tG.cl,Z.nG _ (by simp),ou ..,u,l,_,_,rfl,fj.of hu,hL,?_⟩;refine MJ (K:=K) (l:=u) (m:=l) (xs:=ds.map V.int) (ys:=as.map V.ref) (fun i σ H'=>∃ y z,σ=[some (.ref x),some (.ref t),some (.int (numOf d (g.pots.take i) (ds.take i))),y,z]/\Same H1 H') (by rw [ak,ak]; omega) ⟨none,none,rfl,Same.refl _⟩ (fun i σ H' _ ⟨_,_,_,s'⟩=>⟨fj.of (s' _ _ hu),s'.seq hL⟩) ?_ ?_
  ·rintro i y b' T2 σ H2 hy hb0 ⟨z1,z2,rfl,s2⟩ hT2;rw [aJ] at hy hb0;obtain ⟨n,hn,rfl⟩:=bh.mp hy;obtain ⟨b,hb,rfl⟩:=bh.mp hb0;obtain ⟨p,hp,pb⟩:=dB pt hb;have s3:=s2.trans (aY (o:=.tup [V.int n,.ref b]) hT2);obtain ⟨dy,hb'⟩:=pb.same s3;have KN:=pQ p (aP hp);have cT:=T.cls p.j7;refine ⟨T2,_,rfl,fj.of aD,rfl,_,_,rfl,_,_,rfl,rfl,?_⟩;refine ⟨_,rfl,_,rfl,b,p.cls a,dy,_,_,rfl,hb',cT.1.cl,cT.2 _ (by simp),p.z8,_,_,rfl,rfl,.inr ⟨by have:=KN.gap; omega,by have:=KN.gap; omega⟩,_,rfl,_,_,rfl,rfl,?_⟩;refine ⟨some (.int n),some (.ref b),?_,s3⟩;have e:numOf d (g.pots.take (i + 1)) (ds.take (i + 1))=numOf d (g.pots.take i) (ds.take i) * p.gap + n:=by
    have l1:(g.pots.take i).length=(ds.take i).length:=by rw [length_take,length_take]; omega
    rw [take_snoc hp,take_snoc hn,numOf,numOf,List.zip_append l1,foldl_append];rfl
   rw [e];rfl
  ·rintro σ H2 ⟨y,z,rfl,s2⟩;refine ⟨_,rfl,?_⟩;have q:=good rfl d ds H2 sv ok (s1.trans s2);rw [ak,bU,ln,bU];exact q
end
structure aiD (K:Fg) (mg:Str->Option aB) (a:gw) (dV:aB):Prop where
 S:HS K mg a dV
 N:KY mg a
 x5:XC K a a.c7 5
 so:∃ f fd,Fn K "_law_sorts" "_law_sorts" Ad ["_law_error"] f fd/\mg "_law_sorts"=some (.ref f)
section
variable {X:Cx}
theorem QG (K:Fg) (hK:autoParam (X.K=K) zau0):jH X (.builtin "isinstance") (fun xs H Q=>∃ e C c cv b,xs=[.ref e,c]/\RelV c cv/\(∃ C',c=.ref C'\/∃ T,c=.ty T)/\H e=some (zJ e (.ref C) none)/\Y4 K C/\kitOne K (.ref C) cv=some b/\Q (.bl b) H):=by
 subst hK;exact mH
theorem ZM (K:Fg) (hu:X.A.units + 64 < cLine) (hK:autoParam (X.K=K) zau0):pB X (compareOp .Eq) (Pj K false):=by
 subst hK;exact ah9 hu
end
section
variable {P:cC} {w:World} {K:Fg} {mg:Str->Option aB} {base:Heap} {a:gw} {dV:aB}
theorem nU {D:Ends} {σ:St} {i:Nat} (x5:XC K a a.c7 5) {H1:Hp} {e:aA} (he:H1 e=none) (hσ:σ[i]?=some (some (.ref e))) (q:∀ H',Same H1 H'->D.rt (.bl true) H') : aoU (aa5 (tOp (Pj K false) (Gs (Fx K a) [] (fun _ _ _=>False) (yh (Yp i) JT)) (tOp apf (tOp apg (ahQ (Sy [V.bl false])) (tC (.int 5))) (ahQ (Sy [V.bl true])))) (tCB (fun xs H Q=>∃ e C c cv b,xs=[.ref e,c]/\RelV c cv/\(∃ C',c=.ref C'\/∃ T,c=.ty T)/\H e=some (zJ e (.ref C) none)/\Y4 K C/\kitOne K (.ref C) cv=some b/\Q (.bl b) H) (yh (Yp i) (yh (tC (.ty "ValueError")) JT)))) D σ (upd H1 e (zJ e (.ref a.c7) none)):=by
 have s0:=aY (o:=zJ e (.ref a.c7) none) he;refine ⟨_,hσ,e,a.c7,5,rfl,aD,x5,fun H2 l s2 hl=>?_⟩;refine ⟨by show 1<=sizeLine; decide,fun l1 hl1=>⟨l1,5,_,rfl,rfl,aD,by decide,by decide,by show 5<=sizeLine; decide,fun l2 hl2=>⟨by show 1<=sizeLine; decide,fun l3 hl3=>?_⟩⟩⟩;have u1:=aY (o:=.lst [V.bl false]) hl1;have u2:=aY (o:=.lst (List.replicate (5:Int).toNat [V.bl false]).flatten) hl2;have u3:=aY (o:=.lst [V.bl true]) hl3;refine ⟨l2,l3,_,_,rfl,rfl,u3 _ _ aD,aD,by show 6<=sizeLine; decide,fun l4 hl4=>?_⟩;have u4:=aY (o:=.lst ((List.replicate (5:Int).toNat [V.bl false]).flatten++[V.bl true])) hl4;have sA:=((u1.trans u2).trans u3).trans u4;refine ⟨l,l4,hot 5,hot 5,0,fun _=>true,rfl,rfl,cU.of (sA _ _ hl),cU.of aD,by decide,fun _ j x y e1 e2=>?_,fun _=>⟨true,rfl,eE ?_⟩,fun z=>absurd rfl z⟩
 ·rw [e1] at e2;cases e2;exact UL (all_eq_true.mp (show (hot 5).all mq=true from rfl) x (aP e1))
 ·exact ⟨_,hσ,e,a.c7,.ty "ValueError",_,_,rfl,rfl,⟨e,.inr ⟨_,rfl⟩⟩,sA _ _ (s2 _ _ aD),x5.t,x5.v,q _ ((s0.trans s2).trans sA)⟩
end
section
variable {P:cC} {w:World} {K:Fg} {mg:Str->Option aB} {base:Heap} {a:gw} {dV:aB}
theorem ZP {l:aA} {xs:List V} {g:TG} {tb:TS} {D:Ends} {σ:St} {H:Hp} (Pv:Nat->St->Hp->Prop) (h0:Pv 0 σ H) (hl:∀ i σ H,i<=xs.length->Pv i σ H->cU K H l xs) (hs:∀ i x σ H,i < xs.length->xs[xs.length - 1 - i]?=some x->Pv i σ H->g x σ H fun σ2 H2=>tb { D with nx:=Pv (i + 1),ct:=Pv (i + 1),bk:=D.nx } σ2 H2) (hd:∀ σ H,Pv xs.length σ H->D.nx σ H) : ∃ W:Nat->Nat->St->Hp->Prop,(∃ k,W 0 k σ H)/\∀ i k σ H,W i k σ H -> ((Itv K l xs.length).stop i H/\D.nx σ H)\/((Itv K l xs.length).go i H/\∃ N:St->Hp->Prop,(∀ σ' H',N σ' H'->∃ k',k' < k/\W (i + 1) k' σ' H')/\∀ x H',(Itv K l xs.length).Rw i H x H'->g x σ H' fun σ2 H2=>tb { D with nx:=N,ct:=N,bk:=D.nx } σ2 H2):=by
 refine ⟨fun i k σ H=>k=xs.length - i/\i<=xs.length/\Pv i σ H,⟨xs.length,by simp,dG _,h0⟩,?_⟩;rintro i k σ H ⟨rfl,hi,p⟩;have sq:=hl i σ H hi p
 by_cases lt:i < xs.length
 ·refine .inr ⟨⟨lt,xs,sq,rfl⟩,Pv (i + 1),fun σ' H' p'=>⟨xs.length - (i + 1),by omega,rfl,lt,p'⟩,fun x H' y=>?_⟩;obtain ⟨rfl,y⟩:=y;exact hs i x σ H' lt (y xs sq) p
 ·have e:i=xs.length:=by omega
  subst e;exact .inl ⟨rfl,hd σ H p⟩
def stOf (gs:List Int) (n:Int):Int × List Int:=gs.foldr (fun g r=>(r.1 / g,r.1 % g::r.2)) (n,[])
def dX (ps:List cL):List Int:=ps.map cL.gap
theorem HX (gs:List Int) (n:Int):(stOf gs n).2.length=gs.length:=by
 induction gs with
 | nil=>rfl
 | cons g gs ih=>show ((stOf gs n).2.length + 1)=gs.length + 1; rw [ih]
theorem HY {n:Int}:∀ (ps:List cL),numOf (stOf (dX ps) n).1 ps (stOf (dX ps) n).2=n
 | []=>rfl
 | p::ps=>by
  have ih:=HY (n:=n) ps
  show numOf ((stOf (dX ps) n).1 / p.gap * p.gap + (stOf (dX ps) n).1 % p.gap) ps (stOf (dX ps) n).2=n
  rw [Int.mul_comm,Int.mul_ediv_add_emod];exact ih
theorem Ia {n:Int} (h0:0<=n):∀ (ps:List cL) (wk:Int),(∀ p ∈ ps,1<=p.gap)->n < sizeOf wk ps->0<=(stOf (dX ps) n).1/\(stOf (dX ps) n).1 < wk
 | [],wk,_,h=>⟨h0,h⟩
 | p::ps,wk,hg,h=>by
  have hp:=hg p (by simp);obtain ⟨i0,i1⟩:=Ia h0 ps (wk * p.gap) (fun q hq=>hg q (by simp [hq])) h
  show 0<=(stOf (dX ps) n).1 / p.gap/\(stOf (dX ps) n).1 / p.gap < wk
  exact ⟨Int.ediv_nonneg i0 (by omega),Int.ediv_lt_of_lt_mul (by omega) i1⟩
theorem Nv {n:Int}:∀ {ps:List cL} {i:Nat} {y:Int} {p:cL},(∀ p ∈ ps,1<=p.gap)->(stOf (dX ps) n).2[i]?=some y->ps[i]?=some p->0<=y/\y < p.gap
 | [],_,_,_,_,_,h=>by simp at h
 | q::ps,0,y,p,hg,h1,h2=>by
  have hq:=hg q (by simp);cases h2;have e:some ((stOf (dX ps) n).1 % q.gap)=some y:=h1;cases e;exact ⟨Int.emod_nonneg _ (by omega),Int.emod_lt_of_pos _ (by omega)⟩
 | q::ps,i + 1,y,p,hg,h1,h2=>Nv (fun r hr=>hg r (by simp [hr])) (show (stOf (dX ps) n).2[i]?=some y from h1) (by simpa using h2)
theorem ZQ {n wk:Int} {ps:List cL} (pQ:∀ p ∈ ps,p.Ok) (h0:0<=n) (h1:n < sizeOf wk ps):gK wk ps (stOf (dX ps) n).1 (stOf (dX ps) n).2:=by
 have hg:∀ p ∈ ps,1<=p.gap:=fun p hp=>(pQ p hp).gap.1
 obtain ⟨d0,d1⟩:=Ia h0 ps wk hg h1;exact ⟨d0,d1,by rw [HX,dX,ak],fun i y p hy hp=>Nv hg hy hp⟩
noncomputable def aqc (K:Fg) (a:gw):Sp:=fun vs H Q E=>∃ x g v kv,vs=[.ref x,v]/\fW a H x g/\(∀ p ∈ g.pots,p.Ok)/\g.pots.length<=8/\gh K H v kv/\(dD v 0 (sizeOf g.week g.pots - 1)=false->∀ H',Same H H'->E (.ref a.c7) none H') /\ (dD v 0 (sizeOf g.week g.pots - 1)=true->∀ n H' t,v=.int n->Same H H'->j8 H' (.ref t) (stOf (dX g.pots) n).1 (stOf (dX g.pots) n).2->Q (.ref t) H')
theorem Ib:bV ["self","number","left","since","pot"] ["self","number"] (aW U5):=eO (by decide +kernel)
theorem QH {α:Type} {xs:List α} {i:Nat} (h:i < xs.length):xs.drop (xs.length - (i + 1))=xs[xs.length - 1 - i]::xs.drop (xs.length - i):=by
 have e:xs.length - (i + 1)=xs.length - 1 - i:=by omega
 rw [e,List.drop_eq_getElem_cons (by omega)]
 congr 1
 congr 1
 omega
theorem aiE (S:HS K mg a dV):cD P w K mg base (fL P w) 2 a.Fp a.apR ["self","number"] (aqc K a):=by
 refine S.sta.F.mF Ib (fun vs H Q E h=>?_) (fun cdv A outer s H vs Q E hr h=>?_)
 ·obtain ⟨x,g,v,kv,rfl,_⟩:=h;rfl
 ·obtain ⟨x,g,v,kv,rfl,⟨dx,l,as,hx,hl,pt⟩,pQ,h8,hv,bad,good⟩:=h;have Z:=S.Z;have T:=Z.G.T;refine ⟨_,aH (eV (iG (gQ (dI T.okW hr T.mwh T.wh.F.kp T.wh.b bB (ao (pv 1) (ao aV (ao (bZ wJ (oN (pv 0) Z.tG.cl Z.Np (zj Z) hr Z.size.b .nil bB) aV) aK)))))) (aU (iI bW rfl (by rfl) S.ZG.m S.ZG.q PySem.F.excBase_ValueError (ao ju aK))) cX) (aH (bM (i:=2) Ib.nd rfl (Or.inl rfl) (pv 1)) (aH (bM (i:=3) Ib.nd rfl (Or.inl rfl) (fZ aK)) (aH (gR dY rfl (ah7 (by rfl) T.B.reversed (ao (fG (pv 0) rfl) aK)) (cZ 4 Ib.nd) (aH (fu (lH PySem.F.plainAttrs_list PySem.F.slot_list_append PySem.F.type_list_append fX (pv 3) (ao (bZ gH (pv 2) (fG (pv 4) rfl)) aK))) (aU (bM (i:=2) Ib.nd rfl (Or.inl rfl) (bZ jO (pv 2) (fG (pv 4) rfl)))))) (aU (cj (fJ (ao (pv 2) (ao (Pr rfl T.B.tuple T.B.reversed (ao (pv 3) aK)) aK)))))))),?_⟩;have la:as.length=g.pots.length:=Paired.length pt;have hL:cU K H l (as.map V.ref):=cU.of hl;refine ⟨_,rfl,_,rfl,x,dx,_,rfl,hx,BP _ _ _ _ (by decide +kernel) (by decide +kernel) (by decide +kernel) (by decide +kernel),x,dx,l,as,g.pots,_,g.week,_,rfl,hx,hL,pt,pQ,_,_,rfl,rfl,v,0,_,kv,rfl,hv,_,rfl,?_⟩;cases ew:dD v 0 (sizeOf g.week g.pots - 1) with
  | false=>exact eE ⟨by show 1<=sizeLine; decide,bad ew H (Same.refl _)⟩
  | true =>
   obtain ⟨n,rfl,n0,n1⟩:=iZ ew;refine d9 ⟨_,rfl,by show 0<=sizeLine; decide,fun m hm=>?_⟩;have sm:=aY (o:=.lst []) hm;refine ⟨_,rfl,x,a.garden,dx,_,_,rfl,sm _ _ hx,Z.tG.cl,Z.nG _ (by simp),ou ..,l,_,rfl,sm.seq hL,?_⟩;have nml:l≠m:=dw hl hm;refine ZP (K:=K) (l:=l) (xs:=as.map V.ref) (fun i σ H'=>∃ y,σ=[some (.ref x),some (.int n),some (.int (stOf (dX (g.pots.drop (g.pots.length - i))) n).1),some (.ref m),y]/\H' m=some (.lst ((stOf (dX (g.pots.drop (g.pots.length - i))) n).2.reverse.map V.int))/\Same H H') ⟨none,by rw [Nat.sub_zero,List.drop_length]; rfl,by rw [Nat.sub_zero,List.drop_length]; exact aD,sm⟩ (fun i σ H' _ ⟨_,_,_,s'⟩=>s'.seq hL) ?_ ?_
   ·rintro i y σ H1 lt hy ⟨u,rfl,hm1,s1⟩;rw [ak] at lt hy;rw [aJ] at hy;obtain ⟨b,hb,rfl⟩:=bh.mp hy;obtain ⟨p,hp,pb⟩:=dB pt hb;obtain ⟨dy,hb'⟩:=pb.same s1;have KN:=pQ p (aP hp);have cT:=T.cls p.j7;have lt':i < g.pots.length:=by omega
    have ed:=QH lt';have ep:g.pots[g.pots.length - 1 - i]=p:=by
     rw [la,aG (by omega)] at hp;exact bQ hp
    rw [ep] at ed;have e1:stOf (dX (g.pots.drop (g.pots.length - (i + 1)))) n=((stOf (dX (g.pots.drop (g.pots.length - i))) n).1 / p.gap,(stOf (dX (g.pots.drop (g.pots.length - i))) n).1 % p.gap::(stOf (dX (g.pots.drop (g.pots.length - i))) n).2):=by
     rw [ed]; rfl
    have lz:((stOf (dX (g.pots.drop (g.pots.length - i))) n).2.reverse.map V.int).length < sizeLine:=by
     rw [ak,List.length_reverse,HX,dX,ak,List.length_drop];exact Nat.lt_of_le_of_lt (by omega:_<=8) (by decide)
    refine ⟨_,rfl,.inl ⟨rfl,_,cU.of hm1⟩,_,rfl,_,rfl,b,p.cls a,dy,_,_,rfl,hb',cT.1.cl,cT.2 _ (by simp),p.z8,_,_,rfl,rfl,by have:=KN.gap; omega,m,_,_,rfl,rfl,hm1,lz,?_⟩;have hb2:upd H1 m (.lst ((stOf (dX (g.pots.drop (g.pots.length - i))) n).2.reverse.map V.int++[V.int ((stOf (dX (g.pots.drop (g.pots.length - i))) n).1 % p.gap)])) b=some (.ins (p.cls a) dy p.fs):=by
     rw [bf (jX hb' hm1 (by intro z; cases z))]; exact hb'
    refine ⟨_,rfl,_,rfl,b,p.cls a,dy,_,_,rfl,hb2,cT.1.cl,cT.2 _ (by simp),p.z8,_,_,rfl,rfl,⟨by have:=KN.gap; omega,by have:=KN.gap; omega⟩,?_⟩;refine ⟨some (.ref b),?_,?_,jB s1 hm⟩
    ·rw [e1]; rfl
    ·rw [aD,e1,List.reverse_cons,aZ]; rfl
   ·rintro σ H1 ⟨y,rfl,hm1,s1⟩;rw [ak,la,Nat.sub_self,List.drop_zero] at hm1 ⊢;refine ⟨_,rfl,_,rfl,m,_,rfl,cU.of hm1,fun t ht=>⟨by show 2<=sizeLine; decide,fun u hu=>?_⟩⟩;have nut:t≠u:=dw aD hu;refine good ew n _ u rfl ((s1.trans (aY ht)).trans (aY hu)) ⟨u,t,rfl,aD,?_⟩;rw [bf nut,aD,<- List.map_reverse,List.reverse_reverse]
end
abbrev K1:dW:=inClass (top 28) 4
section
variable {P:cC} {w:World} {K:Fg} {mg:Str->Option aB} {base:Heap} {a:gw} {dV:aB}
def U8 (a:gw):Sp:=fun vs H Q _=>∃ x g,vs=[.ref x]/\fW a H x g/\g.pots.length<=8/\∀ H' t,Same H H'->j8 H' (.ref t) 0 (List.replicate g.pots.length 0)->Q (.ref t) H'
theorem aqd:bV ["self"] ["self"] (aW K1):=eO (by decide +kernel)
theorem QJ {α:Type} (y:α) (n:Nat):(List.range n).map (fun _=>y)=List.replicate n y:=by
 induction n with
 | zero=>rfl
 | succ n ih=>rw [bY,aZ,ih,List.replicate_succ']; rfl
theorem U9 (Z:KQ K mg a dV) {f:aA} {fd:fQ} (F:n6 K "fresh" "Garden.fresh" K1 f fd):cD P w K mg base (fL P w) 1 f fd ["self"] (U8 a):=by
 refine F.mF aqd (fun vs H Q E h=>?_) (fun cdv A outer s H vs Q E hr h=>?_)
 ·obtain ⟨x,g,rfl,_⟩:=h;rfl
 ·obtain ⟨x,g,rfl,⟨dx,l,as,hx,hl,pt⟩,h8,q⟩:=h;have T:=Z.G.T;refine ⟨_,aU (cj (fJ (ao aV (ao (Hy sO T.B.tuple PyProof.Rows.boot_tuple (ao (jg bW rfl ⟨_,_,rfl,rfl,rfl⟩ (jk.plain (N':=["pot"]) rfl (by decide +kernel) (by decide +kernel)) (fK (fG (pv 0) rfl)) (fun _ _ _ _ _=>cZ 0 (show [("pot":Str)].Nodup by decide +kernel)) (fun _ _ _ _ _=>jf) (fun _ _ _ _ _ _=>aV)) aK)) aK)))),?_⟩;have la:as.length=g.pots.length:=Paired.length pt;have hL:cU K H l (as.map V.ref):=cU.of hl;refine ⟨_,rfl,x,a.garden,dx,_,_,rfl,hx,Z.tG.cl,Z.nG _ (by simp),ou ..,l,rfl,⟨_,hL⟩,fun D hD=>?_⟩;refine yW as.length (bJ (by omega:as.length<=8) (by decide)) (fun _=>.int 0) (fun i H'=>H'=upd H D (.lst ((List.range i).map fun _=>V.int 0))) rfl (fun i H' _ e=>by rw [e,aD]) (fun H' e=>⟨?_,?_⟩) (fun i H' lt e=>⟨?_,?_⟩)
  ·subst e;exact ⟨_,(aY hD).seq hL,by rw [ak]; exact aO _⟩
  ·subst e;have sD:=aY (o:=.lst ((List.range as.length).map fun _=>V.int 0)) hD;refine ⟨D,_,rfl,.inl ⟨cU.of aD,fun t ht=>⟨by show 2<=sizeLine; decide,fun u hu=>?_⟩⟩⟩;have nut:t≠u:=dw aD hu;refine q _ u ((sD.trans (aY ht)).trans (aY hu)) ⟨u,t,rfl,aD,?_⟩;rw [bf nut,aD,QJ,la,List.map_replicate]
  ·subst e;have sD:=aY (o:=.lst ((List.range i).map fun _=>V.int 0)) hD;exact ⟨_,_,sD.seq hL,by rw [aJ,aG lt]; rfl⟩
  ·rintro y yp ⟨rfl,_⟩ Qc k;subst e;exact ⟨g8,k _ aD (by rw [lQ])⟩
end
abbrev Ah:dW:=top 3
abbrev vY:dW:=top 31
abbrev Ie:dW:=top 32
abbrev vZ:dW:=inClass (top 16) 1
abbrev wg:dW:=inClass (top 17) 1
abbrev QK:dW:=top 33
abbrev QL:dW:=top 34
abbrev o8:dW:=top 35
structure BR (K:Fg) (mg:Str->Option aB) (a:gw) (dV:aB):Prop where
 S:HS K mg a dV
 aqe:∃ f fd,Fn K "is_set" "is_set" Ah ["number","bit"] f fd/\mg "is_set"=some (.ref f)
 con:∃ f fd,Fn K "cans_on" "cans_on" vY ["garden","day"] f fd/\mg "cans_on"=some (.ref f)
 aAi:∃ f fd,Fn K "day_behind" "day_behind" Ie ["garden","day"] f fd/\mg "day_behind"=some (.ref f)
 aAj:∃ f fd,Fn K "may" "Pot.may" vZ ["self","since"] f fd/\Meth K a.pot "may" f
 aAk:∃ f fd,Fn K "may" "Cactus.may" wg ["self","since"] f fd/\Meth K a.cH "may" f
 wow:∃ f fd,Fn K "without_water" "without_water" QK ["parts","pot","since"] f fd/\mg "without_water"=some (.ref f)
 wiw:∃ f fd,Fn K "with_water" "with_water" QL ["parts","pot","since","bit"] f fd/\mg "with_water"=some (.ref f)
 cho:∃ f fd,Fn K "choices" "choices" o8 ["garden","state"] f fd/\mg "choices"=some (.ref f)
section
variable {P:cC} {w:World} {K:Fg} {mg:Str->Option aB} {base:Heap} {a:gw} {dV:aB}
def Fy:Sp:=fun vs H Q _=>∃ n b:Int,vs=[.int n,.int b]/\0<=b/\Q (.bl (iQ n b)) H
theorem ZR:bV ["number","bit"] ["number","bit"] (aW Ah):=eO (by decide +kernel)
theorem ZS {i j:Int}:decide (V.int i=V.int j)=decide (i=j):=by
 by_cases h:i=j
 ·rw [aM h,aM (by rw [h])]
 ·rw [aL h,aL (fun z=>h (by injection z))]
theorem Ig {f:aA} {fd:fQ} (F:n6 K "is_set" "is_set" Ah f fd):cD P w K mg base (fL P w) 1 f fd ["number","bit"] Fy:=by
 refine F.mF ZR (fun vs H Q E h=>?_) (fun cdv A outer s H vs Q E hr h=>?_)
 ·obtain ⟨n,b,rfl,_⟩:=h;rfl
 ·obtain ⟨n,b,rfl,b0,q⟩:=h;refine ⟨_,aU (cj (nQ jJ (bZ DY (bZ DX (pv 0) (pv 1)) aV) aV (dz _))),?_⟩;refine ⟨_,rfl,_,rfl,_,_,rfl,rfl,b0,_,_,rfl,rfl,rfl,?_⟩;rw [ZS];exact q
def Ih (a:gw):Sp:=fun vs H Q _=>∃ x g d,vs=[.ref x,.int d]/\fW a H x g/\0<=d/\Q (.int (if iQ g.closed d then 0 else g.cans)) H
theorem Va:bV ["garden","day"] ["garden","day"] (aW vY):=eO (by decide +kernel)
theorem QM {f:aA} {fd:fQ} (F:n6 K "cans_on" "cans_on" vY f fd) (W:BR K mg a dV):cD P w K mg base (fL P w) 2 f fd ["garden","day"] (Ih a):=by
 refine F.mF Va (fun vs H Q E h=>?_) (fun cdv A outer s H vs Q E hr h=>?_)
 ·obtain ⟨x,g,d,rfl,_⟩:=h;rfl
 ·obtain ⟨x,g,d,rfl,⟨dx,l,as,hx,hl,pt⟩,d0,q⟩:=h;have Z:=W.S.Z;obtain ⟨fi,di,iF,mI⟩:=W.aqe;have ZV:cD P w K mg base (fL P w) 1 fi di ["number","bit"] Fy:=Ig iF.F;refine ⟨_,aU (cj (uY (gQ (dI ZV hr mI iF.F.kp iF.b bB (ao (fG (pv 0) rfl) (ao (pv 1) aK)))) aV (fG (pv 0) rfl))),?_⟩;refine ⟨_,rfl,x,a.garden,dx,_,_,rfl,hx,Z.tG.cl,Z.nG _ (by simp),HB ..,_,rfl,_,_,rfl,d0,_,rfl,?_⟩;cases e:iQ g.closed d with
  | true=>rw [e] at q; exact eE q
  | false=>rw [e] at q; exact d9 ⟨_,rfl,x,a.garden,dx,_,_,rfl,hx,Z.tG.cl,Z.nG _ (by simp),Ux ..,q⟩
def Vb (a:gw):Sp:=fun vs H Q _=>∃ x g d,vs=[.ref x,.int d]/\fW a H x g/\0 < g.week/\Q (.int ((d + 1) % g.week)) H
theorem aiF:bV ["garden","day"] ["garden","day"] (aW Ie):=eO (by decide +kernel)
theorem ZW {f:aA} {fd:fQ} (F:n6 K "day_behind" "day_behind" Ie f fd) (W:BR K mg a dV):cD P w K mg base (fL P w) 1 f fd ["garden","day"] (Vb a):=by
 refine F.mF aiF (fun vs H Q E h=>?_) (fun cdv A outer s H vs Q E hr h=>?_)
 ·obtain ⟨x,g,d,rfl,_⟩:=h;rfl
 ·obtain ⟨x,g,d,rfl,⟨dx,l,as,hx,hl,pt⟩,w0,q⟩:=h;have Z:=W.S.Z;refine ⟨_,aU (cj (bZ gH (bZ iH (pv 1) aV) (fG (pv 0) rfl))),?_⟩;exact ⟨_,rfl,_,_,rfl,rfl,_,rfl,x,a.garden,dx,_,_,rfl,hx,Z.tG.cl,Z.nG _ (by simp),tZ ..,_,_,rfl,rfl,w0,q⟩
def K3 (p:cL) (s:Int):Bool:=match p.rest with
 | none=>true
 | some r=>decide (r<=s)
def Nx (a:gw) (C:aA):Sp:=fun vs H Q _=>∃ x p s,vs=[.ref x,.int s]/\p.cls a=C/\mQ a H x p/\Q (.bl (K3 p s)) H
theorem aAl:bV ["self","since"] ["self","since"] (aW vZ):=eO (by decide +kernel)
theorem aAm:bV ["self","since"] ["self","since"] (aW wg):=eO (by decide +kernel)
theorem QS {f:aA} {fd:fQ} (F:n6 K "may" "Pot.may" vZ f fd) (T:pO K mg a):cD P w K mg base (fL P w) 1 f fd ["self","since"] (Nx a a.pot):=by
 refine F.mF aAl (fun vs H Q E h=>?_) (fun cdv A outer s H vs Q E hr h=>?_)
 ·obtain ⟨x,p,n,rfl,_⟩:=h;rfl
 ·obtain ⟨x,p,n,rfl,hc,px,q⟩:=h;refine ⟨_,aU (cj qb),?_⟩;have e:K3 p n=true:=by
   unfold K3;cases e:p.rest with
   | none=>rfl
   | some r=>rw [cL.cls,e] at hc; exact absurd hc.symm T.ne
  rw [e] at q;exact q
theorem QT {f:aA} {fd:fQ} (F:n6 K "may" "Cactus.may" wg f fd) (T:pO K mg a):cD P w K mg base (fL P w) 1 f fd ["self","since"] (Nx a a.cH):=by
 refine F.mF aAm (fun vs H Q E h=>?_) (fun cdv A outer s H vs Q E hr h=>?_)
 ·obtain ⟨x,p,n,rfl,_⟩:=h;rfl
 ·obtain ⟨x,p,n,rfl,hc,⟨dx,hx⟩,q⟩:=h;refine ⟨_,aU (cj (nQ ao4 (pv 1) (fG (pv 0) rfl) (dz _))),?_⟩;obtain ⟨r,er⟩:∃ r,p.rest=some r:=by
   cases e:p.rest with
   | none=>rw [cL.cls,e] at hc; exact absurd hc T.ne
   | some r=>exact ⟨r,rfl⟩
  have lr:p.fs.lookup ("rest":Str)=some (.int r):=by simp only [cL.fs,er]; exact Nk _ _ _
  rw [hc] at hx;have e:K3 p n=decide (r<=n):=by unfold K3; rw [er]
  rw [e] at q;exact ⟨_,rfl,_,rfl,x,a.cH,dx,_,_,rfl,hx,T.tC.cl,T.nC _ (by simp),lr,_,_,rfl,rfl,q⟩
theorem BR.may (W:BR K mg a dV):∀ C,(C=a.pot\/C=a.cH)->∃ f fd,Cls K C/\Meth K C "may" f/\cD P w K mg base (fL P w) 1 f fd ["self","since"] (Nx a C)/\Binds K fd ["self","since"] []:=by
 intro C h;have T:=W.S.Z.G.T;rcases h with rfl | rfl
 ·obtain ⟨f,fd,F,m⟩:=W.aAj;exact ⟨f,fd,T.tP.cl,m,QS F.F T,F.b⟩
 ·obtain ⟨f,fd,F,m⟩:=W.aAk;exact ⟨f,fd,T.tC.cl,m,QT F.F T,F.b⟩
end
abbrev Ai:Rep (Int × Int × List Int):=M5 oh oh (vB oh)
theorem jD:zP Ai:=G6 jr jr (qG jr)
section
variable {P:cC} {w:World} {K:Fg} {mg:Str->Option aB} {base:Heap} {a:gw} {dV:aB}
def Di (p:cL):Int:=match p.rest with
 | none=>-1
 | some r=>r
def Fz (p:cL) (s:Int):Cp:=⟨s,p.gap,Di p⟩
theorem ud {r:St} {x y z:Option V}:qd (none::none::none::r) ((((none::none::none::r).set 0 x).set 1 y).set 2 z):=by
 intro j v h
 match j,h with
 | 0,h=>simp at h
 | 1,h=>simp at h
 | 2,h=>simp at h
 | j + 3,h=>exact h
theorem ints_snoc {H H':Hp} {vs:List V} {b:List Int} (p:Paired (oh H) vs b) (n:Int):Paired (oh H') (vs++[.int n]) (b++[n]):=Paired.snoc (Paired.gG p fun _ _ z=>z) rfl
def abD (a:gw):Sp:=fun vs H Q _=>∃ l parts x p s,vs=[.ref l,.ref x,.int s]/\iJ Ai H (.ref l) parts/\parts.length<=1000/\(∀ q ∈ parts,q.2.2.length<=100)/\mQ a H x p/\∀ H' l',Same H H'->iJ Ai H' (.ref l') (S8 (Fz p s) parts)->Q (.ref l') H'
theorem aqf:bV ["parts","pot","since"] ["parts","pot","since"] (aW QK):=eO (by decide +kernel)
theorem aiG {f:aA} {fd:fQ} (F:n6 K "without_water" "without_water" QK f fd) (W:BR K mg a dV):cD P w K mg base (fL P w) 1 f fd ["parts","pot","since"] (abD a):=by
 refine F.mF aqf (fun vs H Q E h=>?_) (fun cdv A outer s H vs Q E hr h=>?_)
 ·obtain ⟨l,parts,x,p,n,rfl,_⟩:=h;rfl
 ·obtain ⟨l,parts,x,p,n,rfl,hl,lz,lb,⟨dx,hx⟩,q⟩:=h;have T:=W.S.Z.G.T;have Ny:[("choice":Str),"cans","behind","since"].Nodup:=by decide +kernel
  refine ⟨_,aH (eV (cN jJ (bZ iH (pv 2) aV) (fG (pv 1) rfl) (dz _)) (aU (cj (fZ aK))) cX) (aU (cj (jg bW rfl ⟨_,_,rfl,rfl,rfl⟩ (iY (N':=["choice","cans","behind","since"]) (cl:=[("since",s.heap.objs.size + 1)]) [none,none,none,some 2] ["parts","pot","since"] (aW QK).names [(".0",.local),("choice",.local),("cans",.local),("behind",.local),("since",.cell)] ["since"] rfl (by decide +kernel) (by decide +kernel) rfl (fun p hp=>by rw [aC.mp hp]; rfl) rfl rfl rfl rfl (by decide +kernel) rfl (by decide +kernel)) (fK (pv 0)) (fun _ _ _ _ _=>yE K (n:=3) rfl (cg (cZ 0 Ny) (cg (cZ 1 Ny) (cg (cZ 2 Ny) gM)))) (fun _ _ _ _ _=>jf) (fun _ _ _ _ _ _=>fJ (ao (pv 0) (ao (pv 1) (ao (bZ yX (pv 2) (fJ (ao (bZ iH (pv 3) aV) aK))) aK))))))),?_⟩;have cT:=T.cls p.j7;have big:1000<=sizeLine:=by decide
  refine ⟨_,rfl,_,_,rfl,rfl,_,rfl,x,p.cls a,dx,_,_,rfl,hx,cT.1.cl,cT.2 _ (by simp),p.z8,rfl,_,rfl,?_⟩
  by_cases z:n + 1=p.gap
  ·refine eqT z ⟨by show 0<=sizeLine; decide,fun l' hl'=>q _ l' (aY hl') ?_⟩;have e:S8 (Fz p n) parts=[]:=if_pos z;rw [e];exact ⟨l',[],rfl,aD,.nil⟩
  ·have e:S8 (Fz p n) parts=parts.map fun q=>(q.1,q.2.1,q.2.2++[n + 1]):=if_neg z
   obtain ⟨l0,vs,el,hv,pv0⟩:=id hl;cases el;refine ZD z ⟨_,rfl,l,rfl,⟨_,cU.of hv⟩,fun D hD=>vH jD jD (fun q=>(q.1,q.2.1,q.2.2++[n + 1])) hl (by omega) hD ?_ (fun H' s' r=>q H' D s' (by rw [e]; exact r))⟩;rintro i c v H2 hc ⟨t,u1,u2,u3,rfl,ht,r1,r2,tb,bs,r3,hb,pb⟩ s2 Qc k;cases r1;cases r2;subst r3;have lc:=lb c (aP hc);refine ⟨t,_,rfl,fj.of ht,rfl,_,_,rfl,_,_,rfl,_,_,rfl,rfl,ud,_,rfl,_,rfl,_,rfl,_,rfl,_,_,rfl,rfl,by show 1<=sizeLine; decide,fun t1 h1=>?_⟩;have v1:=aY (o:=.tup [V.int (n + 1)]) h1;refine ⟨tb,t1,bs,_,rfl,rfl,v1 _ _ hb,aD,by rw [Paired.length pb]; show c.2.2.length + 1<=sizeLine; omega,fun p2 H3 s3 hp2=>⟨by show 3<=sizeLine; decide,fun t2 h2=>?_⟩⟩;have v2:=aY (o:=.tup [V.int c.1,.int c.2.1,.ref p2]) h2;exact k _ _ ((v1.trans s3).trans v2) ⟨t2,_,_,_,rfl,aD,rfl,rfl,p2,_,rfl,v2 _ _ hp2,ints_snoc pb (n + 1)⟩
theorem Vc {p:cL} {s:Int} (h:0<=s):K3 p s=decide (Di p<=s):=by
 unfold K3 Di;cases p.rest with
 | none=>exact (aM (show (-1:Int)<=s by omega)).symm
 | some r=>rfl
def abE (a:gw):Sp:=fun vs H Q _=>∃ l parts x p s bit,vs=[.ref l,.ref x,.int s,.int bit]/\iJ Ai H (.ref l) parts/\parts.length<=1000/\(∀ q ∈ parts,q.2.2.length<=100)/\mQ a H x p/\0<=s/\∀ H' l',Same H H'->iJ Ai H' (.ref l') (S9 (Fz p s) bit parts)->Q (.ref l') H'
theorem aqg:bV ["parts","pot","since","bit"] ["parts","pot","since","bit"] (aW QL):=eO (by decide +kernel)
theorem aiH {f:aA} {fd:fQ} (F:n6 K "with_water" "with_water" QL f fd) (W:BR K mg a dV):cD P w K mg base (fL P w) 2 f fd ["parts","pot","since","bit"] (abE a):=by
 refine F.mF aqg (fun vs H Q E h=>?_) (fun cdv A outer s H vs Q E hr h=>?_)
 ·obtain ⟨l,parts,x,p,n,bit,rfl,_⟩:=h;rfl
 ·obtain ⟨l,parts,x,p,n,bit,rfl,hl,lz,lb,⟨dx,hx⟩,n0,q⟩:=h;have T:=W.S.Z.G.T;have Ny:[("choice":Str),"cans","behind","bit"].Nodup:=by decide +kernel
  refine ⟨_,aH (eV (iG (gQ (G5 (Cs:=fun C=>C=a.pot\/C=a.cH) (sp:=Nx a) (pv 1) hr W.may bB (ao (pv 2) aK)))) (aU (cj (fZ aK))) cX) (aU (cj (jg bW rfl ⟨_,_,rfl,rfl,rfl⟩ (iY (N':=["choice","cans","behind","bit"]) (cl:=[("bit",s.heap.objs.size + 1)]) [none,none,none,some 3] ["parts","pot","since","bit"] (aW QL).names [(".0",.local),("choice",.local),("cans",.local),("behind",.local),("bit",.cell)] ["bit"] rfl (by decide +kernel) (by decide +kernel) rfl (fun p hp=>by rw [aC.mp hp]; rfl) rfl rfl rfl rfl (by decide +kernel) rfl (by decide +kernel)) (fK (pv 0)) (fun _ _ _ _ _=>yE K (n:=3) rfl (cg (cZ 0 Ny) (cg (cZ 1 Ny) (cg (cZ 2 Ny) gM)))) (fun _ _ _ _ _=>vo (cN Mp (pv 1) aV (dz _))) (fun _ _ _ _ _ _=>fJ (ao (bZ iH (pv 0) (pv 3)) (ao (bZ wJ (pv 1) aV) (ao (bZ yX (pv 2) (fJ (iR [.int 0] rfl))) aK))))))),?_⟩;have big:1000<=sizeLine:=by decide
  refine ⟨_,rfl,x,p.cls a,dx,_,rfl,hx,p.j7,p.apW (by decide +kernel) (by decide +kernel) (by decide +kernel),_,rfl,x,p,n,rfl,rfl,⟨dx,hx⟩,_,rfl,?_⟩;rw [Vc n0]
  by_cases z:Di p<=n
  ·rw [aM z];have e:S9 (Fz p n) bit parts=(parts.filter fun q=>decide (0 < q.2.1)).map fun q=>(q.1 + bit,q.2.1 - 1,q.2.2++[0]):=if_pos z
   obtain ⟨l0,vs,el,hv,pv0⟩:=id hl;cases el;refine d9 ⟨_,rfl,l,rfl,⟨_,cU.of hv⟩,fun D hD=>Kf jD jD (fun q=>decide (0 < q.2.1)) (fun q=>(q.1 + bit,q.2.1 - 1,q.2.2++[0])) hl (by omega) hD ?_ (fun H' s' r=>q H' D s' (by rw [e]; exact r))⟩;rintro i c v H2 hc ⟨t,u1,u2,u3,rfl,ht,r1,r2,tb,bs,r3,hb,pb⟩ s2 Qc Qn k kn;cases r1;cases r2;subst r3;have lc:=lb c (aP hc);refine ⟨t,_,rfl,fj.of ht,rfl,_,_,rfl,_,_,rfl,_,_,rfl,rfl,ud,_,rfl,_,_,rfl,rfl,_,rfl,?_⟩
   by_cases z2:0 < c.2.1
   ·rw [aM z2];refine eE ⟨_,rfl,_,rfl,_,_,rfl,rfl,_,rfl,_,_,rfl,rfl,_,rfl,by show 1<=sizeLine; decide,fun t1 h1=>?_⟩;have v1:=aY (o:=.tup [V.int 0]) h1;refine ⟨tb,t1,bs,_,rfl,rfl,v1 _ _ hb,aD,by rw [Paired.length pb]; show c.2.2.length + 1<=sizeLine; omega,fun p2 H3 s3 hp2=>⟨by show 3<=sizeLine; decide,fun t2 h2=>?_⟩⟩;have v2:=aY (o:=.tup [V.int (c.1 + bit),.int (c.2.1 - 1),.ref p2]) h2;exact k (aM z2) _ _ ((v1.trans s3).trans v2) ⟨t2,_,_,_,rfl,aD,rfl,rfl,p2,_,rfl,v2 _ _ hp2,ints_snoc pb 0⟩
   ·rw [aL z2];exact d9 (kn (aL z2) _ (Same.refl _))
  ·rw [aL z];have e:S9 (Fz p n) bit parts=[]:=if_neg z;refine eE ⟨by show 0<=sizeLine; decide,fun l' hl'=>q _ l' (aY hl') ?_⟩;rw [e];exact ⟨l',[],rfl,aD,.nil⟩
end
abbrev je:Rep (Int × List Int):=yr oh (vB oh)
abbrev o9:Rep (Int × Int × List Int):=yr oh je
theorem iC:zP o9:=vG jr (vG jr (qG jr))
theorem fP:zP je:=vG jr (qG jr)
section
variable {P:cC} {w:World} {K:Fg} {mg:Str->Option aB} {base:Heap} {a:gw} {dV:aB}
def cpsOf (ps:List cL) (ds:List Int):List Cp:=(ps.zip ds).map fun q=>Fz q.1 q.2
theorem FJ {ps:List cL} {ds:List Int} {i:Nat} {p:cL} {n:Int} (hp:ps[i]?=some p) (hn:ds[i]?=some n):(cpsOf ps ds)[i]?=some (Fz p n):=by
 have:(ps.zip ds)[i]?=some (p,n):=by rw [List.getElem?_zip_eq_some]; exact ⟨hp,hn⟩
 unfold cpsOf;rw [aJ,this];rfl
theorem wj {ps:List cL} {ds:List Int} (h:ds.length=ps.length):(cpsOf ps ds).length=ps.length:=by
 unfold cpsOf;rw [ak,length_zip];omega
theorem rY (cans:Int) (l:List Cp) (i:Nat):(jd cans l i).length<=2 ^ i:=by
 unfold jd;exact bJ (List.length_filterMap_le _ _) (by rw [rM]; omega)
theorem QV {cans:Int} {l:List Cp} {i:Nat} {q:Int × Int × List Int} (h:q ∈ jd cans l i):q.2.2.length<=i:=by
 unfold jd at h;obtain ⟨m,hm,e⟩:=mem_filterMap.mp h;have hl:=lY hm;unfold tO at e
 split at e
 ·cases e;unfold yM;rw [ak,length_zip];omega
 ·cases e
theorem j9 {α β:Type} {R:α->β->Prop}:∀ {xs:List α} {ys:List β} {us:List α} {ws:List β},Paired R xs ys->Paired R us ws->Paired R (xs++us) (ys++ws)
 | [],[],_,_,_,q=>q
 | _::_,_::_,_,_,.cons h t,q=>.cons h (j9 t q)
theorem Aj {i:Nat} (h:i<=8):2 ^ i<=256:=by
 have:2 ^ i<=2 ^ 8:=Nat.pow_le_pow_right (by decide) h;simpa using this
def jl (g:gB) (d:Int) (ds:List Int):List (Int × Int × List Int):=(oZ (if iQ g.closed d then 0 else g.cans) (cpsOf g.pots ds)).map fun q=>(q.1,(d + 1) % g.week,q.2)
noncomputable def Vd (K:Fg) (a:gw):Sp:=fun vs H Q E=>∃ x g v b,vs=[.ref x,v]/\fW a H x g/\0 < g.week/\0<=g.cans/\g.pots.length<=8/\jM K H g.week g.pots v b/\(b=false->∀ H',Same H H'->E (.ref a.c7) none H') /\ (b=true->∀ d ds H' l,j8 H v d ds->gK g.week g.pots d ds->H l=none->Same H H'->iJ o9 H' (.ref l) (jl g d ds)->Q (.ref l) H')
theorem wu:bV ["garden","state","day","parts","bit","since","pot","tomorrow"] ["garden","state"] (aW o8):=eO (by decide +kernel)
theorem Ve {f:aA} {fd:fQ} (F:n6 K "choices" "choices" o8 f fd) (W:BR K mg a dV):cD P w K mg base (fL P w) 4 f fd ["garden","state"] (Vd K a):=by
 refine F.mF wu (fun vs H Q E h=>?_) (fun cdv A outer s H vs Q E hr h=>?_)
 ·obtain ⟨x,g,v,b,rfl,_⟩:=h;rfl
 ·obtain ⟨x,g,v,b,rfl,gx,w0,c0,h8,sa,bad,good⟩:=h;have S:=W.S;have Z:=S.Z;have T:=Z.G.T;obtain ⟨fc,dc,cF,mC⟩:=W.con;obtain ⟨fd',dd,dF,mD⟩:=W.aAi;obtain ⟨fo,do',oF,mO⟩:=W.wow;obtain ⟨fi,di,iF,mI⟩:=W.wiw;have yO:cD P w K mg base (fL P w) 2 fc dc ["garden","day"] (Ih a):=QM cF.F W;have okd:cD P w K mg base (fL P w) 1 fd' dd ["garden","day"] (Vb a):=ZW dF.F W;have oko:cD P w K mg base (fL P w) 1 fo do' ["parts","pot","since"] (abD a):=aiG oF.F W;have ZV:cD P w K mg base (fL P w) 2 fi di ["parts","pot","since","bit"] (abE a):=aiH iF.F W;have Ny:[("choice":Str),"cans","behind","tomorrow"].Nodup:=by decide +kernel
  refine ⟨_,aH (fu (dI (Ag S) hr S.aiB S.ref.F.kp S.ref.b (cV bW) (ao (pv 0) (ao (pv 1) aK)))) (aH (bM (i:=2) wu.nd rfl (Or.inl rfl) (dh dM (pv 1) aV (fun _ _=>rfl))) (aH (bM (i:=3) wu.nd rfl (Or.inl rfl) (fZ (ao (fJ (ao aV (ao (dI yO (hr.mono (by decide)) mC cF.F.kp cF.b bB (ao (pv 0) (ao (pv 2) aK))) (ao (fJ aK) aK)))) aK))) (aH (bM (i:=4) wu.nd rfl (Or.inl rfl) aV) (aH (gR dY rfl (J7 (by rfl) T.B.zip (ao (dh dM (pv 1) aV (fun _ _=>rfl)) (ao (fG (pv 0) rfl) aK))) (lZ rfl (cg (cZ 5 wu.nd) (cg (cZ 6 wu.nd) gM))) (aH (bM (i:=3) wu.nd rfl (Or.inl rfl) (bZ wL (dI oko (hr.mono (by decide)) mO oF.F.kp oF.b bB (ao (pv 3) (ao (pv 6) (ao (pv 5) aK)))) (dI ZV (hr.mono (by decide)) mI iF.F.kp iF.b bB (ao (pv 3) (ao (pv 6) (ao (pv 5) (ao (pv 4) aK))))))) (aU (bM (i:=4) wu.nd rfl (Or.inl rfl) (bZ tD (pv 4) aV))))) (aH (bM (i:=7) wu.nd rfl (Or.inr rfl) (dI okd (hr.mono (by decide)) mD dF.F.kp dF.b bB (ao (pv 0) (ao (pv 2) aK)))) (aU (cj (jg bW rfl ⟨_,_,rfl,rfl,rfl⟩ (iY (N':=["choice","cans","behind","tomorrow"]) (cl:=[("tomorrow",s.heap.objs.size + 1)]) [none,none,none,some 7] ["garden","state","day","parts","bit","since","pot","tomorrow"] (aW o8).names [(".0",.local),("choice",.local),("cans",.local),("behind",.local),("tomorrow",.cell)] ["tomorrow"] rfl (by decide +kernel) (by decide +kernel) rfl (fun p hp=>by rw [aC.mp hp]; rfl) rfl rfl rfl rfl (by decide +kernel) rfl (by decide +kernel)) (fK (pv 3)) (fun _ _ _ _ _=>yE K (n:=3) rfl (cg (cZ 0 Ny) (cg (cZ 1 Ny) (cg (cZ 2 Ny) gM)))) (fun _ _ _ _ _=>jf) (fun _ _ _ _ _ _=>fJ (ao (pv 0) (ao (fJ (ao (pv 3) (ao (pv 2) aK))) aK))))))))))),?_⟩;refine ⟨_,rfl,_,rfl,x,g,v,b,rfl,gx,h8,sa,fun eb H1 s1=>bad eb H1 s1,fun eb H1 s1=>?_⟩;subst eb;obtain ⟨d,ds,sv,ok⟩:=sa.good;have sv1:=sv.same s1;have gx1:=gx.same s1;obtain ⟨t,u,rfl,ht,hu⟩:=sv1;obtain ⟨dx,l,as,hx,hl,pt⟩:=id gx1;have la:as.length=g.pots.length:=Paired.length pt;have ln:=ok.len;have hL:cU K H1 l (as.map V.ref):=cU.of hl;refine ⟨_,rfl,t,_,0,.int d,rfl,rfl,fj.of ht,rfl,_,rfl,_,rfl,x,g,d,rfl,gx1,ok.d0,by show 0<=sizeLine; decide,fun t1 h1=>⟨by show 3<=sizeLine; decide,fun t2 h2=>⟨by show 1<=sizeLine; decide,fun l0 h0=>?_⟩⟩⟩;generalize ec:(if iQ g.closed d then (0:Int) else g.cans)=cans at *;have cn:0<=cans:=by rw [<- ec]; split <;> omega
  have v1:=aY (o:=.tup []) h1;have v2:=aY (o:=.tup [V.int 0,.int cans,.ref t1]) h2;have v3:=aY (o:=.lst [V.ref t2]) h0;have sH:=(v1.trans v2).trans v3;have r0:iJ Ai (L2.upd (L2.upd (L2.upd H1 t1 (.tup [])) t2 (.tup [V.int 0,.int cans,.ref t1])) l0 (.lst [V.ref t2])) (.ref l0) (jd cans (cpsOf g.pots ds) 0):=by
   rw [Kh cn];exact ⟨l0,_,rfl,aD,.cons ⟨t2,_,_,_,rfl,v3 _ _ aD,rfl,rfl,t1,[],rfl,v3 _ _ (v2 _ _ aD),.nil⟩ .nil⟩
  refine ⟨_,rfl,t,_,1,.ref u,rfl,rfl,fj.of (sH _ _ ht),rfl,_,rfl,x,a.garden,dx,_,_,rfl,sH _ _ hx,Z.tG.cl,Z.nG _ (by simp),ou ..,u,l,_,_,rfl,fj.of (sH _ _ hu),cU.of (sH _ _ hl),?_⟩;refine MJ (K:=K) (l:=u) (m:=l) (xs:=ds.map V.int) (ys:=as.map V.ref) (fun i σ H'=>∃ y z q,σ=[some (.ref x),some (.ref t),some (.int d),some (.ref q),some (.int (2 ^ i)),y,z,none]/\Same H1 H'/\iJ Ai H' (.ref q) (jd cans (cpsOf g.pots ds) i)) (by rw [ak,ak]; omega) ⟨none,none,l0,rfl,sH,r0⟩ (fun i σ H' _ ⟨_,_,_,_,s',_⟩=>⟨fj.of (s' _ _ hu),s'.seq hL⟩) ?_ ?_
  ·rintro i y b' T2 σ H2 hy hb0 ⟨z1,z2,q,rfl,s2,rq⟩ hT2;rw [aJ] at hy hb0;obtain ⟨n,hn,rfl⟩:=bh.mp hy;obtain ⟨b,hb,rfl⟩:=bh.mp hb0;obtain ⟨p,hp,pb⟩:=dB pt hb;have i8:i < 8:=by have:=(aF.mp hp).1; omega
   have s3:=aY (o:=.tup [V.int n,.ref b]) hT2;have n0:=(ok.at_ i n p hn hp).1;have hc:=FJ hp hn;have l1:(jd cans (cpsOf g.pots ds) i).length<=1000:=by
    have:=rY cans (cpsOf g.pots ds) i;have:=Aj (i:=i) (by omega);omega
   have l2:∀ c ∈ jd cans (cpsOf g.pots ds) i,c.2.2.length<=100:=fun c hc=>by have:=QV hc; omega
   refine ⟨T2,_,rfl,fj.of aD,rfl,_,_,rfl,_,_,rfl,rfl,?_⟩;refine ⟨_,rfl,_,rfl,_,rfl,q,_,b,p,n,rfl,rq.same jD s3,l1,l2,pb.same (s2.trans s3),fun H3 q1 s4 r1=>?_⟩;refine ⟨_,rfl,_,rfl,_,rfl,_,rfl,q,_,b,p,n,_,rfl,rq.same jD (s3.trans s4),l1,l2,pb.same ((s2.trans s3).trans s4),n0,fun H4 q2 s5 r2=>?_⟩;have r1':=r1.same jD s5;obtain ⟨_,w1,e1,hw1,p1⟩:=r1';cases e1;obtain ⟨_,w2,e2,hw2,p2⟩:=r2;cases e2;have st:=Kg (cans:=cans) hc;have l3:=rY cans (cpsOf g.pots ds) (i + 1);have l4:=Aj (i:=i + 1) (by omega);have big:1000<=sizeLine:=by decide
   have ln2:w1.length + w2.length=(jd cans (cpsOf g.pots ds) (i + 1)).length:=by rw [<- st,aQ,Paired.length p1,Paired.length p2]
   refine ⟨q1,q2,w1,w2,rfl,rfl,hw1,hw2,by omega,fun q3 h3=>?_⟩;have s6:=aY (o:=.lst (w1++w2)) h3;refine ⟨_,rfl,_,_,rfl,rfl,.inr ⟨by decide,by decide⟩,?_⟩;refine ⟨some (.int n),some (.ref b),q3,?_,(((s2.trans s3).trans s4).trans s5).trans s6,q3,w1++w2,rfl,aD,?_⟩
   ·rw [Int.pow_succ]; rfl
   ·rw [<- st];exact j9 (Paired.gG p1 fun _ _ z=>jD.same z s6) (Paired.gG p2 fun _ _ z=>jD.same z s6)
  ·rintro σ H2 ⟨y,z,q,rfl,s2,rq⟩;rw [ak,ln] at rq;refine ⟨_,rfl,_,rfl,x,g,d,rfl,gx1.same s2,w0,?_⟩;obtain ⟨_,ws,eq',hq,pq⟩:=id rq;cases eq';refine ⟨_,rfl,q,rfl,⟨_,cU.of hq⟩,fun D hD=>vH jD iC (fun c=>(c.1,(d + 1) % g.week,c.2.2)) rq ?_ hD ?_ (fun H' s' r=>good rfl d ds H' D sv ok ((s1.trans s2).free hD) ((s1.trans s2).trans s') ?_)⟩
   ·have:=rY cans (cpsOf g.pots ds) g.pots.length;have:=Aj h8;have big:1000<=sizeLine:=by decide
    omega
   ·rintro i c v H3 hc ⟨t',u1,u2,u3,rfl,ht',r1,r2,tb,bs,r3,hb,pb⟩ s3 Qc k;cases r1;cases r2;subst r3;refine ⟨t',_,rfl,fj.of ht',rfl,_,_,rfl,_,_,rfl,_,_,rfl,rfl,ud,_,rfl,_,rfl,_,rfl,by show 2<=sizeLine; decide,fun t3 h3=>⟨by show 2<=sizeLine; decide,fun t4 h4=>?_⟩⟩;have v4:=aY (o:=.tup [V.int ((d + 1) % g.week),.ref tb]) h3;have v5:=aY (o:=.tup [V.int c.1,.ref t3]) h4;exact k _ _ (v4.trans v5) ⟨t4,_,_,rfl,aD,rfl,t3,_,_,rfl,v5 _ _ aD,rfl,tb,bs,rfl,v5 _ _ (v4 _ _ hb),Paired.gG pb fun _ _ z=>z⟩
   ·have e:jl g d ds=(jd cans (cpsOf g.pots ds) g.pots.length).map fun c=>(c.1,(d + 1) % g.week,c.2.2):=by
     unfold jl oZ;rw [ec,wj ln,eY];rfl
    rw [e];exact r
end
structure uf (g:gB):Prop where
 w0:0 < g.week
 c0:0<=g.cans
 n8:g.pots.length<=8
 pQ:∀ p ∈ g.pots,p.Ok
 sz:sizeOf g.week g.pots<=20000
def fH (g:gB):Nat:=(sizeOf g.week g.pots).toNat
def stN (g:gB) (n:Nat):Int × List Int:=stOf (dX g.pots) (n:Int)
def Ii (g:gB) (n:Nat):List Nat:=(jl g (stN g n).1 (stN g n).2).map fun c=>(numOf c.2.1 g.pots c.2.2).toNat
def j4 (g:gB):List (List Nat):=(List.range (fH g)).map (Ii g)
theorem Ak:∀ (ps:List cL) (ds:List Int) (d:Int),numOf d ps ds=pL d (dX ps) ds
 | [],_,_=>rfl
 | _::_,[],_=>rfl
 | p::ps,y::ds,d=>Ak ps ds (d * p.gap + y)
theorem QW {wk d:Int} {ps:List cL} {ds:List Int} (h:gK wk ps d ds):stOf (dX ps) (numOf d ps ds)=(d,ds):=by
 rw [Ak];exact T3 d (InB.of (by rw [dX,ak]; exact h.len) fun i y g hy hg=>by
  rw [dX,aJ] at hg;obtain ⟨p,hp,rfl⟩:=bh.mp hg;exact h.at_ i y p hy hp)
theorem Vf:∀ {ps:List cL} {ds:List Int} {wk d:Int},0<=d->d < wk->ds.length=ps.length->(∀ (i:Nat) (y:Int) (p:cL),ds[i]?=some y->ps[i]?=some p->0<=y/\y < p.gap)->0<=numOf d ps ds/\numOf d ps ds < sizeOf wk ps
 | [],[],_,_,h0,h1,_,_=>⟨h0,h1⟩
 | [],_::_,_,_,_,_,h,_=>by simp at h
 | _::_,[],_,_,_,_,h,_=>by simp at h
 | p::ps,y::ds,wk,d,h0,h1,h,f=>by
  obtain ⟨y0,y1⟩:=f 0 y p rfl rfl;have g0:0<=p.gap:=by omega
  have m0:0<=d * p.gap:=Int.mul_nonneg h0 g0;have m1:(d + 1) * p.gap<=wk * p.gap:=Int.mul_le_mul_of_nonneg_right (by omega) g0;rw [Int.add_mul,Int.one_mul] at m1;exact Vf (ps:=ps) (ds:=ds) (wk:=wk * p.gap) (d:=d * p.gap + y) (by omega) (by omega) (by simpa using h) fun i y' p' e1 e2=>f (i + 1) y' p' (by simpa using e1) (by simpa using e2)
theorem gK.lt {wk d:Int} {ps:List cL} {ds:List Int} (h:gK wk ps d ds):0<=numOf d ps ds/\numOf d ps ds < sizeOf wk ps:=Vf h.d0 h.d1 h.len h.at_
theorem ug {g:gB} (ok:uf g) {d:Int} {ds:List Int} (st:gK g.week g.pots d ds) {c:Int × Int × List Int} (h:c ∈ jl g d ds):gK g.week g.pots c.2.1 c.2.2:=by
 unfold jl at h;obtain ⟨q,hq,rfl⟩:=bx.mp h;have w0:=ok.w0;have lc:(cpsOf g.pots ds).length=g.pots.length:=wj st.len;rw [sV (nms:=g.pots) lc.symm ok.c0 (fun c hc=>by
  obtain ⟨z,hz,rfl⟩:=bx.mp hc;exact (ok.pQ _ (of_mem_zip hz).1).gap.1)] at hq
 obtain ⟨h1,h2⟩:=T4 lc.symm (fun i c hc=>by
  have lt:=(aF.mp hc).1;have l1:i < g.pots.length:=by omega
  have l2:i < ds.length:=by rw [st.len]; exact l1
  have e:=FJ (aG l1) (aG l2);rw [hc] at e;cases e;exact st.at_ i _ _ (aG l2) (aG l1)) hq
 refine ⟨Int.emod_nonneg _ (by omega),Int.emod_lt_of_pos _ w0,by show q.2.length=_; rw [h1,lc],fun i y p hy hp=>?_⟩;have l1:i < g.pots.length:=(aF.mp hp).1;have l2:i < ds.length:=by rw [st.len]; exact l1
 exact h2 i y _ hy (FJ hp (aG l2))
theorem Nz (g:gB) (d:Int) (ds:List Int) (h8:g.pots.length<=8):(jl g d ds).length<=256:=by
 unfold jl oZ;rw [ak,ak];have h1:=rY (if iQ g.closed d then 0 else g.cans) (cpsOf g.pots ds) (cpsOf g.pots ds).length;have h2:(cpsOf g.pots ds).length<=8:=by
  unfold cpsOf;rw [ak,length_zip];omega
 exact bJ h1 (Aj h2)
theorem pR {g:gB} (ok:uf g):((fH g:Nat):Int)=sizeOf g.week g.pots:=by
 have h:0<=sizeOf g.week g.pots:=by
  have:∀ (ps:List cL) (wk:Int),(∀ p ∈ ps,p.Ok)->0<=wk->0<=sizeOf wk ps:=by
   intro ps
   induction ps with
   | nil=>exact fun wk _ h=>h
   | cons p ps ih =>
    intro wk hk h0;exact ih (wk * p.gap) (fun q hq=>hk q (by simp [hq])) (Int.mul_nonneg h0 (by have:=(hk p (by simp)).gap; omega))
  exact this _ _ ok.pQ (by have:=ok.w0; omega)
 unfold fH;omega
theorem uf.small {g:gB} (ok:uf g):fH g<=20000:=by
 have h1:=pR ok;have h2:=ok.sz;omega
theorem Vg {g:gB} (ok:uf g) {n:Nat} (h:n < fH g):gK g.week g.pots (stN g n).1 (stN g n).2:=ZQ ok.pQ (Int.natCast_nonneg n) (by rw [<- pR ok]; omega)
theorem NP {g:gB} {n:Nat}:numOf (stN g n).1 g.pots (stN g n).2=(n:Int):=HY g.pots
theorem ZX {g:gB} {n m:Nat} (h:stN g n=stN g m):n=m:=by
 have h1:numOf (stN g n).1 g.pots (stN g n).2=numOf (stN g m).1 g.pots (stN g m).2:=by rw [h]
 rw [NP,NP] at h1;omega
theorem mV {g:gB} (ok:uf g) {d:Int} {ds:List Int} (st:gK g.week g.pots d ds):∃ t:Nat,numOf d g.pots ds=(t:Int)/\t < fH g/\stN g t=(d,ds):=by
 obtain ⟨h0,h1⟩:=st.lt;have h2:=pR ok;obtain ⟨t,et⟩:∃ t:Nat,numOf d g.pots ds=(t:Int):=⟨(numOf d g.pots ds).toNat,by omega⟩;refine ⟨t,et,by omega,?_⟩;unfold stN;rw [<- et];exact QW st
theorem wz (g:gB):(j4 g).length=fH g:=by
 unfold j4;rw [ak,bw]
theorem K4 {g:gB} {n:Nat} (h:n < fH g):(j4 g)[n]?=some (Ii g n):=by
 unfold j4;rw [aJ,List.getElem?_range h];rfl
theorem wA {g:gB} {n:Nat} (h:n < fH g):(j4 g).getD n []=Ii g n:=by
 unfold getD;rw [K4 h];rfl
theorem NQ {g:gB} {n:Nat} (h:¬ n < fH g):(j4 g).getD n []=[]:=by
 unfold getD;rw [List.getElem?_eq_none (by rw [wz]; omega)];rfl
theorem Vh {g:gB} (ok:uf g) {n:Nat} (h:n < fH g) {t:Nat} (ht:t ∈ Ii g n):t < fH g:=by
 obtain ⟨c,hc,rfl⟩:=bx.mp ht;obtain ⟨t,e,lt,_⟩:=mV ok (ug ok (Vg ok h) hc);rw [e];exact lt
theorem wW {g:gB} (ok:uf g):∀ n t,t ∈ (j4 g).getD n []->t < fH g:=by
 intro n t ht
 by_cases h:n < fH g
 ·rw [wA h] at ht;exact Vh ok h ht
 ·rw [NQ h] at ht;cases ht
theorem Dj {g:gB} (ok:uf g):∀ n,((j4 g).getD n []).length<=256:=by
 intro n
 by_cases h:n < fH g
 ·rw [wA h];unfold Ii;rw [ak];exact Nz g _ _ ok.n8
 ·rw [NQ h];exact dG _
theorem yG {N m:Nat} {su:List (List Nat)} (CQ:∀ n t,t ∈ su.getD n []->t < N) (hs:∀ n,(su.getD n []).length<=m):∀ i t,((gW su N i).getD t []).length<=i * m
 | 0,t=>by
  have:(gW su N 0).getD t []=[]:=by
   show (List.replicate N ([]:List Nat)).getD t []=[]
   by_cases lt:t < N <;> simp [getD,lt]
  rw [this];exact dG _
 | i + 1,t=>by
  have ih:=yG CQ hs i t;obtain ⟨_,r2⟩:=vO i (su.getD i []) (gW su N i) fun t ht=>by rw [(vP CQ i).1]; exact CQ i t ht
  rw [qJ,r2 t,aQ,length_replicate,Nat.succ_mul];have h1:(su.getD i []).count t<=(su.getD i []).length:=List.count_le_length;have h2:=hs i;omega
def Vi (g:gB):List (List Nat):=gW (j4 g) (fH g) (fH g)
theorem aiJ {g:gB} (ok:uf g):Gr (fH g) (j4 g) (Vi g):=apK (wz g) (wW ok)
def kh (ns:List Nat):List V:=ns.map fun n:Nat=>V.int (n:Int)
theorem wX (ns:List Nat) (n:Nat):kh (ns++[n])=kh ns++[V.int (n:Int)]:=by
 unfold kh;rw [aZ];rfl
theorem qO (ns:List Nat):(kh ns).length=ns.length:=ak _
def jx (H:Hp) (ls:List aA) (ah:List (List Nat)):Prop:=∀ (j:Nat) b,ls[j]?=some b->H b=some (.lst (kh (ah.getD j [])))
theorem Vj {ls:List aA} (nd:ls.Nodup) {i j:Nat} {b:aA} (h1:ls[i]?=some b) (h2:ls[j]?=some b):i=j:=by
 obtain ⟨l1,e1⟩:=aF.mp h1;obtain ⟨l2,e2⟩:=aF.mp h2;exact (List.getElem_inj nd).mp (e1.trans e2.symm)
theorem jx.road {H:Hp} {ls:List aA} {ah:List (List Nat)} {t n:Nat} {b:aA} (h:jx H ls ah) (nd:ls.Nodup) (hl:ls.length=ah.length) (hb:ls[t]?=some b):jx (L2.upd H b (.lst (kh (ah.getD t [])++[V.int (n:Int)]))) ls (jK n ah t):=by
 intro j c hc;have lt:t < ah.length:=by rw [<- hl]; exact (aF.mp hb).1
 by_cases e:j=t
 ·subst e;rw [hb] at hc;cases hc;have:(jK n ah j).getD j []=ah.getD j []++[n]:=by unfold jK; simp [lt]
  rw [aD,this,wX]
 ·have ne:c≠b:=fun z=>e (Vj nd hc (by rw [z]; exact hb))
  have e':¬ t=j:=fun z=>e z.symm
  have:(jK n ah t).getD j []=ah.getD j []:=by unfold jK; simp [getD,e']
  rw [bf ne,this];exact h j c hc
theorem jx.same {H H':Hp} {ls:List aA} {ah:List (List Nat)} (h:jx H ls ah) (s:Same H H'):jx H' ls ah:=fun j b hb=>s _ _ (h j b hb)
theorem jx.upd {H:Hp} {ls:List aA} {ah:List (List Nat)} {c:aA} {o:HO} (h:jx H ls ah) (nc:c ∉ ls):jx (L2.upd H c o) ls ah:=fun j b hb=>by
 rw [bf (fun z=>nc (by rw [<- z]; exact aP hb))];exact h j b hb
abbrev wY:dW:=top 37
section
variable {P:cC} {w:World} {K:Fg} {mg:Str->Option aB} {base:Heap} {a:gw} {dV:aB}
theorem Al {r:St} {x y:Option V}:qd (none::none::r) (((none::none::r).set 0 x).set 1 y):=by
 intro j v h
 match j,h with
 | 0,h=>simp at h
 | 1,h=>simp at h
 | j + 2,h=>exact h
theorem K5 {X:Cx} (P:cC) (w:World) (hc:X.calm=true) (hu:X.A.units + 64 < cLine) (hP:autoParam (X.prog=P) zau0) (hw:autoParam (X.w=w) zau0):jH X (.type "dict") (fun xs H Q=>∃ (p:aA) (ps:List aA) (ks:List nH),xs=[.ref p]/\H p=some (.lst (ps.map V.ref))/\ks.length=ps.length /\ (∀ (j:Nat) r q,ks[j]?=some r->ps[j]?=some q->H q=some (.tup [.ref r.2.1,r.2.2]))/\(∀ r ∈ ks,dN H r.1 r.2.1)/\(ks.map (·.1)).Nodup/\∀ l,H l=none->Q (.ref l) (L2.upd H l (sW P w l ks))):=by
 subst hP hw;exact Kp hc hu
theorem Vk {X:Cx} (P:cC) (w:World) (hu:X.A.units + 64 < cLine) (hP:autoParam (X.prog=P) zau0) (hw:autoParam (X.w=w) zau0):IxR X (apF P w):=by
 subst hP hw;exact Tj hu
theorem zq {H:Hp}:∀ {vs:List V} {ds:List Int},Paired (oh H) vs ds->vs=ds.map V.int
 | _,_,.nil=>rfl
 | _,_,.cons h r=>by rw [cY,<- zq r]; cases h; rfl
theorem qP {H:Hp}:∀ {vs:List V} {xs:List (Int × List Int)},Paired (je H) vs xs->∃ ts:List aA,vs=ts.map V.ref/\ts.length=xs.length/\∀ (i:Nat) t x,ts[i]?=some t->xs[i]?=some x->dN H x t
 | _,_,.nil=>⟨[],rfl,rfl,fun i t x h=>by simp at h⟩
 | _,_,.cons (a:=v) (b:=x) h r=>by
  obtain ⟨ts,rfl,l,f⟩:=qP r;obtain ⟨t,u,z,rfl,ht,r1,tb,bs,rfl,hb,pb⟩:=h;cases r1;have eb:=zq pb;refine ⟨t::ts,rfl,by rw [length_cons,length_cons,l],fun i t' x' h1 h2=>?_⟩;cases i with
  | zero =>
   cases h1; cases h2;exact ⟨tb,ht,by rw [hb,eb]⟩
  | succ i=>exact f i t' x' (by simpa using h1) (by simpa using h2)
theorem qQ (H:Hp):∀ gs:List Int,Paired (oh H) (gs.map V.int) gs
 | []=>.nil
 | _::gs=>.cons rfl (qQ H gs)
theorem zu {H:Hp} {v:V} {x:Int × List Int} (h:je H v x):∃ t,v=.ref t/\dN H x t:=by
 obtain ⟨ts,e,l,f⟩:=qP (.cons h .nil)
 match ts,e,l with
 | [t],e,_ =>
  cases e;exact ⟨t,rfl,f 0 t x rfl rfl⟩
theorem QX {g:gB} (ok:uf g) {i:Nat} (lt:i < fH g) (j:Nat):(((Ii g i).take j).foldl (jK i) (gW (j4 g) (fH g) i)).length=fH g/\∀ t,((((Ii g i).take j).foldl (jK i) (gW (j4 g) (fH g) i)).getD t []).length<=(i + 1) * 256:=by
 have h0:=(vP (wW ok) i).1;obtain ⟨r1,r2⟩:=vO i ((Ii g i).take j) (gW (j4 g) (fH g) i) fun t ht=>by rw [h0]; exact Vh ok lt (List.mem_of_mem_take ht)
 refine ⟨by rw [r1,h0],fun t=>?_⟩;have h1:=yG (wW ok) (Dj ok) i t;have h2:((Ii g i).take j).count t<=((Ii g i).take j).length:=List.count_le_length;have h3:=Dj ok i;rw [wA lt] at h3;rw [length_take] at h2;rw [r2 t,aQ,length_replicate,Nat.succ_mul];omega
theorem iD {H:Hp} {x:Int × List Int} {t:aA} (h:dN H x t):j8 H (.ref t) x.1 x.2:=by
 obtain ⟨s,h1,h2⟩:=h;exact ⟨t,s,rfl,h1,h2⟩
abbrev Vl:List Str:=["garden","states","numbers","ahead","counts","number","state","found","choice","behind"]
def NT (a:gw):Sp:=fun vs H Q _=>∃ x g,vs=[.ref x]/\fW a H x g/\uf g/\∀ H' t A C ls,Same H H'->H' t=some (.tup [.ref A,.ref C])->H C=none->H' C=some (.lst ((j4 g).map fun ts=>V.int (ts.length:Int))) -> H' A=some (.lst (ls.map V.ref))->ls.length=fH g->jx H' ls (Vi g)->C≠A->C ∉ ls->Q (.ref t) H'
theorem kW:bV Vl ["garden"] (aW wY):=eO (by decide +kernel)
theorem Vm {f:aA} {fd:fQ} (F:n6 K "roads" "roads" wY f fd) (W:BR K mg a dV) (en:mg "enumerate"=none) (di:mg "dict"=none):cD P w K mg base (fL P w) 5 f fd ["garden"] (NT a):=by
 refine F.mF kW (fun vs H Q E h=>?_) (fun cdv A outer s H vs Q E hr h=>?_)
 ·obtain ⟨x,g,rfl,_⟩:=h;rfl
 ·obtain ⟨x,g,rfl,gx,ok,q⟩:=h;have S:=W.S;have Z:=S.Z;have T:=Z.G.T;have B:=T.B;obtain ⟨fc,dc,cF,mC⟩:=W.cho;have yO:cD P w K mg base (fL P w) 4 fc dc ["garden","state"] (Vd K a):=Ve cF.F W;have kC:=cF.F.kp;have bC:=cF.b;have hr1:d8 1 _:=hr.mono (by decide);have hr2:d8 2 _:=hr.mono (by decide);have ndA:[("number":Str),"garden"].Nodup:=by decide +kernel
  have ndB:[("number":Str),"state"].Nodup:=by decide +kernel
  refine ⟨_,aH (vq (i:=1) kW.nd rfl (Or.inl rfl) bW rfl ⟨_,_,rfl,rfl,rfl⟩ (iY (N':=["number","garden"]) (cl:=[("garden",s.heap.objs.size + 1)]) [none,some 0] Vl (aW wY).names [(".0",.local),("number",.local),("garden",.cell)] ["garden"] rfl (by decide +kernel) (by decide +kernel) rfl (fun p hp=>by rw [aC.mp hp]; rfl) rfl rfl rfl rfl (by decide +kernel) rfl (by decide +kernel)) (jq rfl B.range (ao (oN (pv 0) Z.tG.cl Z.Np (zj Z) hr1 Z.size.b .nil bB) aK)) (fun _ _ _ _ _=>cZ 0 ndA) (fun _ _ _ _ _=>jf) (fun _ _ _ _ _ acc=>kJ (pv 1) Z.tG.cl S.aAf (aiE S) hr2 S.sta.b .nil (cV acc) (ao (pv 0) aK))) (aH (bM (i:=2) kW.nd rfl (Or.inl rfl) (Hy (K5 P w rfl hr.units) di boot_dict (ao (jg bW rfl ⟨_,_,rfl,rfl,rfl⟩ (jk.plain (N':=["number","state"]) rfl (by decide +kernel) (by decide +kernel)) (yZ (by rfl) en (ao (pv 1) aK)) (fun _ _ _ _ _=>yE K (n:=2) rfl (cg (cZ 0 ndB) (cg (cZ 1 ndB) gM))) (fun _ _ _ _ _=>jf) (fun _ _ _ _ _ _=>fJ (ao (pv 1) (ao (pv 0) aK)))) aK))) (aH (vq (i:=3) kW.nd rfl (Or.inl rfl) bW rfl ⟨_,_,rfl,rfl,rfl⟩ (jk.plain (N':=["state"]) rfl (by decide +kernel) (by decide +kernel)) (fK (pv 1)) (fun _ _ _ _ _=>cZ 0 (show [("state":Str)].Nodup by decide +kernel)) (fun _ _ _ _ _=>jf) (fun _ _ _ _ _ _=>fZ aK)) (aH (bM (i:=4) kW.nd rfl (Or.inl rfl) (fZ aK)) (aH (gR dY rfl (yZ (by rfl) en (ao (pv 1) aK)) (lZ rfl (cg (cZ 5 kW.nd) (cg (cZ 6 kW.nd) gM))) (aH (bM (i:=7) kW.nd rfl (Or.inl rfl) (dI yO hr mC kC bC (cV bW) (ao (pv 0) (ao (pv 6) aK)))) (aH (fu (lH PySem.F.plainAttrs_list PySem.F.slot_list_append PySem.F.type_list_append fX (pv 4) (ao (ig dJ B.len PySem.boot_len (ao (pv 7) aK)) aK))) (aU (gR dY rfl (fK (pv 7)) (lZ rfl (cg (cZ 8 kW.nd) (cg (cZ 9 kW.nd) gM))) (aU (fu (lH PySem.F.plainAttrs_list PySem.F.slot_list_append PySem.F.type_list_append fX (dh gO (pv 3) (dh (Vk P w hr.units) (pv 2) (pv 9) (fun _ _=>rfl)) (fun _ _=>rfl)) (ao (pv 5) aK))))))))) (aU (cj (fJ (ao (pv 3) (ao (pv 4) aK))))))))),?_⟩;obtain ⟨dx,l,as,hx,hl,pt⟩:=id gx;have small:=ok.small;have szi:=pR ok;have big:20000 * 257<=sizeLine:=by decide
  refine ⟨_,rfl,x,dx,_,rfl,hx,BP _ _ _ _ (by decide +kernel) (by decide +kernel) (by decide +kernel) (by decide +kernel),x,dx,l,as,g.pots,_,g.week,_,rfl,hx,cU.of hl,pt,ok.pQ,_,rfl,by omega,by omega,fun lS hlS=>?_⟩;refine G7 fP (fun n=>stN g n) (n:=fH g) rfl (by omega) hlS ?_ ?_
  ·intro i H2 lt s2 Qc k;obtain ⟨dx2,l2,as2,hx2,_,_⟩:=gx.same s2;have ew:dD (.int ((i:Nat):Int)) 0 (sizeOf g.week g.pots - 1)=true:=by
    have h1:(0:Int)<=(i:Int):=Int.natCast_nonneg i;have h2:(i:Int)<=sizeOf g.week g.pots - 1:=by omega
    simp [dD,h1,h2]
   refine ⟨Kc,_,rfl,x,dx2,_,rfl,hx2,BP _ _ _ _ (by decide +kernel) (by decide +kernel) (by decide +kernel) (by decide +kernel),_,rfl,x,g,_,.int,rfl,gx.same s2,ok.pQ,ok.n8,⟨_,rfl⟩,fun z=>(by rw [ew] at z; cases z),fun _ n H3 t ev s3 st=>?_⟩;cases ev;obtain ⟨t',u,e,h1,h2⟩:=st;cases e;exact k _ H3 s3 ⟨t,_,_,rfl,h1,rfl,u,_,rfl,h2,qQ _ _⟩
  intro H1 s1 r1;obtain ⟨_,vs,el,hv,Am⟩:=id r1;cases el;obtain ⟨ts,rfl,lts,nest⟩:=qP Am;rw [ak,bw] at lts;have abF:∀ (i:Nat) t,ts[i]?=some t->dN H1 (stN g i) t:=fun i t h=>by
   have lt:i < fH g:=by rw [<- lts]; exact (aF.mp h).1
   exact nest i t _ h (by rw [aJ,List.getElem?_range lt]; rfl)
  have kts:∀ i,i < fH g->ts[i]?=some (ts.getD i 0):=fun i lt=>by
   have:i < ts.length:=by omega
   simp [getD,this]
  have kvs:∀ i,i < fH g->(ts.map V.ref)[i]?=some (.ref (ts.getD i 0)):=fun i lt=>by rw [aJ,kts i lt]; rfl
  obtain ⟨ks,eks⟩:∃ ks:List nH,ks=(List.range (fH g)).map fun j:Nat=>(stN g j,ts.getD j 0,V.int (j:Int)):=⟨_,rfl⟩
  have hks:∀ j,j < fH g->ks[j]?=some (stN g j,ts.getD j 0,V.int (j:Int)):=fun j lt=>by rw [eks,aJ,List.getElem?_range lt]; rfl
  have kl:ks.length=fH g:=by rw [eks,ak,bw]
  have km:∀ r ∈ ks,dN H1 r.1 r.2.1:=fun r hr=>by
   rw [eks] at hr;obtain ⟨j,hj,rfl⟩:=bx.mp hr;exact abF j _ (kts j (mem_range.mp hj))
  have knd:(ks.map (·.1)).Nodup:=by
   rw [eks,eY];exact Pairwise.map _ (fun a b hab h=>hab (ZX h)) List.nodup_range
  refine ⟨_,rfl,lS,_,rfl,cU.of hv,fun lP hlP=>?_⟩;refine oW (fH g) (by omega) (fun i acc H'=>Same H1 H'/\H' lP=some (.lst acc)/\∃ ps:List aA,acc=ps.map V.ref/\ps.length=i/\∀ (j:Nat) p,ps[j]?=some p->H' p=some (.tup [.ref (ts.getD j 0),.int (j:Int)])) ⟨aY hlP,aD,[],rfl,rfl,fun j p h=>by simp at h⟩ (fun i acc H' le ⟨_,e,ps,ea,lp,_⟩=>⟨by rw [ea,ak,lp],e⟩) ?_ ?_
  rotate_left
  ·rintro i acc H' lt ⟨s',e,ps,rfl,lp,at_⟩;refine ⟨⟨_,_,cU.of (s' _ _ hv),kvs i lt⟩,?_⟩;rintro y yp ⟨t2,Nu,rfl,hu⟩ Qc k;have e2:=hu _ _ (cU.of (s' _ _ hv)) (kvs i lt);subst e2;have s2:=aY (o:=.tup [V.int ((i:Nat):Int),.ref (ts.getD i 0)]) Nu;refine ⟨t2,_,rfl,fj.of aD,rfl,_,_,rfl,_,_,rfl,rfl,g8,_,rfl,_,rfl,by show 2<=sizeLine; decide,fun p hp=>?_⟩;have s3:=aY (o:=.tup [V.ref (ts.getD i 0),.int ((i:Nat):Int)]) hp;have e3:=s3 _ _ (s2 _ _ e);refine k _ _ e3 ⟨fY ((s'.trans s2).trans s3) hlP,aD,ps++[p],by rw [aZ]; rfl,by rw [aQ,lp]; rfl,fun j p' h'=>?_⟩
   by_cases lj:j < ps.length
   ·rw [List.getElem?_append_left lj] at h';have f:=s3 _ _ (s2 _ _ (at_ j p' h'));rw [bf (jX f e3 (by intro z; cases z))];exact f
   ·rw [List.getElem?_append_right (by omega)] at h';have e1:j - ps.length=0:=by
     have:=(aF.mp h').1;simp at this;omega
    rw [e1] at h';cases h';have ej:j=i:=by omega
    subst ej;have f:=aD (H:=upd H' t2 (.tup [V.int ((j:Nat):Int),.ref (ts.getD j 0)])) (a:=p) (o:=.tup [V.ref (ts.getD j 0),.int ((j:Nat):Int)]);rw [bf (jX f e3 (by intro z; cases z))];exact f
  rintro acc H2' ⟨s2',e2',ps,rfl,lp,at_⟩;refine ⟨⟨_,cU.of (s2' _ _ hv),by rw [ak]; omega⟩,?_⟩;refine ⟨lP,ps,ks,rfl,e2',by rw [kl,lp],fun j r p h1 h2=>?_,fun r hr=>(km r hr).same s2',knd,fun d hd=>?_⟩
  ·have lt:j < fH g:=by rw [<- kl]; exact (aF.mp h1).1
   rw [hks j lt] at h1;cases h1;exact at_ j p h2
  have vd:=aY (o:=sW P w d ks) hd;have s12:=s2'.trans vd;have hd2:upd H2' d (sW P w d ks) d=some (sW P w d ks):=aD;have hS2:=s12 _ _ hv;have km2:∀ r ∈ ks,dN (upd H2' d (sW P w d ks)) r.1 r.2.1:=fun r hr=>(km r hr).same s12
  generalize upd H2' d (sW P w d ks)=H2 at s12 hd2 hS2 km2 ⊢;have gx2:=gx.same (s1.trans s12);refine ⟨_,rfl,lS,rfl,⟨_,cU.of hS2⟩,fun lA hlA=>?_⟩;refine oW (fH g) (by omega) (fun i acc H'=>Same H2 H'/\H' lA=some (.lst acc)/\∃ ls:List aA,acc=ls.map V.ref/\ls.length=i/\ls.Nodup/\lA ∉ ls/\∀ b ∈ ls,H2 b=none/\H' b=some (.lst [])) ⟨aY hlA,aD,[],rfl,rfl,nodup_nil,by simp,fun b h=>by simp at h⟩ (fun i acc H' le ⟨_,e,ls,ea,ll,_⟩=>⟨by rw [ea,ak,ll],e⟩) ?_ ?_
  rotate_left
  ·rintro i acc H' lt ⟨s',e,ls,rfl,ll,nd,na,mem⟩;refine ⟨⟨_,_,cU.of (s' _ _ hS2),kvs i lt⟩,?_⟩;rintro y yp ⟨rfl,hy⟩ Qc k;refine ⟨g8,by show 0<=sizeLine; decide,fun b hb=>?_⟩;have s3:=aY (o:=.lst []) hb;have e3:=s3 _ _ e;have nb:b ∉ ls:=fun hm=>by
    have:=(mem b hm).2;rw [hb] at this;cases this
   have nA:b≠lA:=fun z=>by rw [z,e] at hb; cases hb
   refine k _ _ e3 ⟨fY (s'.trans s3) hlA,aD,ls++[b],by rw [aZ]; rfl,by rw [aQ,ll]; rfl,?_,?_,fun c hc=>?_⟩
   ·rw [nodup_append];exact ⟨nd,by simp,fun x hx y hy z=>nb (by rw [<- aC.mp hy,<- z]; exact hx)⟩
   ·intro hm;rcases cM.mp hm with hm' | hm
    ·exact na hm'
    ·exact nA (aC.mp hm).symm
   ·rcases cM.mp hc with hm | hm
    ·obtain ⟨m1,m2⟩:=mem c hm;exact ⟨m1,by rw [bf (fun z=>na (by rw [<- z]; exact hm)),bf (fun z=>nb (by rw [<- z]; exact hm))]; exact m2⟩
    ·rw [aC.mp hm]; exact ⟨s'.free hb,by rw [bf nA,aD]⟩
  rintro acc H3 ⟨s3,hA3,ls,rfl,ll,nd,nA,mem⟩;refine ⟨⟨_,cU.of (s3 _ _ hS2),by rw [ak]; omega⟩,?_⟩;refine ⟨by show 0<=sizeLine; decide,fun lC hlC=>?_⟩;have vC:=aY (o:=.lst []) hlC;have fC:H2 lC=none:=s3.free hlC;have nCA:lC≠lA:=fun z=>by rw [z,hA3] at hlC; cases hlC
  have nC:lC ∉ ls:=fun hm=>by
   have:=(mem lC hm).2;rw [hlC] at this;cases this
  refine ⟨_,rfl,lS,_,rfl,cU.of (vC _ _ (s3 _ _ hS2)),?_⟩;refine Tz (K:=K) (l:=lS) (xs:=ts.map V.ref) (fun i σ H'=>∃ u5 u6 u7 u8 u9,σ=[some (.ref x),some (.ref lS),some (.ref d),some (.ref lA),some (.ref lC),u5,u6,u7,u8,u9]/\Same H2 H'/\H' lA=some (.lst (ls.map V.ref))/\jx H' ls (gW (j4 g) (fH g) i)/\H' lC=some (.lst (((j4 g).take i).map fun ts=>V.int (ts.length:Int)))) ⟨none,none,none,none,none,rfl,s3.trans vC,vC _ _ hA3,?_,aD⟩ (fun i σ H' _ ⟨_,_,_,_,_,_,s',_⟩=>cU.of (s' _ _ hS2)) ?_ ?_
  ·intro j b hb;have e:(gW (j4 g) (fH g) 0).getD j []=[]:=by
    show (List.replicate (fH g) ([]:List Nat)).getD j []=[]
    by_cases lt:j < fH g <;> simp [getD,lt]
   rw [e];exact vC _ _ (mem b (aP hb)).2
  ·rintro i y T' σ H5 hi ⟨u5,u6,u7,u8,u9,rfl,sA,hA5,Z0,hC5⟩ hT;rw [aJ] at hi;obtain ⟨t,ht,rfl⟩:=bh.mp hi;have lt:i < fH g:=by rw [<- lts]; exact (aF.mp ht).1
   have vT:=aY (o:=.tup [V.int ((i:Nat):Int),.ref t]) hT;refine ⟨T',_,rfl,fj.of aD,rfl,_,_,rfl,_,_,rfl,rfl,?_⟩;have sB:=sA.trans vT;have hA6:=vT _ _ hA5;have Rn:=Z0.same vT;have Z4:=vT _ _ hC5;generalize upd H5 T' (.tup [V.int ((i:Nat):Int),.ref t])=H6 at sB hA6 Rn Z4 ⊢;have st:=iD ((abF i t ht).same (s12.trans sB));have jN:=Vg ok lt;refine ⟨_,rfl,_,rfl,x,g,_,true,rfl,gx2.same sB,ok.w0,ok.c0,ok.n8,st.arg jN,(fun z=>nomatch z),fun _ d' ds' H7 lf sv _ nf s7 rf=>?_⟩;obtain ⟨rfl,rfl⟩:=sv.one st;obtain ⟨_,us,eu,hu,pu⟩:=id rf;cases eu;have lu:us.length=(Ii g i).length:=by rw [Paired.length pu]; unfold Ii; rw [ak]
   have hC7:=s7 _ _ Z4;refine ⟨_,rfl,.inl ⟨rfl,_,cU.of hC7⟩,_,rfl,lf,_,rfl,.inl (cU.of hu),lC,_,_,rfl,rfl,hC7,by rw [ak,length_take,wz]; omega,?_⟩;have nlf:lf≠lC:=Ne.symm (dw Z4 nf);have nls:lf ∉ ls:=fun hm=>by
    obtain ⟨jm,hj⟩:=cJ hm;have:=Rn jm lf hj;rw [nf] at this;cases this
   have hA8:L2.upd H7 lC (.lst (((j4 g).take i).map (fun ts=>V.int (ts.length:Int))++[V.int (us.length:Int)])) lA=some (.lst (ls.map V.ref)):=by rw [bf (Ne.symm nCA)]; exact s7 _ _ hA6
   have hR8:=(Rn.same s7).upd (o:=.lst (((j4 g).take i).map (fun ts=>V.int (ts.length:Int))++[V.int (us.length:Int)])) nC;have hu8:L2.upd H7 lC (.lst (((j4 g).take i).map (fun ts=>V.int (ts.length:Int))++[V.int (us.length:Int)])) lf=some (.lst us):=by rw [bf nlf]; exact hu
   have pu8:Paired (o9 (L2.upd H7 lC (.lst (((j4 g).take i).map (fun ts=>V.int (ts.length:Int))++[V.int (us.length:Int)])))) us (jl g (stN g i).1 (stN g i).2):=Paired.gG pu fun _ _ z=>iC.upd z hC7
   have s8:Same H2 (L2.upd H7 lC (.lst (((j4 g).take i).map (fun ts=>V.int (ts.length:Int))++[V.int (us.length:Int)]))):=fY (sB.trans s7) fC;have Z5:L2.upd H7 lC (.lst (((j4 g).take i).map (fun ts=>V.int (ts.length:Int))++[V.int (us.length:Int)])) lC=some (.lst (((j4 g).take (i + 1)).map fun ts=>V.int (ts.length:Int))):=by
    rw [aD,take_snoc (K4 lt),aZ,lu];rfl
   generalize L2.upd H7 lC (.lst (((j4 g).take i).map (fun ts=>V.int (ts.length:Int))++[V.int (us.length:Int)]))=H8 at hA8 hR8 hu8 pu8 s8 Z5 ⊢;refine ⟨_,rfl,lf,rfl,⟨_,cU.of hu8⟩,?_⟩;refine gZ (K:=K) (a:=lf) (xs:=us) (fun j σ H'=>∃ u8 u9,σ=[some (.ref x),some (.ref lS),some (.ref d),some (.ref lA),some (.ref lC),some (.int ((i:Nat):Int)),some (.ref t),some (.ref lf),u8,u9]/\Same H2 H'/\H' lA=some (.lst (ls.map V.ref))/\jx H' ls (((Ii g i).take j).foldl (jK i) (gW (j4 g) (fH g) i))/\H' lC=some (.lst (((j4 g).take (i + 1)).map fun ts=>V.int (ts.length:Int)))/\H' lf=some (.lst us)/\Paired (o9 H') us (jl g (stN g i).1 (stN g i).2)) ⟨_,_,rfl,s8,hA8,hR8,Z5,hu8,pu8⟩ (fun j σ H' _ ⟨_,_,_,_,_,_,_,e,_⟩=>cU.of e) ?_ ?_
   ·rintro j z σ H9 hj ⟨v8,v9,rfl,s9,hA9,Z6,hC9,hu9,pu9⟩;obtain ⟨c,hc,tp,y1,y2,rfl,htp,r1',r2'⟩:=dB pu9 hj;cases r1';obtain ⟨tb,rfl,nb⟩:=zu r2';obtain ⟨m,em,lm,es⟩:=mV ok (ug ok jN (aP hc));have hsu:(Ii g i)[j]?=some m:=by
     unfold Ii;rw [aJ,hc]
     show some ((numOf c.2.1 g.pots c.2.2).toNat)=some m
     rw [em,cQ]
    obtain ⟨b,hb⟩:∃ b,ls[m]?=some b:=⟨_,aG (by omega)⟩;have hbm:(ls.map V.ref)[m]?=some (.ref b):=by rw [aJ,hb]; rfl
    have bm:=aP hb;have hrow:=Z6 m b hb;obtain ⟨aAt,aiL⟩:=QX ok lt j;have sh:=aiL m;have lz:(kh ((((Ii g i).take j).foldl (jK i) (gW (j4 g) (fH g) i)).getD m [])).length < sizeLine:=by
     rw [qO];have:(i + 1) * 256<=20001 * 256:=Nat.mul_le_mul_right _ (by omega);omega
    refine ⟨tp,_,rfl,fj.of htp,rfl,_,_,rfl,_,_,rfl,rfl,?_⟩;refine ⟨_,rfl,_,rfl,_,rfl,d,ks,tb,c.2,m,_,rfl,rfl,s9 _ _ hd2,fun r hr=>(km2 r hr).same s9,nb,hks m lm,es,lA,_,((m:Nat):Int),.ref b,rfl,rfl,cU.of hA9,fD hbm,.inl ⟨rfl,_,cU.of hrow⟩,_,rfl,b,_,_,rfl,rfl,hrow,lz,?_⟩;refine ⟨_,_,rfl,fY s9 (mem b bm).1,?_,?_,?_,?_,Paired.gG pu9 fun _ _ z=>iC.upd z hrow⟩
    ·rw [bf (fun z=>nA (by rw [z]; exact bm))]; exact hA9
    ·rw [take_snoc hsu,foldl_append];exact Z6.road nd (by rw [ll,aAt]) hb
    ·rw [bf (fun z=>nC (by rw [z]; exact bm))]; exact hC9
    ·rw [bf (fun z=>nls (by rw [z]; exact bm))]; exact hu9
   ·rintro σ H9 ⟨v8,v9,rfl,s9,hA9,Z6,hC9,hu9,pu9⟩;rw [lu,bU] at Z6;refine ⟨_,_,_,_,_,rfl,s9,hA9,?_,hC9⟩;rw [qJ,wA lt];exact Z6
  ·rintro σ H5 ⟨u5,u6,u7,u8,u9,rfl,sA,hA5,Z0,hC5⟩;rw [ak,lts] at Z0 hC5;rw [<- wz g,bU] at hC5;refine ⟨_,rfl,_,rfl,by show 2<=sizeLine; decide,fun t ht=>?_⟩;have vt:=aY (o:=.tup [V.ref lA,.ref lC]) ht;exact q _ t lA lC ls ((s1.trans s12).trans (sA.trans vt)) aD ((s1.trans s12).free fC) (vt _ _ hC5) (vt _ _ hA5) ll (Z0.same vt) nCA nC
end
abbrev Ao:dW:=top 38
def iV:Option Int->V
 | none=>.non
 | some k=>.int k
def aqj:Rep (Option Int):=fun _ v o=>v=iV o
theorem Z7:zP aqj:=⟨fun h _=>h,fun h _=>h⟩
theorem NZ {H:Hp}:∀ {vs:List V} {xs:List (Option Int)},Paired (aqj H) vs xs->vs=xs.map iV
 | _,_,.nil=>rfl
 | _,_,.cons h r=>by rw [cY,<- NZ r]; cases h; rfl
theorem Vn {n j:Nat} (h:j < n):YG n (j:Int)=some j:=by
 unfold YG;rw [if_pos (by omega),if_pos (by omega)];simp
structure Vo (K:Fg) (mg:Str->Option aB) (a:gw) (dV:aB):Prop where
 W:BR K mg a dV
 en:mg "enumerate"=none
 di:mg "dict"=none
 ro:∃ f fd,Fn K "roads" "roads" wY ["garden"] f fd/\mg "roads"=some (.ref f)
 ta:∃ f fd,Fn K "table" "table" Ao ["garden"] f fd/\mg "table"=some (.ref f)
theorem Vp {α β:Type} {F:α->List β} {E:List α} {j:Nat} {n:α} (h:E[j]?=some n) (k:Nat):((E.take j).flatMap F++(F n).take k)++((F n).drop k++(E.drop (j + 1)).flatMap F)=E.flatMap F:=by
 obtain ⟨lt,e⟩:=aF.mp h;have e1:E.flatMap F=(E.take j).flatMap F++(F n++(E.drop (j + 1)).flatMap F):=by
  conv=>lhs; rw [<- take_append_drop j E,flatMap_append,List.drop_eq_getElem_cons lt,e,flatMap_cons]
 rw [e1,append_assoc,<- append_assoc ((F n).take k),take_append_drop]
theorem range_one {α:Type} (y:α) (n:Nat):(List.range n).map (fun _=>y)=List.replicate n y:=by
 rw [List.eq_replicate_iff,ak,bw];refine ⟨rfl,fun z hz=>?_⟩;obtain ⟨_,_,e⟩:=bx.mp hz;exact e.symm
theorem int_at {xs:List Int} {o:Nat} (h:o < xs.length):(xs.map V.int)[o]?=some (.int (xs.getD o 0)):=by simp [h]
section
variable {P:cC} {w:World} {K:Fg} {mg:Str->Option aB} {base:Heap} {a:gw} {dV:aB}
abbrev aiM:List Str:=["garden","found","ahead","left","answer","ending","days","earlier","number","other"]
def zx (a:gw):Sp:=fun vs H Q _=>∃ x g,vs=[.ref x]/\fW a H x g/\uf g/\∀ H' l ans,Same H H'->H l=none->H' l=some (.lst (ans.map iV))->Told (fH g) (j4 g) ans->Q (.ref l) H'
theorem jE:bV aiM ["garden"] (aW Ao):=eO (by decide +kernel)
theorem Aq {f:aA} {fd:fQ} (F:n6 K "table" "table" Ao f fd) (L:Vo K mg a dV):cD P w K mg base (fL P w) 6 f fd ["garden"] (zx a):=by
 refine F.mF jE (fun vs H Q E h=>?_) (fun cdv A outer s H vs Q E hr h=>?_)
 ·obtain ⟨x,g,rfl,_⟩:=h;rfl
 ·obtain ⟨x,g,rfl,gx,ok,q⟩:=h;have W:=L.W;have B:=W.S.Z.G.T.B;obtain ⟨fr,dr,rF,mR⟩:=L.ro;have QZ:cD P w K mg base (fL P w) 5 fr dr ["garden"] (NT a):=Vm rF.F W L.en L.di;have kR:=rF.F.kp;have bR:=rF.b;have ndB:[("number":Str),"count"].Nodup:=by decide +kernel
  refine ⟨_,aH (bM (i:=1) jE.nd rfl (Or.inl rfl) (dI QZ hr mR kR bR bB (ao (pv 0) aK))) (aH (bM (i:=2) jE.nd rfl (Or.inl rfl) (dh dM (pv 1) aV (fun _ _=>rfl))) (aH (bM (i:=3) jE.nd rfl (Or.inl rfl) (dh dM (pv 1) aV (fun _ _=>rfl))) (aH (vq (i:=4) jE.nd rfl (Or.inl rfl) bW rfl ⟨_,_,rfl,rfl,rfl⟩ (jk.plain (N':=["count"]) rfl (by decide +kernel) (by decide +kernel)) (fK (pv 3)) (fun _ _ _ _ _=>cZ 0 (show [("count":Str)].Nodup by decide +kernel)) (fun _ _ _ _ _=>jf) (fun _ _ _ _ _ _=>ji)) (aH (vq (i:=5) jE.nd rfl (Or.inl rfl) bW rfl ⟨_,_,rfl,rfl,rfl⟩ (jk.plain (N':=["number","count"]) rfl (by decide +kernel) (by decide +kernel)) (yZ (by rfl) L.en (ao (pv 3) aK)) (fun _ _ _ _ _=>yE K (n:=2) rfl (cg (cZ 0 ndB) (cg (cZ 1 ndB) gM))) (fun _ _ _ _ _=>vo (cN jJ (pv 1) aV (dz _))) (fun _ _ _ _ _ _=>pv 0)) (aH (bM (i:=6) jE.nd rfl (Or.inl rfl) aV) (aH (zy dY (RJ (pv 5) (fun _=>rfl)) (aH (bM (i:=7) jE.nd rfl (Or.inl rfl) (fZ aK)) (aH (gR dY rfl (fK (pv 5)) (cZ 8 jE.nd) (aH (DW (pv 6) (Rv (pv 4) (pv 8) set_list)) (aU (gR dY rfl (fK (dh gO (pv 2) (pv 8) (fun _ _=>rfl))) (cZ 9 jE.nd) (aH (Yv (pv 3) (pv 9) Tv aV ahG set_list) (aU (eV (cN jJ (dh gO (pv 3) (pv 9) (fun _ _=>rfl)) aV (dz _)) (aU (fu (lH PySem.F.plainAttrs_list PySem.F.slot_list_append PySem.F.type_list_append fX (pv 7) (ao (pv 9) aK)))) cX))))))) (aH (bM (i:=5) jE.nd rfl (Or.inl rfl) (pv 7)) (aU (ahE (i:=6) jE.nd rfl (Or.inl rfl) aV ahF)))))) (aU (cj (pv 4))))))))),?_⟩;have small:=ok.small;have big:20000 * 257<=sizeLine:=by decide
  have G:=aiJ ok;refine ⟨_,rfl,x,g,rfl,gx,ok,fun H1 tf lA lC ls s1 htf fC hC hA ll hR nCA nC=>?_⟩;refine ⟨_,rfl,tf,_,0,.ref lA,rfl,rfl,fj.of htf,rfl,_,rfl,tf,_,1,.ref lC,rfl,rfl,fj.of htf,rfl,?_⟩;have lsu:=wz g;have lCv:((j4 g).map fun ts=>V.int (ts.length:Int)).length=fH g:=by rw [ak,lsu]
  obtain ⟨qj,el0⟩:∃ qj:List Int,qj=(j4 g).map fun ts=>(ts.length:Int):=⟨_,rfl⟩
  have eC0:((j4 g).map fun ts=>V.int (ts.length:Int))=qj.map V.int:=by rw [el0,eY]; rfl
  have ll0:qj.length=fH g:=by rw [el0,ak,lsu]
  rw [eC0] at hC lCv;refine ⟨_,rfl,lC,rfl,⟨_,cU.of hC⟩,fun lN Z8=>?_⟩;refine yW (fH g) (by omega) (fun _=>.non) (fun i H'=>H'=L2.upd H1 lN (.lst ((List.range i).map fun _=>V.non))) rfl (fun i H' _ e=>by rw [e,aD]) (fun H' e=>⟨?_,?_⟩) (fun i H' lt e=>⟨?_,?_⟩)
  ·subst e;exact ⟨_,cU.of ((aY Z8) _ _ hC),by rw [ak]; omega⟩
  rotate_left
  ·subst e;exact ⟨_,_,cU.of ((aY Z8) _ _ hC),by rw [aJ,aG (by omega)]; rfl⟩
  ·rintro y yp ⟨rfl,_⟩ Qc k;subst e;exact ⟨g8,k _ aD (by rw [lQ])⟩
  subst e;have vN:=aY (o:=.lst ((List.range (fH g)).map fun _=>V.non)) Z8;have eN:L2.upd H1 lN (.lst ((List.range (fH g)).map fun _=>V.non)) lN=some (.lst ((List.replicate (fH g) (none:Option Int)).map iV)):=by
   rw [aD,range_one,List.map_replicate];rfl
  have s2:=s1.trans vN;have hC2:=vN _ _ hC;have hA2:=vN _ _ hA;have hR2:=hR.same vN;have nNC:lN≠lC:=fun z=>by rw [z,hC] at Z8; cases Z8
  have nNA:lN≠lA:=fun z=>by rw [z,hA] at Z8; cases Z8
  have nN:lN ∉ ls:=fun hm=>by
   obtain ⟨jm,hj⟩:=cJ hm;have:=hR jm lN hj;rw [Z8] at this;cases this
  have fN:H lN=none:=s1.free Z8;generalize L2.upd H1 lN (.lst ((List.range (fH g)).map fun _=>V.non))=H2 at eN s2 hC2 hA2 hR2 ⊢;refine ⟨_,rfl,lC,_,rfl,cU.of hC2,fun lE hlE=>?_⟩;have N5:∀ i,i < fH g->qj.getD i 0=(((j4 g).getD i []).length:Int):=fun i lt=>by
   rw [el0];simp [getD,K4 lt]
  refine vA (fH g) (by omega) (fun i acc H'=>acc=kh ((List.range i).filter fun n=>decide ((((j4 g).getD n []).length:Int)=0))/\Same H2 H'/\H' lE=some (.lst acc)) ⟨rfl,aY hlE,aD⟩ (fun i acc H' le ⟨e,_,e'⟩=>⟨by rw [e,qO]; exact bJ (length_filter_le _ _) (by rw [bw]; exact aO _),e'⟩) ?_ ?_
  rotate_left
  ·rintro i acc H' lt ⟨rfl,s',e⟩;have hx:(qj.map V.int)[i]?=some (.int (qj.getD i 0)):=int_at (by omega);have sq:cU K H' lC (qj.map V.int):=cU.of (s' _ _ hC2);refine ⟨⟨_,_,sq,hx⟩,?_⟩;rintro y yp ⟨t2,Nu,rfl,hu⟩ Qc Qn k kn;have e2:=hu _ _ sq hx;subst e2;have v2:=aY (o:=.tup [V.int ((i:Nat):Int),.int (qj.getD i 0)]) Nu;have e3:=v2 _ _ e;refine ⟨t2,_,rfl,fj.of aD,rfl,_,_,rfl,_,_,rfl,rfl,g8,_,rfl,rfl,_,rfl,?_⟩
   by_cases z:qj.getD i 0=0
   ·refine eqT z ⟨_,rfl,k _ _ e3 ⟨?_,fY (s'.trans v2) hlE,aD⟩⟩;rw [N5 i lt] at z;have e1:([i]:List Nat).filter (fun n=>decide ((((j4 g).getD n []).length:Int)=0))=[i]:=by
     rw [List.filter_cons,if_pos (by simpa using z)];rfl
    rw [bY,cG,e1,wX]
   ·refine ZD z (kn _ ⟨?_,s'.trans v2,e3⟩);rw [N5 i lt] at z;rw [bY,cG];have:([i]:List Nat).filter (fun n=>decide ((((j4 g).getD n []).length:Int)=0))=[]:=by
     rw [List.filter_cons,if_neg (by simpa using z)];rfl
    rw [this,cA]
  rintro acc H3 ⟨rfl,s3,e3⟩;refine ⟨⟨_,cU.of (s3 _ _ hC2),by rw [ak]; omega⟩,?_⟩;have L0:Lv (fH g) (j4 g) (Vi g) 0 (List.replicate (fH g) none) qj ((List.range (fH g)).filter fun n=>decide ((((j4 g).getD n []).length:Int)=0)):=by
   rw [el0];exact Kr G
  have nEC:lE≠lC:=fun z=>by rw [z,hC2] at hlE; cases hlE
  have nEN:lE≠lN:=fun z=>by rw [z,eN] at hlE; cases hlE
  obtain ⟨W',eW⟩:∃ W':Nat->St->Hp->Prop,W'=fun m σ H'=>∃ (d:Nat) (ans:nq) (left:List Int) (E:List Nat) (lE:aA) (u7 u8 u9:Option V),σ=[some (.ref x),some (.ref tf),some (.ref lA),some (.ref lC),some (.ref lN),some (.ref lE),some (.int (d:Int)),u7,u8,u9]/\m=nones ans/\Lv (fH g) (j4 g) (Vi g) d ans left E/\Same H H' /\ H' lA=some (.lst (ls.map V.ref))/\jx H' ls (Vi g)/\H' lC=some (.lst (left.map V.int))/\H' lN=some (.lst (ans.map iV))/\H' lE=some (.lst (kh E))/\lE≠lC/\lE≠lN:=⟨_,rfl⟩
  refine ⟨W',⟨nones (List.replicate (fH g) none),by rw [eW]; exact ⟨0,_,qj,_,lE,none,none,none,rfl,rfl,L0,s2.trans s3,s3 _ _ hA2,hR2.same s3,s3 _ _ hC2,s3 _ _ eN,e3,nEC,nEN⟩⟩,?_⟩;clear e3 nEC nEN L0;intro m σ H4 hW;rw [eW] at hW;obtain ⟨d,ans,left,E,Z9,u7,u8,u9,rfl,rfl,Lv',s4,hA4,hR4,hC4,hN4,hE4,nEC,nEN⟩:=hW;refine ⟨_,rfl,!(kh E).isEmpty,.inl ⟨_,cU.of hE4,rfl⟩,?_⟩
  by_cases z:E=[]
  ·subst z;rw [show (!(kh ([]:List Nat)).isEmpty)=false from rfl];exact d9 ⟨_,rfl,q H4 lN ans s4 fN hN4 (Zh Lv')⟩
  have ne:(!(kh E).isEmpty)=true:=by
   cases E with
   | nil=>exact absurd rfl z
   | cons _ _=>rfl
  rw [ne];refine eE ⟨fun σ' H'=>∃ m',m' < nones ans/\W' m' σ' H',fun _ _ h=>h,?_⟩;refine ⟨by show 0<=sizeLine; decide,fun lF Vq=>?_⟩;have vF:=aY (o:=.lst []) Vq;have nFC:lF≠lC:=fun z=>by rw [z,hC4] at Vq; cases Vq
  have nFN:lF≠lN:=fun z=>by rw [z,hN4] at Vq; cases Vq
  have nFA:lF≠lA:=fun z=>by rw [z,hA4] at Vq; cases Vq
  have nFE:lF≠Z9:=fun z=>by rw [z,hE4] at Vq; cases Vq
  have nFl:lF ∉ ls:=fun hm=>by
   obtain ⟨jm,hj⟩:=cJ hm;have:=hR4 jm lF hj;rw [Vq] at this;cases this
  have fF:H lF=none:=s4.free Vq;have lE1:(kh E).length=E.length:=qO E;obtain ⟨Fa,eFa⟩:∃ Fa:Nat->List Nat,Fa=fun t=>(Vi g).getD t []:=⟨_,rfl⟩
  refine ⟨_,rfl,Z9,rfl,⟨_,cU.of (vF _ _ hE4)⟩,?_⟩;refine gZ (K:=K) (a:=Z9) (xs:=kh E) (fun j σ H'=>∃ u8 u9,σ=[some (.ref x),some (.ref tf),some (.ref lA),some (.ref lC),some (.ref lN),some (.ref Z9),some (.int (d:Int)),some (.ref lF),u8,u9]/\Same H H'/\H' lA=some (.lst (ls.map V.ref))/\jx H' ls (Vi g) /\ H' lC=some (.lst ((((E.take j).flatMap Fa).foldl iB (left,[])).1.map V.int))/\H' lN=some (.lst ((dZ ans (d:Int) (E.take j)).map iV))/\H' Z9=some (.lst (kh E))/\H' lF=some (.lst (kh (((E.take j).flatMap Fa).foldl iB (left,[])).2))) ⟨_,_,rfl,s4.trans vF,vF _ _ hA4,hR4.same vF,vF _ _ hC4,vF _ _ hN4,vF _ _ hE4,aD⟩ (fun j σ H' _ ⟨_,_,_,_,_,_,_,_,e,_⟩=>cU.of e) ?_ ?_
  ·rintro j y σ H6 hj ⟨v8,v9,rfl,s6,hA6,Rn,Z4,hN6,hE6,hF6⟩;unfold kh at hj;rw [aJ] at hj;obtain ⟨n,hn,rfl⟩:=bh.mp hj;have ln:n < fH g:=((Lv'.mem n).mp (aP hn)).1;have la:(dZ ans (d:Int) (E.take j)).length=fH g:=by rw [tR,Lv'.TX]
   refine ⟨_,rfl,_,rfl,_,rfl,lN,_,_,n,rfl,rfl,hN6,Vn (by rw [ak,la]; exact ln),?_⟩;have hN7:L2.upd H6 lN (.lst (((dZ ans (d:Int) (E.take j)).map iV).set n (.int (d:Int)))) lN=some (.lst ((dZ ans (d:Int) (E.take (j + 1))).map iV)):=by
    rw [aD,take_snoc hn,Hr,map_set];rfl
   have s7:Same H (L2.upd H6 lN (.lst (((dZ ans (d:Int) (E.take j)).map iV).set n (.int (d:Int))))):=fY s6 fN;have hA7:L2.upd H6 lN (.lst (((dZ ans (d:Int) (E.take j)).map iV).set n (.int (d:Int)))) lA=some (.lst (ls.map V.ref)):=by rw [bf (Ne.symm nNA)]; exact hA6
   have hR7:=Rn.upd (o:=.lst (((dZ ans (d:Int) (E.take j)).map iV).set n (.int (d:Int)))) nN;have hC7:L2.upd H6 lN (.lst (((dZ ans (d:Int) (E.take j)).map iV).set n (.int (d:Int)))) lC=some (.lst ((((E.take j).flatMap Fa).foldl iB (left,[])).1.map V.int)):=by rw [bf (Ne.symm nNC)]; exact Z4
   have hE7:L2.upd H6 lN (.lst (((dZ ans (d:Int) (E.take j)).map iV).set n (.int (d:Int)))) Z9=some (.lst (kh E)):=by rw [bf nEN]; exact hE6
   have hF7:L2.upd H6 lN (.lst (((dZ ans (d:Int) (E.take j)).map iV).set n (.int (d:Int)))) lF=some (.lst (kh (((E.take j).flatMap Fa).foldl iB (left,[])).2)):=by rw [bf nFN]; exact hF6
   generalize L2.upd H6 lN (.lst (((dZ ans (d:Int) (E.take j)).map iV).set n (.int (d:Int))))=H7 at hN7 s7 hA7 hR7 hC7 hE7 hF7 ⊢;obtain ⟨b,hb⟩:∃ b,ls[n]?=some b:=⟨_,aG (by omega)⟩;have hbm:(ls.map V.ref)[n]?=some (.ref b):=by rw [aJ,hb]; rfl
   have hrow:∀ {H':Hp},jx H' ls (Vi g)->H' b=some (.lst (kh (Fa n))):=fun h=>by rw [eFa]; exact h n b hb
   refine ⟨_,rfl,_,rfl,lA,_,((n:Nat):Int),.ref b,rfl,rfl,cU.of hA7,fD hbm,b,rfl,⟨_,cU.of (hrow hR7)⟩,?_⟩;refine gZ (K:=K) (a:=b) (xs:=kh (Fa n)) (fun k σ H'=>∃ u9,σ=[some (.ref x),some (.ref tf),some (.ref lA),some (.ref lC),some (.ref lN),some (.ref Z9),some (.int (d:Int)),some (.ref lF),some (.int ((n:Nat):Int)),u9]/\Same H H'/\H' lA=some (.lst (ls.map V.ref))/\jx H' ls (Vi g) /\ H' lC=some (.lst ((((E.take j).flatMap Fa++(Fa n).take k).foldl iB (left,[])).1.map V.int))/\H' lN=some (.lst ((dZ ans (d:Int) (E.take (j + 1))).map iV))/\H' Z9=some (.lst (kh E))/\H' lF=some (.lst (kh (((E.take j).flatMap Fa++(Fa n).take k).foldl iB (left,[])).2))) ⟨_,rfl,s7,hA7,hR7,by rw [List.take_zero,cA]; exact hC7,hN7,hE7,by rw [List.take_zero,cA]; exact hF7⟩ (fun k σ H' _ ⟨_,_,_,_,e,_⟩=>cU.of (hrow e)) ?_ ?_
   ·rintro k y σ H8 hk ⟨v9,rfl,s8,hA8,hR8,Z5,hN8,hE8,hF8⟩;unfold kh at hk;rw [aJ] at hk;obtain ⟨o,ho,rfl⟩:=bh.mp hk;have hom:o ∈ (Vi g).getD n []:=by
     have:=aP ho;rw [eFa] at this;exact this
    have lo:o < fH g:=G.inA o n hom;obtain ⟨pl,ps⟩:=Kv G Lv' (os:=(E.take j).flatMap Fa++(Fa n).take k) (qs:=(Fa n).drop k++(E.drop (j + 1)).flatMap Fa) (by rw [Vp hn,eFa]);have nx:((E.take j).flatMap Fa++(Fa n).take (k + 1)).foldl iB (left,[])=iB (((E.take j).flatMap Fa++(Fa n).take k).foldl iB (left,[])) o:=by
     rw [take_snoc ho,<- append_assoc,foldl_append];rfl
    rw [nx];generalize ((E.take j).flatMap Fa++(Fa n).take k).foldl iB (left,[])=R at Z5 hF8 pl ps ⊢;have lo':o < R.1.length:=by omega
    refine ⟨_,rfl,_,rfl,lC,_,o,_,rfl,rfl,cU.of Z5,int_at lo',_,_,rfl,rfl,lC,_,_,o,rfl,rfl,Z5,Vn (by rw [ak]; exact lo'),?_⟩;have hC9:L2.upd H8 lC (.lst ((R.1.map V.int).set o (.int (R.1.getD o 0 - 1)))) lC=some (.lst ((iB R o).1.map V.int)):=by
     rw [aD];unfold iB;rw [map_set]
    have s9:Same H (L2.upd H8 lC (.lst ((R.1.map V.int).set o (.int (R.1.getD o 0 - 1))))):=fY s8 fC;have hA9:L2.upd H8 lC (.lst ((R.1.map V.int).set o (.int (R.1.getD o 0 - 1)))) lA=some (.lst (ls.map V.ref)):=by rw [bf (Ne.symm nCA)]; exact hA8
    have Z6:=hR8.upd (o:=.lst ((R.1.map V.int).set o (.int (R.1.getD o 0 - 1)))) nC;have hN9:L2.upd H8 lC (.lst ((R.1.map V.int).set o (.int (R.1.getD o 0 - 1)))) lN=some (.lst ((dZ ans (d:Int) (E.take (j + 1))).map iV)):=by rw [bf nNC]; exact hN8
    have hE9:L2.upd H8 lC (.lst ((R.1.map V.int).set o (.int (R.1.getD o 0 - 1)))) Z9=some (.lst (kh E)):=by rw [bf nEC]; exact hE8
    have hF9:L2.upd H8 lC (.lst ((R.1.map V.int).set o (.int (R.1.getD o 0 - 1)))) lF=some (.lst (kh R.2)):=by rw [bf nFC]; exact hF8
    generalize L2.upd H8 lC (.lst ((R.1.map V.int).set o (.int (R.1.getD o 0 - 1))))=H9 at hC9 s9 hA9 Z6 hN9 hE9 hF9 ⊢;have g9:((iB R o).1.map V.int)[o]?=some (.int (R.1.getD o 0 - 1)):=by
     unfold iB;simp [lo']
    refine ⟨_,rfl,_,rfl,lC,_,_,_,rfl,rfl,cU.of hC9,fD g9,rfl,_,rfl,?_⟩
    by_cases zz:R.1.getD o 0 - 1=0
    ·refine eqT zz ⟨_,rfl,.inl ⟨rfl,_,cU.of hF9⟩,_,rfl,lF,_,_,rfl,rfl,hF9,by rw [qO]; omega,?_⟩;have eR:(iB R o).2=R.2++[o]:=by unfold iB; exact if_pos zz
     refine ⟨_,rfl,fY s9 fF,by rw [bf (Ne.symm nFA)]; exact hA9,Z6.upd nFl,by rw [bf (Ne.symm nFC)]; exact hC9,by rw [bf (Ne.symm nFN)]; exact hN9,by rw [bf (Ne.symm nFE)]; exact hE9,by rw [aD,eR,wX]⟩
    ·have eR:(iB R o).2=R.2:=by unfold iB; exact if_neg zz
     exact ZD zz ⟨_,rfl,s9,hA9,Z6,hC9,hN9,hE9,by rw [eR]; exact hF9⟩
   ·rintro σ H8 ⟨v9,rfl,s8,hA8,hR8,Z5,hN8,hE8,hF8⟩;have ef:(E.take (j + 1)).flatMap Fa=(E.take j).flatMap Fa++(Fa n).take (kh (Fa n)).length:=by
     rw [take_snoc hn,flatMap_append,qO,bU];simp
    rw [<- ef] at Z5 hF8;exact ⟨_,_,rfl,s8,hA8,hR8,Z5,hN8,hE8,hF8⟩
  ·rintro σ H6 ⟨v8,v9,rfl,s6,hA6,Rn,Z4,hN6,hE6,hF6⟩;rw [lE1,bU] at Z4 hN6 hF6;refine ⟨_,rfl,_,rfl,_,_,rfl,rfl,?_⟩;have en:=Qo (Vi g) (d:Int) ans left E;have Lv2:=TY G Lv';have less:=Ks Lv';rw [en] at Lv2 less;have Qh:0 < E.length:=List.length_pos_iff.mpr z;refine ⟨nones (dZ ans (d:Int) E),by show nones (dZ ans (d:Int) E) < nones ans; have:nones (dZ ans (d:Int) E) + E.length=nones ans:=less; omega,?_⟩;rw [eW];rw [eFa] at Z4 hF6;exact ⟨d + 1,_,_,_,lF,_,_,_,rfl,rfl,Lv2,s6,hA6,Rn,Z4,hN6,hF6,nFC,nFN⟩
end
abbrev Dk:dW:=top 29
section
variable {P:cC} {w:World} {K:Fg} {mg:Str->Option aB} {base:Heap} {a:gw} {dV:aB}
def Vr (K:Fg) (a:gw):Sp:=fun vs H Q E=>∃ x g c kc,vs=[.ref x,c]/\fW a H x g/\(∀ p ∈ g.pots,p.Ok)/\g.pots.length<=8/\gh K H c kc/\UG a H (fun x=>Q (.ref x)) E (some g.pots) c (.int g.week) (.int g.closed)
theorem aiN:bV ["garden","cans"] ["garden","cans"] (aW Dk):=eO (by decide +kernel)
theorem Vs (Z:KQ K mg a dV) {f:aA} {fd:fQ} (F:n6 K "with_cans" "with_cans" Dk f fd):cD P w K mg base (fL P w) 9 f fd ["garden","cans"] (Vr K a):=by
 refine F.mF aiN (fun vs H Q E h=>?_) (fun cdv A outer s H vs Q E hr h=>?_)
 ·obtain ⟨x,g,c,kc,rfl,_⟩:=h;rfl
 ·obtain ⟨x,g,c,kc,rfl,⟨dx,l,as,hx,hl,pt⟩,pQ,h8,hc,post⟩:=h;refine ⟨_,aU (cj (yq Z.kG (abB Z) hr Z.Zz Z.b4 (cV bW) (ao (fG (pv 0) rfl) (ao (pv 1) (ao (fG (pv 0) rfl) (ao (fG (pv 0) rfl) aK)))))),?_⟩;refine ⟨_,rfl,x,a.garden,dx,_,_,rfl,hx,Z.tG.cl,Z.nG _ (by simp),ou ..,_,rfl,_,rfl,x,a.garden,dx,_,_,rfl,hx,Z.tG.cl,Z.nG _ (by simp),tZ ..,_,rfl,x,a.garden,dx,_,_,rfl,hx,Z.tG.cl,Z.nG _ (by simp),HB ..,?_⟩;have la:as.length=g.pots.length:=Paired.length pt;exact UJ (kw:=.int) (kl:=.int) (fW.arg (x:=x) (dx:=dx) hl (by omega) pt pQ) hc ⟨_,rfl⟩ ⟨_,rfl⟩ post
end
abbrev Vu:dW:=inClass (top 39) 0
abbrev Vw:dW:=inClass (top 39) 1
structure Ij (g:gB):Prop where
 ok:uf g
 out:Fv (some g.pots) (.int g.cans) (.int g.week) (.int g.closed)=.ok
structure Vx (K:Fg) (mg:Str->Option aB) (a:gw) (dV:aB) (lv:aA):Prop where
 L:Vo K mg a dV
 cans:∃ f fd,Fn K "with_cans" "with_cans" Dk ["garden","cans"] f fd/\mg "with_cans"=some (.ref f)
 t:BK K lv
 m:mg "Lives"=some (.ref lv)
 n:∀ f ∈ (["garden","counts"]:List Str),jG K lv f
 ini:∃ f fd,Fn K "__init__" "Lives.__init__" Vu ["self","garden"] f fd/\Mk K lv f
 day:∃ f fd,Fn K "days" "Lives.days" Vw ["self","state"] f fd/\Meth K lv "days" f
section
variable {P:cC} {w:World} {K:Fg} {mg:Str->Option aB} {base:Heap} {a:gw} {dV:aB} {lv:aA}
def lfs (y l:aA):List (Str × V):=[("garden",.ref y),("counts",.ref l)]
theorem Vy (y l:aA):(lfs y l).lookup ("garden":Str)=some (.ref y):=yx
theorem aqn (y l:aA):(lfs y l).lookup ("counts":Str)=some (.ref l):=(jA (by decide +kernel)).trans yx
theorem K6 (y l:aA) {m:Str} (h1:(m == "garden")=false) (h2:(m == "counts")=false):(lfs y l).lookup m=none:=(jA h1).trans (jA h2)
theorem aqo (y l:aA):iw "counts" (V.ref l) (iw "garden" (.ref y) [])=lfs y l:=by
 have e1:iw "garden" (V.ref y) []=[(("garden":Str),V.ref y)]:=rfl;rw [e1,nR (by decide +kernel)];rfl
theorem fW.aiO {H:Hp} {x y C dx:aA} {g:gB} {fs:List (Str × V)} {o:HO} (h:fW a H y g) (hx:H x=some (.ins C dx fs)) (hf:fs.length<=1):fW a (L2.upd H x o) y g:=by
 obtain ⟨d,l,as,h1,h2,h3⟩:=h;refine ⟨d,l,as,?_,?_,Paired.gG h3 fun b p hb=>?_⟩
 ·rw [bf ?_]
  ·exact h1
  ·intro z;rw [z,hx] at h1;injection h1 with h1;injection h1 with _ _ h1;rw [h1] at hf;exact absurd hf (by simp [Rm])
 ·rw [bf (jX h2 hx (by intro z; cases z))];exact h2
 ·obtain ⟨dy,e⟩:=hb;refine ⟨dy,?_⟩;rw [bf ?_]
  ·exact e
  ·intro z;rw [z,hx] at e;injection e with e;injection e with _ _ e;rw [e] at hf;unfold cL.fs at hf
   split at hf <;> exact absurd hf (by simp)
def sJ (a:gw) (lv:aA) (H:Hp) (x:aA) (g:gB) (ans:nq):Prop:=∃ dx y l,H x=some (.ins lv dx (lfs y l))/\fW a H y g/\H l=some (.lst (ans.map iV))
theorem sJ.same {H H':Hp} {x:aA} {g:gB} {ans:nq} (h:sJ a lv H x g ans) (s:Same H H'):sJ a lv H' x g ans:=by
 obtain ⟨dx,y,l,h1,h2,h3⟩:=h;exact ⟨dx,y,l,s _ _ h1,h2.same s,s _ _ h3⟩
def N6 (a:gw) (lv:aA):Sp:=fun vs H Q _=>∃ x dx y g,vs=[.ref x,.ref y]/\H x=some (.ins lv dx [])/\fW a H y g/\Ij g/\∀ H' ans,But x H H'->sJ a lv H' x g ans->Told (fH g) (j4 g) ans->Q .non H'
theorem aqp:bV ["self","garden"] ["self","garden"] (aW Vu):=eO (by decide +kernel)
theorem Vz {f:aA} {fd:fQ} (F:n6 K "__init__" "Lives.__init__" Vu f fd) (V:Vx K mg a dV lv):cD P w K mg base (fL P w) 10 f fd ["self","garden"] (N6 a lv):=by
 refine F.mF aqp (fun vs H Q E h=>?_) (fun cdv A outer s H vs Q E hr h=>?_)
 ·obtain ⟨x,dx,y,g,rfl,_⟩:=h;rfl
 ·obtain ⟨x,dx,y,g,rfl,hx,gy,good,q⟩:=h;have Z:=V.L.W.S.Z;obtain ⟨fc,dc,cF,mC⟩:=V.cans;obtain ⟨ft,dt,tF,mT⟩:=V.L.ta;have yO:cD P w K mg base (fL P w) 9 fc dc ["garden","cans"] (Vr K a):=Vs Z cF.F;have okt:cD P w K mg base (fL P w) 6 ft dt ["garden"] (zx a):=Aq tF.F V.L;have hr6:d8 6 _:=hr.mono (by decide);refine ⟨_,aH (pG (pv 0) (dI yO hr mC cF.F.kp cF.b (cV bW) (ao (pv 1) (ao (fG (pv 1) rfl) aK))) rfl) (aU (pG (pv 0) (dI okt hr6 mT tF.F.kp tF.b bB (ao (pv 1) aK)) rfl)),?_⟩;obtain ⟨dy,ly,as,hy,_,_⟩:=id gy;refine ⟨_,rfl,_,rfl,y,a.garden,dy,_,_,rfl,hy,Z.tG.cl,Z.nG _ (by simp),Ux ..,y,g,_,.int,rfl,gy,good.ok.pQ,good.ok.n8,⟨_,rfl⟩,abC good.out (fun H1 z hz s1 gn=>?_)⟩;have hx1:=s1 _ _ hx;refine ⟨_,rfl,x,lv,dx,_,rfl,hx1,V.t.cl,V.n _ (by simp),by show 0 < 1000; decide,?_⟩;have gy2:=(gy.same s1).aiO (o:=.ins lv dx (iw "garden" (.ref z) [])) hx1 (by decide);have gz2:=gn.at.aiO (o:=.ins lv dx (iw "garden" (.ref z) [])) hx1 (by decide);have b2:But x H (L2.upd H1 x (.ins lv dx (iw "garden" (.ref z) []))):=fun b o nb e=>by rw [bf nb]; exact s1 _ _ e
  have hx2:L2.upd H1 x (.ins lv dx (iw "garden" (.ref z) [])) x=some (.ins lv dx (iw "garden" (.ref z) [])):=aD;generalize L2.upd H1 x (.ins lv dx (iw "garden" (.ref z) []))=H2 at gy2 gz2 b2 hx2 ⊢;refine ⟨_,rfl,y,g,rfl,gy2,good.ok,fun H3 l ans s3 fl hl told=>?_⟩;have ZC:=s3 _ _ hx2;refine ⟨_,rfl,x,lv,dx,_,rfl,ZC,V.t.cl,V.n _ (by simp),by show 1 < 1000; decide,?_⟩;rw [aqo];refine q _ ans (fun b o nb e=>by rw [bf nb]; exact s3 _ _ (b2 b o nb e)) ⟨dx,z,l,aD,(gz2.same s3).aiO ZC (by show 1<=1; exact aO _),?_⟩ told;rw [bf (jX hl ZC (by intro z; cases z))];exact hl
theorem Ik {H:Hp} {Q:aA->Hp->Prop} {E:XK} {y:aA} {g:gB} (gy:fW a H y g) (good:Ij g) (p:∀ x H' ans,H x=none->Same H H'->sJ a lv H' x g ans->Told (fH g) (j4 g) ans->Q x H') : ∀ x dx,H x=none->H dx=none->dx≠x->N6 a lv [.ref x,.ref y] (L2.upd (L2.upd H dx (.own x)) x (.ins lv dx [])) (fun v H2=>v=.non/\Q x H2) E:=by
 intro x dx nx ndx ne;have s0:=rW (C:=lv) nx ndx;exact ⟨x,dx,y,g,rfl,aD,gy.same s0,good,fun H' ans b la told=>⟨rfl,p x H' ans nx (b.made nx ndx) la told⟩⟩
noncomputable def VB (K:Fg) (a:gw) (lv:aA):Sp:=fun vs H Q E=>∃ x g ans v b,vs=[.ref x,v]/\sJ a lv H x g ans/\uf g/\ans.length=fH g/\jM K H g.week g.pots v b/\(b=false->∀ H',Same H H'->E (.ref a.c7) none H') /\ (b=true->∀ d ds (n:Nat) H',j8 H v d ds->gK g.week g.pots d ds->numOf d g.pots ds=(n:Int)->n < fH g->Same H H'->Q (iV (ans.getD n none)) H')
theorem aqq:bV ["self","state"] ["self","state"] (aW Vw):=eO (by decide +kernel)
theorem wZ {ans:nq} {n:Nat} (h:n < ans.length):(ans.map iV)[n]?=some (iV (ans.getD n none)):=by simp [h]
theorem VD {f:aA} {fd:fQ} (F:n6 K "days" "Lives.days" Vw f fd) (V:Vx K mg a dV lv):cD P w K mg base (fL P w) 5 f fd ["self","state"] (VB K a lv):=by
 refine F.mF aqq (fun vs H Q E h=>?_) (fun cdv A outer s H vs Q E hr h=>?_)
 ·obtain ⟨x,g,ans,v,b,rfl,_⟩:=h;rfl
 ·obtain ⟨x,g,ans,v,b,rfl,⟨dx,y,l,hx,gy,hl⟩,ok,la,sa,bad,good⟩:=h;have S:=V.L.W.S;have Z:=S.Z;refine ⟨_,aU (cj (dh gO (fG (pv 0) rfl) (kJ (fG (pv 0) rfl) Z.tG.cl S.ap8 (U7 S) hr S.num.b .nil (cV bW) (ao (pv 1) aK)) (fun _ _=>rfl))),?_⟩;obtain ⟨dy,ly,as,hy,_,_⟩:=id gy;refine ⟨_,rfl,x,lv,dx,_,_,rfl,hx,V.t.cl,V.n _ (by simp),aqn ..,_,rfl,x,lv,dx,_,_,rfl,hx,V.t.cl,V.n _ (by simp),Vy ..,y,dy,_,rfl,hy,BP _ _ _ _ (by decide +kernel) (by decide +kernel) (by decide +kernel) (by decide +kernel),_,rfl,y,g,v,b,rfl,gy,ok.pQ,ok.n8,sa,bad,fun eb d ds H1 sv jN s1=>?_⟩;obtain ⟨n,en,ln,_⟩:=mV ok jN;rw [en];exact ⟨l,_,_,_,rfl,rfl,cU.of (s1 _ _ hl),fD (wZ (by rw [la]; exact ln)),good eb d ds n H1 sv jN en ln s1⟩
end
abbrev Il:dW:=top 40
abbrev nW:dW:=top 41
structure aiQ (K:Fg) (mg:Str->Option aB) (a:gw) (dV:aB):Prop where
 L:Vo K mg a dV
 fre:∃ f fd,Fn K "fresh" "Garden.fresh" K1 ["self"] f fd/\Meth K a.garden "fresh" f
 to:∃ f fd,Fn K "told_or_fresh" "told_or_fresh" Il ["garden","state"] f fd/\mg "told_or_fresh"=some (.ref f)
 dof:∃ f fd dv,yQ K "days_of" "days_of" nW dv f fd/\Binds K fd ["garden","state"] []/\Binds K fd ["garden","state"] [.none]/\mg "days_of"=some (.ref f)
section
variable {P:cC} {w:World} {K:Fg} {mg:Str->Option aB} {base:Heap} {a:gw} {dV:aB}
theorem Ar:∀ ps:List cL,numOf 0 ps (List.replicate ps.length 0)=0
 | []=>rfl
 | p::ps=>by
  show numOf (0 * p.gap + 0) ps (List.replicate ps.length 0)=0
  rw [Int.zero_mul,Int.zero_add];exact Ar ps
theorem Av {g:gB} (ok:uf g):gK g.week g.pots 0 (List.replicate g.pots.length 0):=by
 refine ⟨dU _,ok.w0,length_replicate,fun i y p hy hp=>?_⟩;have e:y=0:=(List.mem_replicate.mp (aP hy)).2;have:=(ok.pQ p (aP hp)).gap.1;omega
noncomputable def FN (K:Fg) (a:gw):Sp:=fun vs H Q E=>∃ x g v,vs=[.ref x,v]/\fW a H x g/\g.pots.length<=8/\((v=.non/\∀ H' t,Same H H'->j8 H' (.ref t) 0 (List.replicate g.pots.length 0)->Q (.ref t) H') \/ (v≠.non/\∃ b,jM K H g.week g.pots v b/\(b=false->∀ H',Same H H'->E (.ref a.c7) none H')/\(b=true->∀ H',Same H H'->Q v H')))
theorem aiR:bV ["garden","state"] ["garden","state"] (aW Il):=eO (by decide +kernel)
theorem N7 {f ff:aA} {fd df:fQ} (F:n6 K "told_or_fresh" "told_or_fresh" Il f fd) (S:HS K mg a dV) (fF:Fn K "fresh" "Garden.fresh" K1 ["self"] ff df) (hF:Meth K a.garden "fresh" ff):cD P w K mg base (fL P w) 4 f fd ["garden","state"] (FN K a):=by
 refine F.mF aiR (fun vs H Q E h=>?_) (fun cdv A outer s H vs Q E hr h=>?_)
 ·obtain ⟨x,g,v,rfl,_⟩:=h;rfl
 ·obtain ⟨x,g,v,rfl,gx,h8,h⟩:=h;have Z:=S.Z;have okf:cD P w K mg base (fL P w) 1 ff df ["self"] (U8 a):=U9 Z fF.F;have hr1:d8 1 _:=hr.mono (by decide);refine ⟨_,aH (eV (cN tE (pv 1) ji (dz _)) (aU (cj (oN (pv 0) Z.tG.cl hF okf hr1 fF.b .nil bB))) cX) (aH (fu (dI (Ag S) hr S.aiB S.ref.F.kp S.ref.b (cV bW) (ao (pv 0) (ao (pv 1) aK)))) (aU (cj (pv 1)))),?_⟩;obtain ⟨dx,l,as,hx,_,_⟩:=id gx;refine ⟨_,rfl,rfl,_,rfl,?_⟩;rcases h with ⟨rfl,q⟩ | ⟨nn,b,sa,bad,good⟩
  ·rw [aM rfl];exact eE ⟨_,rfl,x,dx,_,rfl,hx,BP _ _ _ _ (by decide +kernel) (by decide +kernel) (by decide +kernel) (by decide +kernel),x,g,rfl,gx,h8,q⟩
  ·rw [aL nn];exact d9 ⟨_,rfl,_,rfl,x,g,v,b,rfl,gx,h8,sa,bad,fun eb H1 s1=>⟨_,rfl,good eb H1 s1⟩⟩
noncomputable def Im (K:Fg) (a:gw):Sp:=fun vs H Q E=>∃ x g v,vs=[.ref x,v]/\fW a H x g/\uf g/\((v=.non/\∀ H' ans,Same H H'->Told (fH g) (j4 g) ans->Q (iV (ans.getD 0 none)) H') \/ (v≠.non/\∃ b,jM K H g.week g.pots v b/\(b=false->∀ H',Same H H'->E (.ref a.c7) none H') /\ (b=true->∀ d ds (n:Nat) H' ans,j8 H v d ds->gK g.week g.pots d ds->numOf d g.pots ds=(n:Int)->n < fH g->Same H H'->Told (fH g) (j4 g) ans->Q (iV (ans.getD n none)) H')))
theorem Io:bV ["garden","state","here"] ["garden","state"] (aW nW):=eO (by decide +kernel)
theorem N8 {ans:nq} {n:Nat} (h:n < ans.length):(ans.map iV)[n]?=some (iV (ans.getD n none)):=by simp [h]
theorem Q0 {f:aA} {fd:fQ} {dv:aB} (F:yQ K "days_of" "days_of" nW dv f fd) (X:aiQ K mg a dV):cD P w K mg base (fL P w) 7 f fd ["garden","state"] (Im K a):=by
 refine F.mF Io (fun vs H Q E h=>?_) (fun cdv A outer s H vs Q E hr h=>?_)
 ·obtain ⟨x,g,v,rfl,_⟩:=h;rfl
 ·obtain ⟨x,g,v,rfl,gx,ok,h⟩:=h;have S:=X.L.W.S;have Z:=S.Z;obtain ⟨ff,df,fF,hF⟩:=X.fre;obtain ⟨fo,d_o,oF,mO⟩:=X.to;obtain ⟨ft,dt,tF,mT⟩:=X.L.ta;have oko:cD P w K mg base (fL P w) 4 fo d_o ["garden","state"] (FN K a):=N7 oF.F S fF hF;have okt:cD P w K mg base (fL P w) 6 ft dt ["garden"] (zx a):=Aq tF.F X.L;have Q5:d8 4 _:=hr.mono (by decide);refine ⟨_,aH (bM (i:=2) Io.nd rfl (Or.inl rfl) (dI oko Q5 mO oF.F.kp oF.b (cV bW) (ao (pv 0) (ao (pv 1) aK)))) (aU (cj (dh gO (dI okt hr mT tF.F.kp tF.b bB (ao (pv 0) aK)) (kJ (pv 0) Z.tG.cl S.ap8 (U7 S) Q5 S.num.b .nil (cV bW) (ao (pv 2) aK)) (fun _ _=>rfl)))),?_⟩;refine ⟨_,rfl,_,rfl,x,g,v,rfl,gx,ok.n8,?_⟩;rcases h with ⟨rfl,q⟩ | ⟨nn,b,sa,bad,good⟩
  ·refine .inl ⟨rfl,fun H1 t s1 st=>?_⟩;refine ⟨_,rfl,x,g,rfl,gx.same s1,ok,fun H2 l ans s2 fl hl told=>?_⟩;have gx2:=(gx.same s1).same s2;have st2:=st.same s2;obtain ⟨dx,lx,as,hx,_,_⟩:=id gx2;refine ⟨_,rfl,x,dx,_,rfl,hx,BP _ _ _ _ (by decide +kernel) (by decide +kernel) (by decide +kernel) (by decide +kernel),_,rfl,x,g,_,true,rfl,gx2,ok.pQ,ok.n8,st2.arg (Av ok),(fun z=>nomatch z),fun _ d' ds' H3 sv Q6 s3=>?_⟩;obtain ⟨rfl,rfl⟩:=sv.one st2;obtain ⟨n,en,ln,_⟩:=mV ok Q6;rw [en];have e0:n=0:=by
    rw [Ar] at en;omega
   subst e0;exact ⟨l,_,_,_,rfl,rfl,cU.of (s3 _ _ hl),fD (N8 (by rw [told.len]; exact ln)),q H3 ans ((s1.trans s2).trans s3) told⟩
  ·refine .inr ⟨nn,b,sa,bad,fun eb H1 s1=>?_⟩;subst eb;obtain ⟨d,ds,st,jN⟩:=sa.good;refine ⟨_,rfl,x,g,rfl,gx.same s1,ok,fun H2 l ans s2 fl hl told=>?_⟩;have gx2:=(gx.same s1).same s2;have st2:=(st.same s1).same s2;obtain ⟨dx,lx,as,hx,_,_⟩:=id gx2;refine ⟨_,rfl,x,dx,_,rfl,hx,BP _ _ _ _ (by decide +kernel) (by decide +kernel) (by decide +kernel) (by decide +kernel),_,rfl,x,g,_,true,rfl,gx2,ok.pQ,ok.n8,st2.arg jN,(fun z=>nomatch z),fun _ d' ds' H3 sv Q6 s3=>?_⟩;obtain ⟨rfl,rfl⟩:=sv.one st2;obtain ⟨n,en,ln,_⟩:=mV ok Q6;rw [en];exact ⟨l,_,_,_,rfl,rfl,cU.of (s3 _ _ hl),fD (N8 (by rw [told.len]; exact ln)),good rfl d' ds' n H3 ans st Q6 en ln ((s1.trans s2).trans s3) told⟩
end
abbrev VF:dW:=inClass (top 39) 2
abbrev FP:dW:=inClass (top 39) 3
section
variable {a:gw} {lv:aA}
theorem Dm:qK je:=Ht vU (T8 vU)
theorem aac:qK o9:=Ht vU Dm
theorem mU.off {H:Hp} {as:List aA} {ps:List cL} (h:mU a H as ps):mU a (qp H) as ps:=Paired.gG h fun _ _ e=>e.imp fun _ z=>iz z (fun _ y=>by cases y)
theorem fW.off {H:Hp} {x:aA} {g:gB} (h:fW a H x g):fW a (qp H) x g:=by
 obtain ⟨dx,l,as,h1,h2,h3⟩:=h;exact ⟨dx,l,as,iz h1 (fun _ z=>by cases z),iz h2 (fun _ z=>by cases z),h3.off⟩
theorem sJ.off {H:Hp} {x:aA} {g:gB} {ans:nq} (h:sJ a lv H x g ans):sJ a lv (qp H) x g ans:=by
 obtain ⟨dx,y,l,h1,h2,h3⟩:=h;exact ⟨dx,y,l,iz h1 (fun _ z=>by cases z),h2.off,iz h3 (fun _ z=>by cases z)⟩
end
def Oa (g:gB):Option Int->Int
 | none=>sizeOf g.week g.pots
 | some k=>k
structure aiS (K:Fg) (mg:Str->Option aB) (a:gw) (dV:aB) (lv:aA) (cB:aA):Prop where
 V:Vx K mg a dV lv
 mx:mg "max"=none
 rank:∃ f fd,Fn K "rank" "Lives.rank" VF ["self","state"] f fd/\Meth K lv "rank" f
 best:∃ f fd,Fn K "best" "Lives.best" FP ["self","state"] f fd/\Meth K lv "best" f/\fd.code=.ref cB
section
variable {P:cC} {w:World} {K:Fg} {mg:Str->Option aB} {base:Heap} {a:gw} {dV:aB} {lv cB:aA}
def VG (a:gw) (lv:aA):Sp:=fun vs H Q _=>∃ x g ans v d ds n,vs=[.ref x,v]/\sJ a lv H x g ans/\uf g/\ans.length=fH g/\j8 H v d ds/\gK g.week g.pots d ds/\numOf d g.pots ds=((n:Nat):Int)/\∀ H',Same H H'->Q (.int (Oa g (ans.getD n none))) H'
theorem VH:bV ["self","state","days"] ["self","state"] (aW VF):=eO (by decide +kernel)
theorem aad {f:aA} {fd:fQ} (F:n6 K "rank" "Lives.rank" VF f fd) (Vt:Vx K mg a dV lv):cD P w K mg base (fL P w) 6 f fd ["self","state"] (VG a lv):=by
 refine F.mF VH (fun vs H Q E h=>?_) (fun cdv A outer s H vs Q E hr h=>?_)
 ·obtain ⟨x,g,ans,v,d,ds,n,rfl,_⟩:=h;rfl
 ·obtain ⟨x,g,ans,v,d,ds,n,rfl,la,ok,len,st,jN,en,q⟩:=h;have Z:=Vt.L.W.S.Z;obtain ⟨fd',dd,dF,hD⟩:=Vt.day;have okd:cD P w K mg base (fL P w) 5 fd' dd ["self","state"] (VB K a lv):=VD dF.F Vt;have hr1:d8 1 _:=hr.mono (by decide);refine ⟨_,aH (bM (i:=2) VH.nd rfl (Or.inl rfl) (kJ (pv 0) Vt.t.cl hD okd hr dF.b .nil bB (ao (pv 1) aK))) (aU (cj (uY (cN tE (pv 2) ji (dz _)) (oN (fG (pv 0) rfl) Z.tG.cl Z.Np (zj Z) hr1 Z.size.b .nil bB) (pv 2)))),?_⟩;obtain ⟨dx,y,l,hx,gy,hl⟩:=id la;refine ⟨_,rfl,x,dx,_,rfl,hx,K6 _ _ (by decide +kernel) (by decide +kernel),_,rfl,x,g,ans,v,true,rfl,la,ok,len,st.arg jN,(fun z=>nomatch z),fun _ d' ds' n' H1 sv Q6 en' ln s1=>?_⟩;obtain ⟨rfl,rfl⟩:=sv.one st;have e:n'=n:=by
   rw [en] at en';omega
  subst e;obtain ⟨dy,ly,as,hy,hly,pty⟩:=gy.same s1;refine ⟨_,rfl,rfl,_,rfl,?_⟩;cases ea:ans.getD n' none with
  | none =>
   rw [show decide (iV (none:Option Int)=V.non)=true from aM rfl];refine eE ⟨_,rfl,x,lv,dx,_,_,rfl,s1 _ _ hx,Vt.t.cl,Vt.n _ (by simp),Vy ..,y,dy,_,rfl,hy,BP _ _ _ _ (by decide +kernel) (by decide +kernel) (by decide +kernel) (by decide +kernel),y,dy,ly,as,g.pots,_,g.week,_,rfl,hy,cU.of hly,pty,ok.pQ,?_⟩;have:=q H1 s1;rw [ea] at this;exact this
  | some k =>
   rw [show decide (iV (some k)=V.non)=false from aL (fun z=>nomatch z)];refine d9 ⟨_,rfl,?_⟩;have:=q H1 s1;rw [ea] at this;exact this
def ROf {α:Type} (R:Rep α):Rep (Option α):=fun H v o=>match o with
 | none=>v=.non
 | some c=>R H v c
def wB (g:gB) (ans:nq) (c:Int × Int × List Int):Int:=Oa g (ans.getD (numOf c.2.1 g.pots c.2.2).toNat none)
abbrev jR:Str:="Lives.best.<locals>.<lambda>"
abbrev jo:Pos:=match gq FP with
 | [.Return (some (.Call _ _ (⟨_,.Lambda _ _ _ p,_⟩::_) _)) _]=>p
 | _=>⟨0,0,0,0⟩
theorem Q7 {H:Hp} {v:V} {c:Int × List Int} (h:je H v c):j8 H v c.1 c.2:=by
 obtain ⟨t,u,w,rfl,ht,rfl,t',vs,rfl,ht',p⟩:=h;rw [zq p] at ht';exact ⟨t,t',rfl,ht,ht'⟩
noncomputable def Aw (K:Fg) (a:gw) (lv PB:aA):Sp:=fun vs H Q E=>∃ x g ans v b,vs=[.ref x,v]/\sJ a lv H x g ans/\uf g/\ans.length=fH g/\jV PB jo jR H/\jM K H g.week g.pots v b/\(b=false->∀ H',Same H H'->E (.ref a.c7) none H') /\ (b=true->∀ d ds H' u o,j8 H v d ds->gK g.week g.pots d ds->jw PB H H'->jV PB jo jR H'->zW (jl g d ds) (wB g ans) o->ROf o9 H' u o->Q u H')
theorem aiT:bV ["self","state"] ["self","state"] (aW FP):=eO (by decide +kernel)
theorem aae {f PB:aA} {fd:fQ} (F:n6 K "best" "Lives.best" FP f fd) (T:aiS K mg a dV lv cB) (hcd:fd.code=.ref cB) (C:CodeHd base cB PB) (hB:base.BuiltinsAt mg PB):cD P w K mg base (fL P w) 9 f fd ["self","state"] (Aw K a lv PB):=by
 refine F.Px hcd aiT (fun vs H Q E h=>?_) (fun A outer s H vs Q E hr h=>?_)
 ·obtain ⟨x,g,ans,v,b,rfl,_⟩:=h;rfl
 ·obtain ⟨x,g,ans,v,b,rfl,la,ok,len,lt,sa,bad,good⟩:=h;have Vt:=T.V;have W:=Vt.L.W;obtain ⟨fc,dc,cF,mC⟩:=W.cho;obtain ⟨fr,dr,rF,hR⟩:=T.rank;have yO:cD P w K mg base (fL P w) 4 fc dc ["garden","state"] (Vd K a):=Ve cF.F W;have QZ:cD P w K mg base (fL P w) 6 fr dr ["self","state"] (VG a lv):=aad rF.F Vt;have Q5:d8 4 _:=hr.mono (by decide);have hr8:d8 8 _:=hr.mono (by decide);refine ⟨_,aU (cj (Qi (c:=cB) (P:=PB) (qual:=jR) (x:="pair") (N':=["self"]) (cap:=[some 0]) (cl:=[("self",s.heap.objs.size + 1)]) rfl T.mx (ao (dI yO Q5 mC cF.F.kp cF.b (cV bW) (ao (fG (pv 0) rfl) (ao (pv 1) aK))) aK) rfl rfl C hB rfl (show (Str.ofString "Lives.best"++".<locals>."++"<lambda>":Str)=jR from by decide +kernel) (CP.one rfl rfl rfl (by decide +kernel) rfl rfl rfl rfl (by decide +kernel) rfl) (fun f' cd' s₀ H₀ E'=>kJ (pv 1) Vt.t.cl hR QZ ((hr8.in1).deeper _) rF.b .nil bB (ao (dh (zc K) (pv 0) aV (fun _ _=>rfl)) aK)) (by have h9:=hr.dp; change (A.deeper _).depth < _; omega) (fun pm c' ctv u=>rfl))),?_⟩;obtain ⟨dx,y,l,hx,gy,hl⟩:=id la;refine ⟨_,rfl,x,lv,dx,_,_,rfl,hx,Vt.t.cl,Vt.n _ (by simp),Vy ..,_,rfl,y,g,v,b,rfl,gy,ok.w0,ok.c0,ok.n8,sa,bad,fun eb d ds H1 lc sv jN fl s1 rl=>?_⟩;obtain ⟨_,us,e,hlc,pu⟩:=rl;cases e;have YQ:=lt.same s1;refine ⟨lc,us,fun j=>match (jl g d ds)[j]? with | some c=>wB g ans c | none=>0,rfl,cU.of hlc,YQ,fun H2 c' b2 Em hc'=>?_⟩;have sT:=b2.lam YQ;have la2:sJ a lv H2 x g ans:=((la.same s1).off.same sT).same dR;have aAG:H2 lc=some (.lst us):=dR _ _ (sT _ _ (iz hlc (fun _ z=>by cases z)));have pu2:Paired (o9 H2) us (jl g d ds):=Paired.gG pu fun _ _ z=>iC.same (iC.same (aac.of z) sT) dR
  refine ⟨fun _ H'=>Same H2 H',fun _ _ z=>z,fun j H' s3=>cU.of (s3 _ _ aAG),fun j H' s3=>s3 _ _ hc',fun j u H' hu s3=>?_,fun eu H' s3=>?_,fun H' i u s3 hu mx=>?_⟩
  ·obtain ⟨c,hcj,rc⟩:=dB pu2 hu;obtain ⟨t0,u0,w0,rfl,ht0,e0,rs⟩:=id rc;obtain ⟨dx3,y3,l3,ZC,_,_⟩:=id (la2.same s3);have FQ:=ug ok jN (aP hcj);obtain ⟨n,en,ln,_⟩:=mV ok FQ;refine ⟨_,rfl,x,dx3,_,rfl,ZC,K6 _ _ (by decide +kernel) (by decide +kernel),_,rfl,t0,_,_,w0,rfl,rfl,fj.of (s3 _ _ ht0),rfl,x,g,ans,w0,c.2.1,c.2.2,n,rfl,la2.same s3,ok,len,(Q7 rs).same s3,FQ,en,fun H4 s4=>⟨?_,s3.trans s4⟩⟩;dsimp only;rw [hcj]
   show V.int (Oa g (ans.getD n none))=.int (Oa g (ans.getD (numOf c.2.1 g.pots c.2.2).toNat none))
   rw [en];rfl
  ·have ec:jl g d ds=[]:=by
    cases hh:jl g d ds with
    | nil=>rfl
    | cons c cs =>
     rw [eu,hh] at pu2;cases pu2
   exact good eb d ds H' .non none sv jN ((s1.but.trans b2).trans s3.but) (Em.same s3) (.inl ⟨ec,rfl⟩) rfl
  ·obtain ⟨c,hci,rc⟩:=dB pu2 hu;refine good eb d ds H' u (some c) sv jN ((s1.but.trans b2).trans s3.but) (Em.same s3) (.inr ⟨i,c,hci,rfl,fun j c' hj=>?_⟩) (iC.same rc s3);have ll:us.length=(jl g d ds).length:=Paired.length pu2;have:=mx j (by rw [ll]; exact (aF.mp hj).1);dsimp only at this;rw [hj,hci] at this;exact this
end
abbrev pA:dW:=top 42
abbrev kY:dW:=top 43
def iK (ns:List Str) (c:Int):List Str:=((List.range ns.length).filter fun k:Nat=>iQ c (k:Int)).map fun k=>ns.getD k ""
def gA (g:gB):List Str:=g.pots.map (·.nm)
section
variable {P:cC} {w:World} {K:Fg} {mg:Str->Option aB} {base:Heap} {a:gw} {dV:aB}
def Ob (a:gw):Sp:=fun vs H Q _=>∃ x g c,vs=[.ref x,.int c]/\fW a H x g/\g.pots.length<=8/\∀ H' l,Same H H'->H l=none->H' l=some (.lst ((iK (gA g) c).map V.str))->Q (.ref l) H'
theorem aag:bV ["garden","choice"] ["garden","choice"] (aW pA):=eO (by decide +kernel)
theorem VJ {f:aA} {fd:fQ} (F:n6 K "names_in" "names_in" pA f fd) (L:Vo K mg a dV):cD P w K mg base (fL P w) 2 f fd ["garden","choice"] (Ob a):=by
 refine F.mF aag (fun vs H Q E h=>?_) (fun cdv A outer s H vs Q E hr h=>?_)
 ·obtain ⟨x,g,c,rfl,_⟩:=h;rfl
 ·obtain ⟨x,g,c,rfl,gx,n8,q⟩:=h;have T:=L.W.S.Z.G.T;have Z:=L.W.S.Z;obtain ⟨fi,di,iF,mI⟩:=L.W.aqe;have ZV:cD P w K mg base (fL P w) 1 fi di ["number","bit"] Fy:=Ig iF.F;have kI:=iF.F.kp;have bI:=iF.b;have nd3:[("place":Str),"pot","choice"].Nodup:=by decide +kernel
  refine ⟨_,aU (cj (jg bW rfl ⟨_,_,rfl,rfl,rfl⟩ (iY (N':=["place","pot","choice"]) (cl:=[("choice",s.heap.objs.size + 1)]) [none,none,some 1] ["garden","choice"] (aW pA).names [(".0",.local),("place",.local),("pot",.local),("is_set",.globalImplicit),("choice",.cell)] ["choice"] rfl (by decide +kernel) (by decide +kernel) rfl (fun p hp=>by rw [aC.mp hp]; rfl) rfl rfl rfl rfl (by decide +kernel) rfl (by decide +kernel)) (yZ (by rfl) L.en (ao (fG (pv 0) rfl) aK)) (fun _ _ _ _ _=>yE K (n:=2) rfl (cg (cZ 0 nd3) (cg (cZ 1 nd3) gM))) (fun _ _ _ _ _=>vo (gQ (dI ZV hr mI kI bI bB (ao (pv 2) (ao (pv 0) aK))))) (fun _ _ _ _ _ _=>M4 K (pv 1) rfl))),?_⟩;obtain ⟨dx,l,as,hx,hl,pt⟩:=id gx;have big:1000<=sizeLine:=by decide
  have lp:as.length=g.pots.length:=Paired.length pt;have ln:(gA g).length=g.pots.length:=by rw [gA,ak]
  refine ⟨_,rfl,x,a.garden,dx,_,_,rfl,hx,Z.tG.cl,Z.nG _ (by simp),ou ..,l,_,rfl,cU.of hl,fun D hD=>?_⟩;refine vA g.pots.length (by omega) (fun i acc H'=>acc=(((List.range i).filter fun k:Nat=>iQ c (k:Int)).map fun k=>(gA g).getD k "").map V.str/\Same H H'/\H' D=some (.lst acc)) ⟨rfl,aY hD,aD⟩ (fun i acc H' le ⟨e,_,e'⟩=>⟨by rw [e,ak,ak]; exact bJ (length_filter_le _ _) (by rw [bw]; exact aO _),e'⟩) ?_ ?_
  ·rintro acc H' ⟨rfl,s',e⟩;refine ⟨⟨_,cU.of (s' _ _ hl),by rw [ak]; omega⟩,q H' D s' hD ?_⟩;rw [e,iK,ln]
  ·rintro i acc H' lt ⟨rfl,s',e⟩;have hp:g.pots[i]?=some g.pots[i]:=aG lt;have lti:i < as.length:=by omega
   have hai:as[i]?=some as[i]:=aG lti;obtain ⟨p,hp',⟨dp,hat⟩⟩:=dB pt hai;have ep:(gA g).getD i ""=p.nm:=by
    simp only [gA,getD,aJ,hp'];rfl
   have hxi:(as.map V.ref)[i]?=some (.ref as[i]):=by rw [aJ,hai]; rfl
   have sq:cU K H' l (as.map V.ref):=cU.of (s' _ _ hl);refine ⟨⟨_,_,sq,hxi⟩,?_⟩;rintro y yp ⟨t2,Nu,rfl,hu⟩ Qc Qn k kn;have e2:=hu _ _ sq hxi;subst e2;have v2:=aY (o:=.tup [V.int ((i:Nat):Int),.ref as[i]]) Nu;have e3:=v2 _ _ e;have cT:=T.cls p.j7;refine ⟨t2,_,rfl,fj.of aD,rfl,_,_,rfl,_,_,rfl,rfl,Al,_,rfl,_,rfl,c,((i:Nat):Int),rfl,Int.natCast_nonneg i,_,rfl,?_⟩;cases z:iQ c ((i:Nat):Int) with
   | true =>
    refine eE ⟨_,rfl,as[i],p.cls a,dp,_,_,rfl,v2 _ _ (s' _ _ hat),cT.1.cl,cT.2 _ (by simp),p.Fq,k _ _ e3 ⟨?_,fY (s'.trans v2) hD,aD⟩⟩;rw [bY,cG];have ef:([i]:List Nat).filter (fun k:Nat=>iQ c (k:Int))=[i]:=by simp [z]
    rw [ef,aZ,aZ,cY,ep];rfl
   | false =>
    refine d9 (kn _ ⟨?_,s'.trans v2,e3⟩);rw [bY,cG];simp [z]
end
structure aah (K:Fg) (mg:Str->Option aB) (a:gw) (dV:aB) (lv cB:aA):Prop where
 B:aiS K mg a dV lv cB
 E:aiQ K mg a dV
 nin:∃ f fd,Fn K "names_in" "names_in" pA ["garden","choice"] f fd/\mg "names_in"=some (.ref f)
 rof:∃ f fd dv,yQ K "rounds_of" "rounds_of" kY dv f fd/\Binds K fd ["garden","state"] []/\Binds K fd ["garden","state"] [.none]/\mg "rounds_of"=some (.ref f)
def bF (g:gB) (ans:nq) (s:NK):Option (Int × NK):=yu (wB g ans) (jl g s.1 s.2)
def abK (H H':Hp) (ns:List Str) (rows:List aA) (cs:List Int):Prop:=Paired (fun r c=>H r=none/\H' r=some (.lst ((iK ns c).map V.str))) rows cs
def VL (H:Hp) (t:aA) (rows:List aA):Option Nat->Prop
 | none=>∃ l,H t=some (.tup [.ref l,.non])/\H l=some (.lst (rows.map V.ref))
 | some j=>∃ l1 l2,H t=some (.tup [.ref l1,.ref l2])/\H l1=some (.lst ((rows.take j).map V.ref))/\H l2=some (.lst ((rows.drop j).map V.ref))
theorem dN.off {H:Hp} {k:NK} {b:aA} (h:dN H k b):dN (qp H) k b:=by
 obtain ⟨s,h1,h2⟩:=h;exact ⟨s,iz h1 (fun _ z=>by cases z),iz h2 (fun _ z=>by cases z)⟩
theorem dN.upd {H:Hp} {k:NK} {b D:aA} {o o':HO} (h:dN H k b) (hD:H D=some o) (no:∀ xs,HO.tup xs≠o):dN (L2.upd H D o') k b:=by
 obtain ⟨s,h1,h2⟩:=h;exact ⟨s,by rw [bf (jX h1 hD (no _))]; exact h1,by rw [bf (jX h2 hD (no _))]; exact h2⟩
section
variable {P:cC} {w:World} {K:Fg} {mg:Str->Option aB} {base:Heap} {a:gw} {dV:aB} {lv cB:aA}
noncomputable def Ax (K:Fg) (a:gw) (PB:aA):Sp:=fun vs H Q E=>∃ x g v,vs=[.ref x,v]/\fW a H x g/\Ij g/\jV PB jo jR H/\∃ done:NK->Prop,(∀ s0,done s0->∀ H' t ans cs o rows,jw PB H H'->jV PB jo jR H'->Told (fH g) (j4 g) ans->o7 (bF g ans) (fH g + 1) s0 [] []=(cs,o)->cs.length<=fH g->abK H H' (gA g) rows cs->VL H' t rows o->Q (.ref t) H') /\ ((v=.non/\done (0,List.replicate g.pots.length 0))\/(v≠.non/\∃ b,jM K H g.week g.pots v b/\(b=false->∀ H',Same H H'->E (.ref a.c7) none H')/\(b=true->∀ d ds,j8 H v d ds->gK g.week g.pots d ds->done (d,ds))))
theorem qR {H:Hp} {v:V} {c:NK} (h:je H v c):∃ t,v=.ref t/\dN H c t:=by
 obtain ⟨t,u,w,rfl,ht,rfl,t',vs,rfl,ht',p⟩:=h;rw [zq p] at ht';exact ⟨t,rfl,t',ht,ht'⟩
theorem aai {H:Hp} {Q:VK} {E:XK} {x:aA} {g:gB} {v:V} {done:NK->Prop} (gx:fW a H x g) (ok:uf g) (h:(v=.non/\done (0,List.replicate g.pots.length 0))\/(v≠.non/\∃ b,jM K H g.week g.pots v b/\(b=false->∀ H',Same H H'->E (.ref a.c7) none H')/\(b=true->∀ d ds,j8 H v d ds->gK g.week g.pots d ds->done (d,ds)))) (k:∀ H1 t (s0:NK),Same H H1->dN H1 s0 t->gK g.week g.pots s0.1 s0.2->done s0->Q (.ref t) H1):FN K a [.ref x,v] H Q E:=by
 refine ⟨x,g,v,rfl,gx,ok.n8,?_⟩;rcases h with ⟨rfl,dn⟩ | ⟨nn,b,sa,bad,dn⟩
 ·refine .inl ⟨rfl,fun H1 t s1 st=>?_⟩;obtain ⟨_,u,e,h1,h2⟩:=st;cases e;exact k H1 t (0,List.replicate g.pots.length 0) s1 ⟨u,h1,h2⟩ (Av ok) dn
 ·refine .inr ⟨nn,b,sa,bad,fun eb H1 s1=>?_⟩;subst eb;obtain ⟨d,ds,st,jN⟩:=sa.good;obtain ⟨t,u,rfl,h1,h2⟩:=id st;exact k H1 t (d,ds) s1 ⟨u,s1 _ _ h1,s1 _ _ h2⟩ jN (dn rfl d ds st jN)
theorem FT {PB:aA} {H:Hp} {Q:VK} {E:XK} {x t:aA} {g:gB} {ans:nq} {s:NK} (la:sJ a lv H x g ans) (ok:uf g) (len:ans.length=fH g) (lt:jV PB jo jR H) (nv:dN H s t) (jN:gK g.week g.pots s.1 s.2) (k:∀ H' fv,jw PB H H'->jV PB jo jR H'->ROf o9 H' fv (bF g ans s)->Q fv H'):Aw K a lv PB [.ref x,.ref t] H Q E:=by
 refine ⟨x,g,ans,.ref t,true,rfl,la,ok,len,lt,(iD nv).arg jN,(fun z=>nomatch z),fun _ d ds H' u o sv Q6 bp lt' ib ro=>?_⟩;obtain ⟨rfl,rfl⟩:=sv.one (iD nv);have e:bF g ans s=o:=(pN _ _).one ib;exact k H' u bp lt' (by rw [e]; exact ro)
noncomputable def RI (P:cC) (w:World) (PB:aA) (Hs:Hp) (x xl lD lS:aA) (g:gB) (ans:nq) (s0:NK) (v:V) (i:Nat) (σ:St) (H':Hp):Prop:=∃ (t:aA) (fv:V) (u7:Option V) (s:NK) (met:List NK) (cs:List Int) (rows:List aA) (ks:List nH),σ=[some (.ref x),some v,some (.ref t),some (.ref xl),some (.ref lD),some (.ref lS),some fv,u7]/\jw PB Hs H'/\jV PB jo jR H'/\H' lD=some (.lst (rows.map V.ref))/\H' lS=some (iu P w lS ks) /\ Paired (fun r c=>Hs r=none/\r≠lD/\H' r=some (.lst ((iK (gA g) c).map V.str))) rows cs/\ks.map (·.1)=met/\(∀ r ∈ ks,dN H' r.1 r.2.1)/\(∀ (k:Nat) r,ks[k]?=some r->r.2.2=.int (k:Int))/\met.Nodup/\(∀ s ∈ met,gK g.week g.pots s.1 s.2)/\(∀ s ∈ met,bF g ans s≠none)/\met.length=i/\cs.length=i /\ dN H' s t/\gK g.week g.pots s.1 s.2/\ROf o9 H' fv (bF g ans s)/\o7 (bF g ans) (fH g + 1 - i) s met cs=o7 (bF g ans) (fH g + 1) s0 [] []
theorem Ay {g:gB} (ok:uf g) {met:List NK} (nd:met.Nodup) (h:∀ s ∈ met,gK g.week g.pots s.1 s.2):met.length<=fH g:=by
 refine Kw (fun s:NK=>(numOf s.1 g.pots s.2).toNat) (fun n=>stN g n) nd fun s hs=>?_
 obtain ⟨t,e,lt,es⟩:=mV ok (h s hs)
 show (numOf s.1 g.pots s.2).toNat < fH g/\stN g (numOf s.1 g.pots s.2).toNat=s
 rw [e];exact ⟨lt,es⟩
theorem aiU {n j:Nat} (h:j<=n):HT.yU n n (some (j:Int))=j:=by
 rw [HT.Ec];omega
theorem aiV {n j:Nat} (h:j<=n):HT.yU n 0 (some (j:Int))=j:=by
 rw [HT.Ec];omega
theorem Ip {xs:List V} {j:Nat} (h:j<=xs.length):qx xs none (some (j:Int))=xs.take j:=by
 unfold qx;rw [aiU h];simp [HT.yU]
theorem Ir {xs:List V} {j:Nat} (h:j<=xs.length):qx xs (some (j:Int)) none=xs.drop j:=by
 unfold qx;rw [aiV h];simp [HT.yU,List.take_of_length_le]
abbrev aAH:List Str:=["garden","state","here","lives","days","seen","found","first"]
theorem jT:bV aAH ["garden","state"] (aW kY):=eO (by decide +kernel)
theorem Q8 {f PB:aA} {fd:fQ} {dv:aB} (F:yQ K "rounds_of" "rounds_of" kY dv f fd) (X:aah K mg a dV lv cB) {fb:aA} {db:fQ} (bF':Fn K "best" "Lives.best" FP ["self","state"] fb db) (hB':Meth K lv "best" fb) (okb:cD P w K mg base (fL P w) 9 fb db ["self","state"] (Aw K a lv PB)):cD P w K mg base (fL P w) 12 f fd ["garden","state"] (Ax K a PB):=by
 refine F.mF jT (fun vs H Q E h=>?_) (fun cdv A outer s H vs Q E hr h=>?_)
 ·obtain ⟨x,g,v,rfl,_⟩:=h;rfl
 ·obtain ⟨x,g,v,rfl,gx,good,lt,done,fin,h⟩:=h;have Vt:=X.B.V;have S:=Vt.L.W.S;have B:=S.Z.G.T.B;obtain ⟨fi,di,iF,mk⟩:=Vt.ini;obtain ⟨ff,df,fF,hF⟩:=X.E.fre;obtain ⟨ft,dt,tF,mT⟩:=X.E.to;obtain ⟨fn,dn,nF,mN⟩:=X.nin;have ZV:cD P w K mg base (fL P w) 10 fi di ["self","garden"] (N6 a lv):=Vz iF.F Vt;have okt:cD P w K mg base (fL P w) 4 ft dt ["garden","state"] (FN K a):=N7 tF.F S fF hF;have okn:cD P w K mg base (fL P w) 2 fn dn ["garden","choice"] (Ob a):=VJ nF.F Vt.L;have Q5:d8 4 _:=hr.mono (by decide);have hr2:d8 2 _:=hr.mono (by decide);have hr9:d8 9 _:=hr.mono (by decide);refine ⟨_,aH (bM (i:=2) jT.nd rfl (Or.inl rfl) (dI okt Q5 mT tF.F.kp tF.b (cV bW) (ao (pv 0) (ao (pv 1) aK)))) (aH (bM (i:=3) jT.nd rfl (Or.inl rfl) (yq mk ZV hr Vt.m iF.b bB (ao (pv 0) aK))) (aH (bM (i:=4) jT.nd rfl (Or.inl rfl) (fZ aK)) (aH (bM (i:=5) jT.nd rfl (Or.inl rfl) (Tn P w)) (aH (bM (i:=6) jT.nd rfl (Or.inl rfl) (kJ (pv 3) Vt.t.cl hB' okb hr9 bF'.b .nil bB (ao (pv 2) aK))) (aH (zy dY (pw_and (cN Ea (pv 6) ji (dz _)) (pw_and1 (cN (P0 P w hr.units) (pv 2) (pv 5) rfl))).pt (aH (DW (ig dJ B.len PySem.boot_len (ao (pv 4) aK)) (Rv (pv 5) (pv 2) (Qa P w hr.units))) (aH (fu (lH PySem.F.plainAttrs_list PySem.F.slot_list_append PySem.F.type_list_append fX (pv 4) (ao (dI okn hr2 mN nF.F.kp nF.b bB (ao (pv 0) (ao (dh dM (pv 6) aV (fun _ _=>rfl)) aK))) aK))) (aH (bM (i:=2) jT.nd rfl (Or.inl rfl) (dh dM (pv 6) aV (fun _ _=>rfl))) (aU (bM (i:=6) jT.nd rfl (Or.inl rfl) (kJ (pv 3) Vt.t.cl hB' okb hr9 bF'.b .nil bB (ao (pv 2) aK)))))))) (aH (eV (cN tE (pv 6) ji (dz _)) (aU (cj (fJ (ao (pv 4) (ao ji aK))))) cX) (aH (bM (i:=7) jT.nd rfl (Or.inl rfl) (dh (Tt P w hr.units) (pv 5) (pv 2) (fun _ _=>rfl))) (aU (cj (fJ (ao (qw vg (pv 4) yV (rJ (pv 7))) (ao (qw vg (pv 4) (rJ (pv 7)) yV) aK)))))))))))),?_⟩;have ok:=good.ok;have small:=ok.small;have big:20000 * 257<=sizeLine:=by decide
  refine ⟨_,rfl,_,rfl,nJ (aai gx ok h (fun H1 t s0 s1 nv jN dn=>?_))⟩;refine ⟨_,rfl,nJ (Ik (gx.same s1) good (fun xl Hs ans hx s2 la told=>?_))⟩;have len:ans.length=fH g:=told.len;have s12:=s1.trans s2;have ltS:=lt.same s12;have gxS:=gx.same s12;have nvS:=nv.same s2;have at_:∀ H',jw PB Hs H'->sJ a lv H' xl g ans/\fW a H' x g:=fun H' b=>⟨(la.off.same (b.lam ltS)).same dR,(gxS.off.same (b.lam ltS)).same dR⟩
  refine ⟨by show 0<=sizeLine; decide,fun lD hlD=>?_⟩;intro lS hlS;have nDS:lS≠lD:=fun z=>by rw [z,aD] at hlS; cases hlS
  have fS:Hs lS=none:=by rw [bf nDS] at hlS; exact hlS
  have vD:=aY (o:=.lst []) hlD;have vS:=aY (o:=iu P w lS []) hlS;have sA:=vD.trans vS;have hD0:=vS _ _ (aD (H:=Hs) (a:=lD) (o:=.lst []));have hS0:L2.upd (L2.upd Hs lD (.lst [])) lS (iu P w lS []) lS=some (iu P w lS []):=aD;generalize L2.upd (L2.upd Hs lD (.lst [])) lS (iu P w lS [])=H2 at sA hD0 hS0 ⊢;obtain ⟨la2,gx2⟩:=at_ H2 sA.but;obtain ⟨dxl,yl,ll,hxl,_,_⟩:=id la2;refine ⟨_,rfl,xl,dxl,_,rfl,hxl,K6 _ _ (by decide +kernel) (by decide +kernel),_,rfl,nJ (FT la2 ok len (ltS.same sA) (nvS.same sA) jN (fun H3 fv b3 lt3 rf=>?_))⟩;have nPD:∀ {H':Hp},jV PB jo jR H'->∀ {b u},H' b=some u->(∀ ps,HO.yd ps≠u)->b≠PB:=fun l b u hb n z=>by
   obtain ⟨ps,hp,_⟩:=l;rw [z,hp] at hb;exact n ps (bQ hb)
  have sT:=b3.lam (ltS.same sA);have nP:∀ {b u},H2 b=some u->(∀ ps,u≠HO.yd ps)->H3 b=some u:=fun hb n=>dR _ _ (sT _ _ (iz hb n))
  refine ⟨fun m σ H'=>∃ i,m=fH g + 1 - i/\RI P w PB Hs x xl lD lS g ans s0 v i σ H',⟨_,0,rfl,t,fv,none,s0,[],[],[],[],rfl,sA.but.trans b3,lt3,nP hD0 (fun _ z=>by cases z),nP hS0 (fun _ z=>by cases z),.nil,rfl,(fun r hr=>by simp at hr),(fun k r hr=>by simp at hr),nodup_nil,(fun s hs=>by simp at hs),(fun s hs=>by simp at hs),rfl,rfl,((dN.off (nvS.same sA)).same sT).same dR,jN,rf,rfl⟩,?_⟩;rintro m σ H4 ⟨i,rfl,t4,fv4,u7,s4,met,cs,rows,ks,rfl,b4,lt4,hD,hS,pr,ekm,kn,kv,nd,mok,mb,lm,lc,nv4,aqu,rf4,due⟩;have li:i<=fH g:=by rw [<- lm]; exact Ay ok nd mok
  have lr:rows.length=i:=by rw [Paired.length pr,lc]
  rw [show fH g + 1 - i=(fH g - i) + 1 by omega] at due;have aAJ:(ks.any fun r=>decide (r.1=s4))=decide (s4 ∈ met):=by
   rw [<- ekm]
   by_cases z:s4 ∈ ks.map (·.1)
   ·obtain ⟨r,hr,e⟩:=bx.mp z;rw [aM z];exact List.any_eq_true.mpr ⟨r,hr,aM e⟩
   ·rw [aL z];exact List.any_eq_false.mpr fun r hr e=>z (bx.mpr ⟨r,hr,of_decide_eq_true e⟩)
  have bH:jw PB H H4:=s12.but.trans b4;refine ⟨_,rfl,rfl,_,rfl,?_⟩;cases eb:bF g ans s4 with
  | none =>
   rw [eb] at rf4;have e4:fv4=.non:=rf4;subst e4;have nm:s4 ∉ met:=fun z=>mb s4 z eb
   rw [Fb nm eb] at due;refine d9 (d9 ⟨_,rfl,rfl,_,rfl,eE ⟨_,rfl,by show 2<=sizeLine; decide,fun tt htt=>?_⟩⟩);have vt:=aY (o:=.tup [.ref lD,.non]) htt;exact fin s0 dn _ tt ans cs none rows (bH.trans vt.but) (lt4.same vt) told due.symm (by omega) (Paired.gG pr fun r c z=>⟨s12.free z.1,vt _ _ z.2.2⟩) ⟨lD,aD,vt _ _ hD⟩
  | some c =>
   rw [eb] at rf4;obtain ⟨tf,u0,w',rfl,htf,e0,rs⟩:=id (show o9 H4 fv4 c from rf4);have e0':u0=.int c.1:=e0;subst e0';have dec:decide (V.ref tf=V.non)=false:=aL (fun z=>by cases z);rw [dec];refine eE ⟨_,rfl,_,rfl,lS,ks,t4,s4,rfl,rfl,hS,kn,nv4,_,rfl,?_⟩;rw [aAJ]
   by_cases z:s4 ∈ met
   ·
    rw [aM z];obtain ⟨j,hj,_,dj⟩:=wR (B:=bF g ans) z;rw [dj] at due;have lj:j < met.length:=(aF.mp hj).1;rw [<- ekm,aJ] at hj;obtain ⟨r,hr',er⟩:=bh.mp hj;have ev:=kv _ r hr';refine d9 ⟨_,rfl,rfl,_,rfl,?_⟩;rw [dec];refine d9 ⟨_,rfl,_,rfl,lS,ks,t4,s4,j,r,rfl,rfl,hS,kn,nv4,hr',er,?_⟩;rw [ev];have lx:j<=(rows.map V.ref).length:=by rw [ak]; omega
    refine ⟨_,rfl,_,rfl,_,rfl,lD,_,rfl,cU.of hD,fun l1 hl1=>?_⟩;rw [Ip lx];have v1:=aY (o:=.lst ((rows.map V.ref).take (j))) hl1;refine ⟨_,rfl,_,rfl,_,rfl,lD,_,rfl,cU.of (v1 _ _ hD),fun l2 hl2=>?_⟩;rw [Ir lx];have v2:=aY (o:=.lst ((rows.map V.ref).drop (j))) hl2;refine ⟨by show 2<=sizeLine; decide,fun tt htt=>?_⟩;have vt:=aY (o:=.tup [.ref l1,.ref l2]) htt;have vv:=(v1.trans v2).trans vt;refine fin s0 dn _ tt ans cs (some (j)) rows (bH.trans vv.but) (lt4.same vv) told due.symm (by omega) (Paired.gG pr fun r c z=>⟨s12.free z.1,vv _ _ z.2.2⟩) ⟨l1,l2,aD,?_,?_⟩
    ·rw [map_take];exact vt _ _ (v2 _ _ aD)
    ·rw [map_drop];exact vt _ _ aD
   ·
    rw [aL z];rw [Fd z eb] at due;have lk:ks.length=i:=by rw [<- lm,<- ekm,ak]
    obtain ⟨tw,rfl,nw⟩:=qR rs;have nd':(met++[s4]).Nodup:=nodup_append.mpr ⟨nd,by simp,fun b hb b' hb' e=>by
     rw [aC] at hb';subst hb';subst e;exact z hb⟩
    have VN:∀ s ∈ met++[s4],gK g.week g.pots s.1 s.2:=fun s hs=>by
     rcases cM.mp hs with h | h
     ·exact mok s h
     ·rw [aC.mp h]; exact aqu
    have mb':∀ s ∈ met++[s4],bF g ans s≠none:=fun s hs=>by
     rcases cM.mp hs with h | h
     ·exact mb s h
     ·rw [aC.mp h,eb]; exact fun y=>by cases y
    have li':=Ay ok nd' VN;rw [aQ,lm] at li';have YX:i + 1<=fH g:=li';have aak:gK g.week g.pots c.2.1 c.2.2:=ug ok aqu (zX eb);have kv':∀ (k:Nat) r,(ks++[(s4,t4,V.int ((rows.map V.ref).length:Int))])[k]?=some r->r.2.2=.int (k:Int):=fun k r hk=>by
     by_cases lt:k < ks.length
     ·rw [List.getElem?_append_left lt] at hk;exact kv k r hk
     ·rw [List.getElem?_append_right (by omega)] at hk;obtain ⟨e1,e2⟩:=aF.mp hk;have ek:k=ks.length:=by simp at e1; omega
      subst ek;simp at e2;rw [<- e2]
      show V.int _=V.int _
      rw [lr,lk]
    have nSt:∀ xs,HO.tup xs≠iu P w lS ks:=fun _ y=>by cases y
    have nSl:∀ xs,HO.lst xs≠iu P w lS ks:=fun _ y=>by cases y
    refine eE ⟨fun σ' H'=>∃ m',m' < fH g + 1 - i/\∃ i',m'=fH g + 1 - i'/\RI P w PB Hs x xl lD lS g ans s0 v i' σ' H',fun _ _ h=>h,?_⟩;refine ⟨_,rfl,lD,_,rfl,.inl (cU.of hD),_,rfl,_,rfl,lS,ks,t4,s4,rfl,rfl,hS,kn,nv4,(fun r hr e=>z (by rw [<- ekm]; exact bx.mpr ⟨r,hr,e⟩)),by omega,?_⟩;have b5:=b4.upd (o:=iu P w lS (ks++[(s4,t4,.int ((rows.map V.ref).length:Int))])) fS;have lt5:=lt4.upd (o:=iu P w lS (ks++[(s4,t4,.int ((rows.map V.ref).length:Int))])) hS (fun _ y=>by cases y) Qx;have hD5:L2.upd H4 lS (iu P w lS (ks++[(s4,t4,.int ((rows.map V.ref).length:Int))])) lD=some (.lst (rows.map V.ref)):=by rw [bf (jX hD hS (nSl _))]; exact hD
    have FW:L2.upd H4 lS (iu P w lS (ks++[(s4,t4,.int ((rows.map V.ref).length:Int))])) tf=some (.tup [.int c.1,.ref tw]):=by rw [bf (jX htf hS (nSt _))]; exact htf
    have hS5:L2.upd H4 lS (iu P w lS (ks++[(s4,t4,.int ((rows.map V.ref).length:Int))])) lS=some (iu P w lS (ks++[(s4,t4,.int ((rows.map V.ref).length:Int))])):=aD;have kn5:∀ r ∈ ks++[(s4,t4,V.int ((rows.map V.ref).length:Int))],dN (L2.upd H4 lS (iu P w lS (ks++[(s4,t4,.int ((rows.map V.ref).length:Int))]))) r.1 r.2.1:=fun r hr=>by
     rcases cM.mp hr with h | h
     ·exact dN.upd (kn r h) hS nSt
     ·rw [aC.mp h]; exact dN.upd nv4 hS nSt
    have nw5:=dN.upd (o':=iu P w lS (ks++[(s4,t4,.int ((rows.map V.ref).length:Int))])) nw hS nSt;have pr5:Paired (fun r c=>Hs r=none/\r≠lD/\L2.upd H4 lS (iu P w lS (ks++[(s4,t4,.int ((rows.map V.ref).length:Int))])) r=some (.lst ((iK (gA g) c).map V.str))) rows cs:=Paired.gG pr fun r c y=>⟨y.1,y.2.1,by rw [bf (jX y.2.2 hS (nSl _))]; exact y.2.2⟩
    have aqy:(ks++[(s4,t4,V.int ((rows.map V.ref).length:Int))]).map (·.1)=met++[s4]:=by rw [aZ,ekm]; rfl
    generalize L2.upd H4 lS (iu P w lS (ks++[(s4,t4,.int ((rows.map V.ref).length:Int))]))=H5 at b5 lt5 hD5 FW hS5 kn5 nw5 pr5 ⊢;generalize ks++[(s4,t4,V.int ((rows.map V.ref).length:Int))]=ks' at hS5 kn5 aqy kv' ⊢;obtain ⟨la5,gx5⟩:=at_ H5 b5;refine ⟨_,rfl,.inl ⟨rfl,_,cU.of hD5⟩,_,rfl,_,rfl,tf,_,0,.int c.1,rfl,rfl,fj.of FW,rfl,nJ ⟨x,g,c.1,rfl,gx5,ok.n8,fun H6 lw s6 fw hw=>⟨lD,_,.ref lw,rfl,rfl,s6 _ _ hD5,by rw [ak]; omega,?_⟩⟩⟩;have hD6:=s6 _ _ hD5;have nwD:lw≠lD:=Ne.symm (dw hD5 fw);have fwS:Hs lw=none:=b5.new fw fun y=>by
     obtain ⟨ps,hp,_⟩:=lt5;rw [y,hp] at fw;cases fw
    have nL:∀ ys,HO.tup ys≠HO.lst (rows.map V.ref):=fun _ y=>by cases y
    have b7:=(b5.trans s6.but).upd (o:=.lst (rows.map V.ref++[.ref lw])) hlD;have lt7:=(lt5.same s6).upd (o:=.lst (rows.map V.ref++[.ref lw])) hD6 (fun _ y=>by cases y) (fun y=>by cases y);have hS7:L2.upd H6 lD (.lst (rows.map V.ref++[.ref lw])) lS=some (iu P w lS ks'):=by rw [bf nDS]; exact s6 _ _ hS5
    have aqz:L2.upd H6 lD (.lst (rows.map V.ref++[.ref lw])) tf=some (.tup [.int c.1,.ref tw]):=by rw [bf (jX (s6 _ _ FW) hD6 (nL _))]; exact s6 _ _ FW
    have kn7:∀ r ∈ ks',dN (L2.upd H6 lD (.lst (rows.map V.ref++[.ref lw]))) r.1 r.2.1:=fun r hr=>dN.upd ((kn5 r hr).same s6) hD6 nL
    have nw7:=dN.upd (o':=.lst (rows.map V.ref++[.ref lw])) (nw5.same s6) hD6 nL;have pr7:Paired (fun r c=>Hs r=none/\r≠lD/\L2.upd H6 lD (.lst (rows.map V.ref++[.ref lw])) r=some (.lst ((iK (gA g) c).map V.str))) (rows++[lw]) (cs++[c.1]) :=
     Paired.snoc (Paired.gG pr5 fun r c y=>⟨y.1,y.2.1,by rw [bf y.2.1]; exact s6 _ _ y.2.2⟩) ⟨fwS,nwD,by rw [bf nwD]; exact hw⟩
    have hD7:L2.upd H6 lD (.lst (rows.map V.ref++[.ref lw])) lD=some (.lst ((rows++[lw]).map V.ref)):=by rw [aZ]; exact aD
    generalize L2.upd H6 lD (.lst (rows.map V.ref++[.ref lw]))=H7 at b7 lt7 hS7 aqz kn7 nw7 pr7 hD7 ⊢;obtain ⟨la7,gx7⟩:=at_ H7 b7;obtain ⟨dx7,y7,l7,hx7,_,_⟩:=id la7;refine ⟨_,rfl,tf,_,1,.ref tw,rfl,rfl,fj.of aqz,rfl,?_⟩;refine ⟨_,rfl,xl,dx7,_,rfl,hx7,K6 _ _ (by decide +kernel) (by decide +kernel),_,rfl,nJ (FT la7 ok len lt7 nw7 aak (fun H8 fv8 b8 lt8 rf8=>?_))⟩;have sT8:=b8.lam lt7;have nP8:∀ {b u},H7 b=some u->(∀ ps,u≠HO.yd ps)->H8 b=some u:=fun hb n=>dR _ _ (sT8 _ _ (iz hb n))
    refine ⟨fH g + 1 - (i + 1),by omega,i + 1,rfl,tw,fv8,u7,c.2,met++[s4],cs++[c.1],rows++[lw],ks',rfl,b7.trans b8,lt8,nP8 hD7 (fun _ y=>by cases y),nP8 hS7 (fun _ y=>by cases y),Paired.gG pr7 (fun r c y=>⟨y.1,y.2.1,nP8 y.2.2 (fun _ y'=>by cases y')⟩),aqy,fun r hr=>((dN.off (kn7 r hr)).same sT8).same dR,kv',nd',VN,mb',?_,?_,((dN.off nw7).same sT8).same dR,aak,rf8,?_⟩
    ·rw [aQ,lm];rfl
    ·rw [aQ,lc];rfl
    ·rw [show fH g + 1 - (i + 1)=fH g - i by omega];exact due
end
section
variable {g:gB} {ans:nq}
def qt (g:gB) (ans:nq) (s:NK):Option Int:=ans.getD (numOf s.1 g.pots s.2).toNat none
theorem aqA (ok:uf g) {c:Int × NK} (h:qt g ans c.2=none):wB g ans c=(fH g:Int):=by
 unfold wB;rw [show ans.getD (numOf c.2.1 g.pots c.2.2).toNat none=none from h];exact (pR ok).symm
theorem VP {c:Int × NK} {k:Int} (h:qt g ans c.2=some k):wB g ans c=k:=by
 unfold wB;rw [show ans.getD (numOf c.2.1 g.pots c.2.2).toNat none=some k from h];rfl
theorem VR (ok:uf g) {s:NK} (jN:gK g.week g.pots s.1 s.2):∃ n,n < fH g/\qt g ans s=ans.getD n none/\(j4 g).getD n []=(jl g s.1 s.2).map fun c=>(numOf c.2.1 g.pots c.2.2).toNat:=by
 obtain ⟨n,en,ln,es⟩:=mV ok jN;refine ⟨n,ln,by unfold qt; rw [en,cQ],?_⟩;rw [wA ln];unfold Ii;rw [es]
theorem V0 (ok:uf g) (T:Told (fH g) (j4 g) ans) {s:NK} (jN:gK g.week g.pots s.1 s.2) (h:qt g ans s=none):∃ c,bF g ans s=some c/\qt g ans c.2=none:=by
 obtain ⟨n,ln,ed,es⟩:=VR (ans:=ans) ok jN;rw [ed] at h;obtain ⟨t,ht,et⟩:=T.ever n ln h;rw [es] at ht;obtain ⟨c,hc,rfl⟩:=bx.mp ht;rcases pN (wB g ans) (jl g s.1 s.2) with ⟨e,_⟩ | ⟨i,b,hb,e,f⟩
 ·rw [e] at hc;cases hc
 ·refine ⟨b,e,?_⟩;obtain ⟨j,hj⟩:=cJ hc;have le:=(f j c hj).1;rw [aqA ok (show qt g ans c.2=none from et)] at le;cases eb:qt g ans b.2 with
  | none=>rfl
  | some k =>
   have:=Fe T (show ans.getD (numOf b.2.1 g.pots b.2.2).toNat none=some k from eb);rw [VP eb] at le;omega
theorem Q9 (ok:uf g) (T:Told (fH g) (j4 g) ans) {s:NK} (jN:gK g.week g.pots s.1 s.2) (h:qt g ans s=some 0):bF g ans s=none:=by
 obtain ⟨n,ln,ed,es⟩:=VR (ans:=ans) ok jN;rw [ed] at h;obtain ⟨f1,_,_⟩:=T.ends n 0 h;unfold bF;cases ec:jl g s.1 s.2 with
 | nil=>rfl
 | cons c cs =>
  obtain ⟨i,_,p,q⟩:=f1 (numOf c.2.1 g.pots c.2.2).toNat (by rw [es,ec]; simp);omega
theorem Ra (ok:uf g) (T:Told (fH g) (j4 g) ans) {s:NK} (jN:gK g.week g.pots s.1 s.2) {k:Nat} (h:qt g ans s=some ((k + 1:Nat):Int)):∃ c,bF g ans s=some c/\qt g ans c.2=some (k:Int):=by
 obtain ⟨n,ln,ed,es⟩:=VR (ans:=ans) ok jN;rw [ed] at h;obtain ⟨f1,f2,f3⟩:=T.ends n _ h;have ne:(j4 g).getD n []≠[]:=fun z=>by
  have:=f2 z;omega
 obtain ⟨t,ht,i,et,ei⟩:=f3 ne;rw [es] at ht;obtain ⟨c,hc,rfl⟩:=bx.mp ht;rcases pN (wB g ans) (jl g s.1 s.2) with ⟨e,_⟩ | ⟨i',b,hb,e,f⟩
 ·rw [e] at hc;cases hc
 ·refine ⟨b,e,?_⟩;obtain ⟨j,hj⟩:=cJ hc;have le:=(f j c hj).1;rw [VP (show qt g ans c.2=some i from et)] at le;obtain ⟨m,em,_,lm⟩:=f1 (numOf b.2.1 g.pots b.2.2).toNat (by rw [es]; exact bx.mpr ⟨b,aP hb,rfl⟩);have em':qt g ans b.2=some m:=em;rw [VP em'] at le;rw [em'];have:m=(k:Int):=by omega
  rw [this]
theorem abM (ok:uf g) {s:NK} (jN:gK g.week g.pots s.1 s.2) {c:Int × NK} (h:bF g ans s=some c):gK g.week g.pots c.2.1 c.2.2:=ug ok jN (zX h)
theorem Iu (ok:uf g) (T:Told (fH g) (j4 g) ans):∀ (k n:Nat) (s:NK) (met:List NK) (cs:List Int),gK g.week g.pots s.1 s.2->qt g ans s=some (k:Int)->k < n->(∀ m ∈ met,∃ i:Int,qt g ans m=some i/\(k:Int) < i)->∃ cs',o7 (bF g ans) n s met cs=(cs',none)/\cs'.length=cs.length + k
 | _,0,_,_,_,_,_,h,_=>absurd h (Nat.not_lt_zero _)
 | 0,n + 1,s,met,cs,jN,hd,_,far=>by
  have nm:s ∉ met:=fun z=>by
   obtain ⟨i,e,lt⟩:=far s z;rw [hd] at e;cases e;omega
  exact ⟨cs,Fb nm (Q9 ok T jN hd),rfl⟩
 | k + 1,n + 1,s,met,cs,jN,hd,lt,far=>by
  have nm:s ∉ met:=fun z=>by
   obtain ⟨i,e,lt⟩:=far s z;rw [hd] at e;cases e;omega
  obtain ⟨c,ec,dc⟩:=Ra ok T jN hd;obtain ⟨cs',e1,e2⟩:=Iu ok T k n c.2 (met++[s]) (cs++[c.1]) (abM ok jN ec) dc (by omega) fun m hm=>by
   rcases cM.mp hm with h | h
   ·obtain ⟨i,e,l⟩:=far m h;exact ⟨i,e,by omega⟩
   ·rw [aC.mp h];exact ⟨_,hd,by omega⟩
  refine ⟨cs',by rw [Fd nm ec]; exact e1,?_⟩;rw [e2,aQ]
  show cs.length + 1 + k=_
  omega
theorem Iv (ok:uf g) (T:Told (fH g) (j4 g) ans):∀ (n:Nat) (s:NK) (met:List NK) (cs:List Int),gK g.week g.pots s.1 s.2->qt g ans s=none->fH g + 1<=met.length + n->met.Nodup->(∀ m ∈ met,gK g.week g.pots m.1 m.2)->∃ cs' j,o7 (bF g ans) n s met cs=(cs',some j)
 | 0,s,met,cs,_,_,h,nd,mok=>absurd (Ay ok nd mok) (by omega)
 | n + 1,s,met,cs,jN,hd,h,nd,mok=>by
  by_cases z:s ∈ met
  ·obtain ⟨j,_,_,dj⟩:=wR (B:=bF g ans) z;exact ⟨cs,j,dj n cs⟩
  ·obtain ⟨c,ec,dc⟩:=V0 ok T jN hd;rw [Fd z ec];refine Iv ok T n c.2 (met++[s]) (cs++[c.1]) (abM ok jN ec) dc (by rw [aQ]; show _<=met.length + 1 + n; omega) (nodup_append.mpr ⟨nd,by simp,fun b hb b' hb' e=>?_⟩) fun m hm=>?_
   ·rw [aC] at hb';rw [e,hb'] at hb;exact z hb
   ·rcases cM.mp hm with h | h
    ·exact mok m h
    ·rw [aC.mp h]; exact jN
end
abbrev qT:dW:=top 47
structure gj where
 pots:List (Str × Int × Int)
 cans:Int
 week:Int
 closed:Int
abbrev K7:Rep (Str × Int × Int):=M5 Ke oh oh
theorem jF:zP K7:=G6 M8 jr jr
def j5:Rep gj:=fun H v sp=>∃ t l,v=.ref t/\H t=some (.tup [.ref l,.int sp.cans,.int sp.week,.int sp.closed])/\iJ K7 H (.ref l) sp.pots
theorem j5.same {H H':Hp} {v:V} {sp:gj} (h:j5 H v sp) (s:Same H H'):j5 H' v sp:=by
 obtain ⟨t,l,e,ht,r⟩:=h;exact ⟨t,l,e,s _ _ ht,r.same jF s⟩
structure Iw (q:Str × Int × Int):Prop where
 nm:nameV (.str q.1)=true
 g1:1<=q.2.1
 g2:q.2.1<=9
 r1:-1<=q.2.2
 r2:q.2.2 < q.2.1
def ql (q:Str × Int × Int):cL:=⟨q.1,q.2.1,if q.2.2 < 0 then none else some q.2.2⟩
def cu (qs:List (Str × Int × Int)):List cL:=qs.map ql
structure eG (sp:gj):Prop where
 n1:1<=sp.pots.length
 n8:sp.pots.length<=8
 nd:(sp.pots.map fun q=>q.1).Nodup
 row:∀ q ∈ sp.pots,Iw q
 c1:0<=sp.cans
 c2:sp.cans<=8
 w1:1<=sp.week
 w2:sp.week<=14
 l1:0<=sp.closed
 l2:sp.closed < 2 ^ sp.week.toNat
 sz:sizeOf sp.week (cu sp.pots)<=4000
structure V1 (K:Fg) (mg:Str->Option aB):Prop where
 B:Qz mg
 ce:∃ f fd,Fn K "_law_cell_at" "_law_cell_at" HD ["_law_script","_law_k"] f fd/\mg "_law_cell_at"=some (.ref f)
 dr:∃ f fd,Fn K "_law_draw" "_law_draw" HF ["_law_cell","_law_k","_law_many"] f fd/\mg "_law_draw"=some (.ref f)
theorem size_le {m:Int} (hm:0<=m):∀ (ps:List cL) (wk:Int),0<=wk->(∀ p ∈ ps,0<=p.gap/\p.gap<=m)->0<=sizeOf wk ps/\sizeOf wk ps<=wk * m ^ ps.length
 | [],wk,h0,_=>by
  show 0<=wk/\wk<=wk * m ^ 0
  rw [Int.pow_zero,Int.mul_one];exact ⟨h0,dU _⟩
 | p::ps,wk,h0,h=>by
  obtain ⟨g0,g1⟩:=h p (by simp);have h1:0<=wk * p.gap:=Int.mul_nonneg h0 g0;obtain ⟨i1,i2⟩:=size_le hm ps (wk * p.gap) h1 fun q hq=>h q (by simp [hq])
  refine ⟨i1,Int.le_trans i2 ?_⟩;rw [length_cons,Int.pow_succ,Int.mul_comm (m ^ ps.length) m,<- Int.mul_assoc];have p0:0<=m ^ ps.length:=Int.pow_nonneg hm;exact Int.mul_le_mul_of_nonneg_right (Int.mul_le_mul_of_nonneg_left g1 h0) p0
theorem V2 {m:Int} (hm:1<=m):∀ {i n:Nat},i<=n->m ^ i<=m ^ n
 | i,0,h=>by
  have:i=0:=by omega
  rw [this];exact dU _
 | i,n + 1,h=>by
  by_cases e:i=n + 1
  ·rw [e];exact dU _
  ·have ih:=V2 hm (i:=i) (n:=n) (by omega);have p0:0<=m ^ n:=Int.pow_nonneg (by omega);rw [Int.pow_succ];have:=Int.mul_le_mul_of_nonneg_left hm p0;omega
theorem Oc {qs:List (Str × Int × Int)} {wk:Int} {m:Int} {n:Nat} (hm:1<=m) (w1:1<=wk) (w2:wk<=14) (hl:qs.length<=n) (h:∀ q ∈ qs,Iw q/\q.2.1<=m) (hb:14 * m ^ n<=4000):sizeOf wk (cu qs)<=4000:=by
 have h1:=(size_le (m:=m) (by omega) (cu qs) wk (by omega) fun p hp=>by
  obtain ⟨q,hq,rfl⟩:=bx.mp hp;have:=(h q hq).1.g1;exact ⟨by show 0<=q.2.1; omega,(h q hq).2⟩).2
 rw [cu,ak] at h1;have p1:m ^ qs.length<=m ^ n:=V2 (by omega) hl;have p2:0<=m ^ qs.length:=Int.pow_nonneg (by omega);have h2:wk * m ^ qs.length<=14 * m ^ n:=Int.le_trans (Int.mul_le_mul_of_nonneg_right w2 p2) (Int.mul_le_mul_of_nonneg_left p1 (by decide))
 show sizeOf wk (qs.map ql)<=4000
 omega
def V3 (j:Int):Str:=([("ivy":Str),"iv","fern","fernz","a"]).getD j.toNat "a"
theorem aqB (z:Int):z % 5=0\/z % 5=1\/z % 5=2\/z % 5=3\/z % 5=4:=by omega
theorem aiW (z:Int):YH [V.str "ivy",.str "iv",.str "fern",.str "fernz",.str "a"] (z % 5)=some (.str (V3 (z % 5)))/\nameV (.str (V3 (z % 5)))=true:=by
 rcases aqB z with e | e | e | e | e <;> rw [e] <;> exact ⟨rfl,by decide +kernel⟩
theorem aiX (z:Int) {n:Nat} (h:n<=3):((List.range n).map fun k:Nat=>V3 ((z + k) % 5)).Nodup:=by
 have e:(fun k:Nat=>V3 ((z + k) % 5))=fun k:Nat=>V3 ((z % 5 + k) % 5):=by
  funext k
  congr 1
  omega
 rw [e];have hn:n=0\/n=1\/n=2\/n=3:=by omega
 rcases aqB z with e | e | e | e | e <;> rw [e] <;> rcases hn with rfl | rfl | rfl | rfl <;> decide +kernel
theorem aal (z:Int):∃ c,YH [V.int 1,.int 2,.int 1,.int 0,.int 3,.int 1] (z % 6)=some (.int c)/\0<=c/\c<=8:=by
 have h:z % 6=0\/z % 6=1\/z % 6=2\/z % 6=3\/z % 6=4\/z % 6=5:=by omega
 rcases h with e | e | e | e | e | e <;> rw [e] <;> exact ⟨_,rfl,by decide,by decide⟩
section
variable {P:cC} {w:World} {K:Fg} {mg:Str->Option aB} {base:Heap} {a:gw} {dV:aB}
abbrev V4:List Str:=["_law_script","_law_first","_law_cell","_law_other","_law_third","_law_count","_law_most","_law_names","_law_pots","_law_k","_law_gap","_law_rest","_law_week","_law_closed"]
def V5 (K:Fg):Sp:=fun vs H Q _=>∃ (s:aA) (ns:List Int) (k:Nat),vs=[.ref s,.int k]/\cU K H s (ns.map V.int)/\∀ H' v sp,Same H H'->j5 H' v sp->eG sp->Q v H'
theorem iM:bV V4 ["_law_script","_law_first"] (aW qT):=eO (by decide +kernel)
theorem aqC (T:V1 K mg) {f:aA} {cdv:aB} {A:d7} {outer:List Env} {s:aX} {H₀:Hp} {E:XK} (hr:d8 1 (A.deeper (PyProof.Rows.envOfC "_law_spec" (aW qT) s.heap.objs.size f cdv))) : ∃ t,Br (oO (fL P w) P w K mg base V4 "_law_spec" (aW qT) f cdv A outer s H₀ E) ((gq qT).drop 13) t/\∀ (D:Ends) (H:Hp) (l:aA) (qs:List (Str × Int × Int)) (third wk:Int) (s0 s1 s2 s3 s5 s6 s7 s9 Mt R4 s13:Option V),iJ K7 H (.ref l) qs->1<=wk->wk<=14->(∀ H' t c cl,Same H H'->j5 H' (.ref t) ⟨qs,c,wk,cl⟩->0<=c->c<=8->0<=cl->cl < 2 ^ wk.toNat->D.rt (.ref t) H') -> t D [s0,s1,s2,s3,some (.int third),s5,s6,s7,some (.ref l),s9,Mt,R4,some (.int wk),s13] H:=by
 refine ⟨_,aH (bM (i:=13) iM.nd rfl (Or.inl rfl) aV) (aH (eV (cN jJ (bZ gH (bZ jO (pv 4) aV) aV) aV (dz _)) (aU (bM (i:=13) iM.nd rfl (Or.inl rfl) (bZ gH (bZ jO (pv 4) aV) (bZ JH aV (pv 12))))) cX) (aU (cj (fJ (ao (pv 8) (ao (dh dM (fJ (iR [.int 1,.int 2,.int 1,.int 0,.int 3,.int 1] rfl)) (bZ gH (bZ jO (pv 4) aV) aV) (fun _ _=>rfl)) (ao (pv 12) (ao (pv 13) aK)))))))),?_⟩;intro D H l qs third wk s0 s1 s2 s3 s5 s6 s7 s9 Mt R4 s13 rl w1 w2 q;have p0:(0:Int) < 2 ^ wk.toNat:=Int.pow_pos (by decide);refine ⟨_,rfl,_,_,rfl,rfl,⟨by decide,by decide⟩,_,_,rfl,rfl,(by show (0:Int) < 3; decide),rfl,_,rfl,?_⟩;obtain ⟨c,ca,c1,c2⟩:=aal (third / 5);have fin:∀ cl:Int,0<=cl->cl < 2 ^ wk.toNat->∀ t1:aA,H t1=none->∀ t2:aA,(upd H t1 (.tup [V.int 1,.int 2,.int 1,.int 0,.int 3,.int 1])) t2=none->D.rt (.ref t2) (upd (upd H t1 (.tup [V.int 1,.int 2,.int 1,.int 0,.int 3,.int 1])) t2 (.tup [.ref l,.int c,.int wk,.int cl])):=by
  intro cl h0 h1 t1 h2 t2 h3;have v1:=aY (o:=.tup [V.int 1,.int 2,.int 1,.int 0,.int 3,.int 1]) h2;have v2:=aY (o:=.tup [V.ref l,.int c,.int wk,.int cl]) h3;exact q _ t2 c cl (v1.trans v2) ⟨t2,l,rfl,aD,rl.same jF (v1.trans v2)⟩ c1 c2 h0 h1
 refine Ej (fun _=>?_) (fun _=>?_)
 ·refine ⟨_,rfl,_,_,rfl,rfl,⟨by decide,by decide⟩,_,rfl,_,_,rfl,rfl,⟨by omega,by omega,by decide⟩,_,_,rfl,rfl,(by show (0:Int) < 1 * 2 ^ wk.toNat; omega),?_⟩;refine ⟨_,rfl,by show 6<=sizeLine; decide,fun t1 h1=>⟨_,rfl,_,_,rfl,rfl,⟨by decide,by decide⟩,_,_,rfl,rfl,(by show (0:Int) < 6; decide),t1,_,_,_,rfl,rfl,fj.of aD,ca,_,rfl,_,rfl,by show 4<=sizeLine; decide,fun t2 h2=>?_⟩⟩;exact fin _ (Int.emod_nonneg _ (by omega)) (by have:=Int.emod_lt_of_pos (third / 216) (show (0:Int) < 1 * 2 ^ wk.toNat by omega); omega) t1 h1 t2 h2
 ·refine ⟨_,rfl,by show 6<=sizeLine; decide,fun t1 h1=>⟨_,rfl,_,_,rfl,rfl,⟨by decide,by decide⟩,_,_,rfl,rfl,(by show (0:Int) < 6; decide),t1,_,_,_,rfl,rfl,fj.of aD,ca,_,rfl,_,rfl,by show 4<=sizeLine; decide,fun t2 h2=>?_⟩⟩;exact fin 0 (by decide) p0 t1 h1 t2 h2
end
section
variable {P:cC} {w:World} {K:Fg} {mg:Str->Option aB} {base:Heap} {a:gw} {dV:aB}
abbrev V6:List V:=[V.str "ivy",.str "iv",.str "fern",.str "fernz",.str "a"]
theorem aqD (T:V1 K mg) {f:aA} {cdv:aB} {A:d7} {outer:List Env} {s:aX} {H₀:Hp} {E:XK} (hr:d8 1 (A.deeper (PyProof.Rows.envOfC "_law_spec" (aW qT) s.heap.objs.size f cdv))) : ∃ t,Br (oO (fL P w) P w K mg base V4 "_law_spec" (aW qT) f cdv A outer s H₀ E) ((gq qT).drop 7) t/\∀ (D:Ends) (H:Hp) (cell other third cnt most:Int) (s0 s1 s7 s8 s9 Mt R4 s12 s13:Option V),1<=cnt->1<=most->((cnt<=3/\most<=3)\/(cnt<=1/\most<=9))->(∀ H' v sp,Same H H'->j5 H' v sp->eG sp->D.rt v H') -> t D [s0,s1,some (.int cell),some (.int other),some (.int third),some (.int cnt),some (.int most),s7,s8,s9,Mt,R4,s12,s13] H:=by
 have B:=T.B;obtain ⟨fd',dd,dF,mD⟩:=T.dr;have okd:cD P w K mg base (fL P w) 1 fd' dd ["_law_cell","_law_k","_law_many"] U0:=ZF dF.F;have kD:=dF.F.kp;have bD:=dF.b;obtain ⟨tc,hC,Rb⟩:=aqC (P:=P) (w:=w) (base:=base) (f:=f) (cdv:=cdv) (A:=A) (outer:=outer) (s:=s) (H₀:=H₀) (E:=E) T hr;refine ⟨_,aH (bM (i:=7) iM.nd rfl (Or.inl rfl) (fJ (iR V6 rfl))) (aH (bM (i:=8) iM.nd rfl (Or.inl rfl) (fZ aK)) (aH (gR dY rfl (jq rfl B.range (ao (pv 5) aK)) (cZ 9 iM.nd) (aH (bM (i:=10) iM.nd rfl (Or.inl rfl) (bZ iH aV (dI okd hr mD kD bD bB (ao (pv 3) (ao (pv 9) (ao (pv 6) aK)))))) (aH (bM (i:=11) iM.nd rfl (Or.inl rfl) (aa7 Rz aV)) (aH (eV (cN jJ (dI okd hr mD kD bD bB (ao (pv 3) (ao (bZ iH (pv 9) aV) (iR [.int 4] rfl)))) aV (dz _)) (aU (bM (i:=11) iM.nd rfl (Or.inl rfl) (dI okd hr mD kD bD bB (ao (pv 3) (ao (bZ iH (pv 9) aV) (ao (pv 10) aK)))))) cX) (aU (fu (lH PySem.F.plainAttrs_list PySem.F.slot_list_append PySem.F.type_list_append fX (pv 8) (ao (fJ (ao (dh dM (pv 7) (bZ gH (bZ iH (bZ jO (pv 2) aV) (pv 9)) aV) (fun _ _=>rfl)) (ao (pv 10) (ao (pv 11) aK)))) aK)))))))) (aH (bM (i:=12) iM.nd rfl (Or.inl rfl) (bZ iH aV (Hy OD B.int boot_int (ao (nQ jJ (bZ gH (pv 4) aV) aV (dz _)) aK)))) (aH (eV (cN jJ (bZ gH (bZ jO (pv 4) aV) aV) aV (dz _)) (aU (bM (i:=12) iM.nd rfl (Or.inl rfl) (bZ iH aV (bZ gH (bZ jO (pv 4) aV) aV)))) cX) (aH (eV (cN jJ (bZ gH (bZ jO (pv 2) aV) aV) aV (dz _)) (aU (bM (i:=12) iM.nd rfl (Or.inl rfl) (bZ iH aV (bZ gH (pv 4) aV)))) cX) hC))))),?_⟩;intro D H cell other third cnt most s0 s1 s7 s8 s9 Mt R4 s12 s13 c1 m1 hcm q;refine ⟨by show 5<=sizeLine; decide,fun tn htn=>⟨by show 0<=sizeLine; decide,fun l hl=>?_⟩⟩;have v1:=aY (o:=.tup V6) htn;have v2:=aY (o:=.lst []) hl;refine ⟨_,rfl,_,rfl,by omega,by omega,?_⟩;refine oM (lo:=0) (n:=cnt.toNat) (fun i σ H'=>∃ qs u9 Rc u11,σ=[s0,s1,some (.int cell),some (.int other),some (.int third),some (.int cnt),some (.int most),some (.ref tn),some (.ref l),u9,Rc,u11,s12,s13]/\(qs.map fun q=>q.1)=((List.range i).map fun k:Nat=>V3 ((cell / 54 + k) % 5))/\(∀ q ∈ qs,Iw q/\q.2.1<=most)/\iJ K7 H' (.ref l) qs/\Same (upd H tn (.tup V6)) H') ⟨[],s9,Mt,R4,rfl,rfl,(fun q hq=>by cases hq),⟨l,[],rfl,aD,.nil⟩,v2⟩ ?_ ?_
 ·rintro i σ H1 lt ⟨qs,u9,Rc,u11,rfl,nms,rows,rl,s1'⟩;have e0:(0 + (i:Int))=((i:Nat):Int):=Int.zero_add _;rw [e0];have ln:qs.length=i:=by
   have:=congrArg List.length nms
   rwa [ak,ak,bw] at this
  refine ⟨_,rfl,_,rfl,_,rfl,_,_,_,rfl,by omega,fun H2 s2=>⟨_,_,rfl,rfl,?_⟩⟩;have d0:=Nq other (i:Int) (m:=most) (by omega);have d1:=Nr other (i:Int) (m:=most) (by omega);generalize HJ other (i:Int) most=dr at d0 d1 ⊢;obtain ⟨na,nn⟩:=aiW (cell / 54 + (i:Int));have big:1000<=sizeLine:=by decide
  have fin:∀ (r:Int) (H3:Hp),Same H2 H3->-1<=r->r < 1 + dr->∃ vs,H3 l=some (.lst vs)/\H3 tn=some (.tup V6)/\vs.length < sizeLine/\∀ t3:aA,H3 t3=none->∃ qs',(qs'.map fun q=>q.1)=((List.range (i + 1)).map fun k:Nat=>V3 ((cell / 54 + k) % 5))/\(∀ q ∈ qs',Iw q/\q.2.1<=most)/\iJ K7 (upd (upd H3 t3 (.tup [V.str (V3 ((cell / 54 + (i:Int)) % 5)),.int (1 + dr),.int r])) l (.lst (vs++[V.ref t3]))) (.ref l) qs'/\Same (upd H tn (.tup V6)) (upd (upd H3 t3 (.tup [V.str (V3 ((cell / 54 + (i:Int)) % 5)),.int (1 + dr),.int r])) l (.lst (vs++[V.ref t3]))):=by
   intro r H3 s3 r1 r2;obtain ⟨_,vs,el,hv,Am⟩:=rl.same jF (s2.trans s3);cases el;refine ⟨vs,hv,(s1'.trans (s2.trans s3)) _ _ aD,by rw [Paired.length Am,ln]; omega,fun t3 h3=>?_⟩;have v3:=aY (o:=.tup [V.str (V3 ((cell / 54 + (i:Int)) % 5)),.int (1 + dr),.int r]) h3;have hv3:=v3 _ _ hv;refine ⟨qs++[(V3 ((cell / 54 + (i:Int)) % 5),1 + dr,r)],?_,fun q hq=>?_,⟨l,_,rfl,aD,?_⟩,jB ((s1'.trans (s2.trans s3)).trans v3) hl⟩
   ·rw [aZ,nms,bY,aZ]; rfl
   ·rcases cM.mp hq with h | h
    ·exact rows q h
    ·rw [aC.mp h];exact ⟨⟨nn,by show 1<=1 + dr; omega,by show 1 + dr<=9; omega,r1,r2⟩,by show 1 + dr<=most; omega⟩
   ·refine j9 (Paired.gG Am fun _ _ z=>jF.upd (jF.same z v3) hv3) (.cons ?_ .nil);exact jF.upd ⟨t3,_,_,_,rfl,aD,rfl,rfl,rfl⟩ hv3
  refine ⟨_,rfl,_,rfl,_,rfl,_,_,rfl,rfl,_,_,_,rfl,by decide,fun H3 s3=>⟨rfl,_,rfl,?_⟩⟩;refine Ej (fun _=>?_) (fun _=>?_)
  ·refine ⟨_,rfl,_,rfl,_,_,rfl,rfl,_,rfl,_,_,_,rfl,by omega,fun H4 s4=>?_⟩;have e1:=Nq other ((i:Int) + 5) (m:=1 + dr) (by omega);have e2:=Nr other ((i:Int) + 5) (m:=1 + dr) (by omega);generalize HJ other ((i:Int) + 5) (1 + dr)=r at e1 e2 ⊢;obtain ⟨vs,hv,ht,lz,k⟩:=fin r H4 (s3.trans s4) (by omega) e2;refine ⟨_,rfl,.inl ⟨rfl,_,cU.of hv⟩,_,rfl,_,rfl,_,_,rfl,rfl,⟨by decide,by decide⟩,_,rfl,_,_,rfl,rfl,_,_,rfl,rfl,(by show (0:Int) < 5; decide),tn,_,_,_,rfl,rfl,fj.of ht,na,_,rfl,_,rfl,by show 3<=sizeLine; decide,fun t3 h3=>?_⟩;obtain ⟨qs',a1,a2,a3,a4⟩:=k t3 h3;exact ⟨l,vs,_,rfl,rfl,(aY h3) _ _ hv,lz,qs',_,_,_,rfl,a1,a2,a3,a4⟩
  ·obtain ⟨vs,hv,ht,lz,k⟩:=fin (-1) H3 s3 (by omega) (by omega);refine ⟨_,rfl,.inl ⟨rfl,_,cU.of hv⟩,_,rfl,_,rfl,_,_,rfl,rfl,⟨by decide,by decide⟩,_,rfl,_,_,rfl,rfl,_,_,rfl,rfl,(by show (0:Int) < 5; decide),tn,_,_,_,rfl,rfl,fj.of ht,na,_,rfl,_,rfl,by show 3<=sizeLine; decide,fun t3 h3=>?_⟩;obtain ⟨qs',a1,a2,a3,a4⟩:=k t3 h3;exact ⟨l,vs,_,rfl,rfl,(aY h3) _ _ hv,lz,qs',_,_,_,rfl,a1,a2,a3,a4⟩
 ·rintro σ H1 ⟨qs,u9,Rc,u11,rfl,nms,rows,rl,s1'⟩;have ln:qs.length=cnt.toNat:=by
   have:=congrArg List.length nms
   rwa [ak,ak,bw] at this
  have fin:∀ wk:Int,1<=wk->wk<=14->∀ H' t c cl,Same H1 H'->j5 H' (.ref t) ⟨qs,c,wk,cl⟩->0<=c->c<=8->0<=cl->cl < 2 ^ wk.toNat->D.rt (.ref t) H':=by
   intro wk w1 w2 H' t c cl s' r c0 c8 l0 l1;refine q H' _ _ ((v1.trans s1').trans s') r ⟨by show 1<=qs.length; omega,by show qs.length<=8; omega,?_,fun z hz=>(rows z hz).1,c0,c8,w1,w2,l0,l1,?_⟩
   ·show (qs.map fun q=>q.1).Nodup
    rw [nms];exact aiX _ (by omega)
   ·rcases hcm with ⟨x1,x2⟩ | ⟨x1,x2⟩
    ·exact Oc (m:=3) (n:=3) (by decide) w1 w2 (by show qs.length<=3; omega) (fun z hz=>⟨(rows z hz).1,by have:=(rows z hz).2; omega⟩) (by decide)
    ·exact Oc (m:=9) (n:=1) (by decide) w1 w2 (by show qs.length<=1; omega) (fun z hz=>⟨(rows z hz).1,by have:=(rows z hz).2; omega⟩) (by decide)
  refine ⟨_,rfl,_,_,rfl,rfl,(by show (0:Int) < 3; decide),rfl,.inr ⟨_,rfl,_,_,rfl,rfl,?_⟩⟩;have b0:∀ b:Bool,1<=1 + (if b then (1:Int) else 0)/\1 + (if b then (1:Int) else 0)<=14:=fun b=>by cases b <;> decide
  have b1:0<=third / 24 % 3:=Int.emod_nonneg _ (by decide);have b2:third / 24 % 3 < 3:=Int.emod_lt_of_pos _ (by decide);have b3:0<=third % 14:=Int.emod_nonneg _ (by decide);have b4:third % 14 < 14:=Int.emod_lt_of_pos _ (by decide);refine ⟨_,rfl,_,_,rfl,rfl,⟨by decide,by decide⟩,_,_,rfl,rfl,(by show (0:Int) < 8; decide),rfl,_,rfl,?_⟩;refine Ej (fun _=>⟨_,rfl,_,_,rfl,rfl,⟨by decide,by decide⟩,_,_,rfl,rfl,(by show (0:Int) < 3; decide),_,_,rfl,rfl,_,rfl,_,_,rfl,rfl,⟨by decide,by decide⟩,_,_,rfl,rfl,(by show (0:Int) < 6; decide),rfl,_,rfl,Ej (fun _=>⟨_,rfl,_,_,rfl,rfl,(by show (0:Int) < 14; decide),_,_,rfl,rfl,?_⟩) (fun _=>?_)⟩) (fun _=>⟨_,rfl,_,_,rfl,rfl,⟨by decide,by decide⟩,_,_,rfl,rfl,(by show (0:Int) < 6; decide),rfl,_,rfl,Ej (fun _=>⟨_,rfl,_,_,rfl,rfl,(by show (0:Int) < 14; decide),_,_,rfl,rfl,?_⟩) (fun _=>?_)⟩)
  ·exact Rb D H1 l qs third _ _ _ _ _ _ _ _ _ _ _ _ rl (by omega) (by omega) (fin _ (by omega) (by omega))
  ·exact Rb D H1 l qs third _ _ _ _ _ _ _ _ _ _ _ _ rl (by omega) (by omega) (fin _ (by omega) (by omega))
  ·exact Rb D H1 l qs third _ _ _ _ _ _ _ _ _ _ _ _ rl (by omega) (by omega) (fin _ (by omega) (by omega))
  ·exact Rb D H1 l qs third _ _ _ _ _ _ _ _ _ _ _ _ rl (b0 _).1 (b0 _).2 (fin _ (b0 _).1 (b0 _).2)
end
abbrev qU:dW:=top 48
section
variable {P:cC} {w:World} {K:Fg} {mg:Str->Option aB} {base:Heap} {a:gw} {dV:aB}
theorem aam {f:aA} {fd:fQ} (F:n6 K "_law_spec" "_law_spec" qT f fd) (T:V1 K mg):cD P w K mg base (fL P w) 2 f fd ["_law_script","_law_first"] (V5 K):=by
 refine F.mF iM (fun vs H Q E h=>?_) (fun cdv A outer s H vs Q E hr h=>?_)
 ·obtain ⟨s,ns,k,rfl,_⟩:=h;rfl
 ·obtain ⟨sc,ns,k,rfl,hS,q⟩:=h;have B:=T.B;obtain ⟨fc,dc,cF,mC⟩:=T.ce;have yO:cD P w K mg base (fL P w) 1 fc dc ["_law_script","_law_k"] (Ac K):=zm cF.F B;have kC:=cF.F.kp;have bC:=cF.b;obtain ⟨tb,hB,Az⟩:=aqD (P:=P) (w:=w) (base:=base) (f:=f) (cdv:=cdv) (A:=A) (outer:=outer) (s:=s) (H₀:=H) (E:=E) T hr;refine ⟨_,aH (bM (i:=2) iM.nd rfl (Or.inl rfl) (dI yO hr mC kC bC bB (ao (pv 0) (ao (pv 1) aK)))) (aH (bM (i:=3) iM.nd rfl (Or.inl rfl) (dI yO hr mC kC bC bB (ao (pv 0) (ao (bZ iH (pv 1) aV) aK)))) (aH (bM (i:=4) iM.nd rfl (Or.inl rfl) (dI yO hr mC kC bC bB (ao (pv 0) (ao (bZ iH (pv 1) aV) aK)))) (aH (bM (i:=5) iM.nd rfl (Or.inl rfl) (bZ iH aV (bZ gH (pv 2) aV))) (aH (bM (i:=6) iM.nd rfl (Or.inl rfl) aV) (aH (eV (pw_and (cN jJ (pv 5) aV (dz _)) (pw_and1 (cN Mp (bZ gH (bZ jO (pv 2) aV) aV) aV (dz _)))).pt (aU (bM (i:=6) iM.nd rfl (Or.inl rfl) aV)) cX) (aH (eV (cN jJ (bZ gH (bZ jO (pv 2) aV) aV) aV (dz _)) (aH (bM (i:=5) iM.nd rfl (Or.inl rfl) aV) (aU (bM (i:=6) iM.nd rfl (Or.inl rfl) aV))) cX) hB)))))),?_⟩;refine ⟨_,rfl,_,rfl,sc,ns,k,rfl,hS,_,rfl,_,rfl,_,_,rfl,rfl,sc,ns,k + 1,rfl,hS,_,rfl,_,rfl,_,_,rfl,rfl,sc,ns,k + 2,rfl,hS,_,rfl,_,_,rfl,rfl,(by show (0:Int) < 3; decide),_,_,rfl,rfl,_,rfl,rfl,_,rfl,?_⟩;generalize ns.getD k 0=cell;generalize ns.getD (k + 1) 0=other;generalize ns.getD (k + 2) 0=third;have c0:0<=cell % 3:=Int.emod_nonneg _ (by decide);have c1:cell % 3 < 3:=Int.emod_lt_of_pos _ (by decide);refine Ej (fun _=>⟨_,rfl,_,_,rfl,rfl,⟨by decide,by decide⟩,_,_,rfl,rfl,(by show (0:Int) < 3; decide),_,_,rfl,rfl,_,rfl,Ej (fun _=>?_) (fun _=>?_)⟩) (fun _=>d9 ?_)
  all_goals refine ⟨_,rfl,_,_,rfl,rfl,⟨by decide,by decide⟩,_,_,rfl,rfl,(by show (0:Int) < 6; decide),rfl,_,rfl,Ej (fun _=>?_) (fun _=>?_)⟩
  ·exact Az _ H cell other third 1 9 _ _ _ _ _ _ _ _ _ (by decide) (by decide) (.inr ⟨by decide,by decide⟩) q
  ·exact Az _ H cell other third _ 2 _ _ _ _ _ _ _ _ _ (by omega) (by decide) (.inl ⟨by omega,by decide⟩) q
  ·exact Az _ H cell other third 1 9 _ _ _ _ _ _ _ _ _ (by decide) (by decide) (.inr ⟨by decide,by decide⟩) q
  ·exact Az _ H cell other third _ 3 _ _ _ _ _ _ _ _ _ (by omega) (by decide) (.inl ⟨by omega,by decide⟩) q
  ·exact Az _ H cell other third 1 9 _ _ _ _ _ _ _ _ _ (by decide) (by decide) (.inr ⟨by decide,by decide⟩) q
  ·exact Az _ H cell other third _ 3 _ _ _ _ _ _ _ _ _ (by omega) (by decide) (.inl ⟨by omega,by decide⟩) q
def cW (sp:gj):gB:=⟨cu sp.pots,sp.cans,sp.week,sp.closed⟩
theorem Iz {q:Str × Int × Int} (h:Iw q):(ql q).Ok:=by
 refine ⟨h.nm,⟨h.g1,by have:=h.g2; show q.2.1<=60; omega⟩,fun r hr=>?_⟩;unfold ql at hr;dsimp only at hr
 split at hr
 ·cases hr
 ·cases hr;exact ⟨by omega,h.r2⟩
theorem eG.pQ {sp:gj} (h:eG sp):∀ p ∈ (cW sp).pots,p.Ok:=by
 intro p hp;obtain ⟨q,hq,rfl⟩:=bx.mp hp;exact Iz (h.row q hq)
theorem fU (qs:List (Str × Int × Int)):(cu qs).length=qs.length:=by rw [cu,ak]
theorem eG.out {sp:gj} (h:eG sp):Fv (some (cu sp.pots)) (.int sp.cans) (.int sp.week) (.int sp.closed)=.ok:=by
 show Aa _ _ _ _=_
 unfold Aa;have n1:=h.n1;have n8:=h.n8;have w1:=h.w1;have w2:=h.w2;have c1:=h.c1;have c2:=h.c2;have l1:=h.l1;have l2:=h.l2;have c:yD (cu sp.pots).length (.int sp.cans) (.int sp.week) (.int sp.closed)=true:=by
  unfold yD vX dD;rw [fU];simp [n1,n8,w1,w2,c1,c2,l1];omega
 have nd:((cu sp.pots).map cL.nm).Nodup:=by
  have:(cu sp.pots).map cL.nm=sp.pots.map fun q=>q.1:=by rw [cu,eY]; rfl
  rw [this];exact h.nd
 rw [if_neg (by rw [c]; decide),if_neg (fun z=>z nd)];have:sizeOf sp.week (cu sp.pots)<=20000:=Int.le_trans h.sz (by decide);exact if_neg (by omega)
abbrev aqE:List Str:=["_law_spec_here","_law_pots","_law_name","_law_gap","_law_rest"]
def V7 (a:gw):Sp:=fun vs H Q _=>∃ v sp,vs=[v]/\j5 H v sp/\eG sp/\∀ H' x,Same H H'->fW a H' x (cW sp)->Q (.ref x) H'
theorem Ba:bV aqE ["_law_spec_here"] (aW qU):=eO (by decide +kernel)
theorem aan {f:aA} {fd:fQ} (F:n6 K "_law_garden" "_law_garden" qU f fd) (Z:KQ K mg a dV):cD P w K mg base (fL P w) 9 f fd ["_law_spec_here"] (V7 a):=by
 refine F.mF Ba (fun vs H Q E h=>?_) (fun cdv A outer s H vs Q E hr h=>?_)
 ·obtain ⟨v,sp,rfl,_⟩:=h;rfl
 ·obtain ⟨v,sp,rfl,⟨t,l,rfl,ht,rl⟩,ok,q⟩:=h;have T:=Z.G.T;have B:=T.B;have hr3:d8 3 _:=hr.mono (by decide);have Q5:d8 4 _:=hr.mono (by decide);refine ⟨_,aH (bM (i:=1) Ba.nd rfl (Or.inl rfl) (fZ aK)) (aH (gR dY rfl (fK (dh dM (pv 0) aV (fun _ _=>rfl))) (lZ rfl (cg (cZ 2 Ba.nd) (cg (cZ 3 Ba.nd) (cg (cZ 4 Ba.nd) gM)))) (aU (eV (cN RD (pv 4) aV (dz _)) (aU (fu (lH PySem.F.plainAttrs_list PySem.F.slot_list_append PySem.F.type_list_append fX (pv 1) (ao (yq T.kP (tY T) hr3 T.Zv T.PI.b (cV bW) (ao (pv 2) (ao (pv 3) aK))) aK)))) (aU (fu (lH PySem.F.plainAttrs_list PySem.F.slot_list_append PySem.F.type_list_append fX (pv 1) (ao (yq T.kC (z9 T) Q5 T.apS T.CI.b (cV bW) (ao (pv 2) (ao (pv 3) (ao (pv 4) aK)))) aK))))))) (aU (cj (yq Z.kG (abB Z) hr Z.Zz Z.b4 (cV bW) (ao (pv 1) (ao (dh dM (pv 0) aV (fun _ _=>rfl)) (ao (dh dM (pv 0) aV (fun _ _=>rfl)) (ao (dh dM (pv 0) aV (fun _ _=>rfl)) aK)))))))),?_⟩;refine ⟨by show 0<=sizeLine; decide,fun lp hlp=>?_⟩;have vp:=aY (o:=.lst []) hlp;obtain ⟨_,vs,el,hv,Am⟩:=id rl;cases el;have big:1000<=sizeLine:=by decide
  have n8:=ok.n8;refine ⟨_,rfl,t,_,0,.ref l,rfl,rfl,fj.of (vp _ _ ht),rfl,l,rfl,⟨_,cU.of (vp _ _ hv)⟩,?_⟩;refine gZ (K:=K) (a:=l) (xs:=vs) (fun i σ H'=>∃ u2 u3 u4 bs,σ=[some (.ref t),some (.ref lp),u2,u3,u4]/\bs.length=i/\H' lp=some (.lst (bs.map V.ref))/\mU a H' bs ((cu sp.pots).take i)/\Same H H') ⟨none,none,none,[],rfl,rfl,aD,.nil,vp⟩ (fun i σ H' _ ⟨_,_,_,_,_,_,_,_,s'⟩=>cU.of (s' _ _ hv)) ?_ ?_
  ·rintro i x σ H2 hi ⟨u2,u3,u4,bs,rfl,lb,hp2,pt2,s2⟩;obtain ⟨c,hc,rc⟩:=dB Am hi;have yO:=ok.row c (aP hc);have li:i < sp.pots.length:=(aF.mp hc).1;have aAS:(cu sp.pots)[i]?=some (ql c):=by rw [cu,aJ,hc]; rfl
   obtain ⟨tc,y1,y2,y3,rfl,htc,r1,r2,r3⟩:=jF.same rc s2;cases r1; cases r2; cases r3;have lz:(bs.map V.ref).length < sizeLine:=by rw [ak]; omega
   have KN:=Iz yO;have g1:=yO.g1;have g2:=yO.g2;have g3:c.2.1<=60:=by omega
   have hnm:=yO.nm;have a1:jZ (.str c.1) (.int c.2.1)=true:=by simp [jZ,hnm,dD,g1,g3]
   have fin:∀ H3 y,H2 y=none->Same H2 H3->mQ a H3 y (ql c)->∃ u2 u3 u4 bs',[some (V.ref t),some (V.ref lp),some (V.str c.1),some (V.int c.2.1),some (V.int c.2.2)]=[some (V.ref t),some (V.ref lp),u2,u3,u4]/\bs'.length=i + 1/\(upd H3 lp (.lst (bs.map V.ref++[V.ref y]))) lp=some (.lst (bs'.map V.ref))/\mU a (upd H3 lp (.lst (bs.map V.ref++[V.ref y]))) bs' ((cu sp.pots).take (i + 1))/\Same H (upd H3 lp (.lst (bs.map V.ref++[V.ref y]))):=by
    intro H3 y hy s3 py;have hp3:=s3 _ _ hp2;refine ⟨_,_,_,bs++[y],rfl,by rw [aQ,lb]; rfl,by rw [aD,aZ]; rfl,?_,jB (s2.trans s3) hlp⟩;rw [take_snoc aAS];exact Paired.snoc ((pt2.same s3).upd hp3) (mQ.upd py hp3)
   refine ⟨tc,_,rfl,fj.of htc,rfl,_,_,rfl,_,_,rfl,_,_,rfl,rfl,?_⟩;refine ⟨_,rfl,_,_,rfl,rfl,_,rfl,?_⟩
   by_cases neg:c.2.2 < 0
   ·rw [aM neg];refine eE ⟨_,rfl,.inl ⟨rfl,_,cU.of hp2⟩,_,rfl,_,rfl,nJ ?_⟩;refine Uo (kn:=.str) (kg:=.int) ⟨_,rfl⟩ (pP hnm) ⟨_,rfl⟩ (fun e=>absurd e ?_) (fun _ H3 y hy s3 py=>⟨lp,_,_,rfl,rfl,s3 _ _ hp2,lz,fin H3 y hy s3 ?_⟩)
    ·rw [a1]; decide
    ·obtain ⟨dy,hy'⟩:=py;refine ⟨dy,?_⟩;rw [hy'];simp only [cL.cls,cL.fs,ql,if_pos neg]
   ·rw [aL neg];refine d9 ⟨_,rfl,.inl ⟨rfl,_,cU.of hp2⟩,_,rfl,_,rfl,_,rfl,nJ ?_⟩;refine Uq (kn:=.str) (kg:=.int) (kr:=.int) ⟨_,rfl⟩ (pP hnm) ⟨_,rfl⟩ ⟨_,rfl⟩ (fun e=>absurd e ?_) (fun _ H3 y hy s3 py=>⟨lp,_,_,rfl,rfl,s3 _ _ hp2,lz,fin H3 y hy s3 ?_⟩)
    ·have r2:=yO.r2;have r0:0<=c.2.2:=by omega
     have r3:c.2.2<=c.2.1 - 1:=by omega
     have a2:restOk (.int c.2.1) (.int c.2.2)=true:=by simp [restOk,dD,r0,r3]
     rw [a1,a2]
     decide
    ·obtain ⟨dy,hy'⟩:=py;refine ⟨dy,?_⟩;rw [hy'];simp only [cL.cls,cL.fs,ql,if_neg neg]
  rintro σ H2 ⟨u2,u3,u4,bs,rfl,lb,hp2,pt2,s2⟩;have lv:vs.length=sp.pots.length:=Paired.length Am;rw [lv,<- fU,bU] at pt2;have Nu:=s2 _ _ ht;refine ⟨_,rfl,_,rfl,t,_,1,.int sp.cans,rfl,rfl,fj.of Nu,rfl,_,rfl,t,_,2,.int sp.week,rfl,rfl,fj.of Nu,rfl,_,rfl,t,_,3,.int sp.closed,rfl,rfl,fj.of Nu,rfl,?_⟩;exact UJ (kc:=.int) (kw:=.int) (kl:=.int) (Ab.pots (as:=bs) (ps:=cu sp.pots) ⟨lp,_,rfl,.inl hp2⟩ (cU.of hp2) (by omega) pt2 ok.pQ) ⟨_,rfl⟩ ⟨_,rfl⟩ ⟨_,rfl⟩ (abC ok.out (fun H4 x hx s4 gn=>q H4 x (s2.trans s4) (by obtain ⟨d4,l4,a4,e1,e2,e3,_⟩:=gn; exact ⟨d4,l4,a4,e1,e2,e3⟩)))
end
abbrev lU:dW:=top 49
def aqF (H:Hp) (r:V) (tm:Int):Bh Str->Prop
 | .no=>r=.non
 | .dry nm=>r=.str nm
 | .st far=>je H r (tm,far)
abbrev iT (sp:gj):List Str:=sp.pots.map fun q=>q.1
abbrev Bc (jt:List Nat):List V:=jt.map fun k=>V.int ((k:Nat):Int)
theorem V8 (jt:List Nat):(Bc jt).all mq=true:=by
 rw [all_eq_true];intro v hv;obtain ⟨k,_,rfl⟩:=bx.mp hv;rfl
theorem V9 (k:Nat):∀ jt:List Nat,inV (.int (k:Int)) (Bc jt)=decide (k ∈ jt)
 | []=>rfl
 | j::jt=>by
  have ih:=V9 k jt;have e:inV (.int (k:Int)) (Bc (j::jt))=(Gk (.int (j:Int)) (.int (k:Int)) || inV (.int (k:Int)) (Bc jt)):=rfl;rw [e,ih]
  by_cases h:k=j
  ·subst h;have:Gk (.int (k:Int)) (.int (k:Int))=true:=by simp [Gk]
   simp [this]
  ·have:Gk (.int (j:Int)) (.int (k:Int))=false:=by simp [Gk]; omega
   simp [this,h]
theorem Wa {q:Str × Int × Int} (h:-1<=q.2.2):Di (ql q)=q.2.2:=by
 unfold Di ql;dsimp only
 by_cases z:q.2.2 < 0
 ·rw [if_pos z]; show (-1:Int)=q.2.2; omega
 ·rw [if_neg z]
theorem aao {qs:List (Str × Int × Int)} {ds:List Int} {i:Nat} {c:Str × Int × Int} {n:Int} (hc:qs[i]?=some c) (hn:ds[i]?=some n) (h:-1<=c.2.2):(cpsOf (cu qs) ds)[i]?=some ⟨n,c.2.1,c.2.2⟩:=by
 have hp:(cu qs)[i]?=some (ql c):=by rw [cu,aJ,hc]; rfl
 rw [FJ hp hn,Fz,Wa h];rfl
theorem Od {ν:Type} {f:Nat->Option ν} {n i:Nat} {y:ν} (lt:i < n) (hn:∀ j,j < i->f j=none) (hi:f i=some y):(List.range n).findSome? f=some y:=by
 have e:List.range n=List.range i++(List.range (n - i)).map (i + ·):=by
  have:n=i + (n - i):=by omega
  conv=>lhs; rw [this,List.range_add]
 have e2:n - i=(n - i - 1) + 1:=by omega
 rw [e,List.findSome?_append,e2,range_succ_eq_map,cY,List.findSome?_cons];have:(List.range i).findSome? f=none:=by
  rw [List.findSome?_eq_none_iff];intro j hj;exact hn j (mem_range.mp hj)
 rw [this];simp [hi]
theorem Wb {H:Hp}:∀ gs:List Int,Paired (oh H) (gs.map V.int) gs
 | []=>.nil
 | g::gs=>.cons rfl (Wb gs)
section
variable {P:cC} {w:World} {K:Fg} {mg:Str->Option aB} {base:Heap} {a:gw} {dV:aB}
abbrev aqG:List Str:=["_law_spec_here","_law_state","_law_wet","_law_pots","_law_cans","_law_week","_law_closed","_law_day","_law_since","_law_k","_law_found","_law_far"]
noncomputable def abN:Sp:=fun vs H Q _=>∃ v sp u d ds wl jt,vs=[v,u,.ref wl]/\j5 H v sp/\eG sp/\j8 H u d ds/\0<=d/\ds.length=sp.pots.length/\H wl=some (.lst (Bc jt))/\(∀ k ∈ jt,k < sp.pots.length)/\jt.length<=8 /\ ∀ H' r,Same H H'->aqF H' r ((d + 1) % sp.week) (jQ (iT sp) sp.cans (iQ sp.closed d) (cpsOf (cu sp.pots) ds) jt)->Q r H'
theorem qW:bV aqG ["_law_spec_here","_law_state","_law_wet"] (aW lU):=eO (by decide +kernel)
theorem aAT (B:Qz mg) {f:aA} {cdv:aB} {A:d7} {outer:List Env} {s:aX} {H₀:Hp} {E:XK} : ∃ t,Br (oO (fL P w) P w K mg base aqG "_law_behind" (aW lU) f cdv A outer s H₀ E) ((gq lU).drop 3) t/\∀ (D:Ends) (H:Hp) (l wl su:aA) (sp:gj) (d:Int) (ds:List Int) (jt:List Nat) (s0 s1 s4 s6 s9 Mt R4:Option V),iJ K7 H (.ref l) sp.pots->eG sp->H su=some (.tup (ds.map V.int))->ds.length=sp.pots.length->H wl=some (.lst (Bc jt))->(∀ k ∈ jt,k < sp.pots.length)->(!(!jt.isEmpty && (iQ sp.closed d || decide (sp.cans < (jt.length:Int)))))=true -> (∀ H' r,Same H H'->aqF H' r ((d + 1) % sp.week) (jQ (iT sp) sp.cans (iQ sp.closed d) (cpsOf (cu sp.pots) ds) jt)->D.rt r H') -> t D [s0,s1,some (.ref wl),some (.ref l),s4,some (.int sp.week),s6,some (.int d),some (.ref su),s9,Mt,R4] H:=by
 refine ⟨_,aH (gR dY rfl (fK (pv 2)) (cZ 9 qW.nd) (aU (eV (cN RD (dh dM (pv 8) (pv 9) (fun _ _=>rfl)) (dh dM (dh gO (pv 3) (pv 9) (fun _ _=>rfl)) aV (fun _ _=>rfl)) (dz _)) (aU (cj ji)) cX))) (aH (bM (i:=10) qW.nd rfl (Or.inl rfl) (fZ aK)) (aH (gR dY rfl (jq rfl B.range (ao (ig dJ B.len PySem.boot_len (ao (pv 3) aK)) aK)) (cZ 9 qW.nd) (aH (bM (i:=11) qW.nd rfl (Or.inl rfl) (uY (cN O3 (pv 9) (pv 2) rfl) aV (bZ iH (dh dM (pv 8) (pv 9) (fun _ _=>rfl)) aV))) (aH (eV (cN jJ (pv 11) (dh dM (dh gO (pv 3) (pv 9) (fun _ _=>rfl)) aV (fun _ _=>rfl)) (dz _)) (aU (cj (dh dM (dh gO (pv 3) (pv 9) (fun _ _=>rfl)) aV (fun _ _=>rfl)))) cX) (aU (fu (lH PySem.F.plainAttrs_list PySem.F.slot_list_append PySem.F.type_list_append fX (pv 10) (ao (pv 11) aK))))))) (aU (cj (fJ (ao (bZ gH (bZ iH (pv 7) aV) (pv 5)) (ao (Hy sO B.tuple PyProof.Rows.boot_tuple (ao (pv 10) aK)) aK))))))),?_⟩;intro D H l wl su sp d ds jt s0 s1 s4 s6 s9 Mt R4 rl ok hs ld hw wb c0 q;obtain ⟨_,vs,el,hv,Am⟩:=id rl;cases el;have lv:vs.length=sp.pots.length:=Paired.length Am;have n8:=ok.n8;have w1:=ok.w1;have big:1000<=sizeLine:=by decide
 have lc:(cpsOf (cu sp.pots) ds).length=sp.pots.length:=by rw [wj (by rw [fU]; exact ld),fU]
 have row:∀ {H':Hp} (k:Nat),Same H H'->k < sp.pots.length->∃ (tc:aA) (c:Str × Int × Int) (n:Int),vs[k]?=some (.ref tc)/\sp.pots[k]?=some c/\ds[k]?=some n/\H' tc=some (.tup [.str c.1,.int c.2.1,.int c.2.2])/\(cpsOf (cu sp.pots) ds)[k]?=some ⟨n,c.2.1,c.2.2⟩:=by
  intro H' k s' lt;have hc:sp.pots[k]?=some sp.pots[k]:=aG lt;have hn:ds[k]?=some (ds[k]'(by omega)):=aG (by omega);obtain ⟨x,hx,rx⟩:=oY Am hc;obtain ⟨tc,y1,y2,y3,rfl,htc,r1,r2,r3⟩:=jF.same rx s';cases r1; cases r2; cases r3;exact ⟨tc,_,_,hx,hc,hn,htc,aao hc hn (ok.row _ (List.getElem_mem lt)).r1⟩
 refine ⟨_,rfl,wl,rfl,⟨_,cU.of hw⟩,?_⟩;refine gZ (K:=K) (a:=wl) (xs:=Bc jt) (fun i σ H'=>∃ u9,σ=[s0,s1,some (.ref wl),some (.ref l),s4,some (.int sp.week),s6,some (.int d),some (.ref su),u9,Mt,R4]/\H'=H/\((jt.take i).all fun k=>((cpsOf (cu sp.pots) ds)[k]?.map fun c=>decide (c.rest<=c.s)).getD true)=true) ⟨s9,rfl,rfl,rfl⟩ (fun i σ H' _ ⟨_,_,e,_⟩=>by rw [e]; exact cU.of hw) ?_ ?_
 ·rintro i x σ H1 hi ⟨u9,rfl,rfl,ha⟩;rw [aJ] at hi;obtain ⟨k,hk,rfl⟩:=bh.mp hi;have lk:=wb k (aP hk);obtain ⟨tc,c,n,hx,hc,hn,htc,hcp⟩:=row k (Same.refl _) lk;have hdn:(ds.map V.int)[k]?=some (.int n):=by rw [aJ,hn]; rfl
  refine ⟨_,rfl,_,rfl,su,_,_,_,rfl,rfl,fj.of hs,fD hdn,_,rfl,_,rfl,l,_,_,_,rfl,rfl,cU.of hv,fD hx,tc,_,2,.int c.2.2,rfl,rfl,fj.of htc,rfl,_,_,rfl,rfl,_,rfl,?_⟩
  by_cases z:n < c.2.2
  ·rw [aM z];refine eE (q H1 _ (Same.refl _) ?_);have:jz sp.cans (iQ sp.closed d) (cpsOf (cu sp.pots) ds) jt=false:=by
    unfold jz;rw [Bool.and_eq_false_iff];refine .inr ?_;rw [List.all_eq_false];refine ⟨k,aP hk,?_⟩;rw [hcp];simp;exact z
   unfold jQ;rw [this];rfl
  ·rw [aL z];refine d9 ⟨_,rfl,rfl,?_⟩;rw [take_snoc hk,all_append,ha];simp [hcp];omega
 rintro σ H1 ⟨u9,rfl,rfl,ha⟩;rw [ak,bU] at ha;have al:jz sp.cans (iQ sp.closed d) (cpsOf (cu sp.pots) ds) jt=true:=by
  unfold jz;rw [Bool.and_eq_true];exact ⟨c0,ha⟩
 refine ⟨by show 0<=sizeLine; decide,fun lf hlf=>?_⟩;have vf:=aY (o:=.lst []) hlf;refine ⟨_,rfl,l,_,rfl,.inl (cU.of (vf _ _ hv)),_,rfl,by omega,by omega,?_⟩;refine oM (lo:=0) (n:=((vs.length:Nat):Int).toNat) (fun i σ H'=>∃ u9 u11,σ=[s0,s1,some (.ref wl),some (.ref l),s4,some (.int sp.week),s6,some (.int d),some (.ref su),u9,some (.ref lf),u11]/\H' lf=some (.lst (((wN (cpsOf (cu sp.pots) ds) jt).take i).map V.int))/\(∀ j,j < i->(wN (cpsOf (cu sp.pots) ds) jt)[j]?≠(cpsOf (cu sp.pots) ds)[j]?.map Cp.gap)/\Same H1 H') ⟨_,_,rfl,aD,(fun j h=>by omega),vf⟩ ?_ ?_
 ·rintro i σ H2 lt ⟨u9,u11,rfl,hf,nd,s2⟩;have e0:(0 + (i:Int))=((i:Nat):Int):=Int.zero_add _;rw [e0];have lk:i < sp.pots.length:=by omega
  obtain ⟨tc,c,n,hx,hc,hn,htc,hcp⟩:=row i s2 lk;have hdn:(ds.map V.int)[i]?=some (.int n):=by rw [aJ,hn]; rfl
  have IK:=zR (jt:=jt) hcp;have lz:(((wN (cpsOf (cu sp.pots) ds) jt).take i).map V.int).length < sizeLine:=by
   rw [ak,length_take];omega
  refine ⟨_,rfl,_,rfl,wl,_,rfl,.inl (cU.of (s2 _ _ hw)),rfl,V8 jt,_,rfl,?_⟩
  show if (inV (.int (i:Int)) (Bc jt))=true then _ else _
  rw [V9]
  by_cases hm:i ∈ jt
  ·rw [if_pos hm] at IK;rw [aM hm];refine eE ?_;refine ⟨_,rfl,_,rfl,_,rfl,l,_,_,_,rfl,rfl,cU.of (s2 _ _ hv),fD hx,tc,_,1,.int c.2.1,rfl,rfl,fj.of htc,rfl,rfl,_,rfl,?_⟩
   by_cases z:(0:Int)=c.2.1
   ·refine eqT z ⟨_,rfl,_,rfl,l,_,_,_,rfl,rfl,cU.of (s2 _ _ hv),fD hx,tc,_,0,.str c.1,rfl,rfl,fj.of htc,rfl,q H2 _ s2 ?_⟩;have dr:Es (iT sp) (cpsOf (cu sp.pots) ds) jt=some c.1:=by
     refine Od (i:=i) (by omega) (fun j hj=>if_neg (nd j hj)) ?_;rw [IK,hcp,Option.map_some,z,if_pos rfl,iT,aJ,hc];rfl
    unfold jQ;rw [al,dr];rfl
   ·refine ZD z ⟨_,rfl,.inl ⟨rfl,_,cU.of hf⟩,_,rfl,lf,_,_,rfl,rfl,hf,lz,?_⟩;refine ⟨_,_,rfl,by rw [aD,take_snoc IK,aZ]; rfl,fun j hj=>?_,jB s2 hlf⟩
    by_cases e:j=i
    ·subst e;rw [IK,hcp,Option.map_some];intro e;exact z (bQ e)
    ·exact nd j (by omega)
  ·rw [if_neg hm] at IK;rw [aL hm];refine d9 ⟨_,rfl,_,rfl,su,_,_,_,rfl,rfl,fj.of (s2 _ _ hs),fD hdn,_,_,rfl,rfl,?_⟩;refine ⟨_,rfl,_,rfl,_,rfl,l,_,_,_,rfl,rfl,cU.of (s2 _ _ hv),fD hx,tc,_,1,.int c.2.1,rfl,rfl,fj.of htc,rfl,rfl,_,rfl,?_⟩
   by_cases z:n + 1=c.2.1
   ·refine eqT z ⟨_,rfl,_,rfl,l,_,_,_,rfl,rfl,cU.of (s2 _ _ hv),fD hx,tc,_,0,.str c.1,rfl,rfl,fj.of htc,rfl,q H2 _ s2 ?_⟩;have dr:Es (iT sp) (cpsOf (cu sp.pots) ds) jt=some c.1:=by
     refine Od (i:=i) (by omega) (fun j hj=>if_neg (nd j hj)) ?_;rw [IK,hcp,Option.map_some,z,if_pos rfl,iT,aJ,hc];rfl
    unfold jQ;rw [al,dr];rfl
   ·refine ZD z ⟨_,rfl,.inl ⟨rfl,_,cU.of hf⟩,_,rfl,lf,_,_,rfl,rfl,hf,lz,?_⟩;refine ⟨_,_,rfl,by rw [aD,take_snoc IK,aZ]; rfl,fun j hj=>?_,jB s2 hlf⟩
    by_cases e:j=i
    ·subst e;rw [IK,hcp,Option.map_some];intro e;exact z (bQ e)
    ·exact nd j (by omega)
 ·rintro σ H2 ⟨u9,u11,rfl,hf,nd,s2⟩;have fl:(wN (cpsOf (cu sp.pots) ds) jt).length=((vs.length:Nat):Int).toNat:=by
   unfold wN;rw [ak,bw,lc,lv];simp
  rw [<- fl,bU] at hf;have dr:Es (iT sp) (cpsOf (cu sp.pots) ds) jt=none:=by
   unfold Es;rw [List.findSome?_eq_none_iff];intro j hj;have:=mem_range.mp hj;exact if_neg (nd j (by omega))
  refine ⟨_,rfl,_,_,rfl,rfl,_,rfl,_,_,rfl,rfl,(by show 0 < sp.week; omega),_,rfl,lf,_,rfl,.inl ⟨cU.of hf,fun tt htt=>⟨by show 2<=sizeLine; decide,fun tr htr=>?_⟩⟩⟩;have v3:=aY (o:=.tup ((wN (cpsOf (cu sp.pots) ds) jt).map V.int)) htt;have v4:=aY (o:=.tup [V.int ((d + 1) % sp.week),.ref tt]) htr;refine q _ _ ((s2.trans v3).trans v4) ?_;unfold jQ;rw [al,dr];exact ⟨tr,_,_,rfl,aD,rfl,tt,_,rfl,v4 _ _ aD,Wb _⟩
theorem ai0 {f:aA} {fd:fQ} (F:n6 K "_law_behind" "_law_behind" lU f fd) (B:Qz mg):cD P w K mg base (fL P w) 1 f fd ["_law_spec_here","_law_state","_law_wet"] abN:=by
 refine F.mF qW (fun vs H Q E h=>?_) (fun cdv A outer s H vs Q E hr h=>?_)
 ·obtain ⟨v,sp,u,d,ds,wl,jt,rfl,_⟩:=h;rfl
 ·obtain ⟨v,sp,u,d,ds,wl,jt,rfl,⟨t,l,rfl,ht,rl⟩,ok,⟨t2,s2,rfl,Nu,hs2⟩,d0,ld,hw,wb,w8,q⟩:=h;obtain ⟨_,vs,el,hv,Am⟩:=id rl;cases el;have lv:vs.length=sp.pots.length:=Paired.length Am;have n8:=ok.n8;have w1:=ok.w1;have big:1000<=sizeLine:=by decide
  obtain ⟨tb,hB,Az⟩:=aAT (P:=P) (w:=w) (K:=K) (base:=base) (f:=f) (cdv:=cdv) (A:=A) (outer:=outer) (s:=s) (H₀:=H) (E:=E) B;refine ⟨_,aH (DW (pv 0) (lZ rfl (cg (cZ 3 qW.nd) (cg (cZ 4 qW.nd) (cg (cZ 5 qW.nd) (cg (cZ 6 qW.nd) gM)))))) (aH (DW (pv 1) (lZ rfl (cg (cZ 7 qW.nd) (cg (cZ 8 qW.nd) gM)))) (aH (eV (pw_and (cN (aia hr.units) (pv 2) (fZ aK) (dz _)) (pw_and1 (pw_or (cN jJ (bZ DY (bZ DX (pv 6) (pv 7)) aV) aV (dz _)) (pw_or1 (cN Mp (ig dJ B.len PySem.boot_len (ao (pv 2) aK)) (pv 4) (dz _)))).pt)).pt (aU (cj ji)) cX) hB)),?_⟩;refine ⟨_,rfl,t,_,rfl,fj.of ht,rfl,_,_,rfl,_,_,rfl,_,_,rfl,_,_,rfl,rfl,?_⟩;refine ⟨_,rfl,t2,_,rfl,fj.of Nu,rfl,_,_,rfl,_,_,rfl,rfl,?_⟩;refine ⟨_,rfl,by show 0<=sizeLine; decide,fun le hle=>?_⟩;have ve:=aY (o:=.lst []) hle;have rw0:iJ oh (upd H le (.lst [])) (.ref wl) (jt.map fun k:Nat=>(k:Int)):=⟨wl,_,rfl,ve _ _ hw,by
   rw [show Bc jt=(jt.map fun k:Nat=>(k:Int)).map V.int by rw [eY]; rfl]; exact Wb _⟩
  refine aif eq_int (n:=0) (by decide) rw0 ⟨le,[],rfl,aD,.nil⟩ ⟨_,rfl,?_⟩;cases jt with
  | nil =>
   refine d9 (d9 ?_);exact Az _ (upd H le (.lst [])) l wl s2 sp d ds [] _ _ _ _ _ _ _ (rl.same jF ve) ok (ve _ _ hs2) ld (ve _ _ hw) wb rfl (fun H' r s'=>q H' r (ve.trans s'))
  | cons k0 jt =>
   have no:∀ H',Same H H'->(iQ sp.closed d || decide (sp.cans < ((k0::jt).length:Int)))=true->Q .non H':=by
    intro H' s' c;refine q H' _ s' ?_;have:jz sp.cans (iQ sp.closed d) (cpsOf (cu sp.pots) ds) (k0::jt)=false:=by
     unfold jz;rw [c];rfl
    unfold jQ;rw [this];rfl
   refine eE ⟨_,rfl,_,rfl,_,_,rfl,rfl,d0,_,_,rfl,rfl,rfl,_,rfl,?_⟩;rw [ZS];cases eb:iQ sp.closed d with
   | true =>
    have eb':decide (Builtin.bitAnd (sp.closed / 2 ^ d.toNat) 1=1)=true:=eb;rw [eb'];exact eE (eE (no _ ve (by rw [eb]; rfl)))
   | false =>
    have eb':decide (Builtin.bitAnd (sp.closed / 2 ^ d.toNat) 1=1)=false:=eb;rw [eb'];refine d9 ⟨_,rfl,wl,_,rfl,.inl (cU.of (ve _ _ hw)),_,rfl,_,_,rfl,rfl,_,rfl,?_⟩;rw [ak]
    by_cases z:sp.cans < ((k0::jt).length:Int)
    ·rw [aM z];exact eE (no _ ve (by rw [eb,aM z]; rfl))
    ·rw [aL z];refine d9 ?_;exact Az _ (upd H le (.lst [])) l wl s2 sp d ds (k0::jt) _ _ _ _ _ _ _ (rl.same jF ve) ok (ve _ _ hs2) ld (ve _ _ hw) wb (by rw [eb,aL z]; rfl) (fun H' r s'=>q H' r (ve.trans s'))
end
abbrev uh:dW:=top 50
theorem pU {r:St} {x:Option V}:qd (none::r) ((none::r).set 0 x):=by
 intro j v h
 match j,h with
 | 0,h=>simp at h
 | j + 1,h=>exact h
def iU (sp:gj) (d:Int) (ds:List Int):List (Int × Int × List Int):=(wO (iT sp) sp.cans (iQ sp.closed d) (cpsOf (cu sp.pots) ds)).map fun q=>(q.1,(d + 1) % sp.week,q.2)
theorem Bd (n j:Nat):jh (n + 1) j=jh n j++if j.testBit n then [n] else []:=by
 unfold jh;rw [bY,cG];cases h:j.testBit n <;> simp [h]
section
variable {P:cC} {w:World} {K:Fg} {mg:Str->Option aB} {base:Heap} {a:gw} {dV:aB}
abbrev abO:List Str:=["_law_spec_here","_law_state","_law_found","_law_chosen","_law_wet","_law_ahead"]
def Oe:Sp:=fun vs H Q _=>∃ v sp u d ds,vs=[v,u]/\j5 H v sp/\eG sp/\j8 H u d ds/\0<=d/\ds.length=sp.pots.length /\ ∀ H' l,Same H H'->iJ o9 H' (.ref l) (iU sp d ds)->Q (.ref l) H'
theorem wC:bV abO ["_law_spec_here","_law_state"] (aW uh):=eO (by decide +kernel)
theorem Wc {f fb:aA} {fd db:fQ} (F:n6 K "_law_steps" "_law_steps" uh f fd) (B:Qz mg) (Bh':Fn K "_law_behind" "_law_behind" lU ["_law_spec_here","_law_state","_law_wet"] fb db) (mB:mg "_law_behind"=some (.ref fb)) : cD P w K mg base (fL P w) 2 f fd ["_law_spec_here","_law_state"] Oe:=by
 refine F.mF wC (fun vs H Q E h=>?_) (fun cdv A outer s H vs Q E hr h=>?_)
 ·obtain ⟨v,sp,u,d,ds,rfl,_⟩:=h;rfl
 ·obtain ⟨v,sp,u,d,ds,rfl,rs,ok,st,d0,ld,q⟩:=h;have okb:cD P w K mg base (fL P w) 1 fb db ["_law_spec_here","_law_state","_law_wet"] abN:=ai0 Bh'.F B;have nd2:[("_law_k":Str),"_law_chosen"].Nodup:=by decide +kernel
  refine ⟨_,aH (bM (i:=2) wC.nd rfl (Or.inl rfl) (fZ aK)) (aH (gR dY rfl (jq rfl B.range (ao (bZ JH aV (ig dJ B.len PySem.boot_len (ao (dh dM (pv 0) aV (fun _ _=>rfl)) aK))) aK)) (cZ 3 wC.nd rfl (Or.inr rfl)) (aH (vq (i:=4) wC.nd rfl (Or.inl rfl) bW rfl ⟨_,_,rfl,rfl,rfl⟩ (iY (N':=["_law_k","_law_chosen"]) (cl:=[("_law_chosen",s.heap.objs.size + 1)]) [none,some 3] abO (aW uh).names [(".0",.local),("_law_k",.local),("_law_chosen",.cell)] ["_law_chosen"] rfl (by decide +kernel) (by decide +kernel) rfl (fun p hp=>by rw [aC.mp hp]; rfl) rfl rfl rfl rfl (by decide +kernel) rfl (by decide +kernel)) (jq rfl B.range (ao (ig dJ B.len PySem.boot_len (ao (dh dM (pv 0) aV (fun _ _=>rfl)) aK)) aK)) (fun _ _ _ _ _=>cZ 0 nd2) (fun _ _ _ _ _=>vo (cN jJ (bZ DY (bZ DX (pv 1) (pv 0)) aV) aV (dz _))) (fun _ _ _ _ _ _=>pv 0)) (aH (bM (i:=5) wC.nd rfl (Or.inl rfl) (dI okb hr mB Bh'.F.kp Bh'.b bB (ao (pv 0) (ao (pv 1) (ao (pv 4) aK))))) (aU (eV (gQ (qD .tuple B.isinstance B.tuple (pv 5))) (aU (fu (lH PySem.F.plainAttrs_list PySem.F.slot_list_append PySem.F.type_list_append fX (pv 2) (ao (fJ (ao (pv 3) (ao (pv 5) aK))) aK)))) cX))))) (aU (cj (pv 2)))),?_⟩;obtain ⟨t,l,rfl,ht,rl⟩:=id rs;obtain ⟨_,vs,el,hv,Am⟩:=id rl;cases el;have lv:vs.length=sp.pots.length:=Paired.length Am;have n8:=ok.n8;have big:1000<=sizeLine:=by decide
  have lc:(cpsOf (cu sp.pots) ds).length=sp.pots.length:=by rw [wj (by rw [fU]; exact ld),fU]
  have aGM:=Aj n8;refine ⟨by show 0<=sizeLine; decide,fun lf hlf=>?_⟩;have vf:=aY (o:=.lst []) hlf;have e2:(1:Int) * 2 ^ ((vs.length:Nat):Int).toNat=((2 ^ sp.pots.length:Nat):Int):=by
   rw [lv,Int.one_mul];simp
  refine ⟨_,rfl,t,_,0,.ref l,rfl,rfl,fj.of (vf _ _ ht),rfl,l,_,rfl,.inl (cU.of (vf _ _ hv)),_,_,rfl,rfl,⟨by omega,by omega,by decide⟩,_,rfl,?_⟩;have en:((1:Int) * 2 ^ ((vs.length:Nat):Int).toNat).toNat=2 ^ sp.pots.length:=by rw [e2,cQ]
  have b1:-2 ^ 62<=(1:Int) * 2 ^ ((vs.length:Nat):Int).toNat/\(1:Int) * 2 ^ ((vs.length:Nat):Int).toNat < 2 ^ 62:=by rw [e2]; omega
  refine ⟨b1.1,b1.2,?_⟩;refine oM (lo:=0) (n:=((1:Int) * 2 ^ ((vs.length:Nat):Int).toNat).toNat) (fun i σ H'=>∃ u3 u4 u5,σ=[some (.ref t),some u,some (.ref lf),u3,u4,u5]/\iJ o9 H' (.ref lf) (((List.range i).filterMap (lK (iT sp) sp.cans (iQ sp.closed d) (cpsOf (cu sp.pots) ds))).map fun q=>(q.1,(d + 1) % sp.week,q.2))/\Same H H') ⟨none,none,none,rfl,⟨lf,[],rfl,aD,.nil⟩,vf⟩ ?_ ?_
  ·rintro j σ H1 lt ⟨u3,u4,u5,rfl,rf,s1⟩;rw [en] at lt;have e0:(0 + (j:Int))=((j:Nat):Int):=Int.zero_add _;rw [e0];have ht1:=s1 _ _ ht;have hv1:=s1 _ _ hv;refine ⟨_,rfl,t,_,0,.ref l,rfl,rfl,fj.of ht1,rfl,l,_,rfl,.inl (cU.of hv1),_,rfl,by omega,by omega,fun D hD=>?_⟩;refine vA sp.pots.length (by omega) (fun i acc H'=>acc=Bc (jh i j)/\H'=upd H1 D (.lst acc)) ⟨rfl,rfl⟩ (fun i acc H' le ⟨ea,eh⟩=>⟨?_,by rw [eh,aD]⟩) ?_ ?_
   ·rw [ea,ak];unfold jh;exact bJ (length_filter_le _ _) (by rw [bw]; exact aO _)
   ·rintro acc H' ⟨rfl,rfl⟩;refine ⟨(by show ((vs.length:Nat):Int).toNat<=sp.pots.length; omega),?_⟩;have vD:=aY (o:=.lst (Bc (jh sp.pots.length j))) hD;have s2:=s1.trans vD;have wb:∀ k ∈ jh sp.pots.length j,k < sp.pots.length:=fun k hk=>(pK.mp hk).1
    have w8:(jh sp.pots.length j).length<=8:=by
     unfold jh;exact bJ (length_filter_le _ _) (by rw [bw]; exact n8)
    refine ⟨_,rfl,_,rfl,_,rfl,_,sp,_,d,ds,D,_,rfl,rs.same s2,ok,st.same s2,d0,ld,aD,wb,w8,fun H3 r s3 hb=>?_⟩;have rf3:=rf.same iC (vD.trans s3);have s4:=s2.trans s3;obtain ⟨_,us,eu,hu,pu⟩:=id rf3;cases eu;have lu:us.length < sizeLine:=by
     rw [Paired.length pu,ak];have:=List.length_filterMap_le (lK (iT sp) sp.cans (iQ sp.closed d) (cpsOf (cu sp.pots) ds)) (List.range j);rw [bw] at this;omega
    have es:(List.range (j + 1)).filterMap (lK (iT sp) sp.cans (iQ sp.closed d) (cpsOf (cu sp.pots) ds))=(List.range j).filterMap (lK (iT sp) sp.cans (iQ sp.closed d) (cpsOf (cu sp.pots) ds))++(lK (iT sp) sp.cans (iQ sp.closed d) (cpsOf (cu sp.pots) ds) j).toList:=by
     rw [bY,List.filterMap_append];cases h:lK (iT sp) sp.cans (iQ sp.closed d) (cpsOf (cu sp.pots) ds) j <;> simp [h]
    cases eb:jQ (iT sp) sp.cans (iQ sp.closed d) (cpsOf (cu sp.pots) ds) (jh sp.pots.length j) with
    | no =>
     have ej:lK (iT sp) sp.cans (iQ sp.closed d) (cpsOf (cu sp.pots) ds) j=none:=by
      unfold lK;rw [lc,eb]
     rw [eb] at hb;cases hb;refine ⟨_,rfl,.non,.non,rfl,rfl,_,rfl,d9 ⟨_,_,_,rfl,?_,s4⟩⟩;rw [es,ej];simp;exact rf3
    | dry nm =>
     have ej:lK (iT sp) sp.cans (iQ sp.closed d) (cpsOf (cu sp.pots) ds) j=none:=by
      unfold lK;rw [lc,eb]
     rw [eb] at hb;cases hb;refine ⟨_,rfl,.str nm,.str,rfl,⟨_,rfl⟩,_,rfl,d9 ⟨_,_,_,rfl,?_,s4⟩⟩;rw [es,ej];simp;exact rf3
    | st far =>
     have ej:lK (iT sp) sp.cans (iQ sp.closed d) (cpsOf (cu sp.pots) ds) j=some ((j:Int),far):=by
      unfold lK;rw [lc,eb]
     rw [eb] at hb;obtain ⟨tr,y1,y2,rfl,htr,r1,r2⟩:=id hb;refine ⟨_,rfl,.ref tr,.tup,rfl,⟨tr,_,rfl,htr⟩,_,rfl,eE ⟨_,rfl,.inl ⟨rfl,_,cU.of hu⟩,_,rfl,_,rfl,by show 2<=sizeLine; decide,fun tp htp=>?_⟩⟩;have v5:=aY (o:=.tup [V.int (j:Int),.ref tr]) htp;have hu5:=v5 _ _ hu;refine ⟨lf,us,_,rfl,rfl,hu5,lu,_,_,_,rfl,⟨lf,_,rfl,aD,?_⟩,jB (s4.trans v5) hlf⟩;rw [es,ej,aZ];refine j9 (Paired.gG pu fun _ _ z=>iC.upd (iC.same z v5) hu5) (.cons ?_ .nil);exact iC.upd ⟨tp,_,_,rfl,aD,rfl,(vG jr (qG jr)).same hb v5⟩ hu5
   ·rintro i acc H' Em ⟨rfl,rfl⟩;refine ⟨(by show i < ((vs.length:Nat):Int).toNat; omega),?_⟩;rintro x yp ⟨rfl,rfl⟩ Qc Qn k kn;have e1:(0 + (i:Int))=((i:Nat):Int):=Int.zero_add _;rw [e1];refine ⟨pU,_,rfl,_,rfl,_,_,rfl,rfl,(by show (0:Int)<=(i:Int); omega),_,_,rfl,rfl,rfl,_,rfl,?_⟩;rw [ZS];have eb:=S7 j i;unfold iQ at eb;rw [eb];cases tb:j.testBit i with
    | true =>
     refine eE ⟨_,rfl,k _ _ aD ⟨?_,by rw [lQ]⟩⟩;rw [Bd,tb];simp
    | false =>
     refine d9 (kn _ ⟨?_,rfl⟩);rw [Bd,tb];simp
  ·rintro σ H1 ⟨u3,u4,u5,rfl,rf,s1⟩;refine ⟨_,rfl,q H1 lf s1 ?_⟩;unfold iU wO;rw [lc];rw [en] at rf;exact rf
end
abbrev mW:dW:=top 52
def iW (g:Int) (fs:List (List Int)):List (List Int):=fs.flatMap fun c=>(List.range g.toNat).map fun k:Nat=>c++[(k:Int)]
def combs (gs:List Int):List (List Int):=gs.foldl (fun fs g=>iW g fs) [[]]
def jU (sp:gj):List (Int × List Int):=(List.range sp.week.toNat).flatMap fun d:Nat=>(combs (sp.pots.map fun q=>q.2.1)).map fun c=>((d:Int),c)
theorem Bf (gs:List Int) (g:Int):combs (gs++[g])=iW g (combs gs):=by
 unfold combs;rw [foldl_append];rfl
theorem rZ {g:Int}:∀ fs:List (List Int),(iW g fs).length=fs.length * g.toNat
 | []=>by simp [iW]
 | c::fs=>by
  have ih:=rZ (g:=g) fs;unfold iW at ih ⊢;rw [flatMap_cons,aQ,ih,ak,bw,length_cons,Nat.succ_mul];omega
def lV (gs:List Int) (n:Nat):Nat:=gs.foldl (fun n g=>n * g.toNat) n
theorem IV:∀ (gs:List Int) (fs:List (List Int)),(gs.foldl (fun fs g=>iW g fs) fs).length=lV gs fs.length
 | [],_=>rfl
 | g::gs,fs=>by
  show (gs.foldl (fun fs g=>iW g fs) (iW g fs)).length=lV gs (fs.length * g.toNat)
  rw [IV gs,rZ]
theorem Dn (gs:List Int):(combs gs).length=lV gs 1:=IV gs [[]]
theorem IW:∀ (gs:List Int) (n m:Nat),lV gs (n * m)=n * lV gs m
 | [],_,_=>rfl
 | g::gs,n,m=>by
  show lV gs (n * m * g.toNat)=n * lV gs (m * g.toNat)
  rw [Nat.mul_assoc,IW gs]
theorem Og:∀ (gs:List Int) (n:Nat),(∀ g ∈ gs,1<=g)->n<=lV gs n
 | [],_,_=>aO _
 | g::gs,n,h=>by
  have h1:=h g (by simp);have ih:=Og gs (n * g.toNat) fun z hz=>h z (by simp [hz])
  have:n * 1<=n * g.toNat:=Nat.mul_le_mul_left n (by omega)
  show n<=lV gs (n * g.toNat)
  omega
theorem Rf {gs:List Int} (h:∀ g ∈ gs,1<=g) (i:Nat) (n:Nat):lV (gs.take i) n<=lV gs n:=by
 have e:lV gs n=lV (gs.drop i) (lV (gs.take i) n):=by
  unfold lV;rw [<- foldl_append,take_append_drop]
 rw [e];exact Og _ _ fun g hg=>h g (List.mem_of_mem_drop hg)
theorem Ja:∀ (qs:List (Str × Int × Int)) (n:Nat),(∀ q ∈ qs,1<=q.2.1)->sizeOf (n:Int) (cu qs)=((lV (qs.map fun q=>q.2.1) n:Nat):Int)
 | [],_,_=>rfl
 | q::qs,n,h=>by
  have h1:=h q (by simp);have e:(n:Int) * q.2.1=((n * q.2.1.toNat:Nat):Int):=by
   rw [Int.natCast_mul]
   congr 1
   omega
  have ih:=Ja qs (n * q.2.1.toNat) fun z hz=>h z (by simp [hz])
  show sizeOf ((n:Int) * q.2.1) (cu qs)=((lV (qs.map fun q=>q.2.1) (n * q.2.1.toNat):Nat):Int)
  rw [e,ih]
abbrev gk (sp:gj):List Int:=sp.pots.map fun q=>q.2.1
theorem eG.len {sp:gj} (ok:eG sp):sp.week.toNat * lV (gk sp) 1<=4000:=by
 have w1:=ok.w1;have h:=Ja sp.pots sp.week.toNat fun q hq=>(ok.row q hq).g1
 have e:((sp.week.toNat:Nat):Int)=sp.week:=by omega
 rw [e] at h;have e2:lV (gk sp) sp.week.toNat=sp.week.toNat * lV (gk sp) 1:=by
  have:=IW (gk sp) sp.week.toNat 1
  rwa [Nat.mul_one] at this
 have sz:=ok.sz;rw [h] at sz;have sz':lV (gk sp) sp.week.toNat<=4000:=by
  have s2:((lV (gk sp) sp.week.toNat:Nat):Int)<=((4000:Nat):Int):=sz;exact Int.ofNat_le.mp s2
 rw [e2] at sz';exact sz'
theorem eG.aap {sp:gj} (ok:eG sp):∀ g ∈ gk sp,1<=g:=by
 intro g hg;obtain ⟨q,hq,rfl⟩:=bx.mp hg;exact (ok.row q hq).g1
theorem eG.comb {sp:gj} (ok:eG sp) (i:Nat):(combs ((gk sp).take i)).length<=4000:=by
 rw [Dn];have h1:=Rf ok.aap i 1;have h2:=ok.len;have w1:=ok.w1;have h3:1 * lV (gk sp) 1<=sp.week.toNat * lV (gk sp) 1:=Nat.mul_le_mul_right _ (by omega);omega
theorem K8 {g:Int} {fs:List (List Int)} (j:Nat):(iW g (fs.take j)).length<=(iW g fs).length:=by
 rw [rZ,rZ];exact Nat.mul_le_mul_right _ (by rw [length_take]; omega)
theorem Bg {g:Int} {fs:List (List Int)} {j:Nat} {c:List Int} (h:fs[j]?=some c):iW g (fs.take (j + 1))=iW g (fs.take j)++(List.range g.toNat).map fun k:Nat=>c++[(k:Int)]:=by
 rw [take_snoc h];unfold iW;rw [flatMap_append];simp
theorem Jb (cs:List (List Int)):∀ d:Nat,((List.range d).flatMap fun d:Nat=>cs.map fun c=>((d:Int),c)).length=d * cs.length
 | 0=>by simp
 | d + 1=>by
  rw [bY,flatMap_append,aQ,Jb cs d,Nat.succ_mul,flatMap_cons,List.flatMap_nil,cA,ak]
theorem Dp {n:Nat}:∀ (gs:List Int) (fs:List (List Int)),(∀ c ∈ fs,c.length=n)->∀ c ∈ gs.foldl (fun fs g=>iW g fs) fs,c.length=n + gs.length
 | [],fs,h=>h
 | g::gs,fs,h=>by
  intro c hc;have ih:=Dp (n:=n + 1) gs (iW g fs) (fun c hc=>by
   unfold iW at hc;obtain ⟨b,hb,hc⟩:=mem_flatMap.mp hc;obtain ⟨k,_,rfl⟩:=bx.mp hc;rw [aQ,h b hb];rfl) c hc
  rw [ih,length_cons];omega
section
variable {P:cC} {w:World} {K:Fg} {mg:Str->Option aB} {base:Heap} {a:gw} {dV:aB}
abbrev Ph:List Str:=["_law_spec_here","_law_found","_law_name","_law_gap","_law_rest","_law_longer","_law_since","_law_states_here","_law_day"]
def Dq:Sp:=fun vs H Q _=>∃ v sp,vs=[v]/\j5 H v sp/\eG sp/\∀ H' l,Same H H'->iJ je H' (.ref l) (jU sp)->Q (.ref l) H'
theorem jc:bV Ph ["_law_spec_here"] (aW mW):=eO (by decide +kernel)
theorem K9 {f:aA} {fd:fQ} (F:n6 K "_law_states" "_law_states" mW f fd) (B:Qz mg):cD P w K mg base (fL P w) 1 f fd ["_law_spec_here"] Dq:=by
 refine F.mF jc (fun vs H Q E h=>?_) (fun cdv A outer s H vs Q E hr h=>?_)
 ·obtain ⟨v,sp,rfl,_⟩:=h;rfl
 ·obtain ⟨v,sp,rfl,⟨t,l,rfl,ht,rl⟩,ok,q⟩:=h;have ndA:[("_law_far":Str),"_law_since"].Nodup:=by decide +kernel
  have ndB:[("_law_since":Str),"_law_day"].Nodup:=by decide +kernel
  refine ⟨_,aH (bM (i:=1) jc.nd rfl (Or.inl rfl) (fZ (ao (fJ aK) aK))) (aH (gR dY rfl (fK (dh dM (pv 0) aV (fun _ _=>rfl))) (lZ rfl (cg (cZ 2 jc.nd) (cg (cZ 3 jc.nd) (cg (cZ 4 jc.nd) gM)))) (aH (bM (i:=5) jc.nd rfl (Or.inl rfl) (fZ aK)) (aH (gR dY rfl (fK (pv 1)) (cZ 6 jc.nd rfl (Or.inr rfl)) (aU (fu (lH PySem.F.plainAttrs_list PySem.F.slot_list_extend PySem.F.type_list_extend Ck (pv 5) (ao (jg bW rfl ⟨_,_,rfl,rfl,rfl⟩ (iY (N':=["_law_far","_law_since"]) (cl:=[("_law_since",s.heap.objs.size + 1)]) [none,some 6] Ph (aW mW).names [(".0",.local),("_law_far",.local),("_law_since",.cell)] ["_law_since"] rfl (by decide +kernel) (by decide +kernel) rfl (fun p hp=>by rw [aC.mp hp]; rfl) rfl rfl rfl rfl (by decide +kernel) rfl (by decide +kernel)) (jq rfl B.range (ao (pv 3) aK)) (fun _ _ _ _ _=>cZ 0 ndA) (fun _ _ _ _ _=>jf) (fun _ _ _ _ _ _=>bZ yX (pv 1) (fJ (ao (pv 0) aK)))) aK))))) (aU (bM (i:=1) jc.nd rfl (Or.inl rfl) (pv 5)))))) (aH (bM (i:=7) jc.nd rfl (Or.inl rfl) (fZ aK)) (aH (gR dY rfl (jq rfl B.range (ao (dh dM (pv 0) aV (fun _ _=>rfl)) aK)) (cZ 8 jc.nd rfl (Or.inr rfl)) (aU (fu (lH PySem.F.plainAttrs_list PySem.F.slot_list_extend PySem.F.type_list_extend Ck (pv 7) (ao (jg bW rfl ⟨_,_,rfl,rfl,rfl⟩ (iY (N':=["_law_since","_law_day"]) (cl:=[("_law_day",s.heap.objs.size + 2)]) [none,some 8] Ph (aW mW).names [(".0",.local),("_law_since",.local),("_law_day",.cell)] ["_law_day"] rfl (by decide +kernel) (by decide +kernel) rfl (fun p hp=>by rw [aC.mp hp]; rfl) rfl rfl rfl rfl (by decide +kernel) rfl (by decide +kernel)) (fK (pv 1)) (fun _ _ _ _ _=>cZ 0 ndB) (fun _ _ _ _ _=>jf) (fun _ _ _ _ _ _=>fJ (ao (pv 1) (ao (pv 0) aK)))) aK))))) (aU (cj (pv 7)))))),?_⟩;obtain ⟨_,vs,el,hv,Am⟩:=id rl;cases el;have lv:vs.length=sp.pots.length:=Paired.length Am;have n8:=ok.n8;have w1:=ok.w1;have w2:=ok.w2;have big:10000<=sizeLine:=by decide
  have sRT:zP (vB oh):=qG jr;refine ⟨by show 0<=sizeLine; decide,fun t0 h0=>⟨by show 1<=sizeLine; decide,fun l0 hl0=>?_⟩⟩;have v0:=aY (o:=.tup []) h0;have v1:=aY (o:=.lst [V.ref t0]) hl0;have sA:=v0.trans v1;have r0:iJ (vB oh) (upd (upd H t0 (.tup [])) l0 (.lst [V.ref t0])) (.ref l0) (combs ((gk sp).take 0)):=⟨l0,_,rfl,aD,.cons ⟨t0,[],rfl,v1 _ _ aD,.nil⟩ .nil⟩;refine ⟨_,rfl,t,_,0,.ref l,rfl,rfl,fj.of (sA _ _ ht),rfl,l,rfl,⟨_,cU.of (sA _ _ hv)⟩,?_⟩;refine gZ (K:=K) (a:=l) (xs:=vs) (fun i σ H'=>∃ fl u2 u3 u4 u5 u6,σ=[some (.ref t),some (.ref fl),u2,u3,u4,u5,u6,none,none]/\iJ (vB oh) H' (.ref fl) (combs ((gk sp).take i))/\Same H H') ⟨l0,none,none,none,none,none,rfl,r0,sA⟩ (fun i σ H' _ ⟨_,_,_,_,_,_,_,_,s'⟩=>cU.of (s' _ _ hv)) ?_ ?_
  ·rintro i x σ H1 hi ⟨fl,u2,u3,u4,u5,u6,rfl,rf,s1⟩;obtain ⟨c,hc,rc⟩:=dB Am hi;have yO:=ok.row c (aP hc);have g1:=yO.g1;have g2:=yO.g2;have hg:(gk sp)[i]?=some c.2.1:=by rw [aJ,hc]; rfl
   obtain ⟨tc,y1,y2,y3,rfl,htc,r1,r2,r3⟩:=jF.same rc s1;cases r1; cases r2; cases r3;have cb:=ok.comb (i + 1);rw [take_snoc hg,Bf] at cb;have each:∀ b ∈ combs ((gk sp).take i),b.length<=8:=by
    intro b hb;have:=Dp (n:=0) ((gk sp).take i) [[]] (fun c hc=>by rw [aC.mp hc]; rfl) b hb;rw [length_take,ak] at this;omega
   refine ⟨tc,_,rfl,fj.of htc,rfl,_,_,rfl,_,_,rfl,_,_,rfl,rfl,?_⟩;refine ⟨by show 0<=sizeLine; decide,fun ll hll=>?_⟩;have vl:=aY (o:=.lst []) hll;obtain ⟨_,ws,ew,hw,pw⟩:=id rf;cases ew;have lw:ws.length=(combs ((gk sp).take i)).length:=Paired.length pw;refine ⟨_,rfl,fl,rfl,⟨_,cU.of (vl _ _ hw)⟩,?_⟩;refine gZ (K:=K) (a:=fl) (xs:=ws) (fun j σ H'=>∃ u6,σ=[some (.ref t),some (.ref fl),some (.str c.1),some (.int c.2.1),some (.int c.2.2),some (.ref ll),u6,none,none]/\iJ (vB oh) H' (.ref ll) (iW c.2.1 ((combs ((gk sp).take i)).take j))/\Same H1 H') ⟨_,rfl,⟨ll,[],rfl,aD,.nil⟩,vl⟩ (fun j σ H' _ ⟨_,_,_,s'⟩=>cU.of (s' _ _ hw)) ?_ ?_
   ·rintro j y σ H2 hj ⟨v6,rfl,rl2,s2⟩;obtain ⟨b,hb,rb⟩:=dB pw hj;have lb:=each b (aP hb);obtain ⟨_,us,eu,hu,pu⟩:=id rl2;cases eu;have st0:=K8 (g:=c.2.1) (fs:=combs ((gk sp).take i)) (j + 1);have lu:us.length=(iW c.2.1 ((combs ((gk sp).take i)).take j)).length:=Paired.length pu;rw [Bg hb,aQ,ak,bw] at st0;refine ⟨_,rfl,.inl ⟨rfl,_,cU.of hu⟩,_,rfl,_,rfl,by omega,by omega,fun D hD=>?_⟩;refine G7 sRT (fun k:Nat=>b++[(k:Int)]) rfl (by omega) hD ?_ ?_
    ·intro k H3 lk s3 Qc kk;obtain ⟨tb,bs,rfl,htb,pb⟩:=sRT.same rb (s2.trans s3);refine ⟨pU,_,rfl,_,rfl,by show 1<=sizeLine; decide,fun t1 h1=>?_⟩;have v2:=aY (o:=.tup [V.int (k:Int)]) h1;refine ⟨tb,t1,bs,_,rfl,rfl,v2 _ _ htb,aD,by rw [Paired.length pb]; show b.length + 1<=sizeLine; omega,fun p2 H4 s4 hp2=>?_⟩;exact kk _ _ (v2.trans s4) ⟨p2,_,rfl,hp2,ints_snoc pb (k:Int)⟩
    ·rintro H3 s3 ⟨_,zs,ez,hz,pz⟩;cases ez;have hu3:=s3 _ _ hu;have lz:zs.length=c.2.1.toNat:=by rw [Paired.length pz,ak,bw]
     refine ⟨ll,D,us,zs,rfl,rfl,hu3,hz,by omega,_,rfl,⟨ll,_,rfl,aD,?_⟩,jB (s2.trans s3) hll⟩;rw [Bg hb];exact j9 (Paired.gG pu fun _ _ z=>sRT.upd (sRT.same z s3) hu3) (Paired.gG pz fun _ _ z=>sRT.upd z hu3)
   ·rintro σ H2 ⟨v6,rfl,rl2,s2⟩;refine ⟨_,rfl,ll,_,_,_,_,_,rfl,?_,s1.trans s2⟩;rw [lw,bU] at rl2;rw [take_snoc hg,Bf];exact rl2
  ·rintro σ H1 ⟨fl,u2,u3,u4,u5,u6,rfl,rf,s1⟩;have eT:(gk sp).take vs.length=gk sp:=by rw [lv,<- ak (f:=fun q:Str × Int × Int=>q.2.1),bU]
   rw [eT] at rf;have cb:=ok.len;have cl:=Dn (gk sp);refine ⟨by show 0<=sizeLine; decide,fun sl hsl=>?_⟩;have vl:=aY (o:=.lst []) hsl;refine ⟨_,rfl,t,_,2,.int sp.week,rfl,rfl,fj.of (vl _ _ (s1 _ _ ht)),rfl,_,rfl,by omega,by omega,?_⟩;refine oM (lo:=0) (n:=sp.week.toNat) (fun d σ H'=>∃ u8,σ=[some (.ref t),some (.ref fl),u2,u3,u4,u5,u6,some (.ref sl),u8]/\iJ je H' (.ref sl) ((List.range d).flatMap fun d:Nat=>(combs (gk sp)).map fun c=>((d:Int),c))/\Same H1 H') ⟨none,rfl,⟨sl,[],rfl,aD,.nil⟩,vl⟩ ?_ ?_
   ·rintro d σ H2 lt ⟨u8,rfl,rs,s2⟩;have e0:(0 + (d:Int))=((d:Nat):Int):=Int.zero_add _;rw [e0];have rf2:=rf.same sRT s2;obtain ⟨_,ws,ew,hw,pw⟩:=id rf2;cases ew;have lw:=Paired.length pw;obtain ⟨_,us,eu,hu,pu⟩:=id rs;cases eu;have lu:us.length=d * (combs (gk sp)).length:=by
     rw [Paired.length pu];exact Jb _ d
    have ml:(d + 1) * (combs (gk sp)).length<=sp.week.toNat * (combs (gk sp)).length:=Nat.mul_le_mul_right _ lt;rw [cl] at ml lu;rw [Nat.succ_mul] at ml;refine ⟨_,rfl,.inl ⟨rfl,_,cU.of hu⟩,_,rfl,fl,rfl,⟨_,cU.of hw⟩,fun D hD=>vH sRT fP (fun c=>((d:Int),c)) rf2 (by omega) hD ?_ ?_⟩
    ·rintro k b y H3 hb rb s3 Qc kk;refine ⟨pU,_,rfl,_,rfl,by show 2<=sizeLine; decide,fun t1 h1=>?_⟩;have v2:=aY (o:=.tup [V.int (d:Int),y]) h1;exact kk _ _ v2 ⟨t1,_,_,rfl,aD,rfl,sRT.same rb v2⟩
    ·rintro H3 s3 ⟨_,zs,ez,hz,pz⟩;cases ez;have hu3:=s3 _ _ hu;have lz:zs.length=(combs (gk sp)).length:=by rw [Paired.length pz,ak]
     refine ⟨sl,D,us,zs,rfl,rfl,hu3,hz,by omega,_,rfl,⟨sl,_,rfl,aD,?_⟩,jB (s2.trans s3) hsl⟩;rw [bY,flatMap_append];refine j9 (Paired.gG pu fun _ _ z=>fP.upd (fP.same z s3) hu3) ?_;rw [flatMap_cons,List.flatMap_nil,cA];exact Paired.gG pz fun _ _ z=>fP.upd z hu3
   ·rintro σ H2 ⟨u8,rfl,rs,s2⟩;exact ⟨_,rfl,q H2 sl (s1.trans s2) rs⟩
end
theorem Rg {sp:gj} (ok:eG sp) {d:Int} {ds:List Int} (ld:ds.length=sp.pots.length):jl (cW sp) d ds=iU sp d ds:=by
 have lc:(cpsOf (cu sp.pots) ds).length=sp.pots.length:=by rw [wj (by rw [fU]; exact ld),fU]
 have h:=sV (nms:=iT sp) (cans:=sp.cans) (shut:=iQ sp.closed d) (l:=cpsOf (cu sp.pots) ds) (by rw [lc,ak]) ok.c1 (fun c hc=>by
  obtain ⟨q,hq,rfl⟩:=bx.mp hc;have hp:=(of_mem_zip hq).1;obtain ⟨z,hz,e⟩:=bx.mp hp
  show 1<=q.1.gap
  rw [<- e];exact (ok.row z hz).g1)
 show (oZ (if iQ sp.closed d then 0 else sp.cans) (cpsOf (cu sp.pots) ds)).map (fun q=>(q.1,(d + 1) % sp.week,q.2))=_
 rw [h];rfl
def InC (ps:List Int) (c:List Int):Prop:=c.length=ps.length/\∀ (i:Nat) y g,c[i]?=some y->ps[i]?=some g->0<=y/\y < g
theorem Wd {ps c:List Int} {g:Int} {k:Nat} (h:InC ps c) (hk:(k:Int) < g):InC (ps++[g]) (c++[(k:Int)]):=by
 refine ⟨by rw [aQ,aQ,h.1]; rfl,fun i y g' hy hg=>?_⟩
 by_cases lt:i < c.length
 ·rw [List.getElem?_append_left lt] at hy;rw [List.getElem?_append_left (by rw [<- h.1]; exact lt)] at hg;exact h.2 i y g' hy hg
 ·rw [List.getElem?_append_right (by omega)] at hy;rw [List.getElem?_append_right (by rw [<- h.1]; omega)] at hg;have e1:i - c.length=0:=by
   have:=(aF.mp hy).1;simp at this;omega
  rw [e1] at hy;rw [<- h.1,e1] at hg;cases hy;cases hg;exact ⟨by omega,hk⟩
theorem Oh:∀ (gs ps:List Int) (fs:List (List Int)),(∀ c ∈ fs,InC ps c)->∀ c ∈ gs.foldl (fun fs g=>iW g fs) fs,InC (ps++gs) c
 | [],ps,fs,h=>by rw [cA]; exact h
 | g::gs,ps,fs,h=>by
  have ih:=Oh gs (ps++[g]) (iW g fs) (fun c hc=>by
   unfold iW at hc;obtain ⟨b,hb,hc⟩:=mem_flatMap.mp hc;obtain ⟨k,hk,rfl⟩:=bx.mp hc;have:=mem_range.mp hk;exact Wd (h b hb) (by omega))
  rw [append_assoc] at ih;exact ih
theorem Rh {g:Int} (hg:1<=g) {fs:List (List Int)} {z:List Int} (h:fs.head?=some z):(iW g fs).head?=some (z++[0]):=by
 cases fs with
 | nil=>cases h
 | cons c fs =>
  cases h;have e:g.toNat=(g.toNat - 1) + 1:=by omega
  unfold iW;rw [flatMap_cons,e,range_succ_eq_map];rfl
theorem Dr:∀ (gs:List Int) (fs:List (List Int)) (z:List Int),(∀ g ∈ gs,1<=g)->fs.head?=some z->(gs.foldl (fun fs g=>iW g fs) fs).head?=some (z++List.replicate gs.length 0)
 | [],fs,z,_,h=>by rw [List.length_nil,List.replicate_zero,cA]; exact h
 | g::gs,fs,z,hg,h=>by
  have ih:=Dr gs (iW g fs) (z++[0]) (fun x hx=>hg x (by simp [hx])) (Rh (hg g (by simp)) h);rw [append_assoc] at ih;exact ih
theorem eG.st {sp:gj} (ok:eG sp) {d:Int} {ds:List Int} (h:(d,ds) ∈ jU sp):gK sp.week (cu sp.pots) d ds:=by
 unfold jU at h;obtain ⟨k,hk,h⟩:=mem_flatMap.mp h;obtain ⟨c,hc,e⟩:=bx.mp h;cases e;have lk:=mem_range.mp hk;have i:=Oh (gk sp) [] [[]] (fun c hc=>by rw [aC.mp hc]; exact ⟨rfl,fun i y g hy=>by simp at hy⟩) ds hc;rw [nil_append] at i;refine ⟨by omega,by have:=ok.w1; omega,by rw [i.1,ak,fU],fun j y p hy hp=>?_⟩;rw [cu,aJ] at hp;obtain ⟨q,hq,rfl⟩:=bh.mp hp;exact i.2 j y q.2.1 hy (by rw [aJ,hq]; rfl)
theorem eG.first {sp:gj} (ok:eG sp):(jU sp)[0]?=some (0,List.replicate sp.pots.length 0):=by
 have h:=Dr (gk sp) [[]] [] ok.aap rfl;rw [nil_append,ak] at h;have w1:=ok.w1;have e:sp.week.toNat=(sp.week.toNat - 1) + 1:=by omega
 have h':(combs (gk sp)).head?=some (List.replicate sp.pots.length 0):=h;unfold jU;rw [<- List.head?_eq_getElem?,e,range_succ_eq_map,flatMap_cons,List.head?_append,List.head?_map,h'];rfl
abbrev Ds:dW:=top 51
section
variable {P:cC} {w:World} {K:Fg} {mg:Str->Option aB} {base:Heap} {a:gw} {dV:aB}
abbrev aqH:List Str:=["_law_spec_here","_law_state","_law_found","_law_k"]
def La:Sp:=fun vs H Q _=>∃ v sp u d ds,vs=[v,u]/\j5 H v sp/\eG sp/\j8 H u d ds/\ds.length=sp.pots.length/\Q (.int (numOf d (cu sp.pots) ds)) H
theorem FZ:bV aqH ["_law_spec_here","_law_state"] (aW Ds):=eO (by decide +kernel)
theorem Wf {ps:List cL} {ds:List Int} {i:Nat} {p:cL} {n d:Int} (hp:ps[i]?=some p) (hn:ds[i]?=some n):numOf d (ps.take (i + 1)) (ds.take (i + 1))=numOf d (ps.take i) (ds.take i) * p.gap + n:=by
 have l1:(ps.take i).length=(ds.take i).length:=by
  have:=(aF.mp hp).1;have:=(aF.mp hn).1;rw [length_take,length_take];omega
 rw [take_snoc hp,take_snoc hn,numOf,numOf,List.zip_append l1,foldl_append];rfl
theorem Oi {f:aA} {fd:fQ} (F:n6 K "_law_number" "_law_number" Ds f fd) (B:Qz mg):cD P w K mg base (fL P w) 1 f fd ["_law_spec_here","_law_state"] La:=by
 refine F.mF FZ (fun vs H Q E h=>?_) (fun cdv A outer s H vs Q E hr h=>?_)
 ·obtain ⟨v,sp,u,d,ds,rfl,_⟩:=h;rfl
 ·obtain ⟨v,sp,u,d,ds,rfl,⟨t,l,rfl,ht,rl⟩,ok,⟨tu,su,rfl,hu,hsu⟩,ld,q⟩:=h;refine ⟨_,aH (bM (i:=2) FZ.nd rfl (Or.inl rfl) (dh dM (pv 1) aV (fun _ _=>rfl))) (aH (gR dY rfl (jq rfl B.range (ao (ig dJ B.len PySem.boot_len (ao (dh dM (pv 0) aV (fun _ _=>rfl)) aK)) aK)) (cZ 3 FZ.nd) (aU (bM (i:=2) FZ.nd rfl (Or.inl rfl) (bZ iH (bZ tD (pv 2) (dh dM (dh gO (dh dM (pv 0) aV (fun _ _=>rfl)) (pv 3) (fun _ _=>rfl)) aV (fun _ _=>rfl))) (dh dM (dh dM (pv 1) aV (fun _ _=>rfl)) (pv 3) (fun _ _=>rfl)))))) (aU (cj (pv 2)))),?_⟩;obtain ⟨_,vs,el,hv,Am⟩:=id rl;cases el;have lv:vs.length=sp.pots.length:=Paired.length Am;have n8:=ok.n8;refine ⟨_,rfl,tu,_,0,.int d,rfl,rfl,fj.of hu,rfl,?_⟩;refine ⟨_,rfl,t,_,0,.ref l,rfl,rfl,fj.of ht,rfl,l,_,rfl,.inl (cU.of hv),_,rfl,by omega,by omega,?_⟩;refine oM (lo:=0) (n:=((vs.length:Nat):Int).toNat) (fun i σ H'=>∃ u3,σ=[some (.ref t),some (.ref tu),some (.int (numOf d ((cu sp.pots).take i) (ds.take i))),u3]/\H'=H) ⟨none,rfl,rfl⟩ ?_ ?_
  ·rintro i σ H2 lt ⟨u3,rfl,rfl⟩;have li:i < sp.pots.length:=by omega
   have e0:(0 + (i:Int))=((i:Nat):Int):=Int.zero_add _;rw [e0];have hc:sp.pots[i]?=some sp.pots[i]:=aG li;obtain ⟨y,hy,ry⟩:=oY Am hc;obtain ⟨tc,y1,y2,y3,rfl,htc,r1,r2,r3⟩:=ry;cases r2;have yO:=ok.row _ (List.getElem_mem li);have g1:=yO.g1;have g2:=yO.g2;have hd:ds[i]?=some ds[i]:=aG (by omega);have hdv:(ds.map V.int)[i]?=some (.int ds[i]):=by rw [aJ,hd]; rfl
   have hp:(cu sp.pots)[i]?=some (ql sp.pots[i]):=by rw [cu,aJ,hc]; rfl
   refine ⟨_,rfl,_,rfl,t,_,0,.ref l,rfl,rfl,fj.of ht,rfl,_,rfl,l,_,_,_,rfl,rfl,cU.of hv,fD hy,tc,_,1,.int sp.pots[i].2.1,rfl,rfl,fj.of htc,rfl,_,_,rfl,rfl,.inr ⟨by omega,by omega⟩,_,rfl,tu,_,1,.ref su,rfl,rfl,fj.of hu,rfl,_,rfl,su,_,_,_,rfl,rfl,fj.of hsu,fD hdv,_,_,rfl,rfl,?_⟩;refine ⟨some (.int ((i:Nat):Int)),?_,rfl⟩;rw [Wf hp hd];rfl
  ·rintro σ H2 ⟨u3,rfl,rfl⟩;refine ⟨_,rfl,?_⟩;rw [cQ,lv,List.take_of_length_le (by rw [fU]; exact aO _),List.take_of_length_le (by omega)];exact q
end
theorem eG.sE {sp:gj} (ok:eG sp):uf (cW sp) := ⟨by have:=ok.w1; show 0 < sp.week; omega,ok.c1,by show (cu sp.pots).length<=8; rw [fU]; exact ok.n8,ok.pQ,Int.le_trans ok.sz (by decide)⟩
theorem eG.good {sp:gj} (ok:eG sp):Ij (cW sp):=⟨ok.sE,ok.out⟩
theorem Jc (sp:gj):dX (cu sp.pots)=gk sp:=by
 unfold dX cu;rw [eY];rfl
theorem Dt {sp:gj} (ok:eG sp) {k:Nat} {d:Int} {ds:List Int} (h:(jU sp)[k]?=some (d,ds)):numOf d (cu sp.pots) ds=(k:Int):=by
 rw [Ak,Jc];exact (T6 (wk:=sp.week) ok.aap h).1
theorem Du:∀ (ps:List cL) (wk:Int),sizeOf wk ps=wk * lO (dX ps)
 | [],wk=>by show wk=wk * 1; rw [Int.mul_one]
 | p::ps,wk=>by
  have e3:lO (dX (p::ps))=p.gap * lO (dX ps):=by
   show (dX ps).foldl (· * ·) (1 * p.gap)=_
   rw [rQ,Int.one_mul]
  show sizeOf (wk * p.gap) ps=_
  rw [Du ps (wk * p.gap),e3,Int.mul_assoc]
theorem Lb {sp:gj} (ok:eG sp):(jU sp).length=fH (cW sp):=by
 have h:=T5 (wk:=sp.week) (gs:=gk sp) (by have:=ok.w1; omega) ok.aap;have h2:=pR ok.sE;have h3:sizeOf sp.week (cu sp.pots)=sp.week * lO (dX (cu sp.pots)):=Du _ _;rw [Jc] at h3;have h4:((jU sp).length:Int)=((Hl sp.week (gk sp)).length:Int):=rfl;have h5:sizeOf (cW sp).week (cW sp).pots=sizeOf sp.week (cu sp.pots):=rfl;omega
abbrev qX:dW:=top 53
def qY (sp:gj) (ans:nq) (c:Int × Int × List Int):Option Int:=ans.getD (numOf c.2.1 (cu sp.pots) c.2.2).toNat none
theorem aaq {sp:gj} {ans:nq} (ok:eG sp) {c:Int × Int × List Int} (h:qY sp ans c=none):wB (cW sp) ans c=(fH (cW sp):Int):=by
 unfold wB;rw [show ans.getD (numOf c.2.1 (cW sp).pots c.2.2).toNat none=none from h];exact (pR ok.sE).symm
theorem Oj {sp:gj} {ans:nq} {c:Int × Int × List Int} {k:Int} (h:qY sp ans c=some k):wB (cW sp) ans c=k:=by
 unfold wB;rw [show ans.getD (numOf c.2.1 (cW sp).pots c.2.2).toNat none=some k from h];rfl
theorem all_some:∀ os:List (Option Int),(∀ o ∈ os,∃ k,o=some k)->∃ is:List Int,os=is.map some
 | [],_=>⟨[],rfl⟩
 | o::os,h=>by
  obtain ⟨is,e⟩:=all_some os fun o' ho'=>h o' (by simp [ho'])
  obtain ⟨k,e1⟩:=h o (by simp);exact ⟨k::is,by rw [e,e1]; rfl⟩
section
variable {P:cC} {w:World} {K:Fg} {mg:Str->Option aB} {base:Heap} {a:gw} {dV:aB} {lv:aA}
abbrev lbN:List Str:=["_law_spec_here","_law_days","_law_state","_law_steps_here","_law_chosen","_law_ahead","_law_most"]
def Ga:Sp:=fun vs H Q _=>∃ v sp l ans u d ds,vs=[v,.ref l,u]/\j5 H v sp/\eG sp/\H l=some (.lst (ans.map iV))/\Told (fH (cW sp)) (j4 (cW sp)) ans/\j8 H u d ds/\gK sp.week (cu sp.pots) d ds/\∀ H' r,Same H H'->ROf o9 H' r (bF (cW sp) ans (d,ds))->Q r H'
theorem pW:bV lbN ["_law_spec_here","_law_days","_law_state"] (aW qX):=eO (by decide +kernel)
theorem Wg {f fs fb fn:aA} {fd ds' db dn:fQ} (F:n6 K "_law_best" "_law_best" qX f fd) (B:Qz mg) (mM:mg "max"=none) (sF:Fn K "_law_steps" "_law_steps" uh ["_law_spec_here","_law_state"] fs ds') (mS:mg "_law_steps"=some (.ref fs)) (bF':Fn K "_law_behind" "_law_behind" lU ["_law_spec_here","_law_state","_law_wet"] fb db) (mB:mg "_law_behind"=some (.ref fb)) (nF:Fn K "_law_number" "_law_number" Ds ["_law_spec_here","_law_state"] fn dn) (mN:mg "_law_number"=some (.ref fn)) : cD P w K mg base (fL P w) 3 f fd ["_law_spec_here","_law_days","_law_state"] Ga:=by
 refine F.mF pW (fun vs H Q E h=>?_) (fun cdv A outer s H vs Q E hr h=>?_)
 ·obtain ⟨v,sp,l,ans,u,d,ds,rfl,_⟩:=h;rfl
 ·obtain ⟨v,sp,l,ans,u,d,ds,rfl,rs,ok,hl,told,st,jN,q⟩:=h;have pQ:cD P w K mg base (fL P w) 2 fs ds' ["_law_spec_here","_law_state"] Oe:=Wc sF.F B bF' mB;have okn:cD P w K mg base (fL P w) 1 fn dn ["_law_spec_here","_law_state"] La:=Oi nF.F B;have kS:=sF.F.kp;have bS:=sF.b;have kN:=nF.F.kp;have bN:=nF.b;have hr1:d8 1 _:=hr.mono (by decide);have Ny:[("_law_chosen":Str),"_law_ahead","_law_days","_law_spec_here"].Nodup:=by decide +kernel
  refine ⟨_,aH (bM (i:=3) pW.nd rfl (Or.inl rfl) (dI pQ hr mS kS bS bB (ao (pv 0) (ao (pv 2) aK)))) (aH (gR dY rfl (fK (pv 3)) (lZ rfl (cg (cZ 4 pW.nd) (cg (cZ 5 pW.nd) gM))) (aU (eV (cN tE (dh gO (pv 1) (dI okn hr1 mN kN bN bB (ao (pv 0) (ao (pv 5) aK))) (fun _ _=>rfl)) ji (dz _)) (aU (cj (fJ (ao (pv 4) (ao (pv 5) aK))))) cX))) (aH (bM (i:=6) pW.nd rfl (Or.inl rfl) (ig (Qd rfl) mM PyProof.Rows.boot_max (ao (bZ wL (fZ (iR [.int (-1)] rfl)) (jg bW rfl ⟨_,_,rfl,rfl,rfl⟩ (iY (N':=["_law_chosen","_law_ahead","_law_days","_law_spec_here"]) (cl:=[("_law_spec_here",s.heap.objs.size + 1),("_law_days",s.heap.objs.size + 2)]) [none,none,some 1,some 0] lbN (aW qX).names [(".0",.local),("_law_chosen",.local),("_law_ahead",.local),("_law_number",.globalImplicit),("_law_days",.cell),("_law_spec_here",.cell)] ["_law_spec_here","_law_days"] rfl (by decide +kernel) (by decide +kernel) rfl (fun p hp=>by
      rcases aR.mp hp with rfl | hp
      ·rfl
      ·rw [aC.mp hp]; rfl) rfl rfl rfl rfl (by decide +kernel) rfl (by decide +kernel)) (fK (pv 3)) (fun _ _ _ _ _=>yE K (n:=2) rfl (cg (cZ 0 Ny) (cg (cZ 1 Ny) gM))) (fun _ _ _ _ _=>jf)
     (fun _ _ _ _ _ _=>dh (Hi K) (pv 2) (dI okn hr1 mN kN bN bB (ao (pv 3) (ao (pv 1) aK))) (fun _ _=>rfl)))) aK)))
   (aH (gR dY rfl (fK (pv 3)) (lZ rfl (cg (cZ 4 pW.nd) (cg (cZ 5 pW.nd) gM))) (aU (eV (cN jJ (dh gO (pv 1) (dI okn hr1 mN kN bN bB (ao (pv 0) (ao (pv 5) aK))) (fun _ _=>rfl)) (pv 6) (dz _)) (aU (cj (fJ (ao (pv 4) (ao (pv 5) aK))))) cX)))
   (aU (cj ji))))),?_⟩
  have sE:=ok.sE;have ld:ds.length=sp.pots.length:=by rw [jN.len,fU]
  have Gb:=told.len;have big:10000<=sizeLine:=by decide
  have ecs:=Rg ok ld (d:=d);have aGN:(iU sp d ds).length<=256:=by
   rw [<- ecs];exact Nz _ _ _ sE.n8
  have cho:∀ {i:Nat} {c},(iU sp d ds)[i]?=some c->∃ m:Nat,numOf c.2.1 (cu sp.pots) c.2.2=(m:Int)/\m < fH (cW sp)/\qY sp ans c=ans.getD m none/\c.2.2.length=sp.pots.length:=fun {i c} hc=>by
   have hm:c ∈ jl (cW sp) d ds:=by rw [ecs]; exact aP hc
   have cok:=ug sE (show gK (cW sp).week (cW sp).pots d ds from jN) hm;obtain ⟨m,em,lm,_⟩:=mV sE cok;have em':numOf c.2.1 (cu sp.pots) c.2.2=((m:Nat):Int):=em;refine ⟨m,em',lm,?_,by rw [cok.len]; exact fU _⟩;unfold qY;rw [em',cQ]
  have ebF:bF (cW sp) ans (d,ds)=yu (wB (cW sp) ans) (iU sp d ds):=by unfold bF; rw [ecs]
  refine ⟨_,rfl,_,rfl,v,sp,u,d,ds,rfl,rs,ok,st,jN.d0,ld,fun H1 ls s1 rl=>?_⟩;obtain ⟨_,us,eu,hu,pu⟩:=id rl;cases eu;have luc:us.length=(iU sp d ds).length:=Paired.length pu;refine ⟨_,rfl,ls,rfl,⟨_,cU.of hu⟩,?_⟩;refine gZ (K:=K) (a:=ls) (xs:=us) (fun j σ H'=>∃ u4 u5 u6,σ=[some v,some (.ref l),some u,some (.ref ls),u4,u5,u6]/\Same H1 H'/\∀ (i:Nat) c,i < j->(iU sp d ds)[i]?=some c->qY sp ans c≠none) ⟨none,none,none,rfl,Same.refl _,fun i c h=>absurd h (Nat.not_lt_zero _)⟩ (fun j σ H' _ ⟨_,_,_,_,s',_⟩=>cU.of (s' _ _ hu)) ?_ ?_
  ·rintro j y σ H2 hy ⟨u4,u5,u6,rfl,s2,no⟩;obtain ⟨c,hc,rc⟩:=dB pu hy;obtain ⟨t,y1,y2,rfl,ht,r1,r2⟩:=iC.same rc s2;cases r1;obtain ⟨tb,rfl,nb⟩:=zu r2;obtain ⟨m,em,lm,ed,lc⟩:=cho hc;refine ⟨t,_,rfl,fj.of ht,rfl,_,_,rfl,_,_,rfl,rfl,?_⟩;refine ⟨_,rfl,_,rfl,_,rfl,v,sp,_,c.2.1,c.2.2,rfl,rs.same (s1.trans s2),ok,iD nb,lc,?_⟩;rw [em];refine ⟨l,_,_,_,rfl,rfl,cU.of (s2 _ _ (s1 _ _ hl)),fD (wZ (by rw [Gb]; exact lm)),rfl,_,rfl,?_⟩;rw [<- ed];cases ed':qY sp ans c with
   | none =>
    rw [show decide (iV (none:Option Int)=V.non)=true from aM rfl];refine eE ⟨_,rfl,_,rfl,by show 2<=sizeLine; decide,fun tt htt=>?_⟩;have vt:=aY (o:=.tup [V.int c.1,.ref tb]) htt;refine q _ _ ((s1.trans s2).trans vt) ?_;rw [ebF,Qp (day:=qY sp ans) (N:=(fH (cW sp):Int)) (fun c h=>aaq ok h) (fun c k h=>Oj h) (fun c _ k h=>Fe told h) hc ed' no];exact ⟨tt,_,_,rfl,aD,rfl,fP.same r2 vt⟩
   | some k =>
    rw [show decide (iV (some k)=V.non)=false from aL (fun z=>nomatch z)];refine d9 ⟨_,_,_,rfl,s2,fun i c' lt hc'=>?_⟩
    by_cases z:i < j
    ·exact no i c' z hc'
    ·have e:i=j:=by omega
     subst e;rw [hc] at hc';cases hc';rw [ed'];exact fun z=>by cases z
  rintro σ H2 ⟨u4,u5,u6,rfl,s2,no⟩;have no':∀ c ∈ iU sp d ds,∃ k,qY sp ans c=some k:=fun c hc=>by
   obtain ⟨i,hi⟩:=cJ hc;have:=no i c (by rw [luc]; exact (aF.mp hi).1) hi;cases e:qY sp ans c with
   | none=>exact absurd e this
   | some k=>exact ⟨k,rfl⟩
  have s12:=s1.trans s2;refine ⟨by show 1<=sizeLine; decide,fun l0 h0=>?_⟩;have v0:=aY (o:=.lst [V.int (-1)]) h0;refine ⟨_,rfl,ls,rfl,⟨_,cU.of (v0 _ _ (s2 _ _ hu))⟩,fun D hD=>vH iC Z7 (fun c=>qY sp ans c) ((rl.same iC s2).same iC v0) (by omega) hD ?_ ?_⟩
  ·rintro i c y H3 hc ⟨t,y1,y2,rfl,ht,r1,r2⟩ s3 Qc k;cases r1;obtain ⟨tb,rfl,nb⟩:=zu r2;obtain ⟨m,em,lm,ed,lc⟩:=cho hc;refine ⟨t,_,rfl,fj.of ht,rfl,_,_,rfl,_,_,rfl,rfl,Al,_,rfl,_,rfl,_,rfl,v,sp,_,c.2.1,c.2.2,rfl,rs.same ((s12.trans v0).trans s3),ok,iD nb,lc,?_⟩;rw [em];refine ⟨l,_,_,_,rfl,rfl,cU.of (s3 _ _ (v0 _ _ (s12 _ _ hl))),fD (wZ (by rw [Gb]; exact lm)),k _ H3 (Same.refl _) ?_⟩
   show iV _=iV _
   rw [ed]
  intro H3 s3 ra;obtain ⟨_,as,ea,ha,pa⟩:=id ra;cases ea;have eas:=NZ pa;subst eas;obtain ⟨is,eis⟩:=all_some ((iU sp d ds).map (qY sp ans)) fun o ho=>by
   obtain ⟨c,hc,rfl⟩:=bx.mp ho;exact no' c hc
  have im:∀ i,i ∈ is ↔ ∃ c ∈ iU sp d ds,qY sp ans c=some i:=fun i=>by
   have h1:some i ∈ (iU sp d ds).map (qY sp ans) ↔ i ∈ is:=by
    rw [eis];constructor
    ·intro h;obtain ⟨j,hj,e⟩:=bx.mp h;cases e;exact hj
    ·exact fun h=>bx.mpr ⟨i,h,rfl⟩
   rw [<- h1];exact bx
  have lis:is.length=(iU sp d ds).length:=by
   have:=congrArg List.length eis;simpa using this.symm
  have ev:(((iU sp d ds).map (qY sp ans)).map iV)=is.map V.int:=by
   rw [eis,eY];rfl
  have ha':H3 D=some (.lst (is.map V.int)):=by rw [<- ev]; exact ha
  refine ⟨l0,D,_,_,rfl,rfl,s3 _ _ aD,ha',by rw [ak,lis]; show 1 + (iU sp d ds).length<=sizeLine; omega,fun l2 h2=>⟨l2,-1::is,rfl,cU.of aD,by simp,fun M hM mx=>?_⟩⟩;have v2:=aY (o:=.lst ([V.int (-1)]++is.map V.int)) h2;have sB:=((s2.trans v0).trans s3).trans v2;generalize L2.upd H3 l2 (.lst ([V.int (-1)]++is.map V.int))=H4 at sB ⊢;have leM:∀ c ∈ iU sp d ds,∃ k,qY sp ans c=some k/\k<=M:=fun c hc=>by
   obtain ⟨k,e⟩:=no' c hc;exact ⟨k,e,mx k (by simp [(im k).mpr ⟨c,hc,e⟩])⟩
  refine ⟨_,rfl,ls,rfl,⟨_,cU.of (sB _ _ hu)⟩,?_⟩;refine gZ (K:=K) (a:=ls) (xs:=us) (fun j σ H'=>∃ u4 u5,σ=[some v,some (.ref l),some u,some (.ref ls),u4,u5,some (.int M)]/\Same H4 H'/\∀ (i:Nat) c,i < j->(iU sp d ds)[i]?=some c->qY sp ans c≠some M) ⟨_,_,rfl,Same.refl _,fun i c h=>absurd h (Nat.not_lt_zero _)⟩ (fun j σ H' _ ⟨_,_,_,s',_⟩=>cU.of (s' _ _ (sB _ _ hu))) ?_ ?_
  ·rintro j y σ H5 hy ⟨u4,u5,rfl,s5,nM⟩;obtain ⟨c,hc,rc⟩:=dB pu hy;have s15:=sB.trans s5;obtain ⟨t,y1,y2,rfl,ht,r1,r2⟩:=iC.same rc s15;cases r1;obtain ⟨tb,rfl,nb⟩:=zu r2;obtain ⟨m,em,lm,ed,lc⟩:=cho hc;obtain ⟨k,ek⟩:=no' c (aP hc);refine ⟨t,_,rfl,fj.of ht,rfl,_,_,rfl,_,_,rfl,rfl,?_⟩;refine ⟨_,rfl,_,rfl,_,rfl,v,sp,_,c.2.1,c.2.2,rfl,rs.same (s1.trans s15),ok,iD nb,lc,?_⟩;rw [em];refine ⟨l,_,_,_,rfl,rfl,cU.of (s15 _ _ (s1 _ _ hl)),fD (wZ (by rw [Gb]; exact lm)),?_⟩;rw [<- ed,ek];refine ⟨_,rfl,rfl,_,rfl,?_⟩
   by_cases z:k=M
   ·refine eqT z ⟨_,rfl,_,rfl,by show 2<=sizeLine; decide,fun tt htt=>?_⟩;have vt:=aY (o:=.tup [V.int c.1,.ref tb]) htt;refine q _ _ ((s1.trans s15).trans vt) ?_;rw [z] at ek;rw [ebF,Qq (day:=qY sp ans) (fun c k h=>Oj h) leM hc ek nM];exact ⟨tt,_,_,rfl,aD,rfl,fP.same r2 vt⟩
   ·refine ZD z ⟨_,_,rfl,s5,fun i c' lt hc'=>?_⟩
    by_cases z':i < j
    ·exact nM i c' z' hc'
    ·have e:i=j:=by omega
     subst e;rw [hc] at hc';cases hc';rw [ek];exact fun y=>z (bQ y)
  rintro σ H5 ⟨u4,u5,rfl,s5,nM⟩;have emp:iU sp d ds=[]:=by
   rcases aR.mp hM with e | hM'
   ·cases ec:iU sp d ds with
    | nil=>rfl
    | cons c cs =>
     obtain ⟨k,e1,e2⟩:=leM c (by rw [ec]; simp);have:=zY told (show ans.getD (numOf c.2.1 (cu sp.pots) c.2.2).toNat none=some k from e1);omega
   ·obtain ⟨c,hc,e⟩:=(im M).mp hM';obtain ⟨i,hi⟩:=cJ hc;exact absurd e (nM i c (by rw [luc]; exact (aF.mp hi).1) hi)
  refine q _ .non ((s1.trans sB).trans s5) ?_;rw [ebF,emp];rfl
end
abbrev Bj:dW:=top 54
def Jd (ns:List Str) (q:List Int × Option Nat):List (List Str) × Option (List (List Str)):=match q.2 with
 | none=>(q.1.map (iK ns),none)
 | some j=>((q.1.take j).map (iK ns),some ((q.1.drop j).map (iK ns)))
abbrev wD:Rep (List (List Str)):=iJ (iJ Ke)
abbrev jW:Rep (List (List Str) × Option (List (List Str))):=yr wD (ROf wD)
theorem yH (H:Hp):∀ xs:List Str,Paired (Ke H) (xs.map V.str) xs
 | []=>.nil
 | x::xs=>.cons rfl (yH H xs)
theorem wF {H:Hp} {ns:List Str}:∀ {rows:List aA} {cs:List Int},Paired (fun r c=>H r=some (.lst ((iK ns c).map V.str))) rows cs->Paired (iJ Ke H) (rows.map V.ref) (cs.map (iK ns))
 | _,_,.nil=>.nil
 | _,_,.cons h r=>.cons ⟨_,_,rfl,h,yH H _⟩ (wF r)
theorem qZ {α β:Type} {R:α->β->Prop}:∀ {xs:List α} {ys:List β} (j:Nat),Paired R xs ys->Paired R (xs.take j) (ys.take j)/\Paired R (xs.drop j) (ys.drop j)
 | _,_,0,h=>⟨.nil,h⟩
 | _,_,j + 1,.nil=>⟨.nil,.nil⟩
 | _,_,j + 1,.cons h r=>⟨.cons h (qZ j r).1,(qZ j r).2⟩
theorem wG {H:Hp} {ns:List Str} {t:aA} {rows:List aA} {cs:List Int} {o:Option Nat} (p:Paired (fun r c=>H r=some (.lst ((iK ns c).map V.str))) rows cs) (h:VL H t rows o):jW H (.ref t) (Jd ns (cs,o)):=by
 cases o with
 | none =>
  obtain ⟨l,ht,hl⟩:=h;exact ⟨t,_,_,rfl,ht,⟨l,_,rfl,hl,wF p⟩,rfl⟩
 | some j =>
  obtain ⟨l1,l2,ht,h1,h2⟩:=h;have q:=qZ j p;exact ⟨t,_,_,rfl,ht,⟨l1,_,rfl,h1,wF q.1⟩,⟨l2,_,rfl,h2,wF q.2⟩⟩
theorem Dv (H:Hp) (v:V) (x:NK) (h:je H v x):∃ t,v=.ref t:=by
 obtain ⟨t,u,w,e,_⟩:=h;exact ⟨t,e⟩
theorem nY {H:Hp} {t:aA} {x:NK} (h:dN H x t):je H (.ref t) x:=by
 obtain ⟨u,h1,h2⟩:=h;exact ⟨t,_,_,rfl,h1,rfl,u,_,rfl,h2,qQ _ _⟩
theorem ai2 {sp:gj} {i:Nat} {r:Str × Int × Int} (h:sp.pots[i]?=some r):(gA (cW sp)).getD i ""=r.1:=by
 simp [gA,cW,cu,getD,h];rfl
noncomputable def DI (H:Hp) (v:V) (l lR lM:aA) (sp:gj) (ans:nq) (s0:NK) (i:Nat) (σ:St) (H':Hp):Prop:=∃ (t:aA) (s:NK) (met:List NK) (cs:List Int) (rows:List aA) (vs:List V) (u5 u6:Option V),σ=[some v,some (.ref l),some (.ref t),some (.ref lR),some (.ref lM),u5,u6]/\Same H H'/\H' lR=some (.lst (rows.map V.ref))/\H' lM=some (.lst vs)/\Paired (je H') vs met/\Paired (fun r c=>r≠lR/\r≠lM/\H' r=some (.lst ((iK (gA (cW sp)) c).map V.str))) rows cs /\ met.Nodup/\(∀ s ∈ met,gK (cW sp).week (cW sp).pots s.1 s.2)/\met.length=i/\cs.length=i/\dN H' s t/\gK (cW sp).week (cW sp).pots s.1 s.2/\o7 (bF (cW sp) ans) (fH (cW sp) + 1 - i) s met cs=o7 (bF (cW sp) ans) (fH (cW sp) + 1) s0 [] []
section
variable {P:cC} {w:World} {K:Fg} {mg:Str->Option aB} {base:Heap} {a:gw} {dV:aB} {lv:aA}
theorem Je:oX K 2 je:=M7 eq_int (M6 eq_int)
abbrev ldN:List Str:=["_law_spec_here","_law_days","_law_state","_law_rows","_law_met","_law_step","_law_at"]
noncomputable def Wh:Sp:=fun vs H Q _=>∃ v sp l ans u d ds,vs=[v,.ref l,u]/\j5 H v sp/\eG sp/\H l=some (.lst (ans.map iV))/\Told (fH (cW sp)) (j4 (cW sp)) ans/\j8 H u d ds/\gK sp.week (cu sp.pots) d ds /\ ∀ H' t cs o,Same H H'->o7 (bF (cW sp) ans) (fH (cW sp) + 1) (d,ds) [] []=(cs,o)->cs.length<=fH (cW sp)->jW H' (.ref t) (Jd (gA (cW sp)) (cs,o))->Q (.ref t) H'
theorem w6:bV ldN ["_law_spec_here","_law_days","_law_state"] (aW Bj):=eO (by decide +kernel)
theorem aar {f fl:aA} {fd dl:fQ} (F:n6 K "_law_due" "_law_due" Bj f fd) (B:Qz mg) (lF:Fn K "_law_best" "_law_best" qX ["_law_spec_here","_law_days","_law_state"] fl dl) (mL:mg "_law_best"=some (.ref fl)) (okl:cD P w K mg base (fL P w) 3 fl dl ["_law_spec_here","_law_days","_law_state"] Ga) : cD P w K mg base (fL P w) 4 f fd ["_law_spec_here","_law_days","_law_state"] Wh:=by
 refine F.mF w6 (fun vs H Q E h=>?_) (fun cdv A outer s H vs Q E hr h=>?_)
 ·obtain ⟨v,sp,l,ans,u,d,ds,rfl,_⟩:=h;rfl
 ·obtain ⟨v,sp,l,ans,u,d,ds,rfl,rs,ok,hl,told,st,jN,q⟩:=h;have kL:=lF.F.kp;have bL:=lF.b;have nd3:[("_law_k":Str),"_law_spec_here","_law_step"].Nodup:=by decide +kernel
  refine ⟨_,aH (bM (i:=3) w6.nd rfl (Or.inl rfl) (fZ aK)) (aH (bM (i:=4) w6.nd rfl (Or.inl rfl) (fZ aK)) (aH (zy dY (cN (Qs (R:=je) (Je (K:=K)) (by decide) hr.units Dv) (pv 2) (pv 4) rfl) (aH (bM (i:=5) w6.nd rfl (Or.inr rfl) (dI okl hr mL kL bL bB (ao (pv 0) (ao (pv 1) (ao (pv 2) aK))))) (aH (eV (cN tE (pv 5) ji (dz _)) (aU (cj (fJ (ao (pv 3) (ao ji aK))))) cX) (aH (fu (lH PySem.F.plainAttrs_list PySem.F.slot_list_append PySem.F.type_list_append fX (pv 4) (ao (pv 2) aK))) (aH (fu (lH PySem.F.plainAttrs_list PySem.F.slot_list_append PySem.F.type_list_append fX (pv 3) (ao (jg bW rfl ⟨_,_,rfl,rfl,rfl⟩ (iY (N':=["_law_k","_law_spec_here","_law_step"]) (cl:=[("_law_step",s.heap.objs.size + 2),("_law_spec_here",s.heap.objs.size + 1)]) [none,some 0,some 5] ldN (aW Bj).names [(".0",.local),("_law_k",.local),("_law_spec_here",.cell),("_law_step",.cell)] ["_law_step","_law_spec_here"] rfl (by decide +kernel) (by decide +kernel) rfl (fun p hp=>by
      rcases aR.mp hp with rfl | hp
      ·rfl
      ·rw [aC.mp hp]; rfl) rfl rfl rfl rfl (by decide +kernel) rfl (by decide +kernel)) (jq rfl B.range (ao (ig dJ B.len PySem.boot_len (ao (dh dM (pv 0) aV (fun _ _=>rfl)) aK)) aK)) (fun _ _ _ _ _=>cZ 0 nd3)
     (fun _ _ _ _ _=>vo (cN jJ (bZ DY (bZ DX (dh (zc K) (pv 2) aV (fun _ _=>rfl)) (pv 0)) aV) aV (dz _))) (fun _ _ _ _ _ _=>dh (zc K) (dh (Hi K) (dh (zc K) (pv 1) aV (fun _ _=>rfl)) (pv 0) (fun _ _=>rfl)) aV (fun _ _=>rfl))) aK)))
    (aU (bM (i:=2) w6.nd rfl (Or.inl rfl) (dh dM (pv 5) aV (fun _ _=>rfl)))))))))
   (aH (bM (i:=6) w6.nd rfl (Or.inl rfl) (lH PySem.F.plainAttrs_list PySem.F.slot_list_index PySem.F.type_list_index (Qt (R:=je) (Je (K:=K)) (by decide) hr.units Dv) (pv 4) (ao (pv 2) aK)))
   (aU (cj (fJ (ao (qw vg (pv 3) yV (rJ (pv 6))) (ao (qw vg (pv 3) (rJ (pv 6)) yV) aK)))))))),?_⟩
  have sE:=ok.sE;have small:=sE.small;have big:20000 * 257<=sizeLine:=by decide
  have n8:=ok.n8;obtain ⟨tv,lp,rfl,htv,rl⟩:=id rs;obtain ⟨_,ps,el,hps,pps⟩:=id rl;cases el;have lps:ps.length=sp.pots.length:=Paired.length pps;obtain ⟨t0,w0,rfl,ht0,hw0⟩:=id st;refine ⟨by show 0<=sizeLine; decide,fun lR hlR=>⟨by show 0<=sizeLine; decide,fun lM hlM=>?_⟩⟩;have nMR:lM≠lR:=fun z=>by rw [z,aD] at hlM; cases hlM
  have fM:H lM=none:=by rw [bf nMR] at hlM; exact hlM
  have sA:=(aY (o:=.lst []) hlR).trans (aY (o:=.lst []) hlM);have hR0:L2.upd (L2.upd H lR (.lst [])) lM (.lst []) lR=some (.lst []):=by rw [bf (Ne.symm nMR),aD]
  have hM0:L2.upd (L2.upd H lR (.lst [])) lM (.lst []) lM=some (.lst []):=aD;generalize L2.upd (L2.upd H lR (.lst [])) lM (.lst [])=H2 at sA hR0 hM0 ⊢;refine ⟨fun m σ H'=>∃ i,m=fH (cW sp) + 1 - i/\DI H (.ref tv) l lR lM sp ans (d,ds) i σ H',⟨_,0,rfl,t0,(d,ds),[],[],[],[],none,none,rfl,sA,hR0,hM0,.nil,.nil,nodup_nil,(fun s hs=>by simp at hs),rfl,rfl,⟨w0,sA _ _ ht0,sA _ _ hw0⟩,jN,rfl⟩,?_⟩;rintro m σ H3 ⟨i,rfl,t,s,met,cs,rows,vs,u5,u6,rfl,s3,hR,hM,pm,pr,nd,mok,lm,lc,nv,FQ,due⟩;have li:i<=fH (cW sp):=by rw [<- lm]; exact Ay sE nd mok
  have lr:rows.length=i:=by rw [Paired.length pr,lc]
  have lvs:vs.length=i:=by rw [Paired.length pm,lm]
  rw [show fH (cW sp) + 1 - i=(fH (cW sp) - i) + 1 by omega] at due
  by_cases z:s ∈ met
  ·refine ⟨_,rfl,_,rfl,met,s,⟨lM,vs,rfl,hM,pm⟩,nY nv,false,by simp [z],?_⟩;obtain ⟨j,hj,noj,dj⟩:=wR (B:=bF (cW sp) ans) z;rw [dj] at due;have lj:j < met.length:=(aF.mp hj).1;have lx:j<=(rows.map V.ref).length:=by rw [ak]; omega
   refine d9 ⟨_,rfl,.inl ⟨rfl,_,cU.of hM⟩,_,rfl,.ref t,met,s,j,rfl,⟨lM,vs,rfl,hM,pm⟩,nY nv,hj,noj,?_⟩;refine ⟨_,rfl,_,rfl,_,rfl,lR,_,rfl,cU.of hR,fun l1 hl1=>?_⟩;rw [Ip lx];have v1:=aY (o:=.lst ((rows.map V.ref).take j)) hl1;refine ⟨_,rfl,_,rfl,_,rfl,lR,_,rfl,cU.of (v1 _ _ hR),fun l2 hl2=>?_⟩;rw [Ir lx];have v2:=aY (o:=.lst ((rows.map V.ref).drop j)) hl2;refine ⟨by show 2<=sizeLine; decide,fun tt htt=>?_⟩;have vt:=aY (o:=.tup [.ref l1,.ref l2]) htt;have vv:=(v1.trans v2).trans vt;refine q _ tt cs (some j) (s3.trans vv) due.symm (by omega) (wG (Paired.gG pr fun r c y=>vv _ _ y.2.2) ⟨l1,l2,aD,?_,?_⟩)
   ·rw [map_take];exact vt _ _ (v2 _ _ aD)
   ·rw [map_drop];exact vt _ _ aD
  refine ⟨_,rfl,_,rfl,met,s,⟨lM,vs,rfl,hM,pm⟩,nY nv,true,by simp [z],?_⟩;refine eE ⟨fun σ' H'=>∃ m',m' < fH (cW sp) + 1 - i/\∃ i',m'=fH (cW sp) + 1 - i'/\DI H (.ref tv) l lR lM sp ans (d,ds) i' σ' H',fun _ _ h=>h,?_⟩;refine ⟨_,rfl,_,rfl,_,rfl,nJ ⟨.ref tv,sp,l,ans,.ref t,s.1,s.2,rfl,rs.same s3,ok,s3 _ _ hl,told,iD nv,FQ,fun H4 r s4 ro=>?_⟩⟩;cases eb:bF (cW sp) ans s with
  | none =>
   rw [show bF (cW sp) ans (s.1,s.2)=none from eb] at ro;have e4:r=.non:=ro;subst e4;rw [Fb z eb] at due;refine ⟨_,rfl,rfl,_,rfl,eE ⟨_,rfl,by show 2<=sizeLine; decide,fun tt htt=>?_⟩⟩;have vt:=aY (o:=.tup [.ref lR,.non]) htt;have vv:=s4.trans vt;exact q _ tt cs none (s3.trans vv) due.symm (by omega) (wG (Paired.gG pr fun r c y=>vv _ _ y.2.2) ⟨lR,aD,vv _ _ hR⟩)
  | some c =>
   rw [show bF (cW sp) ans (s.1,s.2)=some c from eb] at ro;obtain ⟨tf,u0,w',rfl,htf,e0,rs'⟩:=id (show o9 H4 r c from ro);have e0':u0=.int c.1:=e0;subst e0';obtain ⟨tw,rfl,nw⟩:=qR rs';rw [Fd z eb] at due;have nd':(met++[s]).Nodup:=nodup_append.mpr ⟨nd,by simp,fun b hb b' hb' e=>by
    rw [aC] at hb';subst hb';subst e;exact z hb⟩
   have VN:∀ s' ∈ met++[s],gK (cW sp).week (cW sp).pots s'.1 s'.2:=fun s' hs=>by
    rcases cM.mp hs with h | h
    ·exact mok s' h
    ·rw [aC.mp h]; exact FQ
   have li':=Ay sE nd' VN;rw [aQ,lm] at li';have YX:i + 1<=fH (cW sp):=li';have aak:gK (cW sp).week (cW sp).pots c.2.1 c.2.2:=ug sE FQ (zX eb);have dec:decide (V.ref tf=V.non)=false:=aL (fun z=>by cases z);refine ⟨_,rfl,rfl,_,rfl,?_⟩;rw [dec];have hM4:=s4 _ _ hM;have nT:∀ {ys zs},HO.tup ys≠HO.lst zs:=fun y=>by cases y
   refine d9 ⟨_,rfl,.inl ⟨rfl,_,cU.of hM4⟩,_,rfl,lM,vs,.ref t,rfl,rfl,hM4,by omega,?_⟩;have s5:Same H (L2.upd H4 lM (.lst (vs++[.ref t]))):=fY (s3.trans s4) fM;have hM5:L2.upd H4 lM (.lst (vs++[.ref t])) lM=some (.lst (vs++[.ref t])):=aD;have Z0:L2.upd H4 lM (.lst (vs++[.ref t])) lR=some (.lst (rows.map V.ref)):=by rw [bf (Ne.symm nMR)]; exact s4 _ _ hR
   have FW:L2.upd H4 lM (.lst (vs++[.ref t])) tf=some (.tup [.int c.1,.ref tw]):=by rw [bf (jX htf hM4 nT)]; exact htf
   have nw5:dN (L2.upd H4 lM (.lst (vs++[.ref t]))) c.2 tw:=dN.upd nw hM4 (fun _=>nT);have pm5:Paired (je (L2.upd H4 lM (.lst (vs++[.ref t])))) (vs++[.ref t]) (met++[s]):=Paired.snoc (Paired.gG pm fun _ _ y=>fP.upd (fP.same y s4) hM4) (fP.upd (fP.same (nY nv) s4) hM4);have pr5:Paired (fun r c=>r≠lR/\r≠lM/\L2.upd H4 lM (.lst (vs++[.ref t])) r=some (.lst ((iK (gA (cW sp)) c).map V.str))) rows cs:=Paired.gG pr fun r c y=>⟨y.1,y.2.1,by rw [bf y.2.1]; exact s4 _ _ y.2.2⟩
   generalize L2.upd H4 lM (.lst (vs++[.ref t]))=H5 at s5 hM5 Z0 FW nw5 pm5 pr5 ⊢;refine ⟨_,rfl,.inl ⟨rfl,_,cU.of Z0⟩,_,rfl,tv,_,0,.ref lp,rfl,rfl,fj.of (s5 _ _ htv),rfl,lp,_,rfl,.inl (cU.of (s5 _ _ hps)),_,rfl,by omega,by omega,fun D hD=>?_⟩;refine vA sp.pots.length (by omega) (fun i acc H'=>acc=(((List.range i).filter fun k:Nat=>iQ c.1 (k:Int)).map fun k=>(gA (cW sp)).getD k "").map V.str/\H'=L2.upd H5 D (.lst acc)) ⟨rfl,rfl⟩ (fun i acc H' le ⟨ea,eh⟩=>⟨by rw [ea,ak,ak]; exact bJ (length_filter_le _ _) (by rw [bw]; exact aO _),by rw [eh,aD]⟩) ?_ ?_
   rotate_left
   ·rintro k acc H' lk ⟨rfl,rfl⟩;refine ⟨(by show k < ((ps.length:Nat):Int).toNat; omega),?_⟩;rintro x yp ⟨rfl,rfl⟩ Qc Qn kq kn;have e1:(0 + (k:Int))=((k:Nat):Int):=Int.zero_add _;rw [e1];have hp:sp.pots[k]?=some sp.pots[k]:=aG lk;obtain ⟨y,hy,ry⟩:=oY pps hp;generalize aqJ:(((List.range k).filter fun k:Nat=>iQ c.1 (k:Int)).map fun k=>(gA (cW sp)).getD k "").map V.str=acc at *;have vD:=aY (o:=.lst acc) hD;obtain ⟨ty,y1,y2,y3,rfl,hty,r1,r2,r3⟩:=jF.same ry (s5.trans vD);cases r1;refine ⟨pU,_,rfl,tf,_,0,.int c.1,rfl,rfl,fj.of (vD _ _ FW),rfl,_,rfl,_,_,rfl,rfl,(by show (0:Int)<=(k:Int); omega),_,_,rfl,rfl,rfl,_,rfl,?_⟩;rw [ZS];cases tb:iQ c.1 ((k:Nat):Int) with
    | true =>
     have tb':decide (Builtin.bitAnd (c.1 / 2 ^ ((k:Nat):Int).toNat) 1=1)=true:=tb;rw [tb'];refine eE ⟨_,rfl,tv,_,0,.ref lp,rfl,rfl,fj.of (vD _ _ (s5 _ _ htv)),rfl,_,rfl,lp,_,_,.ref ty,rfl,rfl,cU.of (vD _ _ (s5 _ _ hps)),fD hy,ty,_,0,.str sp.pots[k].1,rfl,rfl,fj.of hty,rfl,kq _ _ aD ⟨?_,by rw [lQ]⟩⟩;rw [<- aqJ,bY,cG];have ef:([k]:List Nat).filter (fun k:Nat=>iQ c.1 (k:Int))=[k]:=by simp [tb]
     rw [ef,aZ,aZ,cY,ai2 hp];rfl
    | false =>
     have tb':decide (Builtin.bitAnd (c.1 / 2 ^ ((k:Nat):Int).toNat) 1=1)=false:=tb;rw [tb'];refine d9 (kn _ ⟨?_,rfl⟩);rw [<- aqJ,bY,cG];have ef:([k]:List Nat).filter (fun k:Nat=>iQ c.1 (k:Int))=[]:=by simp [tb]
     rw [ef,cA]
   ·rintro acc H6 ⟨rfl,rfl⟩;have enm:(((List.range sp.pots.length).filter fun k:Nat=>iQ c.1 (k:Int)).map fun k=>(gA (cW sp)).getD k "")=iK (gA (cW sp)) c.1:=by
     unfold iK;rw [show (gA (cW sp)).length=sp.pots.length by unfold gA; rw [ak]; exact fU _]
    rw [enm];refine ⟨(by show ((ps.length:Nat):Int).toNat<=sp.pots.length; omega),?_⟩;have vD:=aY (o:=.lst ((iK (gA (cW sp)) c.1).map V.str)) hD;have Rn:=vD _ _ Z0;have nDR:D≠lR:=Ne.symm (dw Z0 hD);have nDM:D≠lM:=Ne.symm (dw hM5 hD);refine ⟨lR,_,.ref D,rfl,rfl,Rn,by rw [ak]; omega,?_⟩;have s6:=s5.trans vD;have s7:Same H (L2.upd (L2.upd H5 D (.lst ((iK (gA (cW sp)) c.1).map V.str))) lR (.lst (rows.map V.ref++[.ref D]))):=fY s6 hlR;have nL:∀ ys,HO.tup ys≠HO.lst (rows.map V.ref):=fun _=>nT
    refine ⟨_,rfl,tf,_,1,.ref tw,rfl,rfl,fj.of (by rw [bf (jX (vD _ _ FW) Rn nT)]; exact vD _ _ FW),rfl,?_⟩;refine ⟨fH (cW sp) + 1 - (i + 1),by omega,i + 1,rfl,tw,c.2,met++[s],cs++[c.1],rows++[D],vs++[.ref t],_,u6,rfl,s7,?_,?_,?_,?_,nd',VN,?_,?_,dN.upd (nw5.same vD) Rn nL,aak,?_⟩
    ·rw [aZ];exact aD
    ·rw [bf nMR];exact vD _ _ hM5
    ·exact Paired.gG pm5 fun _ _ y=>fP.upd (fP.same y vD) Rn
    ·exact Paired.snoc (Paired.gG pr5 fun r c y=>⟨y.1,y.2.1,by rw [bf y.1]; exact vD _ _ y.2.2⟩) ⟨nDR,nDM,by rw [bf nDR]; exact aD⟩
    ·rw [aQ,lm];rfl
    ·rw [aQ,lc];rfl
    ·rw [show fH (cW sp) + 1 - (i + 1)=fH (cW sp) - i by omega];exact due
end
abbrev Dw:dW:=top 56
section
variable {P:cC} {w:World} {K:Fg} {mg:Str->Option aB} {base:Heap} {a:gw} {dV:aB} {lv cB:aA}
def abQ (a:gw) (lv PB:aA):Sp:=fun vs H Q _=>∃ x xl wy g ans,vs=[.ref x,.ref xl,.int wy]/\fW a H x g/\Ij g/\sJ a lv H xl g ans/\ans.length=fH g/\jV PB jo jR H/\∀ H',Same H H'->Q (.bl true) H'
abbrev nsN:List Str:=["_law_garden_here","_law_lives","_law_way","_law_state","_law_error"]
theorem Wi:bV nsN ["_law_garden_here","_law_lives","_law_way"] (aW Dw):=eO (by decide +kernel)
theorem ai4 {f PB fr fb:aA} {fd dr db:fQ} {dvr:aB} (F:n6 K "_law_no_state" "_law_no_state" Dw f fd) (O:aiD K mg a dV) (X:aah K mg a dV lv cB) (rF:yQ K "rounds_of" "rounds_of" kY dvr fr dr) (b0:Binds K dr ["garden","state"] []) (mR:mg "rounds_of"=some (.ref fr)) (QZ:cD P w K mg base (fL P w) 12 fr dr ["garden","state"] (Ax K a PB)) (bF':Fn K "best" "Lives.best" FP ["self","state"] fb db) (hB':Meth K lv "best" fb) (okb:cD P w K mg base (fL P w) 9 fb db ["self","state"] (Aw K a lv PB)):cD P w K mg base (fL P w) 13 f fd ["_law_garden_here","_law_lives","_law_way"] (abQ a lv PB):=by
 refine F.mF Wi (fun vs H Q E h=>?_) (fun cdv A outer s H vs Q E hr h=>?_)
 ·obtain ⟨x,xl,wy,g,ans,rfl,_⟩:=h;rfl
 ·obtain ⟨x,xl,wy,g,ans,rfl,gx,good,la,len,lt,q⟩:=h;have Vt:=X.B.V;have Z:=Vt.L.W.S.Z;obtain ⟨fs,ds,sF,mS⟩:=O.so;obtain ⟨ff,df,fF,hF⟩:=X.E.fre;obtain ⟨fo,d_o,dvo,oF,c0,c1,mO⟩:=X.E.dof;obtain ⟨fd',dd,dF,hD⟩:=Vt.day;have aA1:Cr P w K mg base (fL P w) 1 fs ds ["_law_error"] (Fx K a):=U3 sF.F O.N;have okf:cD P w K mg base (fL P w) 1 ff df ["self"] (U8 a):=U9 Z fF.F;have oko:cD P w K mg base (fL P w) 7 fo d_o ["garden","state"] (Im K a):=Q0 oF X.E;have okd:cD P w K mg base (fL P w) 5 fd' dd ["self","state"] (VB K a lv):=VD dF.F Vt;have kO:=oF.kp;have kR:=rF.kp;have hr1:d8 1 _:=hr.mono (by decide);have hr5:d8 5 _:=hr.mono (by decide);have hr7:d8 7 _:=hr.mono (by decide);have hr9:d8 9 _:=hr.mono (by decide);refine ⟨_,aH (bM (i:=3) Wi.nd rfl (Or.inl rfl) (fJ (ao aV (ao (bZ yX (dh dM (oN (pv 0) Z.tG.cl hF okf hr1 fF.b .nil bB) aV (fun _ _=>rfl)) (fJ (iR [.int 0] rfl))) aK)))) (aH (R0 (hit:=fun cls=>exmOne K cls (.ref a.Ky)=some true) rfl ⟨_,_,rfl,rfl,rfl⟩ Wi.nd (i:=4) rfl rfl (by rfl) O.N.ge (fun _ h=>h) (fun E' sU Eb acc=>aU (eV (cN jJ (pv 2) aV (dz _)) (aU (fu (dI oko hr7 mO kO c0 (cV acc) (ao (pv 0) (ao (pv 3) aK))))) (aU (eV (cN jJ (pv 2) aV (dz _)) (aU (fu (dI QZ hr mR kR b0 (cV acc) (ao (pv 0) (ao (pv 3) aK))))) (aU (eV (cN jJ (pv 2) aV (dz _)) (aU (fu (kJ (pv 1) Vt.t.cl hD okd hr5 dF.b .nil (cV acc) (ao (pv 3) aK)))) (aU (fu (kJ (pv 1) Vt.t.cl hB' okb hr9 bF'.b .nil (cV acc) (ao (pv 3) aK)))))))))) (fun e=>aU (cj (ahC (nQ (ZM K hr.units) (R5 aA1 (oU.mark (hr.mono (by decide)).toH) (by rfl) mS sF.F.kp sF.b .nil bB (ao (pv 4) aK)) (bZ wL (bZ ahV (fZ (iR [.bl false] rfl)) aV) (fZ (iR [.bl true] rfl))) (dz _)) (ahB (ig (QG K) O.N.is boot_isinstance (ao (pv 4) (ao (MK (T:="ValueError") (by rfl) O.N.ve (by decide +kernel)) aK)))))))) (aU (cj qb))),?_⟩;have ok:=good.ok;have n8:=ok.n8;have big:1000<=sizeLine:=by decide
  obtain ⟨dx,l,as,hx,_,_⟩:=id gx;refine ⟨_,rfl,x,dx,_,rfl,hx,BP _ _ _ _ (by decide +kernel) (by decide +kernel) (by decide +kernel) (by decide +kernel),x,g,rfl,gx,ok.n8,fun H1 t s1 st=>?_⟩;obtain ⟨_,u,e,ht,hu⟩:=st;cases e;refine ⟨t,_,1,.ref u,rfl,rfl,fj.of ht,rfl,by show 1<=sizeLine; decide,fun t1 h1=>?_⟩;have v1:=aY (o:=.tup [V.int 0]) h1;refine ⟨u,t1,_,_,rfl,rfl,v1 _ _ hu,aD,by rw [ak,length_replicate]; show g.pots.length + 1<=sizeLine; omega,fun t2 H2 s2 hp2=>⟨by show 2<=sizeLine; decide,fun t3 h3=>?_⟩⟩;have v3:=aY (o:=.tup [V.int 0,.ref t2]) h3;have sA:=((s1.trans v1).trans s2).trans v3;have sa:jM K (L2.upd H2 t3 (.tup [V.int 0,.ref t2])) g.week g.pots (.ref t3) false:=by
   refine .sl aD ?_ (v3 _ _ hp2) ?_
   ·have:=ok.w0;have h2:(0:Int)<=g.week - 1:=by omega
    simp [dD];omega
   ·rw [aQ,ak,length_replicate];simp
  generalize L2.upd H2 t3 (.tup [V.int 0,.ref t2])=H3 at sA sa ⊢;obtain ⟨dl,yl,ll,hxl,_,_⟩:=id (la.same sA);refine ⟨_,rfl,rfl,_,rfl,?_⟩
  by_cases z0:wy=0
  ·refine eqT z0 ⟨_,rfl,_,rfl,nJ ⟨x,g,.ref t3,rfl,gx.same sA,ok,.inr ⟨(fun z=>by cases z),false,sa,fun _ H4 s4=>⟨O.x5.m,fun e he=>nU O.x5 he rfl fun H' s'=>q H' ((sA.trans s4).trans s')⟩,fun z=>nomatch z⟩⟩⟩
  refine ZD z0 ⟨_,rfl,rfl,_,rfl,?_⟩
  by_cases z1:wy=1
  ·refine eqT z1 ⟨_,rfl,_,rfl,nJ ⟨x,g,.ref t3,rfl,gx.same sA,good,lt.same sA,fun _=>False,fun _ h=>h.elim,.inr ⟨(fun z=>by cases z),false,sa,fun _ H4 s4=>⟨O.x5.m,fun e he=>nU O.x5 he rfl fun H' s'=>q H' ((sA.trans s4).trans s')⟩,fun z=>nomatch z⟩⟩⟩
  refine ZD z1 ⟨_,rfl,rfl,_,rfl,?_⟩
  by_cases z2:wy=2
  ·refine eqT z2 ⟨_,rfl,xl,dl,_,rfl,hxl,K6 _ _ (by decide +kernel) (by decide +kernel),_,rfl,nJ ⟨xl,g,ans,.ref t3,false,rfl,la.same sA,ok,len,sa,fun _ H4 s4=>⟨O.x5.m,fun e he=>nU O.x5 he rfl fun H' s'=>q H' ((sA.trans s4).trans s')⟩,fun z=>nomatch z⟩⟩
  refine ZD z2 ⟨_,rfl,xl,dl,_,rfl,hxl,K6 _ _ (by decide +kernel) (by decide +kernel),_,rfl,nJ ⟨xl,g,ans,.ref t3,false,rfl,la.same sA,ok,len,lt.same sA,sa,fun _ H4 s4=>⟨O.x5.m,fun e he=>nU O.x5 he rfl fun H' s'=>q H' ((sA.trans s4).trans s')⟩,fun z=>nomatch z⟩⟩
end
abbrev rm:dW:=top 57
abbrev aas:List Str:=["_law_script","_law_spec_here","_law_garden_here","_law_days","_law_lives","_law_states_here","_law_cell","_law_state","_law_due_here","_law_found","_law_row"]
theorem qm:bV aas ["_law_script"] (aW rm):=eO (by decide +kernel)
structure aqL (K:Fg) (mg:Str->Option aB) (a:gw) (dV:aB) (lv cB:aA):Prop where
 C:aah K mg a dV lv cB
 O:aiD K mg a dV
 D:V1 K mg
 sp:∃ f fd,Fn K "_law_spec" "_law_spec" qT ["_law_script","_law_first"] f fd/\mg "_law_spec"=some (.ref f)
 ga:∃ f fd,Fn K "_law_garden" "_law_garden" qU ["_law_spec_here"] f fd/\mg "_law_garden"=some (.ref f)
 be:∃ f fd,Fn K "_law_behind" "_law_behind" lU ["_law_spec_here","_law_state","_law_wet"] f fd/\mg "_law_behind"=some (.ref f)
 st:∃ f fd,Fn K "_law_steps" "_law_steps" uh ["_law_spec_here","_law_state"] f fd/\mg "_law_steps"=some (.ref f)
 nu:∃ f fd,Fn K "_law_number" "_law_number" Ds ["_law_spec_here","_law_state"] f fd/\mg "_law_number"=some (.ref f)
 ss:∃ f fd,Fn K "_law_states" "_law_states" mW ["_law_spec_here"] f fd/\mg "_law_states"=some (.ref f)
 lb:∃ f fd,Fn K "_law_best" "_law_best" qX ["_law_spec_here","_law_days","_law_state"] f fd/\mg "_law_best"=some (.ref f)
 ld:∃ f fd,Fn K "_law_due" "_law_due" Bj ["_law_spec_here","_law_days","_law_state"] f fd/\mg "_law_due"=some (.ref f)
 no:∃ f fd,Fn K "_law_no_state" "_law_no_state" Dw ["_law_garden_here","_law_lives","_law_way"] f fd/\mg "_law_no_state"=some (.ref f)
section
variable {K:Fg}
theorem cU.off {H:Hp} {b:aA} {xs:List V} (h:cU K H b xs):cU K (qp H) b xs:=by
 rcases h with (h | ⟨o,h⟩) | h
 ·exact .inl (.inl (iz h (fun _ z=>by cases z)))
 ·exact .inl (.inr ⟨o,iz h (fun _ z=>by cases z)⟩)
 ·exact .inr h
theorem aat:qK K7:=T9 Ni vU vU
theorem j5.off {H:Hp} {v:V} {sp:gj} (h:j5 H v sp):j5 (qp H) v sp:=by
 obtain ⟨t,l,e,ht,r⟩:=h;exact ⟨t,l,e,iz ht (fun _ z=>by cases z),(zf aat).of r⟩
theorem Jf:qK wD:=zf (zf Ni)
theorem Jg {H H':Hp} {v:V} {x:List (List Str)} (h:wD H v x) (s:Same H H'):wD H' v x:=by
 obtain ⟨t,vs,e,ht,p⟩:=h;exact ⟨t,vs,e,s _ _ ht,Paired.gG p fun _ _ z=>iJ.same M8 z s⟩
theorem jW.same {H H':Hp} {v:V} {x:List (List Str) × Option (List (List Str))} (h:jW H v x) (s:Same H H'):jW H' v x:=by
 obtain ⟨t,u,w,e,ht,p,q⟩:=h;refine ⟨t,u,w,e,s _ _ ht,Jg p s,?_⟩;obtain ⟨x1,x2⟩:=x;cases x2 with
 | none=>exact q
 | some y=>exact Jg q s
theorem jW.off {H:Hp} {v:V} {x:List (List Str) × Option (List (List Str))} (h:jW H v x):jW (qp H) v x:=by
 obtain ⟨t,u,w,e,ht,p,q⟩:=h;refine ⟨t,u,w,e,iz ht (fun _ z=>by cases z),Jf.of p,?_⟩;obtain ⟨x1,x2⟩:=x;cases x2 with
 | none=>exact q
 | some y=>exact Jf.of q
theorem Ol:oX K 2 wD:=S6 (S6 eq_str)
theorem Ld {H:Hp} {Q:VK} {v w:V} {x:List (List Str) × Option (List (List Str))} (r:jW H v x) (r':jW H w x) (neg:Bool) (q:Q (.bl (neg ^^ true)) H):Sv K neg v w H Q:=by
 obtain ⟨t,u,w,rfl,ht,p,q1⟩:=r;obtain ⟨t',u',w',rfl,ht',p',q1'⟩:=r';have h1:zO K H 2 u u' true:=by
  have:=(Ol (K:=K)).eq p p'
  rwa [aM rfl] at this
 have h2:zO K H 2 w w' true:=by
  obtain ⟨x1,x2⟩:=x;cases x2 with
  | none =>
   cases (show w=.non from q1);cases (show w'=.non from q1');exact zO.flat (x:=.non) (y:=.non) rfl rfl
  | some y =>
   have:=(Ol (K:=K)).eq (show wD H w y from q1) (show wD H w' y from q1')
   rwa [aM rfl] at this
 refine ⟨t,t',_,_,2,fun _=>true,rfl,rfl,fj.of ht,fj.of ht',by decide,fun j x y hx hy=>?_,?_⟩
 ·rcases j with _ | _ | j
  ·cases hx; cases hy; exact h1
  ·cases hx; cases hy; exact h2
  ·cases hx
 ·exact q
def aqM (K:Fg):R2:=fun x y H Q=>(x=.non/\y=.non/\Q (.bl false) H)\/Sv K true x y H Q
theorem ai5 {X:Cx} (hu:X.A.units + 64 < cLine):pB X (compareOp .NotEq) (aqM X.K):=by
 intro pins s σ H x y v u Q I rx ry h;rcases h with ⟨rfl,rfl,q⟩ | h
 ·exact BX pins s σ H _ _ v u Q I rx ry ⟨rfl,q⟩
 ·exact Sx hu pins s σ H x y v u Q I rx ry h
theorem ai6 {H:Hp} {Q:VK} {v w:V} {o:Option (Int × NK)} (r:ROf o9 H v o) (r':ROf o9 H w o) (q:Q (.bl false) H):aqM K v w H Q:=by
 cases o with
 | none=>exact .inl ⟨r,r',q⟩
 | some c=>exact .inr (aii (K:=K) (n:=2) eq_int (M7 (n:=1) eq_int (M6 (n:=0) eq_int)) (by decide) (show o9 H v c from r) (show o9 H w c from r') true (by rw [aM rfl]; exact q))
end
structure LF (K:Fg) (a:gw) (lv PB:aA) (H:Hp) (sc x lT xl ls:aA) (v:V) (ns:List Int) (sp:gj) (ans:nq):Prop where
 sc:cU K H sc (ns.map V.int)
 gx:fW a H x (cW sp)
 la:sJ a lv H xl (cW sp) ans
 rs:j5 H v sp
 hl:H lT=some (.lst (ans.map iV))
 rl:iJ je H (.ref ls) (jU sp)
 lt:jV PB jo jR H
section
variable {K:Fg} {a:gw} {lv PB sc x lT xl ls:aA} {v:V} {ns:List Int} {sp:gj} {ans:nq} {H H':Hp}
theorem LF.same (h:LF K a lv PB H sc x lT xl ls v ns sp ans) (s:Same H H'):LF K a lv PB H' sc x lT xl ls v ns sp ans := ⟨s.seq h.sc,h.gx.same s,h.la.same s,h.rs.same s,s _ _ h.hl,h.rl.same fP s,h.lt.same s⟩
theorem LF.but (h:LF K a lv PB H sc x lT xl ls v ns sp ans) (b:jw PB H H') (l:jV PB jo jR H'):LF K a lv PB H' sc x lT xl ls v ns sp ans:=by
 have s:=b.lam h.lt;exact ⟨dR.seq (s.seq (cU.off h.sc)),(h.gx.off.same s).same dR,(h.la.off.same s).same dR,(h.rs.off.same s).same dR,dR _ _ (s _ _ (iz h.hl (fun _ z=>by cases z))),(((zf Dm).of h.rl).same fP s).same fP dR,l⟩
theorem LF.stat (h:LF K a lv PB H sc x lT xl ls v ns sp ans) (ok:eG sp) (c:Int):∃ (vs:List V) (k:Nat) (t:aA) (s:NK),H ls=some (.lst vs)/\(0:Int) < (vs.length:Int)/\c % (vs.length:Int)=(k:Int)/\vs[k]?=some (.ref t)/\dN H s t/\gK sp.week (cu sp.pots) s.1 s.2/\(jU sp)[k]?=some s:=by
 obtain ⟨_,vs,e,hv,Am⟩:=h.rl;cases e;have lp:0 < vs.length:=by
  rw [Paired.length Am];exact (aF.mp ok.first).1
 have m0:0<=c % (vs.length:Int):=Int.emod_nonneg _ (by omega);have m1:c % (vs.length:Int) < (vs.length:Int):=Int.emod_lt_of_pos _ (by omega);obtain ⟨k,ek⟩:∃ k:Nat,c % (vs.length:Int)=(k:Int):=⟨(c % (vs.length:Int)).toNat,by omega⟩;have hk:vs[k]?=some vs[k]:=aG (by omega);obtain ⟨s,hst,rst⟩:=dB Am hk;obtain ⟨t,et,nt⟩:=qR rst;exact ⟨vs,k,t,s,hv,by omega,ek,by rw [hk,et],nt,ok.st (aP hst),hst⟩
end
section
variable {P:cC} {w:World} {K:Fg} {mg:Str->Option aB} {base:Heap} {a:gw} {dV:aB} {lv cB:aA}
structure Om (P:cC) (w:World) (K:Fg) (mg:Str->Option aB) (base:Heap) (a:gw) (dV:aB) (lv cB PB:aA):Prop where
 R:aqL K mg a dV lv cB
 C:CodeHd base cB PB
 hB:base.BuiltinsAt mg PB
theorem Om.best {PB:aA} (O:Om P w K mg base a dV lv cB PB):∃ f fd,Fn K "best" "Lives.best" FP ["self","state"] f fd/\Meth K lv "best" f/\cD P w K mg base (fL P w) 9 f fd ["self","state"] (Aw K a lv PB):=by
 obtain ⟨f,fd,F,m,e⟩:=O.R.C.B.best;exact ⟨f,fd,F,m,aae F.F O.R.C.B e O.C O.hB⟩
theorem Om.rounds {PB:aA} (O:Om P w K mg base a dV lv cB PB):∃ f fd dv,yQ K "rounds_of" "rounds_of" kY dv f fd/\Binds K fd ["garden","state"] []/\Binds K fd ["garden","state"] [.none]/\mg "rounds_of"=some (.ref f)/\cD P w K mg base (fL P w) 12 f fd ["garden","state"] (Ax K a PB):=by
 obtain ⟨f,fd,dv,F,b0,b1,m⟩:=O.R.C.rof;obtain ⟨fb,db,bF,hB,okb⟩:=O.best;exact ⟨f,fd,dv,F,b0,b1,m,Q8 F O.R.C bF hB okb⟩
theorem Om.abR {PB:aA} (O:Om P w K mg base a dV lv cB PB):∃ f fd,Fn K "_law_best" "_law_best" qX ["_law_spec_here","_law_days","_law_state"] f fd/\mg "_law_best"=some (.ref f)/\cD P w K mg base (fL P w) 3 f fd ["_law_spec_here","_law_days","_law_state"] Ga:=by
 obtain ⟨f,fd,F,m⟩:=O.R.lb;obtain ⟨fs,ds,sF,mS⟩:=O.R.st;obtain ⟨fb,db,bF,mB⟩:=O.R.be;obtain ⟨fn,dn,nF,mN⟩:=O.R.nu;exact ⟨f,fd,F,m,Wg F.F O.R.D.B O.R.C.B.mx sF mS bF mB nF mN⟩
theorem Om.ai7 {PB:aA} (O:Om P w K mg base a dV lv cB PB):∃ f fd,Fn K "_law_due" "_law_due" Bj ["_law_spec_here","_law_days","_law_state"] f fd/\mg "_law_due"=some (.ref f)/\cD P w K mg base (fL P w) 4 f fd ["_law_spec_here","_law_days","_law_state"] Wh:=by
 obtain ⟨f,fd,F,m⟩:=O.R.ld;obtain ⟨fl,dl,lF,mL,okl⟩:=O.abR;exact ⟨f,fd,F,m,aar F.F O.R.D.B lF mL okl⟩
theorem Om.nos {PB:aA} (O:Om P w K mg base a dV lv cB PB):∃ f fd,Fn K "_law_no_state" "_law_no_state" Dw ["_law_garden_here","_law_lives","_law_way"] f fd/\mg "_law_no_state"=some (.ref f)/\cD P w K mg base (fL P w) 13 f fd ["_law_garden_here","_law_lives","_law_way"] (abQ a lv PB):=by
 obtain ⟨f,fd,F,m⟩:=O.R.no;obtain ⟨fr,dr,dvr,rF,b0,b1,mR,QZ⟩:=O.rounds;obtain ⟨fb,db,bF,hB,okb⟩:=O.best;exact ⟨f,fd,F,m,ai4 F.F O.R.O O.R.C rF b0 mR QZ bF hB okb⟩
theorem aA2 {PB:aA} (O:Om P w K mg base a dV lv cB PB) {f:aA} {cdv:aB} {A:d7} {outer:List Env} {s:aX} {H₀:Hp} {E:XK} (hr:d8 13 (A.deeper (PyProof.Rows.envOfC "law" (aW rm) s.heap.objs.size f cdv))) : ∃ t,Br (oO (fL P w) P w K mg base aas "law" (aW rm) f cdv A outer s H₀ E) ((gq rm).drop 13) t/\∀ (D:Ends) (H:Hp) (sc x lT xl ls ts td:aA) (v:V) (ns:List Int) (sp:gj) (ans:nq) (s0:NK) (cs:List Int) (o:Option Nat) (u6 u9 Rc:Option V),eG sp->Told (fH (cW sp)) (j4 (cW sp)) ans->LF K a lv PB H sc x lT xl ls v ns sp ans->dN H s0 ts->gK sp.week (cu sp.pots) s0.1 s0.2->jW H (.ref td) (Jd (gA (cW sp)) (cs,o))->o7 (bF (cW sp) ans) (fH (cW sp) + 1) s0 [] []=(cs,o)->(∀ H',D.rt (.bl true) H') -> t D [some (.ref sc),some v,some (.ref x),some (.ref lT),some (.ref xl),some (.ref ls),u6,some (.ref ts),some (.ref td),u9,Rc] H:=by
 have B:=O.R.D.B;obtain ⟨fk,dk,kF,mK⟩:=O.R.D.ce;obtain ⟨fr,dr,dvr,rF,b0,b1,mR,QZ⟩:=O.rounds;obtain ⟨fe,de,eF,mE,oke⟩:=O.ai7;have okk:cD P w K mg base (fL P w) 1 fk dk ["_law_script","_law_k"] (Ac K):=zm kF.F B;have kK:=kF.F.kp;have bK:=kF.b;have kR:=rF.kp;have kE:=eF.F.kp;have bE:=eF.b;have hr1:d8 1 _:=hr.mono (by decide);have Q5:d8 4 _:=hr.mono (by decide);have Wj:d8 12 _:=hr.mono (by decide);refine ⟨_,aH (eV (cN jJ (bZ gH (dI okk hr1 mK kK bK bB (ao (pv 0) (iR [.int 4] rfl))) aV) aV (dz _)) (aU (cj (nQ (Sw hr.units) (dI QZ Wj mR kR b0 (cV bW) (ao (pv 2) (ao (pv 7) aK))) (pv 8) (dz _)))) cX) (aU (cj (nQ (Sw hr.units) (Mq QZ Wj rfl mR kR b1 (show Vals [V.non] [Value.none] from .cons rfl .nil) (cV bW) (ao (pv 2) aK)) (dI oke Q5 mE kE bE bB (ao (pv 1) (ao (pv 3) (ao (dh gO (pv 5) aV (fun _ _=>rfl)) aK)))) (dz _)))),?_⟩;intro D H sc x lT xl ls ts td v ns sp ans s0 cs o u6 u9 Rc ok told lf nv jN rd due q;have sE:=ok.sE;have CQ:=wW sE;refine ⟨_,rfl,sc,ns,4,rfl,lf.sc,_,_,rfl,rfl,(by show (0:Int) < 2; decide),rfl,_,rfl,?_⟩;refine Ej (fun _=>?_) (fun _=>?_)
 ·refine ⟨_,rfl,_,rfl,nJ ⟨x,cW sp,.ref ts,rfl,lf.gx,ok.good,lf.lt,fun s1=>s1=s0,?_,.inr ⟨(fun z=>by cases z),true,(iD nv).arg jN,(fun z=>nomatch z),fun _ d ds sv _=>?_⟩⟩⟩
  ·rintro s1 rfl H' t Wk cs2 o2 rows bp Em Jh Le _ rn da;have ea:=vR Jh told CQ;subst ea;rw [due] at Le;cases Le;have sT:=bp.lam lf.lt;have rd':jW H' (.ref td) (Jd (gA (cW sp)) (cs,o)):=jW.same (jW.same (jW.off rd) sT) dR;exact ⟨_,rfl,Ld (wG (Paired.gG rn fun _ _ z=>z.2) da) rd' false (q H')⟩
  ·obtain ⟨e1,e2⟩:=sv.one (iD nv);rw [e1,e2]
 ·refine ⟨_,rfl,nJ ⟨x,cW sp,.non,rfl,lf.gx,ok.good,lf.lt,fun s1=>s1=(0,List.replicate (cW sp).pots.length 0),?_,.inl ⟨rfl,rfl⟩⟩⟩;rintro s1 rfl H' t Wk cs2 o2 rows bp Em Jh Le _ rn da;have ea:=vR Jh told CQ;subst ea;have lf2:=lf.but bp Em;have rf:jW H' (.ref t) (Jd (gA (cW sp)) (cs2,o2)):=wG (Paired.gG rn fun _ _ z=>z.2) da;obtain ⟨vs,k,t0,s3,hv,lv0,ek,hk,nv3,FQ,hst⟩:=lf2.stat ok 0;have ek0:k=0:=by
   rw [Int.zero_emod] at ek;omega
  subst ek0;have es3:s3=(0,List.replicate (cW sp).pots.length 0):=by
   have e1:=Dt ok (d:=s3.1) (ds:=s3.2) hst;obtain ⟨n,en,_,est⟩:=mV sE (show gK (cW sp).week (cW sp).pots s3.1 s3.2 from FQ);obtain ⟨n',en',_,aA4⟩:=mV sE (Av sE);rw [Ar] at en';have h1:numOf s3.1 (cW sp).pots s3.2=numOf s3.1 (cu sp.pots) s3.2:=rfl;rw [h1,e1] at en;have:n=n':=by omega
   rw [this,aA4] at est;exact est.symm
  refine ⟨_,rfl,_,rfl,_,rfl,ls,_,_,.ref t0,rfl,rfl,cU.of hv,fD (j:=0) hk,nJ ⟨v,sp,lT,Wk,.ref t0,s3.1,s3.2,rfl,lf2.rs,ok,lf2.hl,told,iD nv3,FQ,fun H3 t3 cs3 o3 s3' aqO _ rd3=>?_⟩⟩;rw [show ((s3.1,s3.2):NK)=(0,List.replicate (cW sp).pots.length 0) from es3,Le] at aqO;cases aqO;exact Ld (rf.same s3') rd3 false (q H3)
end
section
variable {P:cC} {w:World} {K:Fg} {mg:Str->Option aB} {base:Heap} {a:gw} {dV:aB} {lv cB:aA}
theorem aA5 {PB:aA} (O:Om P w K mg base a dV lv cB PB) {f:aA} {cdv:aB} {A:d7} {outer:List Env} {s:aX} {H₀:Hp} {E:XK} (hr:d8 13 (A.deeper (PyProof.Rows.envOfC "law" (aW rm) s.heap.objs.size f cdv))) : ∃ t,Br (oO (fL P w) P w K mg base aas "law" (aW rm) f cdv A outer s H₀ E) ((gq rm).drop 10) t/\∀ (D:Ends) (Ri H:Hp) (sc x lT xl ls ts td tf:aA) (v:V) (ns:List Int) (sp:gj) (ans:nq) (k:Nat) (s0:NK) (cs:List Int) (o:Option Nat) (rows:List aA) (u6 Rc:Option V),eG sp->Told (fH (cW sp)) (j4 (cW sp)) ans->LF K a lv PB Ri sc x lT xl ls v ns sp ans->(jU sp)[k]?=some s0->dN Ri s0 ts->gK sp.week (cu sp.pots) s0.1 s0.2->jW Ri (.ref td) (Jd (gA (cW sp)) (cs,o))->o7 (bF (cW sp) ans) (fH (cW sp) + 1) s0 [] []=(cs,o)->cs.length<=fH (cW sp) -> jw PB Ri H->jV PB jo jR H->abK Ri H (gA (cW sp)) rows cs->VL H tf rows o->(∀ H',D.rt (.bl true) H') -> t D [some (.ref sc),some v,some (.ref x),some (.ref lT),some (.ref xl),some (.ref ls),u6,some (.ref ts),some (.ref td),some (.ref tf),Rc] H:=by
 have B:=O.R.D.B;obtain ⟨fn,dn,nF,mN⟩:=O.R.nu;obtain ⟨fk,dk,kF,mK⟩:=O.R.D.ce;obtain ⟨fr,dr,dvr,rF,b0,b1,mR,QZ⟩:=O.rounds;obtain ⟨fe,de,eF,mE,oke⟩:=O.ai7;have okn:cD P w K mg base (fL P w) 1 fn dn ["_law_spec_here","_law_state"] La:=Oi nF.F B;have okk:cD P w K mg base (fL P w) 1 fk dk ["_law_script","_law_k"] (Ac K):=zm kF.F B;have kN:=nF.F.kp;have bN:=nF.b;have kK:=kF.F.kp;have bK:=kF.b;have kR:=rF.kp;have kE:=eF.F.kp;have bE:=eF.b;have hr1:d8 1 _:=hr.mono (by decide);have Q5:d8 4 _:=hr.mono (by decide);have Wj:d8 12 _:=hr.mono (by decide);obtain ⟨te,hE',aqP⟩:=aA2 (P:=P) (w:=w) (base:=base) (f:=f) (cdv:=cdv) (A:=A) (outer:=outer) (s:=s) (H₀:=H₀) (E:=E) O hr;refine ⟨_,aH (eV (pw_or (iG (gQ (qD .tuple B.isinstance B.tuple (pv 9)))) (pw_or (cN (Sx hr.units) (pv 9) (pv 8) (dz _)) (pw_or1 (cN BX (nQ tE (dh dM (pv 8) aV (fun _ _=>rfl)) ji (dz _)) (nQ Ea (dh gO (pv 3) (dI okn hr1 mN kN bN bB (ao (pv 1) (ao (pv 7) aK))) (fun _ _=>rfl)) ji (dz _)) (dz _))))).pt (aU (cj qb)) cX) (aH (eV (pw_and (cN tE (dh dM (pv 8) aV (fun _ _=>rfl)) ji (dz _)) (pw_and1 (cN BX (ig dJ B.len PySem.boot_len (ao (dh dM (pv 8) aV (fun _ _=>rfl)) aK)) (dh gO (pv 3) (dI okn hr1 mN kN bN bB (ao (pv 1) (ao (pv 7) aK))) (fun _ _=>rfl)) (dz _)))).pt (aU (cj qb)) cX) (aH (gR dY rfl (fK (bZ wL (dh dM (pv 9) aV (fun _ _=>rfl)) (uY (cN Ea (dh dM (pv 9) aV (fun _ _=>rfl)) ji (dz _)) (dh dM (pv 9) aV (fun _ _=>rfl)) (fZ aK)))) (cZ 10 qm.nd) (aU (fu (lH PySem.F.plainAttrs_list PySem.F.slot_list_append PySem.F.type_list_append fX (pv 10) (iR [.str "q"] rfl))))) hE')),?_⟩;intro D Ri H sc x lT xl ls ts td tf v ns sp ans k s0 cs o rows u6 Rc ok told lf hst nv jN rd due lcs bp lt rn da q;have sE:=ok.sE;have Gb:=told.len;have big:30000<=sizeLine:=by decide
 have small:=sE.small;have sT:=bp.lam lf.lt;have lf1:=lf.but bp lt;have rd1:jW H (.ref td) (Jd (gA (cW sp)) (cs,o)):=jW.same (jW.same (jW.off rd) sT) dR;have nv1:=((dN.off nv).same sT).same dR;have rf:jW H (.ref tf) (Jd (gA (cW sp)) (cs,o)):=wG (Paired.gG rn fun _ _ z=>z.2) da;have en:numOf s0.1 (cu sp.pots) s0.2=(k:Int):=Dt ok (d:=s0.1) (ds:=s0.2) hst;have lk:k < fH (cW sp):=by
  rw [<- Lb ok];exact (aF.mp hst).1
 have ld:s0.2.length=sp.pots.length:=by rw [jN.len,fU]
 have ed:qt (cW sp) ans s0=ans.getD k none:=by
  unfold qt;rw [show numOf s0.1 (cW sp).pots s0.2=(k:Int) from en,cQ]
 have lr:rows.length=cs.length:=Paired.length rn;have ends:(o=none/\ans.getD k none=some (cs.length:Int))\/(∃ j,o=some j)/\ans.getD k none=none:=by
  cases e:ans.getD k none with
  | none =>
   obtain ⟨cs',j,e'⟩:=Iv sE told (fH (cW sp) + 1) s0 [] [] jN (by rw [ed,e]) (by simp) nodup_nil (fun m hm=>by simp at hm);rw [due] at e';cases e';exact .inr ⟨⟨j,rfl⟩,rfl⟩
  | some m =>
   have p0:=zY told e;have p1:=Fe told e;obtain ⟨n,rfl⟩:∃ n:Nat,m=(n:Int):=⟨m.toNat,by omega⟩;obtain ⟨cs',e',l'⟩:=Iu sE told n (fH (cW sp) + 1) s0 [] [] jN (by rw [ed,e]) (by omega) (fun m hm=>by simp at hm);rw [due] at e';cases e';refine .inl ⟨rfl,?_⟩;rw [l'];simp
 obtain ⟨tf',f1,f2,ef,htf,pf1,pf2⟩:=id rf;cases ef;obtain ⟨td',d1,d2,edd,htd,pd1,pd2⟩:=id rd1;cases edd;refine ⟨_,rfl,.ref tf,.tup,rfl,⟨tf,_,rfl,htf⟩,_,rfl,d9 ⟨_,rfl,_,rfl,Ld rf rd1 true ⟨false,rfl,d9 ?_⟩⟩⟩;refine ⟨_,rfl,td,_,1,d2,rfl,rfl,fj.of htd,rfl,rfl,_,rfl,_,rfl,_,rfl,v,sp,_,s0.1,s0.2,rfl,lf1.rs,ok,iD nv1,ld,?_⟩;rw [en];refine ⟨lT,_,_,_,rfl,rfl,cU.of lf1.hl,fD (wZ (by rw [Gb]; exact lk)),rfl,rfl,_,rfl,?_⟩;have loop:∀ (Hc:Hp) (i:Nat),jw PB Ri Hc->jV PB jo jR Hc->(∀ r ∈ rows,∃ xs,Hc r=some (.lst xs)/\xs.length<=8 + i)->∀ r ∈ rows,∃ xs,Hc r=some (.lst xs)/\xs.length<=8 + i/\jw PB Ri (L2.upd Hc r (.lst (xs++[.str "q"])))/\jV PB jo jR (L2.upd Hc r (.lst (xs++[.str "q"])))/\∀ r' ∈ rows,∃ xs',L2.upd Hc r (.lst (xs++[.str "q"])) r'=some (.lst xs')/\xs'.length<=8 + (i + 1):=by
  intro Hc i bc lc hc r hr';obtain ⟨xs,hx,lx⟩:=hc r hr';have fr:Ri r=none:=by
   obtain ⟨i',hi'⟩:=cJ hr';obtain ⟨_,_,z⟩:=dB rn hi';exact z.1
  refine ⟨xs,hx,lx,bc.upd fr,lc.upd hx (fun _ z=>by cases z) (fun z=>by cases z),fun r' aA6=>?_⟩
  by_cases z:r'=r
  ·subst z;exact ⟨_,aD,by rw [aQ]; show xs.length + 1<=_; omega⟩
  ·obtain ⟨xs',hx',lx'⟩:=hc r' aA6;exact ⟨xs',by rw [bf z]; exact hx',by omega⟩
 have Oo:∀ r ∈ rows,∃ xs,H r=some (.lst xs)/\xs.length<=8 + 0:=fun r hr'=>by
  obtain ⟨i',hi'⟩:=cJ hr';obtain ⟨c,_,z⟩:=dB rn hi';refine ⟨_,z.2,?_⟩;rw [ak];unfold iK;rw [ak];refine bJ (length_filter_le _ _) ?_;rw [bw];unfold gA;rw [ak];exact sE.n8
 rcases ends with ⟨rfl,Wl⟩ | ⟨⟨j,rfl⟩,Wl⟩
 ·
  cases (show d2=.non from pd2);rw [Wl];have e1:decide (V.non=V.non)=true:=aM rfl;have e2:decide (iV (some (cs.length:Int))=V.non)=false:=aL (fun z=>nomatch z);have e3:decide (V.bl true=V.bl (!false))=true:=aM rfl;rw [e1,e2,e3];obtain ⟨ld1,vs1,rfl,hd1,pv1⟩:=id pd1;have lv1:(vs1.length:Int)=(cs.length:Int):=by
   rw [Paired.length pv1]
   show (((cs.map (iK (gA (cW sp)))).length:Nat):Int)=_
   rw [ak]
  refine d9 ⟨_,rfl,td,_,1,.non,rfl,rfl,fj.of htd,rfl,rfl,_,rfl,?_⟩;rw [e1];refine eE ⟨_,rfl,td,_,0,.ref ld1,rfl,rfl,fj.of htd,rfl,ld1,_,rfl,.inl (cU.of hd1),_,rfl,_,rfl,_,rfl,v,sp,_,s0.1,s0.2,rfl,lf1.rs,ok,iD nv1,ld,?_⟩;rw [en];refine ⟨lT,_,_,_,rfl,rfl,cU.of lf1.hl,fD (wZ (by rw [Gb]; exact lk)),(by rw [Wl]; rfl),_,rfl,?_⟩;rw [Wl,show decide (V.int (vs1.length:Int)=iV (some (cs.length:Int)))=true from aM (by rw [lv1]; rfl)];obtain ⟨l,hta,hla⟩:=da;refine d9 ⟨_,rfl,tf,_,0,.ref l,rfl,rfl,fj.of hta,rfl,_,rfl,tf,_,1,.non,rfl,rfl,fj.of hta,rfl,rfl,_,rfl,?_⟩;rw [e1];refine d9 ⟨by show 0<=sizeLine; decide,fun l0 h0=>?_⟩;have v0:=aY (o:=.lst []) h0;refine ⟨l,l0,_,_,rfl,rfl,v0 _ _ hla,aD,by rw [ak]; show rows.length + 0<=sizeLine; omega,fun lc hlc=>⟨lc,rfl,⟨_,cU.of aD⟩,?_⟩⟩;have vc:=aY (o:=.lst (rows.map V.ref++[])) hlc;have Lf:L2.upd (L2.upd H l0 (.lst [])) lc (.lst (rows.map V.ref++[])) lc=some (.lst (rows.map V.ref)):=by rw [cA]; exact aD
  have ai8:∀ r,H r≠none->r≠lc:=fun r h z=>by
   subst z;cases e:H r with
   | none=>exact h e
   | some o'=>rw [v0 _ _ e] at hlc; cases hlc
  have sC:=v0.trans vc;rw [cA] at Lf sC ⊢;generalize L2.upd (L2.upd H l0 (.lst [])) lc (.lst (rows.map V.ref))=HC at sC Lf ⊢;have sB:Same H HC:=sC;have bC:jw PB Ri HC:=bp.trans sB.but;have nlc:∀ r ∈ rows,r≠lc:=fun r hr' z=>by
   obtain ⟨xs,hx,_⟩:=Oo r hr';have:=ai8 r (by rw [hx]; exact fun y=>by cases y);exact this z
  refine gZ (K:=K) (a:=lc) (xs:=rows.map V.ref) (fun i σ H'=>∃ Rc,σ=[some (.ref sc),some v,some (.ref x),some (.ref lT),some (.ref xl),some (.ref ls),u6,some (.ref ts),some (.ref td),some (.ref tf),Rc]/\jw PB Ri H'/\jV PB jo jR H'/\(∀ r ∈ rows,∃ xs,H' r=some (.lst xs)/\xs.length<=8 + i)/\H' lc=some (.lst (rows.map V.ref))) ⟨_,rfl,bC,lt.same sB,(fun r hr'=>(Oo r hr').imp fun xs h=>⟨sB _ _ h.1,h.2⟩),Lf⟩ (fun i σ H' _ ⟨_,_,_,_,_,e⟩=>cU.of e) ?_ ?_
  ·rintro i y σ H' hy ⟨ai9,rfl,b',l',r',e'⟩;rw [aJ] at hy;obtain ⟨r,hr',rfl⟩:=bh.mp hy;have li:i < rows.length:=(aF.mp hr').1;obtain ⟨xs,hx,lx,b2,l2,r2⟩:=loop H' i b' l' r' r (aP hr');exact ⟨_,rfl,.inl ⟨rfl,_,cU.of hx⟩,r,xs,.str "q",rfl,rfl,hx,by omega,_,rfl,b2,l2,r2,by rw [bf (Ne.symm (nlc r (aP hr')))]; exact e'⟩
  ·rintro σ H' ⟨ai9,rfl,b',l',_,_⟩;have sT':=b'.lam lf.lt;exact aqP D H' sc x lT xl ls ts td v ns sp ans s0 cs _ _ _ _ ok told (lf.but b' l') (((dN.off nv).same sT').same dR) jN (jW.same (jW.same (jW.off rd) sT') dR) due q
 ·
  obtain ⟨ld2,vs2,rfl,hd2,pv2⟩:=id (show wD H d2 _ from pd2);rw [Wl];have e1:decide (V.ref ld2=V.non)=false:=aL (fun z=>by cases z);have e2:decide (iV (none:Option Int)=V.non)=true:=aM rfl;have e3:decide (V.bl false=V.bl (!true))=true:=aM rfl;rw [e1,e2,e3];refine d9 ⟨_,rfl,td,_,1,.ref ld2,rfl,rfl,fj.of htd,rfl,rfl,_,rfl,?_⟩;rw [e1];obtain ⟨l1,l2,hta,hla,hlb⟩:=da;have e4:decide (V.ref l2=V.non)=false:=aL (fun z=>by cases z);refine d9 (d9 ⟨_,rfl,tf,_,0,.ref l1,rfl,rfl,fj.of hta,rfl,_,rfl,tf,_,1,.ref l2,rfl,rfl,fj.of hta,rfl,rfl,_,rfl,?_⟩);rw [e4];have aA8:((rows.take j).map V.ref).length + ((rows.drop j).map V.ref).length=rows.length:=by
   rw [ak,ak,<- aQ,take_append_drop]
  have aqR:(rows.take j).map V.ref++(rows.drop j).map V.ref=rows.map V.ref:=by rw [<- aZ,take_append_drop]
  refine eE ⟨_,rfl,tf,_,1,.ref l2,rfl,rfl,fj.of hta,rfl,l1,l2,_,_,rfl,rfl,hla,hlb,by rw [aA8]; omega,fun lc hlc=>⟨lc,rfl,⟨_,cU.of aD⟩,?_⟩⟩;have sC:=aY (o:=.lst ((rows.take j).map V.ref++(rows.drop j).map V.ref)) hlc;have Lf:L2.upd H lc (.lst ((rows.take j).map V.ref++(rows.drop j).map V.ref)) lc=some (.lst (rows.map V.ref)):=by rw [<- aqR]; exact aD
  have ai8:∀ r,H r≠none->r≠lc:=fun r h z=>by
   subst z;exact h hlc
  rw [aqR] at Lf sC ⊢;generalize L2.upd H lc (.lst (rows.map V.ref))=HC at sC Lf ⊢;have sB:Same H HC:=sC;have bC:jw PB Ri HC:=bp.trans sB.but;have nlc:∀ r ∈ rows,r≠lc:=fun r hr' z=>by
   obtain ⟨xs,hx,_⟩:=Oo r hr';have:=ai8 r (by rw [hx]; exact fun y=>by cases y);exact this z
  refine gZ (K:=K) (a:=lc) (xs:=rows.map V.ref) (fun i σ H'=>∃ Rc,σ=[some (.ref sc),some v,some (.ref x),some (.ref lT),some (.ref xl),some (.ref ls),u6,some (.ref ts),some (.ref td),some (.ref tf),Rc]/\jw PB Ri H'/\jV PB jo jR H'/\(∀ r ∈ rows,∃ xs,H' r=some (.lst xs)/\xs.length<=8 + i)/\H' lc=some (.lst (rows.map V.ref))) ⟨_,rfl,bC,lt.same sB,(fun r hr'=>(Oo r hr').imp fun xs h=>⟨sB _ _ h.1,h.2⟩),Lf⟩ (fun i σ H' _ ⟨_,_,_,_,_,e⟩=>cU.of e) ?_ ?_
  ·rintro i y σ H' hy ⟨ai9,rfl,b',l',r',e'⟩;rw [aJ] at hy;obtain ⟨r,hr',rfl⟩:=bh.mp hy;have li:i < rows.length:=(aF.mp hr').1;obtain ⟨xs,hx,lx,b2,l2,r2⟩:=loop H' i b' l' r' r (aP hr');exact ⟨_,rfl,.inl ⟨rfl,_,cU.of hx⟩,r,xs,.str "q",rfl,rfl,hx,by omega,_,rfl,b2,l2,r2,by rw [bf (Ne.symm (nlc r (aP hr')))]; exact e'⟩
  ·rintro σ H' ⟨ai9,rfl,b',l',_,_⟩;have sT':=b'.lam lf.lt;exact aqP D H' sc x lT xl ls ts td v ns sp ans s0 cs _ _ _ _ ok told (lf.but b' l') (((dN.off nv).same sT').same dR) jN (jW.same (jW.same (jW.off rd) sT') dR) due q
end
section
variable {P:cC} {w:World} {K:Fg} {mg:Str->Option aB} {base:Heap} {a:gw} {dV:aB} {lv cB:aA}
theorem Wm (ns:List Int):∃ ms:List Int,qx (ns.map V.int) (some 3) (some 9)=ms.map V.int/\ms.length<=100:=by
 refine ⟨(ns.drop (HT.yU (ns.map V.int).length 0 (some 3))).take (HT.yU (ns.map V.int).length (ns.map V.int).length (some 9) - HT.yU (ns.map V.int).length 0 (some 3)),?_,?_⟩
 ·unfold qx;simp only [map_take,map_drop]
 ·rw [length_take];have:=HT.Ec (ns.map V.int).length (ns.map V.int).length 9;have e:HT.yU (ns.map V.int).length (ns.map V.int).length (some 9)=min 9 (ns.map V.int).length:=this;omega
theorem aA9 {PB:aA} (O:Om P w K mg base a dV lv cB PB) {f:aA} {cdv:aB} {A:d7} {outer:List Env} {s:aX} {H₀:Hp} {E:XK} (hr:d8 13 (A.deeper (PyProof.Rows.envOfC "law" (aW rm) s.heap.objs.size f cdv))) : ∃ t,Br (oO (fL P w) P w K mg base aas "law" (aW rm) f cdv A outer s H₀ E) ((gq rm).drop 5) t/\∀ (D:Ends) (H:Hp) (sc x lT xl ls:aA) (v:V) (ns:List Int) (sp:gj) (ans:nq),eG sp->Told (fH (cW sp)) (j4 (cW sp)) ans->LF K a lv PB H sc x lT xl ls v ns sp ans->(∀ H',D.rt (.bl true) H') -> t D [some (.ref sc),some v,some (.ref x),some (.ref lT),some (.ref xl),some (.ref ls),none,none,none,none,none] H:=by
 have B:=O.R.D.B;have Vt:=O.R.C.B.V;obtain ⟨fk,dk,kF,mK⟩:=O.R.D.ce;obtain ⟨fr,dr,dvr,rF,b0,b1,mR,QZ⟩:=O.rounds;obtain ⟨fe,de,eF,mE,oke⟩:=O.ai7;obtain ⟨fl,dl,lF,mL,okl⟩:=O.abR;obtain ⟨fb,db,bF',hB',okb⟩:=O.best;obtain ⟨fo,d_o,oF,mO,oko⟩:=O.nos;have okk:cD P w K mg base (fL P w) 1 fk dk ["_law_script","_law_k"] (Ac K):=zm kF.F B;have kK:=kF.F.kp;have bK:=kF.b;have kR:=rF.kp;have kE:=eF.F.kp;have bE:=eF.b;have kL:=lF.F.kp;have bL:=lF.b;have kO:=oF.F.kp;have bO:=oF.b;have hr1:d8 1 _:=hr.mono (by decide);have hr3:d8 3 _:=hr.mono (by decide);have Q5:d8 4 _:=hr.mono (by decide);have hr9:d8 9 _:=hr.mono (by decide);have Wj:d8 12 _:=hr.mono (by decide);obtain ⟨tc,hC,Rb⟩:=aA5 (P:=P) (w:=w) (base:=base) (f:=f) (cdv:=cdv) (A:=A) (outer:=outer) (s:=s) (H₀:=H₀) (E:=E) O hr;refine ⟨_,aH (gR dY rfl (fK (bZ wL (fZ (iR [.int 0] rfl)) (qw vg (pv 0) (rJ aV) (rJ aV)))) (cZ 6 qm.nd) (aH (bM (i:=7) qm.nd rfl (Or.inl rfl) (dh gO (pv 5) (bZ gH (pv 6) (ig dJ B.len PySem.boot_len (ao (pv 5) aK))) (fun _ _=>rfl))) (aU (eV (cN (ai5 hr.units) (kJ (pv 4) Vt.t.cl hB' okb hr9 bF'.b .nil (cV bW) (ao (pv 7) aK)) (dI okl hr3 mL kL bL bB (ao (pv 1) (ao (pv 3) (ao (pv 7) aK)))) (dz _)) (aU (cj qb)) cX)))) (aH (eV (iG (gQ (dI oko hr mO kO bO bB (ao (pv 2) (ao (pv 4) (ao (bZ gH (dI okk hr1 mK kK bK bB (ao (pv 0) (iR [.int 5] rfl))) aV) aK)))))) (aU (cj qb)) cX) (aH (bM (i:=7) qm.nd rfl (Or.inl rfl) (dh gO (pv 5) (bZ gH (dI okk hr1 mK kK bK bB (ao (pv 0) (iR [.int 3] rfl))) (ig dJ B.len PySem.boot_len (ao (pv 5) aK))) (fun _ _=>rfl))) (aH (bM (i:=8) qm.nd rfl (Or.inl rfl) (dI oke Q5 mE kE bE bB (ao (pv 1) (ao (pv 3) (ao (pv 7) aK))))) (aH (bM (i:=9) qm.nd rfl (Or.inl rfl) (dI QZ Wj mR kR b0 (cV bW) (ao (pv 2) (ao (pv 7) aK)))) hC)))),?_⟩;intro D H sc x lT xl ls v ns sp ans ok told lf q;have sE:=ok.sE;have Gb:=told.len;have CQ:=wW sE;have big:10000<=sizeLine:=by decide
 refine ⟨by show 1<=sizeLine; decide,fun l0 h0=>?_⟩;have v0:=aY (o:=.lst [V.int 0]) h0;refine ⟨_,rfl,_,rfl,_,rfl,sc,_,rfl,v0.seq lf.sc,fun l1 h1=>?_⟩;have v1:=aY (o:=.lst (qx (ns.map V.int) (some 3) (some 9))) h1;obtain ⟨ms,em,lm⟩:=Wm ns;refine ⟨l0,l1,_,_,rfl,rfl,v1 _ _ aD,aD,by rw [em,ak]; show 1 + ms.length<=sizeLine; omega,fun l2 h2=>⟨l2,rfl,⟨_,cU.of aD⟩,?_⟩⟩;have v2:=aY (o:=.lst ([V.int 0]++qx (ns.map V.int) (some 3) (some 9))) h2;have sA:=(v0.trans v1).trans v2;have ex:[V.int 0]++qx (ns.map V.int) (some 3) (some 9)=(0::ms).map V.int:=by rw [em]; rfl
 have e2:L2.upd (L2.upd (L2.upd H l0 (.lst [V.int 0])) l1 (.lst (qx (ns.map V.int) (some 3) (some 9)))) l2 (.lst ([V.int 0]++qx (ns.map V.int) (some 3) (some 9))) l2=some (.lst ((0::ms).map V.int)):=by rw [aD,ex]
 have lf2:=lf.same sA;generalize L2.upd (L2.upd (L2.upd H l0 (.lst [V.int 0])) l1 (.lst (qx (ns.map V.int) (some 3) (some 9)))) l2 (.lst ([V.int 0]++qx (ns.map V.int) (some 3) (some 9)))=H2 at lf2 e2 ⊢;refine gZ (K:=K) (a:=l2) (xs:=(0::ms).map V.int) (fun i σ H'=>∃ u6 u7,σ=[some (.ref sc),some v,some (.ref x),some (.ref lT),some (.ref xl),some (.ref ls),u6,u7,none,none,none]/\LF K a lv PB H' sc x lT xl ls v ns sp ans/\H' l2=some (.lst ((0::ms).map V.int))) ⟨none,none,rfl,lf2,e2⟩ (fun i σ H' _ ⟨_,_,_,_,e'⟩=>cU.of e') ?_ ?_
 ·rintro i y σ H3 hi ⟨u6,u7,rfl,Ro,e3⟩;rw [aJ] at hi;obtain ⟨c,_,rfl⟩:=bh.mp hi;obtain ⟨vs,k,t,s0,hv,lv0,ek,hk,nv,jN,hst⟩:=Ro.stat ok c;refine ⟨_,rfl,_,rfl,_,rfl,ls,_,rfl,.inl (cU.of hv),_,_,rfl,rfl,lv0,ls,_,_,.ref t,rfl,rfl,cU.of hv,(by rw [ek]; exact fD hk),?_⟩;obtain ⟨dxl,yl,ll,hxl,_,_⟩:=id Ro.la;refine ⟨_,rfl,xl,dxl,_,rfl,hxl,K6 _ _ (by decide +kernel) (by decide +kernel),_,rfl,nJ (FT Ro.la sE Gb Ro.lt nv jN (fun H4 fv b4 lt4 rf=>?_))⟩;have lf4:=Ro.but b4 lt4;have sT:=b4.lam Ro.lt;have nv4:=((dN.off nv).same sT).same dR;refine ⟨_,rfl,_,rfl,_,rfl,nJ ⟨v,sp,lT,ans,.ref t,s0.1,s0.2,rfl,lf4.rs,ok,lf4.hl,told,iD nv4,jN,fun H5 r s5 ro=>?_⟩⟩;have rf5:ROf o9 H5 fv (bF (cW sp) ans s0):=by
   cases eb:bF (cW sp) ans s0 with
   | none=>rw [eb] at rf; exact rf
   | some cc=>rw [eb] at rf; exact iC.same (show o9 H4 fv cc from rf) s5
  exact ai6 rf5 ro ⟨false,rfl,d9 ⟨_,_,rfl,lf4.same s5,s5 _ _ (dR _ _ (sT _ _ (iz e3 (fun _ z=>by cases z))))⟩⟩
 ·rintro σ H3 ⟨u6,u7,rfl,Ro,_⟩;refine ⟨_,rfl,_,rfl,_,rfl,sc,ns,5,rfl,Ro.sc,_,_,rfl,rfl,(by show (0:Int) < 4; decide),nJ ⟨x,xl,_,cW sp,ans,rfl,Ro.gx,ok.good,Ro.la,Gb,Ro.lt,fun H4 s4=>⟨_,rfl,d9 ?_⟩⟩⟩;have lf4:=Ro.same s4;obtain ⟨vs,k,t,s0,hv,lv0,ek,hk,nv,jN,hst⟩:=lf4.stat ok (ns.getD 3 0);refine ⟨_,rfl,_,rfl,sc,ns,3,rfl,lf4.sc,_,rfl,ls,_,rfl,.inl (cU.of hv),_,_,rfl,rfl,lv0,ls,_,_,.ref t,rfl,rfl,cU.of hv,(by rw [ek]; exact fD hk),?_⟩;refine ⟨_,rfl,_,rfl,_,rfl,nJ ⟨v,sp,lT,ans,.ref t,s0.1,s0.2,rfl,lf4.rs,ok,lf4.hl,told,iD nv,jN,fun H5 td cs o s5 due lcs rd=>?_⟩⟩;have lf5:=lf4.same s5;have nv5:=nv.same s5;refine ⟨_,rfl,_,rfl,nJ ⟨x,cW sp,.ref t,rfl,lf5.gx,ok.good,lf5.lt,fun s1=>s1=s0,?_,.inr ⟨(fun z=>by cases z),true,(iD nv5).arg jN,(fun z=>nomatch z),fun _ d ds sv _=>?_⟩⟩⟩
  ·rintro s1 rfl H6 tf Wk cs2 o2 rows bp Em Jh Le aG8 rn da;have ea:=vR Jh told CQ;subst ea;have aqS:o7 (bF (cW sp) Wk) (fH (cW sp) + 1) s1 [] []=(cs,o):=due;rw [aqS] at Le;cases Le;exact Rb D H5 H6 sc x lT xl ls t td tf v ns sp Wk k s1 cs o rows _ _ ok told lf5 hst nv5 jN rd aqS lcs bp Em rn da q
  ·obtain ⟨e1,e2'⟩:=sv.one (iD nv5);rw [e1,e2']
def Gd (K:Fg) (PB:aA):Sp:=fun vs H Q _=>∃ (l:aA) (ns:List Int),vs=[.ref l]/\cU K H l (ns.map V.int)/\jV PB jo jR H/\∀ H',Q (.bl true) H'
theorem aja {f PB:aA} {fd:fQ} (F:n6 K "law" "law" rm f fd) (O:Om P w K mg base a dV lv cB PB):cD P w K mg base (fL P w) 14 f fd ["_law_script"] (Gd K PB):=by
 refine F.mF qm (fun vs H Q E h=>?_) (fun cdv A outer s H vs Q E hr h=>?_)
 ·obtain ⟨l,ns,rfl,_⟩:=h;rfl
 ·obtain ⟨sc,ns,rfl,hS,lt,q⟩:=h;have B:=O.R.D.B;have Vt:=O.R.C.B.V;obtain ⟨fg,dg,gF,mG⟩:=O.R.ga;obtain ⟨fp,dp,pF,mP⟩:=O.R.sp;obtain ⟨fl,dl,lF,mL⟩:=O.R.ss;obtain ⟨ft,dt,tF,mT⟩:=Vt.L.ta;obtain ⟨fi,di,iF,mk⟩:=Vt.ini;have okg:cD P w K mg base (fL P w) 9 fg dg ["_law_spec_here"] (V7 a):=aan gF.F Vt.L.W.S.Z;have KN:cD P w K mg base (fL P w) 2 fp dp ["_law_script","_law_first"] (V5 K):=aam pF.F O.R.D;have okl:cD P w K mg base (fL P w) 1 fl dl ["_law_spec_here"] Dq:=K9 lF.F B;have okt:cD P w K mg base (fL P w) 6 ft dt ["garden"] (zx a):=Aq tF.F Vt.L;have ZV:cD P w K mg base (fL P w) 10 fi di ["self","garden"] (N6 a lv):=Vz iF.F Vt;have hr1:d8 1 _:=hr.mono (by decide);have hr2:d8 2 _:=hr.mono (by decide);have hr6:d8 6 _:=hr.mono (by decide);have hr9:d8 9 _:=hr.mono (by decide);have aBd:d8 11 _:=hr.mono (by decide);have kG:=gF.F.kp;have bG:=gF.b;have kP:=pF.F.kp;have bP:=pF.b;have kL:=lF.F.kp;have bL:=lF.b;have kT:=tF.F.kp;have bT:=tF.b;have bI:=iF.b;obtain ⟨tb,hB,Az⟩:=aA9 (P:=P) (w:=w) (base:=base) (f:=f) (cdv:=cdv) (A:=A) (outer:=outer) (s:=s) (H₀:=H) (E:=E) O hr;refine ⟨_,aH (bM (i:=1) qm.nd rfl (Or.inl rfl) (dI KN hr2 mP kP bP bB (ao (pv 0) (iR [.int 0] rfl)))) (aH (bM (i:=2) qm.nd rfl (Or.inl rfl) (dI okg hr9 mG kG bG bB (ao (pv 1) aK))) (aH (bM (i:=3) qm.nd rfl (Or.inl rfl) (dI okt hr6 mT kT bT bB (ao (pv 2) aK))) (aH (bM (i:=4) qm.nd rfl (Or.inl rfl) (yq mk ZV aBd Vt.m bI bB (ao (pv 2) aK))) (aH (bM (i:=5) qm.nd rfl (Or.inl rfl) (dI okl hr1 mL kL bL bB (ao (pv 1) aK))) hB)))),?_⟩;refine ⟨_,rfl,sc,ns,0,rfl,hS,fun H1 v sp s1 rs ok=>?_⟩;have sE:=ok.sE;refine ⟨_,rfl,v,sp,rfl,rs,ok,fun H2 x s2 gx=>?_⟩;refine ⟨_,rfl,x,cW sp,rfl,gx,sE,fun H3 lT ans s3 flt hlt told=>?_⟩;refine ⟨_,rfl,nJ (Ik (gx.same s3) ok.good (fun xl H4 aBe hx s4 la aqT=>?_))⟩;have ea:=vR aqT told (wW sE);subst ea;refine ⟨_,rfl,v,sp,rfl,((rs.same s2).same s3).same s4,ok,fun H5 ls s5 rl=>?_⟩;have sZ:=((((s1.trans s2).trans s3).trans s4).trans s5);exact Az _ H5 sc x lT xl ls v ns sp aBe ok told ⟨sZ.seq hS,((gx.same s3).same s4).same s5,la.same s5,(((rs.same s2).same s3).same s4).same s5,s5 _ _ (s4 _ _ hlt),rl,lt.same sZ⟩ q
end
theorem zal1 {P:List Value->Prop} (h:∀x,P [x]):∀us,us.length=1->P us
  | [x],_=>h x
theorem zal2 {P:List Value->Prop} (h:∀x y,P [x,y]):∀us,us.length=2->P us
  | [x,y],_=>h x y
theorem zal3 {P:List Value->Prop} (h:∀x y z,P [x,y,z]):∀us,us.length=3->P us
  | [x,y,z],_=>h x y z
theorem zal4 {P:List Value->Prop} (h:∀x y z u,P [x,y,z,u]):∀us,us.length=4->P us
  | [x,y,z,u],_=>h x y z u
theorem len1 {us:List aB} (h:us.length=1):∃ x,us=[x]:=zal1 (P:=fun us=>∃ x,us=[x]) (fun x=>⟨x,rfl⟩) us h
theorem len2 {us:List aB} (h:us.length=2):∃ x y,us=[x,y]:=zal2 (P:=fun us=>∃ x y,us=[x,y]) (fun x y=>⟨x,y,rfl⟩) us h
theorem aBf {us:List aB} (h:us.length=3):∃ x y z,us=[x,y,z]:=zal3 (P:=fun us=>∃ x y z,us=[x,y,z]) (fun x y z=>⟨x,y,z,rfl⟩) us h
abbrev fN (x q:Str) (s:dW) (dv kV dc pm:aB) (an:Option aA) (cd ct:aB):fQ:=fnOf x q (nO s) (gq s) (aW s) dv kV dc pm an cd ct
theorem all_mk {l:PySem.W.OpenLaw} {w:World} {K:Fg} {h:Heap} {mg:Str->Option aB} {fa:aA} {PB cB:aA} (X:K.In h) (G:h.Ns mainGlobals mg) (hfa:mg "law"=some (.ref fa)) {Ky eX tW tooMany c7 yw tX pot cH garden fWh fNm Ug Zq Zr Zt Hv Hw Hx Td Xe fSz aav aaw Fo Fp QC aax ajb ajc ajd aay aaz aje ajf ajg ajh aji lv aaA aaB aaC aaD ajj aaE Tq ajk aaF Tr ajl ajm ajn ajo ajp ajq ajr ajs ajt aju ajv ajw ajx:aA} {aBg aBh aBi aBj aBk aBl u1 u2 u3 tfB tgB ttB:Tok} {aBm aqV aBn aqW aBo aqX aBp aqY aBq aqZ aBr aq0 aq1 abS aq2 abT aq3 abU odT aq4 Lg aBs aq5 aq6 abV aq7 abW aq8 abX aq9 abY ara abZ arb ab0 ard arf arh ari arj ark arl arn aro arp arq ars aru arv arw arx arz arA arB arC arD arE arF arG arH arI arJ arK arL arM ab1 Ji arN arO arP ab2 Jj arQ arR arS arT arU arV arW arX arY arZ ar0 ar3 ar4 ar5 ar6 ar7 ar8 ar9 asa asb asd ase asf ash asi asj Jk aBt:Option aA} {aBu aBv aBw aBx aBy aBz asl asn aso slT asp aBA asq asr asu asv asw asx asy asz asA asB asC asD asF asG asH asI asJ asK asL asM asN ab3 asO asQ ab4 asR asS asT asU asV asW asY asZ as3 as4 as5 as6 as7 as8 aBB:Array (Option aB)} {aBC as9 ata atb ajy atc aBD atd ate atf ajz atg aBE ath ati atj ajA atk aBF atl atm atn ajB atp aBG atq atr atu ajC atv aBH atw atx aty ajD atz atA ab5 ab6 ab7 Wn ab8 atB ab9 acd ace Wo acf atD acg ach aci Wq acj ocT atE Lh Li Lj Jl Lk aBI atF atG atH ajE atJ atL acn aco acp Wr acq atM acr acs acu Ws acv atN acw acy acz Wt acA atO acB acC acD Wu acE atQ acF acG acH Wv acI atR acJ acK acL Ww acM atU atV atX atY acN atZ at3 at4 at5 at6 acO at7 at8 at9 aua aub acP auc aud aue auf auh acQ aui auj auk aul aum acR aun auo aup auq aur acS aus aut auu auv auw acT auy auz auA auB auC acU auD auE auF auG auH acV auI auJ auK auL auM acW auN auO auP auQ auR acX auS auT auU auV auW acY auX auY auZ au0 au1 acZ au2 au3 au4 au5 au6 Wx au7 au8 au9 ava avb ac0 avc ac2 Jm Jo Jp Dy Jq avd ave avf avh avi ac3 avj ac4 Jr Js Jt Dz Ju avk avl avm avn avo ac5 avp avq avr avs avt ac6 avu avv avw avx avy ac7 avz avA avB avC avD ac8 avE avF avG avH avI ac9 avJ avK avL avM avN ada avO avP avQ avR avS adb avT avU avV avW avX ade avY avZ av0 av1 av2 adf av3 av4 av5 av6 av7 adg av8 av9 awa awb awc adh awd awe awf awg awh adi awi awj Jv Jw Jx DG Jy:aB} {nT aBJ aBK:Nat} {vsB:Array aB} {flB:Str} {fgB txB:Int} {inB:Bool} (lW:nsIn K mainGlobals "isinstance"=some none) (Ln:nsIn K mainGlobals "bool"=some none) (Wy:nsIn K mainGlobals "int"=some none) (Wz:nsIn K mainGlobals "str"=some none) (Lp:nsIn K mainGlobals "list"=some none) (Ge:nsIn K mainGlobals "tuple"=some none) (WD:nsIn K mainGlobals "len"=some none) (WK:nsIn K mainGlobals "all"=some none) (WL:nsIn K mainGlobals "set"=some none) (WM:nsIn K mainGlobals "zip"=some none) (um:nsIn K mainGlobals "reversed"=some none) (Gf:nsIn K mainGlobals "range"=some none) (pX:nsIn K mainGlobals "ValueError"=some none) (rA:nsIn K mainGlobals "enumerate"=some none) (Lq:nsIn K mainGlobals "dict"=some none) (WQ:nsIn K mainGlobals "max"=some none) (ajF:nsIn K mainGlobals "LONGEST_NAME"=some (some (.int 12 aBg))) (ajG:nsIn K mainGlobals "MOST_GAP"=some (some (.int 60 aBh))) (ajH:nsIn K mainGlobals "MOST_POTS"=some (some (.int 8 aBi))) (ajI:nsIn K mainGlobals "MOST_CANS"=some (some (.int 8 aBj))) (ajJ:nsIn K mainGlobals "MOST_WEEK"=some (some (.int 14 aBk))) (ajK:nsIn K mainGlobals "MOST_STATES"=some (some (.int 20000 aBl))) (Lr:nsIn K mainGlobals "GardenError"=some (some (.ref Ky))) (Bk:nsIn K mainGlobals "BadPot"=some (some (.ref eX))) (Bl:nsIn K mainGlobals "BadRow"=some (some (.ref tW))) (xg:nsIn K mainGlobals "TooMany"=some (some (.ref tooMany))) (xq:nsIn K mainGlobals "NoState"=some (some (.ref c7))) (Gg:nsIn K mainGlobals "NoPot"=some (some (.ref yw))) (Bm:nsIn K mainGlobals "BadDay"=some (some (.ref tX))) (WR:nsIn K mainGlobals "Pot"=some (some (.ref pot))) (Bo:nsIn K mainGlobals "Cactus"=some (some (.ref cH))) (Bp:nsIn K mainGlobals "Garden"=some (some (.ref garden))) (ne:pot≠cH) (aWh:nsIn K mainGlobals "is_whole"=some (some (.ref fWh))) (lWh:K.lookup fWh=some ⟨aBC,aBm,.func (fN "is_whole" "is_whole" wV .none as9 ata atb aqV ajy atc),aBu⟩) (cWh:codeIn K ajy "is_whole"=true) (kWh:keepIn K (.ref fWh)=true) (aNm:nsIn K mainGlobals "is_name"=some (some (.ref fNm))) (lNm:K.lookup fNm=some ⟨aBD,aBn,.func (fN "is_name" "is_name" rT .none atd ate atf aqW ajz atg),aBv⟩) (cNm:codeIn K ajz "is_name"=true) (kNm:keepIn K (.ref fNm)=true) (aPI:findIn K (.ref pot) "__init__"=some (some (.ref Ug))) (iPI:isFn K (.ref Ug)=true) (lPI:K.lookup Ug=some ⟨aBE,aBo,.func (fN "__init__" "Pot.__init__" qL .none ath ati atj aqX ajA atk),aBw⟩) (cPI:codeIn K ajA "Pot.__init__"=true) (kPI:keepIn K (.ref Ug)=true) (aPG:findIn K (.ref pot) "with_gap"=some (some (.ref Zq))) (iPG:isFn K (.ref Zq)=true) (lPG:K.lookup Zq=some ⟨aBF,aBp,.func (fN "with_gap" "Pot.with_gap" vV .none atl atm atn aqY ajB atp),aBx⟩) (cPG:codeIn K ajB "Pot.with_gap"=true) (kPG:keepIn K (.ref Zq)=true) (aCI:findIn K (.ref cH) "__init__"=some (some (.ref Zr))) (iCI:isFn K (.ref Zr)=true) (lCI:K.lookup Zr=some ⟨aBG,aBq,.func (fN "__init__" "Cactus.__init__" qM .none atq atr atu aqZ ajC atv),aBy⟩) (cCI:codeIn K ajC "Cactus.__init__"=true) (kCI:keepIn K (.ref Zr)=true) (aCG:findIn K (.ref cH) "with_gap"=some (some (.ref Zt))) (iCG:isFn K (.ref Zt)=true) (lCG:K.lookup Zt=some ⟨aBH,aBr,.func (fN "with_gap" "Cactus.with_gap" vW .none atw atx aty aq0 ajD atz),aBz⟩) (cCG:codeIn K ajD "Cactus.with_gap"=true) (kCG:keepIn K (.ref Zt)=true) (ajL:nsIn K mainGlobals "own_pots"=some (some (.ref Hv))) (ajM:K.lookup Hv=some ⟨atA,aq1,.func (fN "own_pots" "own_pots" Ur .none ab5 ab6 ab7 abS Wn ab8),asl⟩) (ajN:codeIn K Wn "own_pots"=true) (kOwn:keepIn K (.ref Hv)=true) (ajO:nsIn K mainGlobals "refuse_bad_counts"=some (some (.ref Hw))) (ajP:K.lookup Hw=some ⟨atB,aq2,.func (fN "refuse_bad_counts" "refuse_bad_counts" Us .none ab9 acd ace abT Wo acf),asn⟩) (ajQ:codeIn K Wo "refuse_bad_counts"=true) (ajR:keepIn K (.ref Hw)=true) (ajS:nsIn K mainGlobals "refuse_name_twice"=some (some (.ref Hx))) (ajT:K.lookup Hx=some ⟨atD,aq3,.func (fN "refuse_name_twice" "refuse_name_twice" Ut .none acg ach aci abU Wq acj),aso⟩) (ajU:codeIn K Wq "refuse_name_twice"=true) (ajV:keepIn K (.ref Hx)=true) (aGI:findIn K (.ref garden) "__init__"=some (some (.ref Xe))) (iGI:isFn K (.ref Xe)=true) (lGI:K.lookup Xe=some ⟨atE,aq4,.func (fN "__init__" "Garden.__init__" Zy (.ref Td) Lh Li Lj Lg Jl Lk),asp⟩) (cGI:codeIn K Jl "Garden.__init__"=true) (kGI:keepIn K (.ref Xe)=true) (lT:K.lookup Td=some ⟨ocT,odT,.seq #[.int 1 u1,.int 1 u2,.int 0 u3] nT,slT⟩) (aSz:findIn K (.ref garden) "size"=some (some (.ref fSz))) (iSz:isFn K (.ref fSz)=true) (lSz:K.lookup fSz=some ⟨aBI,aBs,.func (fN "size" "Garden.size" Hz .none atF atG atH aq5 ajE atJ),aBA⟩) (cSz:codeIn K ajE "Garden.size"=true) (kSz:keepIn K (.ref fSz)=true) (ajW:nsIn K mainGlobals "is_state"=some (some (.ref aav))) (ajX:K.lookup aav=some ⟨atL,aq6,.func (fN "is_state" "is_state" HN .none acn aco acp abV Wr acq),asq⟩) (ajY:codeIn K Wr "is_state"=true) (ajZ:keepIn K (.ref aav)=true) (aj0:nsIn K mainGlobals "refuse_no_state"=some (some (.ref aaw))) (aj1:K.lookup aaw=some ⟨atM,aq7,.func (fN "refuse_no_state" "refuse_no_state" Ae .none acr acs acu abW Ws acv),asr⟩) (aj2:codeIn K Ws "refuse_no_state"=true) (aj3:keepIn K (.ref aaw)=true) (aj4:findIn K (.ref garden) "number"=some (some (.ref Fo))) (aj5:isFn K (.ref Fo)=true) (aj6:K.lookup Fo=some ⟨atN,aq8,.func (fN "number" "Garden.number" U4 .none acw acy acz abX Wt acA),asu⟩) (aj7:codeIn K Wt "Garden.number"=true) (aaG:keepIn K (.ref Fo)=true) (aj8:findIn K (.ref garden) "state"=some (some (.ref Fp))) (aj9:isFn K (.ref Fp)=true) (akb:K.lookup Fp=some ⟨atO,aq9,.func (fN "state" "Garden.state" U5 .none acB acC acD abY Wu acE),asv⟩) (akc:codeIn K Wu "Garden.state"=true) (aaH:keepIn K (.ref Fp)=true) (akd:findIn K (.ref garden) "fresh"=some (some (.ref QC))) (ake:isFn K (.ref QC)=true) (akf:K.lookup QC=some ⟨atQ,ara,.func (fN "fresh" "Garden.fresh" K1 .none acF acG acH abZ Wv acI),asw⟩) (akg:codeIn K Wv "Garden.fresh"=true) (aaI:keepIn K (.ref QC)=true) (akh:nsIn K mainGlobals "with_cans"=some (some (.ref aax))) (aki:K.lookup aax=some ⟨atR,arb,.func (fN "with_cans" "with_cans" Dk .none acJ acK acL ab0 Ww acM),asx⟩) (akj:codeIn K Ww "with_cans"=true) (akk:keepIn K (.ref aax)=true) (akl:nsIn K mainGlobals "is_set"=some (some (.ref ajb))) (akm:K.lookup ajb=some ⟨atU,ard,.func (fN "is_set" "is_set" Ah .none atV atX atY arf acN atZ),asy⟩) (akn:codeIn K acN "is_set"=true) (ako:keepIn K (.ref ajb)=true) (akp:nsIn K mainGlobals "cans_on"=some (some (.ref ajc))) (akq:K.lookup ajc=some ⟨at3,arh,.func (fN "cans_on" "cans_on" vY .none at4 at5 at6 ari acO at7),asz⟩) (akr:codeIn K acO "cans_on"=true) (aks:keepIn K (.ref ajc)=true) (akt:nsIn K mainGlobals "day_behind"=some (some (.ref ajd))) (aku:K.lookup ajd=some ⟨at8,arj,.func (fN "day_behind" "day_behind" Ie .none at9 aua aub ark acP auc),asA⟩) (akv:codeIn K acP "day_behind"=true) (akx:keepIn K (.ref ajd)=true) (aky:findIn K (.ref pot) "may"=some (some (.ref aay))) (akz:isFn K (.ref aay)=true) (akA:K.lookup aay=some ⟨aud,arl,.func (fN "may" "Pot.may" vZ .none aue auf auh arn acQ aui),asB⟩) (akB:codeIn K acQ "Pot.may"=true) (aaJ:keepIn K (.ref aay)=true) (akC:findIn K (.ref cH) "may"=some (some (.ref aaz))) (akD:isFn K (.ref aaz)=true) (akE:K.lookup aaz=some ⟨auj,aro,.func (fN "may" "Cactus.may" wg .none auk aul aum arp acR aun),asC⟩) (akF:codeIn K acR "Cactus.may"=true) (aaK:keepIn K (.ref aaz)=true) (akG:nsIn K mainGlobals "without_water"=some (some (.ref aje))) (akH:K.lookup aje=some ⟨auo,arq,.func (fN "without_water" "without_water" QK .none aup auq aur ars acS aus),asD⟩) (akI:codeIn K acS "without_water"=true) (akJ:keepIn K (.ref aje)=true) (akK:nsIn K mainGlobals "with_water"=some (some (.ref ajf))) (akL:K.lookup ajf=some ⟨aut,aru,.func (fN "with_water" "with_water" QL .none auu auv auw arv acT auy),asF⟩) (akM:codeIn K acT "with_water"=true) (akN:keepIn K (.ref ajf)=true) (akO:nsIn K mainGlobals "choices"=some (some (.ref ajg))) (akP:K.lookup ajg=some ⟨auz,arw,.func (fN "choices" "choices" o8 .none auA auB auC arx acU auD),asG⟩) (akQ:codeIn K acU "choices"=true) (akR:keepIn K (.ref ajg)=true) (akS:nsIn K mainGlobals "roads"=some (some (.ref ajh))) (akT:K.lookup ajh=some ⟨auE,arz,.func (fN "roads" "roads" wY .none auF auG auH arA acV auI),asH⟩) (akU:codeIn K acV "roads"=true) (akV:keepIn K (.ref ajh)=true) (akW:nsIn K mainGlobals "table"=some (some (.ref aji))) (akX:K.lookup aji=some ⟨auJ,arB,.func (fN "table" "table" Ao .none auK auL auM arC acW auN),asI⟩) (akY:codeIn K acW "table"=true) (akZ:keepIn K (.ref aji)=true) (ak0:nsIn K mainGlobals "Lives"=some (some (.ref lv))) (ak1:findIn K (.ref lv) "__init__"=some (some (.ref aaA))) (ak2:isFn K (.ref aaA)=true) (ak3:K.lookup aaA=some ⟨auO,arD,.func (fN "__init__" "Lives.__init__" Vu .none auP auQ auR arE acX auS),asJ⟩) (ak4:codeIn K acX "Lives.__init__"=true) (ak5:keepIn K (.ref aaA)=true) (ak6:findIn K (.ref lv) "days"=some (some (.ref aaB))) (ak7:isFn K (.ref aaB)=true) (ak8:K.lookup aaB=some ⟨auT,arF,.func (fN "days" "Lives.days" Vw .none auU auV auW arG acY auX),asK⟩) (ak9:codeIn K acY "Lives.days"=true) (aaL:keepIn K (.ref aaB)=true) (ala:findIn K (.ref lv) "rank"=some (some (.ref aaC))) (alb:isFn K (.ref aaC)=true) (alc:K.lookup aaC=some ⟨auY,arH,.func (fN "rank" "Lives.rank" VF .none auZ au0 au1 arI acZ au2),asL⟩) (ald:codeIn K acZ "Lives.rank"=true) (aaM:keepIn K (.ref aaC)=true) (ale:findIn K (.ref lv) "best"=some (some (.ref aaD))) (alf:isFn K (.ref aaD)=true) (alg:K.lookup aaD=some ⟨au3,arJ,.func (fN "best" "Lives.best" FP .none au4 au5 au6 arK Wx au7),asM⟩) (alh:codeIn K Wx "Lives.best"=true) (aaN:keepIn K (.ref aaD)=true) (ali:nsIn K mainGlobals "told_or_fresh"=some (some (.ref ajj))) (alj:K.lookup ajj=some ⟨au8,arL,.func (fN "told_or_fresh" "told_or_fresh" Il .none au9 ava avb arM ac0 avc),asN⟩) (alk:codeIn K ac0 "told_or_fresh"=true) (alm:keepIn K (.ref ajj)=true) (aln:nsIn K mainGlobals "days_of"=some (some (.ref aaE))) (alo:K.lookup aaE=some ⟨ac2,ab1,.func (fN "days_of" "days_of" nW (.ref Tq) Jm Jo Jp Ji Dy Jq),ab3⟩) (alp:codeIn K Dy "days_of"=true) (alq:keepIn K (.ref aaE)=true) (aaO:K.lookup Tq=some ⟨avd,arN,.seq #[.none] aBJ,asO⟩) (alr:nsIn K mainGlobals "names_in"=some (some (.ref ajk))) (als:K.lookup ajk=some ⟨ave,arO,.func (fN "names_in" "names_in" pA .none avf avh avi arP ac3 avj),asQ⟩) (alu:codeIn K ac3 "names_in"=true) (alv:keepIn K (.ref ajk)=true) (alw:nsIn K mainGlobals "rounds_of"=some (some (.ref aaF))) (alx:K.lookup aaF=some ⟨ac4,ab2,.func (fN "rounds_of" "rounds_of" kY (.ref Tr) Jr Js Jt Jj Dz Ju),ab4⟩) (aly:codeIn K Dz "rounds_of"=true) (alz:keepIn K (.ref aaF)=true) (aaP:K.lookup Tr=some ⟨avk,arQ,.seq #[.none] aBK,asR⟩) (alA:nsIn K mainGlobals "_law_sorts"=some (some (.ref ajl))) (alB:K.lookup ajl=some ⟨avl,arR,.func (fN "_law_sorts" "_law_sorts" Ad .none avm avn avo arS ac5 avp),asS⟩) (alC:codeIn K ac5 "_law_sorts"=true) (alD:keepIn K (.ref ajl)=true) (alE:nsIn K mainGlobals "_law_cell_at"=some (some (.ref ajm))) (alF:K.lookup ajm=some ⟨avq,arT,.func (fN "_law_cell_at" "_law_cell_at" HD .none avr avs avt arU ac6 avu),asT⟩) (alG:codeIn K ac6 "_law_cell_at"=true) (alH:keepIn K (.ref ajm)=true) (alI:nsIn K mainGlobals "_law_draw"=some (some (.ref ajn))) (alJ:K.lookup ajn=some ⟨avv,arV,.func (fN "_law_draw" "_law_draw" HF .none avw avx avy arW ac7 avz),asU⟩) (alK:codeIn K ac7 "_law_draw"=true) (alL:keepIn K (.ref ajn)=true) (alM:nsIn K mainGlobals "_law_spec"=some (some (.ref ajo))) (alN:K.lookup ajo=some ⟨avA,arX,.func (fN "_law_spec" "_law_spec" qT .none avB avC avD arY ac8 avE),asV⟩) (alO:codeIn K ac8 "_law_spec"=true) (alP:keepIn K (.ref ajo)=true) (alQ:nsIn K mainGlobals "_law_garden"=some (some (.ref ajp))) (alR:K.lookup ajp=some ⟨avF,arZ,.func (fN "_law_garden" "_law_garden" qU .none avG avH avI ar0 ac9 avJ),asW⟩) (alS:codeIn K ac9 "_law_garden"=true) (alT:keepIn K (.ref ajp)=true) (alU:nsIn K mainGlobals "_law_behind"=some (some (.ref ajq))) (alV:K.lookup ajq=some ⟨avK,ar3,.func (fN "_law_behind" "_law_behind" lU .none avL avM avN ar4 ada avO),asY⟩) (alW:codeIn K ada "_law_behind"=true) (alX:keepIn K (.ref ajq)=true) (alY:nsIn K mainGlobals "_law_steps"=some (some (.ref ajr))) (alZ:K.lookup ajr=some ⟨avP,ar5,.func (fN "_law_steps" "_law_steps" uh .none avQ avR avS ar6 adb avT),asZ⟩) (al0:codeIn K adb "_law_steps"=true) (al1:keepIn K (.ref ajr)=true) (al2:nsIn K mainGlobals "_law_number"=some (some (.ref ajs))) (al3:K.lookup ajs=some ⟨avU,ar7,.func (fN "_law_number" "_law_number" Ds .none avV avW avX ar8 ade avY),as3⟩) (al4:codeIn K ade "_law_number"=true) (al5:keepIn K (.ref ajs)=true) (al6:nsIn K mainGlobals "_law_states"=some (some (.ref ajt))) (al7:K.lookup ajt=some ⟨avZ,ar9,.func (fN "_law_states" "_law_states" mW .none av0 av1 av2 asa adf av3),as4⟩) (al8:codeIn K adf "_law_states"=true) (al9:keepIn K (.ref ajt)=true) (ama:nsIn K mainGlobals "_law_best"=some (some (.ref aju))) (amb:K.lookup aju=some ⟨av4,asb,.func (fN "_law_best" "_law_best" qX .none av5 av6 av7 asd adg av8),as5⟩) (amc:codeIn K adg "_law_best"=true) (amd:keepIn K (.ref aju)=true) (ame:nsIn K mainGlobals "_law_due"=some (some (.ref ajv))) (amf:K.lookup ajv=some ⟨av9,ase,.func (fN "_law_due" "_law_due" Bj .none awa awb awc asf adh awd),as6⟩) (amg:codeIn K adh "_law_due"=true) (amh:keepIn K (.ref ajv)=true) (ami:nsIn K mainGlobals "_law_no_state"=some (some (.ref ajw))) (amj:K.lookup ajw=some ⟨awe,ash,.func (fN "_law_no_state" "_law_no_state" Dw .none awf awg awh asi adi awi),as7⟩) (amk:codeIn K adi "_law_no_state"=true) (aml:keepIn K (.ref ajw)=true) (aaQ:nsIn K mainGlobals "law"=some (some (.ref ajx))) (amm:K.lookup ajx=some ⟨awj,asj,.func (fN "law" "law" rm .none Jv Jw Jx Jk DG Jy),as8⟩) (amn:codeIn K DG "law"=true) (amo:keepIn K (.ref ajx)=true) (lcB:K.lookup cB=some ⟨.type "code",aBt,.fields vsB,aBB⟩) (v11:vsB[11]?=some (.ref PB)) (amq:vsB.getD 11 .none=.ref PB) (v18:vsB.getD 18 .none=.str flB tfB) (v7:vsB.getD 7 .none=.int fgB tgB) (v9:vsB.getD 9 .none=.bool inB) (v10:vsB.getD 10 .none=.int txB ttB) (ncP:cB≠PB) (eB:Wx=.ref cB) (gt:specialIn K (.builtin "object.__class__") "__get__"=some (some (.builtin "getset_descriptor.__get__"))) (tk:takesIn K (.builtin "object.__class__")=some true) (Ls:plainGet K pot Str.empty=true) (Lw:hasDictIn K pot=true) (Lx:plainOver K pot=true) (Ly:findIn K (.ref pot) "__setattr__"=some (some (.builtin "object.__setattr__"))) (Lz:findIn K (.ref pot) "__class__"=some (some (.builtin "object.__class__"))) (LC:mroIn K pot (.type "object")=some true) (rB:kitOne K (.ref pot) (.type "bool")=some false) (uo:kitOne K (.ref pot) (.type "int")=some false) (uq:kitOne K (.ref pot) (.type "str")=some false) (rC:kitOne K (.ref pot) (.type "list")=some false) (pY:kitOne K (.ref pot) (.type "tuple")=some false) (LK:makesIn K pot=true) (LQ:keepIn K (.ref pot)=true) (xr:plainGet K cH Str.empty=true) (xu:hasDictIn K cH=true) (xG:plainOver K cH=true) (xH:findIn K (.ref cH) "__setattr__"=some (some (.builtin "object.__setattr__"))) (xJ:findIn K (.ref cH) "__class__"=some (some (.builtin "object.__class__"))) (xK:mroIn K cH (.type "object")=some true) (mX:kitOne K (.ref cH) (.type "bool")=some false) (oA:kitOne K (.ref cH) (.type "int")=some false) (oE:kitOne K (.ref cH) (.type "str")=some false) (mY:kitOne K (.ref cH) (.type "list")=some false) (lB:kitOne K (.ref cH) (.type "tuple")=some false) (xM:makesIn K cH=true) (xO:keepIn K (.ref cH)=true) (xP:plainGet K garden Str.empty=true) (xQ:hasDictIn K garden=true) (xR:plainOver K garden=true) (xT:findIn K (.ref garden) "__setattr__"=some (some (.builtin "object.__setattr__"))) (xU:findIn K (.ref garden) "__class__"=some (some (.builtin "object.__class__"))) (xV:mroIn K garden (.type "object")=some true) (mZ:kitOne K (.ref garden) (.type "bool")=some false) (oG:kitOne K (.ref garden) (.type "int")=some false) (oH:kitOne K (.ref garden) (.type "str")=some false) (m5:kitOne K (.ref garden) (.type "list")=some false) (lG:kitOne K (.ref garden) (.type "tuple")=some false) (xW:makesIn K garden=true) (xX:keepIn K (.ref garden)=true) (rD:findIn K (.ref pot) "name"=some none) (ur:findIn K (.ref pot) "gap"=some none) (rE:findIn K (.ref pot) "rest"=some none) (m6:findIn K (.ref cH) "name"=some none) (oJ:findIn K (.ref cH) "gap"=some none) (m7:findIn K (.ref cH) "rest"=some none) (m8:findIn K (.ref garden) "pots"=some none) (m9:findIn K (.ref garden) "cans"=some none) (nj:findIn K (.ref garden) "week"=some none) (kj:findIn K (.ref garden) "closed"=some none) (rdP:readsIn K pot (.type "type")=true) (gaP:specialIn K (.ref pot) "__getattribute__"=some (some (.builtin "type.__getattribute__"))) (atP:findCls K (.ref pot) (.type "type") "__init__"=some (.val (.ref Ug))) (kpp:kitOne K (.ref pot) (.ref pot)=some true) (kcp:kitOne K (.ref cH) (.ref pot)=some true) (rG:kitOne K (.type "NoneType") (.ref pot)=some false) (Gh:kitOne K (.type "bool") (.ref pot)=some false) (LR:kitOne K (.type "int") (.ref pot)=some false) (Ma:kitOne K (.type "str") (.ref pot)=some false) (Gi:kitOne K (.type "list") (.ref pot)=some false) (Bq:kitOne K (.type "tuple") (.ref pot)=some false) (xY:excIn K eX Ue "ValueError.__new__"=true) (uw:excIn K tooMany Ue "ValueError.__new__"=true) (uD:excIn K c7 Ue "ValueError.__new__"=true) (Jz:excIn K yw Ue "ValueError.__new__"=true) (uE:findIn K (.ref c7) "__getattribute__"=some (some (.builtin "BaseException.__getattribute__"))) (uF:findIn K (.ref c7) "__getattr__"=some none) (uG:PySem.W.isClsIn K c7=true) (uH:findIn K (.ref c7) "__class__"=some (some (.builtin "object.__class__"))) (uI:mroIn K c7 (.type "object")=some true) (uJ:subIn K (.ref c7) (.type "BaseException")=some true) (uK:kitOne K (.ref c7) (.ref eX)=some false) (uL:kitOne K (.ref c7) (.ref tooMany)=some false) (uM:kitOne K (.ref c7) (.ref yw)=some false) (uN:kitOne K (.ref c7) (.ref tX)=some false) (uO:kitOne K (.ref c7) (.ref tW)=some false) (uP:kitOne K (.ref c7) (.ref c7)=some true) (uQ:kitOne K (.ref c7) (.type "ValueError")=some true) (uR:exmOne K (.ref c7) (.ref Ky)=some true) (WT:plainGet K lv Str.empty=true) (WW:hasDictIn K lv=true) (WX:plainOver K lv=true) (WY:findIn K (.ref lv) "__setattr__"=some (some (.builtin "object.__setattr__"))) (W0:findIn K (.ref lv) "__class__"=some (some (.builtin "object.__class__"))) (W2:mroIn K lv (.type "object")=some true) (uT:kitOne K (.ref lv) (.type "bool")=some false) (xZ:kitOne K (.ref lv) (.type "int")=some false) (yc:kitOne K (.ref lv) (.type "str")=some false) (uU:kitOne K (.ref lv) (.type "list")=some false) (rH:kitOne K (.ref lv) (.type "tuple")=some false) (W3:makesIn K lv=true) (W4:keepIn K (.ref lv)=true) (pZ:findIn K (.ref lv) "garden"=some none) (p7:findIn K (.ref lv) "counts"=some none) : ∃ fd:fQ,(∀ (s:aX) (v:aB),BindsTo s fd ⟨[v],[]⟩ [("_law_script",v)])/\(∀ base:Heap,K.In base->CodeHd base cB PB)/\∀ base:Heap,K.In base->base.Ns mainGlobals mg->base.BuiltinsAt mg PB->cD l.prog w K mg base (fL l.prog w) 14 fa fd ["_law_script"] (Gd K PB):=by
 have e:=hfa.symm.trans (mg_of X G aaQ);cases e;have amr:=mg_of X G Lr;have JB:=mg_of X G Bk;have W5:=mg_of X G Bl;have DK:=mg_of X G xg;have DN:=mg_of X G xq;have aaR:=mg_of X G Gg;have W6:=mg_of X G Bm;have awk:=mg_of X G WR;have W7:=mg_of X G Bo;have W8:=mg_of X G Bp;have FWh:=dH (st:=wV) lWh cWh kWh;have bWh:=FWh.binds (ps:=["value","least","most"]) fun _ _ _ _ _ _=>zal3 fun _ _ _=>rfl
 have mWh:=mg_of X G aWh;have FNm:=dH (st:=rT) lNm cNm kNm;have bNm:=FNm.binds (ps:=["value"]) fun _ _ _ _ _ _=>zal1 fun _=>rfl
 have mNm:=mg_of X G aNm;have FPI:=dH (st:=qL) lPI cPI kPI;have bPI:=FPI.binds (ps:=["self","name","gap"]) fun _ _ _ _ _ _=>zal3 fun _ _ _=>rfl
 have FPG:=dH (st:=vV) lPG cPG kPG;have bPG:=FPG.binds (ps:=["self","gap"]) fun _ _ _ _ _ _=>zal2 fun _ _=>rfl
 have FCI:=dH (st:=qM) lCI cCI kCI;have bCI:=FCI.binds (ps:=["self","name","gap","rest"]) fun _ _ _ _ _ _=>zal4 fun _ _ _ _=>rfl
 have FCG:=dH (st:=vW) lCG cCG kCG;have bCG:=FCG.binds (ps:=["self","gap"]) fun _ _ _ _ _ _=>zal2 fun _ _=>rfl
 have awl:=dH (st:=Ur) ajM ajN kOwn;have aCo:=awl.binds (ps:=["pots"]) fun _ _ _ _ _ _=>zal1 fun _=>rfl
 have aip:=mg_of X G ajL;have awm:=dH (st:=Us) ajP ajQ ajR;have aCp:=awm.binds (ps:=["pots","cans","week","closed"]) fun _ _ _ _ _ _=>zal4 fun _ _ _ _=>rfl
 have aiq:=mg_of X G ajO;have awn:=dH (st:=Ut) ajT ajU ajV;have aCq:=awn.binds (ps:=["pots"]) fun _ _ _ _ _ _=>zal1 fun _=>rfl
 have air:=mg_of X G ajS;have FSz:=dH (st:=Hz) lSz cSz kSz;have bSz:=FSz.binds (ps:=["self"]) fun _ _ _ _ _ _=>zal1 fun _=>rfl
 have awo:=dH (st:=HN) ajX ajY ajZ;have aCr:=awo.binds (ps:=["garden","value"]) fun _ _ _ _ _ _=>zal2 fun _ _=>rfl
 have aCs:=mg_of X G ajW;have awp:=dH (st:=Ae) aj1 aj2 aj3;have aCt:=awp.binds (ps:=["garden","value"]) fun _ _ _ _ _ _=>zal2 fun _ _=>rfl
 have aCu:=mg_of X G aj0;have awq:=dH (st:=U4) aj6 aj7 aaG;have aCv:=awq.binds (ps:=["self","state"]) fun _ _ _ _ _ _=>zal2 fun _ _=>rfl
 have awr:=dH (st:=U5) akb akc aaH;have aCw:=awr.binds (ps:=["self","number"]) fun _ _ _ _ _ _=>zal2 fun _ _=>rfl
 have aws:=dH (st:=K1) akf akg aaI;have aCx:=aws.binds (ps:=["self"]) fun _ _ _ _ _ _=>zal1 fun _=>rfl
 have awt:=dH (st:=Dk) aki akj akk;have aCy:=awt.binds (ps:=["garden","cans"]) fun _ _ _ _ _ _=>zal2 fun _ _=>rfl
 have aCz:=mg_of X G akh;have awu:=dH (st:=Ah) akm akn ako;have aCA:=awu.binds (ps:=["number","bit"]) fun _ _ _ _ _ _=>zal2 fun _ _=>rfl
 have aCC:=mg_of X G akl;have awv:=dH (st:=vY) akq akr aks;have aCD:=awv.binds (ps:=["garden","day"]) fun _ _ _ _ _ _=>zal2 fun _ _=>rfl
 have aCE:=mg_of X G akp;have aww:=dH (st:=Ie) aku akv akx;have aCF:=aww.binds (ps:=["garden","day"]) fun _ _ _ _ _ _=>zal2 fun _ _=>rfl
 have aCH:=mg_of X G akt;have awx:=dH (st:=vZ) akA akB aaJ;have aCJ:=awx.binds (ps:=["self","since"]) fun _ _ _ _ _ _=>zal2 fun _ _=>rfl
 have awy:=dH (st:=wg) akE akF aaK;have aCK:=awy.binds (ps:=["self","since"]) fun _ _ _ _ _ _=>zal2 fun _ _=>rfl
 have awz:=dH (st:=QK) akH akI akJ;have aCL:=awz.binds (ps:=["parts","pot","since"]) fun _ _ _ _ _ _=>zal3 fun _ _ _=>rfl
 have aCM:=mg_of X G akG;have awA:=dH (st:=QL) akL akM akN;have aCN:=awA.binds (ps:=["parts","pot","since","bit"]) fun _ _ _ _ _ _=>zal4 fun _ _ _ _=>rfl
 have aCO:=mg_of X G akK;have awB:=dH (st:=o8) akP akQ akR;have aCP:=awB.binds (ps:=["garden","state"]) fun _ _ _ _ _ _=>zal2 fun _ _=>rfl
 have aCQ:=mg_of X G akO;have awC:=dH (st:=wY) akT akU akV;have aCR:=awC.binds (ps:=["garden"]) fun _ _ _ _ _ _=>zal1 fun _=>rfl
 have aCS:=mg_of X G akS;have awD:=dH (st:=Ao) akX akY akZ;have aCT:=awD.binds (ps:=["garden"]) fun _ _ _ _ _ _=>zal1 fun _=>rfl
 have aCU:=mg_of X G akW;have aCV:=mg_of X G ak0;have awE:=dH (st:=Vu) ak3 ak4 ak5;have aCW:=awE.binds (ps:=["self","garden"]) fun _ _ _ _ _ _=>zal2 fun _ _=>rfl
 have awF:=dH (st:=Vw) ak8 ak9 aaL;have aCX:=awF.binds (ps:=["self","state"]) fun _ _ _ _ _ _=>zal2 fun _ _=>rfl
 have awG:=dH (st:=VF) alc ald aaM;have aCY:=awG.binds (ps:=["self","state"]) fun _ _ _ _ _ _=>zal2 fun _ _=>rfl
 have awH:=dH (st:=FP) alg alh aaN;have aCZ:=awH.binds (ps:=["self","state"]) fun _ _ _ _ _ _=>zal2 fun _ _=>rfl
 have awI:=dH (st:=Il) alj alk alm;have aC0:=awI.binds (ps:=["garden","state"]) fun _ _ _ _ _ _=>zal2 fun _ _=>rfl
 have aC1:=mg_of X G ali;have aC2:yQ K "days_of" "days_of" nW (.ref Tq) aaE (fN "days_of" "days_of" nW (.ref Tq) Jm Jo Jp Ji Dy Jq):=⟨⟨ac2,ab1,Jm,Jo,Jp,Ji,Dy,Jq,ab3,rfl,alo,alp⟩,alq⟩;have awJ:Binds K (fN "days_of" "days_of" nW (.ref Tq) Jm Jo Jp Ji Dy Jq) ["garden","state"] []:=fun s us hK hl=>match us,hl with | [_,_],_=>binds_K hK rfl aaO rfl rfl rfl
 have awK:Binds K (fN "days_of" "days_of" nW (.ref Tq) Jm Jo Jp Ji Dy Jq) ["garden","state"] [.none]:=fun s us hK hl=>(by obtain ⟨x,rfl⟩:=len1 (show us.length=1 by simpa using hl); exact binds_K hK rfl aaO rfl rfl rfl)
 have aC3:=mg_of X G aln;have awL:=dH (st:=pA) als alu alv;have aC4:=awL.binds (ps:=["garden","choice"]) fun _ _ _ _ _ _=>zal2 fun _ _=>rfl
 have aC5:=mg_of X G alr;have aC6:yQ K "rounds_of" "rounds_of" kY (.ref Tr) aaF (fN "rounds_of" "rounds_of" kY (.ref Tr) Jr Js Jt Jj Dz Ju):=⟨⟨ac4,ab2,Jr,Js,Jt,Jj,Dz,Ju,ab4,rfl,alx,aly⟩,alz⟩;have awM:Binds K (fN "rounds_of" "rounds_of" kY (.ref Tr) Jr Js Jt Jj Dz Ju) ["garden","state"] []:=fun s us hK hl=>match us,hl with | [_,_],_=>binds_K hK rfl aaP rfl rfl rfl
 have awN:Binds K (fN "rounds_of" "rounds_of" kY (.ref Tr) Jr Js Jt Jj Dz Ju) ["garden","state"] [.none]:=fun s us hK hl=>(by obtain ⟨x,rfl⟩:=len1 (show us.length=1 by simpa using hl); exact binds_K hK rfl aaP rfl rfl rfl)
 have aC7:=mg_of X G alw;have awO:=dH (st:=Ad) alB alC alD;have aC8:=awO.binds (ps:=["_law_error"]) fun _ _ _ _ _ _=>zal1 fun _=>rfl
 have aC9:=mg_of X G alA;have awP:=dH (st:=HD) alF alG alH;have aDa:=awP.binds (ps:=["_law_script","_law_k"]) fun _ _ _ _ _ _=>zal2 fun _ _=>rfl
 have aDb:=mg_of X G alE;have awQ:=dH (st:=HF) alJ alK alL;have aDc:=awQ.binds (ps:=["_law_cell","_law_k","_law_many"]) fun _ _ _ _ _ _=>zal3 fun _ _ _=>rfl
 have aDd:=mg_of X G alI;have awR:=dH (st:=qT) alN alO alP;have aDe:=awR.binds (ps:=["_law_script","_law_first"]) fun _ _ _ _ _ _=>zal2 fun _ _=>rfl
 have aDf:=mg_of X G alM;have awS:=dH (st:=qU) alR alS alT;have aDg:=awS.binds (ps:=["_law_spec_here"]) fun _ _ _ _ _ _=>zal1 fun _=>rfl
 have Zz:=mg_of X G alQ;have awT:=dH (st:=lU) alV alW alX;have aDh:=awT.binds (ps:=["_law_spec_here","_law_state","_law_wet"]) fun _ _ _ _ _ _=>zal3 fun _ _ _=>rfl
 have aDi:=mg_of X G alU;have awU:=dH (st:=uh) alZ al0 al1;have aDj:=awU.binds (ps:=["_law_spec_here","_law_state"]) fun _ _ _ _ _ _=>zal2 fun _ _=>rfl
 have aDk:=mg_of X G alY;have awV:=dH (st:=Ds) al3 al4 al5;have aDl:=awV.binds (ps:=["_law_spec_here","_law_state"]) fun _ _ _ _ _ _=>zal2 fun _ _=>rfl
 have aDm:=mg_of X G al2;have awW:=dH (st:=mW) al7 al8 al9;have aDn:=awW.binds (ps:=["_law_spec_here"]) fun _ _ _ _ _ _=>zal1 fun _=>rfl
 have aDo:=mg_of X G al6;have awX:=dH (st:=qX) amb amc amd;have aDp:=awX.binds (ps:=["_law_spec_here","_law_days","_law_state"]) fun _ _ _ _ _ _=>zal3 fun _ _ _=>rfl
 have aDq:=mg_of X G ama;have awY:=dH (st:=Bj) amf amg amh;have aDr:=awY.binds (ps:=["_law_spec_here","_law_days","_law_state"]) fun _ _ _ _ _ _=>zal3 fun _ _ _=>rfl
 have aDs:=mg_of X G ame;have awZ:=dH (st:=Dw) amj amk aml;have aDt:=awZ.binds (ps:=["_law_garden_here","_law_lives","_law_way"]) fun _ _ _ _ _ _=>zal3 fun _ _ _=>rfl
 have aDu:=mg_of X G ami;have aw0:=dH (st:=rm) amm amn amo;have aHm:=aw0.binds (ps:=["_law_script"]) fun _ _ _ _ _ _=>zal1 fun _=>rfl
 have aHn:=mg_of X G aaQ;have aw1:BK K pot:=⟨⟨Ls,Lw,Lx,Ly⟩,Lz,gt,tk,LC,fun b=>(by cases b; exact rB; exact uo; exact uq; exact rC; exact pY)⟩;have W9:BK K cH:=⟨⟨xr,xu,xG,xH⟩,xJ,gt,tk,xK,fun b=>(by cases b; exact mX; exact oA; exact oE; exact mY; exact lB)⟩;have Xa:BK K garden:=⟨⟨xP,xQ,xR,xT⟩,xU,gt,tk,xV,fun b=>(by cases b; exact mZ; exact oG; exact oH; exact m5; exact lG)⟩;have aw2:∀ f ∈ (["name","gap","rest"]:List Str),jG K pot f:=fun f hf=>(by simp only [aR,mem_nil_iff,or_false] at hf; rcases hf with rfl | rfl | rfl; exact rD; exact ur; exact rE)
 have Xb:∀ f ∈ (["name","gap","rest"]:List Str),jG K cH f:=fun f hf=>(by simp only [aR,mem_nil_iff,or_false] at hf; rcases hf with rfl | rfl | rfl; exact m6; exact oJ; exact m7)
 have Xc:∀ f ∈ (["pots","cans","week","closed"]:List Str),jG K garden f:=fun f hf=>(by simp only [aR,mem_nil_iff,or_false] at hf; rcases hf with rfl | rfl | rfl | rfl; exact m8; exact m9; exact nj; exact kj)
 obtain ⟨a,ea⟩:∃ a:gw,a=⟨pot,cH,garden,eX,tooMany,c7,yw,Ky,tW,tX,fWh,fNm,Ug,Zq,Zr,Zt,Hv,Hw,Hx,Xe,fSz,aax,fa,fa,fa,aav,aaw,Fo,Fp,QC,(fN "is_whole" "is_whole" wV .none as9 ata atb aqV ajy atc),(fN "is_name" "is_name" rT .none atd ate atf aqW ajz atg),(fN "__init__" "Pot.__init__" qL .none ath ati atj aqX ajA atk),(fN "with_gap" "Pot.with_gap" vV .none atl atm atn aqY ajB atp),(fN "__init__" "Cactus.__init__" qM .none atq atr atu aqZ ajC atv),(fN "with_gap" "Cactus.with_gap" vW .none atw atx aty aq0 ajD atz),(fN "own_pots" "own_pots" Ur .none ab5 ab6 ab7 abS Wn ab8),(fN "refuse_bad_counts" "refuse_bad_counts" Us .none ab9 acd ace abT Wo acf),(fN "refuse_name_twice" "refuse_name_twice" Ut .none acg ach aci abU Wq acj),(fN "__init__" "Garden.__init__" Zy (.ref Td) Lh Li Lj Lg Jl Lk),(fN "size" "Garden.size" Hz .none atF atG atH aq5 ajE atJ),(fN "with_cans" "with_cans" Dk .none acJ acK acL ab0 Ww acM),(fN "law" "law" rm .none Jv Jw Jx Jk DG Jy),(fN "law" "law" rm .none Jv Jw Jx Jk DG Jy),(fN "law" "law" rm .none Jv Jw Jx Jk DG Jy),(fN "is_state" "is_state" HN .none acn aco acp abV Wr acq),(fN "refuse_no_state" "refuse_no_state" Ae .none acr acs acu abW Ws acv),(fN "number" "Garden.number" U4 .none acw acy acz abX Wt acA),(fN "state" "Garden.state" U5 .none acB acC acD abY Wu acE),(fN "fresh" "Garden.fresh" K1 .none acF acG acH abZ Wv acI)⟩:=⟨_,rfl⟩;have B:Qz mg:=⟨mg_none_of X G lW,mg_none_of X G Ln,mg_none_of X G Wy,mg_none_of X G Wz,mg_none_of X G Lp,mg_none_of X G Ge,mg_none_of X G WD,mg_none_of X G WK,mg_none_of X G WL,mg_none_of X G WM,mg_none_of X G um,mg_none_of X G Gf⟩;have T:pO K mg a:=by subst ea; exact ⟨B,⟨_,mg_of X G ajF⟩,⟨_,mg_of X G ajG⟩,⟨JB,xY⟩,⟨FWh,bWh⟩,mWh,⟨FNm,bNm⟩,mNm,awk,W7,aw1,W9,aw2,Xb,⟨FPI,bPI⟩,⟨FPG,bPG⟩,⟨FCI,bCI⟩,⟨FCG,bCG⟩,⟨LK,aPI,iPI,LQ⟩,⟨xM,aCI,iCI,xO⟩,⟨aPG,iPG,kPG⟩,⟨aCG,iCG,kCG⟩,⟨rdP,gaP,atP,kPI⟩,ne⟩
 have kb:∀ k:Kd,(∀ C,k≠.ins C)->kitOne K k.ty (.ref pot)=some false:=fun k hk=>(by cases k; exact rG; exact Gh; exact LR; exact Ma; exact Gi; exact Bq; exact absurd rfl (hk _))
 have U:KD K mg a:=by subst ea; exact ⟨T,kpp,kcp,kb,⟨awl,aCo⟩,aip,⟨awm,aCp⟩,aiq,⟨awn,aCq⟩,air,⟨DK,uw⟩,⟨_,mg_of X G ajH⟩,⟨_,mg_of X G ajI⟩,⟨_,mg_of X G ajJ⟩,⟨_,mg_of X G ajK⟩⟩
 have FGI:yQ K "__init__" "Garden.__init__" Zy (.ref Td) Xe (fN "__init__" "Garden.__init__" Zy (.ref Td) Lh Li Lj Lg Jl Lk):=⟨⟨atE,aq4,Lh,Li,Lj,Lg,Jl,Lk,asp,rfl,lGI,cGI⟩,kGI⟩;have b4:Binds K (fN "__init__" "Garden.__init__" Zy (.ref Td) Lh Li Lj Lg Jl Lk) ["self","pots","cans","week","closed"] []:=fun s us hK hl=>match us,hl with | [_,_,_,_,_],_=>binds_K hK rfl lT rfl rfl rfl
 have b1:Binds K (fN "__init__" "Garden.__init__" Zy (.ref Td) Lh Li Lj Lg Jl Lk) ["self","pots","cans","week","closed"] [.int 1 u1,.int 1 u2,.int 0 u3]:=fun s us hK hl=>(by obtain ⟨x,y,rfl⟩:=len2 (show us.length=2 by simpa using hl); exact binds_K hK rfl lT rfl rfl rfl)
 have b2:Binds K (fN "__init__" "Garden.__init__" Zy (.ref Td) Lh Li Lj Lg Jl Lk) ["self","pots","cans","week","closed"] [.int 1 u2,.int 0 u3]:=fun s us hK hl=>(by obtain ⟨x,y,z,rfl⟩:=aBf (show us.length=3 by simpa using hl); exact binds_K hK rfl lT rfl rfl rfl)
 have Z:KQ K mg a (.ref Td):=by subst ea; exact ⟨U,Xa,W8,Xc,FGI,b4,⟨_,_,_,b1⟩,⟨_,_,b2⟩,⟨xW,aGI,iGI,xX⟩,⟨FSz,bSz⟩,⟨aSz,iSz,kSz⟩⟩
 have S:HS K mg a (.ref Td):=by subst ea; exact ⟨Z,⟨awo,aCr⟩,aCs,⟨awp,aCt⟩,aCu,⟨awq,aCv⟩,⟨aj4,aj5,aaG⟩,⟨awr,aCw⟩,⟨aj8,aj9,aaH⟩,⟨DN,uD⟩⟩
 have N:KY mg a:=by subst ea; exact ⟨mg_none_of X G lW,mg_none_of X G pX,JB,DK,aaR,W6,W5,DN,amr⟩
 have Rj:XC K a c7 5:=by subst ea; exact ⟨⟨uE,uF,uG,uH,gt,tk,uI,uJ⟩,uK,uL,uM,uN,uO,uP,uQ,uR⟩
 have O:aiD K mg a (.ref Td):=by subst ea; exact ⟨S,N,Rj,⟨_,_,⟨awO,aC8⟩,aC9⟩⟩
 have W:BR K mg a (.ref Td):=by subst ea; exact ⟨S,⟨_,_,⟨awu,aCA⟩,aCC⟩,⟨_,_,⟨awv,aCD⟩,aCE⟩,⟨_,_,⟨aww,aCF⟩,aCH⟩,⟨_,_,⟨awx,aCJ⟩,⟨aky,akz,aaJ⟩⟩,⟨_,_,⟨awy,aCK⟩,⟨akC,akD,aaK⟩⟩,⟨_,_,⟨awz,aCL⟩,aCM⟩,⟨_,_,⟨awA,aCN⟩,aCO⟩,⟨_,_,⟨awB,aCP⟩,aCQ⟩⟩
 have D:V1 K mg:=⟨B,⟨_,_,⟨awP,aDa⟩,aDb⟩,⟨_,_,⟨awQ,aDc⟩,aDd⟩⟩;have L:Vo K mg a (.ref Td):=⟨W,mg_none_of X G rA,mg_none_of X G Lq,⟨_,_,⟨awC,aCR⟩,aCS⟩,⟨_,_,⟨awD,aCT⟩,aCU⟩⟩;have aDv:BK K lv:=⟨⟨WT,WW,WX,WY⟩,W0,gt,tk,W2,fun b=>(by cases b; exact uT; exact xZ; exact yc; exact uU; exact rH)⟩;have aDw:∀ f ∈ (["garden","counts"]:List Str),jG K lv f:=fun f hf=>(by simp only [aR,mem_nil_iff,or_false] at hf; rcases hf with rfl | rfl; exact pZ; exact p7)
 have Vv:Vx K mg a (.ref Td) lv:=⟨L,⟨_,_,⟨awt,aCy⟩,aCz⟩,aDv,aCV,aDw,⟨_,_,⟨awE,aCW⟩,⟨W3,ak1,ak2,W4⟩⟩,⟨_,_,⟨awF,aCX⟩,⟨ak6,ak7,aaL⟩⟩⟩;have Bb:aiS K mg a (.ref Td) lv cB:=⟨Vv,mg_none_of X G WQ,⟨_,_,⟨awG,aCY⟩,⟨ala,alb,aaM⟩⟩,⟨_,_,⟨awH,aCZ⟩,⟨ale,alf,aaN⟩,eB⟩⟩;have Ee:aiQ K mg a (.ref Td):=by subst ea; exact ⟨L,⟨_,_,⟨aws,aCx⟩,⟨akd,ake,aaI⟩⟩,⟨_,_,⟨awI,aC0⟩,aC1⟩,⟨_,_,_,aC2,awJ,awK,aC3⟩⟩
 have Cc:aah K mg a (.ref Td) lv cB:=⟨Bb,Ee,⟨_,_,⟨awL,aC4⟩,aC5⟩,⟨_,_,_,aC6,awM,awN,aC7⟩⟩;have R:aqL K mg a (.ref Td) lv cB:=⟨Cc,O,D,⟨_,_,⟨awR,aDe⟩,aDf⟩,⟨_,_,⟨awS,aDg⟩,Zz⟩,⟨_,_,⟨awT,aDh⟩,aDi⟩,⟨_,_,⟨awU,aDj⟩,aDk⟩,⟨_,_,⟨awV,aDl⟩,aDm⟩,⟨_,_,⟨awW,aDn⟩,aDo⟩,⟨_,_,⟨awX,aDp⟩,aDq⟩,⟨_,_,⟨awY,aDr⟩,aDs⟩,⟨_,_,⟨awZ,aDt⟩,aDu⟩⟩;have HC:∀ base:Heap,K.In base->CodeHd base cB PB:=fun base Kb=>⟨_,vsB,flB,tfB,fgB,tgB,inB,txB,ttB,Kb cB _ lcB,rfl,rfl,v11,amq,v18,v7,v9,v10,ncP⟩
 exact ⟨(fN "law" "law" rm .none Jv Jw Jx Jk DG Jy),fun s v=>.of_eq rfl,HC,fun base Kb _ hbm=>aja aw0 ⟨R,HC base Kb,hbm⟩⟩
theorem walk {l:PySem.W.OpenLaw} {q:cC} {loose:List Str} {XP:(Str->Option aB)->Heap->Prop} {YP:World->Heap->Prop} {d:DefRec} {K:Params->Fg} {PB cB:aA} (hn:l.most=some 63) (hdf:d.params.defaults=[]) (hY:∀ (w:World) (h:Heap),YP w h->(K w.params).In h/\h.get? PB=some (tabObj #[])) (nP:∀ p,(K p).lookup PB=none) (F:∀ (w:World) (mg:Str->Option aB) (fa:aA) (h:Heap),(K w.params).In h->h.Ns mainGlobals mg->mg d.name=some (.ref fa) -> ∃ fd:fQ,(∀ (s:aX) (u:aB),BindsTo s fd ⟨[u],[]⟩ [("_law_script",u)])/\(∀ base:Heap,(K w.params).In base->CodeHd base cB PB)/\∀ base:Heap,(K w.params).In base->base.Ns mainGlobals mg->base.BuiltinsAt mg PB->cD l.prog w (K w.params) mg base (fL l.prog w) 14 fa fd ["_law_script"] (Gd (K w.params) PB)) : PySem.W.WalkO q loose XP YP l.row.toRowW d [] (fun f vs=>PySem.call f vs) := L2.Ub (cB:=cB) (n:=63) (k:=14) (x:="_law_script") (CX:=fun w=>fL l.prog w) (sp:=fun w=>Gd (K w.params) PB) hn (by decide) hdf ⟨rfl,by decide,by decide⟩ hY nP F (fun _ _ a ns hl hP hS=>⟨a,ns,rfl,hS,⟨#[],hP,trivial,.inl rfl⟩,fun _=>rfl⟩) fun _ _ _ _ _ z=>by
 obtain ⟨_,_,_,_,_,_,_,_,_,_,_,_,_,_,_,z⟩:=z;exact z
end Tw
open PySem PySem.W PyProof.Rows
set_option maxRecDepth 100000 in
set_option maxHeartbeats 0 in
theorem PySem.Challenge.cw_thirstwise_k04_whole_rounds_holds : PySem.Challenge.rw_thirstwise_k04_whole_rounds.Holds := by
 w_on; o_law
 refine PySem.W.holds_open (q:=Tw.view) (loose:=Tw.LO) (Xt:=fun s=>xlAt Tw.view [] s && recOk (RowW.records (OpenRow.toRowW (OpenLaw.row PySem.Challenge.rw_thirstwise_k04_whole_rounds))) s) (XP:=XL Tw.view []) (Yf:=Hook.obs (PySem.W.kHook Tw.KF Tw.addrs (fun _=>by kernel_rfl))) (Ya:=Hook.val (PySem.W.kHook Tw.KF Tw.addrs (fun _=>by kernel_rfl))) (YP:=Hook.says (PySem.W.kHook Tw.KF Tw.addrs (fun _=>by kernel_rfl))) (N:=8266) Tw.hl (Hook.of (PySem.W.kHook Tw.KF Tw.addrs (fun _=>by kernel_rfl))) (Hook.keeps (PySem.W.kHook Tw.KF Tw.addrs (fun _=>by kernel_rfl))) (fun s e=>xl_of s (Bool.and_eq_true_iff.mp e).1) XL.keeps (by rfl) (by rfl) (by rfl) (fun s e=>recFacts_of (Bool.and_eq_true_iff.mp e).2) (by rfl) (by first | assumption | decide +kernel) (by decide +kernel) ⟨rfl,rfl,rfl,rfl,rfl,by decide +kernel⟩ ?hw ?hc
 case hw=>w_witness2
 refine Tw.walk (l:=PySem.Challenge.rw_thirstwise_k04_whole_rounds) (PB:=Tw.aPB) (cB:=Tw.aCB) (K:=Tw.KK) rfl rfl (fun w h Y=>L2.Zm (by kernel_rfl) (PySem.W.kIn_of Y)) (fun _=>by kernel_rfl) ?F
 case F =>
  intro w mg fa h KX G hmg
  k_fill
  refine' Tw.all_mk (PB:=Tw.aPB) (cB:=Tw.aCB) KX G hmg ?lW ?Ln ?Wy ?Wz ?Lp ?Ge ?WD ?WK ?WL ?WM ?um ?Gf ?pX ?rA ?Lq ?WQ ?ajF ?ajG ?ajH ?ajI ?ajJ ?ajK ?Lr ?Bk ?Bl ?xg ?xq ?Gg ?Bm ?WR ?Bo ?Bp ?ne ?aWh ?lWh ?cWh ?kWh ?aNm ?lNm ?cNm ?kNm ?aPI ?iPI ?lPI ?cPI ?kPI ?aPG ?iPG ?lPG ?cPG ?kPG ?aCI ?iCI ?lCI ?cCI ?kCI ?aCG ?iCG ?lCG ?cCG ?kCG ?ajL ?ajM ?ajN ?kOwn ?ajO ?ajP ?ajQ ?ajR ?ajS ?ajT ?ajU ?ajV ?aGI ?iGI ?lGI ?cGI ?kGI ?lT ?aSz ?iSz ?lSz ?cSz ?kSz ?ajW ?ajX ?ajY ?ajZ ?aj0 ?aj1 ?aj2 ?aj3 ?aj4 ?aj5 ?aj6 ?aj7 ?aaG ?aj8 ?aj9 ?akb ?akc ?aaH ?akd ?ake ?akf ?akg ?aaI ?akh ?aki ?akj ?akk ?akl ?akm ?akn ?ako ?akp ?akq ?akr ?aks ?akt ?aku ?akv ?akx ?aky ?akz ?akA ?akB ?aaJ ?akC ?akD ?akE ?akF ?aaK ?akG ?akH ?akI ?akJ ?akK ?akL ?akM ?akN ?akO ?akP ?akQ ?akR ?akS ?akT ?akU ?akV ?akW ?akX ?akY ?akZ ?ak0 ?ak1 ?ak2 ?ak3 ?ak4 ?ak5 ?ak6 ?ak7 ?ak8 ?ak9 ?aaL ?ala ?alb ?alc ?ald ?aaM ?ale ?alf ?alg ?alh ?aaN ?ali ?alj ?alk ?alm ?aln ?alo ?alp ?alq ?aaO ?alr ?als ?alu ?alv ?alw ?alx ?aly ?alz ?aaP ?alA ?alB ?alC ?alD ?alE ?alF ?alG ?alH ?alI ?alJ ?alK ?alL ?alM ?alN ?alO ?alP ?alQ ?alR ?alS ?alT ?alU ?alV ?alW ?alX ?alY ?alZ ?al0 ?al1 ?al2 ?al3 ?al4 ?al5 ?al6 ?al7 ?al8 ?al9 ?ama ?amb ?amc ?amd ?ame ?amf ?amg ?amh ?ami ?amj ?amk ?aml ?aaQ ?amm ?amn ?amo ?lcB ?v11 ?amq ?v18 ?v7 ?v9 ?v10 ?ncP ?eB ?gt ?tk ?Ls ?Lw ?Lx ?Ly ?Lz ?LC ?rB ?uo ?uq ?rC ?pY ?LK ?LQ ?xr ?xu ?xG ?xH ?xJ ?xK ?mX ?oA ?oE ?mY ?lB ?xM ?xO ?xP ?xQ ?xR ?xT ?xU ?xV ?mZ ?oG ?oH ?m5 ?lG ?xW ?xX ?rD ?ur ?rE ?m6 ?oJ ?m7 ?m8 ?m9 ?nj ?kj ?rdP ?gaP ?atP ?kpp ?kcp ?rG ?Gh ?LR ?Ma ?Gi ?Bq ?xY ?uw ?uD ?Jz ?uE ?uF ?uG ?uH ?uI ?uJ ?uK ?uL ?uM ?uN ?uO ?uP ?uQ ?uR ?WT ?WW ?WX ?WY ?W0 ?W2 ?uT ?xZ ?yc ?uU ?rH ?W3 ?W4 ?pZ ?p7
  case lW | Ln | Wy | Wz | Lp | Ge | WD | WK | WL | WM | um | Gf | pX | rA | Lq | WQ | ajF | ajG | ajH | ajI | ajJ | ajK | Lr | Bk | Bl | xg | xq | Gg | Bm | WR | Bo | Bp=>k_is
  case ne=>decide
  case aWh | lWh | cWh | kWh | aNm | lNm | cNm | kNm | aPI | iPI | lPI | cPI | kPI | aPG | iPG | lPG | cPG | kPG | aCI | iCI | lCI | cCI | kCI | aCG | iCG | lCG | cCG | kCG | ajL | ajM | ajN | kOwn | ajO | ajP | ajQ | ajR | ajS | ajT | ajU | ajV=>k_is
  case aGI | iGI | lGI | cGI | kGI | lT | aSz | iSz | lSz | cSz | kSz | ajW | ajX | ajY | ajZ | aj0 | aj1 | aj2 | aj3 | aj4 | aj5 | aj6 | aj7 | aaG | aj8 | aj9 | akb | akc | aaH | akd | ake | akf | akg | aaI | akh | aki | akj | akk | akl | akm=>k_is
  case akn | ako | akp | akq | akr | aks | akt | aku | akv | akx | aky | akz | akA | akB | aaJ | akC | akD | akE | akF | aaK | akG | akH | akI | akJ | akK | akL | akM | akN | akO | akP | akQ | akR | akS | akT | akU | akV | akW | akX | akY | akZ=>k_is
  case ak0 | ak1 | ak2 | ak3 | ak4 | ak5 | ak6 | ak7 | ak8 | ak9 | aaL | ala | alb | alc | ald | aaM | ale | alf | alg | alh | aaN | ali | alj | alk | alm | aln | alo | alp | alq | aaO | alr | als | alu | alv | alw | alx | aly | alz | aaP | alA=>k_is
  case alB | alC | alD | alE | alF | alG | alH | alI | alJ | alK | alL | alM | alN | alO | alP | alQ | alR | alS | alT | alU | alV | alW | alX | alY | alZ | al0 | al1 | al2 | al3 | al4 | al5 | al6 | al7 | al8 | al9 | ama | amb | amc | amd | ame=>k_is
  case amf | amg | amh | ami | amj | amk | aml | aaQ | amm | amn | amo | lcB=>k_is
  case v11 | amq | v18 | v7 | v9 | v10=>rfl
  case ncP=>decide
  case eB=>rfl
  case gt | tk | Ls | Lw | Lx | Ly | Lz | LC=>k_is
  case rB | uo | uq | rC | pY=>kit_is
  case LK | LQ | xr | xu | xG | xH | xJ | xK=>k_is
  case mX | oA | oE | mY | lB=>kit_is
  case xM | xO | xP | xQ | xR | xT | xU | xV=>k_is
  case mZ | oG | oH | m5 | lG=>kit_is
  case xW | xX | rD | ur | rE | m6 | oJ | m7 | m8 | m9 | nj | kj | rdP | gaP | atP=>k_is
  case kpp | kcp | rG | Gh | LR | Ma | Gi | Bq=>kit_is
  case xY | uw | uD | Jz=>k_exc
  case uE | uF | uG | uH | uI | uJ=>k_is
  case uK | uL | uM | uN | uO | uP | uQ=>kit_is
  case uR=>kts_exm
  case WT | WW | WX | WY | W0 | W2=>k_is
  case uT | xZ | yc | uU | rH=>kit_is
  case W3 | W4 | pZ | p7=>k_is
