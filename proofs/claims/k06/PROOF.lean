import PyProof.Rows.All
import Wide.All
import Wide.FinOn
import OpenK.KLine
import KE.KIsAll
import KE.RegKIsAll
import KE.RegKTryMore
import OpenK.KOwn
import KE.KRevIter
import KE.KRevSl
import KE.KItem
import KE.KxBytes
import Lean
import PyProof.EqAt
import PyProof.EqKinds
import PyProof.TupleCall
import PyProof.DictRoadsH
import PyProof.DictKinds
import PyProof.AttrMiss
import PyProof.IsiH_list
import PyProof.ListNew
import PyProof.FactsAll.dict
import KE.KLam
import KE.KMinKey
import PyProof.Rows.TupTab
import KE.KNest
import PyProof.Rows.SumAny
import PyProof.ExcClass2
import PyProof.ExcInit
import PyProof.Rows.FStr
import PyProof.Rows.SetFrom
import PySem.Challenge.RW_thirstwise_k06_plans_followed
set_option compiler.extract_closed false
set_option genSizeOf false
set_option bootstrap.genMatcherCode false
noncomputable section
set_option Elab.async false
set_option linter.all false
set_option maxRecDepth 1000000
set_option maxHeartbeats 0
theorem zau0a (h:True:=by rfl):True:=trivial
abbrev zau0:=zau0a._auto_1
theorem zau1a (h:True:=by decide):True:=trivial
abbrev zau1:=zau1a._auto_1
theorem zau2a (h:True:=by first | exact .inl rfl | exact .inr rfl | assumption):True:=trivial
abbrev zau2:=zau2a._auto_1
theorem zau3a (h:True:=by intro _; rfl):True:=trivial
abbrev zau3:=zau3a._auto_1
theorem zau4a (h:True:=by decide +kernel):True:=trivial
abbrev zau4:=zau4a._auto_1
theorem zau5a (h:True:=by with_unfolding_all rfl):True:=trivial
abbrev zau5:=zau5a._auto_1
open PySem.W (InstAt KitX Looks any_some binds_K callWith_K cellsFrom_some check_slot clsIn cls_value codeIn codeRec_of emptyDict excIn exmOne exm_one findCls findIn findObj findObj_own fnOf handedIn handed_on hasDictIn instObj isClsIn isFn isNs_of_in keepIn kia_one kitOne kitx_dict kitx_list lookIn looks_clsIn looks_find looks_findIn looks_subIn makesIn methodCall_KW methodObj method_cls mg_none_of mg_of mroIn notCls nsIn nsOkIn plainGet plainGet_of plainOver readsIn set_plain specialIn subIn tailIn tail_of_in takerIn takesIn typeIn)
open List (Nodup all_cons all_eq_true all_map any_cons append_assoc append_nil countP_cons ext_getElem? filter_append findSome?_cons flatMap_cons flatten_cons foldl_append idxOf_cons length_append length_cons length_filter_le length_map length_range length_take length_zip map_append map_cons map_map map_nil map_take mem_append mem_append_left mem_append_right mem_cons mem_cons_of_mem mem_cons_self mem_filter mem_flatMap mem_map mem_nil_iff mem_of_getElem? mem_range mem_singleton nil_append nodup_cons not_mem_nil of_mem_zip range_succ range_succ_eq_map replicate_succ size_toArray take_length take_zero)
open PyProof.Rows (bitAnd_pp boot_all boot_int boot_isinstance boot_list boot_max boot_min boot_set boot_tuple callWith_builtin1 callWith_type1)
abbrev aj := @PySem.wpAny_bind
abbrev au := @PySem.wpAny_pure
abbrev bW := @PySem.wpAny_mono
abbrev cg := @PySem.codeAny_mono
abbrev ak := @PySem.Heap.get?_push_of_some
abbrev aJ := @PySem.Heap.get?_push_size
abbrev aX := @List.getElem?_eq_some_iff
abbrev aC := @List.getElem?_eq_getElem
abbrev aH := @List.getElem?_map
abbrev aq := @List.length_map
abbrev aZ := @List.length_append
abbrev bA := @List.length_range
abbrev aP := @List.mem_singleton
abbrev bN := @List.mem_map
abbrev cH := @List.range_succ
abbrev cX := @List.filter_append
abbrev aR := @List.mem_of_getElem?
abbrev aL := @decide_eq_true
abbrev aG := @decide_eq_false
abbrev aN := @Nat.le_refl
abbrev bh := @Nat.le_trans
abbrev cu := @Option.some.inj
abbrev bB := @Option.map_eq_some_iff
abbrev eV := @Nat.zero_le
abbrev bf := @List.map_append
abbrev cR := @List.map_cons
abbrev bI := @List.take_length
abbrev aO := @List.mem_cons
abbrev aY := @Nat.lt_of_lt_of_le
abbrev cJ := @List.append_nil
abbrev aA := PySem.Value
abbrev aB := PySem.Addr
abbrev aQ := PySem.Shared
abbrev cA := PySem.Program
abbrev dW := PySem.FuncData
abbrev c7 := PySem.Around
abbrev cY := PySem.Stmt
abbrev Fg := PySem.W.Frag
namespace L2
open PySem
def inClass (s:cY) (j:Nat):cY:=match s with
 | .ClassDef _ _ _ body _ _ _ _ _ _ _=>body.getD j (.Pass ⟨0,0,0,0⟩)
 | _=>.Pass ⟨0,0,0,0⟩
def jM (s:cY):Arguments:=match s with
 | .FunctionDef _ a _ _ _ _ _ _ _ _=>a
 | _=>{ posonlyargs:=[],args:=[],vararg:=none,kwonlyargs:=[],kw_defaults:=[],kwarg:=none,defaults:=[] }
def gq (s:cY):List cY:=match s with
 | .FunctionDef _ _ b _ _ _ _ _ _ _=>b
 | _=>[]
def aW (s:cY):Scope:=match s with
 | .FunctionDef _ _ _ _ _ _ sc _ _ _=>sc
 | _=>{ kind:=.function,names:=[],isGenerator:=false,isCoroutine:=false }
end L2
namespace Tw
open PySem PySem.W L2
abbrev PW:cA:=PySem.Challenge.pw_thirstwise_k06_plans_followed
def top (i:Nat):cY:=PySem.Challenge.pw_thirstwise_k06_plans_followed.main.body.getD i (.Pass ⟨0,0,0,0⟩)
noncomputable section
abbrev SS (s:String):Str:=Str.ofString s
abbrev VS (s:String) (n:Nat):aA:=Value.str (Str.ofString s) n
abbrev cP (n:Nat):aA:=Value.str (Str.ofString "/claim/cut.py") n
abbrev KH (P:Params) (s:Str):=PyData.keyHash P s
abbrev dE (P:Params) (s:String) (n:Nat) (v:aA):DictEntry:={ hash:=PyData.keyHash P (Str.ofString s),key:=Value.str (Str.ofString s) n,val:=v }
abbrev tU (a:Array aA):Obj:={ cls:=.type "tuple",data:=.seq a }
abbrev cO (a:Array aA):Obj:={ cls:=.type "code",data:=.fields a }
abbrev fR (a:Array (Option aA)):Obj:={ cls:=.type "frame",slots:=a }
abbrev dO (a:Array DictEntry) (n:Nat):Obj:={ cls:=.type "dict",data:=.dict a n }
noncomputable abbrev fO (n q:String) (s:cY) (dv m:aA) (c:Nat):Obj:={ cls:=.type "function",data:=.func { name:=Str.ofString n,qualname:=Str.ofString q,params:=jM s,body:=FuncBody.stmts (gq s),scope:=aW s,globals:=3,closure:=[],defaults:=dv,kwdefaults:=.none,pyModule:=m,code:=.ref c } }
noncomputable abbrev fB (n q:String) (s:cY):Obj:={ cls:=.none,data:=.func { name:=SS n,qualname:=SS q,params:=jM s,body:=FuncBody.stmts (gq s),scope:=aW s,globals:=0,closure:=[],defaults:=.none,kwdefaults:=.none } }
abbrev tB (a:Array aA):Obj:={ cls:=.none,data:=.fields a }
abbrev i0 (n:Int):aA:=.int n 0
abbrev lF (o:Obj):BT:=.node o .nil .nil
abbrev nD (o:Obj) (l r:BT):BT:=.node o l r
noncomputable abbrev aqk (P:Params):Obj:=dO #[dE P "__name__" 165 (VS "thirstwise.pots" 347),dE P "__doc__" 166 .none,dE P "__package__" 167 .none,dE P "__loader__" 168 (.builtin "__main__.__loader__#opaque"),dE P "__spec__" 169 .none,dE P "__annotations__" 170 (.ref 6),dE P "__builtins__" 171 (.ref 4),dE P "__file__" 173 (cP 172),dE P "__cached__" 174 .none,dE P "_wall" 193 (.ref 21),dE P "is_whole" 204 (.ref 28),dE P "is_set" 212 (.ref 35),dE P "GardenError" 232 (.ref 45),dE P "BadPot" 248 (.ref 58),dE P "BadRow" 273 (.ref 77),dE P "TooMany" 289 (.ref 89),dE P "NoState" 305 (.ref 101),dE P "NoPot" 321 (.ref 113),dE P "BadDay" 346 (.ref 132),dE P "LONGEST_NAME" 350 (.int 12 349),dE P "MOST_GAP" 352 (.int 60 351),dE P "is_name" 358 (.ref 139),dE P "Pot" 419 (.ref 184)] 23
noncomputable abbrev Xu (P:Params):Obj:=dO #[dE P "__name__" 165 (VS "law_thirstwise_k06_plans_followed" 658),dE P "__doc__" 166 .none,dE P "__package__" 167 .none,dE P "__loader__" 168 (.builtin "__main__.__loader__#opaque"),dE P "__spec__" 169 .none,dE P "__annotations__" 170 (.ref 6),dE P "__builtins__" 171 (.ref 4),dE P "__file__" 173 (cP 172),dE P "__cached__" 174 .none,dE P "_wall" 193 (.ref 21),dE P "is_whole" 204 (.ref 28),dE P "is_set" 212 (.ref 35),dE P "GardenError" 232 (.ref 45),dE P "BadPot" 248 (.ref 58),dE P "BadRow" 273 (.ref 77),dE P "TooMany" 289 (.ref 89),dE P "NoState" 305 (.ref 101),dE P "NoPot" 321 (.ref 113),dE P "BadDay" 346 (.ref 132),dE P "LONGEST_NAME" 350 (.int 12 349),dE P "MOST_GAP" 352 (.int 60 351),dE P "is_name" 358 (.ref 139),dE P "Pot" 419 (.ref 184),dE P "Cactus" 476 (.ref 233),dE P "MOST_POTS" 480 (.int 8 479),dE P "MOST_CANS" 482 (.int 8 481),dE P "MOST_WEEK" 484 (.int 14 483),dE P "MOST_STATES" 486 (.int 20000 485),dE P "own_pots" 492 (.ref 240),dE P "refuse_bad_counts" 502 (.ref 247),dE P "refuse_name_twice" 508 (.ref 252),dE P "is_state" 514 (.ref 257),dE P "refuse_no_state" 522 (.ref 264),dE P "Garden" 598 (.ref 308),dE P "place_of" 604 (.ref 317),dE P "cans_on" 614 (.ref 324),dE P "day_behind" 622 (.ref 331),dE P "refuse_bad_day" 630 (.ref 336),dE P "since_behind" 636 (.ref 341),dE P "dry_names" 642 (.ref 346),dE P "followed" 649 (.ref 352),dE P "kept" 657 (.ref 359),dE P "_law_cell_at" 667 (.ref 366),dE P "_law_draw" 678 (.ref 373),dE P "_law_spec" 698 (.ref 380),dE P "_law_garden" 709 (.ref 387),dE P "_law_behind" 727 (.ref 394),dE P "_law_steps" 733 (.ref 399),dE P "_law_number" 743 (.ref 406),dE P "_law_states" 749 (.ref 411),dE P "_law_walked" 755 (.ref 416),dE P "_law_told" 762 (.ref 423),dE P "_law_sorts" 770 (.ref 430),dE P "_law_refusal" 777 (.ref 437),dE P "_law_rows" 783 (.ref 442),dE P "_law_right" 789 (.ref 447),dE P "law" 804 (.ref 454)] 57
abbrev o11:Obj:=tU #[]
abbrev o12:Obj:=tB #[]
noncomputable abbrev agR:Obj:=tB #[i0 1,i0 0,.ref 20,i0 5,i0 0,.ref 27,i0 9,i0 0,.ref 34,i0 12,i0 0,.ref 41,i0 14,i0 0,.ref 54,i0 16,i0 0,.ref 66,i0 21,i0 0,.ref 85,i0 23,i0 0,.ref 97,i0 25,i0 0,.ref 109,i0 27,i0 0,.ref 121,i0 35,i0 0,.ref 138,i0 39,i0 0,.ref 145]
noncomputable abbrev Uu:Obj:=tB #[i0 1,i0 0,.ref 20,i0 5,i0 0,.ref 27,i0 9,i0 0,.ref 34,i0 12,i0 0,.ref 41,i0 14,i0 0,.ref 54,i0 16,i0 0,.ref 66,i0 21,i0 0,.ref 85,i0 23,i0 0,.ref 97,i0 25,i0 0,.ref 109,i0 27,i0 0,.ref 121,i0 35,i0 0,.ref 138,i0 39,i0 0,.ref 145,i0 60,i0 0,.ref 194,i0 84,i0 0,.ref 239,i0 91,i0 0,.ref 246,i0 100,i0 0,.ref 251,i0 103,i0 0,.ref 256,i0 113,i0 0,.ref 263,i0 116,i0 0,.ref 270,i0 154,i0 0,.ref 316,i0 160,i0 0,.ref 323,i0 162,i0 0,.ref 330,i0 165,i0 0,.ref 335,i0 172,i0 0,.ref 340,i0 174,i0 0,.ref 345,i0 176,i0 0,.ref 351,i0 188,i0 0,.ref 358,i0 191,i0 0,.ref 365,i0 195,i0 0,.ref 372,i0 199,i0 0,.ref 379,i0 227,i0 0,.ref 386,i0 235,i0 0,.ref 393,i0 250,i0 0,.ref 398,i0 258,i0 0,.ref 405,i0 263,i0 0,.ref 410,i0 274,i0 0,.ref 415,i0 289,i0 0,.ref 422,i0 293,i0 0,.ref 429,i0 296,i0 0,.ref 436,i0 302,i0 0,.ref 441,i0 317,i0 0,.ref 446,i0 333,i0 0,.ref 453]
abbrev o13:Obj:=cO #[VS "<module>" 182,VS "<module>" 183,cP 184,i0 1,i0 0,i0 0,i0 0,i0 0,.ref 11,.bool false,i0 181,.ref 12,.none,.none,.none,.none,i0 185,i0 1,cP 186]
abbrev o14:Obj:=fR #[some (.ref 13),some (.ref 3),some (.ref 3),none,some (VS "__main__" 164),none,some (.ref 0)]
abbrev o15:Obj:=tU #[]
abbrev o16:Obj:=tB #[]
abbrev o17:Obj:=tU #[VS "k" 190]
abbrev o18:Obj:=tU #[]
abbrev o19:Obj:=fB "_wall" "_wall" (top 0)
abbrev o20:Obj:=cO #[VS "_wall" 187,VS "_wall" 188,cP 189,i0 1,i0 1,i0 0,i0 0,i0 3,.ref 15,.bool true,i0 181,.ref 16,.none,.ref 17,.ref 18,.ref 19,i0 191,i0 1,cP 192]
abbrev o21:Obj:=fO "_wall" "_wall" (top 0) .none (VS "__main__" 164) 20
abbrev o22:Obj:=tU #[]
abbrev o23:Obj:=tB #[]
abbrev o24:Obj:=tU #[VS "value" 199,VS "least" 200,VS "most" 201]
abbrev o25:Obj:=tU #[]
abbrev o26:Obj:=fB "is_whole" "is_whole" (top 2)
abbrev o27:Obj:=cO #[VS "is_whole" 196,VS "is_whole" 197,cP 198,i0 5,i0 3,i0 0,i0 0,i0 3,.ref 22,.bool true,i0 181,.ref 23,.none,.ref 24,.ref 25,.ref 26,i0 202,i0 5,cP 203]
abbrev o28:Obj:=fO "is_whole" "is_whole" (top 2) .none (VS "thirstwise.checks" 194) 27
abbrev o29:Obj:=tU #[]
abbrev o30:Obj:=tB #[]
abbrev o31:Obj:=tU #[VS "number" 208,VS "bit" 209]
abbrev o32:Obj:=tU #[]
abbrev o33:Obj:=fB "is_set" "is_set" (top 3)
abbrev o34:Obj:=cO #[VS "is_set" 205,VS "is_set" 206,cP 207,i0 9,i0 2,i0 0,i0 0,i0 3,.ref 29,.bool true,i0 181,.ref 30,.none,.ref 31,.ref 32,.ref 33,i0 210,i0 9,cP 211]
abbrev o35:Obj:=fO "is_set" "is_set" (top 3) .none (VS "thirstwise.checks" 194) 34
abbrev o36:Obj:=tU #[.type "ValueError"]
abbrev o37:Obj:={ cls:=.type "builtin_function_or_method",data:=.fields #[.builtin "type.__prepare__",.type "type"] }
noncomputable abbrev o38 (P:Params):Obj:=dO #[dE P "__module__" 222 (VS "thirstwise.errors" 213),dE P "__qualname__" 224 (VS "GardenError" 223),dE P "__firstlineno__" 226 (.int 12 225),dE P "__static_attributes__" 227 (.ref 43)] 4
abbrev o39:Obj:=tU #[]
abbrev o40:Obj:=tB #[]
abbrev o41:Obj:=cO #[VS "GardenError" 217,VS "GardenError" 218,cP 219,i0 12,i0 0,i0 0,i0 0,i0 0,.ref 39,.bool false,i0 181,.ref 40,.none,.none,.none,.none,i0 220,i0 12,cP 221]
abbrev o42:Obj:=fR #[some (.ref 41),some (.ref 3),some (.ref 38),none,some (VS "thirstwise.errors" 213),none,some (.ref 0)]
abbrev o43:Obj:=tU #[]
noncomputable abbrev o44 (P:Params):Obj:=dO #[dE P "__module__" 222 (VS "thirstwise.errors" 213),dE P "__firstlineno__" 226 (.int 12 225),dE P "__static_attributes__" 227 (.ref 43),dE P "__weakref__" 229 (.ref 46),dE P "__doc__" 230 .none] 3
noncomputable abbrev o45:Obj:={ cls:=.type "type",data:=.cls { name:=SS "GardenError",bases:=[.type "ValueError"],mro:=[.ref 45,.type "ValueError",.type "Exception",.type "BaseException",.type "object"],ns:=44,qualname:=SS "GardenError",subclasses:=[.ref 58,.ref 77,.ref 89,.ref 101,.ref 113,.ref 132] },slots:=#[some (.ref 36),none,some (VS "GardenError" 215),some (VS "GardenError" 223),some (.builtin "ValueError.__new__"),some (.bool true)] }
abbrev o46:Obj:={ cls:=.type "getset_descriptor",data:=.fields #[VS "__weakref__" 228,.ref 45,.builtin "ExceptionGroup.__weakref__",.none] }
abbrev o47:Obj:={ cls:=.type "super",data:=.fields #[.ref 45,.ref 45,.ref 45] }
abbrev o48:Obj:={ cls:=.type "builtin_function_or_method",data:=.fields #[.builtin "object.__init_subclass__",.ref 45] }
abbrev o49:Obj:=tU #[.ref 45]
abbrev o50:Obj:={ cls:=.type "builtin_function_or_method",data:=.fields #[.builtin "type.__prepare__",.type "type"] }
noncomputable abbrev o51 (P:Params):Obj:=dO #[dE P "__module__" 240 (VS "thirstwise.errors" 213),dE P "__qualname__" 242 (VS "BadPot" 241),dE P "__firstlineno__" 244 (.int 14 243),dE P "__static_attributes__" 245 (.ref 56)] 4
abbrev o52:Obj:=tU #[]
abbrev o53:Obj:=tB #[]
abbrev o54:Obj:=cO #[VS "BadPot" 235,VS "BadPot" 236,cP 237,i0 14,i0 0,i0 0,i0 0,i0 0,.ref 52,.bool false,i0 181,.ref 53,.none,.none,.none,.none,i0 238,i0 14,cP 239]
abbrev o55:Obj:=fR #[some (.ref 54),some (.ref 3),some (.ref 51),none,some (VS "thirstwise.errors" 213),none,some (.ref 0)]
abbrev o56:Obj:=tU #[]
abbrev o57 (P:Params):Obj:=dO #[dE P "__module__" 240 (VS "thirstwise.errors" 213),dE P "__firstlineno__" 244 (.int 14 243),dE P "__static_attributes__" 245 (.ref 56),dE P "__doc__" 246 .none] 2
noncomputable abbrev o58:Obj:={ cls:=.type "type",data:=.cls { name:=SS "BadPot",bases:=[.ref 45],mro:=[.ref 58,.ref 45,.type "ValueError",.type "Exception",.type "BaseException",.type "object"],ns:=57,qualname:=SS "BadPot" },slots:=#[some (.ref 49),none,some (VS "BadPot" 233),some (VS "BadPot" 241),some (.builtin "ValueError.__new__"),some (.bool true)] }
abbrev o59:Obj:={ cls:=.type "super",data:=.fields #[.ref 58,.ref 58,.ref 58] }
abbrev o60:Obj:={ cls:=.type "builtin_function_or_method",data:=.fields #[.builtin "object.__init_subclass__",.ref 58] }
abbrev o61:Obj:=tU #[.ref 45]
abbrev o62:Obj:={ cls:=.type "builtin_function_or_method",data:=.fields #[.builtin "type.__prepare__",.type "type"] }
noncomputable abbrev o63 (P:Params):Obj:=dO #[dE P "__module__" 256 (VS "thirstwise.errors" 213),dE P "__qualname__" 258 (VS "BadRow" 257),dE P "__firstlineno__" 260 (.int 16 259),dE P "__init__" 268 (.ref 74),dE P "__static_attributes__" 270 (.ref 75)] 5
abbrev o64:Obj:=tU #[]
abbrev o65:Obj:=tB #[i0 18,i0 4,.ref 73]
abbrev o66:Obj:=cO #[VS "BadRow" 251,VS "BadRow" 252,cP 253,i0 16,i0 0,i0 0,i0 0,i0 0,.ref 64,.bool false,i0 181,.ref 65,.none,.none,.none,.none,i0 254,i0 16,cP 255]
abbrev o67:Obj:=fR #[some (.ref 66),some (.ref 3),some (.ref 63),none,some (VS "thirstwise.errors" 213),none,some (.ref 0)]
abbrev o68:Obj:=tU #[]
abbrev o69:Obj:=tB #[]
abbrev o70:Obj:=tU #[VS "self" 264,VS "row" 265]
abbrev o71:Obj:=tU #[]
abbrev o72:Obj:=fB "__init__" "BadRow.__init__" (inClass (top 7) 0)
abbrev o73:Obj:=cO #[VS "__init__" 261,VS "BadRow.__init__" 262,cP 263,i0 18,i0 2,i0 0,i0 0,i0 3,.ref 68,.bool true,i0 181,.ref 69,.none,.ref 70,.ref 71,.ref 72,i0 266,i0 18,cP 267]
abbrev o74:Obj:=fO "__init__" "BadRow.__init__" (inClass (top 7) 0) .none (VS "thirstwise.errors" 213) 73
abbrev o75:Obj:=tU #[VS "row" 269]
noncomputable abbrev o76 (P:Params):Obj:=dO #[dE P "__module__" 256 (VS "thirstwise.errors" 213),dE P "__firstlineno__" 260 (.int 16 259),dE P "__init__" 268 (.ref 74),dE P "__static_attributes__" 270 (.ref 75),dE P "__doc__" 271 .none] 2
noncomputable abbrev o77:Obj:={ cls:=.type "type",data:=.cls { name:=SS "BadRow",bases:=[.ref 45],mro:=[.ref 77,.ref 45,.type "ValueError",.type "Exception",.type "BaseException",.type "object"],ns:=76,qualname:=SS "BadRow" },slots:=#[some (.ref 61),none,some (VS "BadRow" 249),some (VS "BadRow" 257),some (.builtin "ValueError.__new__"),some (.bool true)] }
abbrev o78:Obj:={ cls:=.type "super",data:=.fields #[.ref 77,.ref 77,.ref 77] }
abbrev o79:Obj:={ cls:=.type "builtin_function_or_method",data:=.fields #[.builtin "object.__init_subclass__",.ref 77] }
abbrev o80:Obj:=tU #[.ref 45]
abbrev o81:Obj:={ cls:=.type "builtin_function_or_method",data:=.fields #[.builtin "type.__prepare__",.type "type"] }
noncomputable abbrev o82 (P:Params):Obj:=dO #[dE P "__module__" 281 (VS "thirstwise.errors" 213),dE P "__qualname__" 283 (VS "TooMany" 282),dE P "__firstlineno__" 285 (.int 21 284),dE P "__static_attributes__" 286 (.ref 87)] 4
abbrev o83:Obj:=tU #[]
abbrev o84:Obj:=tB #[]
abbrev o85:Obj:=cO #[VS "TooMany" 276,VS "TooMany" 277,cP 278,i0 21,i0 0,i0 0,i0 0,i0 0,.ref 83,.bool false,i0 181,.ref 84,.none,.none,.none,.none,i0 279,i0 21,cP 280]
abbrev o86:Obj:=fR #[some (.ref 85),some (.ref 3),some (.ref 82),none,some (VS "thirstwise.errors" 213),none,some (.ref 0)]
abbrev o87:Obj:=tU #[]
abbrev o88 (P:Params):Obj:=dO #[dE P "__module__" 281 (VS "thirstwise.errors" 213),dE P "__firstlineno__" 285 (.int 21 284),dE P "__static_attributes__" 286 (.ref 87),dE P "__doc__" 287 .none] 2
noncomputable abbrev o89:Obj:={ cls:=.type "type",data:=.cls { name:=SS "TooMany",bases:=[.ref 45],mro:=[.ref 89,.ref 45,.type "ValueError",.type "Exception",.type "BaseException",.type "object"],ns:=88,qualname:=SS "TooMany" },slots:=#[some (.ref 80),none,some (VS "TooMany" 274),some (VS "TooMany" 282),some (.builtin "ValueError.__new__"),some (.bool true)] }
abbrev o90:Obj:={ cls:=.type "super",data:=.fields #[.ref 89,.ref 89,.ref 89] }
abbrev o91:Obj:={ cls:=.type "builtin_function_or_method",data:=.fields #[.builtin "object.__init_subclass__",.ref 89] }
abbrev o92:Obj:=tU #[.ref 45]
abbrev o93:Obj:={ cls:=.type "builtin_function_or_method",data:=.fields #[.builtin "type.__prepare__",.type "type"] }
noncomputable abbrev o94 (P:Params):Obj:=dO #[dE P "__module__" 297 (VS "thirstwise.errors" 213),dE P "__qualname__" 299 (VS "NoState" 298),dE P "__firstlineno__" 301 (.int 23 300),dE P "__static_attributes__" 302 (.ref 99)] 4
abbrev o95:Obj:=tU #[]
abbrev o96:Obj:=tB #[]
abbrev o97:Obj:=cO #[VS "NoState" 292,VS "NoState" 293,cP 294,i0 23,i0 0,i0 0,i0 0,i0 0,.ref 95,.bool false,i0 181,.ref 96,.none,.none,.none,.none,i0 295,i0 23,cP 296]
abbrev o98:Obj:=fR #[some (.ref 97),some (.ref 3),some (.ref 94),none,some (VS "thirstwise.errors" 213),none,some (.ref 0)]
abbrev o99:Obj:=tU #[]
abbrev o100 (P:Params):Obj:=dO #[dE P "__module__" 297 (VS "thirstwise.errors" 213),dE P "__firstlineno__" 301 (.int 23 300),dE P "__static_attributes__" 302 (.ref 99),dE P "__doc__" 303 .none] 2
noncomputable abbrev Qi:Obj:={ cls:=.type "type",data:=.cls { name:=SS "NoState",bases:=[.ref 45],mro:=[.ref 101,.ref 45,.type "ValueError",.type "Exception",.type "BaseException",.type "object"],ns:=100,qualname:=SS "NoState" },slots:=#[some (.ref 92),none,some (VS "NoState" 290),some (VS "NoState" 298),some (.builtin "ValueError.__new__"),some (.bool true)] }
abbrev Xv:Obj:={ cls:=.type "super",data:=.fields #[.ref 101,.ref 101,.ref 101] }
abbrev Xw:Obj:={ cls:=.type "builtin_function_or_method",data:=.fields #[.builtin "object.__init_subclass__",.ref 101] }
abbrev Qj:Obj:=tU #[.ref 45]
abbrev Xx:Obj:={ cls:=.type "builtin_function_or_method",data:=.fields #[.builtin "type.__prepare__",.type "type"] }
noncomputable abbrev Xy (P:Params):Obj:=dO #[dE P "__module__" 313 (VS "thirstwise.errors" 213),dE P "__qualname__" 315 (VS "NoPot" 314),dE P "__firstlineno__" 317 (.int 25 316),dE P "__static_attributes__" 318 (.ref 111)] 4
abbrev Xz:Obj:=tU #[]
abbrev XD:Obj:=tB #[]
abbrev XF:Obj:=cO #[VS "NoPot" 308,VS "NoPot" 309,cP 310,i0 25,i0 0,i0 0,i0 0,i0 0,.ref 107,.bool false,i0 181,.ref 108,.none,.none,.none,.none,i0 311,i0 25,cP 312]
abbrev XH:Obj:=fR #[some (.ref 109),some (.ref 3),some (.ref 106),none,some (VS "thirstwise.errors" 213),none,some (.ref 0)]
abbrev o111:Obj:=tU #[]
abbrev Qk (P:Params):Obj:=dO #[dE P "__module__" 313 (VS "thirstwise.errors" 213),dE P "__firstlineno__" 317 (.int 25 316),dE P "__static_attributes__" 318 (.ref 111),dE P "__doc__" 319 .none] 2
noncomputable abbrev Ql:Obj:={ cls:=.type "type",data:=.cls { name:=SS "NoPot",bases:=[.ref 45],mro:=[.ref 113,.ref 45,.type "ValueError",.type "Exception",.type "BaseException",.type "object"],ns:=112,qualname:=SS "NoPot" },slots:=#[some (.ref 104),none,some (VS "NoPot" 306),some (VS "NoPot" 314),some (.builtin "ValueError.__new__"),some (.bool true)] }
abbrev XJ:Obj:={ cls:=.type "super",data:=.fields #[.ref 113,.ref 113,.ref 113] }
abbrev XM:Obj:={ cls:=.type "builtin_function_or_method",data:=.fields #[.builtin "object.__init_subclass__",.ref 113] }
abbrev Qm:Obj:=tU #[.ref 45]
abbrev XQ:Obj:={ cls:=.type "builtin_function_or_method",data:=.fields #[.builtin "type.__prepare__",.type "type"] }
noncomputable abbrev XR (P:Params):Obj:=dO #[dE P "__module__" 329 (VS "thirstwise.errors" 213),dE P "__qualname__" 331 (VS "BadDay" 330),dE P "__firstlineno__" 333 (.int 27 332),dE P "__init__" 341 (.ref 129),dE P "__static_attributes__" 343 (.ref 130)] 5
abbrev XS:Obj:=tU #[]
abbrev X3:Obj:=tB #[i0 29,i0 4,.ref 128]
abbrev X4:Obj:=cO #[VS "BadDay" 324,VS "BadDay" 325,cP 326,i0 27,i0 0,i0 0,i0 0,i0 0,.ref 119,.bool false,i0 181,.ref 120,.none,.none,.none,.none,i0 327,i0 27,cP 328]
abbrev X5:Obj:=fR #[some (.ref 121),some (.ref 3),some (.ref 118),none,some (VS "thirstwise.errors" 213),none,some (.ref 0)]
abbrev Qo:Obj:=tU #[]
abbrev X6:Obj:=tB #[]
abbrev Qp:Obj:=tU #[VS "self" 337,VS "day" 338]
abbrev Qq:Obj:=tU #[]
abbrev X7:Obj:=fB "__init__" "BadDay.__init__" (inClass (top 11) 0)
abbrev Qs:Obj:=cO #[VS "__init__" 334,VS "BadDay.__init__" 335,cP 336,i0 29,i0 2,i0 0,i0 0,i0 3,.ref 123,.bool true,i0 181,.ref 124,.none,.ref 125,.ref 126,.ref 127,i0 339,i0 29,cP 340]
abbrev Qt:Obj:=fO "__init__" "BadDay.__init__" (inClass (top 11) 0) .none (VS "thirstwise.errors" 213) 128
abbrev Qw:Obj:=tU #[VS "day" 342]
noncomputable abbrev Qx (P:Params):Obj:=dO #[dE P "__module__" 329 (VS "thirstwise.errors" 213),dE P "__firstlineno__" 333 (.int 27 332),dE P "__init__" 341 (.ref 129),dE P "__static_attributes__" 343 (.ref 130),dE P "__doc__" 344 .none] 2
noncomputable abbrev Qy:Obj:={ cls:=.type "type",data:=.cls { name:=SS "BadDay",bases:=[.ref 45],mro:=[.ref 132,.ref 45,.type "ValueError",.type "Exception",.type "BaseException",.type "object"],ns:=131,qualname:=SS "BadDay" },slots:=#[some (.ref 116),none,some (VS "BadDay" 322),some (VS "BadDay" 330),some (.builtin "ValueError.__new__"),some (.bool true)] }
abbrev X8:Obj:={ cls:=.type "super",data:=.fields #[.ref 132,.ref 132,.ref 132] }
abbrev Yb:Obj:={ cls:=.type "builtin_function_or_method",data:=.fields #[.builtin "object.__init_subclass__",.ref 132] }
abbrev Qz:Obj:=tU #[]
abbrev Yc:Obj:=tB #[]
abbrev Yd:Obj:=fB "is_name" "is_name" (top 15)
abbrev QB:Obj:=cO #[VS "is_name" 353,VS "is_name" 354,cP 355,i0 35,i0 1,i0 0,i0 0,i0 3,.ref 135,.bool true,i0 181,.ref 136,.none,.none,.none,.ref 137,i0 356,i0 35,cP 357]
abbrev QC:Obj:=fO "is_name" "is_name" (top 15) .none (VS "thirstwise.pots" 347) 138
abbrev Ye:Obj:=tU #[]
abbrev Yg:Obj:={ cls:=.type "builtin_function_or_method",data:=.fields #[.builtin "type.__prepare__",.type "type"] }
noncomputable abbrev Yh (P:Params):Obj:=dO #[dE P "__module__" 366 (VS "thirstwise.pots" 347),dE P "__qualname__" 368 (VS "Pot" 367),dE P "__firstlineno__" 370 (.int 39 369),dE P "__init__" 379 (.ref 153),dE P "may" 387 (.ref 160),dE P "words" 394 (.ref 167),dE P "with_gap" 402 (.ref 174),dE P "shortest" 409 (.ref 181),dE P "__static_attributes__" 412 (.ref 182)] 9
abbrev Yi:Obj:=tU #[]
abbrev Yj:Obj:=tB #[i0 41,i0 4,.ref 152,i0 49,i0 4,.ref 159,i0 52,i0 4,.ref 166,i0 55,i0 4,.ref 173,i0 58,i0 4,.ref 180]
abbrev Yk:Obj:=cO #[VS "Pot" 361,VS "Pot" 362,cP 363,i0 39,i0 0,i0 0,i0 0,i0 0,.ref 143,.bool false,i0 181,.ref 144,.none,.none,.none,.none,i0 364,i0 39,cP 365]
abbrev Yl:Obj:=fR #[some (.ref 145),some (.ref 3),some (.ref 142),none,some (VS "thirstwise.pots" 347),none,some (.ref 0)]
abbrev QD:Obj:=tU #[]
abbrev Ym:Obj:=tB #[]
abbrev QF:Obj:=tU #[VS "self" 374,VS "name" 375,VS "gap" 376]
abbrev QG:Obj:=tU #[]
abbrev Yn:Obj:=fB "__init__" "Pot.__init__" (inClass (top 16) 0)
abbrev QH:Obj:=cO #[VS "__init__" 371,VS "Pot.__init__" 372,cP 373,i0 41,i0 3,i0 0,i0 0,i0 3,.ref 147,.bool true,i0 181,.ref 148,.none,.ref 149,.ref 150,.ref 151,i0 377,i0 41,cP 378]
abbrev QJ:Obj:=fO "__init__" "Pot.__init__" (inClass (top 16) 0) .none (VS "thirstwise.pots" 347) 152
abbrev QK:Obj:=tU #[]
abbrev Yo:Obj:=tB #[]
abbrev QL:Obj:=tU #[VS "self" 383,VS "since" 384]
abbrev QM:Obj:=tU #[]
abbrev Yp:Obj:=fB "may" "Pot.may" (inClass (top 16) 1)
abbrev QS:Obj:=cO #[VS "may" 380,VS "Pot.may" 381,cP 382,i0 49,i0 2,i0 0,i0 0,i0 3,.ref 154,.bool true,i0 181,.ref 155,.none,.ref 156,.ref 157,.ref 158,i0 385,i0 49,cP 386]
abbrev QT:Obj:=fO "may" "Pot.may" (inClass (top 16) 1) .none (VS "thirstwise.pots" 347) 159
abbrev QV:Obj:=tU #[]
abbrev Yq:Obj:=tB #[]
abbrev QW:Obj:=tU #[VS "self" 391]
abbrev QX:Obj:=tU #[]
abbrev Yr:Obj:=fB "words" "Pot.words" (inClass (top 16) 2)
abbrev QZ:Obj:=cO #[VS "words" 388,VS "Pot.words" 389,cP 390,i0 52,i0 1,i0 0,i0 0,i0 3,.ref 161,.bool true,i0 181,.ref 162,.none,.ref 163,.ref 164,.ref 165,i0 392,i0 52,cP 393]
abbrev Ys:Obj:=fO "words" "Pot.words" (inClass (top 16) 2) .none (VS "thirstwise.pots" 347) 166
abbrev Q0:Obj:=tU #[]
abbrev Yt:Obj:=tB #[]
abbrev Q5:Obj:=tU #[VS "self" 398,VS "gap" 399]
abbrev Q6:Obj:=tU #[]
abbrev Yu:Obj:=fB "with_gap" "Pot.with_gap" (inClass (top 16) 3)
abbrev Q7:Obj:=cO #[VS "with_gap" 395,VS "Pot.with_gap" 396,cP 397,i0 55,i0 2,i0 0,i0 0,i0 3,.ref 168,.bool true,i0 181,.ref 169,.none,.ref 170,.ref 171,.ref 172,i0 400,i0 55,cP 401]
abbrev Q8:Obj:=fO "with_gap" "Pot.with_gap" (inClass (top 16) 3) .none (VS "thirstwise.pots" 347) 173
abbrev Q9:Obj:=tU #[]
abbrev Yv:Obj:=tB #[]
abbrev Ra:Obj:=tU #[VS "self" 406]
abbrev Rb:Obj:=tU #[]
abbrev Yw:Obj:=fB "shortest" "Pot.shortest" (inClass (top 16) 4)
abbrev Rc:Obj:=cO #[VS "shortest" 403,VS "Pot.shortest" 404,cP 405,i0 58,i0 1,i0 0,i0 0,i0 3,.ref 175,.bool true,i0 181,.ref 176,.none,.ref 177,.ref 178,.ref 179,i0 407,i0 58,cP 408]
abbrev Yx:Obj:=fO "shortest" "Pot.shortest" (inClass (top 16) 4) .none (VS "thirstwise.pots" 347) 180
abbrev Rf:Obj:=tU #[VS "gap" 410,VS "name" 411]
noncomputable abbrev Rg (P:Params):Obj:=dO #[dE P "__module__" 366 (VS "thirstwise.pots" 347),dE P "__firstlineno__" 370 (.int 39 369),dE P "__init__" 379 (.ref 153),dE P "may" 387 (.ref 160),dE P "words" 394 (.ref 167),dE P "with_gap" 402 (.ref 174),dE P "shortest" 409 (.ref 181),dE P "__static_attributes__" 412 (.ref 182),dE P "__dict__" 414 (.ref 185),dE P "__weakref__" 416 (.ref 186),dE P "__doc__" 417 .none] 4
noncomputable abbrev aq7:Obj:={ cls:=.type "type",data:=.cls { name:=SS "Pot",bases:=[.type "object"],mro:=[.ref 184,.type "object"],ns:=183,qualname:=SS "Pot" },slots:=#[none,none,some (VS "Pot" 359),some (VS "Pot" 367),some (.builtin "object.__new__"),some (.bool true)] }
noncomputable abbrev Ec:Obj:={ cls:=.type "type",data:=.cls { name:=SS "Pot",bases:=[.type "object"],mro:=[.ref 184,.type "object"],ns:=183,qualname:=SS "Pot",subclasses:=[.ref 233] },slots:=#[none,none,some (VS "Pot" 359),some (VS "Pot" 367),some (.builtin "object.__new__"),some (.bool true)] }
abbrev Rh:Obj:={ cls:=.type "getset_descriptor",data:=.fields #[VS "__dict__" 413,.ref 184,.builtin "function.__dict__",.builtin "function.__dict__#set"] }
abbrev Ri:Obj:={ cls:=.type "getset_descriptor",data:=.fields #[VS "__weakref__" 415,.ref 184,.builtin "ExceptionGroup.__weakref__",.none] }
abbrev Yy:Obj:={ cls:=.type "super",data:=.fields #[.ref 184,.ref 184,.ref 184] }
abbrev Yz:Obj:={ cls:=.type "builtin_function_or_method",data:=.fields #[.builtin "object.__init_subclass__",.ref 184] }
abbrev YB:Obj:=tU #[.ref 184]
abbrev agU:Obj:={ cls:=.type "builtin_function_or_method",data:=.fields #[.builtin "type.__prepare__",.type "type"] }
noncomputable abbrev agV (P:Params):Obj:=dO #[dE P "__module__" 427 (VS "thirstwise.pots" 347),dE P "__qualname__" 429 (VS "Cactus" 428),dE P "__firstlineno__" 431 (.int 60 430),dE P "__init__" 441 (.ref 202),dE P "may" 449 (.ref 209),dE P "words" 456 (.ref 216),dE P "with_gap" 464 (.ref 223),dE P "shortest" 471 (.ref 230),dE P "__static_attributes__" 473 (.ref 231)] 9
abbrev agW:Obj:=tU #[]
abbrev agX:Obj:=tB #[i0 62,i0 4,.ref 201,i0 68,i0 4,.ref 208,i0 71,i0 4,.ref 215,i0 74,i0 4,.ref 222,i0 77,i0 4,.ref 229]
abbrev agY:Obj:=cO #[VS "Cactus" 422,VS "Cactus" 423,cP 424,i0 60,i0 0,i0 0,i0 0,i0 0,.ref 192,.bool false,i0 181,.ref 193,.none,.none,.none,.none,i0 425,i0 60,cP 426]
abbrev agZ:Obj:=fR #[some (.ref 194),some (.ref 3),some (.ref 191),none,some (VS "thirstwise.pots" 347),none,some (.ref 0)]
abbrev YC:Obj:=tU #[]
abbrev ag0:Obj:=tB #[]
abbrev YD:Obj:=tU #[VS "self" 435,VS "name" 436,VS "gap" 437,VS "rest" 438]
abbrev YF:Obj:=tU #[]
abbrev o200:Obj:=fB "__init__" "Cactus.__init__" (inClass (top 17) 0)
abbrev YG:Obj:=cO #[VS "__init__" 432,VS "Cactus.__init__" 433,cP 434,i0 62,i0 4,i0 0,i0 0,i0 3,.ref 196,.bool true,i0 181,.ref 197,.none,.ref 198,.ref 199,.ref 200,i0 439,i0 62,cP 440]
abbrev YH:Obj:=fO "__init__" "Cactus.__init__" (inClass (top 17) 0) .none (VS "thirstwise.pots" 347) 201
abbrev YJ:Obj:=tU #[]
abbrev ag1:Obj:=tB #[]
abbrev YK:Obj:=tU #[VS "self" 445,VS "since" 446]
abbrev YL:Obj:=tU #[]
abbrev ag2:Obj:=fB "may" "Cactus.may" (inClass (top 17) 1)
abbrev YM:Obj:=cO #[VS "may" 442,VS "Cactus.may" 443,cP 444,i0 68,i0 2,i0 0,i0 0,i0 3,.ref 203,.bool true,i0 181,.ref 204,.none,.ref 205,.ref 206,.ref 207,i0 447,i0 68,cP 448]
abbrev YQ:Obj:=fO "may" "Cactus.may" (inClass (top 17) 1) .none (VS "thirstwise.pots" 347) 208
abbrev YS:Obj:=tU #[]
abbrev ag3:Obj:=tB #[]
abbrev YT:Obj:=tU #[VS "self" 453]
abbrev YW:Obj:=tU #[]
abbrev ag4:Obj:=fB "words" "Cactus.words" (inClass (top 17) 2)
abbrev YX:Obj:=cO #[VS "words" 450,VS "Cactus.words" 451,cP 452,i0 71,i0 1,i0 0,i0 0,i0 3,.ref 210,.bool true,i0 181,.ref 211,.none,.ref 212,.ref 213,.ref 214,i0 454,i0 71,cP 455]
abbrev ag5:Obj:=fO "words" "Cactus.words" (inClass (top 17) 2) .none (VS "thirstwise.pots" 347) 215
abbrev YZ:Obj:=tU #[]
abbrev ag6:Obj:=tB #[]
abbrev Y4:Obj:=tU #[VS "self" 460,VS "gap" 461]
abbrev Y5:Obj:=tU #[]
abbrev ag7:Obj:=fB "with_gap" "Cactus.with_gap" (inClass (top 17) 3)
abbrev Y6:Obj:=cO #[VS "with_gap" 457,VS "Cactus.with_gap" 458,cP 459,i0 74,i0 2,i0 0,i0 0,i0 3,.ref 217,.bool true,i0 181,.ref 218,.none,.ref 219,.ref 220,.ref 221,i0 462,i0 74,cP 463]
abbrev Y7:Obj:=fO "with_gap" "Cactus.with_gap" (inClass (top 17) 3) .none (VS "thirstwise.pots" 347) 222
abbrev Y8:Obj:=tU #[]
abbrev ag8:Obj:=tB #[]
abbrev Y9:Obj:=tU #[VS "self" 468]
abbrev Za:Obj:=tU #[]
abbrev ag9:Obj:=fB "shortest" "Cactus.shortest" (inClass (top 17) 4)
abbrev Zb:Obj:=cO #[VS "shortest" 465,VS "Cactus.shortest" 466,cP 467,i0 77,i0 1,i0 0,i0 0,i0 3,.ref 224,.bool true,i0 181,.ref 225,.none,.ref 226,.ref 227,.ref 228,i0 469,i0 77,cP 470]
abbrev aha:Obj:=fO "shortest" "Cactus.shortest" (inClass (top 17) 4) .none (VS "thirstwise.pots" 347) 229
abbrev Zc:Obj:=tU #[VS "rest" 472]
noncomputable abbrev Zd (P:Params):Obj:=dO #[dE P "__module__" 427 (VS "thirstwise.pots" 347),dE P "__firstlineno__" 431 (.int 60 430),dE P "__init__" 441 (.ref 202),dE P "may" 449 (.ref 209),dE P "words" 456 (.ref 216),dE P "with_gap" 464 (.ref 223),dE P "shortest" 471 (.ref 230),dE P "__static_attributes__" 473 (.ref 231),dE P "__doc__" 474 .none] 2
noncomputable abbrev Ze:Obj:={ cls:=.type "type",data:=.cls { name:=SS "Cactus",bases:=[.ref 184],mro:=[.ref 233,.ref 184,.type "object"],ns:=232,qualname:=SS "Cactus" },slots:=#[some (.ref 189),none,some (VS "Cactus" 420),some (VS "Cactus" 428),some (.builtin "object.__new__"),some (.bool true)] }
abbrev ahb:Obj:={ cls:=.type "super",data:=.fields #[.ref 233,.ref 233,.ref 233] }
abbrev ahc:Obj:={ cls:=.type "builtin_function_or_method",data:=.fields #[.builtin "object.__init_subclass__",.ref 233] }
abbrev Zf:Obj:=tU #[]
abbrev ahd:Obj:=tB #[]
abbrev ahe:Obj:=fB "own_pots" "own_pots" (top 23)
abbrev Zg:Obj:=cO #[VS "own_pots" 487,VS "own_pots" 488,cP 489,i0 84,i0 1,i0 0,i0 0,i0 3,.ref 236,.bool true,i0 181,.ref 237,.none,.none,.none,.ref 238,i0 490,i0 84,cP 491]
abbrev Zi:Obj:=fO "own_pots" "own_pots" (top 23) .none (VS "thirstwise.gardens" 477) 239
abbrev Zj:Obj:=tU #[]
abbrev ahf:Obj:=tB #[]
abbrev Zk:Obj:=tU #[VS "pots" 496,VS "cans" 497,VS "week" 498,VS "closed" 499]
abbrev Zm:Obj:=tU #[]
abbrev ahg:Obj:=fB "refuse_bad_counts" "refuse_bad_counts" (top 24)
abbrev Zn:Obj:=cO #[VS "refuse_bad_counts" 493,VS "refuse_bad_counts" 494,cP 495,i0 91,i0 4,i0 0,i0 0,i0 3,.ref 241,.bool true,i0 181,.ref 242,.none,.ref 243,.ref 244,.ref 245,i0 500,i0 91,cP 501]
abbrev Zo:Obj:=fO "refuse_bad_counts" "refuse_bad_counts" (top 24) .none (VS "thirstwise.gardens" 477) 246
abbrev Zq:Obj:=tU #[]
abbrev ahh:Obj:=tB #[]
abbrev ahi:Obj:=fB "refuse_name_twice" "refuse_name_twice" (top 25)
abbrev Zr:Obj:=cO #[VS "refuse_name_twice" 503,VS "refuse_name_twice" 504,cP 505,i0 100,i0 1,i0 0,i0 0,i0 3,.ref 248,.bool true,i0 181,.ref 249,.none,.none,.none,.ref 250,i0 506,i0 100,cP 507]
abbrev Zu:Obj:=fO "refuse_name_twice" "refuse_name_twice" (top 25) .none (VS "thirstwise.gardens" 477) 251
abbrev Zv:Obj:=tU #[]
abbrev ahj:Obj:=tB #[]
abbrev ahk:Obj:=fB "is_state" "is_state" (top 26)
abbrev Zw:Obj:=cO #[VS "is_state" 509,VS "is_state" 510,cP 511,i0 103,i0 2,i0 0,i0 0,i0 3,.ref 253,.bool true,i0 181,.ref 254,.none,.none,.none,.ref 255,i0 512,i0 103,cP 513]
abbrev Zx:Obj:=fO "is_state" "is_state" (top 26) .none (VS "thirstwise.gardens" 477) 256
abbrev Zy:Obj:=tU #[]
abbrev ahl:Obj:=tB #[]
abbrev ZC:Obj:=tU #[VS "garden" 518,VS "value" 519]
abbrev ZD:Obj:=tU #[]
abbrev ahm:Obj:=fB "refuse_no_state" "refuse_no_state" (top 27)
abbrev ZF:Obj:=cO #[VS "refuse_no_state" 515,VS "refuse_no_state" 516,cP 517,i0 113,i0 2,i0 0,i0 0,i0 3,.ref 258,.bool true,i0 181,.ref 259,.none,.ref 260,.ref 261,.ref 262,i0 520,i0 113,cP 521]
abbrev ZG:Obj:=fO "refuse_no_state" "refuse_no_state" (top 27) .none (VS "thirstwise.gardens" 477) 263
abbrev ahn:Obj:=tU #[]
abbrev aho:Obj:={ cls:=.type "builtin_function_or_method",data:=.fields #[.builtin "type.__prepare__",.type "type"] }
noncomputable abbrev ahp (P:Params):Obj:=dO #[dE P "__module__" 530 (VS "thirstwise.gardens" 477),dE P "__qualname__" 532 (VS "Garden" 531),dE P "__firstlineno__" 534 (.int 116 533),dE P "__init__" 549 (.ref 279),dE P "size" 558 (.ref 286),dE P "number" 569 (.ref 293),dE P "state" 580 (.ref 300),dE P "fresh" 586 (.ref 305),dE P "__static_attributes__" 591 (.ref 306)] 9
abbrev ahq:Obj:=tU #[]
abbrev ahr:Obj:=tB #[i0 118,i0 4,.ref 278,i0 129,i0 4,.ref 285,i0 135,i0 4,.ref 292,i0 142,i0 4,.ref 299,i0 152,i0 4,.ref 304]
abbrev ahs:Obj:=cO #[VS "Garden" 525,VS "Garden" 526,cP 527,i0 116,i0 0,i0 0,i0 0,i0 0,.ref 268,.bool false,i0 181,.ref 269,.none,.none,.none,.none,i0 528,i0 116,cP 529]
abbrev aht:Obj:=fR #[some (.ref 270),some (.ref 3),some (.ref 267),none,some (VS "thirstwise.gardens" 477),none,some (.ref 0)]
abbrev ZJ:Obj:=tU #[.int 1 535,.int 1 536,.int 0 537]
abbrev ZK:Obj:=tU #[]
abbrev ahu:Obj:=tB #[]
abbrev ZL:Obj:=tU #[VS "self" 541,VS "pots" 542,VS "cans" 543,VS "week" 544,VS "closed" 545,VS "copies" 546]
abbrev ZM:Obj:=tU #[]
abbrev ahv:Obj:=fB "__init__" "Garden.__init__" (inClass (top 28) 0)
abbrev ZP:Obj:=cO #[VS "__init__" 538,VS "Garden.__init__" 539,cP 540,i0 118,i0 5,i0 0,i0 0,i0 3,.ref 273,.bool true,i0 181,.ref 274,.none,.ref 275,.ref 276,.ref 277,i0 547,i0 118,cP 548]
abbrev ZQ:Obj:=fO "__init__" "Garden.__init__" (inClass (top 28) 0) (.ref 272) (VS "thirstwise.gardens" 477) 278
abbrev ZR:Obj:=tU #[]
abbrev ahw:Obj:=tB #[]
abbrev ZS:Obj:=tU #[VS "self" 553,VS "states" 554,VS "pot" 555]
abbrev ZV:Obj:=tU #[]
abbrev ahx:Obj:=fB "size" "Garden.size" (inClass (top 28) 1)
abbrev ZW:Obj:=cO #[VS "size" 550,VS "Garden.size" 551,cP 552,i0 129,i0 1,i0 0,i0 0,i0 3,.ref 280,.bool true,i0 181,.ref 281,.none,.ref 282,.ref 283,.ref 284,i0 556,i0 129,cP 557]
abbrev ZX:Obj:=fO "size" "Garden.size" (inClass (top 28) 1) .none (VS "thirstwise.gardens" 477) 285
abbrev Z0:Obj:=tU #[]
abbrev ahy:Obj:=tB #[]
abbrev Z4:Obj:=tU #[VS "self" 562,VS "state" 563,VS "count" 564,VS "days" 565,VS "pot" 566]
abbrev Z5:Obj:=tU #[]
abbrev ahz:Obj:=fB "number" "Garden.number" (inClass (top 28) 2)
abbrev Z6:Obj:=cO #[VS "number" 559,VS "Garden.number" 560,cP 561,i0 135,i0 2,i0 0,i0 0,i0 3,.ref 287,.bool true,i0 181,.ref 288,.none,.ref 289,.ref 290,.ref 291,i0 567,i0 135,cP 568]
abbrev Z7:Obj:=fO "number" "Garden.number" (inClass (top 28) 2) .none (VS "thirstwise.gardens" 477) 292
abbrev Z8:Obj:=tU #[]
abbrev ahA:Obj:=tB #[]
abbrev Z9:Obj:=tU #[VS "self" 573,VS "number" 574,VS "left" 575,VS "since" 576,VS "pot" 577]
abbrev aac:Obj:=tU #[]
abbrev ahB:Obj:=fB "state" "Garden.state" (inClass (top 28) 3)
abbrev aad:Obj:=cO #[VS "state" 570,VS "Garden.state" 571,cP 572,i0 142,i0 2,i0 0,i0 0,i0 3,.ref 294,.bool true,i0 181,.ref 295,.none,.ref 296,.ref 297,.ref 298,i0 578,i0 142,cP 579]
abbrev o300:Obj:=fO "state" "Garden.state" (inClass (top 28) 3) .none (VS "thirstwise.gardens" 477) 299
abbrev aae:Obj:=tU #[]
abbrev ahC:Obj:=tB #[]
abbrev ahD:Obj:=fB "fresh" "Garden.fresh" (inClass (top 28) 4)
abbrev aaf:Obj:=cO #[VS "fresh" 581,VS "Garden.fresh" 582,cP 583,i0 152,i0 1,i0 0,i0 0,i0 3,.ref 301,.bool true,i0 181,.ref 302,.none,.none,.none,.ref 303,i0 584,i0 152,cP 585]
abbrev aag:Obj:=fO "fresh" "Garden.fresh" (inClass (top 28) 4) .none (VS "thirstwise.gardens" 477) 304
abbrev aah:Obj:=tU #[VS "cans" 587,VS "closed" 588,VS "pots" 589,VS "week" 590]
noncomputable abbrev aai (P:Params):Obj:=dO #[dE P "__module__" 530 (VS "thirstwise.gardens" 477),dE P "__firstlineno__" 534 (.int 116 533),dE P "__init__" 549 (.ref 279),dE P "size" 558 (.ref 286),dE P "number" 569 (.ref 293),dE P "state" 580 (.ref 300),dE P "fresh" 586 (.ref 305),dE P "__static_attributes__" 591 (.ref 306),dE P "__dict__" 593 (.ref 309),dE P "__weakref__" 595 (.ref 310),dE P "__doc__" 596 .none] 4
noncomputable abbrev aaj:Obj:={ cls:=.type "type",data:=.cls { name:=SS "Garden",bases:=[.type "object"],mro:=[.ref 308,.type "object"],ns:=307,qualname:=SS "Garden" },slots:=#[none,none,some (VS "Garden" 523),some (VS "Garden" 531),some (.builtin "object.__new__"),some (.bool true)] }
abbrev aak:Obj:={ cls:=.type "getset_descriptor",data:=.fields #[VS "__dict__" 592,.ref 308,.builtin "function.__dict__",.builtin "function.__dict__#set"] }
abbrev aal:Obj:={ cls:=.type "getset_descriptor",data:=.fields #[VS "__weakref__" 594,.ref 308,.builtin "ExceptionGroup.__weakref__",.none] }
abbrev ahE:Obj:={ cls:=.type "super",data:=.fields #[.ref 308,.ref 308,.ref 308] }
abbrev ahF:Obj:={ cls:=.type "builtin_function_or_method",data:=.fields #[.builtin "object.__init_subclass__",.ref 308] }
abbrev aam:Obj:=tU #[]
abbrev ahG:Obj:=tB #[]
abbrev ahH:Obj:=fB "place_of" "place_of" (top 29)
abbrev aan:Obj:=cO #[VS "place_of" 599,VS "place_of" 600,cP 601,i0 154,i0 2,i0 0,i0 0,i0 3,.ref 313,.bool true,i0 181,.ref 314,.none,.none,.none,.ref 315,i0 602,i0 154,cP 603]
abbrev aao:Obj:=fO "place_of" "place_of" (top 29) .none (VS "thirstwise.gardens" 477) 316
abbrev aap:Obj:=tU #[]
abbrev ahI:Obj:=tB #[]
abbrev aaq:Obj:=tU #[VS "garden" 610,VS "day" 611]
abbrev aar:Obj:=tU #[]
abbrev ahJ:Obj:=fB "cans_on" "cans_on" (top 31)
abbrev aas:Obj:=cO #[VS "cans_on" 607,VS "cans_on" 608,cP 609,i0 160,i0 2,i0 0,i0 0,i0 3,.ref 318,.bool true,i0 181,.ref 319,.none,.ref 320,.ref 321,.ref 322,i0 612,i0 160,cP 613]
abbrev aat:Obj:=fO "cans_on" "cans_on" (top 31) .none (VS "thirstwise.choices" 605) 323
abbrev aau:Obj:=tU #[]
abbrev ahK:Obj:=tB #[]
abbrev aav:Obj:=tU #[VS "garden" 618,VS "day" 619]
abbrev aaw:Obj:=tU #[]
abbrev ahL:Obj:=fB "day_behind" "day_behind" (top 32)
abbrev aax:Obj:=cO #[VS "day_behind" 615,VS "day_behind" 616,cP 617,i0 162,i0 2,i0 0,i0 0,i0 3,.ref 325,.bool true,i0 181,.ref 326,.none,.ref 327,.ref 328,.ref 329,i0 620,i0 162,cP 621]
abbrev aay:Obj:=fO "day_behind" "day_behind" (top 32) .none (VS "thirstwise.choices" 605) 330
abbrev aaz:Obj:=tU #[]
abbrev ahM:Obj:=tB #[]
abbrev ahN:Obj:=fB "refuse_bad_day" "refuse_bad_day" (top 34)
abbrev aaA:Obj:=cO #[VS "refuse_bad_day" 625,VS "refuse_bad_day" 626,cP 627,i0 165,i0 4,i0 0,i0 0,i0 3,.ref 332,.bool true,i0 181,.ref 333,.none,.none,.none,.ref 334,i0 628,i0 165,cP 629]
abbrev aaB:Obj:=fO "refuse_bad_day" "refuse_bad_day" (top 34) .none (VS "thirstwise.plans" 623) 335
abbrev aaC:Obj:=tU #[]
abbrev ahO:Obj:=tB #[]
abbrev ahP:Obj:=fB "since_behind" "since_behind" (top 35)
abbrev aaD:Obj:=cO #[VS "since_behind" 631,VS "since_behind" 632,cP 633,i0 172,i0 2,i0 0,i0 0,i0 3,.ref 337,.bool true,i0 181,.ref 338,.none,.none,.none,.ref 339,i0 634,i0 172,cP 635]
abbrev aaE:Obj:=fO "since_behind" "since_behind" (top 35) .none (VS "thirstwise.plans" 623) 340
abbrev aaF:Obj:=tU #[]
abbrev ahQ:Obj:=tB #[]
abbrev ahR:Obj:=fB "dry_names" "dry_names" (top 36)
abbrev aaG:Obj:=cO #[VS "dry_names" 637,VS "dry_names" 638,cP 639,i0 174,i0 2,i0 0,i0 0,i0 3,.ref 342,.bool true,i0 181,.ref 343,.none,.none,.none,.ref 344,i0 640,i0 174,cP 641]
abbrev aaH:Obj:=fO "dry_names" "dry_names" (top 36) .none (VS "thirstwise.plans" 623) 345
abbrev aaI:Obj:=tU #[.int 0 643]
abbrev aaJ:Obj:=tU #[]
abbrev ahS:Obj:=tB #[]
abbrev ahT:Obj:=fB "followed" "followed" (top 37)
abbrev aaK:Obj:=cO #[VS "followed" 644,VS "followed" 645,cP 646,i0 176,i0 4,i0 0,i0 0,i0 3,.ref 348,.bool true,i0 181,.ref 349,.none,.none,.none,.ref 350,i0 647,i0 176,cP 648]
abbrev aaL:Obj:=fO "followed" "followed" (top 37) (.ref 347) (VS "thirstwise.plans" 623) 351
abbrev aaM:Obj:=tU #[]
abbrev ahU:Obj:=tB #[]
abbrev aaN:Obj:=tU #[VS "garden" 653,VS "rows" 654]
abbrev aaO:Obj:=tU #[]
abbrev ahV:Obj:=fB "kept" "kept" (top 38)
abbrev aaP:Obj:=cO #[VS "kept" 650,VS "kept" 651,cP 652,i0 188,i0 2,i0 0,i0 0,i0 3,.ref 353,.bool true,i0 181,.ref 354,.none,.ref 355,.ref 356,.ref 357,i0 655,i0 188,cP 656]
abbrev aaQ:Obj:=fO "kept" "kept" (top 38) .none (VS "thirstwise.plans" 623) 358
abbrev aaR:Obj:=tU #[]
abbrev ahW:Obj:=tB #[]
abbrev aaS:Obj:=tU #[VS "_law_script" 663,VS "_law_k" 664]
abbrev aaT:Obj:=tU #[]
abbrev ahX:Obj:=fB "_law_cell_at" "_law_cell_at" (top 40)
abbrev aaU:Obj:=cO #[VS "_law_cell_at" 660,VS "_law_cell_at" 661,cP 662,i0 191,i0 2,i0 0,i0 0,i0 3,.ref 360,.bool true,i0 181,.ref 361,.none,.ref 362,.ref 363,.ref 364,i0 665,i0 191,cP 666]
abbrev aaV:Obj:=fO "_law_cell_at" "_law_cell_at" (top 40) .none (VS "law_thirstwise_k06_plans_followed" 658) 365
abbrev aaW:Obj:=tU #[]
abbrev ahY:Obj:=tB #[]
abbrev aaX:Obj:=tU #[VS "_law_cell" 671,VS "_law_k" 672,VS "_law_many" 673,VS "_law_primes" 674,VS "_law_blend" 675]
abbrev aaY:Obj:=tU #[]
abbrev ahZ:Obj:=fB "_law_draw" "_law_draw" (top 41)
abbrev aaZ:Obj:=cO #[VS "_law_draw" 668,VS "_law_draw" 669,cP 670,i0 195,i0 3,i0 0,i0 0,i0 3,.ref 367,.bool true,i0 181,.ref 368,.none,.ref 369,.ref 370,.ref 371,i0 676,i0 195,cP 677]
abbrev aa0:Obj:=fO "_law_draw" "_law_draw" (top 41) .none (VS "law_thirstwise_k06_plans_followed" 658) 372
abbrev aa1:Obj:=tU #[]
abbrev ah0:Obj:=tB #[]
noncomputable abbrev aa2:Obj:=tU #[VS "_law_script" 682,VS "_law_first" 683,VS "_law_cell" 684,VS "_law_other" 685,VS "_law_third" 686,VS "_law_count" 687,VS "_law_most" 688,VS "_law_names" 689,VS "_law_pots" 690,VS "_law_k" 691,VS "_law_gap" 692,VS "_law_rest" 693,VS "_law_week" 694,VS "_law_closed" 695]
abbrev o377:Obj:=tU #[]
abbrev ah1:Obj:=fB "_law_spec" "_law_spec" (top 42)
abbrev aa3:Obj:=cO #[VS "_law_spec" 679,VS "_law_spec" 680,cP 681,i0 199,i0 2,i0 0,i0 0,i0 3,.ref 374,.bool true,i0 181,.ref 375,.none,.ref 376,.ref 377,.ref 378,i0 696,i0 199,cP 697]
abbrev aa4:Obj:=fO "_law_spec" "_law_spec" (top 42) .none (VS "law_thirstwise_k06_plans_followed" 658) 379
abbrev aa5:Obj:=tU #[]
abbrev ah2:Obj:=tB #[]
abbrev aa6:Obj:=tU #[VS "_law_spec_here" 702,VS "_law_pots" 703,VS "_law_name" 704,VS "_law_gap" 705,VS "_law_rest" 706]
abbrev aa7:Obj:=tU #[]
abbrev ah3:Obj:=fB "_law_garden" "_law_garden" (top 43)
abbrev aa8:Obj:=cO #[VS "_law_garden" 699,VS "_law_garden" 700,cP 701,i0 227,i0 1,i0 0,i0 0,i0 3,.ref 381,.bool true,i0 181,.ref 382,.none,.ref 383,.ref 384,.ref 385,i0 707,i0 227,cP 708]
abbrev aa9:Obj:=fO "_law_garden" "_law_garden" (top 43) .none (VS "law_thirstwise_k06_plans_followed" 658) 386
abbrev abb:Obj:=tU #[]
abbrev ah4:Obj:=tB #[]
noncomputable abbrev abd:Obj:=tU #[VS "_law_spec_here" 713,VS "_law_state" 714,VS "_law_wet" 715,VS "_law_pots" 716,VS "_law_cans" 717,VS "_law_week" 718,VS "_law_closed" 719,VS "_law_day" 720,VS "_law_since" 721,VS "_law_k" 722,VS "_law_found" 723,VS "_law_far" 724]
abbrev abe:Obj:=tU #[]
abbrev ah5:Obj:=fB "_law_behind" "_law_behind" (top 44)
abbrev abf:Obj:=cO #[VS "_law_behind" 710,VS "_law_behind" 711,cP 712,i0 235,i0 3,i0 0,i0 0,i0 3,.ref 388,.bool true,i0 181,.ref 389,.none,.ref 390,.ref 391,.ref 392,i0 725,i0 235,cP 726]
abbrev abg:Obj:=fO "_law_behind" "_law_behind" (top 44) .none (VS "law_thirstwise_k06_plans_followed" 658) 393
abbrev abh:Obj:=tU #[]
abbrev ah6:Obj:=tB #[]
abbrev ah7:Obj:=fB "_law_steps" "_law_steps" (top 45)
abbrev abj:Obj:=cO #[VS "_law_steps" 728,VS "_law_steps" 729,cP 730,i0 250,i0 2,i0 0,i0 0,i0 3,.ref 395,.bool true,i0 181,.ref 396,.none,.none,.none,.ref 397,i0 731,i0 250,cP 732]
abbrev abk:Obj:=fO "_law_steps" "_law_steps" (top 45) .none (VS "law_thirstwise_k06_plans_followed" 658) 398
abbrev o400:Obj:=tU #[]
abbrev ah8:Obj:=tB #[]
abbrev ah9:Obj:=tU #[VS "_law_spec_here" 737,VS "_law_state" 738,VS "_law_found" 739,VS "_law_k" 740]
abbrev aia:Obj:=tU #[]
abbrev aib:Obj:=fB "_law_number" "_law_number" (top 46)
abbrev aic:Obj:=cO #[VS "_law_number" 734,VS "_law_number" 735,cP 736,i0 258,i0 2,i0 0,i0 0,i0 3,.ref 400,.bool true,i0 181,.ref 401,.none,.ref 402,.ref 403,.ref 404,i0 741,i0 258,cP 742]
abbrev aie:Obj:=fO "_law_number" "_law_number" (top 46) .none (VS "law_thirstwise_k06_plans_followed" 658) 405
abbrev abl:Obj:=tU #[]
abbrev aif:Obj:=tB #[]
abbrev aii:Obj:=fB "_law_states" "_law_states" (top 47)
abbrev abm:Obj:=cO #[VS "_law_states" 744,VS "_law_states" 745,cP 746,i0 263,i0 1,i0 0,i0 0,i0 3,.ref 407,.bool true,i0 181,.ref 408,.none,.none,.none,.ref 409,i0 747,i0 263,cP 748]
abbrev abn:Obj:=fO "_law_states" "_law_states" (top 47) .none (VS "law_thirstwise_k06_plans_followed" 658) 410
abbrev abo:Obj:=tU #[]
abbrev aij:Obj:=tB #[]
abbrev aik:Obj:=fB "_law_walked" "_law_walked" (top 48)
abbrev abp:Obj:=cO #[VS "_law_walked" 750,VS "_law_walked" 751,cP 752,i0 274,i0 4,i0 0,i0 0,i0 3,.ref 412,.bool true,i0 181,.ref 413,.none,.none,.none,.ref 414,i0 753,i0 274,cP 754]
abbrev abq:Obj:=fO "_law_walked" "_law_walked" (top 48) .none (VS "law_thirstwise_k06_plans_followed" 658) 415
abbrev abr:Obj:=tU #[]
abbrev ail:Obj:=tB #[]
abbrev abt:Obj:=tU #[VS "_law_due" 759]
abbrev abu:Obj:=tU #[]
abbrev ain:Obj:=fB "_law_told" "_law_told" (top 49)
abbrev abv:Obj:=cO #[VS "_law_told" 756,VS "_law_told" 757,cP 758,i0 289,i0 1,i0 0,i0 0,i0 3,.ref 417,.bool true,i0 181,.ref 418,.none,.ref 419,.ref 420,.ref 421,i0 760,i0 289,cP 761]
abbrev abw:Obj:=fO "_law_told" "_law_told" (top 49) .none (VS "law_thirstwise_k06_plans_followed" 658) 422
abbrev abx:Obj:=tU #[]
abbrev aio:Obj:=tB #[]
abbrev aby:Obj:=tU #[VS "_law_error" 766,VS "_law_found" 767]
abbrev abz:Obj:=tU #[]
abbrev aip:Obj:=fB "_law_sorts" "_law_sorts" (top 50)
abbrev abA:Obj:=cO #[VS "_law_sorts" 763,VS "_law_sorts" 764,cP 765,i0 293,i0 1,i0 0,i0 0,i0 3,.ref 424,.bool true,i0 181,.ref 425,.none,.ref 426,.ref 427,.ref 428,i0 768,i0 293,cP 769]
abbrev abB:Obj:=fO "_law_sorts" "_law_sorts" (top 50) .none (VS "law_thirstwise_k06_plans_followed" 658) 429
abbrev abC:Obj:=tU #[]
abbrev aiq:Obj:=tB #[]
abbrev abD:Obj:=tU #[VS "_law_error" 774]
abbrev abE:Obj:=tU #[]
abbrev air:Obj:=fB "_law_refusal" "_law_refusal" (top 51)
abbrev abF:Obj:=cO #[VS "_law_refusal" 771,VS "_law_refusal" 772,cP 773,i0 296,i0 1,i0 0,i0 0,i0 3,.ref 431,.bool true,i0 181,.ref 432,.none,.ref 433,.ref 434,.ref 435,i0 775,i0 296,cP 776]
abbrev abG:Obj:=fO "_law_refusal" "_law_refusal" (top 51) .none (VS "law_thirstwise_k06_plans_followed" 658) 436
abbrev abH:Obj:=tU #[]
abbrev ais:Obj:=tB #[]
abbrev ait:Obj:=fB "_law_rows" "_law_rows" (top 52)
abbrev abI:Obj:=cO #[VS "_law_rows" 778,VS "_law_rows" 779,cP 780,i0 302,i0 5,i0 0,i0 0,i0 3,.ref 438,.bool true,i0 181,.ref 439,.none,.none,.none,.ref 440,i0 781,i0 302,cP 782]
abbrev abJ:Obj:=fO "_law_rows" "_law_rows" (top 52) .none (VS "law_thirstwise_k06_plans_followed" 658) 441
abbrev abK:Obj:=tU #[]
abbrev o444:Obj:=tB #[]
abbrev aiu:Obj:=fB "_law_right" "_law_right" (top 53)
abbrev abL:Obj:=cO #[VS "_law_right" 784,VS "_law_right" 785,cP 786,i0 317,i0 6,i0 0,i0 0,i0 3,.ref 443,.bool true,i0 181,.ref 444,.none,.none,.none,.ref 445,i0 787,i0 317,cP 788]
abbrev abM:Obj:=fO "_law_right" "_law_right" (top 53) .none (VS "law_thirstwise_k06_plans_followed" 658) 446
abbrev abN:Obj:=tU #[]
abbrev aiv:Obj:=tB #[]
noncomputable abbrev abO:Obj:=tU #[VS "_law_script" 793,VS "_law_spec_here" 794,VS "_law_garden_here" 795,VS "_law_rows_here" 796,VS "_law_states_here" 797,VS "_law_state" 798,VS "_law_first" 799,VS "_law_many" 800,VS "_law_error" 801]
abbrev abP:Obj:=tU #[]
abbrev aiw:Obj:=fB "law" "law" (top 54)
abbrev abQ:Obj:=cO #[VS "law" 790,VS "law" 791,cP 792,i0 333,i0 1,i0 0,i0 0,i0 3,.ref 448,.bool true,i0 181,.ref 449,.none,.ref 450,.ref 451,.ref 452,i0 802,i0 333,cP 803]
abbrev abR:Obj:=fO "law" "law" (top 54) .none (VS "law_thirstwise_k06_plans_followed" 658) 453
noncomputable def KK:Params->Frag:=fun P=>(nat_lit 2,(boot_o_2 P))::(nat_lit 3,(Xu P))::(nat_lit 15,o15)::(nat_lit 17,o17)::(nat_lit 18,o18)::(nat_lit 20,o20)::(nat_lit 22,o22)::(nat_lit 24,o24)::(nat_lit 25,o25)::(nat_lit 27,o27)::(nat_lit 28,o28)::(nat_lit 29,o29)::(nat_lit 31,o31)::(nat_lit 32,o32)::(nat_lit 34,o34)::(nat_lit 35,o35)::(nat_lit 36,o36)::(nat_lit 43,o43)::(nat_lit 44,(o44 P))::(nat_lit 45,o45)::(nat_lit 46,o46)::(nat_lit 49,o49)::(nat_lit 56,o56)::(nat_lit 57,(o57 P))::(nat_lit 58,o58)::(nat_lit 61,o61)::(nat_lit 68,o68)::(nat_lit 70,o70)::(nat_lit 71,o71)::(nat_lit 73,o73)::(nat_lit 75,o75)::(nat_lit 76,(o76 P))::(nat_lit 77,o77)::(nat_lit 80,o80)::(nat_lit 87,o87)::(nat_lit 88,(o88 P))::(nat_lit 89,o89)::(nat_lit 92,o92)::(nat_lit 99,o99)::(nat_lit 100,(o100 P))::(nat_lit 101,Qi)::(nat_lit 104,Qj)::(nat_lit 111,o111)::(nat_lit 112,(Qk P))::(nat_lit 113,Ql)::(nat_lit 116,Qm)::(nat_lit 123,Qo)::(nat_lit 125,Qp)::(nat_lit 126,Qq)::(nat_lit 128,Qs)::(nat_lit 129,Qt)::(nat_lit 130,Qw)::(nat_lit 131,(Qx P))::(nat_lit 132,Qy)::(nat_lit 135,Qz)::(nat_lit 138,QB)::(nat_lit 139,QC)::(nat_lit 147,QD)::(nat_lit 149,QF)::(nat_lit 150,QG)::(nat_lit 152,QH)::(nat_lit 153,QJ)::(nat_lit 154,QK)::(nat_lit 156,QL)::(nat_lit 157,QM)::(nat_lit 159,QS)::(nat_lit 160,QT)::(nat_lit 161,QV)::(nat_lit 163,QW)::(nat_lit 164,QX)::(nat_lit 166,QZ)::(nat_lit 168,Q0)::(nat_lit 170,Q5)::(nat_lit 171,Q6)::(nat_lit 173,Q7)::(nat_lit 174,Q8)::(nat_lit 175,Q9)::(nat_lit 177,Ra)::(nat_lit 178,Rb)::(nat_lit 180,Rc)::(nat_lit 182,Rf)::(nat_lit 183,(Rg P))::(nat_lit 184,Ec)::(nat_lit 185,Rh)::(nat_lit 186,Ri)::(nat_lit 189,YB)::(nat_lit 196,YC)::(nat_lit 198,YD)::(nat_lit 199,YF)::(nat_lit 201,YG)::(nat_lit 202,YH)::(nat_lit 203,YJ)::(nat_lit 205,YK)::(nat_lit 206,YL)::(nat_lit 208,YM)::(nat_lit 209,YQ)::(nat_lit 210,YS)::(nat_lit 212,YT)::(nat_lit 213,YW)::(nat_lit 215,YX)::(nat_lit 217,YZ)::(nat_lit 219,Y4)::(nat_lit 220,Y5)::(nat_lit 222,Y6)::(nat_lit 223,Y7)::(nat_lit 224,Y8)::(nat_lit 226,Y9)::(nat_lit 227,Za)::(nat_lit 229,Zb)::(nat_lit 231,Zc)::(nat_lit 232,(Zd P))::(nat_lit 233,Ze)::(nat_lit 236,Zf)::(nat_lit 239,Zg)::(nat_lit 240,Zi)::(nat_lit 241,Zj)::(nat_lit 243,Zk)::(nat_lit 244,Zm)::(nat_lit 246,Zn)::(nat_lit 247,Zo)::(nat_lit 248,Zq)::(nat_lit 251,Zr)::(nat_lit 252,Zu)::(nat_lit 253,Zv)::(nat_lit 256,Zw)::(nat_lit 257,Zx)::(nat_lit 258,Zy)::(nat_lit 260,ZC)::(nat_lit 261,ZD)::(nat_lit 263,ZF)::(nat_lit 264,ZG)::(nat_lit 272,ZJ)::(nat_lit 273,ZK)::(nat_lit 275,ZL)::(nat_lit 276,ZM)::(nat_lit 278,ZP)::(nat_lit 279,ZQ)::(nat_lit 280,ZR)::(nat_lit 282,ZS)::(nat_lit 283,ZV)::(nat_lit 285,ZW)::(nat_lit 286,ZX)::(nat_lit 287,Z0)::(nat_lit 289,Z4)::(nat_lit 290,Z5)::(nat_lit 292,Z6)::(nat_lit 293,Z7)::(nat_lit 294,Z8)::(nat_lit 296,Z9)::(nat_lit 297,aac)::(nat_lit 299,aad)::(nat_lit 300,o300)::(nat_lit 301,aae)::(nat_lit 304,aaf)::(nat_lit 305,aag)::(nat_lit 306,aah)::(nat_lit 307,(aai P))::(nat_lit 308,aaj)::(nat_lit 309,aak)::(nat_lit 310,aal)::(nat_lit 313,aam)::(nat_lit 316,aan)::(nat_lit 317,aao)::(nat_lit 318,aap)::(nat_lit 320,aaq)::(nat_lit 321,aar)::(nat_lit 323,aas)::(nat_lit 324,aat)::(nat_lit 325,aau)::(nat_lit 327,aav)::(nat_lit 328,aaw)::(nat_lit 330,aax)::(nat_lit 331,aay)::(nat_lit 332,aaz)::(nat_lit 335,aaA)::(nat_lit 336,aaB)::(nat_lit 337,aaC)::(nat_lit 340,aaD)::(nat_lit 341,aaE)::(nat_lit 342,aaF)::(nat_lit 345,aaG)::(nat_lit 346,aaH)::(nat_lit 347,aaI)::(nat_lit 348,aaJ)::(nat_lit 351,aaK)::(nat_lit 352,aaL)::(nat_lit 353,aaM)::(nat_lit 355,aaN)::(nat_lit 356,aaO)::(nat_lit 358,aaP)::(nat_lit 359,aaQ)::(nat_lit 360,aaR)::(nat_lit 362,aaS)::(nat_lit 363,aaT)::(nat_lit 365,aaU)::(nat_lit 366,aaV)::(nat_lit 367,aaW)::(nat_lit 369,aaX)::(nat_lit 370,aaY)::(nat_lit 372,aaZ)::(nat_lit 373,aa0)::(nat_lit 374,aa1)::(nat_lit 376,aa2)::(nat_lit 377,o377)::(nat_lit 379,aa3)::(nat_lit 380,aa4)::(nat_lit 381,aa5)::(nat_lit 383,aa6)::(nat_lit 384,aa7)::(nat_lit 386,aa8)::(nat_lit 387,aa9)::(nat_lit 388,abb)::(nat_lit 390,abd)::(nat_lit 391,abe)::(nat_lit 393,abf)::(nat_lit 394,abg)::(nat_lit 395,abh)::(nat_lit 398,abj)::(nat_lit 399,abk)::(nat_lit 407,abl)::(nat_lit 410,abm)::(nat_lit 411,abn)::(nat_lit 412,abo)::(nat_lit 415,abp)::(nat_lit 416,abq)::(nat_lit 417,abr)::(nat_lit 419,abt)::(nat_lit 420,abu)::(nat_lit 422,abv)::(nat_lit 423,abw)::(nat_lit 424,abx)::(nat_lit 426,aby)::(nat_lit 427,abz)::(nat_lit 429,abA)::(nat_lit 430,abB)::(nat_lit 431,abC)::(nat_lit 433,abD)::(nat_lit 434,abE)::(nat_lit 436,abF)::(nat_lit 437,abG)::(nat_lit 438,abH)::(nat_lit 441,abI)::(nat_lit 442,abJ)::(nat_lit 443,abK)::(nat_lit 446,abL)::(nat_lit 447,abM)::(nat_lit 448,abN)::(nat_lit 450,abO)::(nat_lit 451,abP)::(nat_lit 453,abQ)::(nat_lit 454,abR)::[]
noncomputable def addrs:List aB:=[2,3,15,17,18,20,22,24,25,27,28,29,31,32,34,35,36,43,44,45,46,49,56,57,58,61,68,70,71,73,75,76,77,80,87,88,89,92,99,100,101,104,111,112,113,116,123,125,126,128,129,130,131,132,135,138,139,147,149,150,152,153,154,156,157,159,160,161,163,164,166,168,170,171,173,174,175,177,178,180,182,183,184,185,186,189,196,198,199,201,202,203,205,206,208,209,210,212,213,215,217,219,220,222,223,224,226,227,229,231,232,233,236,239,240,241,243,244,246,247,248,251,252,253,256,257,258,260,261,263,264,272,273,275,276,278,279,280,282,283,285,286,287,289,290,292,293,294,296,297,299,300,301,304,305,306,307,308,309,310,313,316,317,318,320,321,323,324,325,327,328,330,331,332,335,336,337,340,341,342,345,346,347,348,351,352,353,355,356,358,359,360,362,363,365,366,367,369,370,372,373,374,376,377,379,380,381,383,384,386,387,388,390,391,393,394,395,398,399,407,410,411,412,415,416,417,419,420,422,423,424,426,427,429,430,431,433,434,436,437,438,441,442,443,446,447,448,450,451,453,454]
abbrev LO:List Str:=["followed"]
noncomputable def view:cA:={ PySem.Challenge.pw_thirstwise_k06_plans_followed with main:={ PySem.Challenge.pw_thirstwise_k06_plans_followed.main with body:=[top 0,top 2,top 3,top 5,top 6,top 7,top 8,top 9,top 10,top 11,top 13,top 14,top 15,top 16,top 17,top 19,top 20,top 21,top 22,top 23,top 24,top 25,top 26,top 27,top 28,top 29,top 31,top 32,top 34,top 35,top 36,top 38,top 40,top 41,top 42,top 43,top 44,top 45,top 46,top 47,top 48,top 49,top 50,top 51,top 52,top 53,top 54] } }
abbrev ANN:Option aA:=some (Value.ref 6)
abbrev QQ:Pos:={ line:=0,col:=0,endLine:=0,endCol:=0 }
abbrev BODY:List cY:=behindTheImports PySem.Challenge.pw_thirstwise_k06_plans_followed
abbrev ENV:Env:={ scope:=PySem.Challenge.pw_thirstwise_k06_plans_followed.main.scope,locals:=mainNs,globals:=mainNs,cells:=[],code:=Value.ref 13,frame:=some 14 }
abbrev CE:Code:=Code.body BODY ENV
abbrev av2:Life:={ }
abbrev aiy:Life:={ }
noncomputable def Uv:Params->Heap:=fun P=>Heap.mk (Array.mk [(boot_o_0 P),(boot_o_1 P),(boot_o_2 P),(boot_o_3 P),(boot_o_4 P),(boot_o_5 P),(boot_o_6 P),(boot_o_7 P),(boot_o_8 P),(boot_o_9 P),(boot_o_10 P),o11,o12,o13,o14]) aiy
abbrev Uw:Life:={ }
noncomputable def Ux:Params->BT:=fun P=>(nD (boot_o_0 P) (nD (boot_o_1 P) (nD (boot_o_3 P) (lF (boot_o_7 P)) (lF o11)) (nD (boot_o_5 P) (lF (boot_o_9 P)) (lF o13))) (nD (boot_o_2 P) (nD (boot_o_4 P) (lF (boot_o_8 P)) (lF o12)) (nD (boot_o_6 P) (lF (boot_o_10 P)) (lF o14))))
abbrev Uy:Life:={ }
noncomputable def Uz:Params->BT:=fun P=>(nD (boot_o_0 P) (nD (boot_o_1 P) (nD (aqk P) (nD (boot_o_7 P) (nD o15 (nD o31 (nD (o63 P) (lF X7) .nil) (nD o95 (lF QS) .nil)) (nD o47 (nD o79 (lF Yi) .nil) (nD o111 (lF Q9) .nil))) (nD o23 (nD o39 (nD o71 (lF Qz) .nil) (nD Xw (lF Ys) .nil)) (nD o55 (nD o87 (lF Yn) .nil) (nD XS (lF (Rg P)) .nil)))) (nD o11 (nD o19 (nD o35 (nD o67 (lF (Qx P)) .nil) (nD o99 (lF QW) .nil)) (nD (o51 P) (nD o83 (lF QD) .nil) (nD XM (lF Yw) .nil))) (nD o27 (nD o43 (nD o75 (lF QC) .nil) (nD Xz (lF Q6) .nil)) (nD o59 (nD o91 (lF Yo) .nil) (nD Qo (lF Yy) .nil))))) (nD (boot_o_5 P) (nD (boot_o_9 P) (nD o17 (nD o33 (nD o65 (lF Qt) .nil) (nD o97 (lF QV) .nil)) (nD o49 (nD o81 (lF Yk) .nil) (nD Ql (lF Ra) .nil))) (nD o25 (nD o41 (nD o73 (lF Yd) .nil) (nD Xx (lF Yt) .nil)) (nD (o57 P) (nD o89 (lF QJ) .nil) (nD X4 (lF Rh) .nil)))) (nD o13 (nD o21 (nD o37 (nD o69 (lF X8) .nil) (nD Qi (lF Yr) .nil)) (nD o53 (nD o85 (lF QF) .nil) (nD XQ (lF Yx) .nil))) (nD o29 (nD o45 (nD o77 (lF Yg) .nil) (nD XF (lF Q7) .nil)) (nD o61 (nD o93 (lF QM) .nil) (lF Qp)))))) (nD (boot_o_2 P) (nD (boot_o_4 P) (nD (boot_o_8 P) (nD o16 (nD o32 (nD o64 (lF Qs) .nil) (nD o96 (lF QT) .nil)) (nD o48 (nD o80 (lF Yj) .nil) (nD (Qk P) (lF Yv) .nil))) (nD o24 (nD o40 (nD o72 (lF Yc) .nil) (nD Qj (lF Q0) .nil)) (nD o56 (nD (o88 P) (lF QH) .nil) (nD X3 (lF aq7) .nil)))) (nD agR (nD o20 (nD o36 (nD o68 (lF Qy) .nil) (nD (o100 P) (lF QX) .nil)) (nD o52 (nD o84 (lF Ym) .nil) (nD Qm (lF Rc) .nil))) (nD o28 (nD (o44 P) (nD (o76 P) (lF Ye) .nil) (nD XD (lF Yu) .nil)) (nD o60 (nD o92 (lF QL) .nil) (nD X6 (lF Yz) .nil))))) (nD (boot_o_6 P) (nD (boot_o_10 P) (nD o18 (nD o34 (nD o66 (lF Qw) .nil) (nD o98 (lF Yq) .nil)) (nD o50 (nD (o82 P) (lF Yl) .nil) (nD XJ (lF Rb) .nil))) (nD o26 (nD o42 (nD o74 (lF QB) .nil) (nD (Xy P) (lF Q5) .nil)) (nD o58 (nD o90 (lF QK) .nil) (nD X5 (lF Ri) .nil)))) (nD o14 (nD o22 (nD (o38 P) (nD o70 (lF Yb) .nil) (nD Xv (lF QZ) .nil)) (nD o54 (nD o86 (lF QG) .nil) (nD (XR P) (lF Rf) .nil))) (nD o30 (nD o46 (nD o78 (lF (Yh P)) .nil) (nD XH (lF Q8) .nil)) (nD o62 (nD (o94 P) (lF Yp) .nil) (lF Qq)))))))
abbrev UG:Life:={ }
noncomputable def UJ:Params->BT:=fun P=>(nD (boot_o_0 P) (nD (boot_o_1 P) (nD (Xu P) (nD (boot_o_7 P) (nD o15 (nD o31 (nD (o63 P) (nD X7 (lF ahk) (lF aa6)) (nD (agV P) (lF ahI) (lF abM))) (nD o95 (nD QS (lF Z0) (lF abp)) (nD Y7 (lF aaK) .nil))) (nD o47 (nD o79 (nD Yi (lF aht) (lF abk)) (nD ag2 (lF aaA) .nil)) (nD o111 (nD Q9 (lF ahD) (lF abC)) (nD Zg (lF aaW) .nil)))) (nD o23 (nD o39 (nD o71 (nD Qz (lF ZF) (lF abe)) (nD YF (lF aav) .nil)) (nD Xw (nD Ys (lF ahA) (lF abw)) (nD Zc (lF aaQ) .nil))) (nD o55 (nD o87 (nD Yn (lF ZQ) (lF abl)) (nD YX (lF ahQ) .nil)) (nD XS (nD (Rg P) (lF ahE) (lF ais)) (nD Zo (lF ah0) .nil))))) (nD o11 (nD o19 (nD o35 (nD o67 (nD (Qx P) (lF ahl) (lF aa9)) (nD agZ (lF aas) (lF abP))) (nD o99 (nD QW (lF ahz) (lF abt)) (nD Za (lF aaN) .nil))) (nD (o51 P) (nD o83 (nD QD (lF ZL) (lF aia)) (nD ag3 (lF ahP) .nil)) (nD XM (nD Yw (lF (aai P)) (lF air)) (nD Zk (lF ahZ) .nil)))) (nD o27 (nD o43 (nD o75 (nD QC (lF (ahp P)) (lF abh)) (nD YJ (lF aay) .nil)) (nD Xz (nD Q6 (lF aad) (lF abz)) (nD ahc (lF aaT) .nil))) (nD o59 (nD o91 (nD Yo (lF ZV) (lF abn)) (nD Y4 (lF aaI) .nil)) (nD Qo (nD Yy (lF ahH) (lF abK)) (nD Zr (lF aa3) .nil)))))) (nD (boot_o_5 P) (nD (boot_o_9 P) (nD o17 (nD o33 (nD o65 (nD Qt (lF Zx) (lF ah3)) (nD agX (lF aar) (lF aiv))) (nD o97 (nD QV (lF Z4) (lF abr)) (nD ag8 (lF aaM) .nil))) (nD o49 (nD o81 (nD Yk (lF ZK) (lF ah8)) (nD YQ (lF aaC) .nil)) (nD Ql (nD Ra (lF aag) (lF abD)) (nD Zj (lF aaX) .nil)))) (nD o25 (nD o41 (nD o73 (nD Yd (lF ahn) (lF abf)) (nD YG (lF ahL) .nil)) (nD Xx (nD Yt (lF aac) (lF aio)) (nD Ze (lF ahW) .nil))) (nD (o57 P) (nD o89 (nD QJ (lF ahw) (lF aii)) (nD YZ (lF aaG) .nil)) (nD X4 (nD Rh (lF aam) (lF abI)) (nD ahh (lF o377) .nil))))) (nD o13 (nD o21 (nD o37 (nD o69 (nD X8 (lF ZD) (lF ah4)) (nD ag0 (lF aau) (lF abQ))) (nD Qi (nD Yr (lF Z7) (lF ain)) (nD Zb (lF ahV) .nil))) (nD o53 (nD o85 (nD QF (lF ahv) (lF aic)) (nD YW (lF aaE) .nil)) (nD XQ (nD Yx (lF aak) (lF abG)) (nD ahg (lF aa0) .nil)))) (nD o29 (nD o45 (nD o77 (nD Yg (lF ahr) (lF ah7)) (nD YK (lF ahM) .nil)) (nD XF (nD Q7 (lF aae) (lF abA)) (nD ahd (lF aaU) .nil))) (nD o61 (nD o93 (nD QM (lF ZW) (lF aij)) (nD ag7 (lF ahS) .nil)) (nD Qp (nD YB (lF aao) (lF aiu)) (nD Zv (lF aa5) .nil))))))) (nD (boot_o_2 P) (nD (boot_o_4 P) (nD (boot_o_8 P) (nD o16 (nD o32 (nD o64 (nD Qs (lF Zw) (lF aa7)) (nD agW (lF aaq) (lF abN))) (nD o96 (nD QT (lF ahy) (lF abq)) (nD Y8 (lF aaL) .nil))) (nD o48 (nD o80 (nD Yj (lF ZJ) (lF o400)) (nD YM (lF aaB) .nil)) (nD (Qk P) (nD Yv (lF aaf) (lF aiq)) (nD Zi (lF ahY) .nil)))) (nD o24 (nD o40 (nD o72 (nD Yc (lF ZG) (lF ah5)) (nD o200 (lF aaw) .nil)) (nD Qj (nD Q0 (lF Z9) (lF abx)) (nD (Zd P) (lF aaR) .nil))) (nD o56 (nD (o88 P) (nD QH (lF ZR) (lF aif)) (nD ag5 (lF ahR) .nil)) (nD X3 (nD Ec (lF ahF) (lF ait)) (nD Zq (lF aa2) .nil))))) (nD Uu (nD o20 (nD o36 (nD o68 (nD Qy (lF ZC) (lF abb)) (nD YC (lF aat) (lF aiw))) (nD (o100 P) (nD QX (lF Z6) (lF abu)) (nD ag9 (lF aaO) .nil))) (nD o52 (nD o84 (nD Ym (lF ZM) (lF aib)) (nD YT (lF aaD) .nil)) (nD Qm (nD Rc (lF aaj) (lF abF)) (nD Zm (lF aaZ) .nil)))) (nD o28 (nD (o44 P) (nD (o76 P) (nD Ye (lF ahq) (lF ah6)) (nD ag1 (lF aaz) .nil)) (nD XD (nD Yu (lF o300) (lF aip)) (nD Zf (lF ahX) .nil))) (nD o60 (nD o92 (nD QL (lF ahx) (lF abo)) (nD Y5 (lF aaJ) .nil)) (nD X6 (nD Yz (lF aan) (lF o444)) (nD Zu (lF aa4) .nil)))))) (nD (boot_o_6 P) (nD (boot_o_10 P) (nD o18 (nD o34 (nD o66 (nD Qw (lF Zy) (lF aa8)) (nD agY (lF ahJ) (lF abO))) (nD o98 (nD Yq (lF Z5) (lF ail)) (nD Y9 (lF ahU) .nil))) (nD o50 (nD (o82 P) (nD Yl (lF ahu) (lF ah9)) (nD YS (lF ahO) .nil)) (nD XJ (nD Rb (lF aah) (lF abE)) (nD ahf (lF aaY) .nil)))) (nD o26 (nD o42 (nD o74 (nD QB (lF aho) (lF abg)) (nD YH (lF aax) .nil)) (nD (Xy P) (nD Q5 (lF ahB) (lF aby)) (nD ahb (lF aaS) .nil))) (nD o58 (nD o90 (nD QK (lF ZS) (lF abm)) (nD ag6 (lF aaH) .nil)) (nD X5 (nD Ri (lF ahG) (lF abJ)) (nD ahi (lF ah1) .nil))))) (nD o14 (nD o22 (nD (o38 P) (nD o70 (nD Yb (lF ahm) (lF abd)) (nD YD (lF ahK) (lF abR))) (nD Xv (nD QZ (lF Z8) (lF abv)) (nD aha (lF aaP) .nil))) (nD o54 (nD o86 (nD QG (lF ZP) (lF aie)) (nD ag4 (lF aaF) .nil)) (nD (XR P) (nD Rf (lF aal) (lF abH)) (nD Zn (lF aa1) .nil)))) (nD o30 (nD o46 (nD o78 (nD (Yh P) (lF ahs) (lF abj)) (nD YL (lF ahN) .nil)) (nD XH (nD Q8 (lF ahC) (lF abB)) (nD ahe (lF aaV) .nil))) (nD o62 (nD (o94 P) (nD Yp (lF ZX) (lF aik)) (nD Y6 (lF ahT) .nil)) (nD Qq (nD agU (lF aap) (lF abL)) (nD ahj (lF ah2) .nil))))))))
abbrev aiz:Life:={ }
noncomputable def qF:Params->Heap:=fun P=>Heap.mk (Array.mk [(boot_o_0 P),(boot_o_1 P),(boot_o_2 P),(Xu P),(boot_o_4 P),(boot_o_5 P),(boot_o_6 P),(boot_o_7 P),(boot_o_8 P),(boot_o_9 P),(boot_o_10 P),o11,Uu,o13,o14,o15,o16,o17,o18,o19,o20,o21,o22,o23,o24,o25,o26,o27,o28,o29,o30,o31,o32,o33,o34,o35,o36,o37,(o38 P),o39,o40,o41,o42,o43,(o44 P),o45,o46,o47,o48,o49,o50,(o51 P),o52,o53,o54,o55,o56,(o57 P),o58,o59,o60,o61,o62,(o63 P),o64,o65,o66,o67,o68,o69,o70,o71,o72,o73,o74,o75,(o76 P),o77,o78,o79,o80,o81,(o82 P),o83,o84,o85,o86,o87,(o88 P),o89,o90,o91,o92,o93,(o94 P),o95,o96,o97,o98,o99,(o100 P),Qi,Xv,Xw,Qj,Xx,(Xy P),Xz,XD,XF,XH,o111,(Qk P),Ql,XJ,XM,Qm,XQ,(XR P),XS,X3,X4,X5,Qo,X6,Qp,Qq,X7,Qs,Qt,Qw,(Qx P),Qy,X8,Yb,Qz,Yc,Yd,QB,QC,Ye,Yg,(Yh P),Yi,Yj,Yk,Yl,QD,Ym,QF,QG,Yn,QH,QJ,QK,Yo,QL,QM,Yp,QS,QT,QV,Yq,QW,QX,Yr,QZ,Ys,Q0,Yt,Q5,Q6,Yu,Q7,Q8,Q9,Yv,Ra,Rb,Yw,Rc,Yx,Rf,(Rg P),Ec,Rh,Ri,Yy,Yz,YB,agU,(agV P),agW,agX,agY,agZ,YC,ag0,YD,YF,o200,YG,YH,YJ,ag1,YK,YL,ag2,YM,YQ,YS,ag3,YT,YW,ag4,YX,ag5,YZ,ag6,Y4,Y5,ag7,Y6,Y7,Y8,ag8,Y9,Za,ag9,Zb,aha,Zc,(Zd P),Ze,ahb,ahc,Zf,ahd,ahe,Zg,Zi,Zj,ahf,Zk,Zm,ahg,Zn,Zo,Zq,ahh,ahi,Zr,Zu,Zv,ahj,ahk,Zw,Zx,Zy,ahl,ZC,ZD,ahm,ZF,ZG,ahn,aho,(ahp P),ahq,ahr,ahs,aht,ZJ,ZK,ahu,ZL,ZM,ahv,ZP,ZQ,ZR,ahw,ZS,ZV,ahx,ZW,ZX,Z0,ahy,Z4,Z5,ahz,Z6,Z7,Z8,ahA,Z9,aac,ahB,aad,o300,aae,ahC,ahD,aaf,aag,aah,(aai P),aaj,aak,aal,ahE,ahF,aam,ahG,ahH,aan,aao,aap,ahI,aaq,aar,ahJ,aas,aat,aau,ahK,aav,aaw,ahL,aax,aay,aaz,ahM,ahN,aaA,aaB,aaC,ahO,ahP,aaD,aaE,aaF,ahQ,ahR,aaG,aaH,aaI,aaJ,ahS,ahT,aaK,aaL,aaM,ahU,aaN,aaO,ahV,aaP,aaQ,aaR,ahW,aaS,aaT,ahX,aaU,aaV,aaW,ahY,aaX,aaY,ahZ,aaZ,aa0,aa1,ah0,aa2,o377,ah1,aa3,aa4,aa5,ah2,aa6,aa7,ah3,aa8,aa9,abb,ah4,abd,abe,ah5,abf,abg,abh,ah6,ah7,abj,abk,o400,ah8,ah9,aia,aib,aic,aie,abl,aif,aii,abm,abn,abo,aij,aik,abp,abq,abr,ail,abt,abu,ain,abv,abw,abx,aio,aby,abz,aip,abA,abB,abC,aiq,abD,abE,air,abF,abG,abH,ais,ait,abI,abJ,abK,o444,aiu,abL,abM,abN,aiv,abO,abP,aiw,abQ,abR]) aiz
end
theorem UL {tb:String->Option Builtin} {p:cA} {w:World} {n₀:Nat} {ann:Option aA} {env:Env} {q:Pos} {n N:Nat} {s s' r:aQ} {b:List cY} {c:Code} {pos p':Pos} (i k:Nat) (h:segRun tb p w n₀ ann 1 n s (piecesOf ((b.drop i).take k) env c pos [topFrame q])=some (.next,s',c,p')) (g:topRun tb p w n₀ ann N s' (restOf (b.drop (i + k)) env c p' [topFrame q])=some r):topRun tb p w n₀ ann (n + N) s (restOf (b.drop i) env c pos [topFrame q])=some r:=by
 have e:b.drop i=(b.drop i).take k++b.drop (i + k):=by rw [<- List.drop_drop,List.take_append_drop]
 rw [e];exact piece_app h g
theorem Ks:∀ w:World,(fun os=>topGo treeTable PySem.Challenge.pw_thirstwise_k06_plans_followed w 11 ANN 12 (Shared.mk (boot_heap w.params) (Array.mk []) boot_drawn boot_toks os) (topStub PySem.Challenge.pw_thirstwise_k06_plans_followed))=fun os=>some ((Shared.mk (Uv w.params) (Array.mk []) boot_drawn 187 os),Thread.mk (denote treeTable CE) CE { line:=0,col:=0,endLine:=0,endCol:=0 } [topFrame QQ]):=by
 intro w; kernel_rfl
theorem Ed:∀ w:World,(fun os=>segRun treeTable PySem.Challenge.pw_thirstwise_k06_plans_followed w 11 ANN 1 1 (Shared.mk (Uv w.params) (Array.mk []) boot_drawn 187 os) (blockOf BODY ENV CE { line:=0,col:=0,endLine:=0,endCol:=0 } [topFrame QQ]))=fun os=>some (Flow.next,(SharedT.abs (SharedT.mk (Ux w.params) 15 Uw (Array.mk []) boot_drawn 187 os)),CE,{ line:=0,col:=0,endLine:=0,endCol:=0 }):=by
 intro w; kernel_rfl
theorem aiA:∀ w:World,(fun os=>segRunT treeTable PySem.Challenge.pw_thirstwise_k06_plans_followed w 11 ANN 1 2040 (SharedT.mk (Ux w.params) 15 Uw (Array.mk []) boot_drawn 187 os) (piecesOf ((BODY.drop 0).take 17) ENV CE { line:=0,col:=0,endLine:=0,endCol:=0 } [topFrame QQ]))=fun os=>some (Flow.next,(SharedT.mk (Uz w.params) 189 Uy (Array.mk []) boot_drawn 420 os),CE,{ line:=39,col:=0,endLine:=59,endCol:=16 }):=by
 intro w; kernel_rfl
theorem aiB:∀ w:World,(fun os=>segRunT treeTable PySem.Challenge.pw_thirstwise_k06_plans_followed w 11 ANN 1 1637 (SharedT.mk (Uz w.params) 189 Uy (Array.mk []) boot_drawn 420 os) (piecesOf ((BODY.drop 17).take 38) ENV CE { line:=39,col:=0,endLine:=59,endCol:=16 } [topFrame QQ]))=fun os=>some (Flow.next,(SharedT.mk (UJ w.params) 455 UG (Array.mk []) boot_drawn 805 os),CE,{ line:=333,col:=0,endLine:=349,endCol:=16 }):=by
 intro w; kernel_rfl
theorem Ku:∀ w:World,(fun os=>topRun treeTable PySem.Challenge.pw_thirstwise_k06_plans_followed w 11 ANN 2 (SharedT.abs (SharedT.mk (UJ w.params) 455 UG (Array.mk []) boot_drawn 805 os)) (restOf (BODY.drop 55) ENV CE { line:=333,col:=0,endLine:=349,endCol:=16 } [topFrame QQ]))=fun os=>some (Shared.mk (qF w.params) (Array.mk []) boot_drawn 805 os):=by
 intro w; kernel_rfl
theorem aq8 (w:World) (os:OsState):topRun treeTable PySem.Challenge.pw_thirstwise_k06_plans_followed w 11 ANN (12 + (1 + (2040 + (1637 + (2))))) (Shared.mk (boot_heap w.params) (Array.mk []) boot_drawn boot_toks os) (topStub PySem.Challenge.pw_thirstwise_k06_plans_followed)=some (Shared.mk (qF w.params) (Array.mk []) boot_drawn 805 os) := go_top (congrFun (Ks w) os) (piece_block (congrFun (Ed w) os) (UL 0 17 (segRun_of (congrFun (aiA w) os)) (UL 17 38 (segRun_of (congrFun (aiB w) os)) (congrFun (Ku w) os))))
theorem lk1:∀ w:World,(fun os=>(staticsOk (importedModules PySem.Challenge.pw_thirstwise_k06_plans_followed.main.body) (boot_heap w.params) (qF w.params) && namesBound PySem.Challenge.pw_thirstwise_k06_plans_followed (qF w.params) && gensDone (Shared.mk (qF w.params) (Array.mk []) boot_drawn 805 os) && laidKept (boot_heap w.params) (qF w.params)))=fun _=>true:=by
 intro w; kernel_rfl
theorem lk2:∀ w:World,(fun os=>openSeen view LO (importedModules PySem.Challenge.pw_thirstwise_k06_plans_followed.main.body) (fun s=>xlAt view [] s && recOk (RowW.records (OpenRow.toRowW (OpenLaw.row PySem.Challenge.rw_thirstwise_k06_plans_followed))) s) true (Shared.mk (qF w.params) (Array.mk []) boot_drawn 805 os))=fun _=>openGood view LO:=by
 intro w; kernel_rfl
theorem lk3:∀ w:World,(fun os=>Hook.obs (kHook KK addrs (fun _=>by kernel_rfl)) (Shared.mk (qF w.params) (Array.mk []) boot_drawn 805 os))=fun _=>Hook.val (kHook KK addrs (fun _=>by kernel_rfl)) w:=by
 intro w; kernel_rfl
theorem opn:∀ w:World,(fencedOpening treeTable PySem.Challenge.pw_thirstwise_k06_plans_followed w 7476).map (fun s=>(s.heap,s.gens,s.drawn,s.toks))=some (boot_heap w.params,Array.mk [],boot_drawn,boot_toks):=boot_open (by kernel_rfl) (by kernel_rfl) (fun s=>by kernel_rfl)
theorem siz:∀ w:World,((boot_heap w.params).isNs mainGlobals && (Array.mk []:Array GenState).size == 0,(boot_heap w.params).objs.size,(boot_heap w.params).nsMap mainGlobals "__annotations__")=(true,11,ANN):=by
 intro w; kernel_rfl
theorem hl:LeftO PySem.Challenge.rw_thirstwise_k06_plans_followed.row.prog view LO (fun s=>xlAt view [] s && recOk (RowW.records (OpenRow.toRowW (OpenLaw.row PySem.Challenge.rw_thirstwise_k06_plans_followed))) s) (Hook.obs (kHook KK addrs (fun _=>by kernel_rfl))) (Hook.val (kHook KK addrs (fun _=>by kernel_rfl))) 7476 := LeftO.of_pieces (p:=PySem.Challenge.pw_thirstwise_k06_plans_followed) (q:=view) (loose:=LO) (Xt:=(fun s=>xlAt view [] s && recOk (RowW.records (OpenRow.toRowW (OpenLaw.row PySem.Challenge.rw_thirstwise_k06_plans_followed))) s)) (Yf:=Hook.obs (kHook KK addrs (fun _=>by kernel_rfl))) (Ya:=Hook.val (kHook KK addrs (fun _=>by kernel_rfl))) (N:=7476) (g0:=true) (H₀:=boot_heap) (H₁:=qF) (gs₀:=Array.mk []) (gs₁:=(Array.mk [])) (d₀:=boot_drawn) (d₁:=boot_drawn) (k₀:=boot_toks) (k₁:=805) (m₀:=11) (ann:=ANN) (M:=12 + (1 + (2040 + (1637 + (2))))) opn siz aq8 (by kernel_rfl) (fun w=>funext fun os=>Prod.ext (congrFun (lk1 w) os) (Prod.ext (congrFun (lk2 w) os) (congrFun (lk3 w) os)))
end Tw
namespace L2
open PySem PySem.Spec PyProof.Rows
abbrev Key:=Sum Int Str
def UW:Key->aA->Bool
 | .inl k,v=>Value.isInt k v
 | .inr x,v=>Value.isStrOf x v
def aq9 (w:World):Key->Int
 | .inl k=>hashInt k
 | .inr x=>hashStr w x
theorem fH:∀ {k:Key} {v:aA},UW k v=true->(∃ i t,k=Sum.inl i/\v=Value.int i t)\/(∃ x t,k=Sum.inr x/\v=Value.str x t)
 | .inl i,v,h=>by
  obtain ⟨t,e⟩:=Value.isInt_shape (k:=i) (v:=v) h;exact .inl ⟨i,t,rfl,e⟩
 | .inr x,v,h=>by
  obtain ⟨t,e⟩:=Value.isStrOf_shape (x:=x) (v:=v) h;exact .inr ⟨x,t,rfl,e⟩
theorem abS (a b:Int):decide ((Sum.inl a:Key)=Sum.inl b)=(a == b):=by
 by_cases e:a=b
 ·subst e; simp
 ·have h:¬ (Sum.inl a:Key)=Sum.inl b:=fun q=>e (Sum.inl.inj q)
  rw [aG h];exact (beq_eq_false_iff_ne.mpr e).symm
theorem abT (a b:Str):decide ((Sum.inr a:Key)=Sum.inr b)=decide (a=b):=by
 by_cases e:a=b
 ·subst e; simp
 ·have h:¬ (Sum.inr a:Key)=Sum.inr b:=fun q=>e (Sum.inr.inj q)
  rw [aG h,aG e]
theorem abU (a:Int) (b:Str):decide ((Sum.inl a:Key)=Sum.inr b)=false:=aG (fun q=>nomatch q)
theorem abV (a:Str) (b:Int):decide ((Sum.inr a:Key)=Sum.inl b)=false:=aG (fun q=>nomatch q)
noncomputable def yX (prog:cA) (w:World):PySem.KeyKind prog w Key where
 is:=UW
 hash:=aq9 w
 inj:=fun v a b ha hb=>by
  rcases fH ha with ⟨i,t,rfl,rfl⟩ | ⟨x,t,rfl,rfl⟩
  ·rcases fH hb with ⟨j,u,rfl,e⟩ | ⟨y,u,rfl,e⟩
   ·injection e with e1 _; rw [e1]
   ·exact nomatch e
  ·rcases fH hb with ⟨j,u,rfl,e⟩ | ⟨y,u,rfl,e⟩
   ·exact nomatch e
   ·injection e with e1 _; rw [e1]
 byValue:=fun k v h=>by
  rcases fH h with ⟨i,t,rfl,rfl⟩ | ⟨x,t,rfl,rfl⟩ <;> rfl
 pyHash:=fun hv h=>by
  rcases fH hv with ⟨i,t,rfl,rfl⟩ | ⟨x,t,rfl,rfl⟩
  ·exact wpAny_pyHash_int h
  ·exact wpAny_pyHash_str h
 eqBool:=fun hu hv h=>by
  rcases fH hu with ⟨i,t,rfl,rfl⟩ | ⟨x,t,rfl,rfl⟩
  ·rcases fH hv with ⟨j,u,rfl,rfl⟩ | ⟨y,u,rfl,rfl⟩
   ·rw [abS] at h; exact wpAny_eqBool_int h
   ·rw [abU] at h; exact SeqAt.EqAt.int_str i t y u _ _ _ _ h
  ·rcases fH hv with ⟨j,u,rfl,rfl⟩ | ⟨y,u,rfl,rfl⟩
   ·rw [abV] at h; exact SeqAt.EqAt.str_int x t j u _ _ _ _ h
   ·rw [abT] at h; exact wpAny_eqBool_str h
 «strs»:=fun k x t v h=>by
  rcases fH h with ⟨i,u,rfl,e⟩ | ⟨y,u,rfl,e⟩
  ·exact nomatch e
  ·injection e with e1 _
   subst e1;cases v <;> rfl
inductive V where
 | non | bl (b:Bool) | int (i:Int) | str (x:Str) | Gy (b:Array UInt8) | flt (b:UInt64) | ref (a:aB) | ty (n:String)
 deriving DecidableEq
noncomputable def RelV:V->aA->Prop
 | .non,u=>u=Value.none
 | .bl b,u=>u=Value.bool b
 | .int i,u=>∃ t,u=Value.int i t
 | .str x,u=>∃ t,u=Value.str x t
 | .Gy b,u=>∃ t,u=Value.bytes b t
 | .flt b,u=>∃ t,u=Value.float b t
 | .ref a,u=>u=Value.ref a
 | .ty n,u=>u=Value.type n
abbrev Vals:List V->List aA->Prop:=Paired RelV
theorem Vals.length {xs:List V} {us:List aA} (r:Vals xs us):xs.length=us.length:=Paired.length r
theorem Vals.get:∀ {xs:List V} {us:List aA} {i:Nat} {x:V},Vals xs us->xs[i]?=some x->∃ u,us[i]?=some u/\RelV x u
 | _,_,_,_,.nil,e=>by simp at e
 | _,_,0,_,.cons r _,e=>by simp at e; subst e; exact ⟨_,rfl,r⟩
 | _,_,i + 1,x,.cons _ t,e=>by
  obtain ⟨u,h1,h2⟩:=Vals.get (i:=i) (x:=x) t (by simpa using e);exact ⟨u,by simpa using h1,h2⟩
theorem Vals.append:∀ {xs ys:List V} {us ws:List aA},Vals xs us->Vals ys ws->Vals (xs++ys) (us++ws)
 | _,_,_,_,.nil,s=>s
 | _,_,_,_,.cons r t,s=>.cons r (Vals.append t s)
theorem Vals.take:∀ {xs:List V} {us:List aA} (n:Nat),Vals xs us->Vals (xs.take n) (us.take n)
 | _,_,0,_=>.nil
 | _,_,_ + 1,.nil=>.nil
 | _,_,n + 1,.cons r t=>.cons r (Vals.take n t)
theorem Vals.drop:∀ {xs:List V} {us:List aA} (n:Nat),Vals xs us->Vals (xs.drop n) (us.drop n)
 | _,_,0,r=>r
 | _,_,_ + 1,.nil=>.nil
 | _,_,n + 1,.cons _ t=>Vals.drop n t
theorem Vals.none_of:∀ {xs:List V} {us:List aA} {i:Nat},Vals xs us->xs[i]?=none->us[i]?=none:=fun {xs us i} r e=>by
 have h1:=r.length;have h2:xs.length<=i:=List.getElem?_eq_none_iff.mp e;exact List.getElem?_eq_none_iff.mpr (by omega)
def uT:Option V->Option aA->Prop
 | some v,some u=>RelV v u
 | none,none=>True
 | _,_=>False
def KV {κ:Type}:List (κ × V)->List (κ × aA)->Prop:=Paired fun (p:κ × V) (q:κ × aA)=>p.1=q.1/\RelV p.2 q.2
def kV:Key->V
 | .inl i=>.int i
 | .inr x=>.str x
inductive HO where
 | lst (xs:List V)
 | tup (xs:List V)
 | dK (kvs:List (Key × V)) | dT (kvs:List (List Key × V))
 | set (S:Int->Bool) (n:Nat)
 | ins (C dx:aB) (fs:List (Str × V))
 | own (x:aB)
 | xd (fs:List (Str × V))
 | met (f x:aB)
 | rng (lo hi:Int)
 | Av (o:Obj) (u:HO)
 | U0 (ps:Array aA)
 | ext (φ:Heap->Prop)
abbrev Hp:=aB->Option HO
def upd (H:Hp) (a:aB) (o:HO):Hp:=fun b=>if b=a then some o else H b
theorem aD {H:Hp} {a:aB} {o:HO}:upd H a o a=some o:=by unfold upd; rw [if_pos rfl]
theorem bx {H:Hp} {a b:aB} {o:HO} (h:b≠a):upd H a o b=H b:=by unfold upd; rw [if_neg h]
theorem jh {H:Hp} {a:aB} {o u:HO}:upd (upd H a o) a u=upd H a u:=by
 funext b; unfold upd; split <;> rfl
theorem Gz {H:Hp} {a b:aB} {o u:HO} (h:H a=some o) (h':H b=some u) (d:o≠u):a≠b:=by
 intro e; subst e; rw [h] at h'; exact d (cu h')
theorem dj {H:Hp} {a b:aB} {o:HO} (h:H a=some o) (h':H b=none):a≠b:=by
 intro e; subst e; rw [h] at h'; cases h'
section
variable (P:cA) (w:World)
noncomputable def eE (H:Hp) (h:Heap) (a:aB):HO->Prop
 | .lst xs=>xs.length<=sizeLine/\∃ (its:List aA) (n:Nat),Vals xs its/\h.get? a=some { cls:=.type "list",data:=.seq its.toArray n }
 | .tup xs=>xs.length<=sizeLine/\∃ its:List aA,Vals xs its/\IsTup h a its.toArray
 | .dK kvs=>kvs.length<=sizeLine/\(a == sysModules)=false/\∃ vs,KV kvs vs/\h.DictOf (yX P w) a vs
 | .dT kvs=>kvs.length<=sizeLine/\(a == sysModules)=false/\∃ xs:List (List Key × aB × aA),Paired (fun (p:List Key × V) (q:List Key × aB × aA)=>p.1=q.1/\H q.2.1=some (.tup (p.1.map kV))/\RelV p.2 q.2.2) kvs xs /\ ∃ o es ep,h.get? a=some o/\o.ExactDict/\o.data=.dict es ep/\es.toList=xs.map (entryOfKey (tupleKind (yX P w)))/\(xs.map (·.1)).Nodup
 | .set S n=>h.SetOf (intKind P w) a S n
 | .ins C dx fs=>H dx=some (.own a)/\fs.length<=1000/\dx≠a/\h.get? a=some (instObj C dx) /\ ∃ mA,h.Ns1 dx mA/\(∀ f,uT (fs.lookup f) (mA f))/\PySem.Within mA (fs.map (·.1))
 | .own _=>∃ o,h.get? a=some o
 | .xd fs=>∃ mA,h.Ns1 a mA/\∀ f,uT (fs.lookup f) (mA f)
 | .rng lo hi=>∃ t u v,h.get? a=some { cls:=.type "range",data:=.fields #[.int lo t,.int hi u,.int 1 v] }
 | .Av o u=>h.get? a=some o/\eE H h a u
 | .U0 ps=>h.get? a=some { cls:=.none,data:=.fields ps }
 | .met f x=>h.get? a=some (methodObj (.ref f) (.ref x))
 | .ext φ=>φ h/\(∃ o,h.get? a=some o)/\∀ h1 h2:Heap,φ h1->(∀ o,h1.get? a=some o->h2.get? a=some o)->φ h2
def rE (H:Hp) (h:Heap):Prop:=∀ a o,H a=some o->eE P w H h a o
end
section
variable {P:cA} {w:World} {H H':Hp} {h h':Heap} {a:aB} {o:HO}
theorem eE.lt (x:eE P w H h a o):a < h.objs.size:=by
 cases o with
 | lst xs=>obtain ⟨_,_,_,_,e⟩:=x; exact Heap.lt_size e
 | tup xs=>obtain ⟨_,_,_,p⟩:=x; exact p.lt
 | dK kvs=>obtain ⟨_,_,_,_,o,_,_,e,_⟩:=x; exact Heap.lt_size e
 | dT kvs=>obtain ⟨_,_,_,_,o,_,_,e,_⟩:=x; exact Heap.lt_size e
 | set S n=>obtain ⟨o,_,_,_,e,_⟩:=x; exact Heap.lt_size e
 | ins C dx fs=>obtain ⟨_,_,_,e,_⟩:=x; exact Heap.lt_size e
 | own y=>obtain ⟨_,e⟩:=x; exact Heap.lt_size e
 | xd fs=>obtain ⟨_,⟨_,_,_,e,_⟩,_⟩:=x; exact Heap.lt_size e
 | rng lo hi=>obtain ⟨_,_,_,e⟩:=x; exact Heap.lt_size e
 | Av ob u=>obtain ⟨e,_⟩:=x; exact Heap.lt_size e
 | U0 ps=>exact Heap.lt_size (show h.get? a=some _ from x)
 | met f y=>exact Heap.lt_size (show h.get? a=some _ from x)
 | ext φ=>obtain ⟨_,⟨_,e⟩,_⟩:=x; exact Heap.lt_size e
theorem Paired.ig {α β:Type} {F G:α->β->Prop}:∀ {l₁:List α} {l₂:List β},Paired F l₁ l₂->(∀ a b,F a b->G a b)->Paired G l₁ l₂
 | _,_,.nil,_=>.nil
 | _,_,.cons r t,f=>.cons (f _ _ r) (Paired.ig t f)
theorem eE.stay (x:eE P w H h a o) (k:∀ b u,(b=a\/H b=some (.own a))->h.get? b=some u->h'.get? b=some u) (ho:∀ b,H b=some (.own a)->H' b=some (.own a)) (ht:∀ b xs,H b=some (.tup xs)->H' b=some (.tup xs)):eE P w H' h' a o:=by
 induction o with
 | lst xs=>obtain ⟨z,its,n,r,e⟩:=x; exact ⟨z,its,n,r,k _ _ (.inl rfl) e⟩
 | tup xs=>obtain ⟨z,its,r,ob,e,c⟩:=x; exact ⟨z,its,r,ob,k _ _ (.inl rfl) e,c⟩
 | dK kvs=>obtain ⟨z,y,vs,r,ob,es,ep,e,c⟩:=x; exact ⟨z,y,vs,r,ob,es,ep,k _ _ (.inl rfl) e,c⟩
 | dT kvs =>
  obtain ⟨z,y,xs,r,ob,es,ep,e,c⟩:=x;exact ⟨z,y,xs,Paired.ig r fun p q z=>⟨z.1,ht _ _ z.2.1,z.2.2⟩,ob,es,ep,k _ _ (.inl rfl) e,c⟩
 | set S n=>obtain ⟨ob,es,ep,t,e,c⟩:=x; exact ⟨ob,es,ep,t,k _ _ (.inl rfl) e,c⟩
 | ins C dx fs =>
  obtain ⟨d,z,ne,e,mA,⟨od,es,ep,e2,c⟩,r⟩:=x;exact ⟨ho _ d,z,ne,k _ _ (.inl rfl) e,mA,⟨od,es,ep,k _ _ (.inr d) e2,c⟩,r⟩
 | own y=>obtain ⟨ob,e⟩:=x; exact ⟨ob,k _ _ (.inl rfl) e⟩
 | xd fs=>obtain ⟨mA,⟨od,es,ep,e,c⟩,r⟩:=x; exact ⟨mA,⟨od,es,ep,k _ _ (.inl rfl) e,c⟩,r⟩
 | rng lo hi=>obtain ⟨t,u,v,e⟩:=x; exact ⟨t,u,v,k _ _ (.inl rfl) e⟩
 | Av ob u ih=>obtain ⟨e,q⟩:=x; exact ⟨k _ _ (.inl rfl) e,ih q⟩
 | U0 ps =>
  have e:h.get? a=some { cls:=.none,data:=.fields ps }:=x
  show h'.get? a=some { cls:=.none,data:=.fields ps }
  exact k a _ (.inl rfl) e
 | met f y =>
  have e:h.get? a=some (methodObj (.ref f) (.ref y)):=x
  show h'.get? a=some (methodObj (.ref f) (.ref y))
  exact k a _ (.inl rfl) e
 | ext φ=>obtain ⟨p,⟨o,e⟩,st⟩:=x; exact ⟨st _ _ p fun o q=>k _ _ (.inl rfl) q,⟨o,k _ _ (.inl rfl) e⟩,st⟩
theorem rE.lt (x:rE P w H h) (e:H a=some o):a < h.objs.size:=(x a o e).lt
theorem rE.fresh (x:rE P w H h) (e:h.objs.size<=a):H a=none:=by
 cases q:H a with
 | none=>rfl
 | some u=>exact absurd (aY (x.lt q) e) (Nat.lt_irrefl _)
theorem rE.kept (x:rE P w H h) (k:∀ b u,h.get? b=some u->h'.get? b=some u):rE P w H h':=fun a o e =>
 (x a o e).stay (fun b u _ q=>k b u q) (fun _ q=>q) fun _ _ q=>q
theorem rE.laid (x:rE P w H h) (k:∀ b u,h.get? b=some u->h'.get? b=some u) (hp:h.objs.size<=a) (new:eE P w (upd H a o) h' a o):rE P w (upd H a o) h':=fun b u e=>by
 have hn:=x.fresh hp
 by_cases hb:b=a
 ·subst hb; rw [aD] at e; cases e; exact new
 ·rw [bx hb] at e;exact (x b u e).stay (fun c v _ q=>k c v q) (fun c q=>by rw [bx (dj q hn)]; exact q) fun c xs q=>by rw [bx (dj q hn)]; exact q
end
def Rd (H:Hp) (a:aB) (u:HO):Prop:=H a=some u\/∃ o,H a=some (.Av o u)
theorem Rd.ok {P:cA} {w:World} {H:Hp} {h:Heap} {a:aB} {u:HO} (r:Rd H a u) (x:rE P w H h):eE P w H h a u:=by
 rcases r with r | ⟨o,r⟩
 ·exact x a u r
 ·obtain ⟨_,q⟩:=x a _ r;exact q
def Mut:Option HO->Prop
 | some (.lst _)=>True
 | some (.dK _)=>True
 | some (.dT _)=>True
 | some (.set _ _)=>True
 | some (.ins _ _ _)=>True
 | some (.ext _)=>True
 | _=>False
section
variable {P:cA} {w:World} {H:Hp} {h h':Heap} {x e:aB} {o':HO}
theorem rE.write (ok:rE P w H h) (mu:Mut (H x)) (he:e=x\/H e=some (.own x)) (k:∀ b u,b≠e->h.get? b=some u->h'.get? b=some u) (heo:∃ u,h'.get? e=some u) (new:eE P w (upd H x o') h' x o'):rE P w (upd H x o') h':=fun b u q=>by
 have aiC:∀ c y,H c=some (.own y)->c≠x:=fun c y r z=>by subst z; rw [r] at mu; exact mu
 have ara:∀ c xs,H c=some (.tup xs)->c≠x:=fun c xs r z=>by subst z; rw [r] at mu; exact mu
 by_cases hb:b=x
 ·subst hb; rw [aD] at q; cases q; exact new
 ·rw [bx hb] at q
  by_cases hbe:b=e
  ·have q':H b=some (.own x):=by
    rcases he with z | z
    ·exact absurd (hbe.trans z) hb
    ·rw [hbe]; exact z
   rw [q] at q'; cases q';obtain ⟨v,hv⟩:=heo;exact ⟨v,by rw [hbe]; exact hv⟩
  ·refine (ok b u q).stay (fun c v hc r=>k c v ?_ r) (fun c r=>by rw [bx (aiC c b r)]; exact r) fun c xs r=>by rw [bx (ara c xs r)]; exact r
   rcases hc with rfl | hc
   ·exact hbe
   ·rintro rfl;rcases he with z | z
    ·exact aiC c b hc z
    ·rw [hc] at z; cases z; exact hb rfl
end
structure Un (fs ex:List aB) (H H':Hp) (h h':Heap):Prop where
 keep:∀ b o,h.get? b=some o->H b=none->b ∉ fs->b ∉ ex->h'.get? b=some o
 slot:∀ b o,h.get? b=some o->H b=none->b ∈ fs->b ∉ ex->∃ sl,h'.get? b=some { o with slots:=sl }
 free:∀ b o,h.get? b=some o->H b=none->b ∉ ex->H' b=none
 there:∀ b o,h.get? b=some o->b ∉ ex->∃ o',h'.get? b=some o'
 tups:∀ b xs,H b=some (.tup xs)->H' b=some (.tup xs)
 uL:∀ b o u,H b=some (.Av o u)->H' b=some (.Av o u)
 uU:∀ b ps,H b=some (.U0 ps)->∃ more,H' b=some (.U0 (ps++more))
section
variable {fs fs' ex ex':List aB} {H H1 H2:Hp} {h h1 h2 h':Heap} {a x e:aB} {o:HO}
theorem Un.any (u:Un fs ex H H1 h h1) {b:aB} {ob:Obj} (q:h.get? b=some ob) (n:H b=none) (hx:b ∉ ex):∃ sl,h1.get? b=some { ob with slots:=sl }:=by
 by_cases hb:b ∈ fs
 ·exact u.slot b ob q n hb hx
 ·exact ⟨ob.slots,u.keep b ob q n hb hx⟩
theorem Un.kept (k:∀ b u,h.get? b=some u->h'.get? b=some u):Un fs ex H H h h' := ⟨fun b ob q _ _ _=>k b ob q,fun b ob q _ _ _=>⟨ob.slots,k b ob q⟩,fun _ _ _ n _=>n,fun b ob q _=>⟨ob,k b ob q⟩,fun _ _ q=>q,fun _ _ _ q=>q,fun _ ps q=>⟨#[],by rw [q]; simp⟩⟩
theorem Un.refl:Un fs ex H H h h:=Un.kept fun _ _ q=>q
theorem Un.laid (k:∀ b u,h.get? b=some u->h'.get? b=some u) (hp:h.objs.size<=a) (hn:H a=none):Un fs ex H (upd H a o) h h' where
 keep:=fun b u q _ _ _=>k b u q
 slot:=fun b u q _ _ _=>⟨u.slots,k b u q⟩
 free:=fun b u q n _=>by rw [bx (Nat.ne_of_lt (aY (Heap.lt_size q) hp))]; exact n
 there:=fun b u q _=>⟨u,k b u q⟩
 tups:=fun b xs q=>by rw [bx (dj q hn)]; exact q
 uL:=fun b u xs q=>by rw [bx (dj q hn)]; exact q
 uU:=fun b ps q=>⟨#[],by rw [bx (dj q hn),q]; simp⟩
theorem Un.write (mu:Mut (H x)) (he:e=x\/H e=some (.own x)) (k:∀ b u,b≠e->h.get? b=some u->h'.get? b=some u) (heo:∃ u,h'.get? e=some u):Un fs ex H (upd H x o) h h':=by
 have hx:∀ b,H b=none->b≠x:=fun b n z=>by subst z; rw [n] at mu; exact mu
 have hb:∀ b,H b=none->b≠e:=fun b n z=>by
  subst z;rcases he with r | r
  ·exact hx b n r
  ·rw [n] at r; cases r
 have hm:∀ b u,H b=some u->¬ Mut (some u)->b≠x:=fun b u q nm z=>by subst z; rw [q] at mu; exact nm mu
 refine ⟨fun b u q n _ _=>k b u (hb b n) q,fun b u q n _ _=>⟨u.slots,k b u (hb b n) q⟩,fun b u q n _=>by rw [bx (hx b n)]; exact n,fun b u q _=>?_,fun b xs q=>by rw [bx (hm b _ q fun z=>z)]; exact q,fun b u xs q=>by rw [bx (hm b _ q fun z=>z)]; exact q,fun b ps q=>⟨#[],by rw [bx (hm b _ q fun z=>z),q]; simp⟩⟩
 by_cases hbe:b=e
 ·subst hbe; exact heo
 ·exact ⟨u,k b u hbe q⟩
end
def trk (h:Heap) (H:Hp):List aB:=(List.range h.objs.size).filter fun a=>(H a).isSome
def yZ (h:Heap) (H:Hp):Heap:=PySem.W.hideAll h (trk h H)
theorem Ip (h:Heap) (H:Hp):(yZ h H).objs.size=h.objs.size:=PySem.W.hideAll_size _ _
theorem Kv {h:Heap} {H:Hp} {b:aB} {o:Obj} (e:h.get? b=some o) (n:H b=none):(yZ h H).get? b=some o := PySem.W.hideAll_get _ e fun hm=>by
 have q:(H b).isSome=true:=(mem_filter.mp hm).2;rw [n] at q; simp at q
theorem Rj {h:Heap} {H:Hp} {b:aB} {o:Obj} (e:(yZ h H).get? b=some o):h.get? b=some o/\H b=none:=by
 have e':h.get? b=some o:=PySem.W.of_hideAll (trk h H) e;refine ⟨e',?_⟩;cases q:H b with
 | none=>rfl
 | some x =>
  have hm:b ∈ trk h H:=mem_filter.mpr ⟨mem_range.mpr (Heap.lt_size e'),by simp [q]⟩;have z:(yZ h H).get? b=none:=PySem.W.hideAll_none (trk h H) hm;rw [z] at e; cases e
structure Mod (K:Fg) (mg:Str->Option aA) (base:Heap):Prop where
 Ea:K.In base
 glob:base.Ns mainGlobals mg
 blt:∃ mb,base.Ns builtinsNs mb/\∀ x:Str,x≠"__name__"->mb x=bootBuiltins x
 nolimit:base.NoLimit
structure Cx where
 prog:cA
 w:World
 K:Fg
 mg:Str->Option aA
 base:Heap
 A:c7
 N:List Str
 s₀:aQ
 H₀:Hp
 env:Env
 outer:List Env
 stack:List Env
 ex:List aB
 fn:Str->Bool
 calm:Bool
 pn:List (aB × Obj)
 xe:aA->aQ->Prop
def frs (l:List Env):List aB:=l.filterMap (·.frame)
abbrev Cx.fs (X:Cx):List aB:=frs X.outer
def Vis (sc:Scope) (x:Str):Prop:=sc.names.lookup x=some .local\/sc.names.lookup x=some .cell\/sc.names.lookup x=some .free
def Loc (sc:Scope) (x:Str):Prop:=sc.names.lookup x=some .local\/sc.names.lookup x=some .cell
noncomputable def Look (env:Env) (h:Heap) (m:Str->Option aA) (x:Str) (u:aA):Prop := (env.kindOf x=some .local/\m x=some u)\/((env.kindOf x=some .cell\/env.kindOf x=some .free)/\∃ c,env.cells.lookup x=some c/\h.IsCell c (some u))
structure Cx.Ok (X:Cx):Prop where
 mod:Mod X.K X.mg X.base
 kind:X.env.scope.kind=.function
 glob:X.env.globals=mainGlobals
 blt:X.env.builtins=builtinsNs
 above:X.s₀.heap.objs.size<=X.env.locals
 inj:∀ x y c,X.env.cells.lookup x=some c->X.env.cells.lookup y=some c->x=y
 has:∀ x,(X.env.kindOf x=some .cell\/X.env.kindOf x=some .free)->∃ c,X.env.cells.lookup x=some c
 cab:∀ x c,X.fn x=true->X.env.cells.lookup x=some c->X.s₀.heap.objs.size<=c
 hd:X.calm=true->X.A.handled=none
 frames:X.A.frames=some X.stack
 stk:X.stack=X.outer\/(X.stack=X.env::X.outer/\X.env.frame=some X.env.locals)
 exf:∀ b ∈ X.ex,b≠X.env.locals/\∀ x c,X.env.cells.lookup x=some c->c≠b
 bs:∀ b o,X.base.get? b=some o->X.s₀.heap.get? b=some o/\X.H₀ b=none
 Kc:X.base.objs.size<=X.s₀.heap.objs.size
 Ir:∀ b o,X.base.get? b=some o->b ∉ X.ex
 Kw:∀ b ∈ X.ex,b ∉ X.fs
 oV:X.s₀.heap.FunFrames X.base X.outer
 Rk:∀ b ∈ X.fs,X.H₀ b=none
structure Inv (X:Cx) (pins:List (aB × Obj)) (σ:List (Option V)) (H:Hp) (s:aQ):Prop where
 ok:X.Ok
 os:s.os=X.s₀.os
 bare:AllBare s.gens
 base:Un X.fs X.ex X.H₀ H X.s₀.heap s.heap
 loc:∃ m,s.heap.Ns X.env.locals m/\∀ (i:Nat) (x:Str) (v:V),X.N[i]?=some x->σ[i]?=some (some v)->Vis X.env.scope x->∃ u,RelV v u/\Look X.env s.heap m x u
 cell:∀ x c,X.env.cells.lookup x=some c->∃ v,s.heap.IsCell c v
 free:H X.env.locals=none
 iY:∀ x c,X.env.cells.lookup x=some c->H c=none
 pin:∀ p ∈ X.pn++pins,s.heap.get? p.1=some p.2/\H p.1=none/\p.1≠X.env.locals/\p.1 ∉ X.fs/\∀ v,p.2.data≠.cell v
 hok:rE X.prog X.w H s.heap
 len:σ.length=X.N.length
section
variable {X:Cx} {pins:List (aB × Obj)} {σ:List (Option V)} {H H':Hp} {s:aQ} {h':Heap}
theorem Cx.Ok.arf (ok:X.Ok) {b:aB} {o:Obj} (e:X.base.get? b=some o):b ∉ X.fs:=fun hb=>by
 have:=(ok.oV.mem hb).1;rw [e] at this; cases this
theorem Inv.bs (I:Inv X pins σ H s):∀ b o,X.base.get? b=some o->s.heap.get? b=some o/\H b=none:=fun b o e =>
 ⟨I.base.keep b o (I.ok.bs b o e).1 (I.ok.bs b o e).2 (I.ok.arf e) (I.ok.Ir b o e),I.base.free b o (I.ok.bs b o e).1 (I.ok.bs b o e).2 (I.ok.Ir b o e)⟩
theorem Inv.bk (I:Inv X pins σ H s):∀ b o,X.base.get? b=some o->s.heap.get? b=some o:=fun b o e=>(I.bs b o e).1
theorem Inv.mod (I:Inv X pins σ H s):Mod X.K X.mg X.base:=I.ok.mod
theorem Inv.j7 (I:Inv X pins σ H s):X.K.In s.heap:=I.ok.mod.Ea.keeps I.bk
theorem Inv.fr (I:Inv X pins σ H s):∃ m,Fr X.base X.env.locals s.heap m := let ⟨m,hn,_⟩:=I.loc
 ⟨m,hn,I.bk,bh I.ok.Kc I.ok.above⟩
theorem Inv.lt (I:Inv X pins σ H s):X.env.locals < s.heap.objs.size:=let ⟨_,hn,_⟩:=I.loc; hn.lt
theorem Inv.sz (I:Inv X pins σ H s):X.s₀.heap.objs.size<=s.heap.objs.size:=bh I.ok.above (Nat.le_of_lt I.lt)
theorem Inv.arh (I:Inv X pins σ H s) {a:aB} (h:s.heap.objs.size<=a):a ∉ X.fs:=fun hb=>by
 obtain ⟨_,o,ho,_⟩:=I.ok.oV.mem hb;exact absurd (aY (Heap.lt_size ho) (bh I.sz h)) (Nat.lt_irrefl _)
theorem Inv.U3 (I:Inv X pins σ H s):∀ x c,X.env.cells.lookup x=some c->c≠X.env.locals:=fun x c e z=>by
 obtain ⟨v,o,ho,hd⟩:=I.cell x c e;obtain ⟨m,⟨o',es,ep,ho',hd',_⟩,_⟩:=I.loc;rw [z,ho'] at ho; cases ho; rw [hd'] at hd; cases hd
theorem Inv.oV (I:Inv X pins σ H s):s.heap.FunFrames X.base X.outer:=by
 have all:∀ (l:List Env),(∀ b ∈ frs l,b ∈ X.fs)->X.s₀.heap.FunFrames X.base l->s.heap.FunFrames X.base l:=by
  intro l
  induction l with
  | nil=>intro _ _; trivial
  | cons env r ih =>
   intro hs hl;obtain ⟨hk,⟨L,o,hf,hn,ho,hd⟩,hr⟩:=hl;have hL:L ∈ X.fs:=hs L (by unfold frs; rw [List.filterMap_cons,hf]; exact mem_cons_self);obtain ⟨sl,e⟩:=I.base.slot L o ho (I.ok.Rk L hL) hL fun z=>I.ok.Kw L z hL
   exact ⟨hk,⟨L,_,hf,hn,e,hd⟩,ih (fun b hb=>hs b (by unfold frs; rw [List.filterMap_cons,hf]; exact mem_cons_of_mem _ hb)) hr⟩
 exact all X.outer (fun _ hb=>hb) I.ok.oV
theorem Inv.stack (I:Inv X pins σ H s):s.heap.FunFrames X.base X.stack:=by
 rcases I.ok.stk with e | ⟨e,hf⟩
 ·rw [e]; exact I.oV
 ·rw [e];obtain ⟨m,hn,_⟩:=I.loc;refine .cons (by rw [I.ok.kind]; decide) hf hn ?_ I.oV;exact Heap.get?_none_of_le (bh I.ok.Kc I.ok.above)
theorem Inv.rG (I:Inv X pins σ H s):∀ b ∈ frs X.stack,b ∈ X.env.locals::X.fs:=fun b hb=>by
 rcases I.ok.stk with e | ⟨e,hf⟩
 ·rw [e] at hb; exact mem_cons_of_mem _ hb
 ·rw [e] at hb;unfold frs at hb;rw [List.filterMap_cons,hf] at hb;exact hb
theorem Inv.za (I:Inv X pins σ H s):∀ b ∈ frs X.stack,H b=none:=fun b hb=>by
 rcases aO.mp (I.rG b hb) with e | hb
 ·rw [e]; exact I.free
 ·obtain ⟨_,o,ho,_⟩:=I.ok.oV.mem hb;exact I.base.free b o ho (I.ok.Rk b hb) fun z=>I.ok.Kw b z hb
theorem Inv.step {g':Array GenState} {t':Nat} {d':Drawn} {ch:List aB} (I:Inv X pins σ H s) (hch:∀ b ∈ ch,(b ∈ X.ex\/X.s₀.heap.objs.size<=b)/\b≠X.env.locals/\(∀ x c,X.env.cells.lookup x=some c->c≠b)/\∀ p ∈ X.pn++pins,p.1≠b) (keep:∀ b o,b≠X.env.locals->b ∉ X.fs->b ∉ ch->s.heap.get? b=some o->H b=none->h'.get? b=some o) (slot:∀ b o,b≠X.env.locals->b ∈ X.fs->b ∉ ch->s.heap.get? b=some o->H b=none->∃ sl,h'.get? b=some { o with slots:=sl }) (free:∀ b o,b ∉ ch->s.heap.get? b=some o->H b=none->H' b=none) (there:∀ b o,b ∉ ch->s.heap.get? b=some o->∃ o',h'.get? b=some o') (tups:∀ b xs,H b=some (.tup xs)->H' b=some (.tup xs)) (uL:∀ b o u,H b=some (.Av o u)->H' b=some (.Av o u)) (uU:∀ b ps,H b=some (.U0 ps)->∃ more,H' b=some (.U0 (ps++more))) (ns:∀ m,s.heap.Ns X.env.locals m->h'.Ns X.env.locals m) (hok:rE X.prog X.w H' h') (hg:AllBare g') : Inv X pins σ H' { s with heap:=h',gens:=g',drawn:=d',toks:=t' }:=by
 have U4:∀ b o,X.s₀.heap.get? b=some o->b≠X.env.locals:=fun b o e=>Nat.ne_of_lt (aY (Heap.lt_size e) I.ok.above)
 have U5:∀ b o,X.s₀.heap.get? b=some o->b ∉ X.ex->b ∉ ch:=fun b o e hx hb=>by
  rcases (hch b hb).1 with z | z
  ·exact hx z
  ·exact absurd (aY (Heap.lt_size e) z) (Nat.lt_irrefl _)
 have cellK:∀ x c,X.env.cells.lookup x=some c->∀ v,s.heap.IsCell c v->h'.IsCell c v:=fun x c e v ⟨o,ho,hd⟩=>by
  have Ky:c ∉ ch:=fun z=>(hch c z).2.2.1 x c e rfl
  by_cases hc:c ∈ X.fs
  ·obtain ⟨sl,q⟩:=slot c o (I.U3 x c e) hc Ky ho (I.iY x c e);exact ⟨_,q,hd⟩
  ·exact ⟨o,keep c o (I.U3 x c e) hc Ky ho (I.iY x c e),hd⟩
 refine ⟨I.ok,I.os,hg,⟨fun b o e n hb hx=>?_,fun b o e n hb hx=>?_,fun b o e n hx=>?_,fun b o e hx=>?_,fun b xs e=>tups b xs (I.base.tups b xs e),fun b o xs e=>uL b o xs (I.base.uL b o xs e),fun b ps e=>?_⟩,?_,fun x c e=>?_,?_,fun x c e=>?_,fun p hp=>?_,hok,I.len⟩
 ·exact keep b o (U4 b o e) hb (U5 b o e hx) (I.base.keep b o e n hb hx) (I.base.free b o e n hx)
 ·obtain ⟨sl,e1⟩:=I.base.slot b o e n hb hx;obtain ⟨sl',e2⟩:=slot b _ (U4 b o e) hb (U5 b o e hx) e1 (I.base.free b o e n hx);exact ⟨sl',e2⟩
 ·obtain ⟨o',e1⟩:=I.base.there b o e hx;exact free b o' (U5 b o e hx) e1 (I.base.free b o e n hx)
 ·obtain ⟨o',e1⟩:=I.base.there b o e hx;exact there b o' (U5 b o e hx) e1
 ·obtain ⟨m1,e1⟩:=I.base.uU b ps e;obtain ⟨m2,e2⟩:=uU b _ e1;exact ⟨m1++m2,by rw [e2,Array.append_assoc]⟩
 ·obtain ⟨m,hn,hl⟩:=I.loc;refine ⟨m,ns m hn,fun i x v e1 e2 e3=>?_⟩;obtain ⟨u,r,l⟩:=hl i x v e1 e2 e3;refine ⟨u,r,?_⟩;rcases l with l | ⟨k,c,e,z⟩
  ·exact .inl l
  ·exact .inr ⟨k,c,e,cellK x c e _ z⟩
 ·obtain ⟨v,z⟩:=I.cell x c e;exact ⟨v,cellK x c e v z⟩
 ·obtain ⟨m,⟨o,_,_,ho,_⟩,_⟩:=I.loc;exact free _ o (fun z=>(hch _ z).2.1 rfl) ho I.free
 ·obtain ⟨v,o,ho,hd⟩:=I.cell x c e;exact free c o (fun z=>(hch c z).2.2.1 x c e rfl) ho (I.iY x c e)
 ·obtain ⟨e,n,ne,nf,d⟩:=I.pin p hp;have Ky:p.1 ∉ ch:=fun z=>(hch p.1 z).2.2.2 p hp rfl
  exact ⟨keep p.1 p.2 ne nf Ky e n,free p.1 p.2 Ky e n,ne,nf,d⟩
theorem Inv.un {t':Nat} (I:Inv X pins σ H s) (u:Un X.fs [] H H' s.heap h') (hok:rE X.prog X.w H' h'):Inv X pins σ H' { s with heap:=h',toks:=t' }:=by
 obtain ⟨m,⟨o,es,ep,ho,r⟩,_⟩:=id I.loc;obtain ⟨sl,hL⟩:=u.any ho I.free (by simp);exact I.step (g':=s.gens) (d':=s.drawn) (ch:=[]) (fun _ z=>nomatch z) (fun b o _ hb _ e n=>u.keep b o e n hb (by simp)) (fun b o _ hb _ e n=>u.slot b o e n hb (by simp)) (fun b o _ e n=>u.free b o e n (by simp)) (fun b o _ e=>u.there b o e (by simp)) u.tups u.uL u.uU (fun m' hm=>by
  obtain ⟨o',es',ep',ho',r'⟩:=hm;rw [ho] at ho'; cases ho';exact ⟨_,es',ep',hL,r'⟩) hok I.bare
theorem Inv.call {g':Array GenState} {t':Nat} {d':Drawn} {ch:List aB} (I:Inv X pins σ H s) (u:Un (frs X.stack) ch H H' s.heap h') (hok:rE X.prog X.w H' h') (hg:AllBare g') (hch:∀ b ∈ ch,(b ∈ X.ex\/X.s₀.heap.objs.size<=b)/\b≠X.env.locals/\(∀ x c,X.env.cells.lookup x=some c->c≠b)/\∀ p ∈ X.pn++pins,p.1≠b) : Inv X pins σ H' { s with heap:=h',gens:=g',drawn:=d',toks:=t' }:=by
 obtain ⟨m,⟨o,es,ep,ho,r⟩,_⟩:=id I.loc;obtain ⟨sl,hL⟩:=u.any ho I.free fun z=>(hch _ z).2.1 rfl
 exact I.step (ch:=ch) hch (fun b o hL hb hc e n=>u.keep b o e n (fun z=>(aO.mp (I.rG b z)).elim hL hb) hc) (fun b o _ _ hc e n=>u.any e n hc) (fun b o hc e n=>u.free b o e n hc) (fun b o hc e=>u.there b o e hc) u.tups u.uL u.uU (fun m' hm=>by
  obtain ⟨o',es',ep',ho',r'⟩:=hm;rw [ho] at ho'; cases ho';exact ⟨_,es',ep',hL,r'⟩) hok hg
theorem Inv.turned {t':Nat} {it:aB} (I:Inv X pins σ H s) (k:∀ b o,b≠it->s.heap.get? b=some o->h'.get? b=some o) (hn:H it=none) (hL:it≠X.env.locals) (h1:it ∈ X.ex\/X.s₀.heap.objs.size<=it) (h2:∀ x c,X.env.cells.lookup x=some c->c≠it) (h3:∀ p ∈ X.pn++pins,p.1≠it):Inv X pins σ H { s with heap:=h',toks:=t' }:=by
 have nit:∀ b u,H b=some u->b≠it:=fun b u e z=>by rw [z,hn] at e; cases e
 refine I.step (g':=s.gens) (d':=s.drawn) (ch:=[it]) (fun b hb=>?_) (fun b o _ _ hc e _=>k b o (fun z=>hc (by simp [z])) e) (fun b o _ _ hc e _=>⟨o.slots,k b o (fun z=>hc (by simp [z])) e⟩) (fun _ _ _ _ n=>n) (fun b o hc e=>⟨o,k b o (fun z=>hc (by simp [z])) e⟩) (fun _ _ e=>e) (fun _ _ _ e=>e) (fun b ps e=>⟨#[],by rw [e]; simp⟩) (fun m hm=>?_) (fun b u e=>?_) I.bare
 ·have e:b=it:=by simpa using hb
  subst e;exact ⟨h1,hL,h2,h3⟩
 ·obtain ⟨o,es,ep,ho,r⟩:=hm;exact ⟨o,es,ep,k _ o (Ne.symm hL) ho,r⟩
 ·refine (I.hok b u e).stay (fun c v hc q=>k c v ?_ q) (fun _ q=>q) fun _ _ q=>q
  rcases hc with z | z
  ·rw [z]; exact nit b u e
  ·exact nit c _ z
theorem Inv.tok (I:Inv X pins σ H s) (t:Nat):Inv X pins σ H { s with toks:=t }:=I.un (h':=s.heap) (t':=t) Un.refl I.hok
theorem Inv.kept {t':Nat} (I:Inv X pins σ H s) (k:∀ b u,s.heap.get? b=some u->h'.get? b=some u):Inv X pins σ H { s with heap:=h',toks:=t' }:=I.un (Un.kept k) (I.hok.kept k)
theorem Inv.laid {a:aB} {o:HO} {t':Nat} (I:Inv X pins σ H s) (k:∀ b u,s.heap.get? b=some u->h'.get? b=some u) (hp:s.heap.objs.size<=a) (new:eE X.prog X.w (upd H a o) h' a o) : Inv X pins σ (upd H a o) { s with heap:=h',toks:=t' }:=I.un (Un.laid k hp (I.hok.fresh hp)) (I.hok.laid k hp new)
theorem Inv.write {x e:aB} {o:HO} {t':Nat} (I:Inv X pins σ H s) (mu:Mut (H x)) (he:e=x\/H e=some (.own x)) (k:∀ b u,b≠e->s.heap.get? b=some u->h'.get? b=some u) (heo:∃ u,h'.get? e=some u) (new:eE X.prog X.w (upd H x o) h' x o):Inv X pins σ (upd H x o) { s with heap:=h',toks:=t' }:=I.un (Un.write mu he k heo) (I.hok.write mu he k heo new)
theorem Inv.weak {σ':List (Option V)} (I:Inv X pins σ H s) (hl:σ'.length=σ.length) (w:∀ (i:Nat) v,σ'[i]?=some (some v)->σ[i]?=some (some v)):Inv X pins σ' H s := ⟨I.ok,I.os,I.bare,I.base,let ⟨m,hn,hl'⟩:=I.loc; ⟨m,hn,fun i x v e1 e2 e3=>hl' i x v e1 (w i v e2) e3⟩,I.cell,I.free,I.iY,I.pin,I.hok,hl.trans I.len⟩
theorem Inv.GC {j8:List (aB × Obj)} (I:Inv X pins σ H s) (h:∀ p ∈ j8,s.heap.get? p.1=some p.2/\H p.1=none/\p.1≠X.env.locals/\p.1 ∉ X.fs/\∀ v,p.2.data≠.cell v):Inv X j8 σ H s := ⟨I.ok,I.os,I.bare,I.base,I.loc,I.cell,I.free,I.iY,fun p hp=>(mem_append.mp hp).elim (fun z=>I.pin p (mem_append_left _ z)) (h p),I.hok,I.len⟩
theorem Aw {N:List Str} (hN:N.Nodup) {i j:Nat} {x:Str} (a:N[i]?=some x) (b:N[j]?=some x):i=j:=by
 obtain ⟨h1,e1⟩:=aX.mp a;obtain ⟨h2,e2⟩:=aX.mp b;exact (List.getElem_inj hN).mp (e1.trans e2.symm)
theorem xO {M:Model} {A:c7} {E:aA->aQ->Prop} {i:Nat} {x:Str} {v:V} {u:aA} {Q:Unit->aQ->Prop} (I:Inv X pins σ H s) (hN:X.N.Nodup) (hi:X.N[i]?=some x) (hx:Loc X.env.scope x) (r:RelV v u) (h:∀ s',Inv X pins (σ.set i (some v)) H s'->(∃ a,Heap.SameBut a s.heap s'.heap/\(a=X.env.locals\/X.env.cells.lookup x=some a))->Q () s') (hf:autoParam (X.fn x=true\/X.env.scope.names.lookup x=some .local) zau2):wpAny M A (storeName X.env x u) Q E s:=by
 obtain ⟨m,hn,hl⟩:=id I.loc;have hcls:(X.env.scope.kind == .class || (X.env.scope.kind == .module && X.env.locals != X.env.globals))=false:=by rw [I.ok.kind]; rfl
 have hiσ:i < σ.length:=by rw [I.len]; exact (aX.mp hi).1
 have U3:=I.U3;have tracked:∀ {a:aB} {h':Heap},(∃ o,s.heap.get? a=some o/\H a=none)->Heap.SameBut a s.heap h'->rE X.prog X.w H h':=fun {a h'} ha hs b ob e=>by
  obtain ⟨_,_,hfree⟩:=ha;refine (I.hok b ob e).stay (fun c w' hc q=>(hs.2 c ?_).trans q) (fun _ q=>q) fun _ _ q=>q
  rintro rfl;rcases hc with rfl | hc
  ·rw [hfree] at e; cases e
  ·rw [hfree] at hc; cases hc
 rcases hx with hk | hk
 ·refine wpAny_storeName_local hk hn (fun h' hn' hs=>?_) hcls;obtain ⟨oL,_,_,hoL,_⟩:=id hn;refine h _ ⟨I.ok,I.os,I.bare,⟨fun b o e n hb hx=>?_,fun b o e n hb hx=>?_,I.base.free,fun b o e hx=>?_,I.base.tups,I.base.uL,I.base.uU⟩,⟨_,hn',fun j y v' e1 e2 e3=>?_⟩,fun y c e=>?_,I.free,I.iY,fun p hp=>?_,tracked ⟨oL,hoL,I.free⟩ hs,by simpa using I.len⟩ ⟨_,hs,.inl rfl⟩
  ·exact (hs.2 b (Nat.ne_of_lt (aY (Heap.lt_size e) I.ok.above))).trans (I.base.keep b o e n hb hx)
  ·obtain ⟨sl,e1⟩:=I.base.slot b o e n hb hx;exact ⟨sl,(hs.2 b (Nat.ne_of_lt (aY (Heap.lt_size e) I.ok.above))).trans e1⟩
  ·obtain ⟨o',e1⟩:=I.base.there b o e hx;exact ⟨o',(hs.2 b (Nat.ne_of_lt (aY (Heap.lt_size e) I.ok.above))).trans e1⟩
  ·by_cases hj:j=i
   ·subst hj;rw [hi] at e1; cases e1;rw [List.getElem?_set_self hiσ] at e2;cases e2;exact ⟨u,r,.inl ⟨hk,by simp⟩⟩
   ·rw [List.getElem?_set_ne (Ne.symm hj)] at e2;obtain ⟨u',r',q⟩:=hl j y v' e1 e2 e3;refine ⟨u',r',?_⟩;rcases q with ⟨k,e⟩ | ⟨k,c,e,z⟩
    ·refine .inl ⟨k,?_⟩;have:y≠x:=fun e=>hj (Aw hN e1 (e ▸ hi))
     simp [this,e]
    ·exact .inr ⟨k,c,e,z.sameBut hs (U3 y c e)⟩
  ·obtain ⟨w',z⟩:=I.cell y c e;exact ⟨w',z.sameBut hs (U3 y c e)⟩
  ·obtain ⟨e,n,ne,nf,d⟩:=I.pin p hp;exact ⟨(hs.2 p.1 ne).trans e,n,ne,nf,d⟩
 ·have hfn:X.fn x=true:=by
   rcases hf with z | z
   ·exact z
   ·rw [z] at hk; cases hk
  obtain ⟨c,hc⟩:=I.ok.has x (.inl hk);obtain ⟨w',z⟩:=I.cell x c hc;refine wpAny_storeName_cell I.ok.kind hk hc z (fun h' hc' hs=>?_);obtain ⟨oc,hoc,ari⟩:=id z;refine h { s with heap:=h' } ⟨I.ok,I.os,I.bare,⟨fun b o e n hb hx=>?_,fun b o e n hb hx=>?_,I.base.free,fun b o e hx=>?_,I.base.tups,I.base.uL,I.base.uU⟩,⟨m,hn.sameBut hs (Ne.symm (U3 x c hc)),fun j y v' e1 e2 e3=>?_⟩,fun y c' e=>?_,I.free,I.iY,fun p hp=>?_,tracked ⟨oc,hoc,I.iY x c hc⟩ hs,by simpa using I.len⟩ ⟨c,hs,.inr hc⟩
  ·exact (hs.2 b (Nat.ne_of_lt (aY (Heap.lt_size e) (I.ok.cab x c hfn hc)))).trans (I.base.keep b o e n hb hx)
  ·obtain ⟨sl,e1⟩:=I.base.slot b o e n hb hx;exact ⟨sl,(hs.2 b (Nat.ne_of_lt (aY (Heap.lt_size e) (I.ok.cab x c hfn hc)))).trans e1⟩
  ·obtain ⟨o',e1⟩:=I.base.there b o e hx;exact ⟨o',(hs.2 b (Nat.ne_of_lt (aY (Heap.lt_size e) (I.ok.cab x c hfn hc)))).trans e1⟩
  ·by_cases hj:j=i
   ·subst hj;rw [hi] at e1; cases e1;rw [List.getElem?_set_self hiσ] at e2;cases e2;exact ⟨u,r,.inr ⟨.inl hk,c,hc,hc'⟩⟩
   ·rw [List.getElem?_set_ne (Ne.symm hj)] at e2;obtain ⟨u',r',q⟩:=hl j y v' e1 e2 e3;refine ⟨u',r',?_⟩;rcases q with q | ⟨k,c',e,z'⟩
    ·exact .inl q
    ·refine .inr ⟨k,c',e,z'.sameBut hs ?_⟩;rintro rfl;exact hj (Aw hN e1 (I.ok.inj _ _ _ e hc ▸ hi))
  ·by_cases hcc:c'=c
   ·subst hcc; exact ⟨_,hc'⟩
   ·obtain ⟨w2,z2⟩:=I.cell y c' e;exact ⟨w2,z2.sameBut hs hcc⟩
  ·obtain ⟨e,n,ne,nf,d⟩:=I.pin p hp;refine ⟨(hs.2 p.1 ?_).trans e,n,ne,nf,d⟩;intro q;rw [q,hoc] at e;have q':oc=p.2:=cu e;exact d w' (by rw [<- q']; exact ari)
theorem mU {M:Model} {A:c7} {E:aA->aQ->Prop} {i:Nat} {x:Str} {v:V} {u:aA} {Q:Unit->aQ->Prop} (I:Inv X pins σ H s) (hN:X.N.Nodup) (hi:X.N[i]?=some x) (hx:Loc X.env.scope x) (r:RelV v u) (h:∀ s',Inv X pins (σ.set i (some v)) H s'->Q () s') (hf:autoParam (X.fn x=true\/X.env.scope.names.lookup x=some .local) zau2):wpAny M A (storeName X.env x u) Q E s := xO I hN hi hx r (fun s' I' _=>h s' I') hf
theorem Inv.call' {s':aQ} {ch:List aB} (I:Inv X pins σ H s) (ho:s'.os=s.os) (u:Un (frs X.stack) ch H H' s.heap s'.heap) (hok:rE X.prog X.w H' s'.heap) (hg:AllBare s'.gens) (hch:∀ b ∈ ch,(b ∈ X.ex\/X.s₀.heap.objs.size<=b)/\b≠X.env.locals/\(∀ x c,X.env.cells.lookup x=some c->c≠b)/\∀ p ∈ X.pn++pins,p.1≠b):Inv X pins σ H' s':=by
 obtain ⟨h',g',d',t',o'⟩:=s';have e:o'=s.os:=ho;subst e;exact I.call (g':=g') (t':=t') (d':=d') u hok hg hch
end
abbrev XK:=aA->Option aB->Hp->Prop
abbrev St:=List (Option V)
abbrev VK:=V->Hp->Prop
abbrev TE:=St->Hp->VK->Prop
abbrev TT:=St->Hp->(Bool->Hp->Prop)->Prop
abbrev TA:=St->Hp->(List V->Hp->Prop)->Prop
structure Ends where
 nx:St->Hp->Prop
 rt:VK
 bk:St->Hp->Prop:=fun _ _=>False
 ct:St->Hp->Prop:=fun _ _=>False
abbrev TS:=Ends->St->Hp->Prop
def EP (X:Cx) (pins:List (aB × Obj)) (σ:St) (Q:VK) (u:aA) (s':aQ):Prop:=∃ v H',Inv X pins σ H' s'/\RelV v u/\Q v H'
def TP (X:Cx) (pins:List (aB × Obj)) (σ:St) (Q:Bool->Hp->Prop) (b:Bool) (s':aQ):Prop:=∃ H',Inv X pins σ H' s'/\Q b H'
def AP (X:Cx) (pins:List (aB × Obj)) (σ:St) (Q:List V->Hp->Prop) (us:List aA) (s':aQ):Prop:=∃ vs H',Inv X pins σ H' s'/\Vals vs us/\Q vs H'
noncomputable def SP (X:Cx) (pins:List (aB × Obj)) (D:Ends) (f:Flow) (s':aQ):Prop := match f with
 | .next=>∃ σ' H',Inv X pins σ' H' s'/\D.nx σ' H'
 | .brk=>∃ σ' H',Inv X pins σ' H' s'/\D.bk σ' H'
 | .cont=>∃ σ' H',Inv X pins σ' H' s'/\D.ct σ' H'
 | .ret u=>∃ v σ' H',Inv X pins σ' H' s'/\RelV v u/\D.rt v H'
def PE (X:Cx) (e:Expr) (t:TE):Prop := ∀ (pins:List (aB × Obj)) (s:aQ) (σ:St) (H:Hp) (Q:VK),Inv X pins σ H s->t σ H Q->wpAny (model X.prog X.w) X.A (eval e X.env) (EP X pins σ Q) X.xe s
noncomputable def PT (X:Cx) (e:Expr) (t:TT):Prop := ∀ (pins:List (aB × Obj)) (s:aQ) (σ:St) (H:Hp) (Q:Bool->Hp->Prop),Inv X pins σ H s->t σ H Q->wpAny (model X.prog X.w) X.A (isTrue e X.env (eval e X.env)) (TP X pins σ Q) X.xe s
noncomputable def PW (X:Cx) (e:Expr) (t:TT):Prop := ∀ (whole:Sem aA) (pins:List (aB × Obj)) (s:aQ) (σ:St) (H:Hp) (Q:Bool->Hp->Prop),Inv X pins σ H s->t σ H Q->wpAny (model X.prog X.w) X.A (isTrue e X.env whole) (TP X pins σ Q) X.xe s
theorem PW.pt {X:Cx} {e:Expr} {t:TT} (h:PW X e t):PT X e t:=h _
noncomputable def PA (X:Cx) (es:List Expr) (t:TA):Prop := ∀ (pos:Pos) (pins:List (aB × Obj)) (s:aQ) (σ:St) (H:Hp) (Q:List V->Hp->Prop),Inv X pins σ H s->t σ H Q->wpAny (model X.prog X.w) X.A (spliced (backTo pos (starEach es X.env))) (AP X pins σ Q) X.xe s
def PS (X:Cx) (st:cY) (t:TS):Prop := ∀ (pins:List (aB × Obj)) (s:aQ) (σ:St) (H:Hp) (D:Ends),Inv X pins σ H s->t D σ H->wpAny (model X.prog X.w) X.A (exec st X.env) (SP X pins D) X.xe s
def xP (X:Cx) (st:List cY) (t:TS):Prop := ∀ (pins:List (aB × Obj)) (s:aQ) (σ:St) (H:Hp) (D:Ends),Inv X pins σ H s->t D σ H->wpAny (model X.prog X.w) X.A (execs st X.env) (SP X pins D) X.xe s
theorem d9 {α:Type} {t:Sem α} {Q Q':α->aQ->Prop} {M:Model} {A:c7} {E:aA->aQ->Prop} {s:aQ} (h:wpAny M A t Q E s) (hQ:∀ a s,Q a s->Q' a s):wpAny M A t Q' E s:=bW h hQ fun _ _ x=>x
section
variable {X:Cx}
theorem bin {a b:Expr} {ta tb:TE} (ha:PE X a ta) (hb:PE X b tb) {pins:List (aB × Obj)} {s:aQ} {σ:St} {H:Hp} {R:V->V->Hp->Prop} (I:Inv X pins σ H s) (h:ta σ H fun x H1=>tb σ H1 fun y H2=>R x y H2) {α:Type} {Q:α->aQ->Prop} {f:aA->aA->Sem α} (hf:∀ v u s2 x y H2,Inv X pins σ H2 s2->RelV x v->RelV y u->R x y H2->wpAny (model X.prog X.w) X.A (f v u) Q X.xe s2) : wpAny (model X.prog X.w) X.A (eval a X.env) (fun v s₁=>wpAny (model X.prog X.w) X.A (eval b X.env) (fun u s₂=>wpAny (model X.prog X.w) X.A (f v u) Q X.xe s₂) X.xe s₁) X.xe s:=by
 refine d9 (ha pins s σ H _ I h) fun v s1 ⟨x,H1,I1,r1,q1⟩=>?_
 refine d9 (hb pins s1 σ H1 _ I1 q1) fun u s2 ⟨y,H2,I2,r2,q2⟩=>?_
 exact hf v u s2 x y H2 I2 r1 r2 q2
def Kz (i:Nat):TE:=fun σ H Q=>∃ v,σ[i]?=some (some v)/\Q v H
def tC (v:V):TE:=fun _ H Q=>Q v H
theorem abW {i:Nat} {x:Str} {pos:Pos} (hN:X.N[i]?=some x) (hv:Vis X.env.scope x) (hd:autoParam ((x == ("__debug__":Str))=false) zau1) (hcd:autoParam ((x == ("__classdict__":Str))=false) zau1):PE X (.Name x pos) (Kz i):=by
 intro pins s σ H Q I h;obtain ⟨v,e,h⟩:=h;obtain ⟨m,hn,hl⟩:=I.loc;obtain ⟨u,r,l⟩:=hl i x v hN e hv;have fin:EP X pins σ Q u s:=⟨v,H,I,r,h⟩;rcases l with ⟨hk,hm⟩ | ⟨hk,c,hc,hcell⟩
 ·exact wpAny_Name (wpAny_loadName_local I.ok.kind hk hn hm fin) hd
 ·rcases hk with hk | hk
  ·exact wpAny_Name (wpAny_loadName_cell I.ok.kind hk hc hcell fin) hd
  ·exact wpAny_Name (wpAny_loadName_free I.ok.kind hk hc hcell fin hcd) hd
theorem aM {i j pos}:PE X (.Constant (.int i) j pos) (tC (.int i)):=fun _ _ _ H _ I h=>wpAny_Constant_int ⟨.int i,H,I.tok _,⟨_,rfl⟩,h⟩
theorem iZ {b j pos}:PE X (.Constant (.bool b) j pos) (tC (.bl b)):=fun _ _ _ H _ I h=>Constant_bool ⟨.bl b,H,I,rfl,h⟩
theorem oW {j pos}:PE X (.Constant .none j pos) (tC .non):=fun _ _ _ H _ I h=>Constant_none ⟨.non,H,I,rfl,h⟩
theorem dR {x j pos}:PE X (.Constant (.str x) j pos) (tC (.str x)):=fun _ _ _ H _ I h=>Calls.Constant_str ⟨.str x,H,I.tok _,⟨_,rfl⟩,h⟩
def Gl (X:Cx) (x:Str):Prop:=X.env.kindOf x=some .globalImplicit
theorem iz {E:aA->aQ->Prop} {pins:List (aB × Obj)} {s:aQ} {σ:St} {H:Hp} {x:Str} {u:aA} {pos:Pos} {Q:aA->aQ->Prop} (I:Inv X pins σ H s) (hg:Gl X x) (hm:X.mg x=some u) (h:Q u s) (hd:autoParam ((x == ("__debug__":Str))=false) zau1):wpAny (model X.prog X.w) X.A (eval (.Name x pos) X.env) Q E s := Calls.Name_function_global I.ok.kind hg (Calls.loadGlobal_global (by rw [I.ok.glob]; exact I.mod.glob.keeps I.bk) hm h) hd
theorem mV {E:aA->aQ->Prop} {pins:List (aB × Obj)} {s:aQ} {σ:St} {H:Hp} {x:Str} {u:aA} {pos:Pos} {Q:aA->aQ->Prop} (I:Inv X pins σ H s) (hg:Gl X x) (hm:X.mg x=none) (hv:bootBuiltins x=some u) (h:Q u s) (hn:autoParam (x≠"__name__") zau1) (hd:autoParam ((x == ("__debug__":Str))=false) zau1):wpAny (model X.prog X.w) X.A (eval (.Name x pos) X.env) Q E s:=by
 obtain ⟨mb,h1,h2⟩:=I.mod.blt;exact Calls.Name_function_global I.ok.kind hg (Calls.loadGlobal_builtin (by rw [I.ok.glob]; exact I.mod.glob.keeps I.bk) hm (by rw [I.ok.blt]; exact h1.keeps I.bk) ((h2 x hn).trans hv) h) hd
theorem GD {x:Str} {v:V} {u:aA} {pos:Pos} (hg:Gl X x) (hm:X.mg x=some u) (r:RelV v u) (hd:autoParam ((x == ("__debug__":Str))=false) zau1):PE X (.Name x pos) (tC v) := fun _ _ _ H _ I h=>iz I hg hm ⟨v,H,I,r,h⟩ hd
theorem Rm {x:Str} {v:V} {u:aA} {pos:Pos} (hg:Gl X x) (hm:X.mg x=none) (hv:bootBuiltins x=some u) (r:RelV v u) (hn:autoParam (x≠"__name__") zau1) (hd:autoParam ((x == ("__debug__":Str))=false) zau1):PE X (.Name x pos) (tC v) := fun _ _ _ H _ I h=>mV I hg hm hv ⟨v,H,I,r,h⟩ hn hd
variable {a b:Expr} {ta tb:TE} {pos:Pos}
noncomputable def PC (X:Cx) (op:CmpOp) (a b:Expr) (t:TE):Prop := ∀ (pins:List (aB × Obj)) (s:aQ) (σ:St) (H:Hp) (Q:VK),Inv X pins σ H s->t σ H Q -> wpAny (model X.prog X.w) X.A (eval a X.env) (fun v s₁=>wpAny (model X.prog X.w) X.A (eval b X.env) (fun u s₂=>wpAny (model X.prog X.w) X.A (compareOp op v u) (EP X pins σ Q) X.xe s₂) X.xe s₁) X.xe s
def tB (t:TE):TT:=fun σ H Q=>t σ H fun x H1=>∃ c,x=.bl c/\Q c H1
theorem arj {op:CmpOp} {t:TE} (h:PC X op a b t) (h1:behindInMarks op b=false:=by first | exact aiD _ (by decide) (by decide) | rfl):PT X (.Compare a [op] [b] pos) (tB t):=by
 intro pins s σ H Q I hw;refine wpAny_isTrue_Compare1 (d9 (h pins s σ H _ I hw) fun v s1 h1=>d9 h1 fun u s2 h2=>d9 h2 fun c s3 ⟨x,H1,I1,r1,q1⟩=>?_) h1;obtain ⟨d,rfl,q⟩:=q1;cases r1;exact wpAny_truthy_bool ⟨H1,I1,q⟩
theorem eO {e:Expr} {t:TE} (h:PE X e t) (he:autoParam (∀ whole,isTrue e X.env whole=(do let v <- whole; standAt e.pos; holding [v] (truthy v))) zau3):PT X e (tB t):=by
 intro pins s σ H Q I hw;refine isTrue_plain (d9 (h pins s σ H _ I hw) fun v s1 ⟨x,H1,I1,r1,q1⟩=>?_) (he _);obtain ⟨d,rfl,q⟩:=q1;cases r1;exact wpAny_truthy_bool ⟨H1,I1,q⟩
variable {tA tB':TT} {rest:List Expr}
def ark (t u:TT):TT:=fun σ H Q=>t σ H fun c H1=>if c=true then u σ H1 Q else Q false H1
def tOr (t u:TT):TT:=fun σ H Q=>t σ H fun c H1=>if c=true then Q true H1 else u σ H1 Q
def arl (t:TT):TT:=fun σ H Q=>t σ H fun c H1=>Q (!c) H1
theorem pw_and1 (ha:PT X a tA):PW X (.BoolOp .And [a] pos) tA:=by
 intro wh pins s σ H Q I h;refine isTrue_and (d9 (ha pins s σ H Q I h) fun c s1 e=>?_);cases c with
 | true=>exact isTrue_and_nil e
 | false=>exact e
theorem pw_or1 (ha:PT X a tA):PW X (.BoolOp .Or [a] pos) tA:=by
 intro wh pins s σ H Q I h;refine isTrue_or (d9 (ha pins s σ H Q I h) fun c s1 e=>?_);cases c with
 | false=>exact isTrue_or_nil e
 | true=>exact e
theorem pw_and (ha:PT X a tA) (hb:PW X (.BoolOp .And (b::rest) pos) tB'):PW X (.BoolOp .And (a::b::rest) pos) (ark tA tB'):=by
 intro wh pins s σ H Q I h;refine isTrue_and (d9 (ha pins s σ H _ I h) fun c s1 ⟨H1,I1,q1⟩=>?_);cases c with
 | true=>exact hb wh pins s1 σ H1 Q I1 q1
 | false=>exact ⟨H1,I1,q1⟩
theorem pw_or (ha:PT X a tA) (hb:PW X (.BoolOp .Or (b::rest) pos) tB'):PW X (.BoolOp .Or (a::b::rest) pos) (tOr tA tB'):=by
 intro wh pins s σ H Q I h;refine isTrue_or (d9 (ha pins s σ H _ I h) fun c s1 ⟨H1,I1,q1⟩=>?_);cases c with
 | true=>exact ⟨H1,I1,q1⟩
 | false=>exact hb wh pins s1 σ H1 Q I1 q1
theorem fK (ha:PT X a tA):PT X (.UnaryOp .Not a pos) (arl tA):=by
 intro pins s σ H Q I h;exact isTrue_not (ha pins s σ H (fun c H1=>Q (!c) H1) I h)
def U6 (ta tb:TE):TE:=fun σ H Q=>ta σ H fun x H1=>∃ c,x=.bl c/\if c=true then tb σ H1 Q else Q (.bl false) H1
theorem Ef {op} {t:TE} (h:PE X a t):PE X (.BoolOp op [a] pos) t:=fun pins s σ H Q I hw=>BoolOp_one (h pins s σ H Q I hw)
theorem uV (ha:PE X a ta) (hb:PE X (.BoolOp .And (b::rest) pos) tb):PE X (.BoolOp .And (a::b::rest) pos) (U6 ta tb):=by
 intro pins s σ H Q I h;refine BoolOp_and (d9 (ha pins s σ H _ I h) fun v s1 ⟨x,H1,I1,r1,q1⟩=>?_);obtain ⟨c,rfl,q1⟩:=q1;cases r1;refine wpAny_truthy_bool ?_;cases c with
 | true=>exact hb pins s1 σ H1 Q I1 q1
 | false=>exact ⟨.bl false,H1,I1,rfl,q1⟩
def tIf (t:TT) (ta tb:TE):TE:=fun σ H Q=>t σ H fun c H1=>if c=true then ta σ H1 Q else tb σ H1 Q
theorem j9 {c:Expr} (hc:PT X c tA) (ha:PE X a ta) (hb:PE X b tb):PE X (.IfExp c a b pos) (tIf tA ta tb):=by
 intro pins s σ H Q I h;refine wpAny_IfExp (d9 (hc pins s σ H _ I h) fun d s1 ⟨H1,I1,q1⟩=>?_);cases d with
 | true=>exact ha pins s1 σ H1 Q I1 q1
 | false=>exact hb pins s1 σ H1 Q I1 q1
end
noncomputable def cD (K:Fg) (H:Hp) (a:aB) (xs:List V):Prop := Rd H a (.lst xs) \/ ∃ (o:Obj) (its:Array aA) (n:Nat),K.lookup a=some o/\o.cls=.type "list"/\o.dict=none/\o.data=.seq its n/\its.size<=sizeLine/\Vals xs its.toList
def dM (K:Fg) (H:Hp) (a:aB) (xs:List V):Prop := Rd H a (.tup xs) \/ ∃ (o:Obj) (its:Array aA) (n:Nat),K.lookup a=some o/\o.cls=.type "tuple"/\o.data=.seq its n/\its.size<=sizeLine/\Vals xs its.toList
noncomputable def arn:aA->Option V
 | .none=>some .non
 | .bool b=>some (.bl b)
 | .int i _=>some (.int i)
 | .str x _=>some (.str x)
 | .bytes b _=>some (.Gy b)
 | .float b _=>some (.flt b)
 | .ref a=>some (.ref a)
 | .type n=>some (.ty n)
 | _=>none
theorem RelV.abs {x:V} {u:aA} (r:RelV x u):arn u=some x:=by
 cases x with
 | non=>cases r; rfl
 | bl _=>cases r; rfl
 | int _=>obtain ⟨t,rfl⟩:=r; rfl
 | str _=>obtain ⟨t,rfl⟩:=r; rfl
 | Gy _=>obtain ⟨t,rfl⟩:=r; rfl
 | flt _=>obtain ⟨t,rfl⟩:=r; rfl
 | ref _=>cases r; rfl
 | ty _=>cases r; rfl
theorem RelV.inj {x y:V} {u:aA} (r:RelV x u) (q:RelV y u):x=y:=cu (r.abs.symm.trans q.abs)
theorem Vals.inj:∀ {xs ys:List V} {us:List aA},Vals xs us->Vals ys us->xs=ys
 | _,_,_,.nil,.nil=>rfl
 | _,_,_,.cons r t,.cons r' t'=>by rw [r.inj r',Vals.inj t t']
section
variable {X:Cx} {pins:List (aB × Obj)} {σ:St} {H:Hp} {s:aQ} {a:aB} {xs ys:List V}
theorem cD.of {K:Fg} (h:H a=some (.lst xs)):cD K H a xs:=.inl (.inl h)
theorem dM.of {K:Fg} (h:H a=some (.tup xs)):dM K H a xs:=.inl (.inl h)
theorem Inv.list (I:Inv X pins σ H s) (h:cD X.K H a xs):∃ its:List aA,Vals xs its/\PlainL s.heap a its.toArray/\xs.length<=sizeLine:=by
 rcases h with h | ⟨o,its,n,hk,hc,hd,hs,hz,r⟩
 ·obtain ⟨z,its,n,r,e⟩:=h.ok I.hok;exact ⟨its,r,⟨_,n,e,rfl,rfl,rfl⟩,z⟩
 ·refine ⟨its.toList,r,⟨o,n,I.j7 a o hk,hc,hd,by simpa using hs⟩,?_⟩;have e:=r.length;simp only [Array.length_toList] at e;omega
theorem Inv.tuple (I:Inv X pins σ H s) (h:dM X.K H a xs):∃ its:List aA,Vals xs its/\IsTup s.heap a its.toArray/\xs.length<=sizeLine:=by
 rcases h with h | ⟨o,its,n,hk,hc,hs,hz,r⟩
 ·obtain ⟨z,its,r,p⟩:=h.ok I.hok;exact ⟨its,r,p,z⟩
 ·refine ⟨its.toList,r,⟨o,I.j7 a o hk,hc,n,by simpa using hs⟩,?_⟩;have e:=r.length;simp only [Array.length_toList] at e;omega
theorem Inv.qG (I:Inv X pins σ H s) (h:cD X.K H a xs) (h':cD X.K H a ys):xs=ys:=by
 obtain ⟨its,r,⟨o,n,e,_,_,d⟩,_⟩:=I.list h;obtain ⟨its',r',⟨o',n',e',_,_,d'⟩,_⟩:=I.list h';rw [e] at e'; cases e';rw [d] at d';injection d' with d1 _;have:its=its':=by simpa using congrArg Array.toList d1
 subst this;exact r.inj r'
theorem Inv.rH (I:Inv X pins σ H s) (h:dM X.K H a xs) (h':dM X.K H a ys):xs=ys:=by
 obtain ⟨its,r,⟨o,e,_,n,d⟩,_⟩:=I.tuple h;obtain ⟨its',r',⟨o',e',_,n',d'⟩,_⟩:=I.tuple h';rw [e] at e'; cases e';rw [d] at d';injection d' with d1 _;have:its=its':=by simpa using congrArg Array.toList d1
 subst this;exact r.inj r'
end
section
variable {X:Cx} {pins:List (aB × Obj)} {σ:St} {H:Hp} {s:aQ} {E:aA->aQ->Prop}
end
section
variable {X:Cx} {st:cY} {rest:List cY} {t u:TS} {e:Expr} {te:TE} {pos:Pos}
def aiE:TS:=fun D σ H=>D.nx σ H
def aro (t u:TS):TS:=fun D σ H=>t { D with nx:=u D } σ H
theorem bU:xP X [] aiE:=fun _ _ σ H _ I h=>wpAny_execs_nil ⟨σ,H,I,h⟩
theorem aK (h1:PS X st t) (h2:xP X rest u):xP X (st::rest) (aro t u):=by
 intro pins s σ H D I h;refine wpAny_execs_cons (d9 (h1 pins s σ H { D with nx:=u D } I h) fun f s1 q=>?_);cases f with
 | next =>
  obtain ⟨σ',H',I',q⟩:=q;exact h2 pins s1 σ' H' D I' q
 | ret v=>exact q
 | brk=>exact q
 | cont=>exact q
theorem aU (h1:PS X st t):xP X [st] t:=by
 intro pins s σ H D I h;refine wpAny_execs_cons (d9 (h1 pins s σ H D I h) fun f s1 q=>?_);cases f with
 | next=>exact wpAny_execs_nil q
 | ret v=>exact q
 | brk=>exact q
 | cont=>exact q
theorem Inv.quiet {pins:List (aB × Obj)} {σ:St} {H:Hp} {s:aQ} (I:Inv X pins σ H s):interactive X.env=false:=by simp [interactive,I.ok.kind]
def aiF (te:TE):TS:=fun D σ H=>te σ H fun _ H1=>D.nx σ H1
theorem fY (he:PE X e te) (hs:autoParam (swapsWith e none pos.line X.env=pure false) zau0):PS X (.Expr e pos) (aiF te):=by
 intro pins s σ H D I h;exact wpAny_Expr_any (d9 (he pins s σ H _ I h) fun v s1 ⟨x,H1,I1,r1,q1⟩=>⟨σ,H1,I1,q1⟩) I.quiet hs
def aiG (te:TE):TS:=fun D σ H=>te σ H D.rt
theorem bY (he:PE X e te):PS X (.Return (some e) pos) (aiG te):=by
 intro pins s σ H D I h;exact wpAny_Return_some (d9 (he pins s σ H _ I h) fun v s1 ⟨x,H1,I1,r1,q1⟩=>⟨x,σ,H1,I1,r1,q1⟩)
def aiH (c:TT) (t u:TS):TS:=fun D σ H=>c σ H fun b H1=>if b=true then t D σ H1 else u D σ H1
theorem dG {c:Expr} {a b:List cY} {tc:TT} (hc:PT X c tc) (ha:xP X a t) (hb:xP X b u):PS X (.If c a b pos) (aiH tc t u):=by
 intro pins s σ H D I h;refine wpAny_If (d9 (hc pins s σ H _ I h) fun d s1 ⟨H1,I1,q1⟩=>?_);cases d with
 | true=>exact ha pins s1 σ H1 D I1 q1
 | false=>exact hb pins s1 σ H1 D I1 q1
end
abbrev TG:=V->St->Hp->(St->Hp->Prop)->Prop
abbrev U7:=List V->St->Hp->(St->Hp->Prop)->Prop
noncomputable def PG (X:Cx) (target:Expr) (t:TG):Prop := ∀ (pins:List (aB × Obj)) (s:aQ) (σ:St) (H:Hp) (v:V) (u:aA) (Q:St->Hp->Prop),Inv X pins σ H s->RelV v u->t v σ H Q -> wpAny (model X.prog X.w) X.A (assign target X.env u) (fun _ s'=>∃ σ' H',Inv X pins σ' H' s'/\Q σ' H') X.xe s
noncomputable def PGs (X:Cx) (ts:List Expr) (t:U7):Prop := ∀ (pins:List (aB × Obj)) (s:aQ) (σ:St) (H:Hp) (vs:List V) (us:List aA) (Q:St->Hp->Prop),Inv X pins σ H s->Vals vs us->t vs σ H Q -> wpAny (model X.prog X.w) X.A (assignInOrder ((assignEach ts X.env).map (·.2)) us) (fun _ s'=>∃ σ' H',Inv X pins σ' H' s'/\Q σ' H') X.xe s
section
variable {X:Cx} {pos:Pos}
def xQ (i:Nat):TG:=fun v σ H Q=>Q (σ.set i (some v)) H
theorem Rn {i:Nat} {x:Str} (hN:X.N.Nodup) (hi:X.N[i]?=some x) (hx:Loc X.env.scope x) (hf:autoParam (X.fn x=true\/X.env.scope.names.lookup x=some .local) zau2):PG X (.Name x pos) (xQ i):=by
 intro pins s σ H v u Q I r h;exact wpAny_assign_Name (mU I hN hi hx r (fun s' I'=>⟨_,H,I',h⟩) hf)
def arp:U7:=fun vs σ H Q=>vs=[]/\Q σ H
def aiJ (t:TG) (u:U7):U7:=fun vs σ H Q=>∃ v r,vs=v::r/\t v σ H fun σ' H'=>u r σ' H' Q
theorem iB:PGs X [] arp:=by
 intro pins s σ H vs us Q I r h;obtain ⟨e,h⟩:=h;subst e;cases r;exact assignInOrder_nil ⟨σ,H,I,h⟩
theorem cN {e:Expr} {es:List Expr} {t:TG} {u:U7} (h1:PG X e t) (h2:PGs X es u) (hs:autoParam ((assignEach (e::es) X.env).map (·.2)=assign e X.env::(assignEach es X.env).map (·.2)) zau0):PGs X (e::es) (aiJ t u):=by
 intro pins s σ H vs us Q I r h;obtain ⟨v,vr,e1,h⟩:=h;subst e1;cases r with
 | cons r rr =>
  rw [hs];refine assignInOrder_cons (d9 (h1 pins s σ H _ _ _ I r h) fun _ s1 ⟨σ1,H1,I1,q1⟩=>?_);exact h2 pins s1 σ1 H1 _ _ Q I1 rr q1
def aiK (K:Fg) (n:Nat) (t:U7):TG:=fun v σ H Q=>∃ a xs,v=.ref a/\dM K H a xs/\xs.length=n/\t xs σ H Q
theorem oX {es:List Expr} {k:Nat} {t:U7} {n:Nat} (hc:X.calm=true) (h:PGs X es t) (hn:autoParam ((assignEach es X.env).length=n) zau0) (hst:autoParam ((assignEach es X.env).findIdx? (·.1)=none) zau0):PG X (.Tuple es k pos) (aiK X.K n t):=by
 intro pins s σ H v u Q I r hw;obtain ⟨a,xs,e1,hq,hl,hw⟩:=hw;subst e1;cases r;obtain ⟨its,rv,ht,hz⟩:=I.tuple hq;refine assign_Tuple_tuple (I.ok.hd hc) ht (by simp [hn,<- hl,rv.length]) hst fun h' hx=>?_
 have I1:Inv X pins σ H { s with heap:=h' }:=I.kept (t':=s.toks) fun b o e=>hx b o (Nat.ne_of_lt (Heap.lt_size e)) e
 exact h pins _ σ H xs _ Q I1 (by simpa using rv) hw
def Ro (te:TE) (g:TG):TS:=fun D σ H=>te σ H fun x H1=>g x σ H1 D.nx
theorem Eh {tg e:Expr} {te:TE} {g:TG} (he:PE X e te) (hg:PG X tg g) (hs:autoParam (swapsWithSole [tg] e pos.line X.env=pure false) zau0) (hw:autoParam (swappedStores [tg] e X.env=pure none) zau0) (h1:autoParam ((assignEach [tg] X.env).map (·.2)=[assign tg X.env]) zau0):PS X (.Assign [tg] e pos) (Ro te g):=by
 intro pins s σ H D I h;refine wpAny_Assign_stores (d9 (he pins s σ H _ I h) fun v s1 ⟨x,H1,I1,r1,q1⟩=>?_) hs hw;rw [h1];exact d9 (hg pins s1 σ H1 x v _ I1 r1 q1) fun _ s2 q=>q
theorem bO {i:Nat} {x:Str} {e:Expr} {te:TE} {pos':Pos} (hN:X.N.Nodup) (hi:X.N[i]?=some x) (hx:Loc X.env.scope x) (he:PE X e te) (hs:autoParam (swapsWith e (some (.Name x pos')) pos.line X.env=pure false) zau0) (hf:autoParam (X.fn x=true\/X.env.scope.names.lookup x=some .local) zau2) : PS X (.Assign [.Name x pos'] e pos) (Ro te (xQ i)):=by
 intro pins s σ H D I h;refine wpAny_Assign_Name (d9 (he pins s σ H _ I h) fun v s1 ⟨y,H1,I1,r1,q1⟩=>?_) hs;exact mU I1 hN hi hx r1 (fun s2 I2=>⟨_,H1,I2,q1⟩) hf
end
section
variable {X:Cx} {pos:Pos}
end
structure It where
 go:Nat->Hp->Prop
 Ke:Nat->Hp->V->Hp->Prop
 stop:Nat->Hp->Prop
def kh (X:Cx) (pins:List (aB × Obj)) (H:Hp) (b:aB):Prop := H b=none/\b≠X.env.locals/\b ∉ X.fs/\(b ∈ X.ex\/X.s₀.heap.objs.size<=b)/\(∀ x c,X.env.cells.lookup x=some c->c≠b)/\∀ p ∈ X.pn++pins,p.1≠b
theorem Inv.Iu {X:Cx} {pins:List (aB × Obj)} {σ:St} {H H':Hp} {s:aQ} {b:aB} (I:Inv X pins σ H s) (hb:s.heap.objs.size<=b) (hn:H' b=none):kh X pins H' b:=by
 refine ⟨hn,Nat.ne_of_gt (aY I.lt hb),I.arh hb,.inr (bh I.sz hb),fun x c e z=>?_,fun p hp z=>?_⟩
 ·obtain ⟨v,q⟩:=I.cell x c e;exact absurd (aY q.lt (by rw [z]; exact hb)) (Nat.lt_irrefl _)
 ·exact absurd (aY (Heap.lt_size (I.pin p hp).1) (by rw [z]; exact hb)) (Nat.lt_irrefl _)
structure Turn (P:cA) (w:World) (K:Fg) (tg:Expr) (J:It) (fp:List aB) (it:aB) (tn:Nat->Heap->Prop):Prop where
 mem:it ∈ fp
 obj:∀ i h,tn i h->∀ b ∈ fp,∃ o,h.get? b=some o/\∀ v,o.data≠.cell v
 keep:∀ i h h',tn i h->(∀ b ∈ fp,∀ o,h.get? b=some o->h'.get? b=some o)->tn i h'
 item:∀ (X:Cx),X.prog=P->X.w=w->X.K=K->X.calm=true->∀ (i:Nat) (pins:List (aB × Obj)) (s:aQ) (σ:St) (H:Hp) (E:aA->aQ->Prop),Inv X pins σ H s->(∀ b ∈ fp,kh X pins H b)->tn i s.heap->J.go i H -> wpAny (model P w) X.A (pyNext (.ref it)) (fun r s1=>∃ u,r=some u /\ wpAny (model P w) X.A (letOwnedTupleGo tg (.ref it) u) (fun _ s2=>∃ x H',Inv X pins σ H' s2/\RelV x u/\J.Ke i H x H'/\tn (i + 1) s2.heap/\∀ b ∈ fp,H' b=none) E s1) E s
 done:∀ (X:Cx),X.prog=P->X.w=w->X.K=K->X.calm=true->∀ (i:Nat) (pins:List (aB × Obj)) (s:aQ) (σ:St) (H:Hp) (E:aA->aQ->Prop),Inv X pins σ H s->(∀ b ∈ fp,kh X pins H b)->tn i s.heap->J.stop i H -> wpAny (model P w) X.A (pyNext (.ref it)) (fun r s1=>r=none/\Inv X pins σ H s1) E s
 self:∀ (A:c7) (i:Nat) (s:aQ) (Q:aA->aQ->Prop) (E:aA->aQ->Prop),tn i s.heap->Q (.ref it) s->wpAny (model P w) A (pyIter (.ref it)) Q E s
abbrev TI:=St->Hp->(It->Hp->Prop)->Prop
noncomputable def PIE (X:Cx) (pins:List (aB × Obj)) (σ:St) (tg:Expr) (R:It->Hp->Prop) (itv:aA) (s2:aQ):Prop := ∃ (it:aB) (fp:List aB) (tn:Nat->Heap->Prop) (J:It) (H':Hp),itv=.ref it/\Inv X pins σ H' s2/\Turn X.prog X.w X.K tg J fp it tn/\tn 0 s2.heap/\(∀ b ∈ fp,kh X pins H' b)/\R J H'
noncomputable def PI (X:Cx) (tg iter:Expr) (wi:TI):Prop := ∀ (pins:List (aB × Obj)) (s:aQ) (σ:St) (H:Hp) (R:It->Hp->Prop),Inv X pins σ H s->wi σ H R -> wpAny (model X.prog X.w) X.A (eval iter X.env) (fun v s1=>wpAny (model X.prog X.w) X.A (pyIter v) (PIE X pins σ tg R) X.xe s1) X.xe s
theorem U8 {M:Model} {A:c7} {E:aA->aQ->Prop} {s:aQ} {tg:Expr} {it:aB} {u:aA} {o:Obj} {n:String} {vs:Array aA} {Q:Unit->aQ->Prop} (ho:s.heap.get? it=some o) (hc:o.cls=.type n) (hd:o.data=.fields vs) (hn:["enumerate","zip","dict_itemiterator","dict_reverseitemiterator","odict_iterator","itertools.zip_longest","itertools.pairwise"].contains n=false) (hQ:Q () s):wpAny M A (letOwnedTupleGo tg (.ref it) u) Q E s:=by
 unfold letOwnedTupleGo;cases tg <;> first
  | exact au hQ
  | (cases u <;> first
   | exact au hQ
   | (
    refine aj (wpAny_load ho (?_));rw [hc,hd]
    show wpAny M A (if (["enumerate","zip","dict_itemiterator","dict_reverseitemiterator","odict_iterator","itertools.zip_longest","itertools.pairwise"].contains n && vs[0]? == some (rawInt _))=true then _ else _) Q E s
    rw [if_neg (by intro h; rw [hn,Bool.false_and] at h; cases h)];exact au hQ))
def KC (K:Fg) (a:aB):It := ⟨fun i H=>∃ xs x,cD K H a xs/\xs[i]?=some x,fun i H x H'=>H'=H/\∀ xs,cD K H a xs->xs[i]?=some x,fun i H=>∃ xs,cD K H a xs/\xs.length<=i⟩
def Itr (lo:Int) (n:Nat):It:=⟨fun i _=>i < n,fun i H x H'=>H'=H/\x=.int (lo + i),fun i _=>n<=i⟩
theorem Iv {P:cA} {w:World} {K:Fg} {tg:Expr} (a it:aB):Turn P w K tg (KC K a) [it] it (fun i h=>h.IsListIter it a i) where
 mem:=by simp
 obj:=fun i h st b hb=>by
  have e:b=it:=by simpa using hb
  subst e;obtain ⟨o,e,c,d⟩:=st;exact ⟨o,e,fun v z=>by rw [d] at z; cases z⟩
 keep:=fun i h h' st k=>st.at fun o e=>k it (by simp) o e
 item:=by
  intro X hP hw hK hc i pins s σ H E I hf st hg;subst hP hw hK;obtain ⟨xs,x,hq,hx⟩:=hg;obtain ⟨its,rv,p,hz⟩:=I.list hq;obtain ⟨u,hu,ru⟩:=rv.get hx;obtain ⟨f0,f1,f2,f3,f4,f5⟩:=hf it (by simp);refine wpAny_pyNext_list_item st p.isList (x:=u) (by simpa using hu) fun h' st' sb=>?_
  have I1:Inv X pins σ H { s with heap:=h' }:=I.turned (t':=s.toks) (fun b o hb e=>(sb.2 b hb).trans e) f0 f1 f3 f4 f5;obtain ⟨o,e,c,d⟩:=id st';exact ⟨u,rfl,U8 (s:={ s with heap:=h' }) e c d (by decide) ⟨x,H,I1,ru,⟨rfl,fun ys hy=>by rw [I.qG hy hq]; exact hx⟩,st',fun b hb=>(hf b hb).1⟩⟩
 done:=by
  intro X hP hw hK hc i pins s σ H E I hf st hg;subst hP hw hK;obtain ⟨xs,hq,hx⟩:=hg;obtain ⟨its,rv,p,hz⟩:=I.list hq;obtain ⟨f0,f1,f2,f3,f4,f5⟩:=hf it (by simp);have hl:=rv.length;exact wpAny_pyNext_list_end (I.ok.hd hc) st p.isList (by simp; omega) fun h' eb=>⟨rfl,I.turned (t':=s.toks) (fun b o hb e=>eb b o hb e) f0 f1 f3 f4 f5⟩
 self:=fun _ _ _ _ _ st h=>wpAny_pyIter_listiter st h
theorem Ei {P:cA} {w:World} {K:Fg} {tg:Expr} (it:aB) (lo:Int) (n:Nat):Turn P w K tg (Itr lo n) [it] it (fun i h=>IsRangeIter h it (lo + (i:Nat) * 1) ((n:Int) - (i:Nat)) 1) where
 mem:=by simp
 obj:=fun i h st b hb=>by
  have e:b=it:=by simpa using hb
  subst e;exact ⟨_,st,fun v z=>by
   have z':Data.fields _=Data.cell v:=z;cases z'⟩
 keep:=fun i h h' st k=>k it (by simp) _ st
 item:=by
  intro X hP hw hK hc i pins s σ H E I hf st hg;subst hP hw hK;obtain ⟨f0,f1,f2,f3,f4,f5⟩:=hf it (by simp);have W:=Walks.range (prog:=X.prog) (w:=X.w) (I.ok.hd hc) it lo 1 n;refine W.item i s _ _ hg st fun v h' tk hv st' kk=>?_
  obtain ⟨t,rfl⟩:=hv;have I1:Inv X pins σ H { s with heap:=h',toks:=tk }:=I.turned (fun b o hb e=>kk b o (by simpa using hb) e) f0 f1 f3 f4 f5;refine ⟨_,rfl,U8 (s:={ s with heap:=h',toks:=tk }) (n:="range_iterator") st' rfl rfl (by decide) ⟨.int (lo + i),H,I1,⟨t,?_⟩,⟨rfl,rfl⟩,st',fun b hb=>(hf b hb).1⟩⟩;rw [Int.mul_one]
 done:=by
  intro X hP hw hK hc i pins s σ H E I hf st hg;subst hP hw hK;obtain ⟨f0,f1,f2,f3,f4,f5⟩:=hf it (by simp);exact wpAny_pyNext_range_end (I.ok.hd hc) st (by have:n<=i:=hg; omega) fun h' eb=>⟨rfl,I.turned (t':=s.toks) (fun b o hb e=>eb b o hb e) f0 f1 f3 f4 f5⟩
 self:=fun _ _ _ _ _ st h=>wpAny_pyIter_rangeiter st h
section
variable {X:Cx} {tg:Expr}
def aiL (K:Fg) (tl:TE):TI:=fun σ H R=>tl σ H fun x H1=>∃ a,x=.ref a/\(∃ xs,cD K H1 a xs)/\R (KC K a) H1
theorem eG {l:Expr} {tl:TE} (hl:PE X l tl):PI X tg l (aiL X.K tl):=by
 intro pins s σ H R I h;refine d9 (hl pins s σ H _ I h) fun v s1 ⟨x,H1,I1,r1,q1⟩=>?_
 obtain ⟨a,e,⟨xs,hq⟩,q⟩:=q1;subst e;cases r1;obtain ⟨its,rv,p,hz⟩:=I1.list hq;refine wpAny_pyIter_list p.isList ?_;refine ⟨s1.heap.objs.size,[s1.heap.objs.size],_,_,H1,rfl,I1.kept (t':=s1.toks) fun b o e=>ak _ e,Iv a _,⟨_,aJ _ rfl,rfl,rfl⟩,fun b hb=>?_,q⟩;have e:b=s1.heap.objs.size:=by simpa using hb
 subst e;exact I1.Iu (aN _) (I1.hok.fresh (aN _))
theorem KD {pins:List (aB × Obj)} {σ:St} {H:Hp} {s:aQ} {R:It->Hp->Prop} {E:aA->aQ->Prop} {lo hi:Int} {t u v:Tok} {tk:Nat} (I:Inv X pins σ H s) (h1:-(2 ^ 62)<=lo) (h2:lo < 2 ^ 62) (h3:-(2 ^ 62)<=hi) (h4:hi < 2 ^ 62) (q:R (Itr lo (hi - lo).toNat) H):wpAny (model X.prog X.w) X.A (pyIter (.ref s.heap.objs.size)) (PIE X pins σ tg R) E { s with heap:=s.heap.push { cls:=.type "range",data:=.fields #[.int lo t,.int hi u,.int 1 v] },toks:=tk }:=by
 refine wpAny_pyIter_range (IsRange.new ..) (small_one h1 h2 h3 h4) ?_;have I1:Inv X pins σ H { s with heap:=s.heap.push { cls:=.type "range",data:=.fields #[.int lo t,.int hi u,.int 1 v] },toks:=tk }:=I.kept fun b o e=>ak _ e
 refine ⟨(s.heap.push { cls:=.type "range",data:=.fields #[.int lo t,.int hi u,.int 1 v] }).objs.size,[(s.heap.push { cls:=.type "range",data:=.fields #[.int lo t,.int hi u,.int 1 v] }).objs.size],_,_,H,rfl,I1.kept (t':=tk) fun b o e=>ak _ e,Ei _ lo (hi - lo).toNat,?_,fun b hb=>?_,q⟩
 ·have e1:lo + ((0:Nat):Int) * 1=lo:=by simp
  have e2:(((hi - lo).toNat:Nat):Int) - ((0:Nat):Int)=Builtin.Range.rangeSize lo hi 1:=by rw [rangeSize_one]; split <;> omega
  show IsRangeIter _ _ (lo + ((0:Nat):Int) * 1) ((((hi - lo).toNat:Nat):Int) - ((0:Nat):Int)) 1
  rw [e1,e2];exact aJ _ rfl
 ·have e:b=(s.heap.push { cls:=.type "range",data:=.fields #[.int lo t,.int hi u,.int 1 v] }).objs.size:=by simpa using hb
  subst e;exact I1.Iu (aN _) (I1.hok.fresh (aN _))
def aiM (ta:TA):TI:=fun σ H R=>ta σ H fun vs H1=>∃ j:Int,vs=[.int j]/\-(2 ^ 62)<=j/\j < 2 ^ 62/\R (Itr 0 j.toNat) H1
theorem gh {a:Expr} {ta:TA} {p pos:Pos} (hg:Gl X "range") (hm:X.mg "range"=none) (ha:PA X [a] ta) (hs:autoParam (starEach [a] X.env=[(false,eval a X.env)]) zau0):PI X tg (.Call (.Name "range" p) [a] [] pos) (aiM ta):=by
 intro pins s σ H R I h;refine Call_ (mV I hg hm boot_range (callWith_type1 (d9 (ha pos pins s σ H _ I h) fun us s1 ⟨vs,H1,I1,r1,q1⟩=>?_) hs rfl));obtain ⟨j,e,q1,q2,q⟩:=q1;subst e;cases r1 with
 | cons r rr =>
  cases rr;obtain ⟨t,rfl⟩:=r;exact call_range_1 (KD I1 (by omega) (by omega) q1 q2 (by simpa using q))
noncomputable def arq (wi:TI) (g:TG) (tb:TS):TS:=fun D σ H=>wi σ H fun J H1=>∃ W:Nat->Nat->St->Hp->Prop,(∃ m,W 0 m σ H1)/\∀ i m σ H,W i m σ H -> (J.stop i H/\D.nx σ H)\/(J.go i H/\∃ N:St->Hp->Prop,(∀ σ' H',N σ' H'->∃ m',m' < m/\W (i + 1) m' σ' H')/\∀ x H',J.Ke i H x H'->g x σ H' fun σ2 H2=>tb { D with nx:=N,ct:=N,bk:=D.nx } σ2 H2)
def mX (fp:List aB) (h:Heap):List (aB × Obj):=fp.filterMap fun b=>(h.get? b).map fun o=>(b,o)
theorem lG {fp:List aB} {h:Heap} {b:aB} {o:Obj} (hb:b ∈ fp) (e:h.get? b=some o):(b,o) ∈ mX fp h:=List.mem_filterMap.mpr ⟨b,hb,by rw [e]; rfl⟩
theorem Iw {fp:List aB} {h:Heap} {p:aB × Obj} (hp:p ∈ mX fp h):p.1 ∈ fp/\h.get? p.1=some p.2:=by
 obtain ⟨b,hb,e⟩:=List.mem_filterMap.mp hp;cases q:h.get? b with
 | none=>rw [q] at e; cases e
 | some o =>
  rw [q] at e;have e':(b,o)=p:=cu e;subst e';exact ⟨hb,q⟩
theorem Inv.pinned {pins:List (aB × Obj)} {σ:St} {H:Hp} {s:aQ} {fp:List aB} (I:Inv X pins σ H s) (hf:∀ b ∈ fp,kh X pins H b) (ho:∀ b ∈ fp,∃ o,s.heap.get? b=some o/\∀ v,o.data≠.cell v):Inv X (pins++mX fp s.heap) σ H s := I.GC fun p hp=>(mem_append.mp hp).elim (fun z=>I.pin p (mem_append_right _ z)) fun z=>by
 obtain ⟨hb,e⟩:=Iw z;obtain ⟨f0,f1,f2,_⟩:=hf p.1 hb;obtain ⟨o,e',d⟩:=ho p.1 hb;rw [e] at e'; cases e';exact ⟨e,f0,f1,f2,d⟩
theorem Inv.qH {pins pl:List (aB × Obj)} {σ:St} {H:Hp} {s:aQ} (I:Inv X (pins++pl) σ H s):Inv X pins σ H s:=I.GC fun p hp=>I.pin p (mem_append_right _ (mem_append_left _ hp))
theorem iC {iter:Expr} {body:List cY} {wi:TI} {g:TG} {tb:TS} {pos:Pos} (hp:PassesOwn (model X.prog X.w) X.A X.env X.xe) (hc:X.calm=true) (hi:PI X tg iter wi) (hg:PG X tg g) (hb:xP X body tb) (hs:autoParam (∀ x,foldedSetIterable iter X.env x=pure x) zau3):PS X (.For tg iter body [] pos) (arq wi g tb):=by
 intro pins s σ H D I h;refine wpAny_For (d9 (hi pins s σ H _ I h) fun v s1 h1=>d9 h1 fun itv s2 h2=>?_) hs;obtain ⟨it,fp,tn,J,H2,e,I2,T,st2,f2,W,⟨m0,w0⟩,turn⟩:=h2;subst e;have stat:∀ {H':Hp},(∀ b ∈ fp,H' b=none)->∀ b ∈ fp,kh X pins H' b:=fun hn b hb=>⟨hn b hb,(f2 b hb).2⟩
 refine codeAny_forLoop_any (fun n s'=>∃ i σ' H',Inv X pins σ' H' s'/\tn i s'.heap/\(∀ b ∈ fp,H' b=none)/\W i n σ' H') ?_ m0 ⟨0,σ,H2,I2,st2,fun b hb=>(f2 b hb).1,w0⟩;rintro n s3 ⟨i,σ3,H3,I3,st3,fr3,w3⟩;rcases turn i n σ3 H3 w3 with ⟨stop,qn⟩ | ⟨go,N,hN,step⟩
 ·refine wpAny_passesOwn hp (d9 (T.done X rfl rfl rfl hc i pins s3 σ3 H3 X.xe I3 (stat fr3) st3 stop) fun r s4 ⟨hr,I4⟩=>?_);subst hr;exact wpAny_execs_nil ⟨σ3,H3,I4,qn⟩
 ·refine wpAny_passesOwn hp (d9 (T.item X rfl rfl rfl hc i pins s3 σ3 H3 X.xe I3 (stat fr3) st3 go) fun r s4 ⟨u,hr,h4⟩=>?_);subst hr;refine wpAny_passesOwn hp (d9 h4 fun _ s5 ⟨x,H5,I5,r5,y5,Kf,fr5⟩=>?_);have I5':=I5.pinned (stat fr5) (T.obj _ _ Kf);refine wpAny_passesOwn hp (d9 (hg _ s5 σ3 H5 x u _ I5' r5 (step x H5 y5)) fun _ s6 ⟨σ6,H6,I6,q6⟩=>?_);refine wpAny_passesOwn hp (d9 (hb _ s6 σ6 H6 _ I6 q6) fun f s7 q7=>?_);have again:∀ {σ7:St} {H7:Hp},Inv X (pins++mX fp s5.heap) σ7 H7 s7->N σ7 H7->∃ m,m < n/\∃ i σ' H',Inv X pins σ' H' s7/\tn i s7.heap/\(∀ b ∈ fp,H' b=none)/\W i m σ' H':=fun {σ7 H7} I7 n7=>by
   obtain ⟨m',hm,w7⟩:=hN σ7 H7 n7;refine ⟨m',hm,i + 1,σ7,H7,I7.qH,T.keep _ _ _ Kf fun b hb o e=>(I7.pin (b,o) (mem_append_right _ (mem_append_right _ (lG hb e)))).1,fun b hb=>?_,w7⟩;obtain ⟨o,e,d⟩:=T.obj _ _ Kf b hb;exact (I7.pin (b,o) (mem_append_right _ (mem_append_right _ (lG hb e)))).2.1
  cases f with
  | next=>obtain ⟨σ7,H7,I7,n7⟩:=q7; exact again I7 n7
  | cont=>obtain ⟨σ7,H7,I7,n7⟩:=q7; exact again I7 n7
  | brk=>obtain ⟨σ7,H7,I7,q7⟩:=q7; exact ⟨σ7,H7,I7.qH,q7⟩
  | ret v=>obtain ⟨x7,σ7,H7,I7,r7,q7⟩:=q7; exact ⟨x7,σ7,H7,I7.qH,r7,q7⟩
end
theorem jq {K:Fg} {a:aB} {xs:List V} {g:TG} {tb:TS} {D:Ends} {σ:St} {H:Hp} (Pv:Nat->St->Hp->Prop) (h0:Pv 0 σ H) (hl:∀ i σ H,i<=xs.length->Pv i σ H->cD K H a xs) (hs:∀ i x σ H,xs[i]?=some x->Pv i σ H->g x σ H fun σ2 H2=>tb { D with nx:=Pv (i + 1),ct:=Pv (i + 1),bk:=D.nx } σ2 H2) (hd:∀ σ H,Pv xs.length σ H->D.nx σ H) : ∃ W:Nat->Nat->St->Hp->Prop,(∃ m,W 0 m σ H)/\∀ i m σ H,W i m σ H -> ((KC K a).stop i H/\D.nx σ H)\/((KC K a).go i H/\∃ N:St->Hp->Prop,(∀ σ' H',N σ' H'->∃ m',m' < m/\W (i + 1) m' σ' H')/\∀ x H',(KC K a).Ke i H x H'->g x σ H' fun σ2 H2=>tb { D with nx:=N,ct:=N,bk:=D.nx } σ2 H2):=by
 refine ⟨fun i m σ H=>m=xs.length - i/\i<=xs.length/\Pv i σ H,⟨xs.length,by simp,eV _,h0⟩,?_⟩;rintro i m σ H ⟨rfl,hi,p⟩;have q:=hl i σ H hi p
 by_cases hlt:i < xs.length
 ·refine .inr ⟨⟨xs,xs[i],q,by simp [hlt]⟩,Pv (i + 1),fun σ' H' p'=>⟨xs.length - (i + 1),by omega,rfl,hlt,p'⟩,fun x H' y=>?_⟩;obtain ⟨e,y⟩:=y;subst e;exact hs i x σ _ (y xs q) p
 ·have e:i=xs.length:=by omega
  subst e;exact .inl ⟨⟨xs,q,aN _⟩,hd σ H p⟩
theorem jo {lo:Int} {n:Nat} {g:TG} {tb:TS} {D:Ends} {σ:St} {H:Hp} (Pv:Nat->St->Hp->Prop) (h0:Pv 0 σ H) (hs:∀ i σ H,i < n->Pv i σ H->g (.int (lo + i)) σ H fun σ2 H2=>tb { D with nx:=Pv (i + 1),ct:=Pv (i + 1),bk:=D.nx } σ2 H2) (hd:∀ σ H,Pv n σ H->D.nx σ H) : ∃ W:Nat->Nat->St->Hp->Prop,(∃ m,W 0 m σ H)/\∀ i m σ H,W i m σ H -> ((Itr lo n).stop i H/\D.nx σ H)\/((Itr lo n).go i H/\∃ N:St->Hp->Prop,(∀ σ' H',N σ' H'->∃ m',m' < m/\W (i + 1) m' σ' H')/\∀ x H',(Itr lo n).Ke i H x H'->g x σ H' fun σ2 H2=>tb { D with nx:=N,ct:=N,bk:=D.nx } σ2 H2):=by
 refine ⟨fun i m σ H=>m=n - i/\i<=n/\Pv i σ H,⟨n,by simp,eV _,h0⟩,?_⟩;rintro i m σ H ⟨rfl,hi,p⟩
 by_cases hlt:i < n
 ·refine .inr ⟨hlt,Pv (i + 1),fun σ' H' p'=>⟨n - (i + 1),by omega,rfl,hlt,p'⟩,fun x H' y=>?_⟩;obtain ⟨e,y⟩:=y;subst e y;exact hs i σ _ hlt p
 ·have e:i=n:=by omega
  subst e;exact .inl ⟨aN _,hd σ H p⟩
abbrev R2:=V->V->Hp->VK->Prop
noncomputable def lE (X:Cx) (f:aA->aA->Sem aA) (r:R2):Prop := ∀ (pins:List (aB × Obj)) (s:aQ) (σ:St) (H:Hp) (x y:V) (v u:aA) (Q:VK),Inv X pins σ H s->RelV x v->RelV y u->r x y H Q -> wpAny (model X.prog X.w) X.A (f v u) (EP X pins σ Q) X.xe s
noncomputable def UnR (X:Cx) (f:aA->Sem aA) (r:V->Hp->VK->Prop):Prop := ∀ (pins:List (aB × Obj)) (s:aQ) (σ:St) (H:Hp) (x:V) (v:aA) (Q:VK),Inv X pins σ H s->RelV x v->r x H Q -> wpAny (model X.prog X.w) X.A (f v) (EP X pins σ Q) X.xe s
noncomputable def gw (X:Cx) (f:aA) (r:List V->Hp->VK->Prop):Prop := ∀ (pins:List (aB × Obj)) (s:aQ) (σ:St) (H:Hp) (xs:List V) (us:List aA) (Q:VK),Inv X pins σ H s->Vals xs us->r xs H Q -> wpAny (model X.prog X.w) X.A (call f us) (EP X pins σ Q) X.xe s
noncomputable def aru (X:Cx) (r:V->Hp->(Bool->Hp->Prop)->Prop):Prop := ∀ (pins:List (aB × Obj)) (s:aQ) (σ:St) (H:Hp) (x:V) (v:aA) (Q:Bool->Hp->Prop),Inv X pins σ H s->RelV x v->r x H Q -> wpAny (model X.prog X.w) X.A (truthy v) (TP X pins σ Q) X.xe s
def tOp (r:R2) (ta tb:TE):TE:=fun σ H Q=>ta σ H fun x H1=>tb σ H1 fun y H2=>r x y H2 Q
def tUn (r:V->Hp->VK->Prop) (ta:TE):TE:=fun σ H Q=>ta σ H fun x H1=>r x H1 Q
def rI (C:Int->Int->Prop) (g:Int->Int->V):R2:=fun x y H Q=>∃ i j,x=.int i/\y=.int j/\C i j/\Q (g i j) H
def Rp (g:Int->Int->V):R2:=fun x y H Q=>∃ i j,x=.int i/\y=.int j/\Q (g i j) H
def rU (g:Int->V):V->Hp->VK->Prop:=fun x H Q=>∃ i,x=.int i/\Q (g i) H
section
variable {X:Cx} {a b c:Expr} {ta tb tc:TE} {pos:Pos}
theorem abZ (ha:PE X a ta) (hb:PE X b tb) {pins:List (aB × Obj)} {s:aQ} {σ:St} {H:Hp} {R:V->V->Hp->Prop} (I:Inv X pins σ H s) (h:ta σ H fun x H1=>tb σ H1 fun y H2=>R x y H2) {Q:aA->aQ->Prop} {f:aA->aA->Sem aA} (hf:∀ v u s2 x y H2,Inv X pins σ H2 s2->RelV x v->RelV y u->R x y H2->wpAny (model X.prog X.w) X.A (f v u) Q X.xe s2) : wpAny (model X.prog X.w) X.A (eval a X.env) (fun v s₁=>wpAny (model X.prog X.w) X.A (eval b X.env) (fun u s₂=>wpAny (model X.prog X.w) X.A (f v u) Q X.xe s₂) X.xe s₁) X.xe s:=by
 refine d9 (ha pins s σ H _ I h) fun v s1 ⟨x,H1,I1,r1,q1⟩=>?_
 refine d9 (hb pins s1 σ H1 _ I1 q1) fun u s2 ⟨y,H2,I2,r2,q2⟩=>?_
 exact hf v u s2 x y H2 I2 r1 r2 q2
theorem bH {op:Operator} {r:R2} (ho:lE X (binaryOp op) r) (ha:PE X a ta) (hb:PE X b tb):PE X (.BinOp a op b pos) (tOp r ta tb):=by
 intro pins s σ H Q I h;exact wpAny_BinOp (abZ ha hb I h fun v u s2 x y H2 I2 rx ry q=>ho pins s2 σ H2 x y v u Q I2 rx ry q)
theorem Ax {op:UnaryOp} {r:V->Hp->VK->Prop} (ho:UnR X (unaryOp op) r) (ha:PE X a ta):PE X (.UnaryOp op a pos) (tUn r ta):=by
 intro pins s σ H Q I h;exact UnaryOp_ (d9 (ha pins s σ H _ I h) fun v s1 ⟨x,H1,I1,r1,q1⟩=>ho pins s1 σ H1 x v Q I1 r1 q1)
theorem opI {f:aA->aA->Sem aA} {C:Int->Int->Prop} {g:Int->Int->Int} (rule:∀ (i j:Int) (t u:Tok) (s:aQ) (Q:aA->aQ->Prop) (E:aA->aQ->Prop),C i j->Q (.int (g i j) s.toks) { s with toks:=s.toks + 1 }->wpAny (model X.prog X.w) X.A (f (.int i t) (.int j u)) Q E s) : lE X f (rI C fun i j=>.int (g i j)):=by
 intro pins s σ H x y v u Q I rx ry h;obtain ⟨i,j,rfl,rfl,hc,q⟩:=h;obtain ⟨t,rfl⟩:=rx;obtain ⟨t',rfl⟩:=ry;exact rule i j t t' s _ _ hc ⟨.int (g i j),H,I.tok _,⟨_,rfl⟩,q⟩
theorem ab0 {f:aA->aA->Sem aA} {g:Int->Int->Int} (rule:∀ (i j:Int) (t u:Tok) (s:aQ) (Q:aA->aQ->Prop) (E:aA->aQ->Prop),Q (.int (g i j) s.toks) { s with toks:=s.toks + 1 }->wpAny (model X.prog X.w) X.A (f (.int i t) (.int j u)) Q E s) : lE X f (Rp fun i j=>.int (g i j)):=by
 intro pins s σ H x y v u Q I rx ry h;obtain ⟨i,j,rfl,rfl,q⟩:=h;obtain ⟨t,rfl⟩:=rx;obtain ⟨t',rfl⟩:=ry;exact rule i j t t' s _ _ ⟨.int (g i j),H,I.tok _,⟨_,rfl⟩,q⟩
theorem Rq {f:aA->aA->Sem aA} {g:Int->Int->Bool} (rule:∀ (i j:Int) (t u:Tok) (s:aQ) (Q:aA->aQ->Prop) (E:aA->aQ->Prop),Q (.bool (g i j)) s->wpAny (model X.prog X.w) X.A (f (.int i t) (.int j u)) Q E s) : lE X f (Rp fun i j=>.bl (g i j)):=by
 intro pins s σ H x y v u Q I rx ry h;obtain ⟨i,j,rfl,rfl,q⟩:=h;obtain ⟨t,rfl⟩:=rx;obtain ⟨t',rfl⟩:=ry;exact rule i j t t' s _ _ ⟨.bl (g i j),H,I,rfl,q⟩
def arv (i j:Int):Prop:=0 < j/\j < 1073741824
def arw (i j:Int):Prop:=0<=j/\j<=1000000/\i.natAbs < 2 ^ 64
def ab1 (i j:Int):Prop:=(-(2 ^ 64) < i/\i < 2 ^ 64)\/(-(2 ^ 64) < j/\j < 2 ^ 64)
theorem ab1.ok {i j:Int} (h:ab1 i j):IntMulOk i j:=by
 rcases h with ⟨h1,h2⟩ | ⟨h1,h2⟩
 ·exact .of_left (intBits_le_64 h1 h2)
 ·exact .of_right (intBits_le_64 h1 h2)
theorem Ej (k:Nat):(0:Int)<=2 ^ k:=by
 rw [two_pow_cast];exact Int.natCast_nonneg _
theorem fD:lE X (binaryOp .Add) (Rp fun i j=>.int (i + j)):=ab0 fun _ _ _ _ _ _ _ q=>add_int q
theorem uW:lE X (binaryOp .Sub) (Rp fun i j=>.int (i - j)):=ab0 fun _ _ _ _ _ _ _ q=>sub_int q
theorem rJ:lE X (binaryOp .Mult) (rI ab1 fun i j=>.int (i * j)):=opI fun _ _ _ _ _ _ _ hc q=>mul_int q hc.ok
theorem gZ:lE X (binaryOp .FloorDiv) (rI arv fun i j=>.int (i / j)):=opI fun i j _ _ _ _ _ hc q=>by
 have h1:(0:Int) < j:=hc.1;have h2:j < 1073741824:=hc.2;exact floordiv_int (by omega) (by rw [Int.fdiv_eq_ediv_of_nonneg i (by omega)]; exact q) (.inl (PyProof.noPylong_small (by omega)))
theorem eY:lE X (binaryOp .Mod) (rI (fun _ j=>0 < j) fun i j=>.int (i % j)):=opI fun i j _ _ _ _ _ hc q=>by
 have h1:(0:Int) < j:=hc;exact mod_int' (by omega) (by rw [Int.fmod_eq_emod_of_nonneg i (by omega)]; exact q)
theorem Ek:lE X (binaryOp .LShift) (rI arw fun i j=>.int (i * 2 ^ j.toNat)):=opI fun _ _ _ _ _ _ _ hc q=>lshift_int_small hc.1 hc.2.1 hc.2.2 q
theorem zc:lE X (binaryOp .RShift) (rI (fun _ j=>0<=j) fun i j=>.int (i / 2 ^ j.toNat)):=opI fun i j _ _ _ _ _ hc q =>
 rshift_int hc (by rw [Int.fdiv_eq_ediv_of_nonneg i (Ej _)]; exact q)
theorem zf:lE X (binaryOp .BitAnd) (Rp fun i j=>.int (Builtin.bitAnd i j)):=ab0 fun _ _ _ _ _ _ _ q=>and_int q
theorem unI {f:aA->Sem aA} {g:Int->Int} (rule:∀ (i:Int) (t:Tok) (s:aQ) (Q:aA->aQ->Prop) (E:aA->aQ->Prop),Q (.int (g i) s.toks) { s with toks:=s.toks + 1 }->wpAny (model X.prog X.w) X.A (f (.int i t)) Q E s) : UnR X f (rU fun i=>.int (g i)):=by
 intro pins s σ H x v Q I rx h;obtain ⟨i,rfl,q⟩:=h;obtain ⟨t,rfl⟩:=rx;exact rule i t s _ _ ⟨.int (g i),H,I.tok _,⟨_,rfl⟩,q⟩
theorem uX:UnR X (unaryOp .USub) (rU fun i=>.int (-i)):=unI fun _ _ _ _ _ q=>neg_int q
end
noncomputable def aiO:V->V->Bool
 | .non,.non=>true | .non,.int _=>true | .int _,.non=>true | .non,.bl _=>true | .bl _,.non=>true | .non,.str _=>true | .str _,.non=>true
 | .int _,.int _=>true | .bl _,.bl _=>true | .str _,.str _=>true | .Gy _,.Gy _=>true
 | .int _,.str _=>true | .str _,.int _=>true | .bl _,.str _=>true | .str _,.bl _=>true
 | _,_=>false
def rEq:R2:=fun x y H Q=>aiO x y=true/\Q (.bl (decide (x=y))) H
def rNe:R2:=fun x y H Q=>aiO x y=true/\Q (.bl (!decide (x=y))) H
theorem GF {i j:Int}:decide (V.int i=V.int j)=(i == j):=by
 rw [Bool.eq_iff_iff];simp
theorem KJ {i j:Bool}:decide (V.bl i=V.bl j)=(i == j):=by
 rw [Bool.eq_iff_iff];simp
theorem GJ {i j:Str}:decide (V.str i=V.str j)=(i == j):=by
 rw [Bool.eq_iff_iff];simp
theorem GK {i j:Array UInt8}:decide (V.Gy i=V.Gy j)=(i.toList == j.toList):=by
 rw [Bool.eq_iff_iff];cases i;cases j;simp
section
variable {X:Cx} {a b c:Expr} {ta tb tc:TE} {pos:Pos}
theorem dI {pins:List (aB × Obj)} {σ:St} {H:Hp} {s:aQ} {Q:VK} {k k':Bool} (I:Inv X pins σ H s) (q:Q (.bl k) H) (e:k=k'):EP X pins σ Q (.bool k') s:=by
 subst e;exact ⟨.bl k,H,I,rfl,q⟩
theorem gQ:lE X (compareOp .Eq) rEq:=by
 intro pins s σ H x y v u Q I rx ry h;obtain ⟨hs,q⟩:=h;cases x with
 | non =>
  cases rx;cases y with
  | non=>cases ry; exact PySem.EqNone.eq_none_none (dI I q (by simp))
  | bl j=>cases ry; exact PySem.EqNone.eq_none_bool (dI I q (by simp))
  | int j=>obtain ⟨t',rfl⟩:=ry; exact PySem.EqNone.eq_none_int (dI I q (by simp))
  | str j=>obtain ⟨t',rfl⟩:=ry; exact PySem.EqNone.eq_none_str (dI I q (by simp))
  | _=>exact absurd (show false=true from hs) Bool.false_ne_true
 | bl i =>
  cases rx;cases y with
  | non=>cases ry; exact PySem.EqNone.eq_bool_none (dI I q (by simp))
  | bl j=>cases ry; exact eq_bool (dI I q KJ)
  | str j=>obtain ⟨t',rfl⟩:=ry; exact PySem.EqMixed.eq_bool_str (dI I q (by simp))
  | _=>exact absurd (show false=true from hs) Bool.false_ne_true
 | int i =>
  obtain ⟨t,rfl⟩:=rx;cases y with
  | non=>cases ry; exact PySem.EqNone.eq_int_none (dI I q (by simp))
  | int j=>obtain ⟨t',rfl⟩:=ry; exact eq_int (dI I q GF)
  | str j=>obtain ⟨t',rfl⟩:=ry; exact PySem.EqMixed.eq_int_str (dI I q (by simp))
  | _=>exact absurd (show false=true from hs) Bool.false_ne_true
 | str i =>
  obtain ⟨t,rfl⟩:=rx;cases y with
  | non=>cases ry; exact PySem.EqNone.eq_str_none (dI I q (by simp))
  | bl j=>cases ry; exact PySem.EqMixed.eq_str_bool (dI I q (by simp))
  | int j=>obtain ⟨t',rfl⟩:=ry; exact PySem.EqMixed.eq_str_int (dI I q (by simp))
  | str j=>obtain ⟨t',rfl⟩:=ry; exact eq_str (dI I q GJ)
  | _=>exact absurd (show false=true from hs) Bool.false_ne_true
 | Gy i =>
  obtain ⟨t,rfl⟩:=rx;cases y with
  | Gy j=>obtain ⟨t',rfl⟩:=ry; exact PySem.W.eq_bytes (dI I q GK)
  | _=>exact absurd (show false=true from hs) Bool.false_ne_true
 | _=>cases y <;> exact absurd (show false=true from hs) Bool.false_ne_true
theorem Ay:lE X (compareOp .NotEq) rNe:=by
 intro pins s σ H x y v u Q I rx ry h;obtain ⟨hs,q⟩:=h;cases x with
 | non =>
  cases rx;cases y with
  | non=>cases ry; exact PySem.EqNone.ne_none_none (dI I q (by simp))
  | bl j=>cases ry; exact PySem.EqNone.ne_none_bool (dI I q (by simp))
  | int j=>obtain ⟨t',rfl⟩:=ry; exact PySem.EqNone.ne_none_int (dI I q (by simp))
  | str j=>obtain ⟨t',rfl⟩:=ry; exact PySem.EqNone.ne_none_str (dI I q (by simp))
  | _=>exact absurd (show false=true from hs) Bool.false_ne_true
 | bl i =>
  cases rx;cases y with
  | non=>cases ry; exact PySem.EqNone.ne_bool_none (dI I q (by simp))
  | bl j=>cases ry; exact ne_bool (dI I q (congrArg not KJ))
  | str j=>obtain ⟨t',rfl⟩:=ry; exact PySem.EqMixed.ne_bool_str (dI I q (by simp))
  | _=>exact absurd (show false=true from hs) Bool.false_ne_true
 | int i =>
  obtain ⟨t,rfl⟩:=rx;cases y with
  | non=>cases ry; exact PySem.EqNone.ne_int_none (dI I q (by simp))
  | int j=>obtain ⟨t',rfl⟩:=ry; exact ne_int (dI I q (congrArg not GF))
  | str j=>obtain ⟨t',rfl⟩:=ry; exact PySem.EqMixed.ne_int_str (dI I q (by simp))
  | _=>exact absurd (show false=true from hs) Bool.false_ne_true
 | str i =>
  obtain ⟨t,rfl⟩:=rx;cases y with
  | non=>cases ry; exact PySem.EqNone.ne_str_none (dI I q (by simp))
  | bl j=>cases ry; exact PySem.EqMixed.ne_str_bool (dI I q (by simp))
  | int j=>obtain ⟨t',rfl⟩:=ry; exact PySem.EqMixed.ne_str_int (dI I q (by simp))
  | str j=>obtain ⟨t',rfl⟩:=ry; exact ne_str (dI I q (congrArg not GJ))
  | _=>exact absurd (show false=true from hs) Bool.false_ne_true
 | Gy i =>
  obtain ⟨t,rfl⟩:=rx;cases y with
  | Gy j=>obtain ⟨t',rfl⟩:=ry; exact PySem.W.ne_bytes (dI I q (congrArg not GK))
  | _=>exact absurd (show false=true from hs) Bool.false_ne_true
 | _=>cases y <;> exact absurd (show false=true from hs) Bool.false_ne_true
theorem Az:lE X (compareOp .Lt) (Rp fun i j=>.bl (decide (i < j))):=Rq fun _ _ _ _ _ _ _ q=>lt_int q
theorem xR:lE X (compareOp .LtE) (Rp fun i j=>.bl (decide (i<=j))):=Rq fun _ _ _ _ _ _ _ q=>le_int q
theorem Ba:lE X (compareOp .Gt) (Rp fun i j=>.bl (decide (j < i))):=Rq fun _ _ _ _ _ _ _ q=>gt_int q
theorem aiP:lE X (compareOp .GtE) (Rp fun i j=>.bl (decide (j<=i))):=Rq fun _ _ _ _ _ _ _ q=>ge_int q
theorem ab2:lE X (compareOp .Is) (fun x y H Q=>y=.non/\Q (.bl (decide (x=.non))) H):=by
 intro pins s σ H x y v u Q I rx ry h;obtain ⟨rfl,q⟩:=h;cases ry;refine is_none_gen (dI I q ?_);cases x <;> first
  | (cases rx; rfl)
  | (obtain ⟨t,rfl⟩:=rx; rfl)
theorem Rr:lE X (compareOp .IsNot) (fun x y H Q=>y=.non/\Q (.bl (!decide (x=.non))) H):=by
 intro pins s σ H x y v u Q I rx ry h;obtain ⟨rfl,q⟩:=h;cases ry;refine isnot_none_gen (dI I q ?_);cases x <;> first
  | (cases rx; rfl)
  | (obtain ⟨t,rfl⟩:=rx; rfl)
theorem cB (b:Expr) {op:CmpOp} (h:autoParam (op≠.In) zau1) (h2:autoParam (op≠.NotIn) zau1):behindInMarks op b=false:=by
 have e1:(op == CmpOp.In)=false:=by cases op <;> first | rfl | exact absurd rfl h
 have e2:(op == CmpOp.NotIn)=false:=by cases op <;> first | rfl | exact absurd rfl h2
 cases b <;> simp [behindInMarks,e1,e2]
theorem jN {op:CmpOp} {r:R2} (ho:lE X (compareOp op) r) (ha:PE X a ta) (hb:PE X b tb) (hm:behindInMarks op b=false):PE X (.Compare a [op] [b] pos) (tOp r ta tb):=by
 intro pins s σ H Q I h;exact wpAny_Compare1 (abZ ha hb I h fun v u s2 x y H2 I2 rx ry q=>ho pins s2 σ H2 x y v u Q I2 rx ry q) hm
def U9 (t:TE):TT:=fun σ H Q=>t σ H fun x H'=>∃ k,x=.bl k/\Q k H'
theorem bV {op:CmpOp} {r:R2} (ho:lE X (compareOp op) r) (ha:PE X a ta) (hb:PE X b tb) (hm:behindInMarks op b=false):PT X (.Compare a [op] [b] pos) (U9 (tOp r ta tb)):=by
 intro pins s σ H Q I h;refine wpAny_isTrue_Compare1 (d9 (ha pins s σ H _ I h) fun v s1 ⟨x,H1,I1,r1,q1⟩=>d9 (hb pins s1 σ H1 _ I1 q1) fun u s2 ⟨y,H2,I2,r2,q2⟩ =>
  d9 (ho pins s2 σ H2 x y v u _ I2 r1 r2 q2) fun c s3 ⟨z,H3,I3,r3,k,e,q3⟩=>?_) hm
 subst e;cases r3;exact wpAny_truthy_bool ⟨H3,I3,q3⟩
def KN (r r':R2) (ta tb tc:TE):TE:=fun σ H Q=>ta σ H fun x H1=>tb σ H1 fun y H2=>r x y H2 fun z H3=>∃ k,z=.bl k /\ (if k=true then tc σ H3 fun w' H4=>r' y w' H4 Q else Q (.bl false) H3)
theorem Bb {op op':CmpOp} {r r':R2} (ho:lE X (compareOp op) r) (ho':lE X (compareOp op') r') (ha:PE X a ta) (hb:PE X b tb) (hc:PE X c tc) (hm:autoParam (lastMarks [op,op'] [b,c]=false) zau5):PE X (.Compare a [op,op'] [b,c] pos) (KN r r' ta tb tc):=by
 intro pins s σ H Q I h;refine Compare_chain (d9 (ha pins s σ H _ I h) fun v s1 ⟨x,H1,I1,r1,q1⟩=>chain_link (d9 (hb pins s1 σ H1 _ I1 q1) fun u s2 ⟨y,H2,I2,r2,q2⟩ =>
  d9 (ho pins s2 σ H2 x y v u _ I2 r1 r2 q2) fun d s3 ⟨z,H3,I3,r3,k,e,q3⟩=>?_)) hm
 subst e;cases r3;refine wpAny_truthy_bool ?_;cases k with
 | false=>exact ite_ff ⟨.bl false,H3,I3,rfl,q3⟩
 | true=>exact ite_tt (chain_last (d9 (hc pins s3 σ H3 _ I3 q3) fun w' s4 ⟨z',H4,I4,r4,q4⟩=>ho' pins s4 σ H4 y z' u w' Q I4 r2 r4 q4))
theorem Bc {op op':CmpOp} {r r':R2} (ho:lE X (compareOp op) r) (ho':lE X (compareOp op') r') (ha:PE X a ta) (hb:PE X b tb) (hc:PE X c tc) (hm:autoParam (lastMarks [op,op'] [b,c]=false) zau5):PT X (.Compare a [op,op'] [b,c] pos) (U9 (KN r r' ta tb tc)):=by
 intro pins s σ H Q I h;refine isTrue_chain (d9 (ha pins s σ H _ I h) fun v s1 ⟨x,H1,I1,r1,q1⟩=>test_link (d9 (hb pins s1 σ H1 _ I1 q1) fun u s2 ⟨y,H2,I2,r2,q2⟩ =>
  d9 (ho pins s2 σ H2 x y v u _ I2 r1 r2 q2) fun d s3 ⟨z,H3,I3,r3,k,e,q3⟩=>?_)) hm
 subst e;cases r3;refine wpAny_truthy_bool ?_;cases k with
 | false =>
  obtain ⟨k',e',q'⟩:=q3;cases e';exact ite_ff ⟨H3,I3,q'⟩
 | true =>
  refine ite_tt (test_last (d9 (hc pins s3 σ H3 _ I3 q3) fun w' s4 ⟨z',H4,I4,r4,q4⟩=>d9 (ho' pins s4 σ H4 y z' u w' _ I4 r2 r4 q4) fun d' s5 ⟨z2,H5,I5,r5,k2,e2,q5⟩=>?_));subst e2;cases r5;exact wpAny_truthy_bool ⟨H5,I5,q5⟩
noncomputable def aiQ (K:Fg) (x:V) (H:Hp) (k:Bool):Prop := match x with
 | .non=>k=false
 | .bl b=>k=b
 | .int i=>k=(i != 0)
 | .str y=>y.length<=sizeLine/\k=((y.length:Int) != 0)
 | .Gy y=>y.size<=sizeLine/\k=((y.size:Int) != 0)
 | .ref p=>(∃ xs,cD K H p xs/\k=!xs.isEmpty)\/(∃ xs,dM K H p xs/\k=!xs.isEmpty)\/∃ kvs,H p=some (.dK kvs)/\k=!kvs.isEmpty
 | _=>False
theorem El {κ:Type} {kvs:List (κ × V)} {vs:List (κ × aA)} (r:KV kvs vs):(!vs.isEmpty)=!kvs.isEmpty:=by
 cases r <;> rfl
theorem uY {xs:List V} {its:List aA} (r:Vals xs its):(!its.toArray.isEmpty)=!xs.isEmpty:=by
 cases r <;> simp
theorem uZ:(sizeLine:Nat) < 2 ^ 63:=by rw [sizeLine_eq]; decide
theorem ab3:aru X (fun x H Q=>∃ k,aiQ X.K x H k/\Q k H):=by
 intro pins s σ H x v Q I rx h;obtain ⟨k,e,q⟩:=h;have hl:=uZ;have hs:sizeLine=16777216:=sizeLine_eq;cases x with
 | non =>
  cases rx;have e':k=false:=e;subst e';exact truthy_none ⟨H,I,q⟩
 | bl b =>
  cases rx;have e':k=b:=e;subst e';exact wpAny_truthy_bool ⟨H,I,q⟩
 | int i =>
  obtain ⟨t,rfl⟩:=rx;have e':k=(i != 0):=e;subst e';exact PySem.P.truthy_int ⟨H,I,q⟩
 | str y =>
  obtain ⟨t,rfl⟩:=rx;obtain ⟨hy,e'⟩:y.length<=sizeLine/\k=((y.length:Int) != 0):=e;subst e';exact PySem.P.truthy_str (by omega) ⟨H,I.tok _,q⟩
 | Gy y =>
  obtain ⟨t,rfl⟩:=rx;obtain ⟨hy,e'⟩:y.size<=sizeLine/\k=((y.size:Int) != 0):=e;subst e';exact PySem.W.truthy_bytes (by omega) ⟨H,I.tok _,q⟩
 | ref p =>
  cases rx;have e':(∃ xs,cD X.K H p xs/\k=!xs.isEmpty)\/(∃ xs,dM X.K H p xs/\k=!xs.isEmpty)\/∃ kvs,H p=some (.dK kvs)/\k=!kvs.isEmpty:=e;rcases e' with ⟨xs,hx,e'⟩ | ⟨xs,hx,e'⟩ | ⟨kvs,hx,e'⟩
  ·subst e';obtain ⟨its,r,pl,hz⟩:=I.list hx;have hlen:=r.length;exact wpAny_truthy_list pl.isList (by simp only [size_toArray]; omega) ⟨H,I.tok _,by rw [uY r]; exact q⟩
  ·subst e';obtain ⟨its,r,pl,hz⟩:=I.tuple hx;have hlen:=r.length;exact truthy_tuple pl (by simp only [size_toArray]; omega) ⟨H,I.tok _,by rw [uY r]; exact q⟩
  ·subst e';obtain ⟨hz,hS,vs,r,m⟩:kvs.length<=sizeLine/\(p == sysModules)=false/\∃ vs,KV kvs vs/\s.heap.DictOf (yX X.prog X.w) p vs:=I.hok p _ hx;have hlen:kvs.length=vs.length:=Paired.length r;exact wpAny_truthy_dict hS m (by omega) ⟨H,I.tok _,by rw [El r]; exact q⟩
 | _=>exact (show False from e).elim
theorem KQ (ha:PE X a ta) (he:∀ whole,isTrue a X.env whole=(do let v <- whole; standAt a.pos; holding [v] (truthy v))) :
  PT X a (fun σ H Q=>ta σ H fun x H'=>∃ k,aiQ X.K x H' k/\Q k H'):=by
 intro pins s σ H Q I h;exact isTrue_plain (d9 (ha pins s σ H _ I h) fun v s1 ⟨x,H1,I1,r1,q1⟩=>ab3 pins s1 σ H1 x v Q I1 r1 q1) (he _)
theorem vals1 {x:V} {us:List aA} (r:Vals [x] us):∃ u,us=[u]/\RelV x u:=by
 cases r with
 | cons r1 r2=>cases r2; exact ⟨_,rfl,r1⟩
theorem vals2 {x y:V} {us:List aA} (r:Vals [x,y] us):∃ u w',us=[u,w']/\RelV x u/\RelV y w':=by
 cases r with
 | cons r1 r2 =>
  cases r2 with
  | cons r3 r4=>cases r4; exact ⟨_,_,rfl,r1,r3⟩
theorem Iz (hc:X.calm=true):gw X (.builtin "max") (fun xs H Q=>∃ i j,xs=[.int i,.int j]/\Q (.int (if j > i then j else i)) H):=by
 intro pins s σ H xs us Q I r h;obtain ⟨i,j,rfl,q⟩:=h;obtain ⟨u,w',rfl,⟨t,rfl⟩,⟨t',rfl⟩⟩:=vals2 r;refine max_two_ints (I.ok.hd hc) fun h' tk k=>⟨_,H,I.kept k,?_,q⟩
 by_cases hj:j > i
 ·rw [if_pos hj,if_pos hj]; exact ⟨_,rfl⟩
 ·rw [if_neg hj,if_neg hj]; exact ⟨_,rfl⟩
theorem IK (hc:X.calm=true):gw X (.builtin "min") (fun xs H Q=>∃ i j,xs=[.int i,.int j]/\Q (.int (if j < i then j else i)) H):=by
 intro pins s σ H xs us Q I r h;obtain ⟨i,j,rfl,q⟩:=h;obtain ⟨u,w',rfl,⟨t,rfl⟩,⟨t',rfl⟩⟩:=vals2 r;refine min_two_ints (I.ok.hd hc) fun h' tk k=>⟨_,H,I.kept k,?_,q⟩
 by_cases hj:j < i
 ·rw [if_pos hj,if_pos hj]; exact ⟨_,rfl⟩
 ·rw [if_neg hj,if_neg hj]; exact ⟨_,rfl⟩
theorem IV:gw X (.type "int") (fun xs H Q=>(∃ i,xs=[.int i]/\Q (.int i) H)\/∃ k,xs=[.bl k]/\Q (.int (if k then 1 else 0)) H):=by
 intro pins s σ H xs us Q I r h;rcases h with ⟨i,rfl,q⟩ | ⟨k,rfl,q⟩
 ·obtain ⟨u,rfl,t,rfl⟩:=vals1 r;exact call_int_int ⟨.int i,H,I,⟨_,rfl⟩,q⟩
 ·obtain ⟨u,rfl,r1⟩:=vals1 r;cases r1;exact call_int_bool ⟨.int (if k then 1 else 0),H,I.tok _,⟨_,rfl⟩,q⟩
end
structure Em (h:Heap) (x dx C:aB) (mA:Str->Option aA):Prop where
 obj:h.get? x=some (instObj C dx)
 ns:h.Ns1 dx mA
 ne:dx≠x
theorem xT {h:Heap} {dx:aB} {mA:Str->Option aA} (n:h.Ns1 dx mA):∃ od,h.get? dx=some od/\∀ name,lookIn name od=some (mA name):=by
 obtain ⟨o,es,ep,ho,hd,hk,_,hm⟩:=n;refine ⟨o,ho,fun name=>?_⟩;have e:=hm name;unfold nsFind findBy at e;rw [<- Array.find?_toList] at e;unfold lookIn;rw [hd];dsimp only
 split
 ·rename_i y q
  rw [q] at e;exact congrArg some e
 ·rename_i q
  rw [q] at e;have a:es.toList.any (·.refKey)=false:=by
   rw [List.any_eq_false];intro y hy;obtain ⟨z,t,hkey⟩:=hk y (Array.mem_toList_iff.mp hy);simp [DictEntry.refKey,hkey]
  have a':¬ es.toList.any (·.refKey)=true:=by rw [a]; exact Bool.false_ne_true
  rw [if_neg a'];exact congrArg some e
theorem Em.look {h:Heap} {x dx C:aB} {mA:Str->Option aA} (I:Em h x dx C mA):∃ od,InstAt h x (instObj C dx) C (some od)/\∀ name,lookIn name od=some (mA name) := let ⟨od,ho,hl⟩:=xT I.ns
 ⟨od,⟨I.obj,rfl,rfl,ho⟩,hl⟩
section
variable {prog:cA} {w:World} {A:c7} {E:aA->aQ->Prop} {s:aQ} {K:Fg} {x dx C f:aB} {mA:Str->Option aA} {name:Str} {v:aA}
theorem get_map {expr:Bool} {Q:aA->aQ->Prop} (X:K.In s.heap) (I:Em s.heap x dx C mA) (hg:plainGet K C name=true) (hh:hasDictIn K C=true) (ha:findIn K (.ref C) name=some none) (hv:mA name=some v) (hv':handedIn v=true) (h:Q v { s with toks:=s.toks + 1 }) : wpAny (model prog w) A (getAttr (.ref x) name expr) Q E s:=by
 obtain ⟨od,J,hl⟩:=I.look;exact PySem.W.get_value X J (plainGet_of hg).1 (findObj_own hh ha rfl (by rw [hl,hv])) hv' h
theorem KR {pl:Sem Bool} {Q:aA × List aA->aQ->Prop} (X:K.In s.heap) (I:Em s.heap x dx C mA) (hg:plainGet K C name=true) (hf:findIn K (.ref C) name=some (some (.ref f))) (ht:isFn K (.ref f)=true) (hv:mA name=none) (h:Q (.ref f,[.ref x]) s) : wpAny (model prog w) A (getMethod (.ref x) name pl) Q E s:=by
 obtain ⟨od,J,hl⟩:=I.look;exact PySem.W.method_fn X J (plainGet_of hg).1 (plainGet_of hg).2 hf (beq_iff_eq.mp ht) (by show (lookIn name od).map (·.isSome)=some false; rw [hl,hv]; rfl) h
theorem Ru {ns:List Str} {Q:Unit->aQ->Prop} (X:K.In s.heap) (I:Em s.heap x dx C mA) (hs:findIn K (.ref C) "__setattr__"=some (some (.builtin "object.__setattr__"))) (hp:plainOver K C=true) (ht:takerIn K C name=some none) (hh:hasDictIn K C=true) (hw:PySem.Within mA ns) (hsz:ns.length<=sizeLine) (h:∀ h',Em h' x dx C (fun y=>if y=name then some v else mA y)->Heap.SameBut dx s.heap h'->Q () { s with heap:=h',toks:=s.toks + 2 }) : wpAny (model prog w) A (setAttr (.ref x) name v) Q E s:=by
 obtain ⟨od,J,hl⟩:=I.look;refine set_plain X J hs (PySem.W.osa_open (s:={ s with toks:=s.toks + 1 }) (r:=none) X J hp ht fun b=>?_);obtain ⟨cd,hc,hd'⟩:=any_some hh;have hx:s.heap.get? x=some ⟨.ref C,some dx,.plain,#[]⟩:=I.obj;refine aj (au (aj (aj (wpAny_loadPart hx (aj (Looks.here (s:={ s with toks:=s.toks + 1 }) (looks_clsIn X hc) ?_))))));rw [hd'];refine au (a:=some dx) (aj (au (aj ?_)));refine wpAny_nsSet1 (s:={ s with toks:=s.toks + 1 }) I.ns fun h' hn2 hs2=>?_
 obtain ⟨oD,esD,epD,hoD,hdD,hcD⟩:=hn2.count (PySem.Within.cons name v hw);refine aj (wpAny_lookBehind hoD (by rw [hdD]; exact pastItsLine_dict (bh hcD (by rw [length_cons]; omega))) ?_);exact au (h _ ⟨(hs2.2 _ (Ne.symm I.ne)).trans I.obj,hn2,I.ne⟩ hs2)
theorem KY {R:Result->aQ->Prop} {vs:List aA} {kw:List (Str × aA)} (X:K.In s.heap) (hm:makesIn K C=true) (hi:findIn K (.ref C) "__init__"=some (some (.ref f))) (hf:typeIn K (.ref f)=some (.type "function")) (h:codeAny (model prog w) (A.under (.builtin "type.__call__" ⟨.ref C::vs,kw⟩)) (.call (.ref f) ⟨.ref (s.heap.objs.size + 1)::vs,kw⟩) (PySem.W.InitBack (s.heap.objs.size + 1) R) { s with heap:=(s.heap.push emptyDict).push (instObj C s.heap.objs.size) }) : codeAny (model prog w) A (.call (.ref C) ⟨vs,kw⟩) R s:=by
 obtain ⟨hh,g,d,t,os⟩:=s;exact PySem.W.make_core (PySem.W.makes_of X hm) (looks_findIn X hi) (fun self=>PySem.W.bind_fn X self hf) (.inl rfl) h
end
def gH (f:Str) (v:V):List (Str × V)->List (Str × V)
 | []=>[(f,v)]
 | (g,x)::r=>if g=f then (g,v)::r else (g,x)::gH f v r
theorem uw (f g:Str) (v:V):∀ fs:List (Str × V),(gH f v fs).lookup g=if g=f then some v else fs.lookup g
 | []=>by
  show List.lookup g [(f,v)]=_
  by_cases h:g=f
  ·have hb:(g == f)=true:=beq_iff_eq.mpr h;simp only [List.lookup,hb,if_pos h]
  ·have hb:(g == f)=false:=beq_eq_false_iff_ne.mpr h;simp only [List.lookup,hb,if_neg h]
 | (k,x)::r=>by
  have ih:=uw f g v r;rw [show gH f v ((k,x)::r)=(if k=f then (k,v)::r else (k,x)::gH f v r) from rfl]
  by_cases hk:k=f
  ·rw [if_pos hk]
   by_cases h:g=k
   ·have hb:(g == k)=true:=beq_iff_eq.mpr h;simp only [List.lookup,hb,if_pos (h.trans hk)]
   ·have hb:(g == k)=false:=beq_eq_false_iff_ne.mpr h;simp only [List.lookup,hb,if_neg (fun e:g=f=>h (e.trans hk.symm))]
  ·rw [if_neg hk]
   by_cases h:g=k
   ·have hb:(g == k)=true:=beq_iff_eq.mpr h;simp only [List.lookup,hb,if_neg (fun e:g=f=>hk (h.symm.trans e))]
   ·have hb:(g == k)=false:=beq_eq_false_iff_ne.mpr h;simp only [List.lookup,hb];exact ih
theorem rK (f:Str) (v:V):∀ fs:List (Str × V),f ∈ (gH f v fs).map (·.1)/\∀ g,g ∈ fs.map (·.1)->g ∈ (gH f v fs).map (·.1)
 | []=>⟨by simp [gH],fun g h=>by simp at h⟩
 | (k,x)::r=>by
  obtain ⟨i1,i2⟩:=rK f v r;rw [show gH f v ((k,x)::r)=(if k=f then (k,v)::r else (k,x)::gH f v r) from rfl]
  by_cases hk:k=f
  ·rw [if_pos hk];subst hk;exact ⟨by simp,fun g h=>by simpa using h⟩
  ·rw [if_neg hk];refine ⟨?_,fun g h=>?_⟩
   ·rw [cR];exact mem_cons_of_mem _ i1
   ·rw [cR] at h ⊢;rcases aO.mp h with e | e
    ·exact aO.mpr (.inl e)
    ·exact mem_cons_of_mem _ (i2 g e)
theorem jc (f:Str) (v:V):∀ fs:List (Str × V),(gH f v fs).length<=fs.length + 1
 | []=>by simp [gH]
 | (k,x)::r=>by
  have ih:=jc f v r;rw [show gH f v ((k,x)::r)=(if k=f then (k,v)::r else (k,x)::gH f v r) from rfl]
  by_cases hk:k=f
  ·rw [if_pos hk,length_cons,length_cons]; omega
  ·rw [if_neg hk,length_cons,length_cons]; omega
theorem uT.some_of {v:V} {o:Option aA} (r:uT (some v) o):∃ u,o=some u/\RelV v u:=by
 cases o with
 | none=>exact (show False from r).elim
 | some u=>exact ⟨u,rfl,r⟩
theorem uT.none_of {o:Option aA} (r:uT none o):o=none:=by
 cases o with
 | none=>rfl
 | some u=>exact (show False from r).elim
theorem IW {v:V} {u:aA} (r:RelV v u):handedIn u=true:=by
 cases v with
 | non=>cases (show u=Value.none from r); rfl
 | bl b=>cases (show u=Value.bool b from r); rfl
 | int i=>obtain ⟨t,e⟩:=(show ∃ t,u=Value.int i t from r); cases e; rfl
 | str x=>obtain ⟨t,e⟩:=(show ∃ t,u=Value.str x t from r); cases e; rfl
 | Gy b=>obtain ⟨t,e⟩:=(show ∃ t,u=Value.bytes b t from r); cases e; rfl
 | flt b=>obtain ⟨t,e⟩:=(show ∃ t,u=Value.float b t from r); cases e; rfl
 | ref a=>cases (show u=Value.ref a from r); rfl
 | ty n=>cases (show u=Value.type n from r); rfl
section
variable {P:cA} {w:World} {H H':Hp} {h h':Heap} {a C dx:aB} {fs fs':List (Str × V)}
theorem uO (hok:rE P w H h) (e:H a=some (.ins C dx fs)):∃ mA,Em h a dx C mA/\(∀ f,uT (fs.lookup f) (mA f))/\PySem.Within mA (fs.map (·.1))/\fs.length<=1000/\H dx=some (.own a):=by
 obtain ⟨d,z,ne,ob,mA,n,r,q⟩:=(show eE P w H h a (.ins C dx fs) from hok a _ e);exact ⟨mA,⟨ob,n,ne⟩,r,q,z,d⟩
end
structure Cls (K:Fg) (C:aB):Prop where
 pg:plainGet K C Str.empty=true
 hd:hasDictIn K C=true
 po:plainOver K C=true
 sa:findIn K (.ref C) "__setattr__"=some (some (.builtin "object.__setattr__"))
theorem Cls.get {K:Fg} {C:aB} (c:Cls K C) (f:Str):plainGet K C f=true:=c.pg
def iM (K:Fg) (C:aB) (f:Str):Prop:=findIn K (.ref C) f=some none
theorem iM.taker {K:Fg} {C:aB} {f:Str} (n:iM K C f):takerIn K C f=some none:=by
 unfold takerIn;rw [show findIn K (.ref C) f=some none from n];rfl
structure Meth (K:Fg) (C:aB) (m:Str) (f:aB):Prop where
 at_:findIn K (.ref C) m=some (some (.ref f))
 fn:isFn K (.ref f)=true
 kp:keepIn K (.ref f)=true
section
variable {X:Cx} {pins:List (aB × Obj)} {σ:St} {H:Hp} {s:aQ} {a C dx:aB} {fs:List (Str × V)} {f:Str} {v:V} {A:c7} {E:aA->aQ->Prop}
theorem En {b:Bool} {Q:aA->aQ->Prop} (I:Inv X pins σ H s) (e:H a=some (.ins C dx fs)) (c:Cls X.K C) (n:iM X.K C f) (l:fs.lookup f=some v) (h:∀ u s',Inv X pins σ H s'->RelV v u->Q u s'):wpAny (model X.prog X.w) A (getAttr (.ref a) f b) Q E s:=by
 obtain ⟨mA,O,r,_,_,_⟩:=uO I.hok e;obtain ⟨u,hu,ru⟩:=uT.some_of (v:=v) (o:=mA f) (by rw [<- l]; exact r f);exact get_map I.j7 O (c.get f) c.hd n hu (IW ru) (h u _ (I.tok _) ru)
theorem oY {m:Str} {g:aB} {pl:Sem Bool} {Q:aA × List aA->aQ->Prop} (I:Inv X pins σ H s) (e:H a=some (.ins C dx fs)) (c:Cls X.K C) (k:Meth X.K C m g) (l:fs.lookup m=none) (h:Q (.ref g,[.ref a]) s):wpAny (model X.prog X.w) A (getMethod (.ref a) m pl) Q E s:=by
 obtain ⟨mA,O,r,_,_,_⟩:=uO I.hok e;have hn:mA m=none:=uT.none_of (by rw [<- l]; exact r m);exact KR I.j7 O (c.get m) k.at_ k.fn hn h
theorem Eo {y:V} {u:aA} {Q:Unit->aQ->Prop} (I:Inv X pins σ H s) (e:H a=some (.ins C dx fs)) (c:Cls X.K C) (n:iM X.K C f) (hl:fs.length < 1000) (ry:RelV y u) (h:∀ s',Inv X pins σ (upd H a (.ins C dx (gH f y fs))) s'->Q () s'):wpAny (model X.prog X.w) A (setAttr (.ref a) f u) Q E s:=by
 obtain ⟨mA,O,r,wi,_,ho⟩:=uO I.hok e;have hz:(fs.map (·.1)).length<=sizeLine:=by rw [aq,sizeLine_eq]; omega
 refine Ru I.j7 O c.sa c.po n.taker c.hd wi hz fun h' O' sb=>h _ ?_
 have hd:∃ o,h'.get? dx=some o:=let ⟨o,_,_,e',_⟩:=O'.ns; ⟨o,e'⟩;refine I.write (x:=a) (e:=dx) (by rw [e]; exact True.intro) (.inr ho) (fun b q hb z=>(sb.2 b hb).trans z) hd ?_;refine ⟨by rw [bx O.ne]; exact ho,?_,O.ne,O'.obj,_,O'.ns,fun g=>?_,fun g hg=>?_⟩
 ·have:=jc f y fs; omega
 ·show uT ((gH f y fs).lookup g) (if g=f then some u else mA g)
  rw [uw]
  by_cases q:g=f
  ·rw [if_pos q,if_pos q]; exact ry
  ·rw [if_neg q,if_neg q]; exact r g
 ·by_cases q:g=f
  ·rw [q]; exact (rK f y fs).1
  ·refine (rK f y fs).2 g (wi g fun z=>hg ?_)
   show (if g=f then some u else mA g)=none
   rw [if_neg q]; exact z
theorem Inv.made (I:Inv X pins σ H s):Inv X pins σ (upd (upd H s.heap.objs.size (.own (s.heap.objs.size + 1))) (s.heap.objs.size + 1) (.ins C s.heap.objs.size [])) { s with heap:=(s.heap.push emptyDict).push (instObj C s.heap.objs.size) }:=by
 have e1:(s.heap.push emptyDict).get? s.heap.objs.size=some emptyDict:=aJ s.heap rfl;have e2:((s.heap.push emptyDict).push (instObj C s.heap.objs.size)).get? (s.heap.objs.size + 1)=some (instObj C s.heap.objs.size):=by
  have:=aJ (s.heap.push emptyDict) (o:=instObj C s.heap.objs.size) rfl
  rwa [Heap.size_push] at this
 have e3:(s.heap.push emptyDict).Ns s.heap.objs.size (fun _=>none):=⟨emptyDict,#[],_,e1,rfl,(fun e he=>absurd he (by simp)),fun _=>rfl⟩;have I1:=I.laid (a:=s.heap.objs.size) (o:=.own (s.heap.objs.size + 1)) (h':=s.heap.push emptyDict) (t':=s.toks) (fun b u q=>ak _ q) (aN _) ⟨_,e1⟩;refine I1.laid (a:=s.heap.objs.size + 1) (o:=.ins C s.heap.objs.size []) (t':=s.toks) (fun b u q=>ak _ q) (Nat.le_of_eq (Heap.size_push _ _)) ?_;have ne:s.heap.objs.size≠s.heap.objs.size + 1:=Nat.ne_of_lt (Nat.lt_succ_self _);refine ⟨by rw [bx ne,aD],eV _,ne,e2,fun _=>none,(Heap.Ns1.of_empty e3).at fun o q=>ak _ q,fun _=>True.intro,fun y hy=>absurd rfl hy⟩
theorem GP {prog:cA} {w:World} {env:Env} {e:Expr} {f:Str} {pos:Pos} {s:aQ} {Q:aA->aQ->Prop} (hb:attributeBase e f env (eval e env)=eval e env) (h:wpAny (model prog w) A (eval e env) (fun o s₁=>wpAny (model prog w) A (getAttr o f true) Q E s₁) E s):wpAny (model prog w) A (eval (.Attribute e f pos) env) Q E s := Attribute_any_ h (by rw [arm_eval_Attribute,hb])
end
def ab4 (K:Fg) (ta:TE) (f:Str):TE:=fun σ H Q=>ta σ H fun x H1=>∃ a C dx fs v,x=.ref a/\H1 a=some (.ins C dx fs)/\Cls K C/\iM K C f/\fs.lookup f=some v/\Q v H1
noncomputable def arx (K:Fg) (ta tv:TE) (f:Str):TS:=fun D σ H=>tv σ H fun y H1=>ta σ H1 fun x H2=>∃ a C dx fs,x=.ref a/\H2 a=some (.ins C dx fs)/\Cls K C/\iM K C f/\fs.length < 1000 /\ D.nx σ (upd H2 a (.ins C dx (gH f y fs)))
section
variable {X:Cx} {o e value:Expr} {f:Str} {pos pos' tpos:Pos} {ta tv:TE}
theorem gB (he:PE X e ta) (hb:attributeBase e f X.env (eval e X.env)=eval e X.env):PE X (.Attribute e f pos) (ab4 X.K ta f):=by
 intro pins s σ H Q I h;refine GP hb (d9 (he pins s σ H _ I h) fun u s1 ⟨x,H1,I1,rx,a,C,dx,fs,v,ex,ea,c,n,l,q⟩=>?_);subst ex;obtain rfl:u=Value.ref a:=rx;exact En I1 ea c n l fun u' s2 I2 ru=>⟨v,H1,I2,ru,q⟩
theorem oZ (ha:PE X o ta) (hv:PE X value tv) (hs:swapsWith value (some (.Attribute o f pos')) pos.line X.env=pure false):PS X (.Assign [.Attribute o f pos'] value pos) (arx X.K ta tv f):=by
 intro pins s σ H D I h;refine plainObj_wpAny_Assign_Attribute (d9 (hv pins s σ H _ I h) fun u s1 ⟨y,H1,I1,ry,q⟩=>d9 (ha pins s1 σ H1 _ I1 q) fun ov s2 ⟨x,H2,I2,rx,a,C,dx,fs,ex,ea,c,n,l,q2⟩=>?_) hs;subst ex;obtain rfl:ov=Value.ref a:=rx;exact Eo I2 ea c n l ry fun s3 I3=>⟨σ,_,I3,q2⟩
theorem Va {pl:Sem Bool} {m:Str} {apos:Pos} {args:List Expr} {pins:List (aB × Obj)} {s:aQ} {σ:St} {H:Hp} {Q:aA->aQ->Prop} {te:TE} (he:PE X e te) (I:Inv X pins σ H s) (h:te σ H fun x H1=>∃ a C dx fs g,x=.ref a/\H1 a=some (.ins C dx fs)/\Cls X.K C/\Meth X.K C m g/\fs.lookup m=none /\ ∀ s1,Inv X pins σ H1 s1->wpAny (model X.prog X.w) X.A (callWith pos (.ref g) [.ref a] (backTo pos (starEach args X.env)) (backToKw pos (keywordEach [] X.env))) Q X.xe s1) (ht:eval (.Call (.Attribute e m apos) args [] pos) X.env=(do
   let ov <- eval e X.env
   standAt apos.atName
   let (f,first) <- holding [ov] (getMethod ov m pl)
   callWith pos f first (backTo pos (starEach args X.env)) (backToKw pos (keywordEach [] X.env)))) :
  wpAny (model X.prog X.w) X.A (eval (.Call (.Attribute e m apos) args [] pos) X.env) Q X.xe s:=by
 refine methodCall_KW (pl:=pl) (d9 (he pins s σ H _ I h) fun u s1 ⟨x,H1,I1,rx,a,C,dx,fs,g,ex,ea,c,k,l,q⟩=>?_) ht;subst ex;obtain rfl:u=Value.ref a:=rx;exact oY I1 ea c k l (q s1 I1)
end
section
variable {X:Cx} {pins:List (aB × Obj)} {σ:St} {H:Hp} {s:aQ} {A:c7} {E:aA->aQ->Prop} {Q:aA->aQ->Prop} {c:aA} {b:Bool}
inductive o7 (K:Fg) (H:Hp):V->aA->Prop where
 | non:o7 K H .non (.type "NoneType")
 | bl (x:Bool):o7 K H (.bl x) (.type "bool")
 | int (i:Int):o7 K H (.int i) (.type "int")
 | str (x:Str):o7 K H (.str x) (.type "str")
 | flt (x:UInt64):o7 K H (.flt x) (.type "float")
 | lst {a:aB} {xs:List V} (e:H a=some (.lst xs)):o7 K H (.ref a) (.type "list")
 | Av {a:aB} {o:Obj} {xs:List V} (e:H a=some (.Av o (.lst xs))):o7 K H (.ref a) (.type "list")
 | tup {a:aB} {xs:List V} (e:H a=some (.tup xs)):o7 K H (.ref a) (.type "tuple")
 | dK {a:aB} {kvs:List (Key × V)} (e:H a=some (.dK kvs)):o7 K H (.ref a) (.type "dict")
 | dT {a:aB} {kvs:List (List Key × V)} (e:H a=some (.dT kvs)):o7 K H (.ref a) (.type "dict")
 | ins {a C dx:aB} {fs:List (Str × V)} (e:H a=some (.ins C dx fs)) (cl:Cls K C) (ha:findIn K (.ref C) "__class__"=some (some (.builtin "object.__class__"))) (hn:specialIn K (.builtin "object.__class__") "__get__"=some (some (.builtin "getset_descriptor.__get__"))) (htk:takesIn K (.builtin "object.__class__")=some true) (hm:mroIn K C (.type "object")=some true):o7 K H (.ref a) (.ref C)
theorem xU {x:V} {u t:aA} (I:Inv X pins σ H s) (rx:RelV x u) (ty:o7 X.K H x t) (e:kitOne X.K t c=some b) (h:∀ tk,Q (.bool b) { s with toks:=tk }) : wpAny (model X.prog X.w) A (call (.builtin "isinstance") [u,c]) Q E s:=by
 cases ty with
 | non=>cases (show u=Value.none from rx); exact kia_one PySem.W.kitx_none I.j7 True.intro e (fun z=>nomatch z) h
 | bl y=>cases (show u=Value.bool y from rx); exact kia_one PySem.W.kitx_bool I.j7 True.intro e (fun z=>nomatch z) h
 | int i=>obtain ⟨t,q⟩:=(show ∃ t,u=Value.int i t from rx); cases q; exact kia_one PySem.W.kitx_int I.j7 True.intro e (fun z=>nomatch z) h
 | str y=>obtain ⟨t,q⟩:=(show ∃ t,u=Value.str y t from rx); cases q; exact kia_one PySem.W.kitx_str I.j7 True.intro e (fun z=>nomatch z) h
 | flt y=>obtain ⟨t,q⟩:=(show ∃ t,u=Value.float y t from rx); cases q; exact kia_one PySem.W.kitx_float I.j7 True.intro e (fun z=>nomatch z) h
 | @lst a xs ea =>
  cases (show u=Value.ref a from rx);obtain ⟨_,_,n,_,h1⟩:=(show eE X.prog X.w H s.heap a (.lst xs) from I.hok a _ ea);exact kia_one kitx_list I.j7 ⟨_,h1,rfl⟩ e (fun z=>nomatch z) h
 | @Av a ob xs ea =>
  cases (show u=Value.ref a from rx);obtain ⟨_,_,_,n,_,h1⟩:=(show eE X.prog X.w H s.heap a (.Av ob (.lst xs)) from I.hok a _ ea);exact kia_one kitx_list I.j7 ⟨_,h1,rfl⟩ e (fun z=>nomatch z) h
 | @tup a xs ea =>
  cases (show u=Value.ref a from rx);obtain ⟨_,_,_,p⟩:=(show eE X.prog X.w H s.heap a (.tup xs) from I.hok a _ ea);obtain ⟨o,h1,h2,_⟩:=p;exact kia_one PySem.W.kitx_tuple I.j7 ⟨o,h1,h2⟩ e (fun z=>nomatch z) h
 | @dK a kvs ea =>
  cases (show u=Value.ref a from rx);obtain ⟨_,_,vs,_,p⟩:=(show eE X.prog X.w H s.heap a (.dK kvs) from I.hok a _ ea);obtain ⟨o,es,ep,h1,h2,_⟩:=p;exact kia_one kitx_dict I.j7 ⟨o,h1,h2.1⟩ e (fun z=>nomatch z) h
 | @dT a kvs ea =>
  cases (show u=Value.ref a from rx);obtain ⟨_,_,xs,_,o,es,ep,h1,h2,_⟩:=(show eE X.prog X.w H s.heap a (.dT kvs) from I.hok a _ ea);exact kia_one kitx_dict I.j7 ⟨o,h1,h2.1⟩ e (fun z=>nomatch z) h
 | @ins a C dx fs ea cl ha hn htk hm =>
  cases (show u=Value.ref a from rx);obtain ⟨mA,O,_⟩:=uO I.hok ea;obtain ⟨od,J,_⟩:=O.look;exact kia_one (PySem.W.kitx_own (cl.get _) cl.hd ha hn htk hm) I.j7 J e (fun z=>nomatch z) h
end
structure d7 (k:Nat) (A:c7):Prop where
 hd:A.handled=none
 dp:A.depth + 3 * k + 5 < recursionLimit
 un:A.units + 16 * k + 200 < cLine
theorem d7.mono {j k:Nat} {A:c7} (r:d7 k A) (h:j<=k):d7 j A:=⟨r.hd,by have:=r.dp; omega,by have:=r.un; omega⟩
theorem d7.deeper {k:Nat} {A:c7} (r:d7 (k + 1) A) (env:Env):d7 k (A.deeper env) := ⟨r.hd,by have:=r.dp; show A.depth + 1 + 3 * k + 5 < _; omega,by have:=r.un; show A.units + 3 + 16 * k + 200 < _; omega⟩
theorem Ep {A:c7} {C:aB} {us:List aA} {kw:List (Str × aA)}:(A.under (.builtin "type.__call__" ⟨.ref C::us,kw⟩)).depth=A.depth + 1:=by
 first | rfl | simp [Around.under,Code.weight,Code.isCreation,Code.isGuard,Code.isCaller,Code.frames,Code.isFrame,guardIds]
theorem Er {A:c7} {C:aB} {us:List aA} {kw:List (Str × aA)}:(A.under (.builtin "type.__call__" ⟨.ref C::us,kw⟩)).units=A.units + 1:=by
 first | rfl | simp [Around.under,Code.cUnits,Code.frames,Code.isFrame]
theorem d7.make {k:Nat} {A:c7} (r:d7 (k + 1) A) (C:aB) (us:List aA) (kw:List (Str × aA)):d7 k (A.under (.builtin "type.__call__" ⟨.ref C::us,kw⟩)) := ⟨r.hd,by have:=r.dp; rw [Ep]; omega,by have:=r.un; rw [Er]; omega⟩
theorem d7.depth {k:Nat} {A:c7} (r:d7 k A):A.depth < recursionLimit:=by have:=r.dp; omega
theorem d7.units {k:Nat} {A:c7} (r:d7 k A):A.units + 64 < cLine:=by have:=r.un; omega
def Es:TA:=fun _ H Q=>Q [] H
def uz (ta:TE) (tr:TA):TA:=fun σ H Q=>ta σ H fun x H1=>tr σ H1 fun xs H2=>Q (x::xs) H2
section
variable {X:Cx} {e:Expr} {es:List Expr} {te:TE} {t:TA} {pos:Pos}
theorem aF:PA X [] Es:=fun _ _ _ _ H Q I h=>Calls.spliced_nil ⟨[],H,I,.nil,h⟩
theorem ao (ha:PE X e te) (hr:PA X es t) (hs:autoParam (starEach (e::es) X.env=(false,eval e X.env)::starEach es X.env) zau0):PA X (e::es) (uz te t):=by
 intro pos pins s σ H Q I h;rw [hs]
 show wpAny _ _ (spliced ((false,eval e X.env)::backTo pos (starEach es X.env))) _ _ s
 refine Calls.spliced_cons (d9 (ha pins s σ H _ I h) fun u s1 ⟨x,H1,I1,r1,q1⟩=>?_);exact d9 (hr pos pins s1 σ H1 _ I1 q1) fun us s2 ⟨xs,H2,I2,r2,q2⟩=>⟨x::xs,H2,I2,.cons r1 r2,q2⟩
def arz (t:TA):TE:=fun σ H Q=>t σ H fun xs H1=>xs.length<=sizeLine/\∀ p,H1 p=none->Q (.ref p) (upd H1 p (.tup xs))
def ab5 (t:TA):TE:=fun σ H Q=>t σ H fun xs H1=>xs.length<=sizeLine/\∀ p,H1 p=none->Q (.ref p) (upd H1 p (.lst xs))
theorem dX {x1} (h:PA X es t):PE X (.Tuple es x1 pos) (arz t):=by
 intro pins s σ H Q I hq;refine wpAny_Tuple_spliced (d9 (h pos pins s σ H _ I hq) fun us s1 ⟨xs,H1,I1,r,z,q⟩=>⟨by rw [<- r.length]; exact z,?_⟩);have hf:H1 s1.heap.objs.size=none:=I1.hok.fresh (aN _);refine ⟨.ref s1.heap.objs.size,upd H1 s1.heap.objs.size (.tup xs),I1.laid (t':=s1.toks) (fun b u e=>ak _ e) (aN _) ?_,rfl,q _ hf⟩;exact ⟨z,us,r,⟨_,aJ _ rfl,rfl,_,rfl⟩⟩
theorem fP (h:PA X es t):PE X (.List es pos) (ab5 t):=by
 intro pins s σ H Q I hq;refine wpAny_List_spliced (d9 (h pos pins s σ H _ I hq) fun us s1 ⟨xs,H1,I1,r,z,q⟩=>⟨by rw [<- r.length]; exact z,?_⟩);have hf:H1 s1.heap.objs.size=none:=I1.hok.fresh (aN _);refine ⟨.ref s1.heap.objs.size,upd H1 s1.heap.objs.size (.lst xs),I1.laid (t':=s1.toks) (fun b u e=>ak _ e) (aN _) ?_,rfl,q _ hf⟩;exact ⟨z,us,0,r,aJ _ rfl⟩
end
abbrev Sp:=List V->Hp->VK->XK->Prop
abbrev xV:=List Env->Hp->aQ->XK->aA->aQ->Prop
structure Bd (P:cA) (w:World) (K:Fg) (mg:Str->Option aA) (base:Heap) (A:c7) (outer:List Env) (s:aQ) (H:Hp):Prop where
 frames:A.frames=some outer
 mod:Mod K mg base
 bs:∀ b o,base.get? b=some o->s.heap.get? b=some o/\H b=none
 Kc:base.objs.size<=s.heap.objs.size
 oV:s.heap.FunFrames base outer
 Rk:∀ b ∈ frs outer,H b=none
 hok:rE P w H s.heap
 bare:AllBare s.gens
def CE (outer:List Env) (P:cA) (w:World) (H:Hp) (s:aQ) (Q:VK) (u:aA) (s':aQ):Prop := ∃ v H',s'.os=s.os/\AllBare s'.gens/\Un (frs outer) [] H H' s.heap s'.heap/\rE P w H' s'.heap/\RelV v u/\Q v H'
noncomputable def CR (CX:xV) (outer:List Env) (P:cA) (w:World) (H:Hp) (s:aQ) (Q:VK) (E:XK) (r:Result) (s':aQ):Prop := match r with
 | .ok (.ret u)=>CE outer P w H s Q u s'
 | .ok _=>False
 | .error e=>CX outer H s E e s'
structure cG (P:cA) (w:World) (K:Fg) (mg:Str->Option aA) (base:Heap) (CX:xV) (k:Nat) (f:aB) (fd:dW) (ps:List Str) (sp:Sp):Prop where
 len:∀ vs H Q E,sp vs H Q E->vs.length=ps.length
 run:∀ (A:c7) (outer:List Env) (s:aQ) (H:Hp) (args:Args) (us:List aA) (vs:List V) (Q:VK) (E:XK),d7 k A->Bd P w K mg base A outer s H->BindsTo s fd args (ps.zip us)->Vals vs us->sp vs H Q E -> codeAny (model P w) A (.call (.ref f) args) (CR CX outer P w H s Q E) s
theorem cG.mono {P:cA} {w:World} {K:Fg} {mg:Str->Option aA} {base:Heap} {CX:xV} {j k:Nat} {f:aB} {fd:dW} {ps:List Str} {sp:Sp} (F:cG P w K mg base CX j f fd ps sp) (h:j<=k) : cG P w K mg base CX k f fd ps sp:=⟨F.len,fun A outer s H args us vs Q E hr=>F.run A outer s H args us vs Q E (hr.mono h)⟩
theorem Bd.make {P:cA} {w:World} {K:Fg} {mg:Str->Option aA} {base:Heap} {A:c7} {outer:List Env} {s:aQ} {H:Hp} (e:Bd P w K mg base A outer s H) (C:aB) (us:List aA) (kw:List (Str × aA)) : Bd P w K mg base (A.under (.builtin "type.__call__" ⟨.ref C::us,kw⟩)) outer s H:=⟨by first | exact e.frames | (simpa [Around.under,Code.envs,Code.isFrame,pushEnvs] using e.frames),e.mod,e.bs,e.Kc,e.oV,e.Rk,e.hok,e.bare⟩
section
variable {X:Cx} {pins:List (aB × Obj)} {σ:St} {H:Hp} {s s':aQ}
theorem Inv.env0 (I:Inv X pins σ H s):Bd X.prog X.w X.K X.mg X.base X.A X.stack s H := ⟨I.ok.frames,I.ok.mod,I.bs,bh I.ok.Kc I.sz,I.stack,I.za,I.hok,I.bare⟩
theorem Inv.after {Q:VK} {u:aA} (I:Inv X pins σ H s) (h:CE X.stack X.prog X.w H s Q u s'):EP X pins σ Q u s':=by
 obtain ⟨v,H',os,bare,un,hok,r,q⟩:=h;obtain ⟨hh,g,d,t,os'⟩:=s';obtain rfl:os'=s.os:=os;exact ⟨v,H',I.call (h':=hh) (g':=g) (d':=d) (t':=t) (ch:=[]) un hok bare (fun b z=>absurd z (by simp)),r,q⟩
end
def xW (sp:Sp) (oN:List V) (E:XK) (t:TA):TE:=fun σ H Q=>t σ H fun vs H1=>sp (vs++oN) H1 Q E
noncomputable def aiR (C:aB) (m:Str) (sp:Sp) (oN:List V) (E:XK) (ta:TE) (t:TA):TE:=fun σ H Q=>ta σ H fun x H1=>∃ a dx fs,x=.ref a/\H1 a=some (.ins C dx fs)/\fs.lookup m=none /\ t σ H1 fun vs H2=>sp (x::(vs++oN)) H2 Q E
noncomputable def Vb (C:aB) (sp:Sp) (oN:List V) (E:XK) (t:TA):TE:=fun σ H Q=>t σ H fun vs H1=>∀ x dx,H1 x=none->H1 dx=none->dx≠x -> sp (.ref x::(vs++oN)) (upd (upd H1 dx (.own x)) x (.ins C dx [])) (fun v H2=>v=.non/\Q (.ref x) H2) E
def Binds (K:Fg) (fd:dW) (ps:List Str) (ds:List aA):Prop := ∀ (s:aQ) (us:List aA),K.In s.heap->(us++ds).length=ps.length->BindsTo s fd ⟨us,[]⟩ (ps.zip (us++ds))
theorem Binds.all {K:Fg} {fd:dW} {ps:List Str} (h:∀ us:List aA,us.length=ps.length->bindArgs fd ⟨us,[]⟩=pure (ps.zip us)):Binds K fd ps []:=fun s us _ hl=>by
 rw [cJ] at hl ⊢;exact .of_eq (h us hl)
def Passes (CX:xV) (X:Cx) (E:XK):Prop:=∀ (pins:List (aB × Obj)) (σ:St) (H:Hp) (s:aQ) (e:aA) (s':aQ),Inv X pins σ H s->CX X.stack H s E e s'->X.xe e s'
section
variable {X:Cx} {CX:xV} {k:Nat} {f C:aB} {fd:dW} {ps:List Str} {sp:Sp} {oN:List V} {ds:List aA} {E:XK} {x m:Str} {p pos apos:Pos} {e o:Expr} {es:List Expr} {ta:TE} {t:TA}
theorem zj {pins:List (aB × Obj)} {σ:St} {H:Hp} {s:aQ} {Q:VK} {us:List aA} {vs:List V} (F:cG X.prog X.w X.K X.mg X.base CX k f fd ps sp) (hr:d7 k X.A) (hb:Binds X.K fd ps ds) (hd:Vals oN ds) (hx:Passes CX X E) (I:Inv X pins σ H s) (r:Vals vs us) (h:sp (vs++oN) H Q E):wpAny (model X.prog X.w) X.A (call (.ref f) us) (EP X pins σ Q) X.xe s:=by
 have r2:Vals (vs++oN) (us++ds):=r.append hd;have hl:(us++ds).length=ps.length:=by rw [<- r2.length]; exact F.len _ _ _ _ h
 refine wpAny_call (cg (F.run X.A X.stack s H ⟨us,[]⟩ (us++ds) (vs++oN) Q E hr I.env0 (hb s us I.j7 hl) r2 h) fun r s' hq=>?_);cases r with
 | error e=>exact hx pins σ H s e s' I hq
 | ok fl =>
  cases fl with
  | ret u=>exact I.after hq
  | next=>exact False.elim hq
  | brk=>exact False.elim hq
  | cont=>exact False.elim hq
theorem zm (F:cG X.prog X.w X.K X.mg X.base CX k f fd ps sp) (hr:d7 k X.A) (hg:Gl X x) (hm:X.mg x=some (.ref f)) (hk:keepIn X.K (.ref f)=true) (hb:Binds X.K fd ps ds) (hd:Vals oN ds) (hx:Passes CX X E) (ha:PA X (e::es) t) (hdb:autoParam ((x == ("__debug__":Str))=false) zau1) (he:autoParam (starEach (e::es) X.env=(false,eval e X.env)::starEach es X.env) zau0) (hpl:autoParam ((backTo pos (starEach es X.env)).any (·.1)=false) zau0) : PE X (.Call (.Name x p) (e::es) [] pos) (xW sp oN E t):=by
 intro pins s σ H Q I h;refine wpAny_Call_Name_kw (iz I hg hm ?_ hdb);refine callWith_K (h₀:=X.base) I.ok.mod.Ea hk (d9 (ha pos pins s σ H _ I h) fun us s1 ⟨vs,H1,I1,r,q⟩=>⟨I1.j7,?_⟩) he hpl;exact zj F hr hb hd hx I1 r q
theorem Bf {pl:Sem Bool} (he:PE X o ta) (c:Cls X.K C) (hm:Meth X.K C m f) (F:cG X.prog X.w X.K X.mg X.base CX k f fd ps sp) (hr:d7 k X.A) (hb:Binds X.K fd ps ds) (hd:Vals oN ds) (hx:Passes CX X E) (ht:autoParam (eval (.Call (.Attribute o m apos) [] [] pos) X.env=(do
   let ov <- eval o X.env
   standAt apos.atName
   let (f,first) <- holding [ov] (getMethod ov m pl)
   callWith pos f first (backTo pos (starEach [] X.env)) (backToKw pos (keywordEach [] X.env)))) zau0) :
  PE X (.Call (.Attribute o m apos) [] [] pos) (aiR C m sp oN E ta Es):=by
 intro pins s σ H Q I h;refine methodCall_KW (pl:=pl) (d9 (he pins s σ H _ I h) fun u s1 ⟨x,H1,I1,rx,a,dx,fs,ex,ea,l,q⟩=>?_) ht;subst ex;obtain rfl:u=Value.ref a:=rx;refine oY I1 ea c hm l ?_;exact PySem.W.callWith_K0 (first:=[.ref a]) I1.j7 hm.kp (zj (us:=[.ref a]) (vs:=[.ref a]) F hr hb hd hx I1 (.cons rfl .nil) q)
structure Mk (K:Fg) (C f:aB):Prop where
 makes:makesIn K C=true
 init:findIn K (.ref C) "__init__"=some (some (.ref f))
 fn:isFn K (.ref f)=true
 kp:keepIn K (.ref C)=true
theorem KZ {pins:List (aB × Obj)} {σ:St} {H:Hp} {s:aQ} {Q:VK} {us:List aA} {vs:List V} (M:Mk X.K C f) (F:cG X.prog X.w X.K X.mg X.base CX k f fd ps sp) (hr:d7 (k + 1) X.A) (hb:Binds X.K fd ps ds) (hd:Vals oN ds) (hx:Passes CX X E) (I:Inv X pins σ H s) (r:Vals vs us) (h:∀ x dx,H x=none->H dx=none->dx≠x->sp (.ref x::(vs++oN)) (upd (upd H dx (.own x)) x (.ins C dx [])) (fun v H2=>v=.non/\Q (.ref x) H2) E) : wpAny (model X.prog X.w) X.A (call (.ref C) us) (EP X pins σ Q) X.xe s:=by
 have hq:=h (s.heap.objs.size + 1) s.heap.objs.size (I.hok.fresh (Nat.le_succ _)) (I.hok.fresh (aN _)) (Nat.ne_of_lt (Nat.lt_succ_self _));have I2:=Inv.made (C:=C) I;have r2:Vals (V.ref (s.heap.objs.size + 1)::(vs++oN)) (Value.ref (s.heap.objs.size + 1)::(us++ds)):=.cons rfl (r.append hd);have hl:(Value.ref (s.heap.objs.size + 1)::us++ds).length=ps.length:=by
  have e:=r2.length;rw [F.len _ _ _ _ hq] at e;exact e.symm
 refine wpAny_call (KY (f:=f) I.j7 M.makes M.init (beq_iff_eq.mp M.fn) (cg (F.run _ X.stack _ _ ⟨Value.ref (s.heap.objs.size + 1)::us,[]⟩ (Value.ref (s.heap.objs.size + 1)::(us++ds)) _ _ E (hr.make C us []) (I2.env0.make C us []) (hb _ (Value.ref (s.heap.objs.size + 1)::us) I2.j7 hl) r2 hq) fun r s' hq'=>?_));cases r with
 | error e=>exact hx pins σ _ _ e s' I2 hq'
 | ok fl =>
  cases fl with
  | ret u =>
   obtain ⟨v,H',I3,rv,ev,q3⟩:=I2.after hq';subst ev;exact ⟨rv,⟨V.ref (s.heap.objs.size + 1),H',I3,rfl,q3⟩⟩
  | next=>exact False.elim hq'
  | brk=>exact False.elim hq'
  | cont=>exact False.elim hq'
theorem Rv (M:Mk X.K C f) (F:cG X.prog X.w X.K X.mg X.base CX k f fd ps sp) (hr:d7 (k + 1) X.A) (hg:Gl X x) (hm:X.mg x=some (.ref C)) (hb:Binds X.K fd ps ds) (hd:Vals oN ds) (hx:Passes CX X E) (ha:PA X (e::es) t) (hdb:autoParam ((x == ("__debug__":Str))=false) zau1) (he:autoParam (starEach (e::es) X.env=(false,eval e X.env)::starEach es X.env) zau0) (hpl:autoParam ((backTo pos (starEach es X.env)).any (·.1)=false) zau0) : PE X (.Call (.Name x p) (e::es) [] pos) (Vb C sp oN E t):=by
 intro pins s σ H Q I h;refine wpAny_Call_Name_kw (iz I hg hm ?_ hdb);refine callWith_K (h₀:=X.base) I.ok.mod.Ea M.kp (d9 (ha pos pins s σ H _ I h) fun us s1 ⟨vs,H1,I1,r,q⟩=>⟨I1.j7,?_⟩) he hpl;exact KZ M F hr hb hd hx I1 r q
end
section
variable {X:Cx} {CX:xV} {k:Nat} {f C:aB} {fd:dW} {ps ks:List Str} {sp:Sp} {E:XK} {x m:Str} {p pos apos kpos:Pos} {e o:Expr} {es:List Expr} {kws:List Keyword} {te ta:TE} {t tk:TA} {nm:Option Str}
variable {g:List aA->List aA->List aA} {gV:List V->List V->List V}
end
structure bQ (N P:List Str) (sc:Scope):Prop where
 kind:sc.kind=.function
 co:sc.isCoroutine=false
 gen:sc.isGenerator=false
 nd:N.Nodup
 pre:N.take P.length=P
 par:∀ x ∈ P,sc.names.lookup x=some .local\/sc.names.lookup x=some .cell
 ab6:∀ y ∈ sc.names,y.2≠.free
theorem dN {N P:List Str} {sc:Scope} (h:sc.kind=.function/\sc.isCoroutine=false/\sc.isGenerator=false/\N.Nodup/\N.take P.length=P/\(∀ x ∈ P,sc.names.lookup x=some .local\/sc.names.lookup x=some .cell)/\∀ y ∈ sc.names,y.2≠.free):bQ N P sc:=⟨h.1,h.2.1,h.2.2.1,h.2.2.2.1,h.2.2.2.2.1,h.2.2.2.2.2.1,h.2.2.2.2.2.2⟩
theorem xX {kindOf:Str->Option NameKind} {x:Str}:∀ {binds:List (Str × aA)} {m:Str->Option aA},(∀ v,(x,v) ∉ binds)->bindL kindOf binds m x=m x
 | [],_,_=>rfl
 | (n,v)::r,m,h=>by
  unfold bindL;rw [xX fun w hw=>h w (mem_cons_of_mem _ hw)]
  split
  ·have:x≠n:=by rintro rfl; exact h v mem_cons_self
   simp [this]
  ·rfl
theorem xY {kindOf:Str->Option NameKind} {x:Str}:∀ {binds:List (Str × aA)} {m:Str->Option aA},(∀ v,(x,v) ∉ binds)->bindC kindOf binds m x=m x
 | [],_,_=>rfl
 | (n,v)::r,m,h=>by
  unfold bindC;rw [xY fun w hw=>h w (mem_cons_of_mem _ hw)]
  split
  ·rfl
  ·have:x≠n:=by rintro rfl; exact h v mem_cons_self
   simp [this]
theorem xZ {kindOf:Str->Option NameKind} {x:Str} {v:aA}:∀ {P:List Str} {vs:List aA} {i:Nat} {m:Str->Option aA},P.Nodup->P[i]?=some x->vs[i]?=some v->kindOf x=some .local -> bindL kindOf (P.zip vs) m x=some v
 | [],_,_,_,_,h,_,_=>by simp at h
 | _::_,[],_,_,_,_,h,_=>by simp at h
 | p::P,w::vs,0,m,nd,h1,h2,hk=>by
  simp at h1 h2; subst h1; subst h2
  show bindL kindOf ((p,w)::P.zip vs) m p=_
  unfold bindL;rw [xX fun v hv=>(nodup_cons.mp nd).1 (of_mem_zip hv).1,if_pos hk];simp
 | p::P,w::vs,i + 1,m,nd,h1,h2,hk=>by
  show bindL kindOf ((p,w)::P.zip vs) m x=_
  unfold bindL;exact xZ (i:=i) (nodup_cons.mp nd).2 (by simpa using h1) (by simpa using h2) hk
theorem yc {kindOf:Str->Option NameKind} {x:Str} {v:aA}:∀ {P:List Str} {vs:List aA} {i:Nat} {m:Str->Option aA},P.Nodup->P[i]?=some x->vs[i]?=some v->kindOf x≠some .local -> bindC kindOf (P.zip vs) m x=some v
 | [],_,_,_,_,h,_,_=>by simp at h
 | _::_,[],_,_,_,_,h,_=>by simp at h
 | p::P,w::vs,0,m,nd,h1,h2,hk=>by
  simp at h1 h2; subst h1; subst h2
  show bindC kindOf ((p,w)::P.zip vs) m p=_
  unfold bindC;rw [xY fun v hv=>(nodup_cons.mp nd).1 (of_mem_zip hv).1,if_neg hk];simp
 | p::P,w::vs,i + 1,m,nd,h1,h2,hk=>by
  show bindC kindOf ((p,w)::P.zip vs) m x=_
  unfold bindC;exact yc (i:=i) (nodup_cons.mp nd).2 (by simpa using h1) (by simpa using h2) hk
def start (N:List Str) (vs:List V):St:=vs.map some++List.replicate (N.length - vs.length) none
noncomputable def oO (CX:xV) (P:cA) (w:World) (K:Fg) (mg:Str->Option aA) (base:Heap) (N:List Str) (qual:Str) (scope:Scope) (f:aB) (cd:aA) (A:c7) (outer:List Env) (s:aQ) (H:Hp) (E:XK):Cx where
 prog:=P
 w:=w
 K:=K
 mg:=mg
 base:=base
 A:=A.deeper (envOfC qual scope s.heap.objs.size f cd)
 N:=N
 s₀:=s
 H₀:=H
 env:=envOfC qual scope s.heap.objs.size f cd
 outer:=outer
 stack:=envOfC qual scope s.heap.objs.size f cd::outer
 ex:=[]
 calm:=true
 fn:=fun _=>true
 pn:=[]
 xe:=fun e s'=>wpAny (model P w) (A.deeper (envOfC qual scope s.heap.objs.size f cd)) (leaving (envOfC qual scope s.heap.objs.size f cd) e) (fun _ s''=>CX outer H s E e s'') (fun e' s''=>CX outer H s E e' s'') s'
theorem Bg {sc:Scope} {n:Nat} {x:Str} (h:sc.names.lookup x=some .cell):∃ c,(cellsFrom n sc.names []).lookup x=some c:=by
 have q:=cellsFrom_some sc.names n [] (.inl h);exact Option.isSome_iff_exists.mp q
theorem yd {CX:xV} {P:cA} {w:World} {K:Fg} {mg:Str->Option aA} {base:Heap} {N ps:List Str} {qual:Str} {scope:Scope} {f:aB} {cd:aA} {A:c7} {outer:List Env} {s s1:aQ} {H:Hp} {E:XK} {us:List aA} {vs:List V} (S:bQ N ps scope) (hd:A.handled=none) (e0:Bd P w K mg base A outer s H) (hl:vs.length=ps.length) (r:Vals vs us) (x:InCallC s s.heap.objs.size (bindL (envOfC qual scope s.heap.objs.size f cd).kindOf (ps.zip us) fun _=>none) (cellsFrom (s.heap.objs.size + 1) scope.names []) (bindC (envOfC qual scope s.heap.objs.size f cd).kindOf (ps.zip us) fun _=>none) s1) : Inv (oO CX P w K mg base N qual scope f cd A outer s H E) [] (start N vs) H s1:=by
 have hpl:ps.length<=N.length:=by have:=congrArg List.length S.pre; rw [length_take] at this; omega
 obtain ⟨h1,tk,rfl,hk⟩:=x.done;have noA:∀ b:aB,b ∉ (oO CX P w K mg base N qual scope f cd A outer s H E).ex:=fun b z=>absurd (show b ∈ ([]:List aB) from z) (by simp)
 refine ⟨⟨e0.mod,S.kind,rfl,rfl,aN _,fun y z c h1 h2=>?_,fun y hy=>?_,fun y c _ h=>?_,fun _=>hd,Around.frames_deeper e0.frames,.inr ⟨rfl,rfl⟩,fun b z=>absurd z (noA b),e0.bs,e0.Kc,fun b _ _=>noA b,fun b z=>absurd z (noA b),e0.oV,e0.Rk⟩,rfl,e0.bare,Un.kept hk,⟨_,x.toInCall.ns,fun i y v h1 h2 h3=>?_⟩,fun y c h=>⟨_,x.cell y c h⟩,e0.hok.fresh (aN _),fun y c h=>?_,fun p hp=>absurd (show p ∈ ([]:List (aB × Obj)) from hp) (by simp),e0.hok.kept hk,?_⟩
 ·exact name_of_addr x.apart (PySem.mem_of_lookup h1) (PySem.mem_of_lookup h2)
 ·have hy:scope.names.lookup y=some .cell\/scope.names.lookup y=some .free:=hy;rcases hy with hy | hy
  ·exact Bg hy
  ·exact absurd rfl (S.ab6 _ (PySem.mem_of_lookup hy))
 ·exact Nat.le_of_lt (x.above y c (PySem.mem_of_lookup h))
 ·have hi:i < vs.length:=by
   unfold start at h2
   by_cases hi:i < vs.length
   ·exact hi
   ·rw [List.getElem?_append_right (by simpa using hi)] at h2;rw [List.getElem?_replicate] at h2
    split at h2 <;> cases h2
  have ha:vs[i]?=some v:=by
   unfold start at h2;rw [List.getElem?_append_left (by simpa using hi),aH] at h2;cases e:vs[i]? with
   | none=>rw [e] at h2; cases h2
   | some a=>rw [e] at h2; cases h2; rfl
  obtain ⟨u,hu,rv⟩:=r.get ha;have hp:ps[i]?=some y:=by
   rw [<- S.pre,List.getElem?_take_of_lt (by omega)]; exact h1
  have ndP:ps.Nodup:=by rw [<- S.pre]; exact S.nd.sublist (List.take_sublist _ _)
  refine ⟨u,rv,?_⟩;rcases S.par y (aR hp) with k | k
  ·exact .inl ⟨k,xZ ndP hp hu k⟩
  ·obtain ⟨c,e⟩:=Bg (n:=s.heap.objs.size + 1) k;refine .inr ⟨.inl k,c,e,?_⟩;have q:=x.cell y c e;rw [yc ndP hp hu (by show scope.names.lookup y≠_; rw [k]; decide)] at q;exact q
 ·exact e0.hok.fresh (Nat.le_of_lt (x.above y c (PySem.mem_of_lookup h)))
 ·unfold start
  show _=N.length
  rw [aZ,aq,List.length_replicate];omega
theorem Vc {CX:xV} {P:cA} {w:World} {K:Fg} {mg:Str->Option aA} {base:Heap} {k:Nat} {f:aB} {name qual:Str} {params:Arguments} {body:List cY} {scope:Scope} {dV kV doc pm cdv ct oc:aA} {an od:Option aB} {osl:Array (Option aA)} {N ps:List Str} {sp:Sp} (lk:K.lookup f=some ⟨oc,od,.func (fnOf name qual params body scope dV kV doc pm an cdv ct),osl⟩) (hcd:codeIn K cdv qual=true) (S:bQ N ps scope) (len:∀ vs H Q E,sp vs H Q E->vs.length=ps.length) (hbody:∀ (A:c7) (outer:List Env) (s:aQ) (H:Hp) (vs:List V) (Q:VK) (E:XK),d7 k (A.deeper (envOfC qual scope s.heap.objs.size f cdv))->sp vs H Q E -> ∃ t,xP (oO CX P w K mg base N qual scope f cdv A outer s H E) body t/\t { nx:=fun _ H'=>Q .non H',rt:=Q } (start N vs) H) : cG P w K mg base CX (k + 1) f (fnOf name qual params body scope dV kV doc pm an cdv ct) ps sp:=by
 refine ⟨len,fun A outer s H args us vs Q E hr e0 hb r hsp=>?_⟩;have hl:=len _ _ _ _ hsp;have KX:K.In s.heap:=e0.mod.Ea.keeps fun b o e=>(e0.bs b o e).1
 have lim:s.heap.NoLimit:=e0.mod.nolimit.keeps fun b o e=>(e0.bs b o e).1
 have hkind:∀ y ∈ ps.zip us,scope.names.lookup y.1=some .local\/(scope.names.lookup y.1=some .cell/\((cellsFrom (s.heap.objs.size + 1) scope.names []).lookup y.1).isSome=true):=fun ⟨n,v⟩ hy=>by
  rcases S.par n (of_mem_zip hy).1 with q | q
  ·exact .inl q
  ·exact .inr ⟨q,cellsFrom_some _ _ _ (.inl q)⟩
 refine codeAny_call_function hr.depth (KX _ _ lk) rfl S.co S.gen rfl (codeRec_of KX hcd) (hb _ _ _ _ ?_);refine wpAny_newFunctionEnv_cells S.kind hkind fun env he s1 x=>?_
 subst he;refine ⟨lim.keeps x.toInCall.keep,codeAny_func ?_⟩;obtain ⟨t,ht,hq⟩:=hbody A outer s H vs Q E (hr.deeper _) hsp;have I:Inv (oO CX P w K mg base N qual scope f cdv A outer s H E) [] (start N vs) H s1:=yd S hr.hd e0 hl r x;refine bW (ht [] s1 (start N vs) H _ I hq) (fun fl s' hs=>?_) fun e s' hs=>hs
 have fin:∀ {σ':St} {H':Hp} {v:V} {u:aA},Inv (oO CX P w K mg base N qual scope f cdv A outer s H E) [] σ' H' s'->RelV v u->Q v H'->CE outer P w H s Q u s' :=
  fun {σ' H' v u} J rv q=>⟨v,H',J.os,J.bare,J.base,J.hok,rv,q⟩
 cases fl with
 | ret u =>
  obtain ⟨v,σ',H',J,rv,q⟩:=hs;exact fin J rv q
 | next =>
  obtain ⟨σ',H',J,q⟩:=hs;exact fin (v:=V.non) (u:=Value.none) J rfl q
 | brk =>
  obtain ⟨_,_,_,q⟩:=hs;exact False.elim q
 | cont =>
  obtain ⟨_,_,_,q⟩:=hs;exact False.elim q
section
variable {X:Cx} {x:Str} {p pos:Pos} {e:Expr} {es:List Expr} {t:TA} {id T:String} {r:List V->Hp->VK->Prop}
def tCB (r:List V->Hp->VK->Prop) (t:TA):TE:=fun σ H Q=>t σ H fun vs H1=>r vs H1 Q
theorem vd (hc:gw X (.builtin id) r) (hg:Gl X x) (hm:X.mg x=none) (hv:bootBuiltins x=some (.builtin id)) (ha:PA X (e::es) t) (hn:autoParam (x≠"__name__") zau1) (hdb:autoParam ((x == ("__debug__":Str))=false) zau1) (he:autoParam (starEach (e::es) X.env=(false,eval e X.env)::starEach es X.env) zau0) (hpl:autoParam ((backTo pos (starEach es X.env)).any (·.1)=false) zau0):PE X (.Call (.Name x p) (e::es) [] pos) (tCB r t):=by
 intro pins s σ H Q I h;refine wpAny_Call_Name_kw (mV I hg hm hv ?_ hn hdb);exact callWith_builtin1 (d9 (ha pos pins s σ H _ I h) fun us s1 ⟨vs,H1,I1,r1,q1⟩=>hc pins s1 σ H1 vs us Q I1 r1 q1) he hpl
theorem Ja (hc:gw X (.type T) r) (hg:Gl X x) (hm:X.mg x=none) (hv:bootBuiltins x=some (.type T)) (ha:PA X (e::es) t) (hn:autoParam (x≠"__name__") zau1) (hdb:autoParam ((x == ("__debug__":Str))=false) zau1) (he:autoParam (starEach (e::es) X.env=(false,eval e X.env)::starEach es X.env) zau0) (hpl:autoParam ((backTo pos (starEach es X.env)).any (·.1)=false) zau0):PE X (.Call (.Name x p) (e::es) [] pos) (tCB r t):=by
 intro pins s σ H Q I h;refine wpAny_Call_Name_kw (mV I hg hm hv ?_ hn hdb);exact callWith_type1 (d9 (ha pos pins s σ H _ I h) fun us s1 ⟨vs,H1,I1,r1,q1⟩=>hc pins s1 σ H1 vs us Q I1 r1 q1) he hpl
end
end L2
namespace HT
open PySem PyProof.Rows
section
open PySem.SeqAt
open PySem.AutoSeq1 (wpAny_loadPart')
open PySem.MeetsSeq PySem.MeetsSeq2 PySem.MeetsSeq3
end
section
variable {prog:cA} {w:World} {A:c7} {E:aA->aQ->Prop} {s:aQ}
theorem Rw {t b:aB} {vs ws:List aA} {Q:aA->aQ->Prop} (ht:IsTup s.heap t vs.toArray) (hb:IsTup s.heap b ws.toArray) (hv:vs≠[]) (h1:ws=[]->Q (.ref t) s) (h2:ws≠[]->Q (.ref s.heap.objs.size) { s with heap:=s.heap.push { cls:=.type "tuple",data:=.seq (vs++ws).toArray } }) (hsz:vs.length + ws.length<=sizeLine):wpAny (model prog w) A (binaryOp .Add (.ref t) (.ref b)) Q E s:=by
 obtain ⟨⟨cls,dd,data,sl⟩,ho,hc,n,hd⟩:=id ht;obtain ⟨⟨cls2,dd2,data2,sl2⟩,ho2,hc2,n2,hd2⟩:=id hb;simp only at hc hd hc2 hd2;subst hc hd hc2 hd2;have e:vs.toArray++ws.toArray=(vs++ws).toArray:=by simp
 by_cases hw:ws=[]
 ·exact concat_meets ⟨_,ho,rfl⟩ ⟨_,ho2,rfl⟩ noFill_tuple_add seq_tuple_add PySem.F.slot_tuple_add PySem.F.entry_tuple_add (PySem.F.args_tuple_add_2 _ _) (tuple_addW1 t b vs.toArray ws.toArray n n2 dd dd2 sl sl2 (by simpa using hv) (by simp [hw])) ⟨ho,ho2,h1 hw⟩
 ·refine concat_meets ⟨_,ho,rfl⟩ ⟨_,ho2,rfl⟩ noFill_tuple_add seq_tuple_add PySem.F.slot_tuple_add PySem.F.entry_tuple_add (PySem.F.args_tuple_add_2 _ _) (tuple_addW2 t b vs.toArray ws.toArray n n2 dd dd2 sl sl2 (by simpa using hv) (by simpa using hw) (by rw [size_toArray,size_toArray]; exact hsz)) ⟨ho,ho2,?_⟩;rw [e];exact h2 hw
def Aq (n d:Nat):Option Int->Nat
 | none=>d
 | some v=>if v < 0 then (v + (n:Int)).toNat else min v.toNat n
theorem GQ (n d k:Nat):Aq n d (some (k:Int))=min k n:=by
 show (if (k:Int) < 0 then ((k:Int) + (n:Int)).toNat else min (k:Int).toNat n)=min k n
 rw [if_neg (by omega),Int.toNat_natCast]
end
end HT
namespace L2
open PySem PySem.Spec PyProof.Rows
abbrev TO:=St->Hp->(Option Int->Hp->Prop)->Prop
noncomputable def PO (X:Cx) (e:Option Expr) (t:TO):Prop := ∀ (pins:List (aB × Obj)) (s:aQ) (σ:St) (H:Hp) (Q:Option Int->Hp->Prop),Inv X pins σ H s->t σ H Q -> wpAny (model X.prog X.w) X.A (evalPart e X.env) (fun u s'=>∃ o H',Inv X pins σ H' s'/\IsPart u o/\Q o H') X.xe s
def Rx:TO:=fun _ H Q=>Q none H
def aiT (t:TE):TO:=fun σ H Q=>t σ H fun x H1=>∃ i,x=.int i/\Q (some i) H1
theorem intsAre_of {ns:List Int}:∀ {us:List aA},Vals (ns.map V.int) us->IntsAre us ns:=by
 induction ns with
 | nil=>intro us r; rw [map_nil] at r; cases r; exact .nil
 | cons n ns ih =>
  intro us r;rw [cR] at r;cases r with
  | cons r1 r2 =>
   obtain ⟨t,e⟩:=r1;subst e;exact .cons n t (ih r2)
section
variable {X:Cx} {e:Expr} {te:TE} {lo hi:Option Expr} {tl th:TO} {pos p2:Pos}
theorem zp:PO X none Rx:=by
 intro pins s σ H Q I h;rw [evalPart_none];exact au ⟨none,H,I,.none,h⟩
theorem zq (h:PE X e te):PO X (some e) (aiT te):=by
 intro pins s σ H Q I hw;rw [evalPart_some];refine d9 (h pins s σ H _ I hw) fun u s1 ⟨x,H1,I1,r1,q1⟩=>?_
 obtain ⟨i,rfl,q⟩:=q1;obtain ⟨t,rfl⟩:=r1;exact ⟨some i,H1,I1,.int i t,q⟩
noncomputable def SlR (X:Cx) (r:V->Option Int->Option Int->Hp->VK->Prop):Prop := ∀ (pins:List (aB × Obj)) (s:aQ) (σ:St) (H:Hp) (x:V) (v vl vu:aA) (lo hi:Option Int) (sl:aB) (Q:VK),Inv X pins σ H s->RelV x v->s.heap.IsSliceOf sl vl vu .none->IsPart vl lo->IsPart vu hi->r x lo hi H Q -> ∃ T id,typeLookup (.type T) "__getitem__"=pure (some (.builtin id))/\s.TypeIs v T/\wpAny (model X.prog X.w) X.A (getItem v (.ref sl)) (EP X pins σ Q) X.xe s
def tSl (r:V->Option Int->Option Int->Hp->VK->Prop) (te:TE) (tl th:TO):TE:=fun σ H Q=>te σ H fun x H1=>tl σ H1 fun l H2=>th σ H2 fun u H3=>r x l u H3 Q
theorem vg {r:V->Option Int->Option Int->Hp->VK->Prop} (hr:SlR X r) (he:PE X e te) (hl:PO X lo tl) (hu:PO X hi th):PE X (.Subscript e (.Slice lo hi none p2) pos) (tSl r te tl th):=by
 intro pins s σ H Q I h;refine Subscript_ (d9 (he pins s σ H _ I h) fun v s1 ⟨x,H1,I1,r1,q1⟩=>?_);refine wpAny_Slice (d9 (hl pins s1 σ H1 _ I1 q1) fun vl s2 ⟨l,H2,I2,pl,q2⟩=>d9 (hu pins s2 σ H2 _ I2 q2) fun vu s3 ⟨u,H3,I3,pu,q3⟩=>?_);rw [evalPart_none];refine au ?_;have I4:Inv X pins σ H3 { s3 with heap:=s3.heap.push { cls:=.type "slice",data:=.fields #[vl,vu,.none] } }:=I3.kept (t':=s3.toks) fun b ob q=>ak _ q
 obtain ⟨T,id,hT,ht,hg⟩:=hr pins { s3 with heap:=s3.heap.push { cls:=.type "slice",data:=.fields #[vl,vu,.none] } } σ H3 x v vl vu l u s3.heap.objs.size Q I4 r1 (Heap.IsSliceOf.new ..) pl pu q3
 show wpAny (model X.prog X.w) X.A (subscriptTail e (.Slice lo hi none p2) v (.ref s3.heap.objs.size)) (EP X pins σ Q) X.xe { s3 with heap:=s3.heap.push { cls:=.type "slice",data:=.fields #[vl,vu,.none] } }
 exact tail_any (ops:=[.ref s3.heap.objs.size,v]) ht hT hg (by with_unfolding_all rfl)
def Bj (xs:List V) (lo hi:Option Int):List V:=(xs.drop (HT.Aq xs.length 0 lo)).take (HT.Aq xs.length xs.length hi - HT.Aq xs.length 0 lo)
theorem Bk (xs:List V) (lo hi:Option Int):(Bj xs lo hi).length<=xs.length:=by
 unfold Bj;rw [length_take,List.length_drop];omega
noncomputable def aiU (K:Fg):R2:=fun x y H Q=>∃ a b xs ys,x=.ref a/\y=.ref b/\dM K H a xs/\dM K H b ys/\xs≠[]/\xs.length + ys.length<=sizeLine /\ (ys=[]->Q (.ref a) H)/\(ys≠[]->∀ p,H p=none->Q (.ref p) (upd H p (.tup (xs++ys))))
theorem Vals.zu {xs:List V} {us:List aA} (r:Vals xs us):us=[] ↔ xs=[]:=by
 cases r with
 | nil=>simp
 | cons _ _=>simp
theorem Ry:lE X (binaryOp .Add) (aiU X.K):=by
 intro pins s σ H x y v u Q I rx ry h;obtain ⟨a,b,xs,ys,rfl,rfl,ha,hb,hx,hz,q1,q2⟩:=h;cases rx;cases ry;obtain ⟨its,r1,p1,_⟩:=I.tuple ha;obtain ⟨its2,r2,p2,_⟩:=I.tuple hb;refine HT.Rw p1 p2 (fun z=>hx (r1.zu.mp z)) (fun z=>⟨.ref a,H,I,rfl,q1 (r2.zu.mp z)⟩) (fun z=>?_) (by rw [<- r1.length,<- r2.length]; exact hz);refine ⟨.ref s.heap.objs.size,_,I.laid (t':=s.toks) (o:=.tup (xs++ys)) (fun b ob q=>ak _ q) (aN _) ?_,rfl,q2 (fun w=>z (r2.zu.mpr w)) _ (I.hok.fresh (aN _))⟩;exact ⟨by rw [aZ]; exact hz,_,r1.append r2,IsTup.new _ _⟩
end
def ixN (n:Nat) (i:Int):Option Nat:=if 0<=i then (if i < n then some i.toNat else none) else if -(n:Int)<=i then some (i + n).toNat else none
def K1 {α:Type} (xs:List α) (i:Int):Option α:=(ixN xs.length i).bind fun j=>xs[j]?
theorem Rz {n:Nat} {i:Int} {j:Nat} (h:ixN n i=some j):seqIndex? i n=some j/\j < n/\-(n:Int)<=i/\i < n:=by
 unfold ixN at h
 by_cases h0:0<=i
 ·rw [if_pos h0] at h
  by_cases h1:i < n
  ·rw [if_pos h1] at h;have e:i.toNat=j:=cu h;exact ⟨by rw [seqIndex_of h0 h1,e],by omega,by omega,h1⟩
  ·rw [if_neg h1] at h; cases h
 ·rw [if_neg h0] at h
  by_cases h1:-(n:Int)<=i
  ·rw [if_pos h1] at h;have e:(i + n).toNat=j:=cu h;exact ⟨by rw [seqIndex_neg (by omega) h1,e],by omega,h1,by omega⟩
  ·rw [if_neg h1] at h; cases h
theorem GR {α:Type} {xs:List α} {i:Int} {v:α} (h:K1 xs i=some v):∃ j,seqIndex? i xs.length=some j/\xs[j]?=some v/\j < xs.length/\-(xs.length:Int)<=i/\i < xs.length:=by
 unfold K1 at h;cases e:ixN xs.length i with
 | none=>rw [e] at h; cases h
 | some j =>
  rw [e] at h;obtain ⟨h1,h2,h3,h4⟩:=Rz e;exact ⟨j,h1,h,h2,h3,h4⟩
theorem fj {α:Type} {xs:List α} {j:Nat} {v:α} (h:xs[j]?=some v):K1 xs (j:Int)=some v:=by
 have hj:j < xs.length:=(aX.mp h).1;have e:ixN xs.length (j:Int)=some j:=by
  unfold ixN;rw [if_pos (by omega),if_pos (by omega)]; simp
 unfold K1; rw [e]; exact h
def RB (b:Expr):Prop:=∀ o i,subscripted b false o i=operate [o,i] (getItem o i)
noncomputable def IxR (X:Cx) (r:R2):Prop := ∀ (value slice:Expr) (pins:List (aB × Obj)) (s:aQ) (σ:St) (H:Hp) (x y:V) (v u:aA) (Q:VK),Inv X pins σ H s->RelV x v->RelV y u->r x y H Q -> subscripted slice false v u=operate [v,u] (getItem v u)->wpAny (model X.prog X.w) X.A (subscriptTail value slice v u) (EP X pins σ Q) X.xe s
noncomputable def MtR (X:Cx) (id:String) (r:V->List V->Hp->VK->Prop):Prop := ∀ (pins:List (aB × Obj)) (s:aQ) (σ:St) (H:Hp) (x:V) (xs:List V) (v:aA) (us:List aA) (Q:VK),Inv X pins σ H s->RelV x v->Vals xs us->r x xs H Q -> wpAny (model X.prog X.w) X.A (call (.builtin id) (v::us)) (EP X pins σ Q) X.xe s
section
variable {X:Cx} {a b:Expr} {ta tb:TE} {pos:Pos}
theorem cZ {r:R2} (hr:IxR X r) (ha:PE X a ta) (hb:PE X b tb) (hs:RB b):PE X (.Subscript a b pos) (tOp r ta tb):=by
 intro pins s σ H Q I h;exact Subscript_ (abZ ha hb I h fun v u s2 x y H2 I2 rx ry q=>hr a b pins s2 σ H2 x y v u Q I2 rx ry q (hs _ _))
def aiW (K:Fg):R2:=fun x y H Q=>∃ p xs i v,x=.ref p/\y=.int i/\cD K H p xs/\K1 xs i=some v/\Q v H
def aiX (K:Fg):R2:=fun x y H Q=>∃ p xs i v,x=.ref p/\y=.int i/\dM K H p xs/\K1 xs i=some v/\Q v H
theorem gA:IxR X (aiW X.K):=by
 intro value slice pins s σ H x y v u Q I rx ry h hs;obtain ⟨p,xs,i,z,rfl,rfl,hq,he,q⟩:=h;cases rx;obtain ⟨t,rfl⟩:=ry;obtain ⟨its,r,pl,hz⟩:=I.list hq;obtain ⟨j,h1,h2,h3,h4,h5⟩:=GR he;obtain ⟨w,ew,rw'⟩:=r.get h2;have hl:=r.length;have hn:=uZ;have fin:EP X pins σ Q w s:=⟨z,H,I,rw',q⟩
 by_cases h0:0<=i
 ·have hj:i.toNat=j:=by
   rw [seqIndex_of h0 h5] at h1;exact cu h1
  exact item_listR pl.isList h0 (by omega) (by rw [hj]; simpa using ew) fin hs
 ·have hj:(i + (its.toArray.size:Int)).toNat=j:=by
   rw [seqIndex_neg (by omega) h4] at h1;rw [size_toArray,<- hl];exact cu h1
  exact subscriptTail_builtinR (x:=w) pl.isList.typeIs slot_list_getitem.lookup (wpAny_getItem_list_neg (Q:=fun r s'=>r=w/\EP X pins σ Q r s') pl.isList (by omega) (by rw [size_toArray] <;> omega) (by omega) (by rw [hj]; simpa using ew) ⟨rfl,fin⟩) hs
theorem dJ:IxR X (aiX X.K):=by
 intro value slice pins s σ H x y v u Q I rx ry h hs;obtain ⟨p,xs,i,z,rfl,rfl,hq,he,q⟩:=h;cases rx;obtain ⟨t,rfl⟩:=ry;obtain ⟨its,r,pl,hz⟩:=I.tuple hq;obtain ⟨j,h1,h2,h3,h4,h5⟩:=GR he;obtain ⟨w,ew,rw'⟩:=r.get h2;have hl:=r.length;have hn:=uZ;have fin:EP X pins σ Q w s:=⟨z,H,I,rw',q⟩;exact subscriptTail_builtinR (x:=w) pl.typeIs slot_tuple_getitem.lookup (getItem_tuple (j:=j) (Q:=fun r s'=>r=w/\EP X pins σ Q r s') pl (by omega) (by omega) (by rw [size_toArray,<- hl]; exact h1) (by simpa using ew) ⟨rfl,fin⟩) hs
theorem zx (lo hi:Option Int) (n:Nat):(sliceBounds lo hi none n).1=((HT.Aq n 0 lo:Nat):Int)/\(sliceBounds lo hi none n).2.1=((HT.Aq n n hi:Nat):Int)/\(sliceBounds lo hi none n).2.2=1:=by
 refine ⟨?_,?_,rfl⟩
 ·cases lo with
  | none=>simp [sliceBounds,HT.Aq]
  | some i =>
   simp only [sliceBounds,HT.Aq,Option.getD_none,show (1:Int) > 0 by decide,if_true]
   by_cases h:i < 0
   ·simp only [h,if_true] <;> omega
   ·simp only [h,if_false] <;> omega
 ·cases hi with
  | none=>simp [sliceBounds,HT.Aq]
  | some i =>
   simp only [sliceBounds,HT.Aq,Option.getD_none,show (1:Int) > 0 by decide,if_true]
   by_cases h:i < 0
   ·simp only [h,if_true] <;> omega
   ·simp only [h,if_false] <;> omega
theorem xu (its:List aA) (lo hi:Option Int):slicePick its.toArray lo hi none=((its.drop (HT.Aq its.length 0 lo)).take (HT.Aq its.length its.length hi - HT.Aq its.length 0 lo)).toArray:=by
 obtain ⟨h1,h2,h3⟩:=zx lo hi its.toArray.size;unfold slicePick;rw [h1,h2,h3];simp only [sliceRange_one,pick_run,size_toArray] <;> rfl
def arB (K:Fg):V->Option Int->Option Int->Hp->VK->Prop:=fun x lo hi H Q=>∃ a xs,x=.ref a/\cD K H a xs/\∀ p,H p=none->Q (.ref p) (upd H p (.lst (Bj xs lo hi)))
theorem zy:SlR X (arB X.K):=by
 intro pins s σ H x v vl vu lo hi sl Q I rx hs pl pu h;obtain ⟨a,xs,rfl,hx,q⟩:=h;cases rx;obtain ⟨its,r,ht,hz⟩:=I.list hx;have hlen:=r.length;refine ⟨"list",_,slot_list_getitem.lookup,ht.isList.typeIs,?_⟩;refine wpAny_getItem_list_slice ht.isList hs pl pu .none (by simp) ?_ (by rw [size_toArray] <;> omega);rw [xu,<- hlen];refine ⟨.ref s.heap.objs.size,_,I.laid (t':=s.toks) (o:=.lst (Bj xs lo hi)) (fun b ob q=>ak _ q) (aN _) ?_,rfl,q _ (I.hok.fresh (aN _))⟩;exact ⟨bh (Bk xs lo hi) hz,_,0,(r.drop (HT.Aq xs.length 0 lo)).take (HT.Aq xs.length xs.length hi - HT.Aq xs.length 0 lo),aJ _ rfl⟩
def fL:V->Bool
 | .non=>true
 | .bl _=>true
 | .int _=>true
 | .str _=>true
 | _=>false
noncomputable def o8:V->V->Bool
 | .non,.non=>true
 | .bl a,.bl b=>a == b
 | .bl a,.int b=>(if a then 1 else 0) == b
 | .int a,.bl b=>a == (if b then 1 else 0)
 | .int a,.int b=>a == b
 | .str a,.str b=>a == b
 | _,_=>false
theorem K3 {A:c7} {s:aQ} {y x:V} {u v:aA} (ry:RelV y u) (rx:RelV x v) (fy:fL y=true) (fx:fL x=true):SeqAt.EqAt A s u v (o8 y x):=by
 cases y with
 | non =>
  cases ry;cases x with
  | non=>cases rx; exact SeqAt.EqAt.same _
  | bl b=>cases rx; exact SeqAt.EqAt.none_bool b
  | int b=>obtain ⟨t,rfl⟩:=rx; exact SeqAt.EqAt.none_int b t
  | str b=>obtain ⟨t,rfl⟩:=rx; exact SeqAt.EqAt.none_str b t
  | _=>exact absurd (show false=true from fx) Bool.false_ne_true
 | bl a =>
  cases ry;cases x with
  | non=>cases rx; exact SeqAt.EqAt.bool_none a
  | bl b=>cases rx; exact SeqAt.EqAt.bool_bool a b
  | int b=>obtain ⟨t,rfl⟩:=rx; exact SeqAt.EqAt.bool_int a b t
  | str b=>obtain ⟨t,rfl⟩:=rx; exact SeqAt.EqAt.bool_str a b t
  | _=>exact absurd (show false=true from fx) Bool.false_ne_true
 | int a =>
  obtain ⟨t',rfl⟩:=ry;cases x with
  | non=>cases rx; exact SeqAt.EqAt.int_none a t'
  | bl b=>cases rx; exact SeqAt.EqAt.int_bool a t' b
  | int b=>obtain ⟨t,rfl⟩:=rx; exact SeqAt.EqAt.int_int a t' b t
  | str b=>obtain ⟨t,rfl⟩:=rx; exact SeqAt.EqAt.int_str a t' b t
  | _=>exact absurd (show false=true from fx) Bool.false_ne_true
 | str a =>
  obtain ⟨t',rfl⟩:=ry;cases x with
  | non=>cases rx; exact SeqAt.EqAt.str_none a t'
  | bl b=>cases rx; exact SeqAt.EqAt.str_bool a t' b
  | int b=>obtain ⟨t,rfl⟩:=rx; exact SeqAt.EqAt.str_int a t' b t
  | str b=>obtain ⟨t,rfl⟩:=rx; exact SeqAt.EqAt.str_str a t' b t
  | _=>exact absurd (show false=true from fx) Bool.false_ne_true
 | _=>exact absurd (show false=true from fy) Bool.false_ne_true
def zA (x:V) (u:aA):Bool:=match u with
 | .none=>o8 .non x
 | .bool b=>o8 (.bl b) x
 | .int i _=>o8 (.int i) x
 | .str z _=>o8 (.str z) x
 | _=>false
theorem zB {x y:V} {u:aA} (r:RelV y u) (f:fL y=true):zA x u=o8 y x:=by
 cases y with
 | non=>cases r; rfl
 | bl b=>cases r; rfl
 | int i=>obtain ⟨t,rfl⟩:=r; rfl
 | str z=>obtain ⟨t,rfl⟩:=r; rfl
 | _=>exact absurd (show false=true from f) Bool.false_ne_true
theorem qI {x:V}:∀ {xs:List V} {us:List aA},Vals xs us->xs.all fL=true->us.any (zA x)=xs.any fun y=>o8 y x
 | _,_,.nil,_=>rfl
 | y::xs,u::us,.cons r t,f=>by
  rw [all_cons,Bool.and_eq_true] at f;rw [any_cons,any_cons,zB r f.1,qI t f.2]
theorem jr {A:c7} {s:aQ} {x:V} {v:aA} (rx:RelV x v) (fx:fL x=true):∀ {xs:List V} {us:List aA},Vals xs us->xs.all fL=true->∀ u ∈ us,SeqAt.EqAt A s u v (zA x u)
 | _,_,.nil,_=>fun u hu=>by cases hu
 | y::xs,u::us,.cons r t,f=>fun u' hu=>by
  rw [all_cons,Bool.and_eq_true] at f;rcases aO.mp hu with rfl | hu
  ·rw [zB r f.1]; exact K3 r rx f.1 fx
  ·exact jr rx fx t f.2 u' hu
def inV (x:V) (xs:List V):Bool:=xs.any fun y=>o8 y x
def rIn (K:Fg) (neg:Bool):R2:=fun x y H Q=>∃ p xs,y=.ref p/\(cD K H p xs\/dM K H p xs)/\fL x=true/\xs.all fL=true/\Q (.bl (if neg then !inV x xs else inV x xs)) H
theorem yg:lE X (compareOp .In) (rIn X.K false):=by
 intro pins s σ H x y v u Q I rx ry h;obtain ⟨p,xs,rfl,hq,fx,fs,q⟩:=h;cases ry;rcases hq with hq | hq
 ·obtain ⟨its,r,pl,hz⟩:=I.list hq;refine SeqAt.in_listAt (zA x) pl.isList (fun w hw=>jr rx fx r fs w (by simpa using hw)) ⟨.bl _,H,I,rfl,?_⟩;rw [show its.toArray.any (zA x)=its.any (zA x) by simp,qI r fs];exact q
 ·obtain ⟨its,r,pl,hz⟩:=I.tuple hq;refine SeqAt.in_tupleAt (zA x) pl (fun w hw=>jr rx fx r fs w (by simpa using hw)) ⟨.bl _,H,I,rfl,?_⟩;rw [show its.toArray.any (zA x)=its.any (zA x) by simp,qI r fs];exact q
theorem qJ:lE X (compareOp .NotIn) (rIn X.K true):=by
 intro pins s σ H x y v u Q I rx ry h;obtain ⟨p,xs,rfl,hq,fx,fs,q⟩:=h;cases ry;rcases hq with hq | hq
 ·obtain ⟨its,r,pl,hz⟩:=I.list hq;refine SeqAt.notIn_listAt (zA x) pl.isList (fun w hw=>jr rx fx r fs w (by simpa using hw)) ⟨.bl _,H,I,rfl,?_⟩;rw [show its.toArray.any (zA x)=its.any (zA x) by simp,qI r fs];exact q
 ·obtain ⟨its,r,pl,hz⟩:=I.tuple hq;refine SeqAt.notIn_tupleAt (zA x) pl (fun w hw=>jr rx fx r fs w (by simpa using hw)) ⟨.bl _,H,I,rfl,?_⟩;rw [show its.toArray.any (zA x)=its.any (zA x) by simp,qI r fs];exact q
theorem bJ:gw X (.builtin "len") (fun xs H Q=>∃ p ys,xs=[.ref p]/\(cD X.K H p ys\/dM X.K H p ys)/\Q (.int ys.length) H):=by
 intro pins s σ H xs us Q I r h;obtain ⟨p,ys,rfl,hq,q⟩:=h;obtain ⟨u,rfl,rx⟩:=vals1 r;cases rx;have hn:=uZ;rcases hq with hq | hq
 ·obtain ⟨its,r',pl,hz⟩:=I.list hq;have hlen:=r'.length;exact Calls.call_len_list pl.isList (by simp only [size_toArray] <;> omega) ⟨.int ys.length,H,I.tok _,⟨s.toks + 1,by rw [size_toArray,hlen]⟩,q⟩
 ·obtain ⟨its,r',pl,hz⟩:=I.tuple hq;have hlen:=r'.length;exact len_tuple pl (by simp only [size_toArray] <;> omega) ⟨.int ys.length,H,I.tok _,⟨s.toks + 1,by rw [size_toArray,hlen]⟩,q⟩
theorem qK:gw X (.builtin "len") (fun xs H Q=>∃ z,xs=[.str z]/\z.length<=sizeLine/\Q (.int z.length) H):=by
 intro pins s σ H xs us Q I r h;obtain ⟨z,rfl,hz,q⟩:=h;obtain ⟨u,rfl,t,rfl⟩:=vals1 r;have hn:=uZ;exact len_str (by omega) ⟨.int z.length,H,I.tok _,⟨_,rfl⟩,q⟩
theorem zE:gw X (.type "list") (fun xs H Q=>∃ p ys,xs=[.ref p]/\(cD X.K H p ys\/dM X.K H p ys)/\∀ l,H l=none->Q (.ref l) (upd H l (.lst ys))):=by
 intro pins s σ H xs us Q I r h;obtain ⟨p,ys,rfl,hq,q⟩:=h;obtain ⟨u,rfl,rx⟩:=vals1 r;cases rx;have fin:∀ (its:List aA),Vals ys its->ys.length<=sizeLine->∀ (h':Heap) (c':Nat),(∀ b o',s.heap.get? b=some o'->h'.get? b=some o') ->
   h'.get? s.heap.objs.size=some { cls:=.type "list",dict:=none,data:=.seq its.toArray c',slots:=#[] }->EP X pins σ Q (.ref s.heap.objs.size) { s with heap:=h' }:=fun its r' hz h' c' kp e =>
  ⟨.ref s.heap.objs.size,_,I.laid (t':=s.toks) kp (aN _) (show eE X.prog X.w _ h' _ (.lst ys) from ⟨hz,its,c',r',e⟩),rfl,q _ (I.hok.fresh (aN _))⟩
 rcases hq with hq | hq
 ·obtain ⟨its,r',pl,hz⟩:=I.list hq;have hlen:=r'.length;obtain ⟨o,ho,hc,n,hd⟩:=pl.isList;exact call_list_seq p (.inl rfl) ho hc hd (fun h' c' kp e=>fin its r' hz h' c' kp e) (by simp only [size_toArray] <;> omega)
 ·obtain ⟨its,r',pl,hz⟩:=I.tuple hq;have hlen:=r'.length;obtain ⟨o,ho,hc,n,hd⟩:=pl;exact call_list_seq p (.inr rfl) ho hc hd (fun h' c' kp e=>fin its r' hz h' c' kp e) (by simp only [size_toArray] <;> omega)
theorem iU:gw X (.type "tuple") (fun xs H Q=>∃ p ys,xs=[.ref p]/\((cD X.K H p ys/\∀ l,H l=none->Q (.ref l) (upd H l (.tup ys)))\/(dM X.K H p ys/\Q (.ref p) H))):=by
 intro pins s σ H xs us Q I r h;obtain ⟨p,ys,rfl,h⟩:=h;obtain ⟨u,rfl,rx⟩:=vals1 r;cases rx;rcases h with ⟨hq,q⟩ | ⟨hq,q⟩
 ·obtain ⟨its,r',pl,hz⟩:=I.list hq;have hlen:=r'.length;refine call_tuple_list pl.isList (fun h' kp=>?_) (by simp only [size_toArray] <;> omega);have I1:Inv X pins σ H { s with heap:=h' }:=I.kept (t':=s.toks) kp;have I2:Inv X pins σ (upd H h'.objs.size (.tup ys)) { s with heap:=h'.push { cls:=.type "tuple",data:=.seq its.toArray } } :=
   I1.laid (t':=s.toks) (fun b o e=>ak _ e) (aN _) (show eE X.prog X.w _ _ _ (.tup ys) from ⟨hz,its,r',IsTup.new _ _⟩)
  exact ⟨.ref h'.objs.size,_,I2,rfl,q _ (I1.hok.fresh (aN _))⟩
 ·obtain ⟨its,r',pl,hz⟩:=I.tuple hq;exact call_tuple_same pl ⟨.ref p,H,I,rfl,q⟩
noncomputable def tyV (K:Fg) (T:String) (x:V) (H:Hp):Prop:=match x with
 | .str _=>T="str"
 | .int _=>T="int"
 | .ref p=>(T="list"/\∃ xs,cD K H p xs)\/(T="tuple"/\∃ o,K.lookup p=some o/\o.cls=.type "tuple"/\o.dict=none) \/ (T="dict"/\((∃ kvs,H p=some (.dK kvs))\/∃ kvs,H p=some (.dT kvs)))\/(T="set"/\∃ S n,H p=some (.set S n))
 | _=>False
theorem ab8 {pins:List (aB × Obj)} {σ:St} {H:Hp} {s:aQ} {T:String} {x:V} {v:aA} (I:Inv X pins σ H s) (r:RelV x v) (ty:tyV X.K T x H) : s.TypeIs v T/\∀ a,v=.ref a->∃ ob,s.heap.get? a=some ob/\ob.dict=none:=by
 cases x with
 | str z =>
  obtain ⟨t,rfl⟩:=r;cases (show T="str" from ty);exact ⟨typeIs_str s z t,fun _ e=>nomatch e⟩
 | int i =>
  obtain ⟨t,rfl⟩:=r;cases (show T="int" from ty);exact ⟨typeIs_int s i t,fun _ e=>nomatch e⟩
 | ref p =>
  cases r;rcases ty with ⟨rfl,xs,hq⟩ | ⟨rfl,o,hk,hc,hd⟩ | ⟨rfl,hk⟩ | ⟨rfl,S,n,hk⟩
  ·obtain ⟨its,_,pl,_⟩:=I.list hq;refine ⟨pl.isList.typeIs,fun a e=>?_⟩;cases e;obtain ⟨o,n,e,c,hd,_⟩:=pl;exact ⟨o,e,hd⟩
  ·refine ⟨⟨o,I.j7 p o hk,hc⟩,fun a e=>?_⟩;cases e;exact ⟨o,I.j7 _ o hk,hd⟩
  ·have z:∃ o,s.heap.get? p=some o/\o.ExactDict:=by
    rcases hk with ⟨kvs,hk⟩ | ⟨kvs,hk⟩
    ·obtain ⟨_,_,_,_,o,_,_,e,ex,_⟩:=I.hok p _ hk;exact ⟨o,e,ex⟩
    ·obtain ⟨_,_,_,_,o,_,_,e,ex,_⟩:=I.hok p _ hk;exact ⟨o,e,ex⟩
   obtain ⟨o,e,ex⟩:=z;refine ⟨⟨o,e,ex.1⟩,fun a e2=>?_⟩;cases e2;exact ⟨o,e,ex.2.1⟩
  ·obtain ⟨o,_,_,_,e,ex,_⟩:=I.hok p _ hk;refine ⟨⟨o,e,ex.1⟩,fun a e2=>?_⟩;cases e2;exact ⟨o,e,ex.2.1⟩
 | _=>exact False.elim ty
def tBM (K:Fg) (T:String) (r:V->List V->Hp->VK->Prop) (to:TE) (t:TA):TE:=fun σ H Q=>to σ H fun x H1=>tyV K T x H1/\t σ H1 fun xs H2=>r x xs H2 Q
variable {o e:Expr} {es:List Expr} {to:TE} {t:TA} {name:Str} {apos cpos:Pos} {T id:String} {r:V->List V->Hp->VK->Prop}
theorem mZ (pa:PlainAttrs T) (slot:Slot T name id) (hty:typeOf (.builtin id)=pure (.type "method_descriptor")) (hm:MtR X id r) (ho:PE X o to) (ha:PA X (e::es) t) (hbase:autoParam (attributeBase o name X.env (eval o X.env)=eval o X.env) zau0) (hfew:autoParam (((backTo cpos (starEach (e::es) X.env)).all (fun x=>!x.1) && (backToKw cpos (keywordEach [] X.env)).all (fun x=>x.1.isSome) && decide ((e::es).length + ([]:List Keyword).length + (if ([]:List Keyword).isEmpty then 0 else 1) < 30))=true) zau0) (hline:autoParam ((apos.endLine == cpos.line)=true) zau0) (hs:autoParam (starEach (e::es) X.env=(false,eval e X.env)::starEach es X.env) zau0) (hplain:autoParam ((backTo cpos (starEach es X.env)).any (·.1)=false) zau0) : PE X (.Call (.Attribute o name apos) (e::es) [] cpos) (tBM X.K T r to t):=by
 intro pins s σ H Q I h;refine wpAny_Call_method_late hbase hfew hline rfl (d9 (ho pins s σ H _ I h) fun v s1 ⟨x,H1,I1,r1,ty,q1⟩=>?_);obtain ⟨h1,h2⟩:=ab8 I1 r1 ty;refine ⟨T,id,pa,slot,hty,h1,h2,?_⟩;have hA:=ha cpos pins s1 σ H1 _ I1 q1;rw [hs] at hA ⊢;refine Calls.callWith_builtin (by show (false || (backTo cpos (starEach es X.env)).any (·.1))=false; rw [hplain] <;> rfl) (Calls.evalArgs_plain ?_);exact d9 hA fun us s2 ⟨vs,H2,I2,r2,q2⟩=>hm pins s2 σ H2 x vs v us Q I2 r1 r2 q2
end
noncomputable def MtM (X:Cx) (id:String) (r:V->List V->Hp->VK->Prop):Prop := ∀ (pins:List (aB × Obj)) (s:aQ) (σ:St) (H:Hp) (x:V) (xs:List V) (v:aA) (us:List aA) (Q:VK),Inv X pins σ H s->RelV x v->Vals xs us->r x xs H Q -> wpAny (model X.prog X.w) X.A (call (.builtin id) (v::us)) (EP X pins σ Q) X.xe s
theorem Vals.one:∀ {x:V} {us:List aA},Vals [x] us->∃ u,us=[u]/\RelV x u
 | _,_,.cons r .nil=>⟨_,rfl,r⟩
theorem Vals.two:∀ {x y:V} {us:List aA},Vals [x,y] us->∃ u v,us=[u,v]/\RelV x u/\RelV y v
 | _,_,_,.cons r (.cons q .nil)=>⟨_,_,rfl,r,q⟩
theorem Vals.rep {xs:List V} {us:List aA} (h:Vals xs us):∀ k:Nat,Vals (List.replicate k xs).flatten (List.replicate k us).flatten
 | 0=>.nil
 | k + 1=>by
  rw [replicate_succ,replicate_succ,flatten_cons,flatten_cons];exact Vals.append h (Vals.rep h k)
theorem foldl_rep (its:List aA):∀ (k:Nat) (acc:List aA),List.foldl (fun x1 x2=>x1++x2) acc.toArray (List.replicate k its.toArray)=(acc++(List.replicate k its).flatten).toArray
 | 0,acc=>by simp
 | k + 1,acc=>by
  have e:acc.toArray++its.toArray=(acc++its).toArray:=by simp
  have e2:(acc++its)++(List.replicate k its).flatten=acc++(List.replicate (k + 1) its).flatten:=by
   rw [replicate_succ,flatten_cons,append_assoc]
  rw [<- e2,<- foldl_rep its k (acc++its),<- e,replicate_succ,List.foldl_cons]
section
variable {X:Cx} {pins:List (aB × Obj)} {σ:St} {H:Hp} {s:aQ} {l b:aB} {xs ys zs:List V}
theorem Inv.aiY {its its':List aA} {n:Nat} {f:Array aA->Array aA} {t':Nat} (I:Inv X pins σ H s) (hH:H l=some (.lst xs)) (e:s.heap.get? l=some { cls:=.type "list",data:=.seq its.toArray n }) (hf:f its.toArray=its'.toArray) (hv:Vals ys its') (hz:ys.length<=sizeLine) : Inv X pins σ (upd H l (.lst ys)) { s with heap:=s.heap.update l (Obj.mapSeq f),toks:=t' }:=by
 have q:=PySem.IsL.update e f;rw [hf] at q;refine I.write (x:=l) (e:=l) (by rw [hH]; exact trivial) (.inl rfl) (fun b' u hb hu=>(Heap.get?_update_other s.heap (Obj.mapSeq f) (Ne.symm hb)).trans hu) ⟨_,q⟩ ?_;exact ⟨hz,its',_,hv,q⟩
theorem Inv.aiZ {its:List aA} {t':Nat} (I:Inv X pins σ H s) (hv:Vals ys its) (hz:ys.length<=sizeLine) : Inv X pins σ (upd H s.heap.objs.size (.lst ys)) { s with heap:=s.heap.push { cls:=.type "list",data:=.seq its.toArray },toks:=t' } := I.laid (fun _ _ q=>ak _ q) (aN _) ⟨hz,its,0,hv,aJ _ rfl⟩
theorem Inv.fresh (I:Inv X pins σ H s):H s.heap.objs.size=none:=I.hok.fresh (aN _)
theorem Inv.Bl (I:Inv X pins σ H s) (hH:H l=some (.lst xs)):xs.length<=sizeLine/\∃ (its:List aA) (n:Nat),Vals xs its/\xs.length=its.length/\s.heap.get? l=some { cls:=.type "list",data:=.seq its.toArray n }:=by
 obtain ⟨z,its,n,r,e⟩:=I.hok l _ hH;exact ⟨z,its,n,r,r.length,e⟩
theorem Bm {n:Nat} (h:n<=sizeLine):Builtin.List.listTooLong n=false:=by
 unfold Builtin.List.listTooLong;exact aG (by omega)
end
section
variable {X:Cx}
def RD:V->List V->Hp->VK->Prop:=fun x vs H Q=>∃ l xs y,x=.ref l/\vs=[y]/\H l=some (.lst xs)/\xs.length < sizeLine/\Q .non (upd H l (.lst (xs++[y])))
theorem iQ:MtM X "list.append" RD:=by
 intro pins s σ H x vs v us Q I rx rv h;obtain ⟨l,xs,y,rfl,rfl,hH,hz,q⟩:=h;cases rx;obtain ⟨u,rfl,ru⟩:=rv.one;obtain ⟨z,its,n,r,hl,e⟩:=I.Bl hH;refine call_meets F.slot_list_append ⟨_,e,rfl⟩ F.entry_list_append (F.args_list_append_2 _ _) (PySem.list_append l its.toArray n u (by rw [size_toArray]; omega)) ⟨e,?_⟩;refine ⟨.non,_,I.aiY (its':=its++[u]) hH e (by simp) (r.append (.cons ru .nil)) ?_,rfl,q⟩;rw [aZ,List.length_singleton];omega
def RG:V->List V->Hp->VK->Prop:=fun x vs H Q=>∃ l b xs zs,x=.ref l/\vs=[.ref b]/\H l=some (.lst xs)/\H b=some (.lst zs)/\xs.length + zs.length<=sizeLine/\Q .non (upd H l (.lst (xs++zs)))
theorem yh:MtM X "list.extend" RG:=by
 intro pins s σ H x vs v us Q I rx rv h;obtain ⟨l,b,xs,zs,rfl,rfl,hH,hB,hz,q⟩:=h;cases rx;obtain ⟨u,rfl,ru⟩:=rv.one;cases ru;obtain ⟨z,its,n,r,hl,e⟩:=I.Bl hH;obtain ⟨z2,its2,n2,r2,hl2,e2⟩:=I.Bl hB;have hsz:its.toArray.size + its2.toArray.size<=sizeLine:=by rw [size_toArray,size_toArray]; omega
 have K4:¬ (!its.toArray.isEmpty && Builtin.List.listTooLong (its.toArray.size + its2.toArray.size))=true:=by
  rw [Bm hsz,Bool.and_false];exact Bool.false_ne_true
 refine call_meets F.slot_list_extend ⟨_,e,rfl⟩ F.entry_list_extend (F.args_list_extend_2 _ _) (AutoSeq1.list_extend_list_list_0 l its.toArray n b its2.toArray n2 K4 (by rw [size_toArray]; omega) (by omega)) ⟨e,e2,?_⟩;refine ⟨.non,_,I.aiY (its':=its++its2) hH e (by simp) (r.append r2) ?_,rfl,q⟩;rw [aZ];omega
def ai0:R2:=fun x y H Q=>∃ l b xs zs,x=.ref l/\y=.ref b/\H l=some (.lst xs)/\H b=some (.lst zs)/\xs.length + zs.length<=sizeLine/\∀ p,H p=none->Q (.ref p) (upd H p (.lst (xs++zs)))
theorem zF:lE X (binaryOp .Add) ai0:=by
 intro pins s σ H x y v u Q I rx ry h;obtain ⟨l,b,xs,zs,rfl,rfl,hH,hB,hz,q⟩:=h;cases rx;cases ry;obtain ⟨z,its,n,r,hl,e⟩:=I.Bl hH;obtain ⟨z2,its2,n2,r2,hl2,e2⟩:=I.Bl hB;refine PySem.P.add_list e e2 ?_ (by rw [size_toArray,size_toArray]; omega);have ea:its.toArray++its2.toArray=(its++its2).toArray:=by simp
 rw [ea];exact ⟨.ref _,_,I.aiZ (t':=s.toks) (r.append r2) (by rw [aZ]; omega),rfl,q _ I.fresh⟩
noncomputable def ai1:R2:=fun x y H Q=>∃ l k xs,x=.ref l/\y=.int k/\H l=some (.lst xs)/\-(2 ^ 63)<=k/\k < 2 ^ 63/\xs.length * k.toNat<=sizeLine /\ ∀ p,H p=none->Q (.ref p) (upd H p (.lst (List.replicate k.toNat xs).flatten))
theorem len_rep {α:Type} (xs:List α) (k:Nat):(List.replicate k xs).flatten.length=k * xs.length:=by
 induction k with
 | zero=>simp
 | succ k ih=>rw [replicate_succ,flatten_cons,aZ,ih,Nat.succ_mul,Nat.add_comm]
theorem ab9:lE X (binaryOp .Mult) ai1:=by
 intro pins s σ H x y v u Q I rx ry h;obtain ⟨l,k,xs,rfl,rfl,hH,h1,h2,hz,q⟩:=h;cases rx;obtain ⟨t,rfl⟩:=ry;obtain ⟨z,its,n,r,hl,e⟩:=I.Bl hH;have hlen:its.toArray.size * k.toNat<=sizeLine:=by rw [size_toArray,<- hl]; exact hz
 have hcap:¬ its.toArray.size * k.toNat > (2 ^ 63 - 1) / 8:=by
  have:(sizeLine:Nat)<=(2 ^ 63 - 1) / 8:=by decide
  omega
 have hfit:¬ (!Builtin.List.listFitsIndex k)=true:=by
  rw [fitsIndex_both h1 h2];exact Bool.false_ne_true
 have K4:¬ Builtin.List.listTooLong (its.toArray.size * k.toNat)=true:=by
  rw [Bm hlen];exact Bool.false_ne_true
 have hnew:List.foldl (fun x1 x2=>x1++x2) #[] (List.replicate (if its.toArray.isEmpty=true then 0 else k.toNat) its.toArray)=(List.replicate k.toNat its).flatten.toArray:=by
  have f0:∀ m:Nat,List.foldl (fun x1 x2=>x1++x2) #[] (List.replicate m its.toArray)=(List.replicate m its).flatten.toArray:=fun m=>by
   have:=foldl_rep its m [];rw [nil_append] at this;exact this
  rw [f0];cases its with
  | nil=>simp
  | cons a r'=>rw [if_neg (by simp)]
 refine wpAny_binaryOp_repeat_ref (T:="list") (U:="int") (by decide) ⟨_,e,rfl⟩ (fun s'=>typeIs_int s' k t) noFill_list_mul F.fills_int_mul F.slot_int_rmul repeat_list F.slot_int_index.lookup (call_meets F.slot_int_rmul (typeIs_int s k t) F.entry_int_rmul (F.args_int_rmul_2 _ _) (int___rmul___int_list k t l its.toArray n) ⟨e,rfl,⟨_,e,rfl⟩,call_meets F.slot_list_mul ⟨_,e,rfl⟩ F.entry_list_mul (F.args_list_mul_2 _ _) (AutoListH.list___mul___list_int_3 l its.toArray n k t hfit hcap K4) ⟨e,?_⟩⟩);rw [hnew];exact ⟨.ref _,_,I.aiZ (t':=s.toks) (r.rep k.toNat) (by rw [len_rep,Nat.mul_comm]; exact hz),rfl,q _ I.fresh⟩
end
section
variable {prog:cA} {w:World} {A:c7} {E:aA->aQ->Prop} {s:aQ}
set_option maxRecDepth 100000 in
end
section
variable {X:Cx}
end
end L2
namespace Att
open PySem PySem.W PySem.Calls PyProof.Rows
theorem uM {P:Params} {h:Heap}:∀ (ns:List Int) (vs:List aA),WellAll P h vs (ns.map WData.int)->IntsAre vs ns:=by
 intro ns
 induction ns with
 | nil =>
  intro vs w;rw [map_nil] at w;cases w;exact .nil
 | cons n ns ih =>
  intro vs w;rw [cR] at w;cases w with
  | cons a b =>
   cases a;exact .cons _ _ (ih _ b)
theorem Jb {l:OpenLaw} {n:Nat} (hn:l.most=some n) {P:Params} {h:Heap} {args:List WData} {vals:List aA} (hpre:l.row.toRowW.claim.pre args=true) (hwl:WellAll P h vals args) : ∃ a vs ns,vals=[Value.ref a]/\args=[WData.list (ns.map WData.int)]/\h.get? a=some { cls:=.type "list",data:=.seq vs.toArray }/\IntsAre vs ns/\ns.length<=n:=by
 have hsh:WShape.hasAll [] args [.list .int]=true:=(pre_splitW hpre).1;have hc:l.pre.holds [] { args:=args }=true:=(pre_splitW hpre).2;obtain ⟨d,r,rfl,h1,h2⟩:=hasAllW_cons hsh;obtain rfl:=hasAllW_nil h2;obtain ⟨xs,rfl,h3⟩:=hasW_list h1;obtain ⟨ns,rfl⟩:=items_int h3;have hlen:ns.length<=n:=by
  unfold OpenLaw.pre at hc;have h4:(WTm.not (.lt (.lit (.int (n:Int))) (.len (.arg 0)))).holds [] { args:=[.list (ns.map .int)] }=true:=by
   have h4:=(holds_andW hc).1;rw [hn] at h4;exact h4
  have h5:=condW_of h4 (w_not (w_lt w_lit (w_len_list (w_arg rfl))));rw [aq] at h5;refine Nat.le_of_not_lt fun q=>?_
  have q':(n:Int) < ((ns.length:Nat):Int):=by omega
  first
   | (rw [aL q'] at h5; exact absurd h5 (by decide))
   | (simp at h5; omega)
 cases hwl with
 | cons w1 w2 =>
  cases w2;cases w1 with
  | list ho hall=>exact ⟨_,_,ns,rfl,rfl,ho,uM ns _ hall,hlen⟩
theorem Jc (l:OpenLaw) (args:List WData):l.row.toRowW.claim.post args (.bool true) args=true := postW_of (r:=l.row.toRowW) (X:=(true == true)) (show WShape.has [] (.bool true) .bool=true by first | rfl | decide | simp [WShape.has,WShape.arms,WShape.armsAll]) (show (WTm.eq .res (.lit (.bool true))).value [] { args:=args,res:=some (.bool true),after:=args }=some (.bool (true == true)) from w_eq_bool (w_res rfl) w_lit) rfl
theorem Bo {l:OpenLaw} {n:Nat} {q:cA} {loose:List Str} {XP:(Str->Option aA)->Heap->Prop} {YP:World->Heap->Prop} {d:DefRec} (hn:l.most=some n) (hdf:d.params.defaults=[]) (call:∀ (w:World) (s₀ s₁:aQ) (mg mb:Str->Option aA) (fa:aB) (o:Obj) (pm cd doc:aA) (a:aB) (vs:List aA) (ns:List Int),Ground q loose [] XP w s₀ mg mb s₁.heap->YP w s₁.heap -> s₁.heap.get? fa=some o->o.data=.func (docDef d.name d.params d.body d.scope pm cd doc)->s₁.heap.CodeRec cd d.name->mg d.name=some (.ref fa) -> s₁.heap.get? a=some { cls:=.type "list",data:=.seq vs.toArray }->IntsAre vs ns->ns.length<=n->s₁.gens=#[] -> codeAny (model l.prog w) callerA (.call (.ref fa) ⟨[.ref a],[]⟩) (fun r s'=>r=.ok (.ret (.bool true))/\OldK s₁.heap s'.heap/\s'.os=s₁.os/\AllBare s'.gens) s₁) : WalkO q loose XP YP l.row.toRowW d [] (fun f vs=>PySem.call f vs):=by
 intro w s₀ s₁ mg mb G Y fa o pm cd doc dV kV ho hd hcd hD hmg hg args vals as hpre hlay hrd hwl hlo;obtain rfl:dV=.none:=Dflts.none hD hdf;obtain rfl:kV=.none:=Dflts.noKw hD;obtain ⟨a,vs,ns,rfl,rfl,hobj,hints,hlen⟩:=Jb hn hpre hwl;refine enter_call (cg (call w s₀ s₁ mg mb fa o pm cd doc a vs ns G Y ho (fd_plain hd) hcd hmg hobj hints hlen hg) fun r s' hq=>?_);obtain ⟨rfl,h2,h3,h4⟩:=hq;exact ⟨.inl ⟨.bool true,.bool true,[],rfl,fun _=>rfl,.bool true,Jc l _,fun _=>⟨List.Pairwise.nil,fun _ hm=>(nomatch hm)⟩⟩,h2,h3,h4⟩
section
variable {prog:cA} {w:World} {A:c7} {E:aA->aQ->Prop} {s:aQ} {K:Frag}
end
end Att
namespace L2
open PySem PySem.Spec PyProof.Rows
theorem yj:∀ {vs:List aA} {ns:List Int},IntsAre vs ns->Vals (ns.map V.int) vs
 | _,_,.nil=>.nil
 | _,_,.cons n t h=>.cons ⟨t,rfl⟩ (yj h)
def Only (H:Hp):Prop:=∀ b,H b=none\/∃ o xs,H b=some (.Av o (.lst xs))
theorem K5 {P:cA} {w:World} {K:Fg} {mg mb:Str->Option aA} {CX:xV} {k:Nat} {fa a:aB} {fd:dW} {x:Str} {sp:Sp} {s₁:aQ} {vs:List aA} {ns:List Int} (KX:K.In s₁.heap) (hns:s₁.heap.Ns mainGlobals mg) (hb:s₁.heap.Ns builtinsNs mb) (hbb:∀ x:Str,x≠"__name__"->mb x=bootBuiltins x) (hlim:s₁.heap.NoLimit) (hg:s₁.gens=#[]) (ha:s₁.heap.get? a=some { cls:=.type "list",data:=.seq vs.toArray }) (hi:IntsAre vs ns) (hl:ns.length<=sizeLine) (hr:d7 k callerA) (F:∀ base:Heap,K.In base->base.Ns mainGlobals mg->cG P w K mg base CX k fa fd [x] sp) (hbind:∀ (s:aQ) (u:aA),BindsTo s fd ⟨[u],[]⟩ [(x,u)]) (hsp:∀ H:Hp,Only H->cD K H a (ns.map V.int)->sp [.ref a] H (fun v _=>v=.bl true) fun _ _ _=>False) (hCX:∀ H e s',CX [] H s₁ (fun _ _ _=>False) e s'->False) : codeAny (model P w) callerA (.call (.ref fa) ⟨[.ref a],[]⟩) (fun r s'=>r=.ok (.ret (.bool true))/\OldK s₁.heap s'.heap/\s'.os=s₁.os/\AllBare s'.gens) s₁:=by
 have rv:=yj hi;have lenV:=hi.length;have core:∀ H:Hp,Only H->cD K H a (ns.map V.int)->rE P w H s₁.heap->(∀ b,H b≠none->b=a)->(H a≠none->K.lookup a=none) ->
   codeAny (model P w) callerA (.call (.ref fa) ⟨[.ref a],[]⟩) (fun r s'=>r=.ok (.ret (.bool true))/\OldK s₁.heap s'.heap/\s'.os=s₁.os/\AllBare s'.gens) s₁:=by
  intro H hO hS hok hA hK;have GX:∀ {b:aB} {o:Obj},s₁.heap.get? b=some o->H b=none->(yZ s₁.heap H).get? b=some o:=fun e n=>Kv e n
  have noA:∀ {b:aB} {o:Obj} {es:Array DictEntry} {ep:Nat},s₁.heap.get? b=some o->o.data=.dict es ep->H b=none:=fun {b o es ep} e d=>by
   cases q:H b with
   | none=>rfl
   | some u =>
    have e':b=a:=hA b (by rw [q]; simp);subst e';rw [ha] at e; cases e;have d':Data.seq vs.toArray _=Data.dict es ep:=d;cases d'
  have nsK:∀ {b:aB} {m:Str->Option aA},s₁.heap.Ns b m->(yZ s₁.heap H).Ns b m:=fun {b m} ⟨o,es,ep,e,d,r⟩=>⟨o,es,ep,GX e (noA e d),d,r⟩
  have hKb:K.In (yZ s₁.heap H):=fun b o e=>GX (KX b o e) (by
   cases q:H b with
   | none=>rfl
   | some u =>
    have e':b=a:=hA b (by rw [q]; simp);subst e';rw [hK (by rw [q]; simp)] at e; cases e)
  have hM:Mod K mg (yZ s₁.heap H):=⟨hKb,nsK hns,⟨mb,nsK hb,hbb⟩,let ⟨mc,h1,h2⟩:=hlim; ⟨mc,nsK h1,h2⟩⟩;have e0:Bd P w K mg (yZ s₁.heap H) callerA [] s₁ H:=⟨rfl,hM,fun b o e=>Rj e,Nat.le_of_eq (Ip _ _),trivial,fun b hb=>absurd (show b ∈ ([]:List aB) from hb) (by simp),hok,.of_eq hg⟩;refine cg ((F _ hKb (nsK hns)).run callerA [] s₁ H ⟨[.ref a],[]⟩ [.ref a] [.ref a] _ _ hr e0 (hbind s₁ (.ref a)) (.cons rfl .nil) (hsp H hO hS)) fun r s' h=>?_
  cases r with
  | error e=>exact (hCX H e s' h).elim
  | ok fl =>
   cases fl with
   | next=>exact False.elim h
   | brk=>exact False.elim h
   | cont=>exact False.elim h
   | ret u =>
    obtain ⟨v,H',os,bare,un,hok',r',q⟩:=h;have q':v=.bl true:=q;subst q';obtain rfl:u=Value.bool true:=r';refine ⟨rfl,OldK.of_keep fun b o e=>?_,os,bare⟩;cases q:H b with
    | none=>exact un.keep b o e q (by intro z; exact absurd (show b ∈ ([]:List aB) from z) (by simp)) (by simp)
    | some u =>
     rcases hO b with z | ⟨ob,xs,z⟩
     ·rw [q] at z; cases z
     ·have z2:=un.uL b ob _ z;obtain ⟨e1,_⟩:=hok b _ z;obtain ⟨e2,_⟩:=hok' b _ z2;rw [e] at e1; cases e1;exact e2
 cases hk:K.lookup a with
 | some o =>
  have e:=KX a o hk;rw [ha] at e;cases e;refine core (fun _=>none) (fun _=>.inl rfl) (.inr ⟨_,vs.toArray,_,hk,rfl,rfl,rfl,by rw [size_toArray,lenV]; exact hl,by simpa using rv⟩) (fun b u z=>by have z':(none:Option HO)=some u:=z; cases z') (fun b z=>absurd rfl z) fun z=>absurd rfl z
 | none =>
  refine core (fun b=>if b=a then some (.Av { cls:=.type "list",data:=.seq vs.toArray } (.lst (ns.map V.int))) else none) (fun b=>?_) (.inl (.inr ⟨{ cls:=.type "list",data:=.seq vs.toArray },if_pos rfl⟩)) (fun b u z=>?_) (fun b z=>?_) fun _=>hk
  ·by_cases hb:b=a
   ·exact .inr ⟨_,_,if_pos hb⟩
   ·exact .inl (if_neg hb)
  ·by_cases hb:b=a
   ·have z':=(if_pos hb).symm.trans z;cases z';subst hb;exact ⟨ha,by rw [aq]; exact hl,vs,_,rv,ha⟩
   ·have z':=(if_neg hb).symm.trans z;cases z'
  ·by_cases hb:b=a
   ·exact hb
   ·exact absurd (if_neg hb) z
theorem RJ {l:PySem.W.OpenLaw} {n k:Nat} {q:cA} {loose:List Str} {XP:(Str->Option aA)->Heap->Prop} {YP:World->Heap->Prop} {d:DefRec} {K:Params->Fg} {CX:World->xV} {sp:World->Sp} {x:Str} (hn:l.most=some n) (hn2:n<=sizeLine) (hdf:d.params.defaults=[]) (hr:d7 k callerA) (hY:∀ (w:World) (h:Heap),YP w h->(K w.params).In h) (F:∀ (w:World) (mg:Str->Option aA) (fa:aB) (h:Heap),(K w.params).In h->h.Ns mainGlobals mg->mg d.name=some (.ref fa) -> ∃ fd:dW,(∀ (s:aQ) (u:aA),BindsTo s fd ⟨[u],[]⟩ [(x,u)]) /\ ∀ base:Heap,(K w.params).In base->base.Ns mainGlobals mg->cG l.prog w (K w.params) mg base (CX w) k fa fd [x] (sp w)) (hsp:∀ (w:World) (H:Hp) (a:aB) (ns:List Int),ns.length<=n->Only H->cD (K w.params) H a (ns.map V.int)->sp w [.ref a] H (fun v _=>v=.bl true) fun _ _ _=>False) (hCX:∀ (w:World) (H:Hp) (s:aQ) (e:aA) (s':aQ),CX w [] H s (fun _ _ _=>False) e s'->False) : PySem.W.WalkO q loose XP YP l.row.toRowW d [] (fun f vs=>PySem.call f vs):=by
 refine Att.Bo hn hdf fun w s₀ s₁ mg mb fa o pm cd doc a vs ns G Y ho hd hcd hmg hobj hints hlen hg=>?_
 have KX:=hY w _ Y;obtain ⟨fd,hb,hF⟩:=F w mg fa _ KX G.T.g hmg;exact K5 KX G.T.g G.T.b G.T.builtins G.T.nolimit hg hobj hints (bh hlen hn2) hr hF hb (fun H hO hS=>hsp w H a ns hlen hO hS) fun H e s'=>hCX w H s₁ e s'
structure mO (K:Fg) (x qual:Str) (st:cY) (f:aB) (fd:dW):Prop where
 ex:∃ (oc:aA) (od:Option aB) (kV doc pm:aA) (an:Option aB) (cdv ct:aA) (osl:Array (Option aA)),fd=fnOf x qual (jM st) (gq st) (aW st) .none kV doc pm an cdv ct/\K.lookup f=some ⟨oc,od,.func fd,osl⟩/\codeIn K cdv qual=true
 kp:keepIn K (.ref f)=true
section
variable {P:cA} {w:World} {K:Fg} {mg:Str->Option aA} {base:Heap}
theorem mO.binds {x qual:Str} {st:cY} {f:aB} {fd:dW} {ps:List Str} (F:mO K x qual st f fd) (h:∀ (kV doc pm:aA) (an:Option aB) (cdv ct:aA) (us:List aA),us.length=ps.length->bindArgs (fnOf x qual (jM st) (gq st) (aW st) .none kV doc pm an cdv ct) ⟨us,[]⟩=pure (ps.zip us)):Binds K fd ps []:=by
 obtain ⟨oc,od,kV,doc,pm,an,cdv,ct,osl,rfl,lk,hcd⟩:=F.ex;exact .all (h kV doc pm an cdv ct)
theorem cW {x qual:Str} {st:cY} {f:aB} {oc:aA} {od an:Option aB} {osl:Array (Option aA)} {kV doc pm cdv ct:aA} (l:K.lookup f=some ⟨oc,od,.func (fnOf x qual (jM st) (gq st) (aW st) .none kV doc pm an cdv ct),osl⟩) (c:codeIn K cdv qual=true) (k:keepIn K (.ref f)=true):mO K x qual st f (fnOf x qual (jM st) (gq st) (aW st) .none kV doc pm an cdv ct):=⟨⟨oc,od,kV,doc,pm,an,cdv,ct,osl,rfl,l,c⟩,k⟩
end
section
variable {X:Cx}
theorem pv (i:Nat) {x:Str} {pos:Pos} (hN:autoParam (X.N[i]?=some x) zau0) (hv:Vis X.env.scope x:=by first | exact Or.inl rfl | exact Or.inr (Or.inl rfl) | exact Or.inr (Or.inr rfl)) (hd:autoParam ((x == ("__debug__":Str))=false) zau1) (hcd:autoParam ((x == ("__classdict__":Str))=false) zau1):PE X (.Name x pos) (Kz i):=abW hN hv hd hcd
end
theorem cU {A B:Prop} (h:B):if false=true then A else B:=by
 rw [if_neg Bool.false_ne_true];exact h
theorem cQ {A B:Prop} (h:A):if true=true then A else B:=by
 rw [if_pos rfl];exact h
theorem Bp {c A B:Prop} [Decidable c] (h1:c->A) (h2:¬ c->B):if c then A else B:=by
 by_cases h:c
 ·rw [if_pos h];exact h1 h
 ·rw [if_neg h];exact h2 h
def Same (H H':Hp):Prop:=∀ b o,H b=some o->H' b=some o
theorem Same.refl (H:Hp):Same H H:=fun _ _ h=>h
theorem Same.trans {H H1 H2:Hp} (a:Same H H1) (b:Same H1 H2):Same H H2:=fun c o h=>b c o (a c o h)
theorem Same.free {H H':Hp} (e:Same H H') {l:aB} (h:H' l=Option.none):H l=Option.none:=by
 cases q:H l with
 | none=>rfl
 | some o =>
  rw [e l o q] at h;cases h
theorem Same.seq {K:Fg} {H H':Hp} {a:aB} {xs:List V} (e:Same H H') (h:cD K H a xs):cD K H' a xs:=by
 rcases h with (h | ⟨o,h⟩) | h
 ·exact .inl (.inl (e _ _ h))
 ·exact .inl (.inr ⟨o,e _ _ h⟩)
 ·exact .inr h
theorem vh (o:Obj) (f:Array aA->Array aA):(o.mapFields f).dict=o.dict:=by
 obtain ⟨c,d,dt,sl⟩:=o;cases dt <;> rfl
noncomputable def Exc (h:Heap) (e:aB) (cls:aA) (dx:Option aB) (T:Option aB):Prop := ∃ oe vs,h.get? e=some oe/\oe.cls=cls/\oe.dict=dx/\oe.data=.fields vs /\ match T with
 | none=>vs[1]?=some Value.none
 | some t=>vs[1]?=some (.ref t)/\t≠e/\∃ oT ts fl,h.get? t=some oT/\oT.data=.fields ts/\ts[3]?=some fl
theorem Exc.keeps {h h':Heap} {e:aB} {cls:aA} {dx T:Option aB} (x:Exc h e cls dx T) (k:∀ b o,(b=e\/T=some b)->h.get? b=some o->h'.get? b=some o):Exc h' e cls dx T:=by
 obtain ⟨oe,vs,he,hc,hx,hd,hT⟩:=x;refine ⟨oe,vs,k _ _ (.inl rfl) he,hc,hx,hd,?_⟩;cases T with
 | none=>exact hT
 | some t =>
  obtain ⟨h1,hne,oT,ts,fl,h2,h3,h4⟩:=hT;exact ⟨h1,hne,oT,ts,fl,k _ _ (.inr rfl) h2,h3,h4⟩
def Bq (head:aA) (L:aB) (pl:List aA):Obj := { cls:=.type "traceback",dict:=none,data:=.fields ([head,.ref L,.none,rawInt L,.none]++(if pl.isEmpty then List.replicate 6 Value.none else pl)).toArray }
theorem zG (head:aA) (L:aB) (pl:List aA):∃ ts,(Bq head L pl).data=.fields ts/\ts[3]?=some (rawInt L):=⟨_,rfl,by simp⟩
structure Br (fr:List aB) (e:aB) (T:Option aB) (h h':Heap):Prop where
 same:∀ b o,b ∉ fr->b≠e->T≠some b->h.get? b=some o->h'.get? b=some o
 upto:∀ b o,b≠e->T≠some b->h.get? b=some o->∃ sl,h'.get? b=some { o with slots:=sl }
abbrev lH (l:List Env):List aB:=l.filterMap (·.frame)
section
variable {M:Model} {A:c7} {E:aA->aQ->Prop} {Q:Unit->aQ->Prop}
variable {s:aQ} {base:Heap} {env top:Env} {rest:List Env} {L e:aB} {cls:aA} {dx:Option aB}
theorem K6 {Qv:aA->aQ->Prop} (st:A.frames=some (top::rest)) (Et:s.heap.FunFrames base (top::rest)) (e0:top.frame=some L) (e1:env.frame=some L) (k:∀ h',Heap.SlotsOnly (lH (top::rest)) s.heap h'->Qv (.ref L) { s with heap:=h' }):wpAny M A (PySem.frameOf env) Qv E s:=by
 have swap:PySem.frameOf env=PySem.frameOf top:=by unfold PySem.frameOf; rw [e0,e1]
 rw [swap];exact wpAny_frameOf_fun st Et e0 k
theorem yp {oe:Obj} {vs:Array aA} {head:aA} {b₀:Bool} (st:A.frames=some (top::rest)) (Et:s.heap.FunFrames base (top::rest)) (e0:top.frame=some L) (e1:env.frame=some L) (at_:s.heap.get? e=some oe) (lJ:oe.data=.fields vs) (two:1 < vs.size) (k:∀ h' T,Br (lH (top::rest)) e none s.heap h'->s.heap.get? T=none->Exc h' e oe.cls oe.dict (some T)->Q () { s with heap:=h' }) : wpAny M A (PySem.frameOf env >>= fun a=>entryPlaceOf L b₀ >>= fun pl=>EntryCells.newEntry head a .none (rawInt L) .none pl >>= fun r=>setField (.ref e) 1 r) Q E s:=by
 refine aj (K6 st Et e0 e1 fun g sg=>aj (wpAny_entryPlaceOf fun pl ok=>?_));have out:e ∉ lH (top::rest):=fun q=>(Et.mem q).2.elim fun o z=>z.2 vs (by rw [at_] at z; rw [<- cu z.1]; exact lJ)
 have g_e:g.get? e=some oe:=(sg.2.1 e out).trans at_;have apart:g.objs.size≠e:=Nat.ne_of_gt (Heap.lt_size g_e)
 let g1:=g.push (Bq head L pl)
 have ai2:g1.get? e=some oe:=ak (Bq head L pl) g_e;have arE:g1.get? g.objs.size=some (Bq head L pl):=aJ g rfl
 let turn:Obj->Obj:=Obj.mapFields fun xs=>xs.setIfInBounds 1 (Value.ref g.objs.size)
 have now:(turn oe).data=.fields (vs.setIfInBounds 1 (.ref g.objs.size)):=Obj.data_mapFields lJ _;have self:(g1.update e turn).get? e=some (turn oe):=Heap.get?_update_self turn ai2 (Obj.isFreed_of_fields now);have others:∀ b,b≠e->(g1.update e turn).get? b=g1.get? b:=fun b nb=>Heap.get?_update_other g1 turn (Ne.symm nb)
 have up:∀ b o,b≠e->g.get? b=some o->(g1.update e turn).get? b=some o:=fun b o nb q=>(others b nb).trans (ak (Bq head L pl) q)
 refine aj (wpAny_newObj_type ?_ (ok.sizeOk5 _ _ _ _ _));refine wpAny_setField (s:={ s with heap:=g1 }) ai2 lJ two ?_;refine k (g1.update e turn) g.objs.size ⟨fun b o nf nb _ q=>up b o nb ((sg.2.1 b nf).trans q),fun b o nb _ q=>?_⟩ ?_ ?_
 ·obtain ⟨sl,z⟩:=sg.2.2 b o q;exact ⟨sl,up b _ nb z⟩
 ·exact Heap.get?_none_of_le (Nat.le_of_eq sg.1.symm)
 ·obtain ⟨ts,d,f⟩:=zG head L pl;exact ⟨turn oe,_,self,Obj.cls_mapFields _ _,vh _ _,now,by simp [two],apart,_,ts,_,(others _ apart).trans arE,d,f⟩
theorem Br.weaken {fr:List aB} {T:Option aB} {h h':Heap} (n:Br fr e none h h'):Br fr e T h h':=⟨fun b o a c _ q=>n.same b o a c (fun z=>nomatch z) q,fun b o c _ q=>n.upto b o c (fun z=>nomatch z) q⟩
theorem K7 {T:Option aB} (st:A.frames=some (top::rest)) (Et:s.heap.FunFrames base (top::rest)) (e0:top.frame=some L) (e1:env.frame=some L) (x:Exc s.heap e cls dx T) (k:∀ h' T',Br (lH (top::rest)) e T s.heap h'->(s.heap.get? T'=none\/T=some T')->Exc h' e cls dx (some T')->Q () { s with heap:=h' }):wpAny M A (noteFrame (.ref e) env) Q E s:=by
 obtain ⟨oe,vs,at_,rfl,rfl,lJ,more⟩:=id x;unfold noteFrame;simp only [e1];cases T with
 | none =>
  have nil:vs[1]?=some Value.none:=more;refine aj (wpAny_field at_ lJ nil ?_);rw [if_neg (show ¬ (Value.none != Value.none)=true by decide)];exact yp st Et e0 e1 at_ lJ (Array.getElem?_eq_some_iff.mp nil).1 fun h' T' n new y=>k h' T' n (.inl new) y
 | some t =>
  obtain ⟨one,apart,oT,ts,fl,tAt,tF,three⟩:=more;have K8:=(Array.getElem?_eq_some_iff.mp one).1;have lt3:=(Array.getElem?_eq_some_iff.mp three).1;refine aj (wpAny_field at_ lJ (x:=.ref t) one ?_);have has:(Value.ref t != Value.none)=true:=rfl;simp only [has,if_true];refine aj (wpAny_field tAt tF three ?_)
  by_cases here:(fl == rawInt L)=true
  ·simp only [here,if_true];exact au (k s.heap t ⟨fun _ _ _ _ _ q=>q,fun _ o _ _ q=>⟨o.slots,q⟩⟩ (.inr rfl) x)
  ·rw [if_neg here]
   let off:Obj->Obj:=Obj.mapFields fun xs=>xs.setIfInBounds 3 Value.none
   have else_:∀ b,b≠t->(s.heap.update t off).get? b=s.heap.get? b:=fun b nb=>Heap.get?_update_other s.heap off (Ne.symm nb)
   have frames':(s.heap.update t off).FunFrames base (top::rest):=Et.of_keeps fun b o q nf=>⟨o,(else_ b fun z=>nf ts (by rw [z,tAt] at q; rw [<- cu q]; exact tF)).trans q,rfl⟩
   refine aj (wpAny_setField tAt tF lt3 (yp (s:={ s with heap:=s.heap.update t off }) st frames' e0 e1 ((else_ e (Ne.symm apart)).trans at_) lJ K8 fun h' T' n new y=>k h' T' ?_ ?_ y))
   ·exact ⟨fun b o a c d q=>n.same b o a c (fun z=>nomatch z) ((else_ b fun z=>d (congrArg some z.symm)).trans q),fun b o c d q=>n.upto b o c (fun z=>nomatch z) ((else_ b fun z=>d (congrArg some z.symm)).trans q)⟩
   ·by_cases z:T'=t
    ·exact .inr (congrArg some z.symm)
    ·exact .inl ((else_ T' z).symm.trans new)
theorem Eu {t:aB} {fr:Option aB} (x:Exc s.heap e cls dx (some t)) (k:∀ h',(∀ b o,b≠t->s.heap.get? b=some o->h'.get? b=some o)->Exc h' e cls dx (some t)->Q () { s with heap:=h' }) : wpAny M A (setFlight (.ref e) fr) Q E s:=by
 obtain ⟨oe,vs,at_,rfl,rfl,lJ,one,apart,oT,ts,fl,tAt,tF,three⟩:=x;have lt3:=(Array.getElem?_eq_some_iff.mp three).1;have has:(Value.ref t != Value.none)=true:=rfl;unfold setFlight;refine aj (wpAny_field at_ lJ one ?_);simp only [has,if_true]
 let mark:aA:=fr.elim Value.none fun f=>rawInt f
 have tF':(oT.mapFields fun xs=>xs.setIfInBounds 3 mark).data=.fields (ts.setIfInBounds 3 mark):=Obj.data_mapFields tF _;refine wpAny_setField tAt tF lt3 (k _ (fun b o nb q=>(Heap.get?_update_other s.heap _ (Ne.symm nb)).trans q) ?_);exact ⟨oe,vs,(Heap.get?_update_other s.heap _ apart).trans at_,rfl,rfl,lJ,one,apart,_,_,mark,Heap.get?_update_self _ tAt (Obj.isFreed_of_fields tF'),tF',by simp [lt3]⟩
end
theorem eE.there {P:cA} {w:World} {H:Hp} {h:Heap} {a:aB} {o:HO} (x:eE P w H h a o):∃ ob,h.get? a=some ob:=by
 cases o with
 | lst xs=>obtain ⟨_,_,_,_,e⟩:=x; exact ⟨_,e⟩
 | tup xs=>obtain ⟨_,_,_,ob,e,_⟩:=x; exact ⟨_,e⟩
 | dK kvs=>obtain ⟨_,_,_,_,o,_,_,e,_⟩:=x; exact ⟨_,e⟩
 | dT kvs=>obtain ⟨_,_,_,_,o,_,_,e,_⟩:=x; exact ⟨_,e⟩
 | set S n=>obtain ⟨o,_,_,_,e,_⟩:=x; exact ⟨_,e⟩
 | ins C dx fs=>obtain ⟨_,_,_,e,_⟩:=x; exact ⟨_,e⟩
 | own y=>exact x
 | xd fs=>obtain ⟨_,⟨_,_,_,e,_⟩,_⟩:=x; exact ⟨_,e⟩
 | rng lo hi=>obtain ⟨_,_,_,e⟩:=x; exact ⟨_,e⟩
 | Av ob u=>obtain ⟨e,_⟩:=x; exact ⟨_,e⟩
 | U0 ps=>exact ⟨_,(show h.get? a=some _ from x)⟩
 | met f y=>exact ⟨_,(show h.get? a=some _ from x)⟩
 | ext φ=>obtain ⟨_,e,_⟩:=x; exact e
theorem rE.none_of {P:cA} {w:World} {H:Hp} {h:Heap} {b:aB} (x:rE P w H h) (hb:h.get? b=none):H b=none:=by
 cases q:H b with
 | none=>rfl
 | some o =>
  obtain ⟨ob,e⟩:=(x b o q).there;rw [hb] at e; cases e
def Loose (X:Cx) (pins:List (aB × Obj)) (H:Hp) (b:aB):Prop := H b=none/\b≠X.env.locals/\b ∉ X.fs/\(b ∉ X.ex->X.s₀.heap.get? b=none)/\(∀ x c,X.env.cells.lookup x=some c->c≠b)/\∀ p ∈ X.pn++pins,p.1≠b
section
variable {X:Cx} {pins:List (aB × Obj)} {σ:St} {H:Hp} {s:aQ} {b:aB}
theorem Inv.iD (I:Inv X pins σ H s) (hb:s.heap.get? b=none):Loose X pins H b:=by
 refine ⟨I.hok.none_of hb,fun z=>?_,fun z=>?_,fun z=>?_,fun x c e z=>?_,fun p hp z=>?_⟩
 ·obtain ⟨m,⟨o,_,_,ho,_⟩,_⟩:=I.loc;rw [<- z,hb] at ho; cases ho
 ·obtain ⟨_,o,ho,_⟩:=I.oV.mem z;rw [hb] at ho; cases ho
 ·cases q:X.s₀.heap.get? b with
  | none=>rfl
  | some o =>
   obtain ⟨o',e⟩:=I.base.there b o q z;rw [hb] at e; cases e
 ·obtain ⟨v,o,ho,_⟩:=I.cell x c e;rw [z,hb] at ho; cases ho
 ·have e:=(I.pin p hp).1;rw [z,hb] at e; cases e
theorem Inv.m5 {h':Heap} {t':Nat} {ch:List aB} (I:Inv X pins σ H s) (hch:∀ b ∈ ch,Loose X pins H b) (keep:∀ b o,b ∉ frs X.stack->b ∉ ch->s.heap.get? b=some o->h'.get? b=some o) (slot:∀ b o,b ∉ ch->s.heap.get? b=some o->∃ sl,h'.get? b=some { o with slots:=sl }):Inv X pins σ H { s with heap:=h',toks:=t' }:=by
 have U4:∀ b o,X.s₀.heap.get? b=some o->b≠X.env.locals:=fun b o e=>Nat.ne_of_lt (aY (Heap.lt_size e) I.ok.above)
 have U5:∀ b o,X.s₀.heap.get? b=some o->b ∉ X.ex->b ∉ ch:=fun b o e hx hb=>by
  have:=(hch b hb).2.2.2.1 hx;rw [e] at this; cases this
 have stk:∀ b,b≠X.env.locals->b ∉ X.fs->b ∉ frs X.stack:=fun b h1 h2 hb=>(aO.mp (I.rG b hb)).elim h1 h2
 have cellK:∀ x c,X.env.cells.lookup x=some c->∀ v,s.heap.IsCell c v->h'.IsCell c v:=fun x c e v ⟨o,ho,hd⟩=>by
  obtain ⟨sl,q⟩:=slot c o (fun z=>(hch c z).2.2.2.2.1 x c e rfl) ho;exact ⟨_,q,hd⟩
 refine ⟨I.ok,I.os,I.bare,⟨fun b o e n hb hx=>?_,fun b o e n hb hx=>?_,I.base.free,fun b o e hx=>?_,I.base.tups,I.base.uL,I.base.uU⟩,?_,fun x c e=>?_,I.free,I.iY,fun p hp=>?_,fun a u e=>?_,I.len⟩
 ·exact keep b o (stk b (U4 b o e) hb) (U5 b o e hx) (I.base.keep b o e n hb hx)
 ·obtain ⟨sl,e1⟩:=I.base.slot b o e n hb hx;obtain ⟨sl',e2⟩:=slot b _ (U5 b o e hx) e1;exact ⟨sl',e2⟩
 ·obtain ⟨o',e1⟩:=I.base.there b o e hx;obtain ⟨sl',e2⟩:=slot b _ (U5 b o e hx) e1;exact ⟨_,e2⟩
 ·obtain ⟨m,⟨o,es,ep,ho,r⟩,hl⟩:=I.loc;obtain ⟨sl,e⟩:=slot _ o (fun z=>(hch _ z).2.1 rfl) ho;refine ⟨m,⟨_,es,ep,e,r⟩,fun i x v e1 e2 e3=>?_⟩;obtain ⟨u,ru,l⟩:=hl i x v e1 e2 e3;refine ⟨u,ru,?_⟩;rcases l with l | ⟨k,c,e,z⟩
  ·exact .inl l
  ·exact .inr ⟨k,c,e,cellK x c e _ z⟩
 ·obtain ⟨v,z⟩:=I.cell x c e;exact ⟨v,cellK x c e v z⟩
 ·obtain ⟨e,n,ne,nf,d⟩:=I.pin p hp;exact ⟨keep p.1 p.2 (stk _ ne nf) (fun z=>(hch _ z).2.2.2.2.2 p hp rfl) e,n,ne,nf,d⟩
 ·refine (I.hok a u e).stay (fun c v hc q=>?_) (fun _ q=>q) fun _ _ q=>q
  have ht:∃ z,H c=some z:=by
   rcases hc with z | z
   ·exact ⟨u,by rw [z]; exact e⟩
   ·exact ⟨_,z⟩
  obtain ⟨z,hz⟩:=ht;refine keep c v (fun y=>?_) (fun y=>?_) q
  ·have:=I.za c y;rw [hz] at this; cases this
  ·have:=(hch c y).1;rw [hz] at this; cases this
end
def Fly (X:Cx) (pins:List (aB × Obj)) (H:Hp) (s:aQ) (e:aB) (cls:aA) (dx:Option aB):Prop := ∃ T,Exc s.heap e cls dx T/\Loose X pins H e/\∀ t,T=some t->Loose X pins H t
def K9 (X:Cx) (pins:List (aB × Obj)) (H:Hp) (s:aQ) (e:aB) (cls:aA) (dx:Option aB):Prop := ∃ t,Exc s.heap e cls dx (some t)/\Loose X pins H e/\Loose X pins H t
theorem K9.fly {X:Cx} {pins:List (aB × Obj)} {H:Hp} {s:aQ} {e:aB} {cls:aA} {dx:Option aB} (f:K9 X pins H s e cls dx):Fly X pins H s e cls dx:=by
 obtain ⟨t,x,l1,l2⟩:=f;exact ⟨some t,x,l1,fun y z=>by cases z; exact l2⟩
def ou (X:Cx) (L:aB):Prop:=∃ env₀ outer,X.stack=env₀::outer/\env₀.frame=some L/\X.env.frame=some L
section
variable {X:Cx} {pins:List (aB × Obj)} {σ:St} {H:Hp} {s:aQ} {e L:aB} {cls:aA} {dx:Option aB} {M:Model} {A:c7} {E:aA->aQ->Prop} {Q:Unit->aQ->Prop}
theorem zH (I:Inv X pins σ H s) (hA:A.frames=some X.stack) (F:ou X L) (f:Fly X pins H s e cls dx) (h:∀ s',Inv X pins σ H s'->K9 X pins H s' e cls dx->Q () s') : wpAny M A (noteFrame (.ref e) X.env) Q E s:=by
 obtain ⟨T,x,le,lt⟩:=f;obtain ⟨env₀,outer,es,hf₀,hf⟩:=F;refine K7 (base:=X.base) (by rw [hA,es]) (by rw [<- es]; exact I.stack) hf₀ hf x fun h' T' nt k3 x'=>?_
 have hch:∀ b ∈ e::T.toList,Loose X pins H b:=fun b hb=>by
  rcases aO.mp hb with z | z
  ·rw [z]; exact le
  ·exact lt b (by simpa using z)
 have I':Inv X pins σ H { s with heap:=h',toks:=s.toks }:=I.m5 (ch:=e::T.toList) hch
  (fun b o hb hc q=>nt.same b o (by unfold frs at hb; rw [es] at hb; exact hb) (fun z=>hc (by rw [z]; exact mem_cons_self)) (fun z=>hc (mem_cons_of_mem _ (by simp [z]))) q)
  (fun b o hc q=>nt.upto b o (fun z=>hc (by rw [z]; exact mem_cons_self)) (fun z=>hc (mem_cons_of_mem _ (by simp [z]))) q)
 refine h _ I' ⟨T',x',le,?_⟩;rcases k3 with z | z
 ·exact I.iD z
 ·exact lt T' z
theorem kj {fr:Option aB} (I:Inv X pins σ H s) (f:K9 X pins H s e cls dx) (h:∀ s',Inv X pins σ H s'->K9 X pins H s' e cls dx->Q () s') : wpAny M A (setFlight (.ref e) fr) Q E s:=by
 obtain ⟨t,x,le,lt⟩:=f;refine Eu x fun h' k x'=>?_
 have I':Inv X pins σ H { s with heap:=h',toks:=s.toks }:=I.m5 (ch:=[t]) (fun b hb=>by rw [aP.mp hb]; exact lt)
  (fun b o _ hc q=>k b o (fun z=>hc (by rw [z]; exact mem_cons_self)) q) (fun b o hc q=>⟨o.slots,k b o (fun z=>hc (by rw [z]; exact mem_cons_self)) q⟩)
 exact h _ I' ⟨t,x',le,lt⟩
end
noncomputable def fu (P:cA) (w:World):xV:=fun outer H s E ev s'=>∃ e cls dx H' t,ev=.ref e/\s'.os=s.os/\AllBare s'.gens/\Un (frs outer) [] H H' s.heap s'.heap/\rE P w H' s'.heap /\ Exc s'.heap e cls dx (some t)/\H' e=none/\H' t=none/\s.heap.get? e=none/\s.heap.get? t=none/\E cls dx H'
def rM (X:Cx) (E:XK):Prop:=∀ pins σ H s e cls dx,Inv X pins σ H s->Fly X pins H s e cls dx->E cls dx H->X.xe (.ref e) s
theorem dY {X:Cx} {E:XK} (acc:rM X E):Passes (fu X.prog X.w) X E:=by
 intro pins σ H s ev s' I h;obtain ⟨e,cls,dx,H',t,rfl,os,bare,un,hok,x,ne,nt,fe,ft,q⟩:=h;have I':Inv X pins σ H' s':=I.call' (ch:=[]) os un hok bare (fun b z=>nomatch z);refine acc pins σ H' s' e cls dx I' ⟨some t,x,⟨ne,(I.iD fe).2⟩,fun y z=>?_⟩ q;cases z;exact ⟨nt,(I.iD ft).2⟩
theorem bG {X:Cx} {P:cA} {w:World}:Passes (fu P w) X (fun _ _ _=>False):=by
 intro pins σ H s ev s' I h;obtain ⟨_,_,_,_,_,_,_,_,_,_,_,_,_,_,_,q⟩:=h;exact q.elim
theorem bL {P:cA} {w:World} {K:Fg} {mg:Str->Option aA} {base:Heap} {N:List Str} {qual:Str} {scope:Scope} {f:aB} {cd:aA} {A:c7} {outer:List Env} {s:aQ} {H:Hp} {E:XK} : rM (oO (fu P w) P w K mg base N qual scope f cd A outer s H E) E:=by
 intro pins σ H' s' e cls dx I fl q
 show wpAny (model P w) _ (leaving _ (.ref e)) _ _ s'
 unfold leaving;refine aj (zH I I.ok.frames ⟨_,_,rfl,rfl,rfl⟩ fl fun s1 I1 f1=>?_);refine kj I1 f1 fun s2 I2 f2=>?_
 obtain ⟨t,x2,le,lt⟩:=f2;exact ⟨e,cls,dx,H',t,rfl,I2.os,I2.bare,I2.base,I2.hok,x2,le.1,lt.1,le.2.2.2.1 (fun z=>nomatch z),lt.2.2.2.1 (fun z=>nomatch z),q⟩
theorem fJ {P:cA} {w:World} {K:Fg} {mg:Str->Option aA} {base:Heap} {N:List Str} {qual:Str} {scope:Scope} {f:aB} {cd:aA} {A:c7} {outer:List Env} {s:aQ} {H:Hp} {E:XK} {CX:xV} : PassesOwn (model P w) (oO CX P w K mg base N qual scope f cd A outer s H E).A (oO CX P w K mg base N qual scope f cd A outer s H E).env (oO CX P w K mg base N qual scope f cd A outer s H E).xe:=PassesOwn.leaving
theorem Bs {K:Fg} {C:aB} {base:List aA} {new:String} (q:excIn K C base new=true) : ∃ dd cd up a b c d f,K.lookup C=some ⟨.type "type",dd,.cls cd,#[a,b,c,d,some (.builtin new),f]⟩/\cd.mro=.ref C::up/\cd.hasDel=false/\tailIn K base up=true/\nsOkIn K cd.ns=true/\nsIn K cd.ns "__init__"=some none:=by
 unfold excIn at q
 split at q
 ·rename_i dd cd sl look
  split at q
  ·rename_i C' up a b c d ai3 f mro slots
   have q':((((C'=C/\ai3=new)/\cd.hasDel=false)/\tailIn K base up=true)/\nsOkIn K cd.ns=true)/\nsIn K cd.ns "__init__"=some none:=by simpa using q
   obtain ⟨⟨⟨⟨⟨i1,i2⟩,i3⟩,i4⟩,i5⟩,i6⟩:=q';subst i1; subst i2;have as_array:sl=#[a,b,c,d,some (.builtin ai3),f]:=Array.toList_inj.mp slots;exact ⟨dd,cd,up,a,b,c,d,f,as_array ▸ look,mro,i3,i4,i5,i6⟩
  ·exact absurd q Bool.false_ne_true
 ·exact absurd q Bool.false_ne_true
theorem acd {K:Fg} {h:Heap} {mg:Str->Option aA} {x:Str} {C:aB} {base:List aA} {new:String} (k:K.In h) (named:mg x=some (.ref C)) (q:excIn K C base new=true):OwnCls x C base new mg h:=by
 obtain ⟨dd,cd,up,a,b,c,d,f,look,mro,del,tl,ok,ini⟩:=Bs q;obtain ⟨nm,bs,axj,ns,qn,hd,sn,sub,ab,col,axk⟩:=cd;cases mro; cases del;exact ⟨named,up,ns,nm,qn,bs,hd,sn,sub,ab,col,dd,a,b,c,d,f,_,k C _ look,Heap.Ns.of_isNs (isNs_of_in k ok),PySem.W.nsMap_none_of_in k ok ini,tail_of_in k tl⟩
def ace (C:aB) (E:XK) (ta:TA):TS:=fun _ σ H=>ta σ H fun vs H1=>vs.length<=sizeLine/\E (.ref C) none H1
section
variable {X:Cx} {E:XK} {x:Str} {C:aB} {bmB:List aA} {B newId initId:String} {np cpos pos:Pos} {e₀:Expr} {rest:List Expr} {ta:TA}
theorem fQ (acc:rM X E) (hc:X.calm=true) (hg:Gl X x) (hm:X.mg x=some (.ref C)) (q:excIn X.K C bmB newId=true) (FB:ExcBaseFacts B newId initId bmB) (ha:PA X (e₀::rest) ta) (he:autoParam (starEach (e₀::rest) X.env=(false,eval e₀ X.env)::starEach rest X.env) zau0) (hpl:autoParam ((backTo cpos (starEach rest X.env)).any (·.1)=false) zau0) (hdb:autoParam ((x == ("__debug__":Str))=false) zau1) : PS X (.Raise (some (.Call (.Name x np) (e₀::rest) [] cpos)) none pos) (ace C E ta):=by
 intro pins s σ H D I h;obtain ⟨tl,N,nm,qn,bs,hdct,sn,sub,ab,col,dd,k0,k1,k2,k3,k5,mN,hC,hN,hni,T⟩:=(acd (mg:=X.mg) I.mod.Ea hm q).obj;refine wpAny_Raise_call_subT (C:=C) (nm:=nm) (q:=qn) (N:=N) (bs:=bs) (bm:=tl) (hdct:=hdct) (sn:=sn) (sub:=sub) (ab:=ab) (col:=col) (dd:=dd) (k0:=k0) (k1:=k1) (k2:=k2) (k3:=k3) (k5:=k5) FB (mN:=mN) (T.hasType FB.hasBase) (I.ok.hd hc) (by rw [he]; show (false || (backTo cpos (starEach rest X.env)).any (·.1))=false; rw [hpl]; rfl) hni (iz I hg hm ⟨rfl,?_⟩ hdb);have hA:=ha cpos pins s σ H _ I h;rw [he] at hA ⊢;refine Calls.evalArgs_plain (d9 hA fun us s2 h2=>?_);obtain ⟨vs,H1,I1,rv,hz,hE⟩:=h2;refine ⟨rfl,by rw [<- rv.length]; exact hz,I1.bk _ _ hC,hN.keeps I1.bk,T.keeps I1.bk,fun h' e hm'=>?_⟩;have I2:Inv X pins σ H1 { s2 with heap:=h' }:=I1.kept (t':=s2.toks) hm'.keeps;obtain ⟨t,hte,_,_⟩:=hm'.there;refine acc pins σ H1 _ e (.ref C) none I2 ⟨none,⟨_,_,hte,rfl,rfl,rfl,rfl⟩,I1.iD hm'.new,fun _ z=>nomatch z⟩ hE
end
def kE (e:aB) (cls:aA) (dx:Option aB):HO:=.ext fun h=>∃ oe vs,h.get? e=some oe/\oe.cls=cls/\oe.dict=dx/\oe.data=.fields vs
def blank (n:Nat):St:=List.replicate n none
theorem Bt {n i:Nat} {v:V}:¬ (blank n)[i]?=some (some v):=by
 unfold blank;rw [List.getElem?_replicate]
 split <;> intro h <;> cases h
section
variable {X:Cx} {pins:List (aB × Obj)} {σ:St} {H:Hp} {s:aQ}
theorem Inv.adopt {b:aB} {o:HO} (I:Inv X pins σ H s) (l:Loose X pins H b) (hx:b ∉ X.ex) (new:eE X.prog X.w (upd H b o) s.heap b o):Inv X pins σ (upd H b o) s:=by
 have h0:=l.2.2.2.1 hx;have ne:∀ c u,H c=some u->c≠b:=fun c u e z=>by rw [z,l.1] at e; cases e
 refine ⟨I.ok,I.os,I.bare,⟨I.base.keep,I.base.slot,fun c u e n hxc=>?_,I.base.there,fun c xs e=>?_,fun c u xs e=>?_,fun c ps e=>?_⟩,I.loc,I.cell,?_,fun x c e=>?_,fun p hp=>?_,fun c u e=>?_,I.len⟩
 ·rw [bx (fun z=>by rw [z,h0] at e; cases e)];exact I.base.free c u e n hxc
 ·have q:=I.base.tups c xs e;rw [bx (ne _ _ q)]; exact q
 ·have q:=I.base.uL c u xs e;rw [bx (ne _ _ q)]; exact q
 ·obtain ⟨m,q⟩:=I.base.uU c ps e;exact ⟨m,by rw [bx (ne _ _ q)]; exact q⟩
 ·rw [bx (Ne.symm l.2.1)]; exact I.free
 ·rw [bx (l.2.2.2.2.1 x c e)]; exact I.iY x c e
 ·obtain ⟨e,n,r⟩:=I.pin p hp;exact ⟨e,by rw [bx (l.2.2.2.2.2 p hp)]; exact n,r⟩
 ·by_cases z:c=b
  ·subst z;rw [aD] at e; cases e; exact new
  ·rw [bx z] at e;exact (I.hok c u e).stay (fun _ _ _ q=>q) (fun d q=>by rw [bx (ne _ _ q)]; exact q) fun d xs q=>by rw [bx (ne _ _ q)]; exact q
theorem Inv.Bu {h':Heap} {t':Nat} {m':Str->Option aA} (I:Inv X pins σ H s) (hn:h'.Ns X.env.locals m') (sb:Heap.SameBut X.env.locals s.heap h'):Inv X pins (blank X.N.length) H { s with heap:=h',toks:=t' }:=by
 obtain ⟨m,⟨oL,_,_,hoL,_⟩,_⟩:=id I.loc;have U4:∀ b o,X.s₀.heap.get? b=some o->b≠X.env.locals:=fun b o e=>Nat.ne_of_lt (aY (Heap.lt_size e) I.ok.above)
 have k:∀ b o,b≠X.env.locals->s.heap.get? b=some o->h'.get? b=some o:=fun b o ne e=>(sb.2 b ne).trans e
 refine ⟨I.ok,I.os,I.bare,⟨fun b o e n hb hx=>?_,fun b o e n hb hx=>?_,I.base.free,fun b o e hx=>?_,I.base.tups,I.base.uL,I.base.uU⟩,⟨m',hn,fun i x v _ e2 _=>absurd e2 Bt⟩,fun x c e=>?_,I.free,I.iY,fun p hp=>?_,fun a u e=>?_,by simp [blank]⟩
 ·exact k b o (U4 b o e) (I.base.keep b o e n hb hx)
 ·obtain ⟨sl,e1⟩:=I.base.slot b o e n hb hx;exact ⟨sl,k b _ (U4 b o e) e1⟩
 ·obtain ⟨o',e1⟩:=I.base.there b o e hx;exact ⟨o',k b _ (U4 b o e) e1⟩
 ·obtain ⟨v,o,ho,hd⟩:=I.cell x c e;exact ⟨v,o,k c o (I.U3 x c e) ho,hd⟩
 ·obtain ⟨e,n,ne,nf,d⟩:=I.pin p hp;exact ⟨k p.1 p.2 ne e,n,ne,nf,d⟩
 ·refine (I.hok a u e).stay (fun c v hc q=>k c v (fun z=>?_) q) (fun _ q=>q) fun _ _ q=>q
  have hf:=I.free;rw [<- z] at hf;rcases hc with y | y
  ·rw [y,e] at hf; cases hf
  ·rw [y] at hf; cases hf
end
abbrev Cx.oR (X:Cx) (E':aA->aQ->Prop) (mQ:List (aB × Obj)):Cx:={ X with xe:=E',pn:=mQ }
abbrev Cx.hand (X:Cx) (e:aB):Cx:={ X with A:=X.A.mark (some (.ref e)),calm:=false,xe:=fun _ _=>False }
section
variable {X:Cx} {pins mQ:List (aB × Obj)} {σ:St} {H:Hp} {s:aQ} {E':aA->aQ->Prop}
theorem Inv.oR (I:Inv X pins σ H s) (E':aA->aQ->Prop):Inv (X.oR E' (X.pn++pins)) [] σ H s := ⟨⟨I.ok.mod,I.ok.kind,I.ok.glob,I.ok.blt,I.ok.above,I.ok.inj,I.ok.has,I.ok.cab,I.ok.hd,I.ok.frames,I.ok.stk,I.ok.exf,I.ok.bs,I.ok.Kc,I.ok.Ir,I.ok.Kw,I.ok.oV,I.ok.Rk⟩,I.os,I.bare,I.base,I.loc,I.cell,I.free,I.iY,fun p hp=>I.pin p (by simpa using hp),I.hok,I.len⟩
theorem Inv.o9 {j8:List (aB × Obj)} (ok:X.Ok) (I:Inv (X.oR E' (X.pn++pins)) j8 σ H s):Inv X pins σ H s := ⟨ok,I.os,I.bare,I.base,I.loc,I.cell,I.free,I.iY,fun p hp=>I.pin p (mem_append_left _ hp),I.hok,I.len⟩
theorem Inv.hand (I:Inv X pins σ H s) (e:aB):Inv (X.hand e) pins σ H s := ⟨⟨I.ok.mod,I.ok.kind,I.ok.glob,I.ok.blt,I.ok.above,I.ok.inj,I.ok.has,I.ok.cab,(fun z=>nomatch z),I.ok.frames,I.ok.stk,I.ok.exf,I.ok.bs,I.ok.Kc,I.ok.Ir,I.ok.Kw,I.ok.oV,I.ok.Rk⟩,I.os,I.bare,I.base,I.loc,I.cell,I.free,I.iY,I.pin,I.hok,I.len⟩
theorem Inv.La {e:aB} (ok:X.Ok) (I:Inv (X.hand e) pins σ H s):Inv X pins σ H s := ⟨ok,I.os,I.bare,I.base,I.loc,I.cell,I.free,I.iY,I.pin,I.hok,I.len⟩
end
noncomputable def acf (N i:Nat) (hit:aA->Prop) (tb:XK->TS) (ts:TS):TS:=fun D σ H =>
 tb (fun cls dx H'=>hit cls/\∀ e,H' e=none->ts { nx:=fun _ H2=>D.nx (blank N) H2,rt:=D.rt } ((blank N).set i (some (.ref e))) (upd H' e (kE e cls dx))) D σ H
section
variable {X:Cx} {x n:Str} {c:aA} {i:Nat} {np hpos pos:Pos} {body suite:List cY} {b₀:cY} {tb:XK->TS} {ts:TS} {L:aB} {hit:aA->Prop}
theorem Lb (hex:X.ex=[]) (F:ou X L) (hN:X.N.Nodup) (hi:X.N[i]?=some n) (hln:X.env.scope.names.lookup n=some .local) (hg:Gl X x) (hm:X.mg x=some c) (ach:∀ cls,hit cls->exmOne X.K cls c=some true) (hb:∀ (E':aA->aQ->Prop) (mQ:List (aB × Obj)) (Eb:XK),rM (X.oR E' mQ) Eb->xP (X.oR E' mQ) body (tb Eb)) (hs:∀ e,xP (X.hand e) (b₀::suite) ts) (hdb:autoParam ((x == ("__debug__":Str))=false) zau1) : PS X (.Try body [.ExceptHandler (some (.Name x np)) (some n) (b₀::suite) hpos] [] [] pos) (acf X.N.length i hit tb ts):=by
 intro pins s σ H D I h;have hcls:(X.env.scope.kind == .class || (X.env.scope.kind == .module && X.env.locals != X.env.globals))=false:=by rw [I.ok.kind]; rfl
 refine wpAny_Try_except ?_
 let Eb:XK:=fun cls dx H'=>hit cls/\∀ e,H' e=none->ts { nx:=fun _ H2=>D.nx (blank X.N.length) H2,rt:=D.rt } ((blank X.N.length).set i (some (.ref e))) (upd H' e (kE e cls dx))
 let E':aA->aQ->Prop:=fun ev s₁=>wpAny (model X.prog X.w) X.A (noteFrame ev X.env) (fun _ s₂=>wpAny (model X.prog X.w) X.A (setFlight ev none) (fun _ s₃ =>
   wpAny (model X.prog X.w) X.A (handleBy ev X.env [.ExceptHandler (some (.Name x np)) (some n) (b₀::suite) hpos]) (SP X pins D) X.xe s₃) X.xe s₂) X.xe s₁
 suffices acc:rM (X.oR E' (X.pn++pins)) Eb by
  refine bW (hb E' (X.pn++pins) Eb acc [] s σ H D (I.oR E') h) (fun f s1 h1=>?_) fun ev s1 h1=>h1
  have un:∀ {σ':St} {H':Hp},Inv (X.oR E' (X.pn++pins)) [] σ' H' s1->Inv X pins σ' H' s1:=fun J=>J.o9 I.ok
  cases f with
  | next=>obtain ⟨σ',H',J,q⟩:=h1; exact wpAny_execs_nil ⟨σ',H',un J,q⟩
  | brk=>obtain ⟨σ',H',J,q⟩:=h1; exact ⟨σ',H',un J,q⟩
  | cont=>obtain ⟨σ',H',J,q⟩:=h1; exact ⟨σ',H',un J,q⟩
  | ret u=>obtain ⟨v,σ',H',J,r,q⟩:=h1; exact ⟨v,σ',H',un J,r,q⟩
 ·intro j8 σ' H' s' e cls dx I' fl q;obtain ⟨hh,q⟩:=q;refine zH (X:=X.oR E' (X.pn++pins)) I' I'.ok.frames F fl fun s1 I1 f1=>?_
  refine kj I1 f1 fun s2 I2 f2=>?_
  obtain ⟨t2,x2,le2,Bv⟩:=f2;have J2:Inv X pins σ' H' s2:=I2.o9 I.ok;have J2h:=J2.hand e;refine wpAny_handleBy_cons (codeAny_handlers_test ?_) (by intro z; cases z);refine iz (X:=X.hand e) J2h hg hm ?_ hdb;obtain ⟨oe,vs,he,hc,hd,hv,_⟩:=id x2;have ty:Looks (model X.prog X.w) s2.heap (typeOf (.ref e)) cls:=hc ▸ (Looks.ld he).andThen .now;refine (exm_one J2.j7 ty (ach cls hh)).here ?_;refine codeAny_handlers_suite_as (kj I2 ⟨t2,x2,le2,Bv⟩ fun s3 I3 f3=>?_);obtain ⟨t3,x3,Ew,lt3⟩:=f3;obtain ⟨oe3,vs3,he3,hc3,hd3,hv3,_⟩:=id x3;have J3:Inv X pins σ' H' s3:=I3.o9 I.ok;have lX:Loose X pins H' e:=⟨Ew.1,Ew.2.1,Ew.2.2.1,Ew.2.2.2.1,Ew.2.2.2.2.1,fun p hp=>Ew.2.2.2.2.2 p (mem_append_left _ hp)⟩;have J4:Inv X pins σ' (upd H' e (kE e cls dx)) s3:=J3.adopt lX (by rw [hex]; exact fun z=>nomatch z) (by
   refine ⟨⟨oe3,vs3,he3,hc3,hd3,hv3⟩,⟨oe3,he3⟩,fun h1 h2 p k=>?_⟩;obtain ⟨o,v,a,b⟩:=p;exact ⟨o,v,k o a,b⟩)
  have J5:Inv X pins (blank X.N.length) (upd H' e (kE e cls dx)) s3:=J4.weak (by simp [blank,J4.len]) fun i v z=>absurd z Bt
  refine mU (X:=X.hand e) (J5.hand e) hN hi (.inl hln) (show RelV (.ref e) (.ref e) from rfl) (fun s4 I4=>?_) (.inr hln);refine bW (hs e pins s4 _ _ _ I4 (q e Ew.1)) (fun f s5 h5=>?_) fun _ _ z=>z.elim
  have gone:∀ {σ5:St} {H5:Hp} (Q:aQ->Prop),Inv (X.hand e) pins σ5 H5 s5->(∀ s6,Inv X pins (blank X.N.length) H5 s6->Q s6) ->
    wpAny (model X.prog X.w) X.A (do bindName X.env n .none; unbindBehindTheSuite X.env n hpos) (fun _ s6=>Q s6) X.xe s5:=fun {σ5 H5} Q I5 k=>by
   obtain ⟨m,hn,_⟩:=I5.loc;exact wpAny_nameGoes hln hn hcls fun h' m' hn' sb=>k _ (Inv.Bu (I5.La I.ok) hn' sb)
  cases f with
  | next =>
   obtain ⟨σ5,H5,I5,q5⟩:=h5;exact gone (fun s6=>SP X pins D .next s6) I5 fun s6 I6=>⟨_,H5,I6,q5⟩
  | ret u =>
   obtain ⟨v,σ5,H5,I5,r5,q5⟩:=h5;exact gone (fun s6=>SP X pins D (.ret u) s6) I5 fun s6 I6=>⟨v,_,H5,I6,r5,q5⟩
  | brk=>obtain ⟨_,_,_,z⟩:=h5; exact z.elim
  | cont=>obtain ⟨_,_,_,z⟩:=h5; exact z.elim
end
def jt (cap:List (Option Nat)) (σ:St):St:=cap.map fun o=>o.bind fun j=>(σ[j]?).join
noncomputable abbrev gD (X:Cx) (scope:Scope) (cl:List (Str × aB)) (N':List Str) (s₀:aQ) (H₀:Hp) (fp:List aB) (mQ:List (aB × Obj)) (E':aA->aQ->Prop):Cx := { X with N:=N',s₀:=s₀,H₀:=H₀,env:=compEnvC scope cl s₀.heap.objs.size X.env,outer:=X.stack,ex:=fp,fn:=fun _=>false,pn:=mQ,xe:=E' }
structure fZ (X:Cx) (scope:Scope) (cl:List (Str × aB)) (N':List Str) (cap:List (Option Nat)):Prop where
 kind:scope.kind=.function
 Ey:∀ y ∈ scope.names,y.2≠.cell
 names:∀ y ∈ scope.names,y.2=.local->scope.names.lookup y.1=some .local
 clos:closureFor scope X.env=pure cl
 sub:∀ n c,cl.lookup n=some c->X.env.cells.lookup n=some c
 has:∀ n,((relabel scope X.env).names.lookup n=some .cell\/(relabel scope X.env).names.lookup n=some .free)->∃ c,cl.lookup n=some c
 len:cap.length=N'.length
 arI:∀ (i j:Nat) (x:Str),cap[i]?=some (some j)->N'[i]?=some x->X.N[j]?=some x/\X.env.scope.names.lookup x=some .cell/\(relabel scope X.env).names.lookup x=some .cell
theorem fZ.plain {X:Cx} {scope:Scope} {N':List Str} (kind:scope.kind=.function) (names:∀ y ∈ scope.names,y.2=.local\/y.2=.globalImplicit) (look:∀ y ∈ scope.names,y.2=.local->scope.names.lookup y.1=some .local) : fZ X scope [] N' (List.replicate N'.length none):=by
 have nf:∀ y ∈ scope.names,y.2≠.free:=fun y hy z=>by rcases names y hy with q | q <;> rw [q] at z <;> cases z
 have same:(relabel scope X.env).names=scope.names:=by
  unfold relabel;refine map_eq_self fun y hy=>?_
  obtain ⟨n,k⟩:=y;have:(k == NameKind.free)=false:=by simpa using nf _ hy
  simp [this]
 refine ⟨kind,fun y hy z=>?_,look,closureFor_none nf,fun n c h=>?_,fun n h=>?_,by simp,fun i j x h=>?_⟩
 ·rcases names y hy with q | q <;> rw [q] at z <;> cases z
 ·simp at h
 ·rw [same] at h;rcases h with h | h
  ·have:=names _ (PySem.mem_of_lookup h);simp at this
  ·have:=names _ (PySem.mem_of_lookup h);simp at this
 ·rw [List.getElem?_replicate] at h
  split at h <;> simp at h
section
variable {X:Cx} {pins mQ:List (aB × Obj)} {σ:St} {H:Hp} {s:aQ} {scope:Scope} {cl:List (Str × aB)} {N':List Str} {cap:List (Option Nat)} {fp:List aB} {E':aA->aQ->Prop}
theorem RK (I:Inv X pins σ H s) (O:fZ X scope cl N' cap) (hf:∀ b ∈ fp,kh X pins H b) (hlt:∀ b ∈ fp,b < s.heap.objs.size):(gD X scope cl N' s H fp mQ E').Ok:=by
 refine ⟨I.ok.mod,O.kind,I.ok.glob,I.ok.blt,aN _,fun x y c h1 h2=>I.ok.inj x y c (O.sub _ _ h1) (O.sub _ _ h2),fun x hx=>O.has x hx,(fun x c h=>nomatch h),I.ok.hd,I.ok.frames,.inl rfl,fun b hb=>⟨Nat.ne_of_lt (hlt b hb),fun x c e=>(hf b hb).2.2.2.2.1 x c (O.sub _ _ e)⟩,I.bs,bh I.ok.Kc I.sz,fun b o e hb=>?_,fun b hb z=>?_,I.stack,I.za⟩
 ·rcases (hf b hb).2.2.2.1 with z | z
  ·exact I.ok.Ir b o e z
  ·exact absurd (aY (Heap.lt_size e) (bh I.ok.Kc z)) (Nat.lt_irrefl _)
 ·exact (aO.mp (I.rG b z)).elim (fun y=>(hf b hb).2.1 y) fun y=>(hf b hb).2.2.1 y
theorem Ld {h':Heap} {t':Nat} {m':Str->Option aA} (I:Inv X pins σ H s) (O:fZ X scope cl N' cap) (hf:∀ b ∈ fp,kh X pins H b) (hlt:∀ b ∈ fp,b < s.heap.objs.size) (hn:h'.Ns s.heap.objs.size m') (hk:∀ b o,s.heap.get? b=some o->h'.get? b=some o) : Inv (gD X scope cl N' s H fp (X.pn++pins) E') [] (jt cap σ) H { s with heap:=h',toks:=t' }:=by
 refine ⟨RK I O hf hlt,rfl,I.bare,Un.kept hk,⟨m',hn,fun i x v e1 e2 e3=>?_⟩,fun x c e=>?_,I.hok.fresh (aN _),fun x c e=>I.iY x c (O.sub _ _ e),fun p hp=>?_,I.hok.kept hk,?_⟩
 ·unfold jt at e2;rw [aH] at e2;cases q:cap[i]? with
  | none=>rw [q] at e2; cases e2
  | some o =>
   rw [q] at e2;cases o with
   | none=>cases e2
   | some j =>
    have e2':(σ[j]?).join=some v:=by simpa using e2
    have e4:σ[j]?=some (some v):=by
     cases z:σ[j]? with
     | none=>rw [z] at e2'; cases e2'
     | some y=>rw [z] at e2'; simp at e2'; rw [e2']
    obtain ⟨h1,h2,h3⟩:=O.arI i j x q e1;obtain ⟨m,_,hl⟩:=I.loc;obtain ⟨u,ru,l⟩:=hl j x v h1 e4 (.inr (.inl h2));rcases l with ⟨l,_⟩ | ⟨_,c,l,z⟩
    ·have l':X.env.scope.names.lookup x=some .local:=l;rw [h2] at l'; cases l'
    ·obtain ⟨c',hc'⟩:=O.has x (.inl h3);have:=O.sub _ _ hc';rw [l] at this; cases this;exact ⟨u,ru,.inr ⟨.inl h3,c,hc',z.keeps hk⟩⟩
 ·obtain ⟨v,z⟩:=I.cell x c (O.sub _ _ e);exact ⟨v,z.keeps hk⟩
 ·obtain ⟨e,n,ne,nf,d⟩:=I.pin p (by simpa using hp);refine ⟨hk _ _ e,n,Nat.ne_of_lt (Heap.lt_size e),fun z=>?_,d⟩;exact (aO.mp (I.rG _ z)).elim ne nf
 ·simp [jt,O.len]
theorem comp_back {j8:List (aB × Obj)} {σ':St} {H':Hp} {s':aQ} (I:Inv X pins σ H s) (hf:∀ b ∈ fp,kh X pins H b) (J:Inv (gD X scope cl N' s H fp mQ E') j8 σ' H' s'):Inv X pins σ H' s' := I.call' (ch:=fp) J.os J.base J.hok J.bare fun b hb=>⟨(hf b hb).2.2.2.1,(hf b hb).2.1,(hf b hb).2.2.2.2.1,(hf b hb).2.2.2.2.2⟩
end
abbrev Bw (ifs:List Expr) (env:Env):Sem Bool := forIn ifs true fun c r=>if r=true then do let ok <- isTrue c env (eval c env); pure (ForInStep.yield ok) else pure (ForInStep.yield r)
section
variable {prog:cA} {w:World} {A:c7} {s:aQ} {R:Result->aQ->Prop} {elt target iter:Expr} {ifs:List Expr} {scope:Scope} {pos:Pos} {it acc:aA} {env:Env}
abbrev pq (prog:cA) (w:World) (A:c7) (env:Env) (R:Result->aQ->Prop):aA->aQ->Prop:=notedBy (model prog w) A env fun x s'=>R (.error x) s'
noncomputable abbrev turnOf (prog:cA) (w:World) (A:c7) (env:Env) (R:Result->aQ->Prop) (target elt:Expr) (ifs:List Expr) (it acc:aA) (J:Nat->aQ->Prop) (n:Nat):Option aA->aQ->Prop
 | none,s₁=>R (.ok .next) s₁
 | some v,s₁=>wpAny (model prog w) A (letOwnedTupleGo target it v) (fun _ a=>wpAny (model prog w) A (assign target env v) (fun _ b=>wpAny (model prog w) A (Bw ifs env) (fun ok c =>
  if ok=true then wpAny (model prog w) A (eval elt env) (fun y d=>wpAny (model prog w) A (call (.builtin "list.append") [acc,y]) (fun _ z=>∃ m,m < n/\J m z) (pq prog w A env R) d) (pq prog w A env R) c
  else ∃ m,m < n/\J m c) (pq prog w A env R) b) (pq prog w A env R) a) (pq prog w A env R) s₁
theorem zJ (J:Nat->aQ->Prop) (go:∀ n s,J n s->wpAny (model prog w) A (pyNext it) (turnOf prog w A env R target elt ifs it acc J n) (pq prog w A env R) s) (n:Nat) (h:J n s) : codeAny (model prog w) A (.compLoop (.ListComp elt [⟨target,iter,ifs,0⟩] scope pos) 0 it acc env) R s := codeAny_loop rfl J (fun m a ha=>wpAny_noted (by
 rw [compTurn_list];refine aj (wpAny_standAt (aj (d9 (go m a ha) fun r b hb=>?_)))
 match r,hb with
 | none,hb=>exact au hb
 | some v,hb =>
  refine aj (d9 hb fun _ c hc=>aj (d9 hc fun _ d hd=>aj (d9 hd fun ok f hf=>?_)))
  match ok,hf with
  | false,hf=>exact au ⟨rfl,hf⟩
  | true,hf=>exact aj (aj (d9 hf fun y g hg=>aj (d9 hg fun _ z hz=>au (au ⟨rfl,hz⟩)))))) n h
end
noncomputable def PTs (X:Cx) (ifs:List Expr) (t:TT):Prop := ∀ (pins:List (aB × Obj)) (s:aQ) (σ:St) (H:Hp) (Q:Bool->Hp->Prop),Inv X pins σ H s->t σ H Q -> wpAny (model X.prog X.w) X.A (Bw ifs X.env) (TP X pins σ Q) X.xe s
def Bx:TT:=fun _ H Q=>Q true H
theorem f9 {X:Cx}:PTs X [] Bx:=fun _ _ _ H _ I h=>wpAny_tests_nil ⟨H,I,h⟩
theorem oA {X:Cx} {c:Expr} {t:TT} (h:PT X c t):PTs X [c] t:=fun pins s σ H Q I hw=>wpAny_tests_one (h pins s σ H Q I hw)
def kI (σ0 σ2:St):Prop:=∀ (j:Nat) v,σ0[j]?=some (some v)->σ2[j]?=some (some v)
theorem BJ {n j:Nat} {σ:St} {v:V}:¬ (jt (List.replicate n none) σ)[j]?=some (some v):=by
 unfold jt;rw [aH,List.getElem?_replicate]
 split <;> intro h <;> simp at h
theorem fX {n:Nat} {σ σ2:St}:kI (jt (List.replicate n none) σ) σ2:=fun _ _ h=>absurd h BJ
noncomputable def oU (D:aB) (J:It) (σ0:St) (g:TG) (tc:TT) (te:TE) (Qe:Hp->Prop) (W:Nat->Nat->List V->Hp->Prop):Prop := ∀ i m acc H',W i m acc H'->H' D=some (.lst acc)/\((J.stop i H'/\Qe H')\/(J.go i H'/\acc.length < sizeLine /\ ∀ x yq,J.Ke i H' x yq->g x σ0 yq fun σ2 H2=>kI σ0 σ2/\tc σ2 H2 fun b H3=>if b=true then te σ2 H3 fun y H4=>H4 D=some (.lst acc)/\∃ m',m' < m/\W (i + 1) m' (acc++[y]) (upd H4 D (.lst (acc++[y])))
 else ∃ m',m' < m/\W (i + 1) m' acc H3))
noncomputable def Vd (cap:List (Option Nat)) (wi:TI) (g:TG) (tc:TT) (te:TE):TE:=fun σ H Q=>wi σ H fun J H1=>∀ D,H1 D=none -> ∃ W:Nat->Nat->List V->Hp->Prop,(∃ m,W 0 m [] (upd H1 D (.lst [])))/\oU D J (jt cap σ) g tc te (Q (.ref D)) W
section
variable {X:Cx} {scope:Scope} {cl:List (Str × aB)} {N':List Str} {cap:List (Option Nat)} {target iter elt:Expr} {ifs:List Expr} {pos:Pos} {wi:TI} {g:TG} {tc:TT} {te:TE} {E:XK} {L:aB}
theorem vm {pins:List (aB × Obj)} {σ:St} {H2:Hp} {s2:aQ} {it:aB} {fp:List aB} {tn:Nat->Heap->Prop} {J:It} {Qe:aB->Hp->Prop} {E₀:aA->aQ->Prop} {RR:aA->aB->Result->aQ->Prop} (acc:rM X E) (hc:X.calm=true) (F:ou X L) (O:fZ X scope cl N' cap) (hg:∀ s₀ H₀ fp mQ E',PG (gD X scope cl N' s₀ H₀ fp mQ E') target g) (ht:∀ s₀ H₀ fp mQ E',PTs (gD X scope cl N' s₀ H₀ fp mQ E') ifs tc) (he:∀ s₀ H₀ fp mQ E',rM (gD X scope cl N' s₀ H₀ fp mQ E') E->PE (gD X scope cl N' s₀ H₀ fp mQ E') elt te) (I2:Inv X pins σ H2 s2) (T:Turn X.prog X.w X.K target J fp it tn) (st2:tn 0 s2.heap) (f2:∀ b ∈ fp,kh X pins H2 b) (hq:∀ D,H2 D=none->∃ W:Nat->Nat->List V->Hp->Prop,(∃ m,W 0 m [] (upd H2 D (.lst [])))/\oU D J (jt cap σ) g tc te (Qe D) W) (hok:∀ D C s',(∃ m,s'.heap.Ns C m)->Loose X pins (fun _=>none) C->(∃ H',Inv X pins σ H' s'/\H' C=none/\Qe D H')->RR (.ref D) C (.ok .next) s') (arJ:∀ D C x s',(∃ m,s'.heap.Ns C m)->(∀ h',Heap.SameBut C s'.heap h'->∀ cenv:Env,cenv.locals=C->wpAny (model X.prog X.w) X.A (passOn "comprehension.variables-let-go" x cenv:Sem aA) (fun _ _=>False) X.xe { s' with heap:=h' })->RR (.ref D) C (.error x) s') :
  wpAny (model X.prog X.w) X.A (newList []) (fun Jd s₃=>wpAny (model X.prog X.w) X.A (newFunctionEnv scope X.env.globals cl [] X.env.qual none .none (some X.env)) (fun cenv s₄ =>
   codeAny (model X.prog X.w) X.A (.compStart (.ListComp elt [⟨target,iter,ifs,0⟩] scope pos) 0 (.ref it) Jd { cenv with scope:=relabel scope X.env }) (RR Jd cenv.locals) s₄) E₀ s₃) E₀ s2:=by
 refine wpAny_newObj_type ?_;obtain ⟨W,⟨m0,w0⟩,turn⟩:=hq s2.heap.objs.size (I2.hok.fresh (aN _));have I3:Inv X pins σ (upd H2 s2.heap.objs.size (.lst [])) { s2 with heap:=s2.heap.push { cls:=.type "list",dict:=none,data:=.seq ([]:List aA).toArray } } :=
  I2.laid (t':=s2.toks) (fun b u e=>ak _ e) (aN _) ⟨eV _,[],_,.nil,aJ _ rfl⟩
 have hfD:∀ b ∈ fp,b≠s2.heap.objs.size:=fun b hb z=>by
  obtain ⟨o,e,_⟩:=T.obj 0 _ st2 b hb;exact absurd (Heap.lt_size e) (by rw [z]; exact Nat.lt_irrefl _)
 generalize hs3:({ s2 with heap:=s2.heap.push { cls:=.type "list",dict:=none,data:=.seq ([]:List aA).toArray } }:aQ)=s3 at I3 ⊢;have k23:∀ b o,s2.heap.get? b=some o->s3.heap.get? b=some o:=fun b o e=>by rw [<- hs3]; exact ak _ e
 have f3:∀ b ∈ fp,kh X pins (upd H2 s2.heap.objs.size (.lst [])) b:=fun b hb=>⟨by rw [bx (hfD b hb)]; exact (f2 b hb).1,(f2 b hb).2⟩
 have hlt:∀ b ∈ fp,b < s3.heap.objs.size:=fun b hb=>by
  obtain ⟨o,e,_⟩:=T.obj 0 _ st2 b hb;exact Heap.lt_size (k23 b o e)
 have st3:tn 0 s3.heap:=T.keep 0 _ _ st2 fun b _ o e=>k23 b o e
 refine wpAny_newFunctionEnv O.Ey (fun x hx=>nomatch hx) (fun h' hns hsb=>?_) O.kind;have k34:∀ b o,s3.heap.get? b=some o->h'.get? b=some o:=fun b o e=>(hsb.2 b (Nat.ne_of_lt (Heap.lt_size e))).trans (ak _ e)
 have lC:Loose X pins (upd H2 s2.heap.objs.size (.lst [])) s3.heap.objs.size:=I3.iD (Heap.get?_none_of_le (aN _));have lC0:Loose X pins (fun _=>none) s3.heap.objs.size:=⟨rfl,lC.2⟩
 let NE:aA->aQ->Prop:=pq X.prog X.w X.A (compEnvC scope cl s3.heap.objs.size X.env) (RR (.ref s2.heap.objs.size) s3.heap.objs.size)
 let Y0:Cx:=gD X scope cl N' s3 (upd H2 s2.heap.objs.size (.lst [])) fp (X.pn++pins) NE
 have I4:∀ t',Inv Y0 [] (jt cap σ) (upd H2 s2.heap.objs.size (.lst [])) { s3 with heap:=h',toks:=t' }:=fun t'=>Ld I3 O f3 hlt hns k34
 have loop:∀ s4:aQ,Inv Y0 [] (jt cap σ) (upd H2 s2.heap.objs.size (.lst [])) s4->tn 0 s4.heap ->
   codeAny (model X.prog X.w) X.A (.compLoop (.ListComp elt [⟨target,iter,ifs,0⟩] scope pos) 0 (.ref it) (.ref s2.heap.objs.size) (compEnvC scope cl s3.heap.objs.size X.env)) (RR (.ref s2.heap.objs.size) s3.heap.objs.size) s4:=by
  intro s4 I4 st4;have stat:∀ {H':Hp},(∀ b ∈ fp,H' b=none)->∀ b ∈ fp,kh Y0 [] H' b:=fun {H'} hn b hb =>
   ⟨hn b hb,Nat.ne_of_lt (hlt b hb),fun z=>(aO.mp (I3.rG b z)).elim (fun y=>(f3 b hb).2.1 y) fun y=>(f3 b hb).2.2.1 y,.inl hb,fun x c e=>(f3 b hb).2.2.2.2.1 x c (O.sub _ _ e),fun p hp=>(f3 b hb).2.2.2.2.2 p (by have q:p ∈ (X.pn++pins)++[]:=hp; simpa using q)⟩
  refine zJ (fun n s'=>∃ i ac H',Inv Y0 [] (jt cap σ) H' s'/\tn i s'.heap/\(∀ b ∈ fp,H' b=none)/\W i n ac H') ?_ m0 ⟨0,[],_,I4,st4,fun b hb=>(f3 b hb).1,w0⟩;rintro n s5 ⟨i,ac,H5,I5,Kf,fr5,w5⟩;obtain ⟨hD5,alt⟩:=turn i n ac H5 w5;rcases alt with ⟨stop,qe⟩ | ⟨go,hsz,step⟩
  ·refine d9 (T.done Y0 rfl rfl rfl hc i [] s5 _ H5 NE I5 (stat fr5) Kf stop) fun r s6 ⟨hr,I6⟩=>?_
   subst hr;obtain ⟨m,hn,_⟩:=I6.loc;exact hok _ _ s6 ⟨m,hn⟩ lC0 ⟨H5,comp_back I3 f3 I6,I6.free,qe⟩
  ·refine d9 (T.item Y0 rfl rfl rfl hc i [] s5 _ H5 NE I5 (stat fr5) Kf go) fun r s6 ⟨u,hr,h6⟩=>?_
   subst hr;refine d9 h6 fun _ s7 ⟨x,H7,I7,r7,y7,st7,fr7⟩=>?_
   have I7p:=I7.pinned (stat fr7) (T.obj _ _ st7);have I7t:=I7p.oR NE
   let Y1:Cx:=gD X scope cl N' s3 (upd H2 s2.heap.objs.size (.lst [])) fp ((X.pn++pins)++([]++mX fp s7.heap)) NE
   have I7y:Inv Y1 [] (jt cap σ) H7 s7:=I7t;have ac1:rM Y1 E:=by
    intro j8 σ' H' s' e cls dx I' fl q;have nfp:e ∉ fp/\∀ t,Loose Y1 j8 H' t->t ∉ fp:=by
     have nn:∀ t,Loose Y1 j8 H' t->t ∉ fp:=fun t l hb=>by
      obtain ⟨o,eo,_⟩:=T.obj _ _ st7 t hb;exact l.2.2.2.2.2 (t,o) (mem_append_left _ (mem_append_right _ (mem_append_right _ (lG hb eo)))) rfl
     obtain ⟨_,_,l,_⟩:=fl;exact ⟨nn e l,nn⟩
    show wpAny (model X.prog X.w) X.A (noteFrame (.ref e) _) _ _ s'
    obtain ⟨env₀,outer,es,hf₀,hf⟩:=F;refine zH (X:=Y1) I' I'.ok.frames ⟨env₀,outer,es,hf₀,hf⟩ fl fun s8 I8 f8=>?_
    obtain ⟨t8,x8,le8,lt8⟩:=f8;obtain ⟨m,hn8,_⟩:=id I8.loc;refine arJ _ _ _ s8 ⟨m,hn8⟩ fun h' sb cenv hcl=>?_
    have J8:Inv X pins σ H' s8:=comp_back I3 f3 I8;have lX:∀ b,Loose Y1 j8 H' b->Loose X pins H' b:=fun b l=>⟨l.1,(I3.iD (l.2.2.2.1 (nfp.2 b l))).2⟩
    have nC:∀ b,Loose Y1 j8 H' b->b≠s3.heap.objs.size:=fun b l=>l.2.1
    have J9:Inv X pins σ H' { s8 with heap:=h' }:=J8.m5 (t':=s8.toks) (ch:=[s3.heap.objs.size]) (fun b hb=>by rw [aP.mp hb]; exact ⟨I8.free,lC.2⟩)
     (fun b o _ hc' z=>(sb.2 b fun y=>hc' (by rw [y]; exact mem_cons_self)).trans z) (fun b o hc' z=>⟨o.slots,(sb.2 b fun y=>hc' (by rw [y]; exact mem_cons_self)).trans z⟩)
    have x9:Exc h' e cls dx (some t8):=x8.keeps fun b o hb z=>(sb.2 b (by
     rcases hb with y | y
     ·rw [y]; exact nC e le8
     ·cases y; exact nC _ lt8)).trans z
    unfold PySem.passOn;obtain ⟨oe,vs,he9,hc9,hd9,hv9,h19,_⟩:=id x9;refine aj (wpAny_field he9 hv9 h19 ?_);rw [if_neg (by simp)];refine aj (kj (X:=X) J9 ⟨t8,x9,lX _ le8,lX _ lt8⟩ fun GZ I10 f10=>?_);exact wpAny_throw (acc pins σ H' GZ e cls dx I10 f10.fly q)
   refine d9 (hg s3 _ fp _ NE [] s7 _ H7 x u _ I7y r7 (step x H7 y7)) fun _ s8 ⟨σ8,H8,I8,kp8,q8⟩=>?_
   refine d9 (ht s3 _ fp _ NE [] s8 σ8 H8 _ I8 q8) fun ok s9 ⟨H9,I9,q9⟩=>?_
   have again:∀ {H':Hp} {s':aQ} {ac':List V},Inv Y1 [] σ8 H' s'->(∃ m',m' < n/\W (i + 1) m' ac' H') ->
     ∃ m,m < n/\∃ i ac H',Inv Y0 [] (jt cap σ) H' s'/\tn i s'.heap/\(∀ b ∈ fp,H' b=none)/\W i m ac H':=fun {H' s' ac'} I' ⟨m',hm,w'⟩=>by
    have I0:Inv Y0 ([]++mX fp s7.heap) σ8 H' s':=Inv.o9 (X:=Y0) (pins:=[]++mX fp s7.heap) I5.ok I';have ai7:∀ b ∈ fp,∀ o,s7.heap.get? b=some o->s'.heap.get? b=some o/\H' b=none:=fun b hb o e=>by
     have z:=I0.pin (b,o) (mem_append_right _ (mem_append_right _ (lG hb e)));exact ⟨z.1,z.2.1⟩
    refine ⟨m',hm,i + 1,ac',H',(Inv.qH (pins:=[]) (pl:=mX fp s7.heap) I0).weak (by rw [I0.len]; show _=N'.length; simp [jt,O.len]) kp8,T.keep _ _ _ st7 fun b hb o e=>(ai7 b hb o e).1,fun b hb=>?_,w'⟩;obtain ⟨o,e,_⟩:=T.obj _ _ st7 b hb;exact (ai7 b hb o e).2
   cases ok with
   | false =>
    rw [if_neg Bool.false_ne_true] at q9 ⊢;exact again I9 q9
   | true =>
    rw [if_pos rfl] at q9 ⊢;refine d9 (he s3 _ fp _ NE ac1 [] s9 σ8 H9 _ I9 q9) fun yv GZ ⟨y,H10,I10,r10,arM,q10⟩=>?_
    refine d9 (iQ (X:=Y1) [] GZ σ8 H10 (.ref s2.heap.objs.size) [y] (.ref s2.heap.objs.size) [yv] (fun _ H'=>H'=upd H10 s2.heap.objs.size (.lst (ac++[y]))) I10 rfl (.cons r10 .nil) ⟨_,ac,y,rfl,rfl,arM,hsz,rfl⟩) fun _ Le ⟨_,H11,I11,_,e11⟩=>?_
    subst e11;exact again I11 q10
 have aci:tn 0 h':=T.keep 0 _ _ st3 fun b _ o e=>k34 b o e
 exact codeAny_compStart_list (loop _ (I4 _) aci) (T.self _ 0 _ _ _ aci (loop _ (I4 _) aci))
theorem fM (acc:rM X E) (hc:X.calm=true) (F:ou X L) (O:fZ X scope cl N' cap) (hi:PI X target iter wi) (hg:∀ s₀ H₀ fp mQ E',PG (gD X scope cl N' s₀ H₀ fp mQ E') target g) (ht:∀ s₀ H₀ fp mQ E',PTs (gD X scope cl N' s₀ H₀ fp mQ E') ifs tc) (he:∀ s₀ H₀ fp mQ E',rM (gD X scope cl N' s₀ H₀ fp mQ E') E->PE (gD X scope cl N' s₀ H₀ fp mQ E') elt te) (hs:autoParam (∀ x,foldedSetIterable iter X.env x=pure x) zau3):PE X (.ListComp elt [⟨target,iter,ifs,0⟩] scope pos) (Vd cap wi g tc te):=by
 intro pins s σ H Q I h;rw [eval_ListComp];refine wpAny_comprehension_free (use:=none) rfl hs O.clos O.kind O.names (d9 (hi pins s σ H _ I h) fun xv s₁ h₁=>d9 h₁ fun itv s₂ h₂=>?_);obtain ⟨it,fp,tn,J,H2,e,I2,T,st2,f2,q⟩:=h₂;subst e;refine vm (RR:=fun Jd C=>compPost (model X.prog X.w) X.A X.xe none (EP X pins σ Q) Jd C) (Qe:=fun D=>Q (.ref D)) acc hc F O hg ht he I2 T st2 f2 q ?_ ?_
 ·rintro D C s' ⟨m,hn⟩ lC ⟨H',I',hC,q'⟩;refine ⟨m,hn,fun h' sb=>⟨.ref D,H',I'.m5 (t':=s'.toks) (ch:=[C]) (fun b hb=>by rw [aP.mp hb]; exact ⟨hC,lC.2⟩) (fun b o _ hc' z=>(sb.2 b fun y=>hc' (by rw [y]; exact mem_cons_self)).trans z) (fun b o hc' z=>⟨o.slots,(sb.2 b fun y=>hc' (by rw [y]; exact mem_cons_self)).trans z⟩),rfl,q'⟩⟩
 ·rintro D C x s' ⟨m,hn⟩ k;exact ⟨m,hn,k⟩
theorem qL {i:Nat} {y:Str} {py spos:Pos} (hN:X.N.Nodup) (hi':X.N[i]?=some y) (hx:Loc X.env.scope y) (acc:rM X E) (hc:X.calm=true) (F:ou X L) (O:fZ X scope cl N' cap) (hi:PI X target iter wi) (hg:∀ s₀ H₀ fp mQ E',PG (gD X scope cl N' s₀ H₀ fp mQ E') target g) (ht:∀ s₀ H₀ fp mQ E',PTs (gD X scope cl N' s₀ H₀ fp mQ E') ifs tc) (he:∀ s₀ H₀ fp mQ E',rM (gD X scope cl N' s₀ H₀ fp mQ E') E->PE (gD X scope cl N' s₀ H₀ fp mQ E') elt te) (hsw:autoParam (swapsWith (.ListComp elt [⟨target,iter,ifs,0⟩] scope pos) (some (.Name y py)) spos.line X.env=pure true) zau0) (hs:autoParam (∀ x,foldedSetIterable iter X.env x=pure x) zau3) (hf:autoParam (X.fn y=true\/X.env.scope.names.lookup y=some .local) zau2) : PS X (.Assign [.Name y py] (.ListComp elt [⟨target,iter,ifs,0⟩] scope pos) spos) (Ro (Vd cap wi g tc te) (xQ i)):=by
 intro pins s σ H D I h;rw [exec_Assign_Name_used y py _ spos hsw];refine aj (wpAny_standAt ?_);refine aj ?_
 show wpAny _ X.A (do let _ <- comprehension (.ListComp elt [⟨target,iter,ifs,0⟩] scope pos) scope X.env _ (newList []) false (eval iter X.env) (some (assign (.Name y py) X.env))) _ _ s
 refine aj (bW (wpAny_comprehension_free (use:=some (assign (.Name y py) X.env)) (Q:=fun _ s'=>SP X pins D .next s') rfl hs O.clos O.kind O.names (d9 (hi pins s σ H _ I h) fun xv s₁ h₁=>d9 h₁ fun itv s₂ h₂=>?_)) (fun _ s' hq=>au (au hq)) fun _ _ e=>e);obtain ⟨it,fp,tn,J,H2,e,I2,T,st2,f2,q⟩:=h₂;subst e;refine vm (RR:=fun Jd C=>compPost (model X.prog X.w) X.A X.xe (some (assign (.Name y py) X.env)) (fun _ s'=>SP X pins D .next s') Jd C) (Qe:=fun Dl H1=>D.nx (σ.set i (some (.ref Dl))) H1) acc hc F O hg ht he I2 T st2 f2 q ?_ ?_
 ·rintro Dl C s' ⟨m,hn⟩ lC ⟨H',I',hC,q'⟩
  show wpAny _ X.A (assign (.Name y py) X.env (.ref Dl)) _ _ s'
  refine wpAny_assign_Name (xO I' hN hi' hx (show RelV (.ref Dl) (.ref Dl) from rfl) (fun s'' I'' hsb=>?_) hf);obtain ⟨a,sba,ha⟩:=hsb;have nCa:C≠a:=by
   rcases ha with z | z
   ·rw [z]; exact lC.2.1
   ·exact Ne.symm (lC.2.2.2.2.1 _ _ z)
  refine ⟨m,hn.sameBut sba nCa,fun h' sb=>⟨_,H',I''.m5 (t':=s''.toks) (ch:=[C]) (fun b hb=>by rw [aP.mp hb]; exact ⟨hC,lC.2⟩) (fun b o _ hc' z=>(sb.2 b fun y=>hc' (by rw [y]; exact mem_cons_self)).trans z) (fun b o hc' z=>⟨o.slots,(sb.2 b fun y=>hc' (by rw [y]; exact mem_cons_self)).trans z⟩),q'⟩⟩
 ·rintro D C x s' ⟨m,hn⟩ k;exact ⟨m,hn,k⟩
end
structure jO (k:Nat) (A:c7):Prop where
 dp:A.depth + 3 * k + 5 < recursionLimit
 un:A.units + 16 * k + 200 < cLine
theorem d7.toH {k:Nat} {A:c7} (r:d7 k A):jO k A:=⟨r.dp,r.un⟩
theorem jO.deeper {k:Nat} {A:c7} (r:jO (k + 1) A) (env:Env):jO k (A.deeper env) := ⟨by have:=r.dp; show A.depth + 1 + 3 * k + 5 < _; omega,by have:=r.un; show A.units + 3 + 16 * k + 200 < _; omega⟩
structure qM (P:cA) (w:World) (K:Fg) (mg:Str->Option aA) (base:Heap) (CX:xV) (k:Nat) (f:aB) (fd:dW) (ps:List Str) (sp:Sp):Prop where
 len:∀ vs H Q E,sp vs H Q E->vs.length=ps.length
 run:∀ (A:c7) (outer:List Env) (s:aQ) (H:Hp) (args:Args) (us:List aA) (vs:List V) (Q:VK) (E:XK),jO k A->Bd P w K mg base A outer s H->BindsTo s fd args (ps.zip us)->Vals vs us->sp vs H Q E -> codeAny (model P w) A (.call (.ref f) args) (CR CX outer P w H s Q E) s
noncomputable abbrev G3 (CX:xV) (P:cA) (w:World) (K:Fg) (mg:Str->Option aA) (base:Heap) (N:List Str) (qual:Str) (scope:Scope) (f:aB) (cd:aA) (A:c7) (outer:List Env) (s:aQ) (H:Hp) (E:XK):Cx := { oO CX P w K mg base N qual scope f cd A outer s H E with calm:=false }
theorem acj {CX:xV} {P:cA} {w:World} {K:Fg} {mg:Str->Option aA} {base:Heap} {k:Nat} {f:aB} {name qual:Str} {params:Arguments} {body:List cY} {scope:Scope} {dV kV doc pm cdv ct oc:aA} {an od:Option aB} {osl:Array (Option aA)} {N ps:List Str} {sp:Sp} (lk:K.lookup f=some ⟨oc,od,.func (fnOf name qual params body scope dV kV doc pm an cdv ct),osl⟩) (hcd:codeIn K cdv qual=true) (S:bQ N ps scope) (len:∀ vs H Q E,sp vs H Q E->vs.length=ps.length) (hbody:∀ (A:c7) (outer:List Env) (s:aQ) (H:Hp) (vs:List V) (Q:VK) (E:XK),jO k (A.deeper (envOfC qual scope s.heap.objs.size f cdv))->sp vs H Q E -> ∃ t,xP (G3 CX P w K mg base N qual scope f cdv A outer s H E) body t/\t { nx:=fun _ H'=>Q .non H',rt:=Q } (start N vs) H) : qM P w K mg base CX (k + 1) f (fnOf name qual params body scope dV kV doc pm an cdv ct) ps sp:=by
 refine ⟨len,fun A outer s H args us vs Q E hr e0 hb r hsp=>?_⟩;have hl:=len _ _ _ _ hsp;have KX:K.In s.heap:=e0.mod.Ea.keeps fun b o e=>(e0.bs b o e).1
 have lim:s.heap.NoLimit:=e0.mod.nolimit.keeps fun b o e=>(e0.bs b o e).1
 have hkind:∀ y ∈ ps.zip us,scope.names.lookup y.1=some .local\/(scope.names.lookup y.1=some .cell/\((cellsFrom (s.heap.objs.size + 1) scope.names []).lookup y.1).isSome=true):=fun ⟨n,v⟩ hy=>by
  rcases S.par n (of_mem_zip hy).1 with q | q
  ·exact .inl q
  ·exact .inr ⟨q,cellsFrom_some _ _ _ (.inl q)⟩
 have arN:A.depth < recursionLimit:=by have:=hr.dp; omega
 refine codeAny_call_function arN (KX _ _ lk) rfl S.co S.gen rfl (codeRec_of KX hcd) (hb _ _ _ _ ?_);refine wpAny_newFunctionEnv_cells S.kind hkind fun env he s1 x=>?_
 subst he;refine ⟨lim.keeps x.toInCall.keep,codeAny_func ?_⟩;obtain ⟨t,ht,hq⟩:=hbody A outer s H vs Q E (hr.deeper _) hsp;have I0:Inv (oO CX P w K mg base N qual scope f cdv { A with handled:=none } outer s H E) [] (start N vs) H s1 :=
  yd S rfl ⟨e0.frames,e0.mod,e0.bs,e0.Kc,e0.oV,e0.Rk,e0.hok,e0.bare⟩ hl r x
 have I:Inv (G3 CX P w K mg base N qual scope f cdv A outer s H E) [] (start N vs) H s1 :=
  ⟨⟨I0.ok.mod,I0.ok.kind,I0.ok.glob,I0.ok.blt,I0.ok.above,I0.ok.inj,I0.ok.has,I0.ok.cab,(fun z=>nomatch z),Around.frames_deeper e0.frames,I0.ok.stk,I0.ok.exf,I0.ok.bs,I0.ok.Kc,I0.ok.Ir,I0.ok.Kw,I0.ok.oV,I0.ok.Rk⟩,I0.os,I0.bare,I0.base,I0.loc,I0.cell,I0.free,I0.iY,I0.pin,I0.hok,I0.len⟩
 refine bW (ht [] s1 (start N vs) H _ I hq) (fun fl s' hs=>?_) fun e s' hs=>hs
 have fin:∀ {σ':St} {H':Hp} {v:V} {u:aA},Inv (G3 CX P w K mg base N qual scope f cdv A outer s H E) [] σ' H' s'->RelV v u->Q v H'->CE outer P w H s Q u s' :=
  fun {σ' H' v u} J rv q=>⟨v,H',J.os,J.bare,J.base,J.hok,rv,q⟩
 cases fl with
 | ret u =>
  obtain ⟨v,σ',H',J,rv,q⟩:=hs;exact fin J rv q
 | next =>
  obtain ⟨σ',H',J,q⟩:=hs;exact fin (v:=V.non) (u:=Value.none) J rfl q
 | brk =>
  obtain ⟨_,_,_,q⟩:=hs;exact False.elim q
 | cont =>
  obtain ⟨_,_,_,q⟩:=hs;exact False.elim q
section
variable {X:Cx} {CX:xV} {k:Nat} {f:aB} {fd:dW} {ps:List Str} {sp:Sp} {oN:List V} {ds:List aA} {E:XK} {x:Str} {p pos:Pos} {e:Expr} {es:List Expr} {t:TA}
theorem RL {pins:List (aB × Obj)} {σ:St} {H:Hp} {s:aQ} {Q:VK} {us:List aA} {vs:List V} (F:qM X.prog X.w X.K X.mg X.base CX k f fd ps sp) (hr:jO k X.A) (hb:Binds X.K fd ps ds) (hd:Vals oN ds) (hx:Passes CX X E) (I:Inv X pins σ H s) (r:Vals vs us) (h:sp (vs++oN) H Q E):wpAny (model X.prog X.w) X.A (call (.ref f) us) (EP X pins σ Q) X.xe s:=by
 have r2:Vals (vs++oN) (us++ds):=r.append hd;have hl:(us++ds).length=ps.length:=by rw [<- r2.length]; exact F.len _ _ _ _ h
 refine wpAny_call (cg (F.run X.A X.stack s H ⟨us,[]⟩ (us++ds) (vs++oN) Q E hr I.env0 (hb s us I.j7 hl) r2 h) fun r s' hq=>?_);cases r with
 | error e=>exact hx pins σ H s e s' I hq
 | ok fl =>
  cases fl with
  | ret u=>exact I.after hq
  | next=>exact False.elim hq
  | brk=>exact False.elim hq
  | cont=>exact False.elim hq
theorem vo (F:qM X.prog X.w X.K X.mg X.base CX k f fd ps sp) (hr:jO k X.A) (hg:Gl X x) (hm:X.mg x=some (.ref f)) (hk:keepIn X.K (.ref f)=true) (hb:Binds X.K fd ps ds) (hd:Vals oN ds) (hx:Passes CX X E) (ha:PA X (e::es) t) (hdb:autoParam ((x == ("__debug__":Str))=false) zau1) (he:autoParam (starEach (e::es) X.env=(false,eval e X.env)::starEach es X.env) zau0) (hpl:autoParam ((backTo pos (starEach es X.env)).any (·.1)=false) zau0) : PE X (.Call (.Name x p) (e::es) [] pos) (xW sp oN E t):=by
 intro pins s σ H Q I h;refine wpAny_Call_Name_kw (iz I hg hm ?_ hdb);refine callWith_K (h₀:=X.base) I.ok.mod.Ea hk (d9 (ha pos pins s σ H _ I h) fun us s1 ⟨vs,H1,I1,r,q⟩=>⟨I1.j7,?_⟩) he hpl;exact RL F hr hb hd hx I1 r q
end
def iG:List Str->List Str
 | []=>[]
 | x::l=>x::(iG l).filter fun y=>decide (y≠x)
theorem vq {y:Str}:∀ {l:List Str},y ∈ iG l ↔ y ∈ l
 | []=>Iff.rfl
 | x::l=>by
  by_cases e:y=x
  ·simp [iG,e]
  ·simp [iG,e,vq (l:=l)]
theorem zK:∀ l:List Str,(iG l).length<=l.length
 | []=>aN _
 | _::l=>Nat.succ_le_succ (bh (length_filter_le _ _) (zK l))
theorem yr (v:Str):∀ l:List Str,iG (l++[v])=if v ∈ l then iG l else iG l++[v]
 | []=>by simp [iG]
 | x::l=>by
  have ih:=yr v l
  by_cases e:v=x
  ·subst e
   by_cases m:v ∈ l <;> simp [iG,ih,m,cX]
  ·by_cases m:v ∈ l <;> simp [iG,ih,m,e,cX]
theorem G4:∀ l:List Str,(iG l).length=l.length ↔ l.Nodup
 | []=>by simp [iG]
 | x::l=>by
  have le1:=length_filter_le (fun y=>decide (y≠x)) (iG l);have le2:=zK l;have ih:=G4 l;have all:((iG l).filter fun y=>decide (y≠x)).length=(iG l).length ↔ ¬ x ∈ l:=by
   rw [List.length_filter_eq_length_iff];constructor
   ·intro h m;simpa using h x (vq.mpr m)
   ·intro h y hy;simpa using fun z:y=x=>h (z ▸ vq.mp hy)
  simp only [iG,length_cons,nodup_cons];constructor
  ·intro h;exact ⟨all.mp (by omega),ih.mp (by omega)⟩
  ·rintro ⟨h1,h2⟩;have:=all.mpr h1;have:=ih.mpr h2;omega
section
variable {prog:cA} {w:World} {A:c7} {E:aA->aQ->Prop} {Q:aA->aQ->Prop} {s:aQ}
theorem zL {T newId initId:String} {args:List aA} (ft:TypeCalled T newId initId) (ok:checkTypeCall T ⟨args,[]⟩=pure ()) (mk:codeAny (model prog w) A.in1 (.call (.builtin newId) ⟨.type T::args,[]⟩) (wants (fun obj a=>a.TypeIs obj T/\codeAny (model prog w) A.in1 (.call (.builtin initId) ⟨obj::args,[]⟩) (wants (fun r b=>r=.none/\Q obj b) E) a) E) s):wpAny (model prog w) A (call (.type T) args) Q E s:=by
 obtain ⟨c,tl,mro⟩:=ft.mro;have made:=ft.made; have sub:=ft.sub; have n1:=ft.notType; have n2:=ft.canCreate;have look:=ft.init.lookup;refine wpAny_call (codeAny_of_tree (show wpAny _ _ (callAny (.type T) _) _ _ _ from au ⟨Code.quiet_builtin _ (by decide +kernel),codeAny_builtin PySem.F.entry_type_call ?_⟩));have plain:=Around.under_plain (A:=A) (weight_type_call_type T args []) (units_type_call_type T args []);rw [plain]
 repeat any_goals first | assumption | wp_step
 refine cg mk fun r a ha=>?_
 match r,ha with
 | .error _,ha=>exact ha
 | .ok (.ret obj),ha =>
  obtain ⟨ty,ini⟩:=ha;have bnd:=ft.init.bind obj
  repeat any_goals first | assumption | wp_step
  refine cg ini fun r b hb=>?_
  match r,hb with
  | .error _,hb=>exact hb
  | .ok (.ret v),hb =>
   obtain ⟨rfl,q⟩:=hb
   repeat any_goals first | assumption | wp_step
theorem RM {S:aB} {done:List Str} {x:Str} {t:Tok} {Qu:Bool->aQ->Prop} (small:(iG done).length + 1 < scanBound) (at_:s.heap.SetOf (strKind prog w) S (fun k=>decide (k ∈ done)) (iG done).length) (k:∀ h' tk b,Heap.SameBut S s.heap h'->h'.SetOf (strKind prog w) S (fun k=>decide (k ∈ done++[x])) (iG (done++[x])).length->Qu b { s with heap:=h',toks:=tk }):wpAny (model prog w) A (setAdd S (.str x t)) Qu E s:=by
 have is:(strKind prog w).is x (.str x t)=true:=by show Value.isStrOf x (.str x t)=true; simp [Value.isStrOf]
 unfold setAdd;refine wpAny_holding (aj ((strKind prog w).pyHash (k:=x) is (wpAny_setAddHashed_of (knd:=strKind prog w) (s:={ s with toks:=s.toks + 1 }) is rfl at_ small fun h' sb set=>k h' _ _ sb ?_)));refine SetOf_congr set (fun y=>?_) ?_
 ·simp [mem_append,Bool.decide_or]
 ·rw [yr]
  by_cases m:x ∈ done <;> simp [m]
theorem BK {S I l:aB} {its:List aA} {ls:List Str} (calm:A.handled=none) (SI:S≠I) (Sl:S≠l) (lI:l≠I) (txt:Paired (fun x v=>∃ t,v=Value.str x t) ls its) (small:ls.length + 1 < scanBound) {R:Result->aQ->Prop} : ∀ (todo done:List Str) (s:aQ),ls=done++todo->s.heap.IsListIter I l done.length->s.heap.IsList l its.toArray->s.heap.SetOf (strKind prog w) S (fun k=>decide (k ∈ done)) (iG done).length -> (∀ h' tk,(∀ b o,b≠S->b≠I->s.heap.get? b=some o->h'.get? b=some o)->h'.SetOf (strKind prog w) S (fun k=>decide (k ∈ ls)) (iG ls).length->R (.ok (.ret .none)) { s with heap:=h',toks:=tk }) -> codeAny (model prog w) A (.builtin "set.update.loop" ⟨[.ref S,.ref I],[]⟩) R s
 | [],done,s,e,it,li,at_,k=>by
  have e':ls=done:=by simpa using e
  have len:=txt.length;refine codeAny_builtin PyProof.Rows.F.entry_set_update_loop ?_;rw [Around.under_plainId PyProof.Rows.F.plain_set_update_loop _];refine aj (m:=pyNext (.ref I)) (wpAny_pyNext_list_end (by simpa using calm) it li (by rw [<- e']; simp [len]) fun h' ext=>?_);obtain ⟨o,es,ep,t,ho,more⟩:=at_;subst e';exact au (k h' s.toks (fun b o _ nI q=>ext b o nI q) ⟨o,es,ep,t,ext S o SI ho,more⟩)
 | x::todo,done,s,e,it,li,at_,k=>by
  have arO:done.length < ls.length:=by rw [e,aZ,length_cons]; omega
  have item:∃ t,its[done.length]?=some (Value.str x t):=by
   have at1:ls[done.length]?=some x:=by rw [e]; simp
   clear e it li at_ k arO small
   induction txt generalizing done with
   | nil=>simp at at1
   | @cons a b l₁ l₂ r rr ih =>
    cases done with
    | nil=>simp at at1; subst at1; obtain ⟨t,q⟩:=r; exact ⟨t,by simp [q]⟩
    | cons y ys=>exact ih ys (by simpa using at1)
  obtain ⟨t,item⟩:=item;have room:(iG done).length + 1 < scanBound:=by have:=zK done; omega
  refine codeAny_builtin PyProof.Rows.F.entry_set_update_loop ?_;rw [Around.under_plainId PyProof.Rows.F.plain_set_update_loop _];refine aj (m:=pyNext (.ref I)) (wpAny_pyNext_list_item it li (x:=Value.str x t) (by simpa using item) fun h' it' sb=>?_);obtain ⟨o,es,ep,tb,ho,more⟩:=at_;refine aj (wpAny_holding (RM (s:={ s with heap:=h' }) room ⟨o,es,ep,tb,(sb.2 S SI).trans ho,more⟩ fun g tk b sg set=>?_));refine au ⟨plainId_quiet PyProof.Rows.F.plain_set_update_loop _,BK calm SI Sl lI txt small todo (done++[x]) _ (by simp [e]) ?_ ?_ set fun g' tk' keep fin=>?_⟩
  ·rw [aZ];exact it'.at fun o q=>(sg.2 I (Ne.symm SI)).trans q
  ·exact (li.at fun o q=>(sb.2 l lI).trans q).at fun o q=>(sg.2 l (Ne.symm Sl)).trans q
  ·exact k g' tk' (fun b o nS nI q=>keep b o nS nI ((sg.2 b nS).trans ((sb.2 b nI).trans q))) fin
theorem xG {l:aB} {its:List aA} {ls:List Str} (calm:A.handled=none) (li:s.heap.IsList l its.toArray) (txt:Paired (fun x v=>∃ t,v=Value.str x t) ls its) (small:ls.length + 1 < scanBound) (k:∀ h' tk,h'.SetOf (strKind prog w) s.heap.objs.size (fun y=>decide (y ∈ ls)) (iG ls).length->(∀ b o,s.heap.get? b=some o->h'.get? b=some o)->Q (.ref s.heap.objs.size) { s with heap:=h',toks:=tk }) : wpAny (model prog w) A (call (Value.type "set") [Value.ref l]) Q E s:=by
 refine zL PySem.F.called_set (PySem.F.typeCall_set_1 _) (code_set_new_1 (.ref l) fun led=>?_)
 let o₀:Obj:={ cls:=.type "set",dict:=none,data:=.set #[] 0 (.fresh 0 0 led) }
 have there:(s.heap.push o₀).get? s.heap.objs.size=some o₀:=aJ s.heap rfl;have ty:Shared.TypeIs { s with heap:=s.heap.push o₀ } (.ref s.heap.objs.size) "set":=⟨o₀,there,rfl⟩;refine ⟨ty,codeAny_call_builtin PySem.F.called_set.init.plain PySem.F.entry_set_init (check_set_init_1 ty ?_)⟩;have lt:l < s.heap.objs.size:=by obtain ⟨o,q,_⟩:=li; exact Heap.lt_size q
 have li1:(s.heap.push o₀).IsList l its.toArray:=li.push o₀;obtain ⟨⟨c,d,dt,sl⟩,get,rfl,n,rfl⟩:=id li1;have arQ:=PySem.F.sub_list_set; have agB:=PySem.F.sub_list_frozenset;have notDict:(Value.type "list" == Value.type "dict")=false:=by decide
 unfold Builtin.«set.__init__»;unfold noKeywords;unfold Builtin.Frozenset.updateFrom;generalize Lf:pyIter=PI
 wp_walk
 subst Lf;refine wpAny_pyIter_list li1 (aj (wpAny_runValue ?_))
 let it₀:Obj:={ cls:=.type "list_iterator",data:=.fields #[.ref l,.int 0 0] }
 have Lg:(s.heap.push o₀).objs.size=s.heap.objs.size + 1:=Heap.size_push _ _;refine BK (its:=its) (ls:=ls) (by simpa using calm) (by rw [Lg]; exact Nat.ne_of_lt (Nat.lt_succ_self _)) (Nat.ne_of_gt lt) (by rw [Lg]; exact Nat.ne_of_lt (Nat.lt_succ_of_lt lt)) txt small ls [] _ rfl ⟨it₀,aJ _ rfl,rfl,rfl⟩ (li1.push it₀) ?_ fun h' tk keep fin=>?_
 ·exact SetOf_congr ((setObjOf_fresh (knd:=strKind prog w) led).setOf (ak it₀ there) (by unfold scanBound; omega)) (fun y=>by simp) (by simp [iG])
 ·refine au (show wpAny _ _ (ret Value.none) _ _ _ from au ⟨rfl,k h' tk fin fun b o q=>?_⟩);have below:=Heap.lt_size q;exact keep b o (Nat.ne_of_lt below) (by rw [Lg]; exact Nat.ne_of_lt (Nat.lt_succ_of_lt below)) (ak it₀ (ak o₀ q))
end
def vA (P:cA) (w:World) (a:aB) (n:Nat):HO:=.ext fun h=>∃ S,h.SetOf (strKind P w) a S n
theorem BL:∀ {ls:List Str} {us:List aA},Vals (ls.map V.str) us->Paired (fun x v=>∃ t,v=Value.str x t) ls us
 | [],_,r=>by cases r; exact .nil
 | x::ls,_,r=>by cases r with | cons r rr=>exact .cons r (BL rr)
section
variable {X:Cx}
theorem Je (hc:X.calm=true):gw X (.type "set") (fun xs H Q=>∃ p ls,xs=[.ref p]/\cD X.K H p (ls.map V.str)/\ls.length + 1 < scanBound/\∀ l,H l=none->Q (.ref l) (upd H l (vA X.prog X.w l (iG ls).length))):=by
 intro pins s σ H xs us Q I r h;obtain ⟨p,ls,rfl,hq,hb,q⟩:=h;obtain ⟨u,rfl,rx⟩:=Vals.one r;cases rx;obtain ⟨its,rv,pl,hz⟩:=I.list hq;refine xG (I.ok.hd hc) pl.isList (BL rv) hb fun h' tk hS hk=>?_
 refine ⟨.ref s.heap.objs.size,_,I.laid (a:=s.heap.objs.size) (o:=vA X.prog X.w s.heap.objs.size (iG ls).length) hk (aN _) ?_,rfl,q _ (I.hok.fresh (aN _))⟩;obtain ⟨o,es,ep,t,ho,rest⟩:=id hS;refine ⟨⟨_,hS⟩,⟨o,ho⟩,fun h1 h2 p k=>?_⟩;obtain ⟨S,o,es,ep,t,ho,rest⟩:=p;exact ⟨S,o,es,ep,t,k o ho,rest⟩
theorem Jf:gw X (.builtin "len") (fun xs H Q=>∃ p n,xs=[.ref p]/\H p=some (vA X.prog X.w p n)/\Q (.int n) H):=by
 intro pins s σ H xs us Q I r h;obtain ⟨p,n,rfl,e,q⟩:=h;obtain ⟨u,rfl,rx⟩:=Vals.one r;cases rx;obtain ⟨⟨S,o,es,ep,t,ho,hex,hd,hel,hm,hb,hf,hn⟩,_⟩:=(show eE X.prog X.w H s.heap p (vA X.prog X.w p n) from I.hok p _ e);subst hn;refine call_len_set ho hex hd hf (by unfold scanBound at hb; omega) ⟨.int es.size,H,I.tok _,⟨_,rfl⟩,q⟩
end
def ai8 (fp:List aB) (P:Heap->Prop):Prop:=∀ h h',P h->(∀ b ∈ fp,∀ o,h.get? b=some o->h'.get? b=some o)->P h'
def Ez (h:Heap) (e:aB):Prop:=∃ o,h.get? e=some o/\o.cls=.type "StopIteration"
noncomputable def Draws (prog:cA) (w:World) (A:c7) (it:aB) (P:Heap->Prop) (x:aA) (P':Heap->Prop):Prop := ∀ (s:aQ) (Q:aA->aQ->Prop) (E:aA->aQ->Prop),P s.heap->(∀ h',P' h'->Heap.SameBut it s.heap h'->Q x { s with heap:=h' })->wpAny (model prog w) A (Builtin.SmallTypes.nextOf (.ref it)) Q E s
noncomputable def ai9 (prog:cA) (w:World) (A:c7) (it:aB) (P:Heap->Prop):Prop := ∀ (s:aQ) (Q:aA->aQ->Prop) (E:aA->aQ->Prop),P s.heap->(∀ h' e,Heap.ExtBut it s.heap h'->Ez h' e->E (.ref e) { s with heap:=h' })->wpAny (model prog w) A (Builtin.SmallTypes.nextOf (.ref it)) Q E s
inductive Over (h:Heap) (it l:aB) (xs:Array aA) (k:Nat):Bool->Prop
 | lst (a:h.IsListIter it l k) (b:h.IsList l xs):Over h it l xs k false
 | tup (a:h.IsTupleIter it l k) (b:h.IsTuple l xs):Over h it l xs k true
section
variable {prog:cA} {w:World} {A:c7} {it l:aB} {xs:Array aA} {k:Nat} {tu:Bool}
theorem eZ:ai8 [it,l] (fun h=>Over h it l xs k tu):=fun h h' o keep=>by
 have k1:=keep it (by simp);have k2:=keep l (by simp);cases o with
 | lst a b=>exact .lst (a.at k1) (b.at k2)
 | tup a b =>
  obtain ⟨o1,q1,r1⟩:=a;obtain ⟨o2,q2,r2⟩:=b;exact .tup ⟨o1,k1 o1 q1,r1⟩ ⟨o2,k2 o2 q2,r2⟩
theorem Over.Lh {h:Heap} (o:Over h it l xs k tu):∃ ob,h.get? it=some ob:=by
 cases o with
 | lst a _=>obtain ⟨ob,q,_⟩:=a; exact ⟨ob,q⟩
 | tup a _=>obtain ⟨ob,q,_⟩:=a; exact ⟨ob,q⟩
theorem kJ {s:aQ} {Q:aA->aQ->Prop} {E:aA->aQ->Prop} {o:Obj} (at_:s.heap.get? it=some o) (c:o.cls=.type "tuple_iterator") (lJ:o.data=.fields #[.ref l,.int k 0]) {ol:Obj} {n:Nat} (sq:s.heap.get? l=some ol) (its:ol.data=.seq xs n) : (∀ x,xs[k]?=some x->(∀ h',h'.IsTupleIter it l (k + 1)->Heap.SameBut it s.heap h'->Q x { s with heap:=h' })->wpAny (model prog w) A (Builtin.SmallTypes.nextOf (.ref it)) Q E s) /\ (xs[k]?=none->A.handled=none->(∀ h' e,Heap.ExtBut it s.heap h'->Ez h' e->E (.ref e) { s with heap:=h' })->wpAny (model prog w) A (Builtin.SmallTypes.nextOf (.ref it)) Q E s):=by
 have ty:s.TypeIs (.ref it) "tuple_iterator":=⟨o,at_,c⟩;have BP:¬ (Value.ref l == Value.none)=true:=Bool.false_ne_true;constructor
 ·intro x hx q;have Ve:=Obj.data_mapFields lJ fun v=>v.setIfInBounds 1 (rawInt ((k:Int) + 1))
  refine aj (wpAny_callSpecial?_slot (name:=Str.ofString "__next__") ty PySem.F.slot_tuple_iterator_next (wpAny_call_entry PySem.F.slot_tuple_iterator_next ty PySem.F.entry_tuple_iterator_next ?_ (PySem.F.args_tuple_iterator_next_1 _)));refine aj (m:=field (.ref it) 0) (wpAny_field at_ lJ (x:=.ref l) rfl ?_);rw [if_neg BP];refine aj (m:=field (.ref it) 1) (wpAny_field at_ lJ (x:=.int k 0) rfl (aj (m:=seqItems? (.ref l)) (wpAny_seqItems sq its ?_)));simp only [show ((k:Int)).toNat=k from Int.toNat_natCast k,hx];refine aj (wpAny_setField at_ lJ (by simp) (au ⟨x,rfl,au (q _ ⟨_,Heap.get?_update_self _ at_ (Obj.isFreed_of_fields Ve),(Obj.cls_mapFields ..).trans c,?_⟩ (Heap.SameBut.update ..))⟩));rw [Ve]; simp [rawInt]
 ·intro hx calm q;refine aj (wpAny_callSpecial?_slot (name:=Str.ofString "__next__") ty PySem.F.slot_tuple_iterator_next (wpAny_call_entry PySem.F.slot_tuple_iterator_next ty PySem.F.entry_tuple_iterator_next ?_ (PySem.F.args_tuple_iterator_next_1 _)));refine aj (m:=field (.ref it) 0) (wpAny_field at_ lJ (x:=.ref l) rfl ?_);rw [if_neg BP];refine aj (m:=field (.ref it) 1) (wpAny_field at_ lJ (x:=.int k 0) rfl (aj (m:=seqItems? (.ref l)) (wpAny_seqItems sq its ?_)));simp only [show ((k:Int)).toNat=k from Int.toNat_natCast k,hx];refine aj (wpAny_rule (aj (wpAny_setField at_ lJ (by simp) (aj (m:=newExc (.type "StopIteration") []) ?_))));simp only [newExc,newTuple];refine aj (wpAny_newObj_type (aj (m:=firstArgMember _ _) (wpAny_of_eq (a:=Value.none) (by first | rfl | (simp only [firstArgMember]; rfl)) (wpAny_newObj_type ?_ (by size_fits)))) (by size_fits));exact wpAny_raiseNew_none (show A.in1.handled=none from calm) (q _ _ (((Heap.SameBut.update ..).extBut.push _).push _) ⟨_,aJ _ rfl,rfl⟩)
theorem lK {x:aA} (ne:l≠it) (hx:xs[k]?=some x):Draws prog w A it (fun h=>Over h it l xs k tu) x (fun h=>Over h it l xs (k + 1) tu):=by
 intro s Q E o q;cases o with
 | lst a b=>exact wpAny_nextOf_list_item a b hx fun h' a' sb=>q h' (.lst a' (b.at fun _ z=>(sb.2 l ne).trans z)) sb
 | tup a b =>
  obtain ⟨ob,z,c,d⟩:=a;obtain ⟨ol,y,r,n,its⟩:=b;exact (kJ z c d y its).1 x hx fun h' a' sb=>q h' (.tup a' ⟨ol,(sb.2 l ne).trans y,r,n,its⟩) sb
theorem oE (hx:xs[k]?=none) (calm:A.handled=none):ai9 prog w A it (fun h=>Over h it l xs k tu):=by
 intro s Q E o q;cases o with
 | lst a b=>exact wpAny_nextOf_list_end calm a b hx q
 | tup a b =>
  obtain ⟨ob,z,c,d⟩:=a;obtain ⟨ol,y,_,n,its⟩:=b;exact (kJ z c d y its).2 hx calm q
end
structure gW (z ti to a b l m:aB):Prop where
 own:[z,to,a,b].Nodup
 tis:ti ∉ [z,to,a,b]
 ls:l ∉ [z,to,a,b]
 ms:m ∉ [z,to,a,b]
section
variable {prog:cA} {w:World} {A:c7} {E:aA->aQ->Prop} {s:aQ} {z ti to a b l m:aB} {xs ys:Array aA} {i j:Nat} {u v:aA} {t1 t2:Bool}
theorem gW.ne (D:gW z ti to a b l m):to≠z/\a≠z/\b≠z/\a≠to/\b≠to/\b≠a:=by
 have:=D.own;simp only [nodup_cons,aO,not_mem_nil,or_false,not_or] at this;obtain ⟨⟨h1,h2,h3⟩,⟨h4,h5⟩,h6,_⟩:=this;exact ⟨Ne.symm h1,Ne.symm h2,Ne.symm h3,Ne.symm h4,Ne.symm h5,Ne.symm h6⟩
theorem four {c x y p q:aB} (h:c ∉ [x,y,p,q]):c≠x/\c≠y/\c≠p/\c≠q:=by simpa using h
def BR (z to a b:aB) (h h':Heap):Prop:=∀ c o,c ∉ [z,to,a,b]->h.get? c=some o->h'.get? c=some o
structure jP (t1 t2:Bool) (z ti to a b l m:aB) (xs ys:Array aA) (f:aA) (i j:Nat) (h:Heap):Prop where
 cell:IsZip h z ti to f
 its:IsPair h ti (.ref a) (.ref b)
 kept:∃ u v,IsPair h to u v
 one:Over h a l xs i t1
 two:Over h b m ys j t2
theorem jP.moved {f f':aA} {h h':Heap} {i' j':Nat} (Z:jP t1 t2 z ti to a b l m xs ys f i j h) (D:gW z ti to a b l m) (past:BR z to a b h h') (r:IsZip h' z ti to f') (k:∃ u v,IsPair h' to u v) (o:Over h' a l xs i' t1) (t:Over h' b m ys j' t2) : jP t1 t2 z ti to a b l m xs ys f' i' j' h':=⟨r,past ti _ D.tis Z.its,k,o,t⟩
theorem vB {t:aB} {n:Nat} {x:aA} {Q:Unit->aQ->Prop} (P:IsPair s.heap t u v) (k:∀ h',h'.get? t=some { cls:=.type "tuple",data:=.seq ((#[u,v]:Array aA).setIfInBounds n x) }->Heap.SameBut t s.heap h'->Q () { s with heap:=h' }) : wpAny (model prog w) A (updateSeq t (·.setIfInBounds n x)) Q E s:=wpAny_updateSeq_pair P k
theorem BW {x y:aA} {Q:Option aA->aQ->Prop} (D:gW z ti to a b l m) (Z:jP t1 t2 z ti to a b l m xs ys .none i j s.heap) (hx:xs[i]?=some x) (hy:ys[j]?=some y) (k:∀ h',jP t1 t2 z ti to a b l m xs ys (rawInt s.heap.objs.size) (i + 1) (j + 1) h'->IsPair h' s.heap.objs.size x y->BR z to a b s.heap h'->Q (some (.ref s.heap.objs.size)) { s with heap:=h' }):wpAny (model prog w) A (pyNext (.ref z)) Q E s:=by
 obtain ⟨RN,az,bz,ato,bto,ba⟩:=D.ne;obtain ⟨lz,lto,la,lb⟩:=four D.ls;obtain ⟨mz,mto,ma,mb⟩:=four D.ms;obtain ⟨cell,its,⟨u,v,kept⟩,one,two⟩:=id Z;have ty:s.TypeIs (.ref z) "zip":=⟨_,cell,rfl⟩;refine aj (wpAny_attempt (wpAny_callSpecial?_slot (name:=Str.ofString "__next__") ty PySem.F.slot_zip_next (wpAny_call_entry PySem.F.slot_zip_next ty PySem.F.entry_zip_next ?_ (PySem.F.args_zip_next_1 _))));refine aj (m:=field (.ref z) 2) (wpAny_field cell rfl (x:=.bool false) rfl (aj (m:=field (.ref z) 3) (wpAny_field cell rfl (x:=.ref ti) rfl (aj (wpAny_seqItems its rfl ?_)))));refine aj (m:=Builtin.SmallTypes.ownedTupleIsFree (.ref z)) (aj (m:=field (.ref z) 0) (wpAny_field cell rfl (x:=.none) rfl (au ?_)));simp only [if_true];refine aj (wpAny_rule (aj (wpAny_field cell rfl (x:=.ref to) rfl (aj (wpAny_setField_rec cell (by simp) fun h1 G5 s1=>aj ?_)))));simp only [List.forIn_nil,List.forIn_cons,List.zipIdx_nil,List.zipIdx_cons];refine aj (aj (wpAny_onRaise (aj (m:=Builtin.SmallTypes.nextOf (.ref a)) (lK la hx { s with heap:=h1 } _ _ (eZ _ _ one fun c hc o q=>s1.extBut c o ?_ q) fun h2 ajb s2=>au ?_))))
 ·rcases aO.mp hc with e | e
  ·exact e ▸ az
  ·exact aP.mp e ▸ lz
 have kept2:IsPair h2 to u v:=s2.extBut _ _ (Ne.symm ato) (s1.extBut _ _ RN kept);refine aj (wpAny_seqItems kept2 rfl (aj (vB (s:={ s with heap:=h2 }) kept2 fun h3 G6 s3=>aj (wpAny_letGo (au ?_)))));have G6:IsPair h3 to x v:=G6;have acn:Over h3 b m ys j t2:=eZ _ _ two fun c hc o q=>by
  have cz:c≠z/\c≠a/\c≠to:=by
   rcases aO.mp hc with e | e
   ·exact e ▸ ⟨bz,ba,bto⟩
   ·exact aP.mp e ▸ ⟨mz,ma,mto⟩
  exact s3.extBut c o cz.2.2 (s2.extBut c o cz.2.1 (s1.extBut c o cz.1 q))
 refine aj (aj (wpAny_onRaise (aj (m:=Builtin.SmallTypes.nextOf (.ref b)) (lK mb hy { s with heap:=h3 } _ _ acn fun h4 arR s4=>au ?_))));have Vf:IsPair h4 to x v:=s4.extBut _ _ (Ne.symm bto) G6;refine aj (wpAny_seqItems Vf rfl (aj (vB (s:={ s with heap:=h4 }) Vf fun h5 G7 s5=>aj (wpAny_letGo (au (au ?_))))));have G7:IsPair h5 to x y:=G7;refine aj (wpAny_seqItems G7 rfl (aj (wpAny_newTuple (aj ?_))));have Li:h5.objs.size=s.heap.objs.size:=by rw [s5.1,s4.1,s3.1,s2.1,s1.1]
 have Vg:IsZip h5 z ti to .ellipsis:=s5.extBut _ _ (Ne.symm RN) (s4.extBut _ _ (Ne.symm bz) (s3.extBut _ _ (Ne.symm RN) (s2.extBut _ _ (Ne.symm az) G5)));have Vh:BR z to a b s.heap h5:=fun c o out q=>by
  obtain ⟨c1,c2,c3,c4⟩:=four out;exact s5.extBut c o c2 (s4.extBut c o c4 (s3.extBut c o c2 (s2.extBut c o c3 (s1.extBut c o c1 q))))
 have arS:Over h5 a l xs (i + 1) t1:=eZ _ _ ajb fun c hc o q=>by
  have cz:c≠to/\c≠b:=by
   rcases aO.mp hc with e | e
   ·exact e ▸ ⟨ato,Ne.symm ba⟩
   ·exact aP.mp e ▸ ⟨lto,lb⟩
  exact s5.extBut c o cz.1 (s4.extBut c o cz.2 (s3.extBut c o cz.1 q))
 have arT:Over h5 b m ys (j + 1) t2:=eZ _ _ arR fun c hc o q=>by
  refine s5.extBut c o ?_ q;rcases aO.mp hc with e | e
  ·exact e ▸ bto
  ·exact aP.mp e ▸ mto
 let pr:Obj:={ cls:=.type "tuple",data:=.seq #[x,y] }
 have zlt:=Heap.lt_size Vg;refine (?_:wpAny _ _ (Builtin.SmallTypes.ownedTupleHandOut (.ref z) (.ref h5.objs.size)) _ _ _);refine aj (wpAny_setField_rec (ak pr Vg) (by simp) fun h6 ajc s6=>wpAny_setField_rec (s:={ s with heap:=h6 }) ajc (by simp) fun h7 ajd s7=>?_);have up:∀ c o,c≠z->h5.get? c=some o->h7.get? c=some o:=fun c o nz q=>s7.extBut c o nz (s6.extBut c o nz (ak pr q))
 have fresh:h7.get? h5.objs.size=some pr:=s7.extBut _ _ (Nat.ne_of_gt zlt) (s6.extBut _ _ (Nat.ne_of_gt zlt) (aJ h5 rfl));refine au ⟨_,rfl,au ?_⟩;rw [Li] at fresh
 show Q (some (.ref h5.objs.size)) _
 rw [Li];refine k h7 (Z.moved D (fun c o out q=>up c o (four out).1 (Vh c o out q)) ?_ ⟨x,y,up _ _ RN G7⟩ (eZ _ _ arS fun c hc o q=>up c o ?_ q) (eZ _ _ arT fun c hc o q=>up c o ?_ q)) fresh fun c o out q=>up c o (four out).1 (Vh c o out q)
 ·have:=ajd;rw [Li] at this;exact this
 ·rcases aO.mp hc with e | e
  ·exact e ▸ az
  ·exact aP.mp e ▸ lz
 ·rcases aO.mp hc with e | e
  ·exact e ▸ bz
  ·exact aP.mp e ▸ mz
theorem BX {Q:Option aA->aQ->Prop} (calm:A.handled=none) (D:gW z ti to a b l m) (Z:jP t1 t2 z ti to a b l m xs ys .none i j s.heap) (hend:xs[i]?=none\/(∃ x,xs[i]?=some x)/\ys[j]?=none) (k:∀ h',BR z to a b s.heap h'->Q none { s with heap:=h' }):wpAny (model prog w) A (pyNext (.ref z)) Q E s:=by
 obtain ⟨RN,az,bz,ato,bto,ba⟩:=D.ne;obtain ⟨lz,lto,la,lb⟩:=four D.ls;obtain ⟨mz,mto,ma,mb⟩:=four D.ms;obtain ⟨cell,its,⟨u,v,kept⟩,one,two⟩:=id Z;have ty:s.TypeIs (.ref z) "zip":=⟨_,cell,rfl⟩;have Vi:A.in1.handled=none:=calm;have over:∀ (h':Heap) (e:aB),BR z to a b s.heap h'->Ez h' e ->
   wpAny (model prog w) A (do if <- isInstance (.ref e) (.type "StopIteration") then pure none else throw (.ref e)) Q E { s with heap:=h' }:=fun h' e past st=>by
  obtain ⟨o,q,c⟩:=st;exact aj (wpAny_isInstance (T:="StopIteration") (b:=true) ⟨o,q,c⟩ isSubtype_stop (au (k h' past)))
 refine aj (wpAny_attempt (wpAny_callSpecial?_slot (name:=Str.ofString "__next__") ty PySem.F.slot_zip_next (wpAny_call_entry PySem.F.slot_zip_next ty PySem.F.entry_zip_next ?_ (PySem.F.args_zip_next_1 _))));refine aj (m:=field (.ref z) 2) (wpAny_field cell rfl (x:=.bool false) rfl (aj (m:=field (.ref z) 3) (wpAny_field cell rfl (x:=.ref ti) rfl (aj (wpAny_seqItems its rfl ?_)))));refine aj (m:=Builtin.SmallTypes.ownedTupleIsFree (.ref z)) (aj (m:=field (.ref z) 0) (wpAny_field cell rfl (x:=.none) rfl (au ?_)));simp only [if_true];refine aj (wpAny_rule (aj (wpAny_field cell rfl (x:=.ref to) rfl (aj (wpAny_setField_rec cell (by simp) fun h1 G5 s1=>aj ?_)))));simp only [List.forIn_nil,List.forIn_cons,List.zipIdx_nil,List.zipIdx_cons];have aje:Over h1 a l xs i t1:=eZ _ _ one fun c hc o q=>s1.extBut c o (by
  rcases aO.mp hc with e | e
  ·exact e ▸ az
  ·exact aP.mp e ▸ lz) q
 rcases hend with ajf | ⟨⟨x,hx⟩,ajg⟩
 ·refine aj (aj (wpAny_onRaise (aj (m:=Builtin.SmallTypes.nextOf (.ref a)) (oE ajf Vi { s with heap:=h1 } _ _ aje fun h2 e s2 st=>?_))));have Vj:IsZip h2 z ti to .ellipsis:=s2 _ _ (Ne.symm az) G5;obtain ⟨oe,qe,ce⟩:=st;have ez:e≠z:=fun y=>by rw [y,Vj] at qe; cases qe; simp at ce
  refine wpAny_setField_rec (s:={ s with heap:=h2 }) Vj (by simp) fun h3 _ s3=>over h3 e (fun c o out q=>?_) ⟨oe,s3.extBut _ _ ez qe,ce⟩
  exact s3.extBut c o (four out).1 (s2 c o (four out).2.2.1 (s1.extBut c o (four out).1 q))
 ·refine aj (aj (wpAny_onRaise (aj (m:=Builtin.SmallTypes.nextOf (.ref a)) (lK la hx { s with heap:=h1 } _ _ aje fun h2 ajb s2=>au ?_))));have kept2:IsPair h2 to u v:=s2.extBut _ _ (Ne.symm ato) (s1.extBut _ _ RN kept);refine aj (wpAny_seqItems kept2 rfl (aj (vB (s:={ s with heap:=h2 }) kept2 fun h3 G6 s3=>aj (wpAny_letGo (au ?_)))));have acn:Over h3 b m ys j t2:=eZ _ _ two fun c hc o q=>by
   have cz:c≠z/\c≠a/\c≠to:=by
    rcases aO.mp hc with e | e
    ·exact e ▸ ⟨bz,ba,bto⟩
    ·exact aP.mp e ▸ ⟨mz,ma,mto⟩
   exact s3.extBut c o cz.2.2 (s2.extBut c o cz.2.1 (s1.extBut c o cz.1 q))
  refine aj (aj (wpAny_onRaise (aj (m:=Builtin.SmallTypes.nextOf (.ref b)) (oE ajg Vi { s with heap:=h3 } _ _ acn fun h4 e s4 st=>?_))));have Vk:IsZip h4 z ti to .ellipsis:=s4 _ _ (Ne.symm bz) (s3.extBut _ _ (Ne.symm RN) (s2.extBut _ _ (Ne.symm az) G5));obtain ⟨oe,qe,ce⟩:=st;have ez:e≠z:=fun y=>by rw [y,Vk] at qe; cases qe; simp at ce
  refine wpAny_setField_rec (s:={ s with heap:=h4 }) Vk (by simp) fun h5 _ s5=>over h5 e (fun c o out q=>?_) ⟨oe,s5.extBut _ _ ez qe,ce⟩
  obtain ⟨c1,c2,c3,c4⟩:=four out;exact s5.extBut c o c1 (s4 c o c4 (s3.extBut c o c2 (s2.extBut c o c3 (s1.extBut c o c1 q))))
theorem yt {elts:List Expr} {k:Nat} {pos:Pos} {T:aB} {Q:Unit->aQ->Prop} (D:gW z ti to a b l m) (Z:jP t1 t2 z ti to a b l m xs ys (rawInt T) i j s.heap) (q:∀ h',jP t1 t2 z ti to a b l m xs ys .none i j h'->Heap.SameBut z s.heap h'->Q () { s with heap:=h' }):wpAny (model prog w) A (letOwnedTupleGo (.Tuple elts k pos) (.ref z) (.ref T)) Q E s:=by
 obtain ⟨RN,az,bz,ato,bto,ba⟩:=D.ne;obtain ⟨u,v,kept⟩:=Z.kept;refine wpAny_letOwnedTupleGo_zip Z.cell fun h' cell' sb=>q h' (Z.moved D (fun c o out y=>sb.extBut c o (four out).1 y) cell' ⟨u,v,sb.extBut _ _ RN kept⟩ (eZ _ _ Z.one fun c hc o y=>sb.extBut c o ?_ y) (eZ _ _ Z.two fun c hc o y=>sb.extBut c o ?_ y)) sb
 ·rcases aO.mp hc with e | e
  ·exact e ▸ az
  ·exact aP.mp e ▸ (four D.ls).1
 ·rcases aO.mp hc with e | e
  ·exact e ▸ bz
  ·exact aP.mp e ▸ (four D.ms).1
def rO (l:aB):Obj:={ cls:=.type "tuple_iterator",data:=.fields #[.ref l,.int 0 0] }
def zip2 (m:aB):Obj:={ cls:=.type "list_iterator",data:=.fields #[.ref m,.int 0 0] }
def pairOf (u v:aA):Obj:={ cls:=.type "tuple",data:=.seq #[u,v] }
def RP (ti to:aB):Obj:={ cls:=.type "zip",data:=.fields #[.none,.bool false,.bool false,.ref ti,.ref to] }
def lM (h:Heap) (l m:aB):Heap := ((((h.push (rO l)).push (zip2 m)).push (pairOf (.ref h.objs.size) (.ref (h.objs.size + 1)))).push (pairOf .none .none)).push (RP (h.objs.size + 2) (h.objs.size + 3))
theorem xH (l m:aB) (xs ys:Array aA):Meets (Builtin.«zip.__new__» ⟨[.type "zip",.ref l,.ref m],[]⟩) (fun _ R s=>s.heap.IsTuple l xs/\s.heap.IsList m ys/\R (.ok (.ret (.ref (s.heap.objs.size + 4)))) { s with heap:=lM s.heap l m }) := .of_wp fun prog w A R s h=>by
 obtain ⟨hp,g,d,tk,os⟩:=s; obtain ⟨q1,q2,r⟩:=h; have sub:=sub_zip;have Lj:Heap.IsTuple (Shared.heap ⟨hp,g,d,tk,os⟩) l xs:=q1;have q2':Heap.IsList (Shared.heap ⟨hp.push { cls:=.type "tuple_iterator",data:=.fields #[.ref l,.int 0 0] },g,d,tk,os⟩) m ys:=Heap.IsList.push q2 _
 wp_walk using wpAny_pyIter_tuple Lj,wpAny_pyIter_list q2'
 refine ⟨_,rfl,?_⟩;simp only [Heap.size_push];exact r
theorem Lk {Q:aA->aQ->Prop} (q1:s.heap.IsTuple l xs) (q2:s.heap.IsList m ys) (k:∀ h',gW (s.heap.objs.size + 4) (s.heap.objs.size + 2) (s.heap.objs.size + 3) s.heap.objs.size (s.heap.objs.size + 1) l m -> jP true false (s.heap.objs.size + 4) (s.heap.objs.size + 2) (s.heap.objs.size + 3) s.heap.objs.size (s.heap.objs.size + 1) l m xs ys .none 0 0 h'->(∀ c o,s.heap.get? c=some o->h'.get? c=some o)->Q (.ref (s.heap.objs.size + 4)) { s with heap:=h' }) : wpAny (model prog w) A (call (.type "zip") [.ref l,.ref m]) Q E s:=by
 have K8:l < s.heap.objs.size:=by obtain ⟨o,q,_⟩:=q1; exact Heap.lt_size q
 have Bv:m < s.heap.objs.size:=by obtain ⟨o,q,_⟩:=q2; exact Heap.lt_size q
 have old:∀ c o,s.heap.get? c=some o->(lM s.heap l m).get? c=some o:=fun c o q=>ak _ (ak _ (ak _ (ak _ (ak _ q))))
 have z1:(s.heap.push (rO l)).objs.size=s.heap.objs.size + 1:=Heap.size_push _ _;have z2:((s.heap.push (rO l)).push (zip2 m)).objs.size=s.heap.objs.size + 2:=by rw [Heap.size_push,z1]
 have z3:(((s.heap.push (rO l)).push (zip2 m)).push (pairOf (.ref s.heap.objs.size) (.ref (s.heap.objs.size + 1)))).objs.size=s.heap.objs.size + 3:=by rw [Heap.size_push,z2]
 have z4:((((s.heap.push (rO l)).push (zip2 m)).push (pairOf (.ref s.heap.objs.size) (.ref (s.heap.objs.size + 1)))).push (pairOf .none .none)).objs.size=s.heap.objs.size + 4:=by rw [Heap.size_push,z3]
 have g1:(lM s.heap l m).get? s.heap.objs.size=some (rO l):=ak _ (ak _ (ak _ (ak _ (aJ _ rfl))));have g2:(lM s.heap l m).get? (s.heap.objs.size + 1)=some (zip2 m):=by rw [<- z1]; exact ak _ (ak _ (ak _ (aJ _ rfl)))
 have g3:(lM s.heap l m).get? (s.heap.objs.size + 2)=some (pairOf (.ref s.heap.objs.size) (.ref (s.heap.objs.size + 1))):=by rw [<- z2]; exact ak _ (ak _ (aJ _ rfl))
 have g4:(lM s.heap l m).get? (s.heap.objs.size + 3)=some (pairOf .none .none):=by rw [<- z3]; exact ak _ (aJ _ rfl)
 have g5:(lM s.heap l m).get? (s.heap.objs.size + 4)=some (RP (s.heap.objs.size + 2) (s.heap.objs.size + 3)):=by rw [<- z4]; exact aJ _ rfl
 refine callType_new PySem.F.called_zip (by decide) (PySem.F.typeCall_zip_2 _ _) (PySem.F.newCall_zip_2 _ _) (fun obj=>PySem.F.args_object_init_3 obj _ _) PySem.F.entry_zip_new (xH l m xs ys) ⟨q1,q2,⟨_,g5,rfl⟩,k _ ?_ ?_ old⟩
 ·have n1:∀ i j:Nat,i≠j->s.heap.objs.size + i≠s.heap.objs.size + j:=fun i j h e=>h (Nat.add_left_cancel e)
  have out:∀ c,c < s.heap.objs.size->∀ i:Nat,c≠s.heap.objs.size + i:=fun c h i=>Nat.ne_of_lt (aY h (Nat.le_add_right _ _))
  refine ⟨?_,?_,?_,?_⟩
  ·simp only [nodup_cons,aO,not_mem_nil,or_false,not_or,not_false_eq_true,List.nodup_nil,and_true];exact ⟨⟨n1 4 3 (by decide),n1 4 0 (by decide),n1 4 1 (by decide)⟩,⟨n1 3 0 (by decide),n1 3 1 (by decide)⟩,n1 0 1 (by decide)⟩
  ·simp only [aO,not_mem_nil,or_false,not_or];exact ⟨n1 2 4 (by decide),n1 2 3 (by decide),n1 2 0 (by decide),n1 2 1 (by decide)⟩
  ·simp only [aO,not_mem_nil,or_false,not_or];exact ⟨out l K8 4,out l K8 3,out l K8 0,out l K8 1⟩
  ·simp only [aO,not_mem_nil,or_false,not_or];exact ⟨out m Bv 4,out m Bv 3,out m Bv 0,out m Bv 1⟩
 ·obtain ⟨o1,y1,r1⟩:=q1;obtain ⟨o2,y2,r2⟩:=q2;exact ⟨g5,g3,⟨_,_,g4⟩,.tup ⟨_,g1,rfl,rfl⟩ ⟨o1,old _ _ y1,r1⟩,.lst ⟨_,g2,rfl,rfl⟩ ⟨o2,old _ _ y2,r2⟩⟩
end
section
variable {X:Cx} {pins:List (aB × Obj)} {σ:St} {H:Hp} {s:aQ}
theorem Inv.drawn {h':Heap} {t':Nat} {T:aB} {o:HO} {ch:List aB} (I:Inv X pins σ H s) (hch:∀ b ∈ ch,kh X pins H b) (keep:∀ b ob,b ∉ ch->s.heap.get? b=some ob->h'.get? b=some ob) (fr:s.heap.get? T=none) (new:eE X.prog X.w (upd H T o) h' T o):Inv X pins σ (upd H T o) { s with heap:=h',toks:=t' }:=by
 have hT:H T=none:=I.hok.none_of fr;have nT:∀ b u,H b=some u->b≠T:=fun b u e z=>by rw [z,hT] at e; cases e
 have Ky:∀ b u,H b=some u->b ∉ ch:=fun b u e z=>by rw [(hch b z).1] at e; cases e
 refine I.call (ch:=ch) (g':=s.gens) (d':=s.drawn) ⟨fun b ob e _ _ hx=>keep b ob hx e,fun b ob e _ _ hx=>⟨ob.slots,keep b ob hx e⟩,fun b ob e n hx=>?_,fun b ob e hx=>⟨ob,keep b ob hx e⟩,fun b xs e=>?_,fun b ob xs e=>?_,fun b ps e=>⟨#[],?_⟩⟩ (fun c u e=>?_) I.bare fun b hb=>⟨(hch b hb).2.2.2.1,(hch b hb).2.1,(hch b hb).2.2.2.2.1,(hch b hb).2.2.2.2.2⟩
 ·rw [bx (fun z=>by rw [z,fr] at e; cases e)]; exact n
 ·rw [bx (nT _ _ e)]; exact e
 ·rw [bx (nT _ _ e)]; exact e
 ·rw [bx (nT _ _ e),e]; simp
 ·by_cases z:c=T
  ·subst z; rw [aD] at e; cases e; exact new
  ·rw [bx z] at e;refine (I.hok c u e).stay (fun d v hd q=>keep d v ?_ q) (fun d q=>by rw [bx (nT _ _ q)]; exact q) fun d xs q=>by rw [bx (nT _ _ q)]; exact q
   rcases hd with y | y
   ·rw [y]; exact Ky c u e
   ·exact Ky d _ y
theorem Inv.turns {h':Heap} {t':Nat} {ch:List aB} (I:Inv X pins σ H s) (hch:∀ b ∈ ch,kh X pins H b) (keep:∀ b ob,b ∉ ch->s.heap.get? b=some ob->h'.get? b=some ob):Inv X pins σ H { s with heap:=h',toks:=t' }:=by
 have Ky:∀ b u,H b=some u->b ∉ ch:=fun b u e z=>by rw [(hch b z).1] at e; cases e
 refine I.call (ch:=ch) (g':=s.gens) (d':=s.drawn) ⟨fun b ob e _ _ hx=>keep b ob hx e,fun b ob e _ _ hx=>⟨ob.slots,keep b ob hx e⟩,fun b ob e n hx=>n,fun b ob e hx=>⟨ob,keep b ob hx e⟩,fun b xs e=>e,fun b ob xs e=>e,fun b ps e=>⟨#[],by rw [e]; simp⟩⟩ (fun c u e=>?_) I.bare fun b hb=>⟨(hch b hb).2.2.2.1,(hch b hb).2.1,(hch b hb).2.2.2.2.1,(hch b hb).2.2.2.2.2⟩
 refine (I.hok c u e).stay (fun d v hd q=>keep d v ?_ q) (fun d q=>q) fun d xs q=>q
 rcases hd with y | y
 ·rw [y]; exact Ky c u e
 ·exact Ky d _ y
end
theorem zM:2<=sizeLine:=by decide
noncomputable def Itz (K:Fg) (l m:aB):It := ⟨fun i H=>∃ xs ys x y,dM K H l xs/\cD K H m ys/\xs[i]?=some x/\ys[i]?=some y,fun i H v H'=>∃ T,H T=none/\v=.ref T/\∀ xs ys x y,dM K H l xs->cD K H m ys->xs[i]?=some x->ys[i]?=some y->H'=upd H T (.tup [x,y]),fun i H=>∃ xs ys,dM K H l xs/\cD K H m ys/\(xs.length<=i\/ys.length<=i)⟩
structure aco (z ti to a b l m:aB) (i:Nat) (h:Heap):Prop where
 cell:IsZip h z ti to .none
 its:IsPair h ti (.ref a) (.ref b)
 kept:∃ u v,IsPair h to u v
 one:h.IsTupleIter a l i
 two:h.IsListIter b m i
theorem Ln {P:cA} {w:World} {K:Fg} {elts:List Expr} {k:Nat} {pos:Pos} {z ti to a b l m:aB} (D:gW z ti to a b l m):Turn P w K (.Tuple elts k pos) (Itz K l m) [z,ti,to,a,b] z (aco z ti to a b l m) where
 mem:=by simp
 obj:=fun i h R c hc=>by
  obtain ⟨u,v,kept⟩:=R.kept;obtain ⟨o1,q1,_,d1⟩:=R.one;obtain ⟨o2,q2,_,d2⟩:=R.two;simp only [aO,not_mem_nil,or_false] at hc;rcases hc with rfl | rfl | rfl | rfl | rfl
  ·exact ⟨_,R.cell,fun v q=>by cases q⟩
  ·exact ⟨_,R.its,fun v q=>by cases q⟩
  ·exact ⟨_,kept,fun v q=>by cases q⟩
  ·exact ⟨o1,q1,fun v q=>by rw [d1] at q; cases q⟩
  ·exact ⟨o2,q2,fun v q=>by rw [d2] at q; cases q⟩
 keep:=fun i h h' R kp=>by
  obtain ⟨u,v,kept⟩:=R.kept;obtain ⟨o1,q1,r1⟩:=R.one;obtain ⟨o2,q2,r2⟩:=R.two;exact ⟨kp z (by simp) _ R.cell,kp ti (by simp) _ R.its,⟨u,v,kp to (by simp) _ kept⟩,⟨o1,kp a (by simp) _ q1,r1⟩,⟨o2,kp b (by simp) _ q2,r2⟩⟩
 item:=by
  intro X hP hw hK hc i pins s σ H E I hf R go;subst hP hw hK;obtain ⟨xs,ys,x,y,sx,sy,hx,hy⟩:=go;obtain ⟨m6,v1,p1,_⟩:=I.tuple sx;obtain ⟨its2,v2,p2,_⟩:=I.list sy;obtain ⟨ux,gx,rx⟩:=v1.get hx;obtain ⟨uy,gy,ry⟩:=v2.get hy;have Z:jP true false z ti to a b l m m6.toArray its2.toArray .none i i s.heap:=⟨R.cell,R.its,R.kept,.tup R.one p1,.lst R.two p2.isList⟩;have fr:s.heap.get? s.heap.objs.size=none:=Heap.get?_none_of_le (aN _);have there:∀ c ∈ [z,ti,to,a,b],∃ o,s.heap.get? c=some o:=fun c hc=>by
   obtain ⟨u,v,kept⟩:=R.kept;obtain ⟨o1,q1,_⟩:=R.one;obtain ⟨o2,q2,_⟩:=R.two;simp only [aO,not_mem_nil,or_false] at hc;rcases hc with e | e | e | e | e <;> rw [e]
   ·exact ⟨_,R.cell⟩
   ·exact ⟨_,R.its⟩
   ·exact ⟨_,kept⟩
   ·exact ⟨_,q1⟩
   ·exact ⟨_,q2⟩
  have h4:∀ c ∈ [z,to,a,b],kh X pins H c:=fun c hc=>hf c (by simp at hc ⊢; rcases hc with r | r | r | r <;> simp [r])
  refine BW D Z (x:=ux) (y:=uy) (by simpa using gx) (by simpa using gy) fun h1 Z1 pr past=>⟨.ref s.heap.objs.size,rfl,yt D (s:={ s with heap:=h1 }) Z1 fun h2 Z2 sb=>?_⟩
  have zlt:s.heap.objs.size≠z:=Nat.ne_of_gt (Heap.lt_size R.cell);have pr2:IsPair h2 s.heap.objs.size ux uy:=sb.extBut _ _ zlt pr;refine ⟨.ref s.heap.objs.size,upd H s.heap.objs.size (.tup [x,y]),Inv.drawn (h':=h2) (t':=s.toks) (ch:=[z,to,a,b]) (s:=s) I h4 (fun c o out q=>sb.extBut c o (four out).1 (past c o out q)) fr ⟨zM,[ux,uy],.cons rx (.cons ry .nil),⟨_,pr2,rfl,_,rfl⟩⟩,rfl,⟨_,I.hok.none_of fr,rfl,fun xs' ys' x' y' sx' sy' hx' hy'=>?_⟩,?_,fun c hc=>?_⟩
  ·have e1:=I.rH sx' sx;have e2:=I.qG sy' sy;subst e1; subst e2;rw [hx] at hx'; rw [hy] at hy';cases hx'; cases hy'; rfl
  ·refine ⟨Z2.cell,Z2.its,Z2.kept,?_,?_⟩
   ·cases Z2.one with
    | tup q _=>exact q
   ·cases Z2.two with
    | lst q _=>exact q
  ·obtain ⟨o,q⟩:=there c hc;rw [bx (fun e=>by rw [e,fr] at q; cases q)];exact (hf c hc).1
 done:=by
  intro X hP hw hK hc i pins s σ H E I hf R stop;subst hP hw hK;obtain ⟨xs,ys,sx,sy,le⟩:=stop;obtain ⟨m6,v1,p1,_⟩:=I.tuple sx;obtain ⟨its2,v2,p2,_⟩:=I.list sy;have Z:jP true false z ti to a b l m m6.toArray its2.toArray .none i i s.heap:=⟨R.cell,R.its,R.kept,.tup R.one p1,.lst R.two p2.isList⟩;have h4:∀ c ∈ [z,to,a,b],kh X pins H c:=fun c hc=>hf c (by simp at hc ⊢; rcases hc with r | r | r | r <;> simp [r])
  have l1:=v1.length;have l2:=v2.length;have hend:m6.toArray[i]?=none\/(∃ x,m6.toArray[i]?=some x)/\its2.toArray[i]?=none:=by
   by_cases q:m6.length<=i
   ·exact .inl (by simp [q])
   ·exact .inr ⟨⟨m6[i]'(by omega),by simp⟩,by simp; omega⟩
  exact BX (I.ok.hd hc) D Z hend fun h' past=>⟨rfl,I.turns (t':=s.toks) h4 past⟩
 self:=fun _ _ _ _ _ R q=>wpAny_pyIter_zip R.cell q
section
variable {X:Cx}
def arW (K:Fg) (ta:TA):TI:=fun σ H R=>ta σ H fun vs H1=>∃ l m xs ys,vs=[.ref l,.ref m]/\dM K H1 l xs/\cD K H1 m ys/\R (Itz K l m) H1
theorem acp {e1 e2:Expr} {elts:List Expr} {k:Nat} {tp p pos:Pos} {ta:TA} (hg:Gl X "zip") (hm:X.mg "zip"=none) (ha:PA X [e1,e2] ta) (st1:autoParam (starEach [e1,e2] X.env=[(false,eval e1 X.env),(false,eval e2 X.env)]) zau0) (st2:autoParam (starEach [e2] X.env=[(false,eval e2 X.env)]) zau0) : PI X (.Tuple elts k tp) (.Call (.Name "zip" p) [e1,e2] [] pos) (arW X.K ta):=by
 intro pins s σ H R I h;refine Call_ (mV I hg hm boot_zip (callWith_type1 (d9 (ha pos pins s σ H _ I h) fun us a ⟨vs,H1,I1,r,q⟩=>?_) (by rw [st1,st2]) (by rw [st2]; rfl)));obtain ⟨l,m,xs,ys,e,sx,sy,q⟩:=q;subst e;obtain ⟨u1,u2,e,r1,r2⟩:=Vals.two r;subst e;cases r1; cases r2;obtain ⟨m6,v1,p1,_⟩:=I1.tuple sx;obtain ⟨its2,v2,p2,_⟩:=I1.list sy;refine Lk p1 p2.isList fun h' D Z old=>?_
 have I2:Inv X pins σ H1 { a with heap:=h' }:=I1.kept (t':=a.toks) old;refine wpAny_pyIter_zip (s:={ a with heap:=h' }) Z.cell ⟨_,[a.heap.objs.size + 4,a.heap.objs.size + 2,a.heap.objs.size + 3,a.heap.objs.size,a.heap.objs.size + 1],_,_,H1,rfl,I2,Ln D,⟨Z.cell,Z.its,Z.kept,?_,?_⟩,fun b hb=>?_,q⟩
 ·cases Z.one with
  | tup q _=>exact q
 ·cases Z.two with
  | lst q _=>exact q
 ·have le:a.heap.objs.size<=b:=by
   have hb5:b=a.heap.objs.size + 4\/b=a.heap.objs.size + 2\/b=a.heap.objs.size + 3\/b=a.heap.objs.size\/b=a.heap.objs.size + 1:=by simpa using hb
   rcases hb5 with e | e | e | e | e <;> rw [e] <;> first | exact Nat.le_add_right _ _ | exact aN _
  have f:=I1.Iu (H':=H1) le (I1.hok.fresh le);exact f
theorem Lp {bs:List Bool} {us:List aA} (r:Vals (bs.map V.bl) us) {i:Nat} {v:aA} (h:us[i]?=some v):∃ b,bs[i]?=some b/\v=.bool b:=by
 cases q:bs[i]? with
 | none =>
  have z:=r.none_of (i:=i) (by rw [aH,q]; rfl);rw [h] at z; cases z
 | some b =>
  obtain ⟨u,hu,ru⟩:=r.get (i:=i) (x:=.bl b) (by rw [aH,q]; rfl);rw [h] at hu; cases hu;exact ⟨b,rfl,ru⟩
theorem all_range:∀ bs:List Bool,((List.range bs.length).all fun i=>(bs[i]?).getD true)=bs.all id
 | []=>rfl
 | b::bs=>by
  have ih:=all_range bs;simp only [length_cons,range_succ_eq_map,all_cons,all_map,List.getElem?_cons_zero,Option.getD_some];exact congrArg (b && ·) ih
theorem rP (hc:X.calm=true):gw X (.builtin "all") (fun xs H Q=>∃ (p:aB) (bs:List Bool),xs=[.ref p]/\cD X.K H p (bs.map V.bl)/\Q (.bl (bs.all id)) H):=by
 intro pins s σ H xs us Q I r h;obtain ⟨p,bs,rfl,sq,q⟩:=h;obtain ⟨u,rfl,rx⟩:=Vals.one r;cases rx;obtain ⟨its,rv,pl,_⟩:=I.list sq;have lt:p < s.heap.objs.size:=by obtain ⟨o,e,_⟩:=pl.isList; exact Heap.lt_size e
 have len:its.length=bs.length:=by have:=rv.length; simpa using this.symm
 refine call_all_walk (wpAny_pyIter_list pl.isList ⟨_,[s.heap.objs.size,p],[s.heap.objs.size],its.toArray.size,_,_,fun i=>(bs[i]?).getD true,rfl,Walks.list (A:=X.A.in1) (I.ok.hd hc) _ p (Nat.ne_of_lt lt) its.toArray,⟨⟨_,aJ _ rfl,rfl,rfl⟩,pl.isList.push _⟩,fun i v s' Q' E' hv hq=>?_,fun h' tk keep=>?_⟩)
 ·obtain ⟨b,hb,rfl⟩:=Lp rv (i:=i) (v:=v) (by simpa using hv);have hq:Q' ((bs[i]?).getD true) s':=hq;rw [hb] at hq;exact wpAny_truthy_bool hq
 ·rw [size_toArray,len,all_range];refine ⟨.bl _,H,I.kept (h':=h') (t':=tk) fun b o e=>keep b o ?_ (ak _ e),rfl,q⟩;rw [aP];exact Nat.ne_of_lt (Heap.lt_size e)
theorem BZ:gw X (.builtin "isinstance") (fun xs H Q=>∃ x c cv t b,xs=[x,c]/\(c=.ref cv/\kitOne X.K t (.ref cv)=some b)/\o7 X.K H x t/\Q (.bl b) H):=by
 intro pins s σ H xs us Q I r h;obtain ⟨x,c,cv,t,b,rfl,⟨rfl,e⟩,ty,q⟩:=h;obtain ⟨u,v,rfl,rx,rc⟩:=Vals.two r;cases rc;exact xU I rx ty e fun tk=>⟨.bl b,H,I.tok tk,rfl,q⟩
theorem zN:gw X (.builtin "isinstance") (fun xs H Q=>∃ x T t b,xs=[x,.ty T]/\kitOne X.K t (.type T)=some b/\o7 X.K H x t/\Q (.bl b) H):=by
 intro pins s σ H xs us Q I r h;obtain ⟨x,T,t,b,rfl,e,ty,q⟩:=h;obtain ⟨u,v,rfl,rx,rc⟩:=Vals.two r;cases rc;exact xU I rx ty e fun tk=>⟨.bl b,H,I.tok tk,rfl,q⟩
end
section
variable {X:Cx}
end
section
variable {P:cA} {w:World} {K:Fg} {mg:Str->Option aA} {base:Heap} {x qual:Str} {st:cY} {f:aB} {fd:dW} {N ps:List Str} {k:Nat} {sp:Sp}
theorem mO.lO (F:mO K x qual st f fd) (S:bQ N ps (aW st)) (len:∀ vs H Q E,sp vs H Q E->vs.length=ps.length) (body:∀ (cdv:aA) (A:c7) (outer:List Env) (s:aQ) (H:Hp) (vs:List V) (Q:VK) (E:XK),d7 k (A.deeper (envOfC qual (aW st) s.heap.objs.size f cdv))->sp vs H Q E -> ∃ t,xP (oO (fu P w) P w K mg base N qual (aW st) f cdv A outer s H E) (gq st) t/\t { nx:=fun _ H'=>Q .non H',rt:=Q } (start N vs) H):cG P w K mg base (fu P w) (k + 1) f fd ps sp:=by
 obtain ⟨oc,od,kV,doc,pm,an,cdv,ct,osl,rfl,lk,hcd⟩:=F.ex;exact Vc lk hcd S len fun A outer s H vs Q E hr h=>body cdv A outer s H vs Q E hr h
theorem mO.okH (F:mO K x qual st f fd) (S:bQ N ps (aW st)) (len:∀ vs H Q E,sp vs H Q E->vs.length=ps.length) (body:∀ (cdv:aA) (A:c7) (outer:List Env) (s:aQ) (H:Hp) (vs:List V) (Q:VK) (E:XK),jO k (A.deeper (envOfC qual (aW st) s.heap.objs.size f cdv))->sp vs H Q E -> ∃ t,xP (G3 (fu P w) P w K mg base N qual (aW st) f cdv A outer s H E) (gq st) t/\t { nx:=fun _ H'=>Q .non H',rt:=Q } (start N vs) H):qM P w K mg base (fu P w) (k + 1) f fd ps sp:=by
 obtain ⟨oc,od,kV,doc,pm,an,cdv,ct,osl,rfl,lk,hcd⟩:=F.ex;exact acj lk hcd S len fun A outer s H vs Q E hr h=>body cdv A outer s H vs Q E hr h
end
theorem zO {X:Cx} {x:Str} {T:String} {pos:Pos} (hg:Gl X x) (hm:X.mg x=none) (hv:bootBuiltins x=some (.type T)) (hn:autoParam (x≠"__name__") zau1) (hd:autoParam ((x == ("__debug__":Str))=false) zau1):PE X (.Name x pos) (tC (.ty T)) := Rm hg hm hv rfl hn hd
def Its (x:Str):It:=⟨fun i _=>i < x.cps.size,fun i H v H'=>H'=H/\∃ c,x.cps[i]?=some c/\v=.str ⟨#[c]⟩,fun i _=>i=x.cps.size⟩
theorem Ca {P:cA} {w:World} {K:Fg} {n ty:Str} {np:Pos} {k:String} (x:Str) (t:Tok) (it:aB) (W:∀ A:c7,A.handled=none->Walks P w A it [it] [it] x.cps.size (SignAt x) (fun i h=>h.IsStrIter it k x t i)) (self:∀ (A:c7) (i:Nat) (s:aQ) (Q:aA->aQ->Prop) (E:aA->aQ->Prop),s.heap.IsStrIter it k x t i->Q (.ref it) s->wpAny (model P w) A (pyIter (.ref it)) Q E s) : Turn P w K (.Name n np) (Its x) [it] it (fun i h=>h.IsStrIter it k x t i) where
 mem:=by simp
 obj:=fun i h st b hb=>by
  obtain ⟨o,e,c,d⟩:=st;rw [aP.mp hb];exact ⟨o,e,fun v z=>by rw [d] at z; cases z⟩
 keep:=fun i h h' st kp=>by
  obtain ⟨o,e,r⟩:=st;exact ⟨o,kp it (by simp) o e,r⟩
 item:=by
  intro X hP hw hK hc i pins s σ H E I hf st go;subst hP hw hK;obtain ⟨f0,f1,f2,f3,f4,f5⟩:=hf it (by simp);refine (W X.A (I.ok.hd hc)).item i s _ _ go st fun v h' tk sg st' kk=>?_
  obtain ⟨c,u,hx,rfl⟩:=sg;have I1:Inv X pins σ H { s with heap:=h',toks:=tk }:=I.turned (fun b o hb e=>kk b o (by simpa using hb) e) f0 f1 f3 f4 f5;exact ⟨_,rfl,au ⟨.str ⟨#[c]⟩,H,I1,⟨u,rfl⟩,⟨rfl,c,hx,rfl⟩,st',fun b hb=>(hf b hb).1⟩⟩
 done:=by
  intro X hP hw hK hc i pins s σ H E I hf st stop;subst hP hw hK;have e:i=x.cps.size:=stop;subst e;obtain ⟨f0,f1,f2,f3,f4,f5⟩:=hf it (by simp);exact (W X.A (I.ok.hd hc)).done s _ _ st fun h' tk kk=>⟨rfl,I.turned (fun b o hb e=>kk b o (by simpa using hb) e) f0 f1 f3 f4 f5⟩
 self:=fun A i s Q E st h=>self A i s Q E st h
section
variable {X:Cx}
def arZ (tl:TE):TI:=fun σ H R=>tl σ H fun v H1=>∃ x,v=.str x/\R (Its x) H1
theorem acq {n:Str} {np:Pos} {l:Expr} {tl:TE} (hl:PE X l tl):PI X (.Name n np) l (arZ tl):=by
 intro pins s σ H R I h;refine d9 (hl pins s σ H _ I h) fun v a ⟨y,H1,I1,r1,x,e,q⟩=>?_
 subst e;obtain ⟨t,rfl⟩:=r1;have I2:∀ o,Inv X pins σ H1 { a with heap:=a.heap.push o }:=fun o=>I1.kept (t':=a.toks) fun b ob e=>ak _ e
 have fp:∀ b ∈ [a.heap.objs.size],kh X pins H1 b:=fun b hb=>by
  rw [aP.mp hb];exact I1.Iu (aN _) (I1.hok.fresh (aN _))
 cases ha:x.cps.all (· < 128) with
 | false=>exact wpAny_pyIter_wide ha ⟨_,[a.heap.objs.size],_,_,H1,rfl,I2 _,Ca (ty:=n) x t _ (fun A hA=>Walks.strWide hA _ x t) (fun A i s Q E st q=>wpAny_pyIter_striter_wide st q),⟨_,aJ _ rfl,rfl,rfl⟩,fp,q⟩
 | true=>exact wpAny_pyIter_ascii ha ⟨_,[a.heap.objs.size],_,_,H1,rfl,I2 _,Ca (ty:=n) x t _ (fun A hA=>Walks.strAscii hA _ x t) (fun A i s Q E st q=>wpAny_pyIter_striter_ascii st q),⟨_,aJ _ rfl,rfl,rfl⟩,fp,q⟩
theorem yu:lE X (compareOp .LtE) (fun x y H Q=>∃ i j,x=.str i/\y=.str j/\Q (.bl (!decide (j.cps.toList < i.cps.toList))) H):=by
 intro pins s σ H x y v u Q I rx ry h;obtain ⟨i,j,rfl,rfl,q⟩:=h;obtain ⟨t,rfl⟩:=rx;obtain ⟨t',rfl⟩:=ry;exact PySem.P.le_str ⟨.bl _,H,I,rfl,q⟩
end
structure Jg (K:Fg) (C:aB):Prop where
 ga:findIn K (.ref C) "__getattribute__"=some (some (.builtin "BaseException.__getattribute__"))
 hk:findIn K (.ref C) "__getattr__"=some none
 cls:(clsIn K C).isSome=true
 at_:findIn K (.ref C) "__class__"=some (some (.builtin "object.__class__"))
 gt:specialIn K (.builtin "object.__class__") "__get__"=some (some (.builtin "getset_descriptor.__get__"))
 tk:takesIn K (.builtin "object.__class__")=some true
 ob:mroIn K C (.type "object")=some true
 be:subIn K (.ref C) (.type "BaseException")=some true
section
variable {prog:cA} {w:World} {A:c7} {E:aA->aQ->Prop} {s:aQ} {K:Fg} {e C:aB} {oe:Obj} {od:Option Obj}
theorem Jh {tk:Tok} {Q:Fin->aQ->Prop} (k:K.In s.heap) (t:Jg K C) (I:InstAt s.heap e oe C od) (h:Q (.done (.ret (.ref C))) s) : wpAny (model prog w) A (Builtin.«object.__getattribute__» ⟨[.ref e,.str "__class__" tk],[]⟩) Q E s:=by
 obtain ⟨h0,g0,d0,tt,o0⟩:=s;have ht:=I.type (M:=model prog w);have hf:findObj K C od "__class__"=some (.bind (.builtin "getset_descriptor.__get__") (.builtin "object.__class__")) :=
  by obtain ⟨cd,hc⟩:=Option.isSome_iff_exists.mp t.cls; simp only [findObj,hc,Option.bind_some,t.at_,t.gt,t.tk]
 have lf:=looks_find (M:=model prog w) k I hf
 (unfold Builtin.«object.__getattribute__»; refine aj (au (aj (au (aj (ht.at (aj (lf.at ?_))))))))
 show wpAny _ _ (holding [Value.builtin "object.__class__"] (call (.builtin "getset_descriptor.__get__") [.builtin "object.__class__",.ref e,.ref C]) >>= ret) _ _ _
 refine aj (wpAny_holding (wpAny_call ?_));refine PySem.W.class_get (s:=⟨h0,g0,d0,tt,o0⟩) k I t.ob ?_
 show wpAny (model prog w) A (ret (Value.ref C)) Q E _
 exact au h
theorem yw {Q:Option aA->aQ->Prop} (k:K.In s.heap) (t:Jg K C) (I:InstAt s.heap e oe C od) (h:Q (some (.ref C)) { s with toks:=s.toks + 1 }) : wpAny (model prog w) A (getAttr? (.ref e) "__class__") Q E s:=by
 obtain ⟨h0,g0,d0,tt,o0⟩:=s;have ht:=I.type (M:=model prog w);have lg:=looks_findIn (M:=model prog w) k t.ga;have lk:=looks_findIn (M:=model prog w) k t.hk;have isB:Looks (model prog w) h0 (isInstance (.ref e) (.type "BaseException")) true:=ht.andThen (looks_subIn k t.be)
 (unfold getAttr? getAttrBy? getAttrBy; refine aj (wpAny_mkText (aj (wpAny_attempt (wpAny_holding (aj (ht.at (aj (lg.at ?_)))))))))
 have no:(onTheHeap (Value.ref C) && Value.builtin "BaseException.__getattribute__" == Value.builtin "object.__getattribute__")=false:=by
  rw [show (Value.builtin "BaseException.__getattribute__" == Value.builtin "object.__getattribute__")=false by decide +kernel]; rfl
 dsimp only;rw [no,if_neg Bool.false_ne_true];unfold getAttrByItsOwn hookBefore;rw [if_pos (show onTheHeap (Value.ref C)=true from rfl)];refine aj (lk.at (aj (wpAny_attempt (wpAny_holding ?_))));unfold callGetattribute;rw [Bool.false_and,if_neg Bool.false_ne_true];unfold boundAndCalled;rw [(F.attr_ValueError).ga.bind];refine aj (au ?_)
 show wpAny _ _ (call (.builtin "BaseException.__getattribute__") [.ref e,.str "__class__" tt]) _ _ _
 refine wpAny_call (codeAny_call_builtin (F.attr_ValueError).ga.plain F.entry_bexc_ga ?_);have hB:builtinKind "BaseException.__getattribute__"=some .slot:=by decide +kernel
 have hS:splitId "BaseException.__getattribute__"=some ("BaseException","__getattribute__"):=by decide +kernel
 have hA:=F.args_bexc_ga (.ref e) (.str "__class__" tt);refine @check_slot (model prog w) _ _ ⟨h0,g0,d0,tt + 1,o0⟩ _ _ _ (.ref e) [.str "__class__" tt] [] _ hB hS isB hA ?_;refine Jh (s:=⟨h0,g0,d0,tt + 1,o0⟩) k t I ?_
 show wpAny (model prog w) A (handedOut (Value.ref C)) _ _ _
 exact handed_on rfl (au h)
def G8 (e C:aB) (h:Heap):Prop:=∃ oe vs,h.get? e=some oe/\oe.cls=.ref C/\oe.dict=none/\oe.data=.fields vs
theorem G8.inst {h:Heap} (x:G8 e C h):∃ oe,InstAt h e oe C none:=by
 obtain ⟨oe,vs,e1,e2,e3,e4⟩:=x;exact ⟨oe,e1,e2,by unfold notCls; rw [e4],by rw [e3]; trivial⟩
theorem Jg.obj (t:Jg K C):∃ c dd cd sl,K.lookup C=some ⟨c,dd,.cls cd,sl⟩:=by
 obtain ⟨cd,hc⟩:=Option.isSome_iff_exists.mp t.cls;unfold clsIn at hc
 split at hc
 ·rename_i c dd cd' sl q
  exact ⟨c,dd,cd',sl,q⟩
 ·cases hc
theorem RQ (t:Jg K C):KitX K (.ref e) (.ref C) (G8 e C) where
 ty:=fun M h k x=>by
  obtain ⟨oe,I⟩:=x.inst;exact I.type
 it:=fun M h k x=>by
  obtain ⟨c,dd,cd,sl,q⟩:=t.obj;intro A' Q' E' s' keep hq;unfold isType loadHead;exact aj (wpAny_loadPart (keep C _ (k C _ q)) (au hq))
 ne:=fun h tp dd its n sl k q=>by
  obtain ⟨c,d',cd,sl',q'⟩:=t.obj;cases z:(Value.ref C == Value.ref tp) with
  | false=>rfl
  | true =>
   obtain rfl:=Value.ref.inj (beq_iff_eq.mp z);rw [k C _ q'] at q;cases q
 ca:=fun k x h=>by
  obtain ⟨oe,I⟩:=x.inst;exact yw k t I h
end
section
variable {X:Cx}
theorem ju:gw X (.builtin "isinstance") (fun xs H Q=>∃ e C c cv b,xs=[.ref e,c]/\RelV c cv/\(∃ C',c=.ref C'\/∃ T,c=.ty T)/\H e=some (kE e (.ref C) none)/\Jg X.K C/\kitOne X.K (.ref C) cv=some b/\Q (.bl b) H):=by
 intro pins s σ H xs us Q I r h;obtain ⟨e,C,c,cv,b,rfl,rc,kd,he,t,k1,q⟩:=h;obtain ⟨u,v,rfl,ru,rv⟩:=Vals.two r;obtain rfl:u=Value.ref e:=ru;have x:G8 e C s.heap:=by
  obtain ⟨⟨oe,vs,p⟩,_⟩:=(show eE X.prog X.w H s.heap e (kE e (.ref C) none) from I.hok e _ he);exact ⟨oe,vs,p⟩
 have ev:v=cv:=by
  obtain ⟨C',rfl | ⟨T,rfl⟩⟩:=kd
  ·exact rv.trans (Eq.symm rc)
  ·exact rv.trans (Eq.symm rc)
 subst ev;exact kia_one (RQ t) I.j7 x k1 (by
  obtain ⟨C',rfl | ⟨T,rfl⟩⟩:=kd
  ·intro z; obtain rfl:v=Value.ref C':=rv; cases z
  ·intro z; obtain rfl:v=Value.type T:=rv; cases z) fun tk=>⟨.bl b,H,I.tok tk,rfl,q⟩
end
inductive vC (K:Fg) (H:Hp):Nat->V->V->Bool->Prop where
 | flat {n:Nat} {x y:V} (fx:fL x=true) (fy:fL y=true):vC K H n x y (o8 x y)
 | self {n:Nat} {a:aB}:vC K H n (.ref a) (.ref a) true
 | tup {n:Nat} {a b:aB} {xs ys:List V} {e:Nat->Bool} (ne:a≠b) (ha:dM K H a xs) (hb:dM K H b ys) (h:∀ (j:Nat) x y,xs[j]?=some x->ys[j]?=some y->vC K H n x y (e j)) : vC K H (n + 1) (.ref a) (.ref b) ((List.range (min xs.length ys.length)).all e && xs.length == ys.length)
 | lst {n:Nat} {a b:aB} {xs ys:List V} {e:Nat->Bool} (ne:a≠b) (ha:cD K H a xs) (hb:cD K H b ys) (len:xs.length=ys.length) (h:∀ (j:Nat) x y,xs[j]?=some x->ys[j]?=some y->vC K H n x y (e j)) : vC K H (n + 1) (.ref a) (.ref b) ((List.range xs.length).all e)
 | Lq {n:Nat} {a b:aB} {xs ys:List V} (ne:a≠b) (ha:cD K H a xs) (hb:cD K H b ys) (len:xs.length≠ys.length):vC K H (n + 1) (.ref a) (.ref b) false
theorem Vals.item {xs:List V} {us:List aA} (r:Vals xs us) {j:Nat} (h:j < us.toArray.size):∃ x,xs[j]?=some x/\RelV x us.toArray[j]:=by
 have h':j < us.length:=by simpa using h
 have hx:j < xs.length:=by rw [r.length]; exact h'
 obtain ⟨u,e1,e2⟩:=r.get (aC hx);refine ⟨_,aC hx,?_⟩;rw [aC h'] at e1;cases e1;simpa using e2
theorem vC.at_ {X:Cx} {pins:List (aB × Obj)} {σ:St} {H:Hp} {s:aQ} (I:Inv X pins σ H s) {n:Nat} {x y:V} {b:Bool} (d:vC X.K H n x y b) : ∀ (A:c7) (u v:aA),A.units + n < cLine->RelV x u->RelV y v->SeqAt.EqAt A s u v b:=by
 induction d with
 | flat fx fy=>exact fun A u v _ ru rv=>K3 ru rv fx fy
 | self =>
  intro A u v _ ru rv;cases ru;cases rv;exact SeqAt.EqAt.same _
 | tup ne ha hb _ ih =>
  intro A u v hu ru rv;cases ru;cases rv;obtain ⟨us,r1,p1,_⟩:=I.tuple ha;obtain ⟨vs,r2,p2,_⟩:=I.tuple hb;have w:=SeqAt.RcAt.tuples (A:=A) p1 p2 (by omega) fun j h1 h2=>by
   obtain ⟨x,ex,rx⟩:=r1.item h1;obtain ⟨y,ey,ry⟩:=r2.item h2;exact ih j x y ex ey A.in1 _ _ (by rw [show ∀ A:c7,A.in1.units=A.units + 1 from fun _=>rfl]; omega) rx ry
  rw [size_toArray,size_toArray,<- r1.length,<- r2.length] at w;exact SeqAt.EqAt.of_refs ne w
 | lst ne ha hb len _ ih =>
  intro A u v hu ru rv;cases ru;cases rv;obtain ⟨us,r1,p1,_⟩:=I.list ha;obtain ⟨vs,r2,p2,_⟩:=I.list hb;have w:=SeqAt.RcAt.lists (A:=A) p1.isList p2.isList (by rw [size_toArray,size_toArray,<- r1.length,<- r2.length,len]) (by omega) fun j h1 h2=>by
   obtain ⟨x,ex,rx⟩:=r1.item h1;obtain ⟨y,ey,ry⟩:=r2.item h2;exact ih j x y ex ey A.in1 _ _ (by rw [show ∀ A:c7,A.in1.units=A.units + 1 from fun _=>rfl]; omega) rx ry
  rw [size_toArray,<- r1.length] at w;exact SeqAt.EqAt.of_refs ne w
 | Lq ne ha hb len =>
  intro A u v hu ru rv;cases ru;cases rv;obtain ⟨us,r1,p1,_⟩:=I.list ha;obtain ⟨vs,r2,p2,_⟩:=I.list hb;refine SeqAt.EqAt.of_refs ne (SeqAt.RcAt.lists_lengths p1.isList p2.isList ?_ (by omega));rw [size_toArray,size_toArray,<- r1.length,<- r2.length];simpa using len
section
variable {X:Cx}
noncomputable def ajk (K:Fg) (neg:Bool):R2:=fun x y H Q=>∃ a b xs ys n e,x=.ref a/\y=.ref b/\dM K H a xs/\dM K H b ys/\n<=50/\(∀ (j:Nat) x y,xs[j]?=some x->ys[j]?=some y->vC K H n x y (e j)) /\ Q (.bl (neg ^^ ((List.range (min xs.length ys.length)).all e && xs.length == ys.length))) H
theorem Lr (hu:X.A.units + 64 < cLine):lE X (compareOp .Eq) (ajk X.K false):=by
 intro pins s σ H x y v u Q I rx ry h;obtain ⟨a,b,xs,ys,n,e,rfl,rfl,ha,hb,hn,d,q⟩:=h;cases rx;cases ry;obtain ⟨us,r1,p1,_⟩:=I.tuple ha;obtain ⟨vs,r2,p2,_⟩:=I.tuple hb;have w:=SeqAt.RcAt.tuples (A:=X.A) (e:=e) p1 p2 (by omega) fun j h1 h2=>by
  obtain ⟨x,ex,rx⟩:=r1.item h1;obtain ⟨y,ey,ry⟩:=r2.item h2;exact (d j x y ex ey).at_ I X.A.in1 _ _ (by rw [show ∀ A:c7,A.in1.units=A.units + 1 from fun _=>rfl]; omega) rx ry
 rw [size_toArray,size_toArray,<- r1.length,<- r2.length] at w;rw [Bool.false_xor] at q;exact w X.prog X.w X.xe _ ⟨.bl _,H,I,rfl,q⟩
noncomputable def Ji (K:Fg) (neg:Bool):R2:=fun x y H Q=>∃ a b xs ys n e,x=.ref a/\y=.ref b/\cD K H a xs/\cD K H b ys/\n<=50/\(xs.length=ys.length->∀ (j:Nat) x y,xs[j]?=some x->ys[j]?=some y->vC K H n x y (e j)) /\ (xs.length=ys.length->Q (.bl (neg ^^ (List.range xs.length).all e)) H)/\(xs.length≠ys.length->Q (.bl neg) H)
theorem acr (hu:X.A.units + 64 < cLine):lE X (compareOp .Eq) (Ji X.K false):=by
 intro pins s σ H x y v u Q I rx ry h;obtain ⟨a,b,xs,ys,n,e,rfl,rfl,ha,hb,hn,d,q1,q2⟩:=h;cases rx;cases ry;obtain ⟨us,r1,p1,_⟩:=I.list ha;obtain ⟨vs,r2,p2,_⟩:=I.list hb
 by_cases len:xs.length=ys.length
 ·have w:=SeqAt.RcAt.lists (A:=X.A) (e:=e) p1.isList p2.isList (by rw [size_toArray,size_toArray,<- r1.length,<- r2.length,len]) (by omega) fun j h1 h2=>by
   obtain ⟨x,ex,rx⟩:=r1.item h1;obtain ⟨y,ey,ry⟩:=r2.item h2;exact (d len j x y ex ey).at_ I X.A.in1 _ _ (by rw [show ∀ A:c7,A.in1.units=A.units + 1 from fun _=>rfl]; omega) rx ry
  rw [size_toArray,<- r1.length] at w;have q:=q1 len;rw [Bool.false_xor] at q;exact w X.prog X.w X.xe _ ⟨.bl _,H,I,rfl,q⟩
 ·have w:=SeqAt.RcAt.lists_lengths (A:=X.A) p1.isList p2.isList (by rw [size_toArray,size_toArray,<- r1.length,<- r2.length]; simpa using len) (by omega);exact w X.prog X.w X.xe _ ⟨.bl _,H,I,rfl,q2 len⟩
theorem EY (hu:X.A.units + 64 < cLine):lE X (compareOp .NotEq) (Ji X.K true):=by
 intro pins s σ H x y v u Q I rx ry h;obtain ⟨a,b,xs,ys,n,e,rfl,rfl,ha,hb,hn,d,q1,q2⟩:=h;cases rx;cases ry;obtain ⟨us,r1,p1,_⟩:=I.list ha;obtain ⟨vs,r2,p2,_⟩:=I.list hb
 by_cases len:xs.length=ys.length
 ·have w:=SeqAt.RcNeAt.lists (A:=X.A) (e:=e) p1.isList p2.isList (by rw [size_toArray,size_toArray,<- r1.length,<- r2.length,len]) (by omega) fun j h1 h2=>by
   obtain ⟨x,ex,rx⟩:=r1.item h1;obtain ⟨y,ey,ry⟩:=r2.item h2;exact (d len j x y ex ey).at_ I X.A.in1 _ _ (by rw [show ∀ A:c7,A.in1.units=A.units + 1 from fun _=>rfl]; omega) rx ry
  rw [size_toArray,<- r1.length] at w;have q:=q1 len;rw [Bool.true_xor] at q;exact w X.prog X.w X.xe _ ⟨.bl _,H,I,rfl,q⟩
 ·have w:=SeqAt.RcNeAt.lists_lengths (A:=X.A) p1.isList p2.isList (by rw [size_toArray,size_toArray,<- r1.length,<- r2.length]; simpa using len) (by omega);exact w X.prog X.w X.xe _ ⟨.bl _,H,I,rfl,q2 len⟩
def acs:V->List V->Hp->VK->Prop:=fun x vs H Q=>∃ l xs y,x=.ref l/\vs=[y]/\H l=some (.lst xs)/\fL y=true/\xs.all fL=true/\Q (.int (xs.countP fun z=>o8 z y)) H
theorem vG {x:V}:∀ {xs:List V} {us:List aA},Vals xs us->xs.all fL=true->us.countP (zA x)=xs.countP fun y=>o8 y x
 | _,_,.nil,_=>rfl
 | y::xs,u::us,.cons r t,f=>by
  rw [all_cons,Bool.and_eq_true] at f;rw [countP_cons,countP_cons,vG t f.2,zB r f.1]
theorem Ls:MtM X "list.count" acs:=by
 intro pins s σ H x vs v us Q I rx rv h;obtain ⟨l,xs,y,rfl,rfl,hH,fy,fs,q⟩:=h;cases rx;obtain ⟨u,rfl,ru⟩:=rv.one;obtain ⟨z,its,n,r,hl,e⟩:=I.Bl hH;refine call_meets F.slot_list_count ⟨_,e,rfl⟩ F.entry_list_count (F.args_list_count_2 _ _) (SeqAt.list_countAt l its.toArray n none #[] u (zA y)) ⟨e,fun w hw=>jr ru fy r fs w (by simpa using hw),?_⟩;refine ⟨.int _,H,I.tok _,⟨_,rfl⟩,?_⟩;rw [vG r fs];exact q
noncomputable def acu:V->List V->Hp->VK->Prop:=fun x vs H Q=>∃ l xs y j,x=.ref l/\vs=[y]/\H l=some (.lst xs)/\fL y=true/\xs.all fL=true/\(∃ z,xs[j]?=some z/\o8 z y=true)/\(∀ i z,i < j->xs[i]?=some z->o8 z y=false)/\Q (.int (j:Nat)) H
theorem Cd:MtM X "list.index" acu:=by
 intro pins s σ H x vs v us Q I rx rv h;obtain ⟨l,xs,y,j,rfl,rfl,hH,fy,fs,⟨z,hz,ez⟩,no,q⟩:=h;cases rx;obtain ⟨u,rfl,ru⟩:=rv.one;obtain ⟨sz,its,n,r,hl,e⟩:=I.Bl hH;have fl:∀ (i:Nat) x,xs[i]?=some x->fL x=true:=fun i x hx=>all_eq_true.mp fs x (aR hx)
 have hj:j < its.toArray.size:=by
  have:=(aX.mp hz).1;rw [size_toArray]; omega
 have small:(j:Int) < 2 ^ 63 - 1:=by
  have h1:j < sizeLine:=by rw [size_toArray] at hj; omega
  have h2:(sizeLine:Nat) < 2 ^ 62:=by rw [sizeLine_eq]; decide
  omega
 have at_:∀ (m:Nat) (hm:m < its.toArray.size) x,xs[m]?=some x->zA y its.toArray[m]=o8 x y:=fun m hm x hx=>by
  obtain ⟨x',ex,rx'⟩:=r.item hm;rw [hx] at ex;cases ex;exact zB rx' (fl m x hx)
 refine call_meets F.slot_list_index ⟨_,e,rfl⟩ F.entry_list_index (F.args_list_index_2 _ _) (SeqAt.list_indexAt l its.toArray n none #[] u (zA y) j hj small (by rw [at_ j hj z hz]; exact ez) fun m hm lt=>?_) ⟨e,fun w hw=>jr ru fy r fs w (by simpa using hw),⟨.int _,H,I.tok _,⟨_,rfl⟩,q⟩⟩;obtain ⟨x',ex,_⟩:=r.item hm;rw [at_ m hm x' ex];exact no m x' lt ex
end
end L2
namespace Tw
open PySem L2
inductive Kd where
 | non | bl | int | str | lst | tup | ins (C:aB)
def Kd.ty:Kd->aA
 | .non=>.type "NoneType"
 | .bl=>.type "bool"
 | .int=>.type "int"
 | .str=>.type "str"
 | .lst=>.type "list"
 | .tup=>.type "tuple"
 | .ins C=>.ref C
inductive BT where
 | bool | int | str | list | tuple
def BT.nm:BT->String
 | .bool=>"bool" | .int=>"int" | .str=>"str" | .list=>"list" | .tuple=>"tuple"
def bi:Kd->BT->Bool
 | .bl,.bool=>true
 | .bl,.int=>true
 | .int,.int=>true
 | .str,.str=>true
 | .lst,.list=>true
 | .tup,.tuple=>true
 | _,_=>false
structure Ce (K:Fg) (C:aB):Prop where
 cl:Cls K C
 ha:findIn K (.ref C) "__class__"=some (some (.builtin "object.__class__"))
 hn:specialIn K (.builtin "object.__class__") "__get__"=some (some (.builtin "getset_descriptor.__get__"))
 htk:takesIn K (.builtin "object.__class__")=some true
 hm:mroIn K C (.type "object")=some true
 no:∀ b:BT,kitOne K (.ref C) (.type b.nm)=some false
noncomputable def eX (K:Fg) (H:Hp) (v:V):Kd->Prop
 | .non=>v=.non
 | .bl=>∃ b,v=.bl b
 | .int=>∃ i,v=.int i
 | .str=>∃ x,v=.str x
 | .lst=>∃ a xs,v=.ref a/\(H a=some (.lst xs)\/∃ o,H a=some (.Av o (.lst xs)))
 | .tup=>∃ a xs,v=.ref a/\H a=some (.tup xs)
 | .ins C=>∃ a dx fs,v=.ref a/\H a=some (.ins C dx fs)/\Ce K C
theorem eX.tyOf {K:Fg} {H:Hp} {v:V} {k:Kd} (h:eX K H v k):o7 K H v k.ty:=by
 cases k with
 | non=>cases h; exact .non
 | bl=>obtain ⟨b,rfl⟩:=h; exact .bl b
 | int=>obtain ⟨i,rfl⟩:=h; exact .int i
 | str=>obtain ⟨x,rfl⟩:=h; exact .str x
 | lst =>
  obtain ⟨a,xs,rfl,e | ⟨o,e⟩⟩:=h
  ·exact .lst e
  ·exact .Av e
 | tup=>obtain ⟨a,xs,rfl,e⟩:=h; exact .tup e
 | ins C=>obtain ⟨a,dx,fs,rfl,e,t⟩:=h; exact .ins e t.cl t.ha t.hn t.htk t.hm
theorem eX.bi {K:Fg} {H:Hp} {v:V} {k:Kd} (h:eX K H v k) (b:BT):kitOne K k.ty (.type b.nm)=some (bi k b):=by
 cases k with
 | ins C=>obtain ⟨a,dx,fs,rfl,e,t⟩:=h; cases b <;> exact t.no _
 | _=>cases b <;> rfl
theorem eX.same {K:Fg} {H H':Hp} {v:V} {k:Kd} (h:eX K H v k) (s:Same H H'):eX K H' v k:=by
 cases k with
 | lst =>
  obtain ⟨a,xs,rfl,e | ⟨o,e⟩⟩:=h
  ·exact ⟨a,xs,rfl,.inl (s _ _ e)⟩
  ·exact ⟨a,xs,rfl,.inr ⟨o,s _ _ e⟩⟩
 | tup=>obtain ⟨a,xs,rfl,e⟩:=h; exact ⟨a,xs,rfl,s _ _ e⟩
 | ins C=>obtain ⟨a,dx,fs,rfl,e,t⟩:=h; exact ⟨a,dx,fs,rfl,s _ _ e,t⟩
 | _=>exact h
section
variable {X:Cx} {e:Expr} {te:TE} {p pos p2:Pos}
theorem Lw (b:BT):gw X (.builtin "isinstance") (fun xs H Q=>∃ v k,xs=[v,.ty b.nm]/\eX X.K H v k/\Q (.bl (bi k b)) H):=by
 intro pins s σ H xs us Q I r h;obtain ⟨v,k,rfl,hk,q⟩:=h;exact zN pins s σ H _ us Q I r ⟨v,b.nm,k.ty,bi k b,rfl,hk.bi b,hk.tyOf,q⟩
theorem Lx:gw X (.builtin "isinstance") (fun xs H Q=>∃ v k C b,xs=[v,.ref C]/\eX X.K H v k/\kitOne X.K k.ty (.ref C)=some b/\Q (.bl b) H):=by
 intro pins s σ H xs us Q I r h;obtain ⟨v,k,C,b,rfl,hk,e,q⟩:=h;exact BZ pins s σ H _ us Q I r ⟨v,.ref C,C,k.ty,b,rfl,⟨rfl,e⟩,hk.tyOf,q⟩
theorem jW {x:Str} (b:BT) (hi:X.mg "isinstance"=none) (hx:X.mg x=none) (he:PE X e te) (hg:autoParam (Gl X "isinstance") zau0) (hgx:autoParam (Gl X x) zau0) (hv:autoParam (bootBuiltins x=some (.type b.nm)) zau4) (hn:autoParam (x≠"__name__") zau1) (hd:autoParam ((x == ("__debug__":Str))=false) zau1) (h1:autoParam (starEach [e,.Name x p2] X.env=(false,eval e X.env)::starEach [.Name x p2] X.env) zau0) (h2:autoParam ((backTo pos (starEach [.Name x p2] X.env)).any (·.1)=false) zau0) (h3:autoParam (starEach [.Name x p2] X.env=(false,eval (.Name x p2) X.env)::starEach [] X.env) zau0) : PE X (.Call (.Name "isinstance" p) [e,.Name x p2] [] pos) (tCB (fun xs H Q=>∃ v k,xs=[v,.ty b.nm]/\eX X.K H v k/\Q (.bl (bi k b)) H) (uz te (uz (tC (.ty b.nm)) Es))) := vd (X:=X) (p:=p) (pos:=pos) (Lw b) hg hi boot_isinstance (ao he (ao (zO (T:=b.nm) (pos:=p2) hgx hx hv hn hd) aF h3) h1) (by decide) (by decide) h1 h2
theorem acv {x:Str} {C:aB} (hi:X.mg "isinstance"=none) (hx:X.mg x=some (.ref C)) (he:PE X e te) (hg:autoParam (Gl X "isinstance") zau0) (hgx:autoParam (Gl X x) zau0) (hd:autoParam ((x == ("__debug__":Str))=false) zau1) (h1:autoParam (starEach [e,.Name x p2] X.env=(false,eval e X.env)::starEach [.Name x p2] X.env) zau0) (h2:autoParam ((backTo pos (starEach [.Name x p2] X.env)).any (·.1)=false) zau0) (h3:autoParam (starEach [.Name x p2] X.env=(false,eval (.Name x p2) X.env)::starEach [] X.env) zau0) : PE X (.Call (.Name "isinstance" p) [e,.Name x p2] [] pos) (tCB (fun xs H Q=>∃ v k C b,xs=[v,.ref C]/\eX X.K H v k/\kitOne X.K k.ty (.ref C)=some b/\Q (.bl b) H) (uz te (uz (tC (.ref C)) Es))) := vd (X:=X) (p:=p) (pos:=pos) Lx hg hi boot_isinstance (ao he (ao (GD (v:=.ref C) (pos:=p2) hgx hx rfl hd) aF h3) h1) (by decide) (by decide) h1 h2
theorem zP {D:aB} {J:It} {σ0:St} {g:TG} {te:TE} {Qe:Hp->Prop} {H1:Hp} (n:Nat) (hn:n<=sizeLine) (y:Nat->V) (Pv:Nat->Hp->Prop) (start:Pv 0 (upd H1 D (.lst []))) (at_:∀ i H,i<=n->Pv i H->H D=some (.lst ((List.range i).map y))) (stop:∀ H,Pv n H->J.stop n H/\Qe H) (go:∀ i H,i < n->Pv i H->J.go i H/\∀ x H',J.Ke i H x H'->∀ Qc:VK,(∀ H3,H3 D=some (.lst ((List.range i).map y))->Pv (i + 1) (upd H3 D (.lst ((List.range (i + 1)).map y)))->Qc (y i) H3)->g x σ0 H' fun σ2 H2=>kI σ0 σ2/\te σ2 H2 Qc) : ∃ W:Nat->Nat->List V->Hp->Prop,(∃ m,W 0 m [] (upd H1 D (.lst [])))/\oU D J σ0 g Bx te Qe W:=by
 refine ⟨fun i m ac H=>i<=n/\m=n - i/\ac=(List.range i).map y/\Pv i H,⟨n,eV _,rfl,rfl,start⟩,?_⟩;rintro i m ac H ⟨le,rfl,rfl,p⟩;refine ⟨at_ i H le p,?_⟩
 by_cases lt:i < n
 ·obtain ⟨g1,step⟩:=go i H lt p;refine .inr ⟨g1,by rw [aq,bA]; exact aY lt hn,fun x H' yl=>?_⟩;simp only [Bx,if_true];refine step x H' yl _ fun H3 hD nx=>?_
  have e:(List.range i).map y++[y i]=(List.range (i + 1)).map y:=by rw [cH,bf]; rfl
  exact ⟨hD,n - (i + 1),by omega,lt,rfl,e,by rw [e]; exact nx⟩
 ·have e:i=n:=by omega
  subst e;exact .inl (stop H p)
theorem aV {H:Hp} {D:aB} {o:HO} (h:H D=none):Same H (upd H D o):=fun b u e=>by rw [bx (dj e h)]; exact e
theorem dB {x:Str} {id:String} {r:List V->Hp->VK->Prop} {es:List Expr} {t:TA} (hc:gw X (.builtin id) r) (hm:X.mg x=none) (hv:bootBuiltins x=some (.builtin id)) (ha:PA X (e::es) t) (hg:autoParam (Gl X x) zau0) (hn:autoParam (x≠"__name__") zau1) (hdb:autoParam ((x == ("__debug__":Str))=false) zau1) (he:autoParam (starEach (e::es) X.env=(false,eval e X.env)::starEach es X.env) zau0) (hpl:autoParam ((backTo pos (starEach es X.env)).any (·.1)=false) zau0):PE X (.Call (.Name x p) (e::es) [] pos) (tCB r t):=vd hc hg hm hv ha hn hdb he hpl
theorem iy {x:Str} {u:aA} (v:V) (hm:X.mg x=some u) (r:RelV v u) (hg:autoParam (Gl X x) zau0) (hd:autoParam ((x == ("__debug__":Str))=false) zau1):PE X (.Name x pos) (tC v):=GD hg hm r hd
theorem cV (i:Nat) {x:Str} (hN:X.N.Nodup) (hi:autoParam (X.N[i]?=some x) zau0) (hx:Loc X.env.scope x:=by exact Or.inl rfl) (hf:X.fn x=true\/X.env.scope.names.lookup x=some .local:=by first | exact .inl rfl | exact .inr rfl):PG X (.Name x pos) (xQ i):=Rn hN hi hx hf
end
structure ajl (K:Fg) (C:aB) (m:Str) (f:aB):Prop where
 rd:readsIn K C (.type "type")=true
 ga:specialIn K (.ref C) "__getattribute__"=some (some (.builtin "type.__getattribute__"))
 at_:findCls K (.ref C) (.type "type") m=some (.val (.ref f))
 kp:keepIn K (.ref f)=true
section
variable {X:Cx} {CX:xV} {k:Nat} {f C:aB} {fd:dW} {ps:List Str} {sp:Sp} {oN:List V} {ds:List aA} {E:XK} {x m:Str} {p pos apos:Pos} {e o:Expr} {es:List Expr} {ta:TE} {t:TA}
theorem dH (F:cG X.prog X.w X.K X.mg X.base CX k f fd ps sp) (hr:d7 k X.A) (hm:X.mg x=some (.ref f)) (hk:keepIn X.K (.ref f)=true) (hb:Binds X.K fd ps []) (hx:Passes CX X E) (ha:PA X (e::es) t) (hg:autoParam (Gl X x) zau0) (hdb:autoParam ((x == ("__debug__":Str))=false) zau1) (he:autoParam (starEach (e::es) X.env=(false,eval e X.env)::starEach es X.env) zau0) (hpl:autoParam ((backTo pos (starEach es X.env)).any (·.1)=false) zau0) : PE X (.Call (.Name x p) (e::es) [] pos) (xW sp [] E t):=zm F hr hg hm hk hb .nil hx ha hdb he hpl
theorem Cg (M:Mk X.K C f) (F:cG X.prog X.w X.K X.mg X.base CX k f fd ps sp) (hr:d7 (k + 1) X.A) (hm:X.mg x=some (.ref C)) (hb:Binds X.K fd ps []) (hx:Passes CX X E) (ha:PA X (e::es) t) (hg:autoParam (Gl X x) zau0) (hdb:autoParam ((x == ("__debug__":Str))=false) zau1) (he:autoParam (starEach (e::es) X.env=(false,eval e X.env)::starEach es X.env) zau0) (hpl:autoParam ((backTo pos (starEach es X.env)).any (·.1)=false) zau0) : PE X (.Call (.Name x p) (e::es) [] pos) (Vb C sp [] E t):=Rv M F hr hg hm hb .nil hx ha hdb he hpl
theorem RT {pl:Sem Bool} (hx:X.mg x=some (.ref C)) (hm:ajl X.K C m f) (F:cG X.prog X.w X.K X.mg X.base CX k f fd ps sp) (hr:d7 k X.A) (hb:Binds X.K fd ps []) (hp:Passes CX X E) (ha:PA X (e::es) t) (hg:autoParam (Gl X x) zau0) (hdb:autoParam ((x == ("__debug__":Str))=false) zau1) (hst:autoParam (starEach (e::es) X.env=(false,eval e X.env)::starEach es X.env) zau0) (hpl:autoParam ((backTo pos (starEach es X.env)).any (·.1)=false) zau0) (ht:autoParam (eval (.Call (.Attribute (.Name x p) m apos) (e::es) [] pos) X.env=(do
   let ov <- eval (.Name x p) X.env
   standAt apos.atName
   let (f,first) <- holding [ov] (getMethod ov m pl)
   callWith pos f first (backTo pos (starEach (e::es) X.env)) (backToKw pos (keywordEach [] X.env)))) zau0) :
  PE X (.Call (.Attribute (.Name x p) m apos) (e::es) [] pos) (xW sp [] E t):=by
 intro pins s σ H Q I h;refine methodCall_KW (pl:=pl) (iz I hg hx ?_ hdb) ht;refine method_cls I.j7 hm.ga (cls_value I.j7 hm.rd hm.at_ rfl ?_);have I1:=I.tok (s.toks + 1);refine callWith_K (h₀:=X.base) I.ok.mod.Ea hm.kp (d9 (ha pos pins _ σ H _ I1 h) fun us s2 ⟨vs,H2,I2,r,q2⟩=>⟨I2.j7,?_⟩) hst hpl;exact zj F hr hb .nil hp I2 r q2
noncomputable def Ly (Cs:aB->Prop) (m:Str) (sp:aB->Sp) (E:XK) (ta:TE) (t:TA):TE:=fun σ H Q=>ta σ H fun x H1=>∃ a C dx fs,x=.ref a/\H1 a=some (.ins C dx fs)/\Cs C/\fs.lookup m=none/\t σ H1 fun vs H2=>sp C (x::vs) H2 Q E
theorem Ci {pl:Sem Bool} {sp:aB->Sp} {Cs:aB->Prop} (he:PE X o ta) (hr:d7 k X.A) (hC:∀ C,Cs C->∃ f fd,Cls X.K C/\Meth X.K C m f/\cG X.prog X.w X.K X.mg X.base CX k f fd ps (sp C)/\Binds X.K fd ps []) (hx:Passes CX X E) (ha:PA X (e::es) t) (hst:autoParam (starEach (e::es) X.env=(false,eval e X.env)::starEach es X.env) zau0) (hpl:autoParam ((backTo pos (starEach es X.env)).any (·.1)=false) zau0) (ht:autoParam (eval (.Call (.Attribute o m apos) (e::es) [] pos) X.env=(do
   let ov <- eval o X.env
   standAt apos.atName
   let (f,first) <- holding [ov] (getMethod ov m pl)
   callWith pos f first (backTo pos (starEach (e::es) X.env)) (backToKw pos (keywordEach [] X.env)))) zau0) :
  PE X (.Call (.Attribute o m apos) (e::es) [] pos) (Ly Cs m sp E ta t):=by
 intro pins s σ H Q I h;refine methodCall_KW (pl:=pl) (d9 (he pins s σ H _ I h) fun u s1 ⟨x,H1,I1,rx,a,C,dx,fs,ex,ea,cs,l,q⟩=>?_) ht;subst ex;obtain rfl:u=Value.ref a:=rx;obtain ⟨f,fd,c,hm,F,hb⟩:=hC C cs;refine oY I1 ea c hm l ?_;refine callWith_K (first:=[.ref a]) (h₀:=X.base) I.ok.mod.Ea hm.kp (d9 (ha pos pins s1 σ H1 _ I1 q) fun us s2 ⟨vs,H2,I2,r,q2⟩=>⟨I2.j7,?_⟩) hst hpl;have:=zj (us:=.ref a::us) (vs:=.ref a::vs) (oN:=[]) (ds:=[]) (Q:=Q) F hr hb .nil hx I2 (.cons rfl r) (by rw [cJ]; exact q2);exact this
theorem uD (K:Fg) {fl:Str} (he:PE X o ta) (hK:autoParam (X.K=K) zau0) (hb:autoParam (attributeBase o fl X.env (eval o X.env)=eval o X.env) zau0):PE X (.Attribute o fl pos) (ab4 K ta fl):=by
 subst hK;exact gB he hb
end
theorem kO {D:aB} {J:It} {σ0:St} {g:TG} {te:TE} {Qe:Hp->Prop} {H1:Hp} (n:Nat) (hn:n<=sizeLine) (Pv:Nat->List V->Hp->Prop) (start:Pv 0 [] (upd H1 D (.lst []))) (at_:∀ i acc H,i<=n->Pv i acc H->acc.length=i/\H D=some (.lst acc)) (stop:∀ acc H,Pv n acc H->J.stop n H/\Qe H) (go:∀ i acc H,i < n->Pv i acc H->J.go i H/\∀ x H',J.Ke i H x H'->∀ Qc:VK,(∀ v H3,H3 D=some (.lst acc)->Pv (i + 1) (acc++[v]) (upd H3 D (.lst (acc++[v])))->Qc v H3)->g x σ0 H' fun σ2 H2=>kI σ0 σ2/\te σ2 H2 Qc) : ∃ W:Nat->Nat->List V->Hp->Prop,(∃ m,W 0 m [] (upd H1 D (.lst [])))/\oU D J σ0 g Bx te Qe W:=by
 refine ⟨fun i m ac H=>i<=n/\m=n - i/\Pv i ac H,⟨n,eV _,rfl,start⟩,?_⟩;rintro i m ac H ⟨le,rfl,p⟩;obtain ⟨la,hD⟩:=at_ i ac H le p;refine ⟨hD,?_⟩
 by_cases lt:i < n
 ·obtain ⟨g1,step⟩:=go i ac H lt p;refine .inr ⟨g1,by rw [la]; exact aY lt hn,fun x H' yl=>?_⟩;simp only [Bx,if_true];refine step x H' yl _ fun v H3 hD nx=>?_
  exact ⟨hD,n - (i + 1),by omega,lt,rfl,nx⟩
 ·have e:i=n:=by omega
  subst e;exact .inl (stop ac H p)
theorem uP {D:aB} {J:It} {σ0:St} {g:TG} {tc:TT} {te:TE} {Qe:Hp->Prop} {H1:Hp} (n:Nat) (hn:n<=sizeLine) (Pv:Nat->List V->Hp->Prop) (start:Pv 0 [] (upd H1 D (.lst []))) (at_:∀ i acc H,i<=n->Pv i acc H->acc.length<=i/\H D=some (.lst acc)) (stop:∀ acc H,Pv n acc H->J.stop n H/\Qe H) (go:∀ i acc H,i < n->Pv i acc H->J.go i H/\∀ x H',J.Ke i H x H'->∀ (Qc:VK) (Qn:Hp->Prop),(∀ v H3,H3 D=some (.lst acc)->Pv (i + 1) (acc++[v]) (upd H3 D (.lst (acc++[v])))->Qc v H3)->(∀ H3,Pv (i + 1) acc H3->Qn H3) -> g x σ0 H' fun σ2 H2=>kI σ0 σ2/\tc σ2 H2 fun b H3=>if b=true then te σ2 H3 Qc else Qn H3) : ∃ W:Nat->Nat->List V->Hp->Prop,(∃ m,W 0 m [] (upd H1 D (.lst [])))/\oU D J σ0 g tc te Qe W:=by
 refine ⟨fun i m ac H=>i<=n/\m=n - i/\Pv i ac H,⟨n,eV _,rfl,start⟩,?_⟩;rintro i m ac H ⟨le,rfl,p⟩;obtain ⟨la,hD⟩:=at_ i ac H le p;refine ⟨hD,?_⟩
 by_cases lt:i < n
 ·obtain ⟨g1,step⟩:=go i ac H lt p;refine .inr ⟨g1,Nat.lt_of_le_of_lt la (aY lt hn),fun x H' yl=>?_⟩;exact step x H' yl _ _ (fun v H3 hD nx=>⟨hD,n - (i + 1),by omega,lt,rfl,nx⟩) (fun H3 nx=>⟨n - (i + 1),by omega,lt,rfl,nx⟩)
 ·have e:i=n:=by omega
  subst e;exact .inl (stop ac H p)
theorem gj {X:Cx} {scope:Scope} {cl:List (Str × aB)} {N':List Str} (cap:List (Option Nat)) (N:List Str) (sn rn:List (Str × NameKind)) (ks:List Str) (kind:scope.kind=.function) (Ey:∀ y ∈ scope.names,y.2≠.cell) (names:∀ y ∈ scope.names,y.2=.local->scope.names.lookup y.1=some .local) (clos:closureFor scope X.env=pure cl) (sub:∀ p ∈ cl,X.env.cells.lookup p.1=some p.2) (hN:X.N=N) (hs:X.env.scope.names=sn) (rel:(relabel scope X.env).names=rn) (hk:cl.map (·.1)=ks) (has:∀ y ∈ rn,(y.2=.cell\/y.2=.free)->y.1 ∈ ks) (len:cap.length=N'.length) (cp:∀ p ∈ cap.zip N',∀ j,p.1=some j->N[j]?=some p.2/\sn.lookup p.2=some .cell/\rn.lookup p.2=some .cell):fZ X scope cl N' cap:=by
 refine ⟨kind,Ey,names,clos,fun n c h=>?_,fun n h=>?_,len,fun i j x h1 h2=>?_⟩
 ·exact sub (n,c) (PySem.mem_of_lookup h)
 ·rw [rel] at h;have hm:n ∈ cl.map (·.1):=by
   rw [hk];rcases h with h | h
   ·exact has _ (PySem.mem_of_lookup h) (.inl rfl)
   ·exact has _ (PySem.mem_of_lookup h) (.inr rfl)
  obtain ⟨p,hp,rfl⟩:=bN.mp hm;cases e:cl.lookup p.1 with
  | some c=>exact ⟨c,rfl⟩
  | none =>
   rw [List.lookup_eq_none_iff] at e;exact absurd (beq_self_eq_true p.1) (by have:=e p hp; simpa using this)
 ·rw [hN,hs,rel];refine cp (some j,x) ?_ j rfl;rw [List.mem_iff_getElem?];exact ⟨i,by rw [List.getElem?_zip_eq_some]; exact ⟨h1,h2⟩⟩
theorem dz {α β:Type} {R:α->β->Prop}:∀ {xs:List α} {ys:List β} {i:Nat} {x:α},Paired R xs ys->xs[i]?=some x->∃ y,ys[i]?=some y/\R x y
 | _,_,_,_,.nil,e=>by simp at e
 | _,_,0,_,.cons r _,e=>by simp at e; subst e; exact ⟨_,rfl,r⟩
 | _,_,i + 1,_,.cons _ t,e=>dz (i:=i) t (by simpa using e)
theorem take_snoc {α:Type} {xs:List α} {i:Nat} {x:α} (h:xs[i]?=some x):xs.take (i + 1)=xs.take i++[x]:=by
 rw [List.take_add_one,h]; rfl
theorem qN {x:V} (h:fL x=true):o8 x x=true:=by
 cases x <;> first | rfl | (simp [o8]; done) | exact absurd h (by simp [fL])
end Tw
namespace L2
open PySem PySem.Spec PyProof.Rows
section
variable {X:Cx} {pos:Pos}
end
noncomputable def acw:Expr->Option V
 | .Constant (.int n) _ _=>some (V.int n)
 | .Constant (.str z) _ _=>some (V.str z)
 | .Constant (.bool b) _ _=>some (.bl b)
 | .Constant .none _ _=>some .non
 | .UnaryOp .USub (.Constant (.int n) _ _) _=>some (V.int (-n))
 | _=>none
def Vl:List Expr->Option (List V)
 | []=>some []
 | e::es=>(acw e).bind fun v=>(Vl es).map fun vs=>v::vs
section
variable {X:Cx}
theorem acy {e:Expr} {es:List Expr} {v:V} (h:acw e=some v):PE X e (tC v)/\starEach (e::es) X.env=(false,eval e X.env)::starEach es X.env:=by
 unfold acw at h
 split at h
 ·cases h; exact ⟨aM,rfl⟩
 ·cases h; exact ⟨dR,rfl⟩
 ·cases h; exact ⟨iZ,rfl⟩
 ·cases h; exact ⟨oW,rfl⟩
 ·cases h;refine ⟨fun pins s σ H Q I q=>?_,rfl⟩;exact Ax uX aM pins s σ H Q I ⟨_,rfl,q⟩
 ·cases h
def Lz (vs:List V):TA:=fun _ H Q=>Q vs H
theorem oF (vs:List V) {es:List Expr} (h:Vl es=some vs):PA X es (Lz vs):=by
 induction es generalizing vs with
 | nil =>
  cases h;exact fun pos pins s σ H Q I q=>aF pos pins s σ H Q I q
 | cons e es ih =>
  obtain ⟨v,hv,h⟩:=Option.bind_eq_some_iff.mp h;obtain ⟨ws,hw,rfl⟩:=bB.mp h;obtain ⟨p,st⟩:=acy (X:=X) (es:=es) hv;exact fun pos pins s σ H Q I q=>ao p (ih ws hw) st pos pins s σ H Q I q
end
section
variable {prog:cA} {w:World} {A:c7} {E:aA->aQ->Prop} {s:aQ} {J l:aB} {its:Array aA}
end
theorem LC {xs:List V} {us:List aA} (r:Vals xs us):Vals xs.reverse us.reverse:=by
 induction r with
 | nil=>exact .nil
 | cons h t ih =>
  simp only [List.reverse_cons];exact Paired.snoc ih h
section
variable {X:Cx} {e:Expr} {te:TE} {p p2 pos pos2:Pos}
def ajm (K:Fg) (te:TE):TE:=fun σ H Q=>te σ H fun x H1=>∃ a xs,x=.ref a/\cD K H1 a xs/\∀ q,H1 q=none->Q (.ref q) (upd H1 q (.lst xs.reverse))
theorem RV {k:Nat} {p3 p4:Pos} (he:PE X e te):PE X (.Subscript e (.Slice none none (some (.UnaryOp .USub (.Constant (.int 1) k p3) p4)) p2) pos) (ajm X.K te):=by
 intro pins s σ H Q I h;have hs:PE X (.UnaryOp .USub (.Constant (.int 1) k p3) p4) (tUn (rU fun i=>.int (-i)) (tC (.int 1))):=Ax uX aM;refine Subscript_ (d9 (he pins s σ H _ I h) fun v s1 ⟨x,H1,I1,r1,q1⟩=>?_);obtain ⟨a,xs,rfl,hx,q⟩:=q1;cases r1;refine wpAny_Slice ?_;rw [evalPart_none];refine au (au ?_); rw [evalPart_some];refine d9 (hs pins s1 σ H1 (fun y H2=>y=.int (-1)/\H2=H1) I1 ⟨1,rfl,rfl,rfl⟩) fun u s2 ⟨y,H2,I2,r2,ey,eH⟩=>?_
 subst ey eH;obtain ⟨t,rfl⟩:=r2;have I3:Inv X pins σ H2 { s2 with heap:=s2.heap.push { cls:=.type "slice",data:=.fields #[.none,.none,.int (-1) t] } }:=I2.kept (t':=s2.toks) fun b ob q=>ak _ q
 obtain ⟨its,r,pl,hz⟩:=I3.list hx;have hlen:=r.length
 show wpAny (model X.prog X.w) X.A (subscriptTail e (.Slice none none (some (.UnaryOp .USub (.Constant (.int 1) k p3) p4)) p2) (.ref a) (.ref s2.heap.objs.size)) (EP X pins σ Q) X.xe { s2 with heap:=s2.heap.push { cls:=.type "slice",data:=.fields #[.none,.none,.int (-1) t] } }
 refine tail_any (ops:=[.ref a,.ref s2.heap.objs.size]) pl.isList.typeIs slot_list_getitem.lookup ?_ (by with_unfolding_all rfl);refine wpAny_getItem_list_slice pl.isList (Heap.IsSliceOf.new ..) .none .none (.int (-1) t) (by decide) ?_ (by rw [size_toArray] <;> omega);rw [PySem.W.krv_pick];refine ⟨.ref _,_,I3.laid (t':=s2.toks) (o:=.lst xs.reverse) (fun b ob q=>ak _ q) (aN _) ?_,rfl,q _ (I3.hok.fresh (aN _))⟩;exact ⟨by rw [List.length_reverse]; exact hz,_,0,LC r,aJ _ rfl⟩
end
end L2
namespace Tw
open PySem L2
abbrev Rep (α:Type):=Hp->V->α->Prop
structure RW {α:Type} [DecidableEq α] (K:Fg) (n:Nat) (R:Rep α):Prop where
 same:∀ {H H':Hp} {v:V} {x:α},R H v x->Same H H'->R H' v x
 one:∀ {H:Hp} {v:V} {x y:α},R H v x->R H v y->x=y
 eq:∀ {H:Hp} {v w:V} {x y:α},R H v x->R H w y->vC K H n v w (decide (x=y))
def lQ:Rep Int:=fun _ v i=>v=.int i
def vH:Rep Str:=fun _ v x=>v=.str x
def vI {α:Type} (R:Rep α):Rep (List α):=fun H v xs=>∃ t vs,v=.ref t/\H t=some (.tup vs)/\Paired (R H) vs xs
def iI {α:Type} (R:Rep α):Rep (List α):=fun H v xs=>∃ t vs,v=.ref t/\H t=some (.lst vs)/\Paired (R H) vs xs
def LK {α β:Type} (R:Rep α) (S:Rep β):Rep (α × β):=fun H v c=>∃ t u w,v=.ref t/\H t=some (.tup [u,w])/\R H u c.1/\S H w c.2
def Vm {α β γ:Type} (R:Rep α) (S:Rep β) (T:Rep γ):Rep (α × β × γ):=fun H v c=>∃ t u w z,v=.ref t/\H t=some (.tup [u,w,z])/\R H u c.1/\S H w c.2.1/\T H z c.2.2
section
variable {K:Fg} {α β γ:Type} [DecidableEq α] [DecidableEq β] [DecidableEq γ] {n:Nat} {R:Rep α} {S:Rep β} {T:Rep γ}
theorem eq_int:RW K n lQ:=⟨fun h _=>h,fun h h'=>by cases h; cases h'; rfl,fun {H v w x y} h h'=>by
 cases h; cases h';have:=vC.flat (K:=K) (H:=H) (n:=n) (x:=.int x) (y:=.int y) rfl rfl;have e:o8 (.int x) (.int y)=decide (x=y):=by
  show (x == y)=_
  by_cases z:x=y <;> simp [z]
 rw [e] at this;exact this⟩
theorem vJ:∀ (xs ys:List α),((List.range (min xs.length ys.length)).all (fun j=>decide (xs[j]?=ys[j]?)) && xs.length == ys.length)=decide (xs=ys)
 | [],[]=>rfl
 | [],y::ys=>by simp
 | x::xs,[]=>by simp
 | x::xs,y::ys=>by
  have ih:=vJ xs ys;have e:min (x::xs).length (y::ys).length=min xs.length ys.length + 1:=by simp only [length_cons]; omega
  rw [e,range_succ_eq_map,all_cons,all_map];have e2:((fun j=>decide ((x::xs)[j]?=(y::ys)[j]?)) ∘ Nat.succ)=fun j=>decide (xs[j]?=ys[j]?):=by
   funext j
   simp
  rw [e2];have e3:((x::xs).length == (y::ys).length)=(xs.length == ys.length):=by simp
  rw [e3,Bool.and_assoc,ih]
  by_cases z:x=y <;> by_cases z':xs=ys <;> simp [z,z']
theorem yx {H:Hp} (h:RW K n R) {vs ws:List V} {xs ys:List α} (p:Paired (R H) vs xs) (q:Paired (R H) ws ys):∀ (j:Nat) x y,vs[j]?=some x->ws[j]?=some y->vC K H n x y (decide (xs[j]?=ys[j]?)):=by
 intro j v w hv hw;obtain ⟨x,hx,rx⟩:=dz p hv;obtain ⟨y,hy,ry⟩:=dz q hw;rw [hx,hy];have:=h.eq rx ry;have e:decide (some x=some y)=decide (x=y):=by by_cases z:x=y <;> simp [z]
 rw [e];exact this
theorem ar3 {H:Hp} {Q:VK} {v w:V} {xs ys:List α} (h:RW K n R) (hn:n<=50) (r:iI R H v xs) (r':iI R H w ys) (q:Q (.bl (decide (xs=ys))) H):Ji K false v w H Q:=by
 obtain ⟨t,vs,rfl,ht,p⟩:=r;obtain ⟨t',vs',rfl,ht',p'⟩:=r';have l1:=Paired.length p;have l2:=Paired.length p';refine ⟨t,t',vs,vs',n,_,rfl,rfl,cD.of ht,cD.of ht',hn,fun _=>yx h p p',fun len=>?_,fun len=>?_⟩
 ·have ea:=vJ xs ys;have len':xs.length=ys.length:=by omega
  rw [len',Nat.min_self,beq_self_eq_true,Bool.and_true] at ea;rw [Bool.false_xor,l1,len',ea];exact q
 ·rw [aG (fun z=>len (by rw [l1,l2,z]))] at q;exact q
theorem acz {H:Hp} {Q:VK} {v w:V} {xs ys:List α} (h:RW K n R) (hn:n<=50) (r:iI R H v xs) (r':iI R H w ys) (q:Q (.bl (!decide (xs=ys))) H):Ji K true v w H Q:=by
 obtain ⟨t,vs,rfl,ht,p⟩:=r;obtain ⟨t',vs',rfl,ht',p'⟩:=r';have l1:=Paired.length p;have l2:=Paired.length p';refine ⟨t,t',vs,vs',n,_,rfl,rfl,cD.of ht,cD.of ht',hn,fun _=>yx h p p',fun len=>?_,fun len=>?_⟩
 ·have ea:=vJ xs ys;have len':xs.length=ys.length:=by omega
  rw [len',Nat.min_self,beq_self_eq_true,Bool.and_true] at ea;rw [Bool.true_xor,l1,len',ea];exact q
 ·rw [aG (fun z=>len (by rw [l1,l2,z]))] at q;exact q
end
end Tw
namespace L2
open PySem PySem.Spec PyProof.Rows
section
variable {X:Cx}
def ajn:R2:=fun x y H Q=>∃ a b xs ys,x=.ref a/\y=.ref b/\H a=some (.tup xs)/\H b=some (.tup ys)/\xs.length + ys.length<=sizeLine/\∀ p H',Same H H'->H' p=some (.tup (xs++ys))->Q (.ref p) H'
theorem RX:lE X (binaryOp .Add) ajn:=by
 intro pins s σ H x y v u Q I rx ry h;obtain ⟨a,b,xs,ys,rfl,rfl,ha,hb,hz,q⟩:=h
 by_cases hx:xs=[]
 ·subst hx;cases rx;cases ry;obtain ⟨its,r1,p1,_⟩:=I.tuple (dM.of (K:=X.K) ha);obtain ⟨its2,r2,p2,_⟩:=I.tuple (dM.of (K:=X.K) hb);cases r1;obtain ⟨⟨c1,d1,e1,l1⟩,ho,hc,n,hd⟩:=id p1;obtain ⟨⟨c2,d2,e2,l2⟩,ho2,hc2,n2,hd2⟩:=id p2;simp only at hc hd hc2 hd2;subst hc hd hc2 hd2;exact concat_meets ⟨_,ho,rfl⟩ ⟨_,ho2,rfl⟩ noFill_tuple_add seq_tuple_add PySem.F.slot_tuple_add PySem.F.entry_tuple_add (PySem.F.args_tuple_add_2 _ _) (tuple_addW0 a b _ _ n n2 d1 d2 l1 l2 rfl) ⟨ho,ho2,⟨.ref b,H,I,rfl,q b H (Same.refl _) hb⟩⟩
 ·refine Ry pins s σ H _ _ v u Q I rx ry ⟨a,b,xs,ys,rfl,rfl,dM.of ha,dM.of hb,hx,hz,fun z=>?_,fun _ p hp=>?_⟩
  ·subst z;exact q a H (Same.refl _) (by rw [cJ]; exact ha)
  ·exact q p _ (fun b o e=>by rw [bx (dj e hp)]; exact e) aD
end
def fG (n b:Int):Bool:=decide (Builtin.bitAnd (n / 2 ^ b.toNat) 1=1)
theorem LQ (n b:Nat):fG (n:Int) (b:Int)=n.testBit b:=by
 unfold fG;have e:(n:Int) / 2 ^ ((b:Nat):Int).toNat=((n / 2 ^ b:Nat):Int):=by
  rw [Int.toNat_natCast];simp
 rw [e,bitAnd_pp (Int.natCast_nonneg _) (by decide)];have e2:((n / 2 ^ b:Nat):Int).toNat &&& (1:Int).toNat=n / 2 ^ b % 2:=by
  rw [Int.toNat_natCast];exact Nat.and_one_is_mod _
 rw [e2,Nat.testBit_eq_decide_div_mod_eq]
 by_cases z:n / 2 ^ b % 2=1
 ·simp [z]
 ·have:n / 2 ^ b % 2=0:=by omega
  simp [this]
end L2
namespace Tw
structure Cp where
 s:Int
 gap:Int
 rest:Int
inductive Bh (ν:Type) where
 | no
 | dry (nm:ν)
 | st (ds:List Int)
def gG (cans:Int) (shut:Bool) (l:List Cp) (gU:List Nat):Bool := !(!gU.isEmpty && (shut || decide (cans < (gU.length:Int)))) && gU.all fun k=>(l[k]?.map fun c=>decide (c.rest<=c.s)).getD true
def ji (l:List Cp) (gU:List Nat):List Int:=(List.range l.length).map fun k=>if k ∈ gU then 0 else (l[k]?.map fun c=>c.s + 1).getD 0
def zQ {ν:Type} (nms:List ν) (l:List Cp) (gU:List Nat):Option ν:=(List.range l.length).findSome? fun k=>if (ji l gU)[k]?=l[k]?.map Cp.gap then nms[k]? else none
def d8 {ν:Type} (nms:List ν) (cans:Int) (shut:Bool) (l:List Cp) (gU:List Nat):Bh ν := if gG cans shut l gU then match zQ nms l gU with
  | some nm=>.dry nm
  | none=>.st (ji l gU)
 else .no
def kW (n j:Nat):List Nat:=(List.range n).filter fun k=>j.testBit k
def jQ {ν:Type} (nms:List ν) (cans:Int) (shut:Bool) (l:List Cp) (j:Nat):Option (Int × List Int):=match d8 nms cans shut l (kW l.length j) with
 | .st ds=>some ((j:Int),ds)
 | _=>none
def Fb {ν:Type} (nms:List ν) (cans:Int) (shut:Bool) (l:List Cp):List (Int × List Int):=(List.range (2 ^ l.length)).filterMap (jQ nms cans shut l)
theorem RZ {n j k:Nat}:k ∈ kW n j ↔ k < n/\j.testBit k=true:=by
 unfold kW;rw [mem_filter,mem_range]
theorem Fd {l:List Cp} {gU:List Nat} {k:Nat} {c:Cp} (h:l[k]?=some c):(ji l gU)[k]?=some (if k ∈ gU then 0 else c.s + 1):=by
 have lt:k < l.length:=(aX.mp h).1;unfold ji;rw [aH,List.getElem?_range lt,Option.map_some,h];rfl
end Tw
namespace Tw
open PySem L2
theorem kY {H H':Hp} {D:aB} {o:HO} (s:Same H H') (h:H D=none):Same H (L2.upd H' D o):=fun b u e=>by rw [bx (dj e h)]; exact s b u e
structure uE {α:Type} (R:Rep α):Prop where
 same:∀ {H H':Hp} {v:V} {x:α},R H v x->Same H H'->R H' v x
 upd:∀ {H:Hp} {v:V} {x:α} {D:aB} {zs:List V} {o:HO},R H v x->H D=some (.lst zs)->R (L2.upd H D o) v x
section
variable {K:Fg} {α β γ:Type} {R:Rep α} {S:Rep β} {T:Rep γ}
theorem gJ:uE lQ:=⟨fun h _=>h,fun h _=>h⟩
theorem iV:uE vH:=⟨fun h _=>h,fun h _=>h⟩
theorem qO (s:uE R):uE (vI R):=by
 refine ⟨fun {H H' v x} h q=>?_,fun {H v x D zs o} h q=>?_⟩
 ·obtain ⟨t,vs,e,ht,p⟩:=h;exact ⟨t,vs,e,q _ _ ht,Paired.ig p fun _ _ z=>s.same z q⟩
 ·obtain ⟨t,vs,e,ht,p⟩:=h;exact ⟨t,vs,e,by rw [bx (Gz ht q (by intro z; cases z))]; exact ht,Paired.ig p fun _ _ z=>s.upd z q⟩
theorem qP (s:uE R) (s':uE S):uE (LK R S):=by
 refine ⟨fun {H H' v x} h q=>?_,fun {H v x D zs o} h q=>?_⟩
 ·obtain ⟨t,u,w,e,ht,p,p'⟩:=h;exact ⟨t,u,w,e,q _ _ ht,s.same p q,s'.same p' q⟩
 ·obtain ⟨t,u,w,e,ht,p,p'⟩:=h;exact ⟨t,u,w,e,by rw [bx (Gz ht q (by intro z; cases z))]; exact ht,s.upd p q,s'.upd p' q⟩
theorem LR (s:uE R) (s':uE S) (s'':uE T):uE (Vm R S T):=by
 refine ⟨fun {H H' v x} h q=>?_,fun {H v x D zs o} h q=>?_⟩
 ·obtain ⟨t,u,w,z,e,ht,p,p',p''⟩:=h;exact ⟨t,u,w,z,e,q _ _ ht,s.same p q,s'.same p' q,s''.same p'' q⟩
 ·obtain ⟨t,u,w,z,e,ht,p,p',p''⟩:=h;exact ⟨t,u,w,z,e,by rw [bx (Gz ht q (by intro z; cases z))]; exact ht,s.upd p q,s'.upd p' q,s''.upd p'' q⟩
theorem iI.same (s:uE R) {H H':Hp} {v:V} {xs:List α} (h:iI R H v xs) (q:Same H H'):iI R H' v xs:=by
 obtain ⟨t,vs,e,ht,p⟩:=h;exact ⟨t,vs,e,q _ _ ht,Paired.ig p fun _ _ z=>s.same z q⟩
theorem iR {H:Hp} {vs:List V} {xs:List α} (p:Paired (R H) vs xs) {i:Nat} {x:α} (h:xs[i]?=some x):∃ v,vs[i]?=some v/\R H v x:=by
 have lt:i < vs.length:=by rw [Paired.length p]; exact (aX.mp h).1
 obtain ⟨y,hy,r⟩:=dz p (aC lt);rw [h] at hy;cases hy;exact ⟨_,aC lt,r⟩
theorem m7 (sR:uE R) (sS:uE S) {l D:aB} {H:Hp} {xs:List α} {σ0:St} {g:TG} {te:TE} {Qe:Hp->Prop} (f:α->β) (hl:iI R H (.ref l) xs) (hz:xs.length<=sizeLine) (hD:H D=none) (body:∀ (i:Nat) x v H2,xs[i]?=some x->R H2 v x->Same H H2->∀ Qc:VK,(∀ u H3,Same H2 H3->S H3 u (f x)->Qc u H3)->g v σ0 H2 fun σ2 H'=>kI σ0 σ2/\te σ2 H' Qc) (q:∀ H',Same H H'->iI S H' (.ref D) (xs.map f)->Qe H') : ∃ W:Nat->Nat->List V->Hp->Prop,(∃ m,W 0 m [] (L2.upd H D (.lst [])))/\oU D (KC K l) σ0 g Bx te Qe W:=by
 obtain ⟨l',vs,el,hv,pv⟩:=hl;cases el;have ln:=Paired.length pv;refine kO xs.length hz (fun i acc H'=>Same H H'/\H' D=some (.lst acc)/\Paired (S H') acc ((xs.take i).map f)) ⟨aV hD,aD,.nil⟩ (fun i acc H' le ⟨_,e,p⟩=>⟨?_,e⟩) ?_ ?_
 ·rw [Paired.length p,aq,length_take]; omega
 ·rintro acc H' ⟨s',e,p⟩;rw [bI] at p;exact ⟨⟨vs,cD.of (s' _ _ hv),by omega⟩,q H' s' ⟨D,acc,rfl,e,p⟩⟩
 ·rintro i acc H' lt ⟨s',e,p⟩;have hx:xs[i]?=some xs[i]:=aC lt;obtain ⟨v,Jj,rv⟩:=iR pv hx;have sq:cD K H' l vs:=cD.of (s' _ _ hv);refine ⟨⟨vs,v,sq,Jj⟩,?_⟩;rintro y yq ⟨rfl,hy⟩ Qc k;have ey:=hy vs sq;rw [Jj] at ey;cases ey;refine body i xs[i] v yq hx (sR.same rv s') s' Qc fun u H3 s3 ru=>?_
  have e3:=s3 _ _ e;refine k u H3 e3 ⟨kY (s'.trans s3) hD,aD,?_⟩;rw [take_snoc hx,bf];exact Paired.snoc (Paired.ig p fun _ _ z=>sS.upd (sS.same z s3) e3) (sS.upd ru e3)
theorem Fe (sR:uE R) (sS:uE S) {l D:aB} {H:Hp} {xs:List α} {σ0:St} {g:TG} {tc:TT} {te:TE} {Qe:Hp->Prop} (pr:α->Bool) (f:α->β) (hl:iI R H (.ref l) xs) (hz:xs.length<=sizeLine) (hD:H D=none) (body:∀ (i:Nat) x v H2,xs[i]?=some x->R H2 v x->Same H H2->∀ (Qc:VK) (Qn:Hp->Prop),(pr x=true->∀ u H3,Same H2 H3->S H3 u (f x)->Qc u H3)->(pr x=false->∀ H3,Same H2 H3->Qn H3) -> g v σ0 H2 fun σ2 H'=>kI σ0 σ2/\tc σ2 H' fun b H3=>if b=true then te σ2 H3 Qc else Qn H3) (q:∀ H',Same H H'->iI S H' (.ref D) ((xs.filter pr).map f)->Qe H') : ∃ W:Nat->Nat->List V->Hp->Prop,(∃ m,W 0 m [] (L2.upd H D (.lst [])))/\oU D (KC K l) σ0 g tc te Qe W:=by
 obtain ⟨l',vs,el,hv,pv⟩:=hl;cases el;have ln:=Paired.length pv;refine uP xs.length hz (fun i acc H'=>Same H H'/\H' D=some (.lst acc)/\Paired (S H') acc (((xs.take i).filter pr).map f)) ⟨aV hD,aD,.nil⟩ (fun i acc H' le ⟨_,e,p⟩=>⟨?_,e⟩) ?_ ?_
 ·rw [Paired.length p,aq];exact bh (length_filter_le _ _) (by rw [length_take]; omega)
 ·rintro acc H' ⟨s',e,p⟩;rw [bI] at p;exact ⟨⟨vs,cD.of (s' _ _ hv),by omega⟩,q H' s' ⟨D,acc,rfl,e,p⟩⟩
 ·rintro i acc H' lt ⟨s',e,p⟩;have hx:xs[i]?=some xs[i]:=aC lt;obtain ⟨v,Jj,rv⟩:=iR pv hx;have sq:cD K H' l vs:=cD.of (s' _ _ hv);refine ⟨⟨vs,v,sq,Jj⟩,?_⟩;rintro y yq ⟨rfl,hy⟩ Qc Qn k kn;have ey:=hy vs sq;rw [Jj] at ey;cases ey;refine body i xs[i] v yq hx (sR.same rv s') s' Qc Qn (fun ep u H3 s3 ru=>?_) (fun ep H3 s3=>?_)
  ·have e3:=s3 _ _ e;refine k u H3 e3 ⟨kY (s'.trans s3) hD,aD,?_⟩;rw [take_snoc hx,cX,bf];have ef:[xs[i]].filter pr=[xs[i]]:=by simp [ep]
   rw [ef];exact Paired.snoc (Paired.ig p fun _ _ z=>sS.upd (sS.same z s3) e3) (sS.upd ru e3)
  ·refine kn H3 ⟨s'.trans s3,s3 _ _ e,?_⟩;rw [take_snoc hx,cX];have ef:[xs[i]].filter pr=[]:=by simp [ep]
   rw [ef,cJ];exact Paired.ig p fun _ _ z=>sS.same z s3
end
end Tw
namespace L2
open PySem PySem.Spec PyProof.Rows
section
variable {X:Cx}
end
section
variable {X:Cx}
end
section
variable {X:Cx}
theorem Cj (K:Fg) (hK:autoParam (X.K=K) zau0):IxR X (aiW K):=by
 subst hK;exact gA
theorem qQ (K:Fg) (hK:autoParam (X.K=K) zau0):IxR X (aiX K):=by
 subst hK;exact dJ
end
section
variable {X:Cx} {pins:List (aB × Obj)} {σ:St} {H:Hp} {s:aQ}
end
section
variable {X:Cx} {pins:List (aB × Obj)} {σ:St} {E:aA->aQ->Prop} {Q:VK} {l I S f c':aB} {params:Arguments} {body:Expr} {scope:Scope} {cl:List (Str × aB)} {qual x:Str} {ctv pm:aA} {N':List Str} {cap:List (Option Nat)} {tb:TE}
variable {vs:List V} {kf:Nat->Int} {J:Nat->Hp->Prop}
end
section
variable {X:Cx} {e:Expr} {params:Arguments} {body:Expr} {scope:Scope} {cl:List (Str × aB)} {qual x:Str} {N':List Str} {cap:List (Option Nat)} {ta:TA} {tb:TE} {p pos ar4 kp kp2 dp:Pos} {kd:Nat} {c P:aB}
end
section
variable {P:cA} {w:World} {K:Fg} {mg:Str->Option aA} {base:Heap} {x qual:Str} {st:cY} {f:aB} {fd:dW} {N ps:List Str} {k:Nat} {sp:Sp}
end
end L2
namespace Tw
open PySem L2
section
variable {K:Fg} {β:Type} {S:Rep β}
theorem Ma (sS:uE S) {D:aB} {H:Hp} {n m:Nat} {σ0:St} {g:TG} {te:TE} {Qe:Hp->Prop} (f:Nat->β) (em:m=n) (hz:n<=sizeLine) (hD:H D=none) (body:∀ (i:Nat) H2,i < n->Same H H2->∀ Qc:VK,(∀ u H3,Same H2 H3->S H3 u (f i)->Qc u H3)->g (.int ((i:Nat):Int)) σ0 H2 fun σ2 H'=>kI σ0 σ2/\te σ2 H' Qc) (q:∀ H',Same H H'->iI S H' (.ref D) ((List.range n).map f)->Qe H') : ∃ W:Nat->Nat->List V->Hp->Prop,(∃ m,W 0 m [] (L2.upd H D (.lst [])))/\oU D (Itr 0 m) σ0 g Bx te Qe W:=by
 subst em;refine kO m hz (fun i acc H'=>Same H H'/\H' D=some (.lst acc)/\Paired (S H') acc ((List.range i).map f)) ⟨aV hD,aD,.nil⟩ (fun i acc H' le ⟨_,e,p⟩=>⟨?_,e⟩) ?_ ?_
 ·rw [Paired.length p,aq,bA]
 ·rintro acc H' ⟨s',e,p⟩;exact ⟨(by show m<=m; omega),q H' s' ⟨D,acc,rfl,e,p⟩⟩
 ·rintro i acc H' lt ⟨s',e,p⟩;refine ⟨lt,?_⟩;rintro y yq ⟨rfl,rfl⟩ Qc k;have e1:(0 + (i:Int))=((i:Nat):Int):=Int.zero_add _;rw [e1];refine body i yq lt s' Qc fun u H3 s3 ru=>?_
  have e3:=s3 _ _ e;refine k u H3 e3 ⟨kY (s'.trans s3) hD,aD,?_⟩;rw [cH,bf];exact Paired.snoc (Paired.ig p fun _ _ z=>sS.upd (sS.same z s3) e3) (sS.upd ru e3)
end
end Tw
namespace L2
open PySem
end L2
namespace Tw
open PySem L2
section
variable {α β γ:Type} {R:Rep α} {S:Rep β} {T:Rep γ}
end
end Tw
namespace L2
open PySem
section
variable (prog:cA) (w:World)
end
section
variable {prog:cA} {w:World} {A:c7} {E:aA->aQ->Prop} {s:aQ}
end
section
variable {prog:cA} {w:World} {A:c7} {E:aA->aQ->Prop}
section
variable {h:Heap} {g:Array GenState} {d:Drawn} {t:Nat} {os:OsState} {a:aB} {its:Array aA} {n:Nat} {sl:Array (Option aA)}
end
section
variable {s:aQ}
end
end
section
variable {prog:cA} {w:World} {A:c7} {E:aA->aQ->Prop} {s:aQ}
end
end L2
namespace L2
open PySem PySem.Spec PyProof.Rows
section
variable {X:Cx} {pins:List (aB × Obj)} {σ:St} {H:Hp} {s:aQ}
end
section
variable {X:Cx} {pins:List (aB × Obj)} {σ:St} {H:Hp} {s:aQ}
end
end L2
namespace L2
open PySem
end L2
namespace L2
open PySem PySem.Spec PyProof.Rows
section
variable {X:Cx} {params:Arguments} {body:Expr} {scope:Scope} {cl:List (Str × aB)} {qual x:Str} {ar4:Pos} {c P:aB}
end
section
variable {X:Cx} {CX:xV} {k:Nat} {f:aB} {fd:dW} {ps:List Str} {E:XK} {x:Str} {p pos:Pos} {e:Expr} {es:List Expr} {t:TA}
end
section
variable {X:Cx}
def G9 (K:Fg) (H:Hp) (v:V) (o:Option Str):Prop:=(∃ nm,v=.str nm/\o=some nm)\/(o=none/\(v=.non\/∃ l xs,v=.ref l/\cD K H l xs))
theorem yC (nm:Str):∀ ns:List Str,inV (.str nm) (ns.map V.str)=decide (nm ∈ ns)
 | []=>rfl
 | p::ps=>by
  have ih:=yC nm ps;unfold inV at ih ⊢;rw [cR,any_cons,ih]
  show ((p == nm) || _)=_
  by_cases h:p=nm
  ·simp [h]
  ·have h':¬ nm=p:=fun z=>h z.symm
   simp [h,h']
theorem Hf:∀ ns:List Str,inV .non (ns.map V.str)=false
 | []=>rfl
 | p::ps=>by
  have ih:=Hf ps;unfold inV at ih ⊢;rw [cR,any_cons,ih];rfl
theorem m8 (l:List Str):(l.map V.str).all fL=true:=by
 rw [all_map,all_eq_true];intro x _;rfl
def acA:Option Str->List Str->Bool
 | some nm,ns=>!decide (nm ∈ ns)
 | none,_=>true
def R0 (K:Fg):R2:=fun x y H Q=>∃ (p:aB) (ns:List Str) (o:Option Str),y=.ref p/\cD K H p (ns.map V.str)/\G9 K H x o/\Q (.bl (acA o ns)) H
theorem Jk (hu:X.A.units + 64 < cLine):lE X (compareOp .NotIn) (R0 X.K):=by
 intro pins s σ H x y v u Q I rx ry h;obtain ⟨p,ns,o,rfl,sq,na,q⟩:=h;rcases na with ⟨nm,rfl,rfl⟩ | ⟨rfl,rfl | ⟨l,xs,rfl,sl⟩⟩
 ·refine qJ pins s σ H _ _ v u Q I rx ry ⟨p,_,rfl,.inl sq,rfl,m8 _,?_⟩;rw [yC];exact q
 ·refine qJ pins s σ H _ _ v u Q I rx ry ⟨p,_,rfl,.inl sq,rfl,m8 _,?_⟩;rw [Hf];exact q
 ·cases ry;cases rx;obtain ⟨its,r,pl,hz⟩:=I.list sq;obtain ⟨its2,r2,pl2,hz2⟩:=I.list sl;refine SeqAt.notIn_listAt (fun _=>false) pl.isList (fun w hw=>?_) ⟨.bl _,H,I,rfl,?_⟩
  ·have hw:w ∈ its:=by simpa using hw
   obtain ⟨i,hi⟩:=List.getElem?_of_mem hw;have li:i < (ns.map V.str).length:=by rw [r.length]; exact (aX.mp hi).1
   obtain ⟨u',hu',ru'⟩:=r.get (aC li);rw [hi] at hu';cases hu';rw [List.getElem_map] at ru';obtain ⟨t,rfl⟩:=ru';exact SeqAt.EqAt.str_list _ _ pl2.isList (by rw [show X.A.in1.units=X.A.units + 1 from rfl]; omega)
  ·rw [show its.toArray.any (fun _=>false)=false by simp];exact q
end
section
variable {X:Cx} {CX:xV} {k:Nat} {ps:List Str} {E:XK} {m:Str} {pos apos:Pos} {o:Expr} {ta:TE}
end
end L2
namespace Tw
open PySem PySem.Spec PyProof.Rows L2
section
variable {α:Type} [DecidableEq α] {R:Rep α}
open Classical in
open Classical in
end
section
variable {X:Cx} {α:Type} [DecidableEq α] {R:Rep α} {n:Nat}
end
end Tw
namespace L2
open PySem PySem.Spec PyProof.Rows
section
variable {pg:cA} {w:World} {A:c7} {E:aA->aQ->Prop} {h:Heap} {g:Array GenState} {d:Drawn} {os:OsState} {t:Nat}
variable {q nm:Str} {N C:aB} {bmB bm bs:List aA} {hdct:Bool} {sn:List Str} {sub:List aA} {ab:Bool} {col:Option Bool} {dd:Option aB} {k0 k1 k2 k3 k5:Option aA} {B newId initId:String}
theorem xJ (F:ExcBaseFacts B newId initId bmB) (T:OwnTail h bmB bm) {mN:Str->Option aA} {xs:List aA} {fI:aB} {oI:Obj} {Q:Fin->aQ->Prop} (hcl:h.get? C=some (excClassObj nm q C N bs bm hdct sn sub ab col dd k0 k1 k2 k3 k5 newId)) (hn:h.Ns N mN) (hi:mN "__init__"=some (.ref fI)) (hfI:h.get? fI=some oI) (hfc:oI.cls=.type "function") (hq:∀ h' e,Heap.MadeExcOf h h' e (.ref C) xs->wpAny (model pg w) A (call (.ref fI) (.ref e::xs)) (fun r s'=>r=.none/\Q (.done (.ret (.ref e))) s') E ⟨h',g,d,t,os⟩) (hxs:xs.length<=sizeLine) : wpAny (model pg w) A (Builtin.«type.__call__» ⟨.ref C::xs,[]⟩) Q E ⟨h,g,d,t,os⟩:=by
 repeat (first | with_reducible refine wpAny_loadPart_at hcl ?_ | with_reducible refine wpAny_madeBy_exc hcl ?_ | wp_step)
 refine codeAny_call_builtin_code (Code.quiet_builtin _ F.quiet) (wpAny_check_new_subT F T hcl (codeAny_exc_new_subT F T hcl ?_ hxs))
 show wpAny _ _ _ _ _ _
 let tu:Obj:={ cls:=.type "tuple",data:=.seq xs.toArray }
 let ob:Obj:={ cls:=.ref C,data:=.fields #[.ref h.objs.size,.none,.none,.none,.bool false,.none] }
 have up:∀ b o,h.get? b=some o->((h.push tu).push ob).get? b=some o:=fun b o e=>ak ob (ak tu e)
 have hC1:=up _ _ hcl;have hf1:=up _ _ hfI;have hn1:((h.push tu).push ob).Ns N mN:=hn.keeps up;have T1:=T.keeps up;have at1:((h.push tu).push ob).get? (h.objs.size + 1)=some ob:=by heap_get
 have own:(Value.ref C::bm).contains (.ref C)=true:=by simp
 unfold isInstance
 repeat (first | with_reducible refine wpAny_loadPart_at at1 ?_ | (with_reducible refine wpAny_isSubtype_exc hC1 ?_; rw [own]) | wp_step)
 change wpAny _ _ (typeLookup (.ref C) _) _ _ _; refine wpAny_typeLookup_tail hC1 hn1 T1 F.mroIs F.init.lookup ?_
 rw [hi];refine wpAny_holding (aj ?_); unfold bindSpecial;refine aj (wpAny_typeOf (T:="function") ⟨_,hf1,hfc⟩ ?_);rw [if_pos (by decide)];refine au (aj (bW (hq _ (h.objs.size + 1) ⟨up,Heap.get?_none_of_le (Nat.le_succ _),h.objs.size,at1,Heap.get?_none_of_le (aN _),?_⟩) (fun r s' hr=>?_) fun _ _ x=>x))
 ·exact ak ob (Heap.get?_push_at rfl rfl)
 ·obtain ⟨rfl,hQ⟩:=hr
  wp_walk
  exact hQ
theorem Mf (F:ExcBaseFacts B newId initId bmB) (T:OwnTail h bmB bm) {mN:Str->Option aA} {xs:List aA} {fI:aB} {oI:Obj} {Q:aA->aQ->Prop} (hcl:h.get? C=some (excClassObj nm q C N bs bm hdct sn sub ab col dd k0 k1 k2 k3 k5 newId)) (hn:h.Ns N mN) (hi:mN "__init__"=some (.ref fI)) (hfI:h.get? fI=some oI) (hfc:oI.cls=.type "function") (hq:∀ h' e,Heap.MadeExcOf h h' e (.ref C) xs->wpAny (model pg w) (A.under (.builtin "type.__call__" ⟨.ref C::xs,[]⟩)) (call (.ref fI) (.ref e::xs)) (fun r s'=>r=.none/\Q (.ref e) s') E ⟨h',g,d,t,os⟩) (hxs:xs.length<=sizeLine) : wpAny (model pg w) A (call (.ref C) xs) Q E ⟨h,g,d,t,os⟩:=by
 have f1:=tc_lookup;have f2:=tc_bind (.ref C);have isT:(⟨h,g,d,t,os⟩:aQ).TypeIs (.ref C) "type":=⟨_,hcl,rfl⟩;refine wpAny_call (codeAny_of_tree ?_); change wpAny _ _ (callAny (.ref C) _) _ _ _
 repeat (any_goals (first | assumption | with_reducible refine wpAny_loadPart_at hcl ?_ | wp_step))
 refine ⟨rfl,?_⟩;exact codeAny_call_builtin_at (Code.quiet_builtin _ (by decide +kernel)) entry_typeCall (wpAny_check_type_call_sub hcl (xJ F T hcl hn hi hfI hfc (fun h' e hm=>hq h' e hm) hxs))
theorem Jl {M:Model} {s:aQ} {env:Env} {x:Sem aA} {Q:Flow->aQ->Prop} (hbase:bm.contains (.type "BaseException")=true) (hh:A.handled=none) (hx:wpAny M A x (fun v s₁=>∃ e a0 dx sl,v=.ref e/\s₁.heap.get? C=some (excClassObj nm q C N bs bm hdct sn sub ab col dd k0 k1 k2 k3 k5 newId) /\ s₁.heap.get? e=some { cls:=.ref C,dict:=dx,data:=.fields #[a0,.none,.none,.none,.bool false,.none],slots:=sl }/\E (.ref e) s₁) E s) : wpAny M A (raiseStmt env (some x) none) Q E s:=by
 have isB:(Value.ref C::bm).contains (.type "BaseException")=true:=by rw [List.contains_cons,hbase,Bool.or_true]
 unfold raiseStmt;refine aj (bW hx (fun v s₁ h₁=>?_) fun _ _ x=>x);obtain ⟨e,a0,dx,sl,rfl,hcl,he,hE⟩:=h₁;obtain ⟨hp,g1,d1,tk,o1⟩:=s₁
 repeat (first | with_reducible refine wpAny_loadPart_at he ?_ | with_reducible refine wpAny_loadPart_at hcl ?_ | (with_reducible refine wpAny_isSubtype_exc hcl ?_; rw [isB]) | wp_step)
 exact wpAny_raiseNew_none (E:=E) hh hE
end
def del (H:Hp) (e:aB):Hp:=fun b=>if b=e then none else H b
theorem m9 {H:Hp} {e b:aB} (h:b≠e):del H e b=H b:=by unfold del; rw [if_neg h]
theorem Ck {H:Hp} {e:aB}:del H e e=none:=by unfold del; rw [if_pos rfl]
def jL (e C:aB) (dx:Option aB):HO:=.ext fun h=>∃ a0 sl,h.get? e=some { cls:=.ref C,dict:=dx,data:=.fields #[a0,.none,.none,.none,.bool false,.none],slots:=sl }
theorem zR {P:cA} {w:World} {H:Hp} {h:Heap} {e C:aB} {dx:Option aB} {a0:aA} {sl:Array (Option aA)} (he:h.get? e=some { cls:=.ref C,dict:=dx,data:=.fields #[a0,.none,.none,.none,.bool false,.none],slots:=sl }):eE P w H h e (jL e C dx) := ⟨⟨a0,sl,he⟩,⟨_,he⟩,fun _ _ ⟨a,l,y⟩ k=>⟨a,l,k _ y⟩⟩
section
variable {X:Cx} {pins:List (aB × Obj)} {σ:St} {H:Hp} {s:aQ}
theorem Inv.R3 {e C:aB} {dx:Option aB} (I:Inv X pins σ H s) (he:H e=some (jL e C dx)):Inv X pins σ (del H e) s:=by
 have ne:∀ b u,H b=some u->(∀ φ,u≠.ext φ)->b≠e:=fun b u q n z=>by
  rw [z,he] at q;cases q;exact n _ rfl
 have:=I.un (t':=s.toks) (H':=del H e) (h':=s.heap) ⟨fun _ _ q _ _ _=>q,fun _ o q _ _ _=>⟨o.slots,q⟩,fun b _ _ n _=>by unfold del; split; rfl; exact n,fun b o q _=>⟨o,q⟩,fun b xs q=>by rw [m9 (ne b _ q fun _ z=>by cases z)]; exact q,
  fun b o u q=>by rw [m9 (ne b _ q fun _ z=>by cases z)]; exact q,fun b ps q=>⟨#[],by rw [m9 (ne b _ q fun _ z=>by cases z),q]; simp⟩⟩ fun b u q=>by
   have hb:b≠e:=fun z=>by rw [z,Ck] at q; cases q
   rw [m9 hb] at q;exact (I.hok b u q).stay (fun _ _ _ k=>k) (fun c k=>by rw [m9 (ne c _ k fun _ z=>by cases z)]; exact k) fun c xs k=>by rw [m9 (ne c _ k fun _ z=>by cases z)]; exact k
 exact this
end
theorem ajp {K:Fg} {h:Heap} {N:aB} {m:Str->Option aA} {n:Str} {v:aA} (X:K.In h) (G:h.Ns N m) (e:nsIn K N n=some (some v)):m n=some v:=by
 obtain ⟨ob,es,ep,at_,dat,_,find⟩:=G;unfold nsIn at e
 split at e
 ·rename_i c dd es' k sl look
  have same:=(X _ _ look).symm.trans at_;cases same;cases dat
  split at e
  ·rename_i en got
   cases e;have z:=find n;unfold nsFind findBy at z;rw [<- Array.find?_toList,got] at z;exact z.symm
  ·split at e <;> cases e
 ·cases e
theorem acB {K:Fg} {h:Heap} {f:aB} (X:K.In h) (e:typeIn K (.ref f)=some (.type "function")):∃ o,h.get? f=some o/\o.cls=.type "function":=by
 unfold typeIn at e;obtain ⟨o,ho,hc⟩:=bB.mp e;exact ⟨o,X _ _ ho,hc⟩
structure acC (K:Fg) (C fI:aB) (bmB:List aA) (newId:String):Prop where
 ex:∃ dd nm bs up ns qn hd sn sub ab col a b c d f,K.lookup C=some ⟨.type "type",dd,.cls ⟨nm,bs,.ref C::up,ns,qn,hd,sn,sub,ab,col,false⟩,#[a,b,c,d,some (.builtin newId),f]⟩/\tailIn K bmB up=true/\nsOkIn K ns=true/\nsIn K ns "__init__"=some (some (.ref fI))
noncomputable def R4 (C:aB) (E:XK) (sp:Sp) (ta:TA):TS:=fun _ σ H=>ta σ H fun vs H1=>vs.length<=sizeLine/\∀ e,H1 e=none->sp (.ref e::vs) (upd H1 e (jL e C none)) (fun v H2=>v=.non/\∃ dx,H2 e=some (jL e C dx)/\E (.ref C) dx (del H2 e)) fun _ _ _=>False
section
variable {X:Cx} {E:XK} {x:Str} {C fI:aB} {fd:dW} {k:Nat} {ps:List Str} {sp:Sp} {bmB:List aA} {B newId initId:String} {np cpos pos:Pos} {e₀:Expr} {rest:List Expr} {ta:TA}
theorem rQ (acc:rM X E) (hc:X.calm=true) (hg:Gl X x) (hm:X.mg x=some (.ref C)) (q:acC X.K C fI bmB newId) (hfn:isFn X.K (.ref fI)=true) (FB:ExcBaseFacts B newId initId bmB) (F:cG X.prog X.w X.K X.mg X.base (fu X.prog X.w) k fI fd ps sp) (hr:d7 (k + 1) X.A) (hb:Binds X.K fd ps []) (ha:PA X (e₀::rest) ta) (ex0:autoParam (X.ex=[]) zau0) (he:autoParam (starEach (e₀::rest) X.env=(false,eval e₀ X.env)::starEach rest X.env) zau0) (hpl:autoParam ((backTo cpos (starEach rest X.env)).any (·.1)=false) zau0) (hdb:autoParam ((x == ("__debug__":Str))=false) zau1) : PS X (.Raise (some (.Call (.Name x np) (e₀::rest) [] cpos)) none pos) (R4 C E sp ta):=by
 intro pins s σ H D I h;obtain ⟨dd,nm,bs,up,N,qn,hd,sn,sub,ab,col,a,b,c,d,f,look,tl,ok,ini⟩:=q.ex;have hC:=I.mod.Ea C _ look;have hN:=Heap.Ns.of_isNs (isNs_of_in I.mod.Ea ok);have T:=tail_of_in I.mod.Ea tl;have hty:typeIn X.K (.ref fI)=some (.type "function"):=beq_iff_eq.mp hfn;have hin:X.base.nsMap N "__init__"=some (.ref fI):=ajp I.mod.Ea hN ini;rw [arm_exec_Raise];refine aj (wpAny_standAt (Jl (C:=C) (nm:=nm) (q:=qn) (N:=N) (bs:=bs) (bm:=up) (hdct:=hd) (sn:=sn) (sub:=sub) (ab:=ab) (col:=col) (dd:=dd) (k0:=a) (k1:=b) (k2:=c) (k3:=d) (k5:=f) (newId:=newId) (T.hasType FB.hasBase) (I.ok.hd hc) ?_));refine aj (bW (wpAny_Call_ofName (iz I hg hm ?_ hdb)) (fun v s₃ h₃=>aj (wpAny_standAt (au h₃))) fun _ _ z=>z);have hA:=ha cpos pins s σ H _ I h;rw [he] at hA ⊢;unfold callWith;refine aj (wpAny_holding (Calls.evalArgs_plain (d9 hA fun us s2 h2=>aj (wpAny_standAt ?_))));obtain ⟨vs,H1,I1,rv,hz,hE⟩:=h2;have hall:((backTo cpos ((false,eval e₀ X.env)::starEach rest X.env)).any (·.1) || (backToKw cpos (keywordEach [] X.env)).any (·.1.isNone))=false:=by
  show ((false || (backTo cpos (starEach rest X.env)).any (·.1)) || false)=false
  rw [hpl];rfl
 obtain ⟨hp,g0,d0,tk,o0⟩:=s2;have hC1:=I1.bk _ _ hC;obtain ⟨oI,hfI,hfc⟩:=acB I1.j7 hty;simp only [hall];refine aj (wpAny_keeperOf_exc hC1 ?_);refine aj (Mf FB (T.keeps I1.bk) hC1 (hN.keeps I1.bk) hin hfI hfc (fun h' e hm'=>?_) (by show us.length<=sizeLine; rw [<- rv.length]; exact hz));have I2:Inv X pins σ H1 ⟨h',g0,d0,tk,o0⟩:=I1.kept (t':=tk) hm'.keeps;obtain ⟨t,hte,_,_⟩:=hm'.there;have lo:=I1.iD hm'.new;have hex:e ∉ X.ex:=by rw [ex0]; simp
 have I3:=I2.adopt (b:=e) (o:=jL e C none) lo hex (zR hte);have r2:Vals (V.ref e::vs) (Value.ref e::us):=.cons rfl rv;have hq:=hE e lo.1;have hl:(Value.ref e::us).length=ps.length:=by
  have z:=r2.length;rw [F.len _ _ _ _ hq] at z;exact z.symm
 have hbs:=hb ⟨h',g0,d0,tk,o0⟩ (Value.ref e::us) I3.j7 (by rw [cJ]; exact hl);rw [cJ] at hbs;refine wpAny_call (cg (F.run _ X.stack _ _ ⟨Value.ref e::us,[]⟩ (Value.ref e::us) _ _ _ (hr.make C us []) (I3.env0.make C us []) hbs r2 hq) fun r s' hq'=>?_);cases r with
 | error ev =>
  obtain ⟨_,_,_,_,_,_,_,_,_,_,_,_,_,_,_,z⟩:=hq';exact z.elim
 | ok fl =>
  cases fl with
  | ret u =>
   obtain ⟨v,H',I4,rv',ev,dx,hx,hE'⟩:=I3.after hq';subst ev;obtain ⟨a0,sl,hoe⟩:=(show eE X.prog X.w H' s'.heap e (jL e C dx) from I4.hok e _ hx).1;refine ⟨rv',aj (wpAny_holding (wpAny_point (au ⟨e,a0,dx,sl,rfl,I4.bk _ _ hC,hoe,?_⟩)))⟩;exact acc pins σ (del H' e) s' e (.ref C) dx (I4.R3 hx) ⟨none,⟨_,_,hoe,rfl,rfl,rfl,rfl⟩,⟨Ck,lo.2⟩,fun _ z=>nomatch z⟩ hE'
  | next=>exact False.elim hq'
  | brk=>exact False.elim hq'
  | cont=>exact False.elim hq'
end
section
variable {pg:cA} {w:World} {A:c7} {E:aA->aQ->Prop} {h:Heap} {g:Array GenState} {d:Drawn} {os:OsState} {t:Nat}
variable {q nm:Str} {N C:aB} {bmB bm bs:List aA} {hdct:Bool} {sn:List Str} {sub:List aA} {ab:Bool} {col:Option Bool} {dd:Option aB} {k0 k1 k2 k3 k5:Option aA} {B newId initId:String}
theorem Jm (F:ExcBaseFacts B newId initId bmB) (T:OwnTail h bmB bm) {e:aB} {a0 v:aA} {dx:Option aB} {sl:Array (Option aA)} {Q:aA->aQ->Prop} (hcl:h.get? C=some (excClassObj nm q C N bs bm hdct sn sub ab col dd k0 k1 k2 k3 k5 newId)) (he:h.get? e=some { cls:=.ref C,dict:=dx,data:=.fields #[a0,.none,.none,.none,.bool false,.none],slots:=sl }) (hq:∀ h' a1,(∀ b o,b≠e->h.get? b=some o->h'.get? b=some o)->h'.get? e=some { cls:=.ref C,dict:=dx,data:=.fields #[a1,.none,.none,.none,.bool false,.none],slots:=sl }->Q .none ⟨h',g,d,t,os⟩) : wpAny (model pg w) A (call (.builtin initId) [.ref e,v]) Q E ⟨h,g,d,t,os⟩:=by
 refine wpAny_call (codeAny_call_builtin F.init.plain F.initEntry (wpAny_check_init_subT F T hcl he rfl ?_))
 wp_walk
 have up:=he;cases a0 <;> first | refine wpAny_letGo (au ?_) | refine au (au ?_)
 all_goals
  refine hq _ (.ref h.objs.size) (fun b o nb k=>?_) ?_
  ·rw [Heap.get?_update_other _ _ (Ne.symm nb)];exact ak _ k
  ·rw [Heap.get?_update_self _ (ak _ he) rfl];rfl
end
def Mg:List aA->Bool
 | [.type a,.type b,.type c,.type d]=>a == "ValueError" && b == "Exception" && c == "BaseException" && d == "object"
 | .ref _::r=>Mg r
 | _=>false
def zT (K:Fg) (C:aB):Bool:=(clsIn K C).any fun cd=>Mg cd.mro
theorem Hg:∀ {l:List aA},Mg l=true->l.contains (.type "object")=true/\∀ self,refuseLoop self "__setattr__" l=pure ()
 | [.type a,.type b,.type c,.type d],e=>by
  simp only [Mg,Bool.and_eq_true,beq_iff_eq] at e;obtain ⟨⟨⟨rfl,rfl⟩,rfl⟩,rfl⟩:=e;exact ⟨PySem.F.store_ValueError.hasOwner,PySem.F.store_ValueError.passes⟩
 | .ref c::r,e=>by
  have ih:=Hg (l:=r) (by simpa only [Mg] using e);exact ⟨by rw [List.contains_cons,ih.1,Bool.or_true],fun self=>by rw [refuseLoop_ref]; exact ih.2 self⟩
theorem acD {prog:cA} {w:World} {A:c7} {s:aQ} {K:Fg} {x C:aB} {v:aA} {R:Result->aQ->Prop} {ox:Obj} {name:Str} {tk:Tok} (X:K.In s.heap) (I:InstAt s.heap x ox C none) (hp:zT K C=true) (ht:takerIn K C name=some none) (h:∀ b,wpAny (model prog w) A.in1 (Builtin.ObjectAttr.storeInOwnDict (.ref x) (.ref C) (.str name tk) name v b) (fun fin s'=>match fin with | .done g=>R (.ok g) s' | .again c'=>c'.quiet=true/\codeAny (model prog w) A c' R s') (fun e s'=>R (.error e) s') s):codeAny (model prog w) A (.call (.builtin "object.__setattr__") ⟨[.ref x,.str name tk,v],[]⟩) R s:=by
 have F0:=PySem.F.store_object;obtain ⟨cd,hc,ho⟩:=any_some hp;obtain ⟨has,pass⟩:=Hg ho;have full:cd.mro.isEmpty=false:=by
  cases q:cd.mro with
  | nil=>rw [q] at has; cases has
  | cons _ _=>rfl
 have isObj:mroIn K C (.type "object")=some true:=by
  show (clsIn K C).bind _=_
  rw [hc,Option.bind_some,if_neg (by rw [full]; decide),has]
 have sub:Looks (model prog w) s.heap (isInstance (.ref x) (.type "object")) true:=I.type.andThen (PySem.W.looks_mroIn X isObj);refine codeAny_call_builtin F0.slot.plain F0.entry (@check_slot (model prog w) _ _ s "object.__setattr__" "object" "__setattr__" (.ref x) [.str name tk,v] [] _ F0.kind F0.split sub (F0.args (.ref x) (.str name tk) v) (?_));obtain ⟨attr,ha,hq⟩:=Option.bind_eq_some_iff.mp ht;have mro:Looks (model prog w) s.heap (mroOf (.ref C)) cd.mro:=(looks_clsIn X hc).andThen .now;have taker:Looks (model prog w) s.heap (Builtin.ObjectAttr.storeTaker? attr) none:=by
  cases attr with
  | none=>exact .now
  | some a =>
   obtain ⟨b,hb,eb⟩:=bB.mp hq;refine (PySem.W.looks_takesIn X hb).andThen ?_;cases b with
   | true=>cases eb
   | false=>exact .now
 rw [PySem.W.osa_eq,refuse_eq];refine aj (aj (I.type.here (aj (mro.here (by
  rw [pass];exact au (aj (I.type.here (aj ((looks_findIn X ha).here (aj (taker.here (h _))))))))))))
section
variable {prog:cA} {w:World} {A:c7} {E:aA->aQ->Prop} {s:aQ} {K:Fg} {e C:aB} {name:Str} {v:aA}
theorem R5 {a0:aA} {sl:Array (Option aA)} {Q:Unit->aQ->Prop} (X:K.In s.heap) (he:s.heap.get? e=some { cls:=.ref C,dict:=none,data:=.fields #[a0,.none,.none,.none,.bool false,.none],slots:=sl }) (hs:findIn K (.ref C) "__setattr__"=some (some (.builtin "object.__setattr__"))) (hp:zT K C=true) (ht:takerIn K C name=some none) (hh:hasDictIn K C=true) (h:∀ h' tk,(∀ b o,b≠e->s.heap.get? b=some o->h'.get? b=some o)->h'.get? e=some { cls:=.ref C,dict:=some s.heap.objs.size,data:=.fields #[a0,.none,.none,.none,.bool false,.none],slots:=sl } -> h'.Ns1 s.heap.objs.size (fun y=>if y=name then some v else none)->Q () { s with heap:=h',toks:=tk }) : wpAny (model prog w) A (setAttr (.ref e) name v) Q E s:=by
 have J:InstAt s.heap e { cls:=.ref C,dict:=none,data:=.fields #[a0,.none,.none,.none,.bool false,.none],slots:=sl } C none:=⟨he,rfl,rfl,trivial⟩;refine set_plain X J hs (acD (s:={ s with toks:=s.toks + 1 }) X J hp ht fun b=>?_);obtain ⟨cd,hc,hd'⟩:=any_some hh;refine aj (au (aj (aj (wpAny_loadPart he (aj (Looks.here (s:={ s with toks:=s.toks + 1 }) (looks_clsIn X hc) ?_))))));rw [hd'];have Kg:(s.heap.push { cls:=.type "dict",data:=.dict #[] }).get? e=some { cls:=.ref C,dict:=none,data:=.fields #[a0,.none,.none,.none,.bool false,.none],slots:=sl }:=ak _ he;have hes:e≠s.heap.objs.size:=Nat.ne_of_lt (Heap.lt_size he);obtain ⟨h0,g0,d0,t0,o0⟩:=s;refine aj (wpAny_alloc' (aj (wpAny_update' Kg (au ?_))))
 let hU:Heap:=(h0.push { cls:=.type "dict",data:=.dict #[] }).update e fun o=>{ cls:=o.cls,dict:=some h0.objs.size,data:=o.data,slots:=o.slots }
 have hgd:hU.get? h0.objs.size=some { cls:=.type "dict",data:=.dict #[] }:=(Heap.get?_update_ne _ _ _ _ hes.symm).trans (Heap.get?_push_at rfl rfl);have hnd:hU.Ns h0.objs.size (fun _=>none):=⟨_,#[],_,hgd,rfl,fun e he=>absurd he (by simp),fun _=>rfl⟩;have hue:hU.get? e=some { cls:=.ref C,dict:=some h0.objs.size,data:=.fields #[a0,.none,.none,.none,.bool false,.none],slots:=sl }:=Heap.get?_update_self _ Kg rfl;refine aj (au (aj (wpAny_nsSet1 (s:=⟨hU,g0,d0,t0 + 1,o0⟩) (Heap.Ns1.of_empty hnd) fun h' hn' hs'=>?_)));obtain ⟨ob,es,ep,hob,hdat,ar5⟩:=hn'.count (Within.cons name v Within.nil);refine aj (wpAny_lookBehind hob (by rw [hdat]; exact pastItsLine_dict (bh ar5 (by rw [length_cons,List.length_nil,sizeLine_eq]; omega))) ?_);refine au (h h' _ (fun b o nb k=>?_) ((hs'.2 e hes).trans hue) hn');exact (hs'.2 b (Nat.ne_of_lt (Heap.lt_size k))).trans ((Heap.get?_update_ne _ _ _ _ nb).trans (ak _ k))
end
theorem Inv.R6 {X:Cx} {pins:List (aB × Obj)} {σ:St} {H:Hp} {s:aQ} {e C:aB} {dx:Option aB} {h':Heap} {t':Nat} {a1:aA} {sl:Array (Option aA)} (I:Inv X pins σ H s) (he:H e=some (jL e C dx)) (k:∀ b o,b≠e->s.heap.get? b=some o->h'.get? b=some o) (new:h'.get? e=some { cls:=.ref C,dict:=dx,data:=.fields #[a1,.none,.none,.none,.bool false,.none],slots:=sl }):Inv X pins σ H { s with heap:=h',toks:=t' }:=by
 have ne:∀ b,H b=none->b≠e:=fun b n z=>by rw [z,he] at n; cases n
 refine I.un (t':=t') (H':=H) ⟨fun b o q n _ _=>k b o (ne b n) q,fun b o q n _ _=>⟨o.slots,k b o (ne b n) q⟩,fun _ _ _ n _=>n,fun b o q _=>?_,fun _ _ q=>q,fun _ _ _ q=>q,fun _ ps q=>⟨#[],by rw [q]; simp⟩⟩ fun b u q=>?_
 ·by_cases z:b=e
  ·rw [z]; exact ⟨_,new⟩
  ·exact ⟨o,k b o z q⟩
 ·by_cases z:b=e
  ·subst z;rw [he] at q;cases q;exact zR new
  ·refine (I.hok b u q).stay (fun c o hc r=>k c o ?_ r) (fun _ r=>r) fun _ _ r=>r
   rcases hc with rfl | hc
   ·exact z
   ·intro y;rw [y,he] at hc;cases hc
structure ajq (K:Fg) (G:aB) (id:String):Prop where
 rd:readsIn K G (.type "type")=true
 ga:specialIn K (.ref G) "__getattribute__"=some (some (.builtin "type.__getattribute__"))
 at_:findCls K (.ref G) (.type "type") "__init__"=some (.val (.builtin id))
 hd:handedIn (.builtin id)=true
def acE (C:aB) (ta:TA):TE:=fun σ H Q=>ta σ H fun vs H1=>∃ e v dx,vs=[.ref e,v]/\H1 e=some (jL e C dx)/\Q .non H1
section
variable {X:Cx} {x:Str} {G C fI:aB} {bmB:List aA} {B newId initId:String} {p pos apos:Pos} {e:Expr} {es:List Expr} {t:TA}
theorem Mh {pl:Sem Bool} (hx:X.mg x=some (.ref G)) (hm:ajq X.K G initId) (q:acC X.K C fI bmB newId) (FB:ExcBaseFacts B newId initId bmB) (ha:PA X (e::es) t) (hg:autoParam (Gl X x) zau0) (hdb:autoParam ((x == ("__debug__":Str))=false) zau1) (hst:autoParam (starEach (e::es) X.env=(false,eval e X.env)::starEach es X.env) zau0) (hpl:autoParam ((backTo pos (starEach es X.env)).any (·.1)=false) zau0) (ht:autoParam (eval (.Call (.Attribute (.Name x p) "__init__" apos) (e::es) [] pos) X.env=(do
   let ov <- eval (.Name x p) X.env
   standAt apos.atName
   let (f,first) <- holding [ov] (getMethod ov "__init__" pl)
   callWith pos f first (backTo pos (starEach (e::es) X.env)) (backToKw pos (keywordEach [] X.env)))) zau0) :
  PE X (.Call (.Attribute (.Name x p) "__init__" apos) (e::es) [] pos) (acE C t):=by
 intro pins s σ H Q I h;refine methodCall_KW (pl:=pl) (iz I hg hx ?_ hdb) ht;refine method_cls I.j7 hm.ga (cls_value I.j7 hm.rd hm.at_ hm.hd ?_);have I1:=I.tok (s.toks + 1);refine callWith_builtin1 (d9 (ha pos pins _ σ H _ I1 h) fun us s2 ⟨vs,H2,I2,r,e',v,dx,ev,he,q2⟩=>?_) hst hpl;subst ev;obtain ⟨u1,u2,rfl,r1,r2⟩:=Vals.two r;obtain rfl:u1=Value.ref e':=r1;obtain ⟨dd,nm,bs,up,N,qn,hd,sn,sub,ab,col,a,b,c,d,f,look,tl,ok,ini⟩:=q.ex;obtain ⟨a0,sl,hoe⟩:=(show eE X.prog X.w H2 s2.heap e' (jL e' C dx) from I2.hok e' _ he).1;obtain ⟨hp,g0,d0,tk,o0⟩:=s2;refine Jm FB ((tail_of_in I2.mod.Ea tl).keeps I2.bk) (I2.bk _ _ (I2.mod.Ea C _ look)) hoe fun h' a1 k new=>?_
 exact ⟨.non,H2,I2.R6 (t':=tk) he k new,rfl,q2⟩
end
def ajr (te:TE):TE:=fun σ H Q=>te σ H fun x H1=>∃ i,x=.int i/\i.natAbs.log2 < 100/\∀ z,Q (.str z) H1
theorem R7 {X:Cx} {a b:Str} {k1 k3:Nat} {p1 p2 p3 pos:Pos} {e:Expr} {te:TE} (he:PE X e te) (la:autoParam (a.length<=1000) zau4) (lb:autoParam (b.length<=1000) zau4) : PE X (.JoinedStr [.Constant (.str a) k1 p1,.FormattedValue e (-1) none p2,.Constant (.str b) k3 p3] pos) (ajr te):=by
 intro pins s σ H Q I h;have big:10000<=sizeLine:=by decide
 have l0:(Str.empty++a).length=a.length:=by rw [strLen_append]; exact Nat.zero_add _
 refine JoinedStr_many (joinParts_cons (Calls.Constant_str ⟨by rw [l0]; omega,joinParts_cons (FormattedValue_plain (d9 (he pins _ σ H _ (I.tok _) h) fun u s1 ⟨x,H1,I1,r,i,ex,li,q⟩=>?_))⟩));subst ex;obtain ⟨tk,rfl⟩:=r;have lt:(Str.ofString (toString i)).length<=101:=by
  have:=int_text_length_le (a:=i) (k:=100) (by decide) li;rw [PySem.ofString_length];exact this
 refine formatField_int_small (by omega) ⟨by rw [strLen_append,l0]; show a.length + (Str.ofString (toString i)).length<=sizeLine; omega,joinParts_cons (Calls.Constant_str ⟨by rw [strLen_append,strLen_append,l0]; show a.length + (Str.ofString (toString i)).length + b.length<=sizeLine; omega,joinParts_nil ?_ (by rw [strLen_append,strLen_append,l0]; show a.length + (Str.ofString (toString i)).length + b.length<=sizeLine; omega)⟩)⟩;exact ⟨.str _,H1,I1.tok _,⟨_,rfl⟩,q _⟩
structure ajs (K:Fg) (C:aB) (f:Str):Prop where
 hs:findIn K (.ref C) "__setattr__"=some (some (.builtin "object.__setattr__"))
 hp:zT K C=true
 ht:takerIn K C f=some none
 hh:hasDictIn K C=true
noncomputable def ar6 (K:Fg) (ta tv:TE) (f:Str):TS:=fun D σ H=>tv σ H fun y H1=>ta σ H1 fun x H2=>∃ e C,x=.ref e/\H2 e=some (jL e C none)/\ajs K C f/\∀ dx,H2 dx=none->D.nx σ (upd (upd H2 dx (.xd [(f,y)])) e (jL e C (some dx)))
theorem acF {X:Cx} {o value:Expr} {f:Str} {ta tv:TE} {pos pos':Pos} (ha:PE X o ta) (hv:PE X value tv) (hs:swapsWith value (some (.Attribute o f pos')) pos.line X.env=pure false):PS X (.Assign [.Attribute o f pos'] value pos) (ar6 X.K ta tv f):=by
 intro pins s σ H D I h;refine plainObj_wpAny_Assign_Attribute (d9 (hv pins s σ H _ I h) fun u s1 ⟨y,H1,I1,ry,q⟩=>d9 (ha pins s1 σ H1 _ I1 q) fun ov s2 ⟨x,H2,I2,rx,e,C,ex,he,ca,q2⟩=>?_) hs;subst ex;obtain rfl:ov=Value.ref e:=rx;obtain ⟨a0,sl,hoe⟩:=(show eE X.prog X.w H2 s2.heap e (jL e C none) from I2.hok e _ he).1;refine R5 I2.j7 hoe ca.hs ca.hp ca.ht ca.hh fun h' tk k new nd=>?_
 have hn:H2 s2.heap.objs.size=none:=I2.hok.fresh (aN _);have nde:s2.heap.objs.size≠e:=fun z=>by rw [z,he] at hn; cases hn
 have ne1:∀ b,H2 b=none->b≠e:=fun b n z=>by rw [z,he] at n; cases n
 have ned:∀ b u,H2 b=some u->b≠s2.heap.objs.size:=fun b u q z=>by rw [z,hn] at q; cases q
 have nee:∀ b u,H2 b=some u->(∀ φ,u≠.ext φ)->b≠e:=fun b u q n z=>by
  rw [z,he] at q;cases q;exact n _ rfl
 have I3:=I2.un (t':=tk) (H':=upd (upd H2 s2.heap.objs.size (.xd [(f,y)])) e (jL e C (some s2.heap.objs.size))) ⟨fun b o q n _ _=>k b o (ne1 b n) q,fun b o q n _ _=>⟨o.slots,k b o (ne1 b n) q⟩,
  fun b o q n _=>by rw [bx (ne1 b n),bx (Nat.ne_of_lt (Heap.lt_size q))]; exact n,fun b o q _=>by
   by_cases z:b=e
   ·rw [z]; exact ⟨_,new⟩
   ·exact ⟨o,k b o z q⟩,
  fun b xs q=>by rw [bx (nee b _ q fun _ z=>by cases z),bx (ned b _ q)]; exact q,fun b o u q=>by rw [bx (nee b _ q fun _ z=>by cases z),bx (ned b _ q)]; exact q,
  fun b ps q=>⟨#[],by rw [bx (nee b _ q fun _ z=>by cases z),bx (ned b _ q),q]; simp⟩⟩ fun b u q=>by
   by_cases z:b=e
   ·subst z;rw [aD] at q;cases q;exact zR new
   ·rw [bx z] at q
    by_cases z2:b=s2.heap.objs.size
    ·subst z2;rw [aD] at q;cases q;refine ⟨_,nd,fun f'=>?_⟩
     by_cases ef:f'=f
     ·subst ef;have:([(f',y)]:List (Str × V)).lookup f'=some y:=by simp [List.lookup]
      rw [this,if_pos rfl];exact ry
     ·have:([(f,y)]:List (Str × V)).lookup f'=none:=by
       have z:(f' == f)=false:=by simpa using ef
       simp [List.lookup,z]
      rw [this,if_neg ef];trivial
    ·rw [bx z2] at q;refine (I2.hok b u q).stay (fun c o hc r=>k c o ?_ r) (fun c r=>by rw [bx (nee c _ r fun _ z=>by cases z),bx (ned c _ r)]; exact r) fun c xs r=>by rw [bx (nee c _ r fun _ z=>by cases z),bx (ned c _ r)]; exact r
     rcases hc with rfl | hc
     ·exact z
     ·exact nee c _ hc fun _ z=>by cases z
 exact ⟨σ,_,I3,q2 _ hn⟩
section
variable {prog:cA} {w:World} {A:c7} {E:aA->aQ->Prop} {s:aQ} {K:Fg} {e C:aB} {oe od:Obj} {name:Str} {v:aA}
theorem exc_value {tk:Tok} {Q:Fin->aQ->Prop} (k:K.In s.heap) (I:InstAt s.heap e oe C (some od)) (hf:findObj K C (some od) name=some (.value v)) (h:Q (.done (.ret v)) s) : wpAny (model prog w) A (Builtin.«object.__getattribute__» ⟨[.ref e,.str name tk],[]⟩) Q E s:=by
 obtain ⟨h0,g0,d0,tt,o0⟩:=s;have ht:=I.type (M:=model prog w);have lf:=looks_find (M:=model prog w) k I hf
 (unfold Builtin.«object.__getattribute__»; refine aj (au (aj (au (aj (ht.at (aj (lf.at ?_))))))))
 exact au h
theorem R8 {expr:Bool} {Q:aA->aQ->Prop} (k:K.In s.heap) (t:Jg K C) (I:InstAt s.heap e oe C (some od)) (hf:findObj K C (some od) name=some (.value v)) (hv:handedIn v=true) (h:Q v { s with toks:=s.toks + 1 }) : wpAny (model prog w) A (getAttr (.ref e) name expr) Q E s:=by
 obtain ⟨h0,g0,d0,tt,o0⟩:=s;have ht:=I.type (M:=model prog w);have lg:=looks_findIn (M:=model prog w) k t.ga;have lk:=looks_findIn (M:=model prog w) k t.hk;have isB:Looks (model prog w) h0 (isInstance (.ref e) (.type "BaseException")) true:=ht.andThen (looks_subIn k t.be)
 (unfold getAttr getAttrBy; refine aj (wpAny_mkText (wpAny_holding (aj (ht.at (aj (lg.at ?_)))))))
 have no:(onTheHeap (Value.ref C) && Value.builtin "BaseException.__getattribute__" == Value.builtin "object.__getattribute__")=false:=by
  rw [show (Value.builtin "BaseException.__getattribute__" == Value.builtin "object.__getattribute__")=false by decide +kernel]; rfl
 dsimp only;rw [no,if_neg Bool.false_ne_true];unfold getAttrByItsOwn hookBefore;rw [if_pos (show onTheHeap (Value.ref C)=true from rfl)];refine aj (lk.at (aj (wpAny_attempt (wpAny_holding ?_))));unfold callGetattribute;rw [show (expr && onTheHeap (Value.builtin "BaseException.__getattribute__"))=false by cases expr <;> rfl,if_neg Bool.false_ne_true];unfold boundAndCalled;rw [(F.attr_ValueError).ga.bind];refine aj (au ?_)
 show wpAny _ _ (call (.builtin "BaseException.__getattribute__") [.ref e,.str name tt]) _ _ _
 refine wpAny_call (codeAny_call_builtin (F.attr_ValueError).ga.plain F.entry_bexc_ga ?_);have hB:builtinKind "BaseException.__getattribute__"=some .slot:=by decide +kernel
 have hS:splitId "BaseException.__getattribute__"=some ("BaseException","__getattribute__"):=by decide +kernel
 have hA:=F.args_bexc_ga (.ref e) (.str name tt);refine @check_slot (model prog w) _ _ ⟨h0,g0,d0,tt + 1,o0⟩ _ _ _ (.ref e) [.str name tt] [] _ hB hS isB hA ?_;refine exc_value (s:=⟨h0,g0,d0,tt + 1,o0⟩) k I hf ?_
 show wpAny (model prog w) A (handedOut v) _ _ _
 exact handed_on hv h
end
def ExcAt (H:Hp) (e C:aB) (fs:List (Str × V)):Prop:=∃ dx,H e=some (kE e (.ref C) (some dx))/\H dx=some (.xd fs)
section
variable {X:Cx} {pins:List (aB × Obj)} {σ:St} {H:Hp} {s:aQ}
theorem ExcAt.inst {e C:aB} {fs:List (Str × V)} (I:Inv X pins σ H s) (x:ExcAt H e C fs):∃ oe od,InstAt s.heap e oe C (some od)/\∀ f,∃ u,lookIn f od=some u/\uT (fs.lookup f) u:=by
 obtain ⟨dx,he,hd⟩:=x;obtain ⟨oe,vs,h1,h2,h3,h4⟩:=(show eE X.prog X.w H s.heap e (kE e (.ref C) (some dx)) from I.hok e _ he).1;obtain ⟨mA,ns,rel⟩:=(show eE X.prog X.w H s.heap dx (.xd fs) from I.hok dx _ hd);obtain ⟨od,ho,lk⟩:=xT ns;exact ⟨oe,od,⟨h1,h2,by unfold notCls; rw [h4],by rw [h3]; exact ho⟩,fun f=>⟨_,lk f,rel f⟩⟩
end
noncomputable def aju (K:Fg) (ta:TE) (f:Str):TE:=fun σ H Q=>ta σ H fun x H1=>∃ e C fs v,x=.ref e/\ExcAt H1 e C fs/\Jg K C/\hasDictIn K C=true/\findIn K (.ref C) f=some none/\fs.lookup f=some (.int v)/\Q (.int v) H1
theorem R9 (K:Fg) {X:Cx} {o:Expr} {f:Str} {ta:TE} {pos:Pos} (he:PE X o ta) (hK:autoParam (X.K=K) zau0) (hb:autoParam (attributeBase o f X.env (eval o X.env)=eval o X.env) zau0):PE X (.Attribute o f pos) (aju K ta f):=by
 subst hK;intro pins s σ H Q I h;refine GP hb (d9 (he pins s σ H _ I h) fun u s1 ⟨x,H1,I1,rx,e,C,fs,v,ex,ea,t,hh,ha,l,q⟩=>?_);subst ex;obtain rfl:u=Value.ref e:=rx;obtain ⟨oe,od,J,lk⟩:=ea.inst I1;obtain ⟨u,hu,ru⟩:=lk f;rw [l] at ru;cases u with
 | none=>exact False.elim ru
 | some u =>
  obtain ⟨tk,rfl⟩:=(show RelV (.int v) u from ru);exact R8 I1.j7 t J (findObj_own hh ha rfl hu) rfl ⟨.int v,H1,I1.tok _,⟨_,rfl⟩,q⟩
def Mi (e C:aB) (h:Heap):Prop:=∃ oe od,InstAt h e oe C od
theorem Mj {K:Fg} {e C:aB} (t:Jg K C):KitX K (.ref e) (.ref C) (Mi e C) where
 ty:=fun M h k x=>by
  obtain ⟨oe,od,I⟩:=x;exact I.type
 it:=fun M h k x=>by
  obtain ⟨c,dd,cd,sl,q⟩:=t.obj;intro A' Q' E' s' keep hq;unfold isType loadHead;exact aj (wpAny_loadPart (keep C _ (k C _ q)) (au hq))
 ne:=fun h tp dd its n sl k q=>by
  obtain ⟨c,d',cd,sl',q'⟩:=t.obj;cases z:(Value.ref C == Value.ref tp) with
  | false=>rfl
  | true =>
   cases Value.ref.inj (beq_iff_eq.mp z);rw [k C _ q'] at q;cases q
 ca:=fun k x h=>by
  obtain ⟨oe,od,I⟩:=x;exact yw k t I h
def uF (H:Hp) (e C:aB):Prop:=H e=some (kE e (.ref C) none)\/∃ fs,ExcAt H e C fs
theorem uF.is {X:Cx} {pins:List (aB × Obj)} {σ:St} {H:Hp} {s:aQ} {e C:aB} (I:Inv X pins σ H s) (x:uF H e C):Mi e C s.heap:=by
 rcases x with h | ⟨fs,h⟩
 ·obtain ⟨oe,vs,h1,h2,h3,h4⟩:=(show eE X.prog X.w H s.heap e (kE e (.ref C) none) from I.hok e _ h).1;exact ⟨oe,none,h1,h2,by unfold notCls; rw [h4],by rw [h3]; trivial⟩
 ·obtain ⟨oe,od,J,_⟩:=h.inst I;exact ⟨oe,some od,J⟩
theorem iH (K:Fg) {X:Cx} (hK:autoParam (X.K=K) zau0):gw X (.builtin "isinstance") (fun xs H Q=>∃ e C c cv b,xs=[.ref e,c]/\RelV c cv/\(∃ C',c=.ref C'\/∃ T,c=.ty T)/\uF H e C/\Jg K C/\kitOne K (.ref C) cv=some b/\Q (.bl b) H):=by
 subst hK;intro pins s σ H xs us Q I r h;obtain ⟨e,C,c,cv,b,rfl,rc,kd,he,t,k1,q⟩:=h;obtain ⟨u,v,rfl,ru,rv⟩:=Vals.two r;cases (show u=Value.ref e from ru);have ev:v=cv:=by
  obtain ⟨C',rfl | ⟨T,rfl⟩⟩:=kd
  ·exact rv.trans (Eq.symm rc)
  ·exact rv.trans (Eq.symm rc)
 subst ev;exact kia_one (Mj t) I.j7 (he.is I) k1 (by
  obtain ⟨C',rfl | ⟨T,rfl⟩⟩:=kd
  ·intro z; cases (show v=Value.ref C' from rv); cases z
  ·intro z; cases (show v=Value.type T from rv); cases z) fun tk=>⟨.bl b,H,I.tok tk,rfl,q⟩
def Jo (ns:List Int):Nat:=(firstMet (fun i=>ns.getD i 0) ns.length).length
theorem Cm (val:Nat->Int):∀ i,(firstMet val i).length=i ↔ ((List.range i).map val).Nodup
 | 0=>by simp [firstMet]
 | i + 1=>by
  have ih:=Cm val i;have le:=firstMet_length_le val i;rw [firstMet_succ,step_length,firstMet_any,cH,bf,cR,map_nil];have e:((List.range i).map val).any (· == val i)=true ↔ val i ∈ (List.range i).map val:=by
   rw [List.any_eq_true];constructor
   ·rintro ⟨x,hx,z⟩;rw [<- beq_iff_eq.mp z];exact hx
   ·intro h;exact ⟨_,h,beq_self_eq_true _⟩
  rw [List.nodup_append]
  by_cases h:val i ∈ (List.range i).map val
  ·rw [if_pos (e.mpr h)];constructor
   ·intro z; omega
   ·rintro ⟨_,_,d⟩;exact absurd rfl (d _ h _ (by simp))
  ·rw [if_neg fun z=>h (e.mp z)];constructor
   ·intro z;refine ⟨ih.mp (by omega),by simp,fun a ha b hb=>?_⟩;rw [aP.mp hb];exact fun z=>h (z ▸ ha)
   ·rintro ⟨d,_,_⟩;rw [ih.mpr d]
theorem Sd (ns:List Int):Jo ns=ns.length ↔ ns.Nodup:=by
 unfold Jo;rw [Cm];have:(List.range ns.length).map (fun i=>ns.getD i 0)=ns:=by
  apply ext_getElem?;intro i;rw [aH]
  by_cases h:i < ns.length
  ·rw [List.getElem?_range h];simp [h]
  ·rw [List.getElem?_eq_none (by simpa using h),List.getElem?_eq_none (by omega)];rfl
 rw [this]
section
variable {X:Cx}
theorem Jp (hc:X.calm=true):gw X (.type "set") (fun xs H Q=>∃ p ns,xs=[.ref p]/\cD X.K H p (ns.map V.int)/\ns.length + 1 < scanBound/\∀ l S,H l=none->Q (.ref l) (upd H l (.set S (Jo ns)))):=by
 intro pins s σ H xs us Q I r h;obtain ⟨p,ns,rfl,hq,hb,q⟩:=h;obtain ⟨u,rfl,rx⟩:=Vals.one r;cases rx;obtain ⟨its,rv,pl,hz⟩:=I.list hq;have li:its.length=ns.length:=by have:=rv.length; simpa using this.symm
 refine call_set_list (ns:=ns) (I.ok.hd hc) pl.isList (intsAre_of rv) (by rw [size_toArray,li]; exact hb) fun h' tk hS hk=>?_
 rw [show its.toArray.size=ns.length by rw [size_toArray,li]] at hS;refine ⟨.ref s.heap.objs.size,_,I.laid (a:=s.heap.objs.size) (o:=.set (fun k'=>(firstMet (fun i=>ns.getD i 0) ns.length).any (· == k')) (Jo ns)) (fun b o e=>hk b o (Heap.lt_size e) e) (aN _) ?_,rfl,q _ _ (I.hok.fresh (aN _))⟩;exact hS
theorem Jq:gw X (.builtin "len") (fun xs H Q=>∃ p S n,xs=[.ref p]/\H p=some (.set S n)/\Q (.int n) H):=by
 intro pins s σ H xs us Q I r h;obtain ⟨p,S,n,rfl,e,q⟩:=h;obtain ⟨u,rfl,rx⟩:=Vals.one r;cases rx;obtain ⟨o,es,ep,t,ho,hex,hd,hel,hm,hb,hf,hn⟩:=(show eE X.prog X.w H s.heap p (.set S n) from I.hok p _ e);subst hn;exact call_len_set ho hex hd hf (by unfold scanBound at hb; omega) ⟨.int es.size,H,I.tok _,⟨_,rfl⟩,q⟩
end
theorem Jr {prog:cA} {w:World} {A:c7} {it l:aB} {xs:Array aA} {tu:Bool} (f:Nat) (hh:A.handled=none) (ne:l≠it) : PySem.Draws prog w A it [it,l] (f + xs.size) (fun j v=>xs[j - f]?=some v) (fun j h=>f<=j/\Over h it l xs (j - f) tu) where
 live:=fun _ _ st=>st.2.Lh
 frame:=fun _ _ _ st hk=>⟨st.1,eZ _ _ st.2 hk⟩
 item:=fun j s Q E lt0 st hQ=>by
  have lt:j - f < xs.size:=by omega
  refine lK ne (Array.getElem?_eq_getElem lt) s Q E st.2 fun h' o' sb=>hQ _ h' s.toks (Array.getElem?_eq_getElem lt) ⟨by omega,?_⟩ sb
  rw [show j + 1 - f=j - f + 1 by omega];exact o'
 done:=fun s Q E st hE=>oE (k:=f + xs.size - f) (by rw [Nat.add_sub_cancel_left]; simp) hh s Q E st.2 fun h' e x y=>hE h' e x y
def SqB (K:Fg) (tu:Bool) (H:Hp) (l:aB) (xs:List V):Prop:=match tu with
 | false=>cD K H l xs
 | true=>dM K H l xs
def Cq (tu:Bool) (h:Heap) (it l:aB) (i:Nat):Prop:=match tu with
 | false=>h.IsListIter it l i
 | true=>h.IsTupleIter it l i
noncomputable def Sg (K:Fg) (tu:Bool) (f:Nat) (l:aB):It := ⟨fun i H=>∃ xs x,SqB K tu H l xs/\xs[i]?=some x,fun i H v H'=>∃ T,H T=none/\v=.ref T/\∀ xs x,SqB K tu H l xs->xs[i]?=some x->H'=upd H T (.tup [.int (f + i:Nat),x]),fun i H=>∃ xs,SqB K tu H l xs/\xs.length<=i⟩
structure vK (tu:Bool) (f:Nat) (e it l:aB) (i:Nat) (h:Heap):Prop where
 cell:∃ old,IsEnum h e it ((f + i:Nat):Int) old
 one:Cq tu h it l i
theorem Cq.obj {tu:Bool} {h:Heap} {it l:aB} {i:Nat} (o:Cq tu h it l i):∃ ob vs,h.get? it=some ob/\ob.data=.fields vs:=by
 cases tu with
 | false=>obtain ⟨ob,q,_,d⟩:=o; exact ⟨ob,_,q,d⟩
 | true=>obtain ⟨ob,q,_,d⟩:=o; exact ⟨ob,_,q,d⟩
theorem Cq.stays {tu:Bool} {h h':Heap} {it l:aB} {i:Nat} (o:Cq tu h it l i) (k:∀ ob,h.get? it=some ob->h'.get? it=some ob):Cq tu h' it l i:=by
 cases tu with
 | false=>obtain ⟨ob,q,r⟩:=o; exact ⟨ob,k ob q,r⟩
 | true=>obtain ⟨ob,q,r⟩:=o; exact ⟨ob,k ob q,r⟩
theorem over_of {X:Cx} {pins:List (aB × Obj)} {σ:St} {H:Hp} {s:aQ} {tu:Bool} {l it:aB} {xs:List V} {i:Nat} (I:Inv X pins σ H s) (sx:SqB X.K tu H l xs) (o:Cq tu s.heap it l i):∃ its:List aA,Vals xs its/\Over s.heap it l its.toArray i tu/\l≠it:=by
 cases tu with
 | false =>
  obtain ⟨its,v,p,_⟩:=I.list sx;refine ⟨its,v,.lst o p.isList,fun z=>?_⟩;obtain ⟨o1,q1,c1,_⟩:=o;obtain ⟨o2,q2,c2,_⟩:=p.isList;rw [z,q1] at q2;cases q2;rw [c1] at c2;exact absurd (Value.type.inj c2) (by decide)
 | true =>
  obtain ⟨its,v,p,_⟩:=I.tuple sx;refine ⟨its,v,.tup o p,fun z=>?_⟩;obtain ⟨o1,q1,c1,_⟩:=o;obtain ⟨o2,q2,c2,_⟩:=p;rw [z,q1] at q2;cases q2;rw [c1] at c2;exact absurd (Value.type.inj c2) (by decide)
theorem Over.on {h:Heap} {it l:aB} {xs:Array aA} {k:Nat} {tu:Bool} (o:Over h it l xs k tu):Cq tu h it l k:=by
 cases o with
 | lst a _=>exact a
 | tup a _=>exact a
theorem Sh {X:Cx} {pins:List (aB × Obj)} {σ:St} {H:Hp} {s:aQ} {tu:Bool} {l:aB} {xs ys:List V} (I:Inv X pins σ H s) (h:SqB X.K tu H l xs) (h':SqB X.K tu H l ys):xs=ys:=by
 cases tu with
 | false=>exact I.qG h h'
 | true=>exact I.rH h h'
theorem vL {P:cA} {w:World} {K:Fg} {elts:List Expr} {k:Nat} {pos:Pos} {e it l:aB} {tu:Bool} {f:Nat} (ne:e≠it) (nl:e≠l):Turn P w K (.Tuple elts k pos) (Sg K tu f l) [e,it] e (vK tu f e it l) where
 mem:=by simp
 obj:=fun i h R c hc=>by
  obtain ⟨old,q0⟩:=R.cell;obtain ⟨o1,vs,q1,d1⟩:=R.one.obj;simp only [aO,not_mem_nil,or_false] at hc;rcases hc with rfl | rfl
  ·exact ⟨_,q0,fun v q=>by cases q⟩
  ·exact ⟨o1,q1,fun v q=>by rw [d1] at q; cases q⟩
 keep:=fun i h h' R kp=>by
  obtain ⟨old,q0⟩:=R.cell;exact ⟨⟨old,kp e (by simp) _ q0⟩,R.one.stays (kp it (by simp))⟩
 item:=by
  intro X hP hw hK hc i pins s σ H E I hf R go;subst hP hw hK;obtain ⟨xs,x,sx,hx⟩:=go;obtain ⟨its,v1,ov,lne⟩:=over_of I sx R.one;obtain ⟨ux,gx,rx⟩:=v1.get hx;obtain ⟨old,q0⟩:=R.cell;have fr:s.heap.get? s.heap.objs.size=none:=Heap.get?_none_of_le (aN _);have there:∀ c ∈ [e,it],∃ o,s.heap.get? c=some o:=fun c hc=>by
   obtain ⟨o1,_,q1,_⟩:=R.one.obj;simp only [aO,not_mem_nil,or_false] at hc;rcases hc with z | z <;> rw [z]
   ·exact ⟨_,q0⟩
   ·exact ⟨_,q1⟩
  have elt:s.heap.objs.size≠e:=Nat.ne_of_gt (Heap.lt_size q0);have li:i < its.toArray.size:=by
   rw [size_toArray];exact (aX.mp gx).1
  refine wpAny_pyNext_enum_itemD (Jr f (I.ok.hd hc) lne) (i:=f + i) q0 ⟨Nat.le_add_right _ _,by rw [Nat.add_sub_cancel_left]; exact ov⟩ (by omega) ne (by simp [ne,nl]) fun x' h1 tk hx1 c1 st1 pr _ past=>⟨.ref s.heap.objs.size,rfl,wpAny_letOwnedTupleGo_enum (s:={ s with heap:=h1,toks:=tk + 1 }) c1 fun h2 c2 sb=>?_⟩
  have ex:x'=ux:=by
   rw [Nat.add_sub_cancel_left] at hx1;have:its[i]?=some x':=by simpa using hx1
   rw [gx] at this;exact Eq.symm (cu this)
  subst ex;have pr2:=sb.extBut _ _ elt pr;refine ⟨.ref s.heap.objs.size,upd H s.heap.objs.size (.tup [.int (f + i:Nat),x]),Inv.drawn (h':=h2) (t':=tk + 1) (ch:=[e,it]) (s:=s) I hf (fun c o out q=>?_) fr ⟨zM,[.int (f + i:Nat) tk,x'],.cons ⟨_,rfl⟩ (.cons rx .nil),⟨_,pr2,rfl,_,rfl⟩⟩,rfl,⟨_,I.hok.none_of fr,rfl,fun xs' x2 sx' hx'=>?_⟩,⟨⟨x',c2⟩,?_⟩,fun c hc=>?_⟩
  ·simp only [aO,not_mem_nil,or_false,not_or] at out;exact sb.extBut c o out.1 (past c o out.1 out.2 q)
  ·have e1:=Sh I sx' sx;subst e1;rw [hx] at hx';cases hx'; rfl
  ·have o2:=st1.2;rw [show f + i + 1 - f=i + 1 by omega] at o2;exact o2.on.stays fun ob q=>sb.extBut _ _ (Ne.symm ne) q
  ·obtain ⟨o,q⟩:=there c hc;rw [bx (fun z=>by rw [z,fr] at q; cases q)];exact (hf c hc).1
 done:=by
  intro X hP hw hK hc i pins s σ H E I hf R stop;subst hP hw hK;obtain ⟨xs,sx,le⟩:=stop;obtain ⟨its,v1,ov,lne⟩:=over_of I sx R.one;obtain ⟨old,q0⟩:=R.cell;have l1:=v1.length;have none_:its.toArray[i]?=none:=by simp; omega
  have hT:s.TypeIs (.ref e) "enumerate":=⟨_,q0,rfl⟩;refine aj (wpAny_attempt (wpAny_callSpecial?_slot (name:=Str.ofString "__next__") hT PySem.F.slot_enumerate_next (wpAny_call_entry PySem.F.slot_enumerate_next hT PySem.F.entry_enumerate_next ?_ (PySem.F.args_enumerate_next_1 _))));refine aj (m:=field (.ref e) 2) (wpAny_field q0 rfl (x:=.ref it) rfl (aj (oE none_ (show X.A.in1.handled=none from I.ok.hd hc) _ _ _ ov fun h' x past hx=>?_)));obtain ⟨o,ho,ho2⟩:=hx;refine aj (wpAny_isInstance (T:="StopIteration") (b:=true) ⟨o,ho,ho2⟩ isSubtype_stop (au ⟨rfl,I.turns (t':=s.toks) (ch:=[e,it]) hf fun c o' out q=>?_⟩));simp only [aO,not_mem_nil,or_false,not_or] at out;exact past c o' out.2 q
 self:=fun _ _ _ _ _ R q=>by
  obtain ⟨old,q0⟩:=R.cell;exact wpAny_pyIter_enum q0 q
theorem Sq {T newId:String} {o a u:aA} {k:Str} (hl:typeLookup (.type T) "__init__"=pure (some (.builtin "object.__init__"))) (hm:Bind.madeBy (.type T)=pure (some newId)) (hne:(some newId != some "object.__new__")=true) : Meets (Builtin.«object.__init__» ⟨[o,a],[(k,u)]⟩) (fun _ R s=>s.TypeIs o T/\R (.ok (.ret .none)) s) := .of_wp fun prog w A R s hs=>by
 obtain ⟨ty,q⟩:=hs
 repeat any_goals first | assumption | wp_step
 exact ⟨_,rfl,q⟩
def qR (it:aB) (f:Nat):Obj:={ cls:=.type "enumerate",data:=.fields #[.none,.bool false,.ref it,rawInt f,.none,.none] }
theorem Ml (a u:aA):checkTypeCall "enumerate" ⟨[a],[(Str.ofString "start",u)]⟩=pure ():=by kernel_rfl
theorem Mp (a u:aA):checkBuiltinCall "enumerate.__new__" ⟨[.type "enumerate",a],[(Str.ofString "start",u)]⟩=pure ():=by kernel_rfl
theorem Mq (o a u:aA):argsOk "object.__init__" ⟨[o,a],[(Str.ofString "start",u)]⟩:=by
 unfold argsOk; rw [signature?_of (id:="object.__init__") (n:=['_','_','t','i','n','i','_','_']) (o:=['t','c','e','j','b','o']) (by kernel_rfl) PySem.F.owner_object]; kernel_rfl
section
variable {prog:cA} {w:World} {A:c7} {E:aA->aQ->Prop} {s:aQ}
theorem Mr {T newId:String} {Bn:Builtin} {a u:aA} {k:Str} {S:PySem.Spec} {Q:aA->aQ->Prop} (ft:TypeCalled T newId "object.__init__") (hne:(some newId != some "object.__new__")=true) (hct:checkTypeCall T ⟨[a],[(k,u)]⟩=pure ()) (hcn:checkBuiltinCall newId ⟨[.type T,a],[(k,u)]⟩=pure ()) (hok:∀ o,argsOk "object.__init__" ⟨[o,a],[(k,u)]⟩) (entryN:entryFor table newId=some Bn) (g:Meets (Bn ⟨[.type T,a],[(k,u)]⟩) S) (h:S A.in1 (wants (fun o s₁=>s₁.TypeIs o T/\Q o s₁) E) s):wpAny (model prog w) A (call (.type T) [a] [(k,u)]) Q E s:=by
 obtain ⟨cl,tl,hmro⟩:=ft.mro;have hmade:=ft.made;have hsub:=ft.sub;refine wpAny_call (codeAny_of_tree ?_); change wpAny _ _ (callAny (.type T) _) _ _ _;refine au (And.intro (Code.quiet_builtin _ (by decide +kernel)) (codeAny_builtin PySem.F.entry_type_call ?_));rw [Around.under_plain (weight_type_call_type T [a] [(k,u)]) (units_type_call_type T [a] [(k,u)])];have h1:=ft.notType;have h2:=ft.canCreate;have w1:=g prog w A.in1 _ s h
 repeat any_goals first | assumption | wp_step
 refine cg (codeAny_call_builtin ft.plain entryN (wpAny_of_eq hcn w1)) fun r s₁ hr=>?_
 rcases r with e | fl
 ·exact hr
 cases fl with
 | ret o =>
  have hli:=ft.init.lookup;have hbi:=ft.init.bind o;have w2:=Sq (o:=o) (a:=a) (u:=u) (k:=k) ft.init.lookup ft.made hne prog w A.in1 (wants (fun r s₂=>r=.none/\Q o s₂) E) s₁ ⟨hr.1,rfl,hr.2⟩;have hT:=hr.1
  repeat any_goals first | assumption | wp_step
  refine cg (codeAny_call_builtin ft.init.plain PySem.F.entry_object_init (ft.init.check _ _ _ _ _ _ _ _ hT (hok o) w2)) fun r₂ s₂ hr₂=>?_
  rcases r₂ with e | fl₂
  ·exact hr₂
  cases fl₂ with
  | ret r =>
   obtain ⟨rfl,hq⟩:=hr₂
   repeat any_goals first | assumption | wp_step
  | _=>exact hr₂.elim
 | _=>exact hr.elim
end
theorem Js (l:aB) (xs:Array aA) (f:Nat) (t:Tok) (hf:Builtin.SmallTypes.fitsIndex (f:Int)=true):Meets (Builtin.«enumerate.__new__» ⟨[.type "enumerate",.ref l],[(Str.ofString "start",.int (f:Int) t)]⟩) (fun _ R s=>s.heap.IsList l xs/\R (.ok (.ret (.ref (s.heap.objs.size + 1)))) { s with heap:=(s.heap.push (zip2 l)).push (qR s.heap.objs.size f) }) := .of_wp fun prog w A R s h=>by
 obtain ⟨hp,gs,dr,tk,oss⟩:=s; obtain ⟨q1,r⟩:=h;have sub:=sub_enumerate;have Lj:Heap.IsList (Shared.heap ⟨hp,gs,dr,tk,oss⟩) l xs:=q1
 wp_walk using wpAny_pyIter_list Lj
 refine wpAny_stack_any fun _=>au ?_
 have e1:(hp.push { cls:=.type "list_iterator",data:=.fields #[.ref l,.int 0 0] }).objs.size=hp.objs.size + 1:=Heap.size_push _ _;generalize (Builtin.SmallTypes.fitsIndex:Int->Bool)=fits at hf ⊢
 split
 ·rename_i cl _ _ _ _ _
  cases (cl == Value.type "enumerate") <;> (wp_walk using wpAny_pyIter_list Lj; refine ⟨_,rfl,?_⟩; rw [e1]; exact r)
 ·wp_walk using wpAny_pyIter_list Lj
  refine ⟨_,rfl,?_⟩;rw [e1];exact r
theorem Jt (l:aB) (xs:Array aA):Meets (Builtin.«enumerate.__new__» ⟨[.type "enumerate",.ref l],[]⟩) (fun _ R s=>s.heap.IsTuple l xs/\R (.ok (.ret (.ref (s.heap.objs.size + 1)))) { s with heap:=(s.heap.push (rO l)).push (qR s.heap.objs.size 0) }) := .of_wp fun prog w A R s h=>by
 obtain ⟨hp,gs,dr,tk,oss⟩:=s; obtain ⟨q1,r⟩:=h;have sub:=sub_enumerate;have Lj:Heap.IsTuple (Shared.heap ⟨hp,gs,dr,tk,oss⟩) l xs:=q1
 wp_walk using wpAny_pyIter_tuple Lj
 refine wpAny_stack_any fun _=>au ?_
 have e1:(hp.push { cls:=.type "tuple_iterator",data:=.fields #[.ref l,.int 0 0] }).objs.size=hp.objs.size + 1:=Heap.size_push _ _
 split
 ·rename_i cl _ _ _ _ _
  cases (cl == Value.type "enumerate") <;> (wp_walk using wpAny_pyIter_tuple Lj; refine ⟨_,rfl,?_⟩; rw [e1]; exact r)
 ·wp_walk using wpAny_pyIter_tuple Lj
  refine ⟨_,rfl,?_⟩;rw [e1];exact r
section
variable {prog:cA} {w:World} {A:c7} {E:aA->aQ->Prop} {s:aQ}
theorem Hh {h:Heap} {o:Obj} {f:Nat} (hf:o.isFreed=false):((h.push o).push (qR h.objs.size f)).get? (h.objs.size + 1)=some (qR h.objs.size f)/\((h.push o).push (qR h.objs.size f)).get? h.objs.size=some o:=by
 have z:(h.push o).objs.size=h.objs.size + 1:=Heap.size_push _ _;refine ⟨?_,ak _ (aJ _ hf)⟩;rw [<- z];exact aJ _ rfl
theorem Fi {l:aB} {xs:Array aA} {f:Nat} {t:Tok} {Q:aA->aQ->Prop} (hf:Builtin.SmallTypes.fitsIndex (f:Int)=true) (hl:s.heap.IsList l xs) (q:∀ h',vK false f (s.heap.objs.size + 1) s.heap.objs.size l 0 h'->(∀ b o,s.heap.get? b=some o->h'.get? b=some o)->Q (.ref (s.heap.objs.size + 1)) { s with heap:=h' }) : wpAny (model prog w) A (call (.type "enumerate") [.ref l] [(Str.ofString "start",.int (f:Int) t)]) Q E s:=by
 have at_:=Hh (h:=s.heap) (o:=zip2 l) (f:=f) rfl;refine Mr PySem.F.called_enumerate (by decide) (Ml _ _) (Mp _ _) (fun _=>Mq _ _ _) PySem.F.entry_enumerate_new (Js l xs f t hf) ⟨hl,⟨_,at_.1,rfl⟩,q _ ⟨⟨_,at_.1⟩,⟨_,at_.2,rfl,rfl⟩⟩ fun b o e=>ak _ (ak _ e)⟩
theorem Fj {l:aB} {xs:Array aA} {Q:aA->aQ->Prop} (hl:s.heap.IsTuple l xs) (q:∀ h',vK true 0 (s.heap.objs.size + 1) s.heap.objs.size l 0 h'->(∀ b o,s.heap.get? b=some o->h'.get? b=some o)->Q (.ref (s.heap.objs.size + 1)) { s with heap:=h' }) : wpAny (model prog w) A (call (.type "enumerate") [.ref l] []) Q E s:=by
 have at_:=Hh (h:=s.heap) (o:=rO l) (f:=0) rfl;refine callType_new PySem.F.called_enumerate (by decide) (PySem.F.typeCall_enumerate_1 _) (PySem.F.newCall_enumerate_1 _) (fun obj=>PySem.F.args_object_init_2 obj _) PySem.F.entry_enumerate_new (Jt l xs) ⟨hl,⟨_,at_.1,rfl⟩,q _ ⟨⟨_,at_.1⟩,⟨_,at_.2,rfl,rfl⟩⟩ fun b o e=>ak _ (ak _ e)⟩
theorem vM {M:Model} {env:Env} {pos:Pos} {T:String} {e:Expr} {kws:List Keyword} {Q:aA->aQ->Prop} (h:wpAny M A (spliced (backTo pos (starEach [e] env))) (fun vs s₁=>wpAny M A (evalAll ((backToKw pos (keywordEach kws env)).map (·.2))) (fun kvs s₂=>wpAny M A (call (.type T) vs (((backToKw pos (keywordEach kws env)).filterMap (·.1)).zip kvs)) Q E s₂) E s₁) E s) (he:starEach [e] env=[(false,eval e env)]) (hall:(backToKw pos (keywordEach kws env)).all (·.1.isSome)=true) (hkw:(backToKw pos (keywordEach kws env)).any (·.1.isNone)=false) : wpAny M A (callWith pos (.type T) [] (backTo pos (starEach [e] env)) (backToKw pos (keywordEach kws env))) Q E s:=by
 have e2:backTo pos (starEach [e] env)=(false,eval e env)::[]:=by rw [he]; rfl
 rw [e2] at h ⊢;unfold callWith;refine aj (wpAny_holding (bW (evalArgs_kwB (Q:=fun a s₂=>wpAny M A (call (.type T) a.pos a.kw) Q E s₂) hall h) (fun a s₁ h₁=>aj (wpAny_standAt ?_)) fun _ _ x=>x));have pl:[(false,eval e env)].any (·.1)=false:=rfl;simp only [pl,hkw,Bool.or_false];exact aj (au (aj (bW h₁ (fun r s₂ hr=>aj (wpAny_holding (wpAny_point (au hr)))) fun _ _ x=>x)))
end
section
variable {X:Cx}
def acH (K:Fg) (ta:TA) (tf:TE):TI:=fun σ H R=>ta σ H fun vs H1=>tf σ H1 fun u H2=>∃ (l:aB) (xs:List V) (f:Nat),vs=[.ref l]/\u=.int (f:Nat)/\f < 2 ^ 62/\cD K H2 l xs/\R (Sg K false f l) H2
theorem Hi {X:Cx} {pins:List (aB × Obj)} {σ:St} {H:Hp} {s:aQ} (I:Inv X pins σ H s):∀ b ∈ [s.heap.objs.size + 1,s.heap.objs.size],kh X pins H b:=fun b hb=>by
 have le:s.heap.objs.size<=b:=by
  simp only [aO,or_false,not_mem_nil] at hb;omega
 exact I.Iu (H':=H) le (I.hok.fresh le)
theorem Ms {e1 e2:Expr} {elts:List Expr} {k:Nat} {tp p pos kp:Pos} {ta:TA} {tf:TE} (hg:Gl X "enumerate") (hm:X.mg "enumerate"=none) (ha:PA X [e1] ta) (hf:PE X e2 tf) (st1:autoParam (starEach [e1] X.env=[(false,eval e1 X.env)]) zau0) : PI X (.Tuple elts k tp) (.Call (.Name "enumerate" p) [e1] [⟨some "start",e2,kp⟩] pos) (acH X.K ta tf):=by
 intro pins s σ H R I h;refine wpAny_Call_Name_kw (mV I hg hm boot_enumerate (vM (d9 (ha pos pins s σ H _ I h) fun us a ⟨vs,H1,I1,r,q⟩=>kws_cons (d9 (hf pins a σ H1 _ I1 q) fun u2 a2 ⟨v2,H2,I2,r2,l,xs,f,e,e2,le,sx,q2⟩=>kws_nil ?_)) st1 (by rfl) (by rfl)));subst e e2;obtain ⟨u1,e,r1⟩:=vals1 r;subst e;cases r1;obtain ⟨tk,rfl⟩:=r2;obtain ⟨its,v1,p1,_⟩:=I2.list sx;have lt:l < a2.heap.objs.size:=by obtain ⟨o,ho,_⟩:=p1.isList; exact Heap.lt_size ho
 refine Fi (f:=f) ?_ p1.isList fun h' c1 old=>?_
 ·unfold Builtin.SmallTypes.fitsIndex;simp only [decide_eq_true_eq,Bool.and_eq_true];omega
 have I3:Inv X pins σ H2 { a2 with heap:=h' }:=I2.kept (t':=a2.toks) old;obtain ⟨ov,c0⟩:=c1.cell;exact wpAny_pyIter_enum (s:={ a2 with heap:=h' }) c0 ⟨_,[a2.heap.objs.size + 1,a2.heap.objs.size],_,_,H2,rfl,I3,vL (tu:=false) (f:=f) (Nat.succ_ne_self _) (Nat.ne_of_gt (Nat.lt_succ_of_lt lt)),c1,Hi I2,q2⟩
def acI (K:Fg) (ta:TA):TI:=fun σ H R=>ta σ H fun vs H1=>∃ l xs,vs=[.ref l]/\dM K H1 l xs/\R (Sg K true 0 l) H1
theorem Mt {e1:Expr} {elts:List Expr} {k:Nat} {tp p pos:Pos} {ta:TA} (hg:Gl X "enumerate") (hm:X.mg "enumerate"=none) (ha:PA X [e1] ta) (st1:autoParam (starEach [e1] X.env=[(false,eval e1 X.env)]) zau0) : PI X (.Tuple elts k tp) (.Call (.Name "enumerate" p) [e1] [] pos) (acI X.K ta):=by
 intro pins s σ H R I h;refine Call_ (mV I hg hm boot_enumerate (callWith_type1 (d9 (ha pos pins s σ H _ I h) fun us a ⟨vs,H1,I1,r,l,xs,e,sx,q⟩=>?_) (by rw [st1]; rfl) (by rfl)));subst e;obtain ⟨u1,e,r1⟩:=vals1 r;subst e;cases r1;obtain ⟨its,v1,p1,_⟩:=I1.tuple sx;have lt:l < a.heap.objs.size:=by obtain ⟨o,ho,_⟩:=p1; exact Heap.lt_size ho
 refine Fj p1 fun h' c1 old=>?_
 have I2:Inv X pins σ H1 { a with heap:=h' }:=I1.kept (t':=a.toks) old;obtain ⟨ov,c0⟩:=c1.cell;exact wpAny_pyIter_enum (s:={ a with heap:=h' }) c0 ⟨_,[a.heap.objs.size + 1,a.heap.objs.size],_,_,H1,rfl,I2,vL (tu:=true) (f:=0) (Nat.succ_ne_self _) (Nat.ne_of_gt (Nat.lt_succ_of_lt lt)),c1,Hi I1,q⟩
theorem Ju {K:Fg} {l:aB} {xs:List V} {g:TG} {tb:TS} {D:Ends} {σ:St} {H:Hp} {tu:Bool} {f:Nat} (Pv:Nat->St->Hp->Prop) (h0:Pv 0 σ H) (hl:∀ i σ H,i<=xs.length->Pv i σ H->SqB K tu H l xs) (hs:∀ i x T σ H,xs[i]?=some x->Pv i σ H->H T=none->g (.ref T) σ (upd H T (.tup [.int (f + i:Nat),x])) fun σ2 H2=>tb { D with nx:=Pv (i + 1),ct:=Pv (i + 1),bk:=D.nx } σ2 H2) (hd:∀ σ H,Pv xs.length σ H->D.nx σ H) : ∃ W:Nat->Nat->St->Hp->Prop,(∃ k,W 0 k σ H)/\∀ i k σ H,W i k σ H -> ((Sg K tu f l).stop i H/\D.nx σ H)\/((Sg K tu f l).go i H/\∃ N:St->Hp->Prop,(∀ σ' H',N σ' H'->∃ k',k' < k/\W (i + 1) k' σ' H')/\∀ x H',(Sg K tu f l).Ke i H x H'->g x σ H' fun σ2 H2=>tb { D with nx:=N,ct:=N,bk:=D.nx } σ2 H2):=by
 refine ⟨fun i k σ H=>i<=xs.length/\k=xs.length - i/\Pv i σ H,⟨xs.length,eV _,rfl,h0⟩,?_⟩;rintro i k σ H ⟨hi,rfl,p⟩;have sq:=hl i σ H hi p;rcases Nat.lt_or_ge i xs.length with lt | ge
 ·have hx:=aC lt;refine .inr ⟨⟨xs,_,sq,hx⟩,Pv (i + 1),fun σ' H' p'=>⟨_,by omega,lt,rfl,p'⟩,fun x H' y=>?_⟩;obtain ⟨T,hT,rfl,y⟩:=y;rw [y xs _ sq hx];exact hs i _ T σ H hx p hT
 ·obtain rfl:i=xs.length:=Nat.le_antisymm hi ge;exact .inl ⟨⟨xs,sq,ge⟩,hd σ H p⟩
end
section
variable {prog:cA} {w:World} {A:c7} {E:aA->aQ->Prop} {s:aQ} {z ti to a b l m:aB} {xs ys:Array aA} {i j:Nat} {u v:aA} {t1 t2:Bool}
def jw (h:Heap) (l m:aB):Heap := ((((h.push (zip2 l)).push (rO m)).push (pairOf (.ref h.objs.size) (.ref (h.objs.size + 1)))).push (pairOf .none .none)).push (RP (h.objs.size + 2) (h.objs.size + 3))
theorem Mu (l m:aB) (xs ys:Array aA):Meets (Builtin.«zip.__new__» ⟨[.type "zip",.ref l,.ref m],[]⟩) (fun _ R s=>s.heap.IsList l xs/\s.heap.IsTuple m ys/\R (.ok (.ret (.ref (s.heap.objs.size + 4)))) { s with heap:=jw s.heap l m }) := .of_wp fun prog w A R s h=>by
 obtain ⟨hp,g,d,tk,os⟩:=s; obtain ⟨q1,q2,r⟩:=h; have sub:=sub_zip;have Lj:Heap.IsList (Shared.heap ⟨hp,g,d,tk,os⟩) l xs:=q1;have q2':Heap.IsTuple (Shared.heap ⟨hp.push { cls:=.type "list_iterator",data:=.fields #[.ref l,.int 0 0] },g,d,tk,os⟩) m ys:=(let ⟨o',ho,r'⟩:=q2; ⟨o',ak _ ho,r'⟩)
 wp_walk using wpAny_pyIter_list Lj,wpAny_pyIter_tuple q2'
 refine ⟨_,rfl,?_⟩;simp only [Heap.size_push];exact r
theorem Jv {Q:aA->aQ->Prop} (q1:s.heap.IsList l xs) (q2:s.heap.IsTuple m ys) (k:∀ h',gW (s.heap.objs.size + 4) (s.heap.objs.size + 2) (s.heap.objs.size + 3) s.heap.objs.size (s.heap.objs.size + 1) l m -> jP false true (s.heap.objs.size + 4) (s.heap.objs.size + 2) (s.heap.objs.size + 3) s.heap.objs.size (s.heap.objs.size + 1) l m xs ys .none 0 0 h'->(∀ c o,s.heap.get? c=some o->h'.get? c=some o)->Q (.ref (s.heap.objs.size + 4)) { s with heap:=h' }) : wpAny (model prog w) A (call (.type "zip") [.ref l,.ref m]) Q E s:=by
 have K8:l < s.heap.objs.size:=by obtain ⟨o,q,_⟩:=q1; exact Heap.lt_size q
 have Bv:m < s.heap.objs.size:=by obtain ⟨o,q,_⟩:=q2; exact Heap.lt_size q
 have old:∀ c o,s.heap.get? c=some o->(jw s.heap l m).get? c=some o:=fun c o q=>ak _ (ak _ (ak _ (ak _ (ak _ q))))
 have z1:(s.heap.push (zip2 l)).objs.size=s.heap.objs.size + 1:=Heap.size_push _ _;have z2:((s.heap.push (zip2 l)).push (rO m)).objs.size=s.heap.objs.size + 2:=by rw [Heap.size_push,z1]
 have z3:(((s.heap.push (zip2 l)).push (rO m)).push (pairOf (.ref s.heap.objs.size) (.ref (s.heap.objs.size + 1)))).objs.size=s.heap.objs.size + 3:=by rw [Heap.size_push,z2]
 have z4:((((s.heap.push (zip2 l)).push (rO m)).push (pairOf (.ref s.heap.objs.size) (.ref (s.heap.objs.size + 1)))).push (pairOf .none .none)).objs.size=s.heap.objs.size + 4:=by rw [Heap.size_push,z3]
 have g1:(jw s.heap l m).get? s.heap.objs.size=some (zip2 l):=ak _ (ak _ (ak _ (ak _ (aJ _ rfl))));have g2:(jw s.heap l m).get? (s.heap.objs.size + 1)=some (rO m):=by rw [<- z1]; exact ak _ (ak _ (ak _ (aJ _ rfl)))
 have g3:(jw s.heap l m).get? (s.heap.objs.size + 2)=some (pairOf (.ref s.heap.objs.size) (.ref (s.heap.objs.size + 1))):=by rw [<- z2]; exact ak _ (ak _ (aJ _ rfl))
 have g4:(jw s.heap l m).get? (s.heap.objs.size + 3)=some (pairOf .none .none):=by rw [<- z3]; exact ak _ (aJ _ rfl)
 have g5:(jw s.heap l m).get? (s.heap.objs.size + 4)=some (RP (s.heap.objs.size + 2) (s.heap.objs.size + 3)):=by rw [<- z4]; exact aJ _ rfl
 refine callType_new PySem.F.called_zip (by decide) (PySem.F.typeCall_zip_2 _ _) (PySem.F.newCall_zip_2 _ _) (fun obj=>PySem.F.args_object_init_3 obj _ _) PySem.F.entry_zip_new (Mu l m xs ys) ⟨q1,q2,⟨_,g5,rfl⟩,k _ ?_ ?_ old⟩
 ·have n1:∀ i j:Nat,i≠j->s.heap.objs.size + i≠s.heap.objs.size + j:=fun i j h e=>h (Nat.add_left_cancel e)
  have out:∀ c,c < s.heap.objs.size->∀ i:Nat,c≠s.heap.objs.size + i:=fun c h i=>Nat.ne_of_lt (aY h (Nat.le_add_right _ _))
  refine ⟨?_,?_,?_,?_⟩
  ·simp only [nodup_cons,aO,not_mem_nil,or_false,not_or,not_false_eq_true,List.nodup_nil,and_true];exact ⟨⟨n1 4 3 (by decide),n1 4 0 (by decide),n1 4 1 (by decide)⟩,⟨n1 3 0 (by decide),n1 3 1 (by decide)⟩,n1 0 1 (by decide)⟩
  ·simp only [aO,not_mem_nil,or_false,not_or];exact ⟨n1 2 4 (by decide),n1 2 3 (by decide),n1 2 0 (by decide),n1 2 1 (by decide)⟩
  ·simp only [aO,not_mem_nil,or_false,not_or];exact ⟨out l K8 4,out l K8 3,out l K8 0,out l K8 1⟩
  ·simp only [aO,not_mem_nil,or_false,not_or];exact ⟨out m Bv 4,out m Bv 3,out m Bv 0,out m Bv 1⟩
 ·obtain ⟨o1,y1,r1⟩:=q1;obtain ⟨o2,y2,r2⟩:=q2;exact ⟨g5,g3,⟨_,_,g4⟩,.lst ⟨_,g1,rfl,rfl⟩ ⟨o1,old _ _ y1,r1⟩,.tup ⟨_,g2,rfl,rfl⟩ ⟨o2,old _ _ y2,r2⟩⟩
end
noncomputable def Itw (K:Fg) (l m:aB):It := ⟨fun i H=>∃ xs ys x y,cD K H l xs/\dM K H m ys/\xs[i]?=some x/\ys[i]?=some y,fun i H v H'=>∃ T,H T=none/\v=.ref T/\∀ xs ys x y,cD K H l xs->dM K H m ys->xs[i]?=some x->ys[i]?=some y->H'=upd H T (.tup [x,y]),fun i H=>∃ xs ys,cD K H l xs/\dM K H m ys/\(xs.length<=i\/ys.length<=i)⟩
structure Ss (z ti to a b l m:aB) (i:Nat) (h:Heap):Prop where
 cell:IsZip h z ti to .none
 its:IsPair h ti (.ref a) (.ref b)
 kept:∃ u v,IsPair h to u v
 one:h.IsListIter a l i
 two:h.IsTupleIter b m i
theorem Jw {P:cA} {w:World} {K:Fg} {elts:List Expr} {k:Nat} {pos:Pos} {z ti to a b l m:aB} (D:gW z ti to a b l m):Turn P w K (.Tuple elts k pos) (Itw K l m) [z,ti,to,a,b] z (Ss z ti to a b l m) where
 mem:=by simp
 obj:=fun i h R c hc=>by
  obtain ⟨u,v,kept⟩:=R.kept;obtain ⟨o1,q1,_,d1⟩:=R.one;obtain ⟨o2,q2,_,d2⟩:=R.two;simp only [aO,not_mem_nil,or_false] at hc;rcases hc with rfl | rfl | rfl | rfl | rfl
  ·exact ⟨_,R.cell,fun v q=>by cases q⟩
  ·exact ⟨_,R.its,fun v q=>by cases q⟩
  ·exact ⟨_,kept,fun v q=>by cases q⟩
  ·exact ⟨o1,q1,fun v q=>by rw [d1] at q; cases q⟩
  ·exact ⟨o2,q2,fun v q=>by rw [d2] at q; cases q⟩
 keep:=fun i h h' R kp=>by
  obtain ⟨u,v,kept⟩:=R.kept;obtain ⟨o1,q1,r1⟩:=R.one;obtain ⟨o2,q2,r2⟩:=R.two;exact ⟨kp z (by simp) _ R.cell,kp ti (by simp) _ R.its,⟨u,v,kp to (by simp) _ kept⟩,⟨o1,kp a (by simp) _ q1,r1⟩,⟨o2,kp b (by simp) _ q2,r2⟩⟩
 item:=by
  intro X hP hw hK hc i pins s σ H E I hf R go;subst hP hw hK;obtain ⟨xs,ys,x,y,sx,sy,hx,hy⟩:=go;obtain ⟨m6,v1,p1,_⟩:=I.list sx;obtain ⟨its2,v2,p2,_⟩:=I.tuple sy;obtain ⟨ux,gx,rx⟩:=v1.get hx;obtain ⟨uy,gy,ry⟩:=v2.get hy;have Z:jP false true z ti to a b l m m6.toArray its2.toArray .none i i s.heap:=⟨R.cell,R.its,R.kept,.lst R.one p1.isList,.tup R.two p2⟩;have fr:s.heap.get? s.heap.objs.size=none:=Heap.get?_none_of_le (aN _);have there:∀ c ∈ [z,ti,to,a,b],∃ o,s.heap.get? c=some o:=fun c hc=>by
   obtain ⟨u,v,kept⟩:=R.kept;obtain ⟨o1,q1,_⟩:=R.one;obtain ⟨o2,q2,_⟩:=R.two;simp only [aO,not_mem_nil,or_false] at hc;rcases hc with e | e | e | e | e <;> rw [e]
   ·exact ⟨_,R.cell⟩
   ·exact ⟨_,R.its⟩
   ·exact ⟨_,kept⟩
   ·exact ⟨_,q1⟩
   ·exact ⟨_,q2⟩
  have h4:∀ c ∈ [z,to,a,b],kh X pins H c:=fun c hc=>hf c (by simp at hc ⊢; rcases hc with r | r | r | r <;> simp [r])
  refine BW D Z (x:=ux) (y:=uy) (by simpa using gx) (by simpa using gy) fun h1 Z1 pr past=>⟨.ref s.heap.objs.size,rfl,yt D (s:={ s with heap:=h1 }) Z1 fun h2 Z2 sb=>?_⟩
  have zlt:s.heap.objs.size≠z:=Nat.ne_of_gt (Heap.lt_size R.cell);have pr2:IsPair h2 s.heap.objs.size ux uy:=sb.extBut _ _ zlt pr;refine ⟨.ref s.heap.objs.size,upd H s.heap.objs.size (.tup [x,y]),Inv.drawn (h':=h2) (t':=s.toks) (ch:=[z,to,a,b]) (s:=s) I h4 (fun c o out q=>sb.extBut c o (four out).1 (past c o out q)) fr ⟨zM,[ux,uy],.cons rx (.cons ry .nil),⟨_,pr2,rfl,_,rfl⟩⟩,rfl,⟨_,I.hok.none_of fr,rfl,fun xs' ys' x' y' sx' sy' hx' hy'=>?_⟩,?_,fun c hc=>?_⟩
  ·have e1:=I.qG sx' sx;have e2:=I.rH sy' sy;subst e1; subst e2;rw [hx] at hx'; rw [hy] at hy';cases hx'; cases hy'; rfl
  ·refine ⟨Z2.cell,Z2.its,Z2.kept,?_,?_⟩
   ·cases Z2.one with
    | lst q _=>exact q
   ·cases Z2.two with
    | tup q _=>exact q
  ·obtain ⟨o,q⟩:=there c hc;rw [bx (fun e=>by rw [e,fr] at q; cases q)];exact (hf c hc).1
 done:=by
  intro X hP hw hK hc i pins s σ H E I hf R stop;subst hP hw hK;obtain ⟨xs,ys,sx,sy,le⟩:=stop;obtain ⟨m6,v1,p1,_⟩:=I.list sx;obtain ⟨its2,v2,p2,_⟩:=I.tuple sy;have Z:jP false true z ti to a b l m m6.toArray its2.toArray .none i i s.heap:=⟨R.cell,R.its,R.kept,.lst R.one p1.isList,.tup R.two p2⟩;have h4:∀ c ∈ [z,to,a,b],kh X pins H c:=fun c hc=>hf c (by simp at hc ⊢; rcases hc with r | r | r | r <;> simp [r])
  have l1:=v1.length;have l2:=v2.length;have hend:m6.toArray[i]?=none\/(∃ x,m6.toArray[i]?=some x)/\its2.toArray[i]?=none:=by
   by_cases q:m6.length<=i
   ·exact .inl (by simp [q])
   ·exact .inr ⟨⟨m6[i]'(by omega),by simp⟩,by simp; omega⟩
  exact BX (I.ok.hd hc) D Z hend fun h' past=>⟨rfl,I.turns (t':=s.toks) h4 past⟩
 self:=fun _ _ _ _ _ R q=>wpAny_pyIter_zip R.cell q
section
variable {X:Cx}
def ajv (K:Fg) (ta:TA):TI:=fun σ H R=>ta σ H fun vs H1=>∃ l m xs ys,vs=[.ref l,.ref m]/\cD K H1 l xs/\dM K H1 m ys/\R (Itw K l m) H1
theorem Sv {e1 e2:Expr} {elts:List Expr} {k:Nat} {tp p pos:Pos} {ta:TA} (hg:Gl X "zip") (hm:X.mg "zip"=none) (ha:PA X [e1,e2] ta) (st1:autoParam (starEach [e1,e2] X.env=[(false,eval e1 X.env),(false,eval e2 X.env)]) zau0) (st2:autoParam (starEach [e2] X.env=[(false,eval e2 X.env)]) zau0) : PI X (.Tuple elts k tp) (.Call (.Name "zip" p) [e1,e2] [] pos) (ajv X.K ta):=by
 intro pins s σ H R I h;refine Call_ (mV I hg hm boot_zip (callWith_type1 (d9 (ha pos pins s σ H _ I h) fun us a ⟨vs,H1,I1,r,q⟩=>?_) (by rw [st1,st2]) (by rw [st2]; rfl)));obtain ⟨l,m,xs,ys,e,sx,sy,q⟩:=q;subst e;obtain ⟨u1,u2,e,r1,r2⟩:=Vals.two r;subst e;cases r1; cases r2;obtain ⟨m6,v1,p1,_⟩:=I1.list sx;obtain ⟨its2,v2,p2,_⟩:=I1.tuple sy;refine Jv p1.isList p2 fun h' D Z old=>?_
 have I2:Inv X pins σ H1 { a with heap:=h' }:=I1.kept (t':=a.toks) old;refine wpAny_pyIter_zip (s:={ a with heap:=h' }) Z.cell ⟨_,[a.heap.objs.size + 4,a.heap.objs.size + 2,a.heap.objs.size + 3,a.heap.objs.size,a.heap.objs.size + 1],_,_,H1,rfl,I2,Jw D,⟨Z.cell,Z.its,Z.kept,?_,?_⟩,fun b hb=>?_,q⟩
 ·cases Z.one with
  | lst q _=>exact q
 ·cases Z.two with
  | tup q _=>exact q
 ·have le:a.heap.objs.size<=b:=by
   have hb5:b=a.heap.objs.size + 4\/b=a.heap.objs.size + 2\/b=a.heap.objs.size + 3\/b=a.heap.objs.size\/b=a.heap.objs.size + 1:=by simpa using hb
   rcases hb5 with e | e | e | e | e <;> rw [e] <;> first | exact Nat.le_add_right _ _ | exact aN _
  have f:=I1.Iu (H':=H1) le (I1.hok.fresh le);exact f
end
end L2
namespace Tw
open PySem L2
section
variable {K:Fg} {α β:Type} {S:Rep β}
theorem kZ (R:Rep α) (sS:uE S) {J:It} {D:aB} {H:Hp} {xs:List α} {σ0:St} {g:TG} {tc:TT} {te:TE} {Qe:Hp->Prop} (pr:α->Bool) (f:α->β) (ok:α->Prop) (hz:xs.length<=sizeLine) (hD:H D=none) (go:∀ i H',i < xs.length->Same H H'->J.go i H') (stop:∀ H',Same H H'->J.stop xs.length H') (yl:∀ i x v H' H2,xs[i]?=some x->Same H H'->J.Ke i H' v H2->Same H' H2/\R H2 v x) (body:∀ (i:Nat) x v H2,xs[i]?=some x->R H2 v x->Same H H2->∀ (Qc:VK) (Qn:Hp->Prop),(pr x=true->ok x->∀ u H3,Same H2 H3->S H3 u (f x)->Qc u H3)->(pr x=false->∀ H3,Same H2 H3->Qn H3) -> g v σ0 H2 fun σ2 H'=>kI σ0 σ2/\tc σ2 H' fun b H3=>if b=true then te σ2 H3 Qc else Qn H3) (q:∀ H',Same H H'->(∀ x ∈ xs,pr x=true->ok x)->iI S H' (.ref D) ((xs.filter pr).map f)->Qe H') : ∃ W:Nat->Nat->List V->Hp->Prop,(∃ m,W 0 m [] (L2.upd H D (.lst [])))/\oU D J σ0 g tc te Qe W:=by
 refine uP xs.length hz (fun i acc H'=>Same H H'/\H' D=some (.lst acc)/\(∀ x ∈ xs.take i,pr x=true->ok x)/\Paired (S H') acc (((xs.take i).filter pr).map f)) ⟨aV hD,aD,fun x hx=>by rw [take_zero] at hx; exact absurd hx (by simp),.nil⟩ (fun i acc H' le ⟨_,e,_,p⟩=>⟨?_,e⟩) ?_ ?_
 ·rw [Paired.length p,aq];exact bh (length_filter_le _ _) (by rw [length_take]; omega)
 ·rintro acc H' ⟨s',e,al,p⟩;rw [bI] at p al;exact ⟨stop H' s',q H' s' al ⟨D,acc,rfl,e,p⟩⟩
 ·rintro i acc H' lt ⟨s',e,al,p⟩;have hx:xs[i]?=some xs[i]:=aC lt;refine ⟨go i H' lt s',?_⟩;intro y yq hy Qc Qn k kn;obtain ⟨s2,rv⟩:=yl i xs[i] y H' yq hx s' hy;refine body i xs[i] y yq hx rv (s'.trans s2) Qc Qn (fun ep eo u H3 s3 ru=>?_) (fun ep H3 s3=>?_)
  ·have e3:=s3 _ _ (s2 _ _ e);refine k u H3 e3 ⟨kY ((s'.trans s2).trans s3) hD,aD,fun x hx' hp=>?_,?_⟩
   ·rw [take_snoc hx] at hx';rcases mem_append.mp hx' with z | z
    ·exact al x z hp
    ·rw [aP.mp z]; exact eo
   ·rw [take_snoc hx,cX,bf];have ef:[xs[i]].filter pr=[xs[i]]:=by simp [ep]
    rw [ef];exact Paired.snoc (Paired.ig p fun _ _ z=>sS.upd (sS.same z (s2.trans s3)) e3) (sS.upd ru e3)
  ·refine kn H3 ⟨(s'.trans s2).trans s3,s3 _ _ (s2 _ _ e),fun x hx' hp=>?_,?_⟩
   ·rw [take_snoc hx] at hx';rcases mem_append.mp hx' with z | z
    ·exact al x z hp
    ·rw [aP.mp z,ep] at hp; cases hp
   ·rw [take_snoc hx,cX];have ef:[xs[i]].filter pr=[]:=by simp [ep]
    rw [ef,cJ];exact Paired.ig p fun _ _ z=>sS.same z (s2.trans s3)
theorem Mv {R:Rep α} (sR:uE R) {H:Hp} {l:aB} {xs:List α} (hl:iI R H (.ref l) xs):(∀ i H',i < xs.length->Same H H'->(KC K l).go i H')/\(∀ H',Same H H'->(KC K l).stop xs.length H') /\ ∀ i x v H' H2,xs[i]?=some x->Same H H'->(KC K l).Ke i H' v H2->Same H' H2/\R H2 v x:=by
 obtain ⟨l',vs,el,hv,pv⟩:=hl;cases el;have ln:=Paired.length pv;refine ⟨fun i H' lt s'=>?_,fun H' s'=>⟨vs,cD.of (s' _ _ hv),by omega⟩,fun i x v H' H2 hx s' hy=>?_⟩
 ·obtain ⟨v,Jj,_⟩:=iR pv (aC lt);exact ⟨vs,v,cD.of (s' _ _ hv),Jj⟩
 ·obtain ⟨e,hy⟩:=hy;subst e;obtain ⟨v',Jj,rv⟩:=iR pv hx;have ey:=hy vs (cD.of (s' _ _ hv));rw [Jj] at ey;cases ey;exact ⟨Same.refl _,sR.same rv s'⟩
theorem acJ {R:Rep α} (sR:uE R) {H:Hp} {l:aB} {xs:List α} (hl:vI R H (.ref l) xs):(∀ i H',i < xs.length->Same H H'->(Sg K true 0 l).go i H')/\(∀ H',Same H H'->(Sg K true 0 l).stop xs.length H') /\ ∀ i x v H' H2,xs[i]?=some x->Same H H'->(Sg K true 0 l).Ke i H' v H2->Same H' H2/\∃ t u,v=.ref t/\H2 t=some (.tup [.int (i:Nat),u])/\R H2 u x:=by
 obtain ⟨l',vs,el,hv,pv⟩:=hl;cases el;have ln:=Paired.length pv;refine ⟨fun i H' lt s'=>?_,fun H' s'=>⟨vs,dM.of (s' _ _ hv),by omega⟩,fun i x v H' H2 hx s' hy=>?_⟩
 ·obtain ⟨v,Jj,_⟩:=iR pv (aC lt);exact ⟨vs,v,dM.of (s' _ _ hv),Jj⟩
 ·obtain ⟨T,hT,rfl,hy⟩:=hy;obtain ⟨v',Jj,rv⟩:=iR pv hx;rw [hy vs v' (dM.of (s' _ _ hv)) Jj];have n:=aV (o:=.tup [V.int (0 + i:Nat),v']) hT;exact ⟨n,T,v',rfl,by rw [aD,Nat.zero_add],sR.same rv (s'.trans n)⟩
end
end Tw
namespace L2
open PySem PySem.Spec PyProof.Rows
def Hj (X:Cx) (σ:St) (E:XK):Prop:=∀ pins H s e cls dx,Inv X pins σ H s->Fly X pins H s e cls dx->E cls dx H->X.xe (.ref e) s
def PES (X:Cx) (σ:St) (e:Expr) (t:TE):Prop:=∀ pins s H Q,Inv X pins σ H s->t σ H Q->wpAny (model X.prog X.w) X.A (eval e X.env) (EP X pins σ Q) X.xe s
def PSS (X:Cx) (σ:St) (st:cY) (t:TS):Prop:=∀ pins s H D,Inv X pins σ H s->t D σ H->wpAny (model X.prog X.w) X.A (exec st X.env) (SP X pins D) X.xe s
def Sw (X:Cx) (σ:St) (b:List cY) (t:TS):Prop:=∀ pins s H D,Inv X pins σ H s->t D σ H->wpAny (model X.prog X.w) X.A (execs b X.env) (SP X pins D) X.xe s
section
variable {X:Cx} {σ:St} {E:XK} {k:Nat} {f:aB} {fd:dW} {ps:List Str} {sp:Sp} {oN:List V} {ds:List aA} {x:Str} {p pos:Pos} {e:Expr} {es:List Expr} {t:TA}
theorem Sx (acc:Hj X σ E) {pins:List (aB × Obj)} {H:Hp} {s s':aQ} {ev:aA} (I:Inv X pins σ H s) (h:fu X.prog X.w X.stack H s E ev s'):X.xe ev s':=by
 obtain ⟨e,cls,dx,H',t,rfl,os,bare,un,hok,x,ne,nt,fe,ft,q⟩:=h;have I':Inv X pins σ H' s':=I.call' (ch:=[]) os un hok bare (fun b z=>nomatch z);refine acc pins H' s' e cls dx I' ⟨some t,x,⟨ne,(I.iD fe).2⟩,fun y z=>?_⟩ q;cases z;exact ⟨nt,(I.iD ft).2⟩
theorem vN (F:cG X.prog X.w X.K X.mg X.base (fu X.prog X.w) k f fd ps sp) (hr:d7 k X.A) (hm:X.mg x=some (.ref f)) (hk:keepIn X.K (.ref f)=true) (hb:Binds X.K fd ps ds) (hd:Vals oN ds) (acc:Hj X σ E) (ha:PA X (e::es) t) (hg:autoParam (Gl X x) zau0) (hdb:autoParam ((x == ("__debug__":Str))=false) zau1) (he:autoParam (starEach (e::es) X.env=(false,eval e X.env)::starEach es X.env) zau0) (hpl:autoParam ((backTo pos (starEach es X.env)).any (·.1)=false) zau0) : PES X σ (.Call (.Name x p) (e::es) [] pos) (xW sp oN E t):=by
 intro pins s H Q I h;refine wpAny_Call_Name_kw (iz I hg hm ?_ hdb);refine callWith_K (h₀:=X.base) I.ok.mod.Ea hk (d9 (ha pos pins s σ H _ I h) fun us s1 ⟨vs,H1,I1,r,q⟩=>⟨I1.j7,?_⟩) he hpl;have r2:Vals (vs++oN) (us++ds):=r.append hd;have hl:(us++ds).length=ps.length:=by rw [<- r2.length]; exact F.len _ _ _ _ q
 refine wpAny_call (cg (F.run X.A X.stack s1 H1 ⟨us,[]⟩ (us++ds) (vs++oN) Q E hr I1.env0 (hb s1 us I1.j7 hl) r2 q) fun r s' hq=>?_);rcases r with ev | fl
 ·exact Sx acc I1 hq
 ·cases fl with
  | ret u=>exact I1.after hq
  | next=>exact False.elim hq
  | brk=>exact False.elim hq
  | cont=>exact False.elim hq
theorem zU {i:Nat} {te:TE} {pos':Pos} (hN:X.N.Nodup) (hi:X.N[i]?=some x) (hx:Loc X.env.scope x) (he:PES X σ e te) (hs:autoParam (swapsWith e (some (.Name x pos')) pos.line X.env=pure false) zau0) (hf:autoParam (X.fn x=true\/X.env.scope.names.lookup x=some .local) zau2) : PSS X σ (.Assign [.Name x pos'] e pos) (Ro te (xQ i)):=by
 intro pins s H D I h;refine wpAny_Assign_Name (d9 (he pins s H _ I h) fun v s1 ⟨y,H1,I1,r1,q1⟩=>?_) hs;exact mU I1 hN hi hx r1 (fun s2 I2=>⟨_,H1,I2,q1⟩) hf
theorem Mw {c:Expr} {a b:List cY} {tc:TT} {t u:TS} (hc:PT X c tc) (ha:Sw X σ a t) (hb:Sw X σ b u):PSS X σ (.If c a b pos) (aiH tc t u):=by
 intro pins s H D I h;refine wpAny_If (d9 (hc pins s σ H _ I h) fun d s1 ⟨H1,I1,q1⟩=>?_);cases d with
 | true=>exact ha pins s1 H1 D I1 q1
 | false=>exact hb pins s1 H1 D I1 q1
theorem ni {st:cY} {t:TS} (h1:PSS X σ st t):Sw X σ [st] t:=by
 intro pins s H D I h;refine wpAny_execs_cons (d9 (h1 pins s H D I h) fun f s1 q=>?_);cases f with
 | next=>exact wpAny_execs_nil q
 | ret v=>exact q
 | brk=>exact q
 | cont=>exact q
end
noncomputable def ajw (N i:Nat) (hit:aA->Prop) (tb:XK->TS) (ts:TS):TS:=fun D σ H=>∃ E0:XK,(∀ cls dx H',E0 cls dx H'->hit cls/\∀ e,H' e=none->ts { nx:=fun _ H2=>D.nx (blank N) H2,rt:=D.rt } (σ.set i (some (.ref e))) (upd H' e (kE e cls dx)))/\tb E0 D σ H
section
variable {X:Cx} {x n:Str} {c:aA} {i:Nat} {np hpos pos:Pos} {body suite:List cY} {b₀:cY} {tb:XK->TS} {ts:TS} {L:aB} {hit:aA->Prop}
theorem Sy (hex:X.ex=[]) (F:ou X L) (hN:X.N.Nodup) (hi:X.N[i]?=some n) (hln:X.env.scope.names.lookup n=some .local) (hg:Gl X x) (hm:X.mg x=some c) (ach:∀ cls,hit cls->exmOne X.K cls c=some true) (hb:∀ (E':aA->aQ->Prop) (mQ:List (aB × Obj)) (Eb:XK) (σ:St),Hj (X.oR E' mQ) σ Eb->Sw (X.oR E' mQ) σ body (tb Eb)) (hs:∀ e,xP (X.hand e) (b₀::suite) ts) (hdb:autoParam ((x == ("__debug__":Str))=false) zau1) : PS X (.Try body [.ExceptHandler (some (.Name x np)) (some n) (b₀::suite) hpos] [] [] pos) (ajw X.N.length i hit tb ts):=by
 intro pins s σ H D I h;have hcls:(X.env.scope.kind == .class || (X.env.scope.kind == .module && X.env.locals != X.env.globals))=false:=by rw [I.ok.kind]; rfl
 refine wpAny_Try_except ?_;obtain ⟨Eb,met,h⟩:=h
 let E':aA->aQ->Prop:=fun ev s₁=>wpAny (model X.prog X.w) X.A (noteFrame ev X.env) (fun _ s₂=>wpAny (model X.prog X.w) X.A (setFlight ev none) (fun _ s₃ =>
   wpAny (model X.prog X.w) X.A (handleBy ev X.env [.ExceptHandler (some (.Name x np)) (some n) (b₀::suite) hpos]) (SP X pins D) X.xe s₃) X.xe s₂) X.xe s₁
 suffices acc:Hj (X.oR E' (X.pn++pins)) σ Eb by
  refine bW (hb E' (X.pn++pins) Eb σ acc [] s H D (I.oR E') h) (fun f s1 h1=>?_) fun ev s1 h1=>h1
  have un:∀ {σ':St} {H':Hp},Inv (X.oR E' (X.pn++pins)) [] σ' H' s1->Inv X pins σ' H' s1:=fun J=>J.o9 I.ok
  cases f with
  | next=>obtain ⟨σ',H',J,q⟩:=h1; exact wpAny_execs_nil ⟨σ',H',un J,q⟩
  | brk=>obtain ⟨σ',H',J,q⟩:=h1; exact ⟨σ',H',un J,q⟩
  | cont=>obtain ⟨σ',H',J,q⟩:=h1; exact ⟨σ',H',un J,q⟩
  | ret u=>obtain ⟨v,σ',H',J,r,q⟩:=h1; exact ⟨v,σ',H',un J,r,q⟩
 ·intro j8 H' s' e cls dx I' fl q;obtain ⟨hh,q⟩:=met cls dx H' q;refine zH (X:=X.oR E' (X.pn++pins)) I' I'.ok.frames F fl fun s1 I1 f1=>?_
  refine kj I1 f1 fun s2 I2 f2=>?_
  obtain ⟨t2,x2,le2,Bv⟩:=f2;have J2:Inv X pins σ H' s2:=I2.o9 I.ok;have J2h:=J2.hand e;refine wpAny_handleBy_cons (codeAny_handlers_test ?_) (by intro z; cases z);refine iz (X:=X.hand e) J2h hg hm ?_ hdb;obtain ⟨oe,vs,he,hc,hd,hv,_⟩:=id x2;have ty:Looks (model X.prog X.w) s2.heap (typeOf (.ref e)) cls:=hc ▸ (Looks.ld he).andThen .now;refine (exm_one J2.j7 ty (ach cls hh)).here ?_;refine codeAny_handlers_suite_as (kj I2 ⟨t2,x2,le2,Bv⟩ fun s3 I3 f3=>?_);obtain ⟨t3,x3,Ew,lt3⟩:=f3;obtain ⟨oe3,vs3,he3,hc3,hd3,hv3,_⟩:=id x3;have J3:Inv X pins σ H' s3:=I3.o9 I.ok;have lX:Loose X pins H' e:=⟨Ew.1,Ew.2.1,Ew.2.2.1,Ew.2.2.2.1,Ew.2.2.2.2.1,fun p hp=>Ew.2.2.2.2.2 p (mem_append_left _ hp)⟩;have J4:Inv X pins σ (upd H' e (kE e cls dx)) s3:=J3.adopt lX (by rw [hex]; exact fun z=>nomatch z) (by
   refine ⟨⟨oe3,vs3,he3,hc3,hd3,hv3⟩,⟨oe3,he3⟩,fun h1 h2 p k=>?_⟩;obtain ⟨o,v,a,b⟩:=p;exact ⟨o,v,k o a,b⟩)
  refine mU (X:=X.hand e) (J4.hand e) hN hi (.inl hln) (show RelV (.ref e) (.ref e) from rfl) (fun s4 I4=>?_) (.inr hln);refine bW (hs e pins s4 _ _ _ I4 (q e Ew.1)) (fun f s5 h5=>?_) fun _ _ z=>z.elim
  have gone:∀ {σ5:St} {H5:Hp} (Q:aQ->Prop),Inv (X.hand e) pins σ5 H5 s5->(∀ s6,Inv X pins (blank X.N.length) H5 s6->Q s6) ->
    wpAny (model X.prog X.w) X.A (do bindName X.env n .none; unbindBehindTheSuite X.env n hpos) (fun _ s6=>Q s6) X.xe s5:=fun {σ5 H5} Q I5 k=>by
   obtain ⟨m,hn,_⟩:=I5.loc;exact wpAny_nameGoes hln hn hcls fun h' m' hn' sb=>k _ (Inv.Bu (I5.La I.ok) hn' sb)
  cases f with
  | next =>
   obtain ⟨σ5,H5,I5,q5⟩:=h5;exact gone (fun s6=>SP X pins D .next s6) I5 fun s6 I6=>⟨_,H5,I6,q5⟩
  | ret u =>
   obtain ⟨v,σ5,H5,I5,r5,q5⟩:=h5;exact gone (fun s6=>SP X pins D (.ret u) s6) I5 fun s6 I6=>⟨v,_,H5,I6,r5,q5⟩
  | brk=>obtain ⟨_,_,_,z⟩:=h5; exact z.elim
  | cont=>obtain ⟨_,_,_,z⟩:=h5; exact z.elim
theorem SJ (K:Fg) (hu:X.A.units + 64 < cLine) (hK:autoParam (X.K=K) zau0):lE X (compareOp .Eq) (ajk K false):=by
 subst hK;exact Lr hu
theorem xK (K:Fg) (hK:autoParam (X.K=K) zau0):gw X (.type "list") (fun xs H Q=>∃ p ys,xs=[.ref p]/\(cD K H p ys\/dM K H p ys)/\∀ l,H l=none->Q (.ref l) (upd H l (.lst ys))):=by
 subst hK;exact zE
end
end L2
namespace Tw
open PySem L2
abbrev rR:cY:=top 2
abbrev oG:cY:=top 15
structure Kh (mg:Str->Option aA):Prop where
 isinstance:mg "isinstance"=none
 bool:mg "bool"=none
 int:mg "int"=none
 str:mg "str"=none
 list:mg "list"=none
 tuple:mg "tuple"=none
 len:mg "len"=none
 all:mg "all"=none
 set:mg "set"=none
 zip:mg "zip"=none
 reversed:mg "reversed"=none
 range:mg "range"=none
section
variable {P:cA} {w:World} {K:Fg} {mg:Str->Option aA} {base:Heap}
def cL (v:V) (l m:Int):Bool:=match v with
 | .int i=>decide (l<=i) && decide (i<=m)
 | _=>false
def Hl (K:Fg):Sp:=fun vs H Q _=>∃ v l m k,vs=[v,.int l,.int m]/\eX K H v k/\Q (.bl (cL v l m)) H
theorem SM:bQ ["value","least","most"] ["value","least","most"] (aW rR):=dN (by decide +kernel)
theorem Mx {f:aB} {fd:dW} (F:mO K "is_whole" "is_whole" rR f fd) (B:Kh mg):cG P w K mg base (fu P w) 1 f fd ["value","least","most"] (Hl K):=by
 refine F.lO SM (fun vs H Q E h=>?_) (fun cdv A outer s H vs Q E hr h=>?_)
 ·obtain ⟨v,l,m,k,rfl,_⟩:=h;rfl
 ·obtain ⟨v,l,m,k,rfl,hk,q⟩:=h;refine ⟨_,aK (dG (pw_or (eO (jW .bool B.isinstance B.bool (pv 0))) (pw_or1 (fK (eO (jW .int B.isinstance B.int (pv 0)))))).pt (aU (bY iZ)) bU) (aU (bY (Bb xR xR (pv 1) (pv 0) (pv 2)))),?_⟩;refine ⟨_,rfl,v,k,rfl,hk,_,rfl,?_⟩;have no:(∀ i,v≠.int i)->cL v l m=false:=fun h=>by
   cases v with
   | int i=>exact absurd rfl (h i)
   | _=>rfl
  cases k with
  | bl=>obtain ⟨b,rfl⟩:=hk; exact cQ (cQ q)
  | int =>
   obtain ⟨z,rfl⟩:=hk;refine cU ⟨_,rfl,_,.int,rfl,⟨z,rfl⟩,_,rfl,?_⟩;refine cU ⟨_,rfl,_,rfl,_,_,rfl,rfl,_,rfl,?_⟩;have e:cL (.int z) l m=(decide (l<=z) && decide (z<=m)):=rfl;rw [e] at q
   by_cases h1:l<=z
   ·rw [aL h1] at q ⊢;exact cQ ⟨_,rfl,_,_,rfl,rfl,q⟩
   ·rw [aG h1] at q ⊢;exact cU q
  | non=>cases hk; exact cU ⟨_,rfl,_,.non,rfl,rfl,_,rfl,cQ q⟩
  | str=>obtain ⟨x,rfl⟩:=hk; exact cU ⟨_,rfl,_,.str,rfl,⟨x,rfl⟩,_,rfl,cQ q⟩
  | lst=>obtain ⟨a,xs,rfl,e⟩:=hk; exact cU ⟨_,rfl,_,.lst,rfl,⟨a,xs,rfl,e⟩,_,rfl,cQ q⟩
  | tup=>obtain ⟨a,xs,rfl,e⟩:=hk; exact cU ⟨_,rfl,_,.tup,rfl,⟨a,xs,rfl,e⟩,_,rfl,cQ q⟩
  | ins C=>obtain ⟨a,dx,fs,rfl,e⟩:=hk; exact cU ⟨_,rfl,_,.ins C,rfl,⟨a,dx,fs,rfl,e⟩,_,rfl,cQ q⟩
def letter (c:Nat):Bool:=!decide ([c] < [97]) && !decide ([122] < [c])
def nameV (v:V):Bool:=match v with
 | .str x=>decide (1<=x.length) && decide (x.length<=12) && x.cps.toList.all letter
 | _=>false
theorem Jx (a:Array Nat):((List.range a.size).map fun i=>letter (a.getD i 0)).all id=a.toList.all letter:=by
 have e:a.toList=(List.range a.size).map fun i=>a.getD i 0:=by
  apply ext_getElem?;intro i
  by_cases h:i < a.size
  ·simp [h]
  ·simp [h]
 rw [e,all_map,all_map];rfl
def Mz (K:Fg):Sp:=fun vs H Q _=>∃ v k,vs=[v]/\eX K H v k/\(∀ x,v=.str x->x.length<=sizeLine)/\∀ H',Same H H'->Q (.bl (nameV v)) H'
theorem acK:bQ ["value"] ["value"] (aW oG):=dN (by decide +kernel)
theorem SN {f:aB} {fd:dW} {t:Tok} (F:mO K "is_name" "is_name" oG f fd) (B:Kh mg) (hl:mg "LONGEST_NAME"=some (.int 12 t)):cG P w K mg base (fu P w) 1 f fd ["value"] (Mz K):=by
 refine F.lO acK (fun vs H Q E h=>?_) (fun cdv A outer s H vs Q E hr h=>?_)
 ·obtain ⟨v,k,rfl,_⟩:=h;rfl
 ·obtain ⟨v,k,rfl,hk,hz,q⟩:=h;refine ⟨_,aK (dG (pw_or (fK (eO (jW .str B.isinstance B.str (pv 0)))) (pw_or1 (fK (Bc xR xR aM (dB qK B.len PySem.boot_len (ao (pv 0) aF)) (iy (.int 12) hl ⟨t,rfl⟩))))).pt (aU (bY iZ)) bU) (aU (bY (dB (rP rfl) B.all boot_all (ao (fM bL rfl ⟨_,_,rfl,rfl,rfl⟩ (fZ.plain (N':=["sign"]) rfl (by decide +kernel) (by decide +kernel)) (acq (pv 0)) (fun _ _ _ _ _=>cV 0 (show [("sign":Str)].Nodup by decide +kernel)) (fun _ _ _ _ _=>f9) (fun _ _ _ _ _ _=>Bb yu yu dR (pv 0) dR)) aF)))),?_⟩;refine ⟨_,rfl,v,k,rfl,hk,_,rfl,?_⟩;cases k with
  | str =>
   obtain ⟨x,rfl⟩:=hk;refine cU ⟨_,rfl,x,rfl,hz x rfl,_,_,rfl,rfl,_,rfl,?_⟩;have en:nameV (.str x)=(decide (1<=x.length) && decide (x.length<=12) && x.cps.toList.all letter):=rfl
   by_cases h1:1<=x.length
   ·have h1':(1:Int)<=(x.length:Int):=by omega
    rw [aL h1'];refine cQ ⟨_,_,rfl,rfl,_,rfl,?_⟩
    by_cases h2:x.length<=12
    ·have h2':(x.length:Int)<=12:=by omega
     rw [aL h2'];refine cU ⟨_,rfl,x,rfl,fun D hD=>?_⟩;rw [aL h1,aL h2] at en;have hD1:Same H (upd H D (.lst ((List.range x.cps.size).map fun i=>V.bl (letter (x.cps.getD i 0))))):=aV hD;refine zP x.cps.size (hz x rfl) (fun i=>.bl (letter (x.cps.getD i 0))) (fun i H'=>H'=upd H D (.lst ((List.range i).map fun i=>V.bl (letter (x.cps.getD i 0))))) rfl (fun i H' _ e=>by rw [e,aD]) (fun H' e=>⟨rfl,?_⟩) (fun i H' lt e=>⟨lt,?_⟩)
     ·subst e;refine ⟨D,(List.range x.cps.size).map fun i=>letter (x.cps.getD i 0),rfl,cD.of (by rw [aD,map_map]; rfl),?_⟩;rw [Jx];have q':=q _ hD1;rw [en] at q';exact q'
     ·rintro v yq ⟨rfl,c,hc,rfl⟩ Qc k;subst e;refine ⟨fX,_,rfl,_,_,rfl,rfl,_,rfl,?_⟩;have k':=k _ aD (by rw [jh]);have ec:x.cps.getD i 0=c:=by simp [hc]
      have el:letter c=(!decide ([c] < [97]) && !decide ([122] < [c])):=rfl;rw [ec,el] at k'
      change if (!decide ([c] < [97]))=true then _ else _
      cases h3:!decide ([c] < [97]) with
      | false =>
       rw [h3] at k';exact cU k'
      | true =>
       rw [h3] at k';exact cQ ⟨_,_,rfl,rfl,k'⟩
    ·have h2':¬ (x.length:Int)<=12:=by omega
     rw [aG h2'];have q':=q H (Same.refl _);rw [en,aL h1,aG h2] at q';exact cQ q'
   ·have h1':¬ (1:Int)<=(x.length:Int):=by omega
    rw [aG h1'];have q':=q H (Same.refl _);rw [en,aG h1] at q';exact cU ⟨_,rfl,cQ q'⟩
  | non=>cases hk; exact cQ (cQ (q H (Same.refl _)))
  | bl=>obtain ⟨x,rfl⟩:=hk; exact cQ (cQ (q H (Same.refl _)))
  | int=>obtain ⟨x,rfl⟩:=hk; exact cQ (cQ (q H (Same.refl _)))
  | lst=>obtain ⟨a,xs,rfl,e⟩:=hk; exact cQ (cQ (q H (Same.refl _)))
  | tup=>obtain ⟨a,xs,rfl,e⟩:=hk; exact cQ (cQ (q H (Same.refl _)))
  | ins C=>obtain ⟨a,dx,fs,rfl,e⟩:=hk; exact cQ (cQ (q H (Same.refl _)))
end
abbrev nj:cY:=inClass (top 16) 0
abbrev qT:cY:=inClass (top 16) 3
abbrev nu:cY:=inClass (top 17) 0
abbrev qU:cY:=inClass (top 17) 3
abbrev Fl:List aA:=[.type "ValueError",.type "Exception",.type "BaseException",.type "object"]
structure Fn (K:Fg) (x qual:Str) (st:cY) (ps:List Str) (f:aB) (fd:dW):Prop where
 F:mO K x qual st f fd
 b:Binds K fd ps []
structure fW where
 (pot bT garden dD tooMany cM dU pA jX cj:aB)
 (Fo fName MF SQ SX S5 Cr Cu Cv Qd MJ awr aws MK awt MN Fp Cw Cy Jy:aB)
 (MP dName dPI dPG dCI dCG ajx ajy ajz dGI Vn awy awz axK awA Vo M4 ar9 asa axL:dW)
structure Exn (K:Fg) (mg:Str->Option aA) (x:Str) (C:aB):Prop where
 m:mg x=some (.ref C)
 q:excIn K C Fl "ValueError.__new__"=true
structure lq (K:Fg) (mg:Str->Option aA) (a:fW):Prop where
 B:Kh mg
 longest:∃ t,mg "LONGEST_NAME"=some (.int 12 t)
 S6:∃ t,mg "MOST_GAP"=some (.int 60 t)
 dD:Exn K mg "BadPot" a.dD
 wh:Fn K "is_whole" "is_whole" rR ["value","least","most"] a.Fo a.MP
 mwh:mg "is_whole"=some (.ref a.Fo)
 nm:Fn K "is_name" "is_name" oG ["value"] a.fName a.dName
 mnm:mg "is_name"=some (.ref a.fName)
 S7:mg "Pot"=some (.ref a.pot)
 ajC:mg "Cactus"=some (.ref a.bT)
 tP:Ce K a.pot
 tC:Ce K a.bT
 nP:∀ f ∈ (["name","gap","rest"]:List Str),iM K a.pot f
 nC:∀ f ∈ (["name","gap","rest"]:List Str),iM K a.bT f
 PI:Fn K "__init__" "Pot.__init__" nj ["self","name","gap"] a.MF a.dPI
 PG:Fn K "with_gap" "Pot.with_gap" qT ["self","gap"] a.SQ a.dPG
 CI:Fn K "__init__" "Cactus.__init__" nu ["self","name","gap","rest"] a.SX a.dCI
 CG:Fn K "with_gap" "Cactus.with_gap" qU ["self","gap"] a.S5 a.dCG
 kP:Mk K a.pot a.MF
 kC:Mk K a.bT a.SX
 gP:Meth K a.pot "with_gap" a.SQ
 gC:Meth K a.bT "with_gap" a.S5
 cI:ajl K a.pot "__init__" a.MF
 ne:a.pot≠a.bT
section
variable {P:cA} {w:World} {K:Fg} {mg:Str->Option aA} {base:Heap} {a:fW}
theorem ajD:¬ (("name":Str)="gap"):=by decide +kernel
theorem ajE:¬ (("name":Str)="rest"):=by decide +kernel
theorem ajF:¬ (("gap":Str)="rest"):=by decide +kernel
theorem S8 (u v:V):gH "gap" v [(("name":Str),u)]=([("name",u),("gap",v)]:List (Str × V)):=by
 show (if ("name":Str)="gap" then _ else _)=_
 rw [if_neg ajD]; rfl
theorem M5 (u v x:V):gH "rest" x ([("name",u),("gap",v)]:List (Str × V))=([("name",u),("gap",v),("rest",x)]:List (Str × V)):=by
 show (if ("name":Str)="rest" then _ else (("name":Str),u)::(if ("gap":Str)="rest" then _ else (("gap":Str),v)::gH "rest" x []))=_
 rw [if_neg ajE,if_neg ajF]; rfl
def But (p:aB) (H H':Hp):Prop:=∀ b o,b≠p->H b=some o->H' b=some o
def iJ (n g:V):Bool:=nameV n && cL g 1 60
def vO (v:V):Prop:=∀ x,v=.str x->x.length<=sizeLine
noncomputable def yD (K:Fg) (a:fW):Sp:=fun vs H Q E=>∃ p dx C n g kn kg,vs=[.ref p,n,g]/\H p=some (.ins C dx [])/\(C=a.pot\/C=a.bT)/\eX K H n kn/\vO n/\eX K H g kg /\ (iJ n g=false->∀ H',Same H H'->E (.ref a.dD) none H')/\(iJ n g=true->∀ H',But p H H'->H' p=some (.ins C dx [("name",n),("gap",g)])->Q .non H')
theorem asb:bQ ["self","name","gap"] ["self","name","gap"] (aW nj):=dN (by decide +kernel)
theorem lq.cls (T:lq K mg a) {C:aB} (h:C=a.pot\/C=a.bT):Ce K C/\∀ f ∈ (["name","gap","rest"]:List Str),iM K C f:=by
 rcases h with rfl | rfl
 ·exact ⟨T.tP,T.nP⟩
 ·exact ⟨T.tC,T.nC⟩
theorem lq.okW (T:lq K mg a):cG P w K mg base (fu P w) 1 a.Fo a.MP ["value","least","most"] (Hl K):=Mx T.wh.F T.B
theorem lq.okN (T:lq K mg a):cG P w K mg base (fu P w) 1 a.fName a.dName ["value"] (Mz K):=by
 obtain ⟨t,e⟩:=T.longest;exact SN T.nm.F T.B e
theorem pB (T:lq K mg a):cG P w K mg base (fu P w) 2 a.MF a.dPI ["self","name","gap"] (yD K a):=by
 refine T.PI.F.lO asb (fun vs H Q E h=>?_) (fun cdv A outer s H vs Q E hr h=>?_)
 ·obtain ⟨p,dx,C,n,g,kn,kg,rfl,_⟩:=h;rfl
 ·obtain ⟨p,dx,C,n,g,kn,kg,rfl,hp,hC,hn,sn,hg,bad,good⟩:=h;obtain ⟨t,mG⟩:=T.S6;obtain ⟨tC,nA⟩:=T.cls hC;refine ⟨_,aK (dG (fK (eO (dH T.okN hr T.mnm T.nm.F.kp T.nm.b bG (ao (pv 1) aF)))) (aU (fQ bL rfl (by rfl) T.dD.m T.dD.q PySem.F.excBase_ValueError (ao dR aF))) bU) (aK (dG (fK (eO (dH T.okW hr T.mwh T.wh.F.kp T.wh.b bG (ao (pv 2) (ao aM (ao (iy (.int 60) mG ⟨t,rfl⟩) aF)))))) (aU (fQ bL rfl (by rfl) T.dD.m T.dD.q PySem.F.excBase_ValueError (ao dR aF))) bU) (aK (oZ (pv 0) (pv 1) rfl) (aU (oZ (pv 0) (pv 2) rfl)))),?_⟩;refine ⟨_,rfl,n,kn,rfl,hn,sn,fun H1 s1=>⟨_,rfl,?_⟩⟩;cases en:nameV n with
  | false=>exact cQ ⟨by show 1<=sizeLine; decide,bad (by simp [iJ,en]) H1 s1⟩
  | true =>
   refine cU ⟨_,rfl,g,1,60,kg,rfl,hg.same s1,_,rfl,?_⟩;cases eg:cL g 1 60 with
   | false=>exact cQ ⟨by show 1<=sizeLine; decide,bad (by simp [iJ,en,eg]) H1 s1⟩
   | true =>
    refine cU ⟨_,rfl,_,rfl,p,C,dx,_,rfl,s1 _ _ hp,tC.cl,nA _ (by simp),by show 0 < 1000; decide,?_⟩;refine ⟨_,rfl,_,rfl,p,C,dx,_,rfl,aD,tC.cl,nA _ (by simp),by show 1 < 1000; decide,?_⟩;refine good (by simp [iJ,en,eg]) _ (fun b o hb e=>?_) ?_
    ·rw [bx hb,bx hb]; exact s1 _ _ e
    ·rw [aD];exact congrArg (fun l=>some (HO.ins C dx l)) (S8 n g)
structure bM where
 nm:Str
 gap:Int
 rest:Option Int
def bM.fs (p:bM):List (Str × V):=match p.rest with
 | none=>[("name",.str p.nm),("gap",.int p.gap)]
 | some r=>[("name",.str p.nm),("gap",.int p.gap),("rest",.int r)]
def bM.cls (a:fW) (p:bM):aB:=match p.rest with
 | none=>a.pot
 | some _=>a.bT
def jR (a:fW) (H:Hp) (x:aB) (p:bM):Prop:=∃ dx,H x=some (.ins (p.cls a) dx p.fs)
structure bM.Ok (p:bM):Prop where
 nm:nameV (.str p.nm)=true
 gap:1<=p.gap/\p.gap<=60
 rest:∀ r,p.rest=some r->0<=r/\r < p.gap
theorem jR.same {H H':Hp} {x:aB} {p:bM} (h:jR a H x p) (s:Same H H'):jR a H' x p:=h.imp fun _ e=>s _ _ e
theorem bM.jx (p:bM):p.cls a=a.pot\/p.cls a=a.bT:=by
 unfold bM.cls;cases p.rest
 ·exact .inl rfl
 ·exact .inr rfl
theorem bM.vP (p:bM):p.fs.lookup ("name":Str)=some (.str p.nm):=by
 unfold bM.fs;cases p.rest <;> rfl
theorem iK {k k':Str} {v:V} {l:List (Str × V)} (h:(k == k')=false):((k',v)::l).lookup k=l.lookup k:=by simp only [List.lookup,h]
theorem yE {k:Str} {v:V} {l:List (Str × V)}:((k,v)::l).lookup k=some v:=by simp only [List.lookup,beq_self_eq_true]
theorem gn:(("gap":Str) == "name")=false:=by decide +kernel
theorem rn:(("rest":Str) == "name")=false:=by decide +kernel
theorem rg:(("rest":Str) == "gap")=false:=by decide +kernel
theorem M6 (u v:V) (l:List (Str × V)):((("name",u)::("gap",v)::l:List (Str × V))).lookup ("gap":Str)=some v:=by rw [iK gn,yE]
theorem bM.Ho (p:bM):p.fs.lookup ("gap":Str)=some (.int p.gap):=by
 unfold bM.fs;cases p.rest with
 | none=>exact M6 _ _ []
 | some r=>exact M6 _ _ [("rest",.int r)]
theorem Hq (u v x:V):([("name",u),("gap",v),("rest",x)]:List (Str × V)).lookup ("rest":Str)=some x:=by rw [iK rn,iK rg,yE]
theorem bM.ajG (p:bM) {m:Str} (h1:(m == "name")=false) (h2:(m == "gap")=false) (h3:(m == "rest")=false):p.fs.lookup m=none:=by
 unfold bM.fs;cases p.rest with
 | none=>exact (iK h1).trans (iK h2)
 | some r=>exact (iK h1).trans ((iK h2).trans (iK h3))
theorem lR {x:Str} (h:nameV (.str x)=true):vO (.str x):=by
 intro y e;cases e;have e:nameV (.str x)=(decide (1<=x.length) && decide (x.length<=12) && x.cps.toList.all letter):=rfl;rw [e] at h;simp only [Bool.and_eq_true,decide_eq_true_eq] at h;exact bh h.1.2 (by decide)
theorem But.made {H H':Hp} {x dx C:aB} (nx:H x=none) (ndx:H dx=none) (h:But x (upd (upd H dx (.own x)) x (.ins C dx [])) H'):Same H H':=fun b o e=>by
 have n1:=dj e nx;have n2:=dj e ndx;exact h b o n1 (by rw [bx n1,bx n2]; exact e)
theorem rT {H:Hp} {x dx C:aB} (nx:H x=none) (ndx:H dx=none):Same H (upd (upd H dx (.own x)) x (.ins C dx [])):=fun b o e=>by
 rw [bx (dj e nx),bx (dj e ndx)]; exact e
theorem M7 {H:Hp} {Q:aB->Hp->Prop} {E:XK} {n g:V} {kn kg:Kd} (hn:eX K H n kn) (sn:vO n) (hg:eX K H g kg) (bad:iJ n g=false->∀ H',Same H H'->E (.ref a.dD) none H') (good:iJ n g=true->∀ H' x,H x=none->Same H H'->(∃ dx,H' x=some (.ins a.pot dx [("name",n),("gap",g)]))->Q x H') : ∀ x dx,H x=none->H dx=none->dx≠x->yD K a [.ref x,n,g] (upd (upd H dx (.own x)) x (.ins a.pot dx [])) (fun v H2=>v=.non/\Q x H2) E:=by
 intro x dx nx ndx ne;have s0:=rT (C:=a.pot) nx ndx;exact ⟨x,dx,a.pot,n,g,kn,kg,rfl,aD,.inl rfl,hn.same s0,sn,hg.same s0,fun e H' s'=>bad e H' (s0.trans s'),fun e H' b' hp=>⟨rfl,good e H' x nx (b'.made nx ndx) ⟨dx,hp⟩⟩⟩
def uG (p:bM) (g:V):Bool:=match p.rest with
 | none=>cL g 1 60
 | some r=>cL g 1 60 && match g with
  | .int i=>cL (.int r) 0 (i - 1)
  | _=>false
noncomputable def Hr (K:Fg) (a:fW) (C:aB):Sp:=fun vs H Q E=>∃ x p g kg,vs=[.ref x,g]/\p.cls a=C/\jR a H x p/\p.Ok/\eX K H g kg /\ (uG p g=false->∀ H',Same H H'->E (.ref a.dD) none H')/\(uG p g=true->∀ i H' y,g=.int i->H y=none->Same H H'->jR a H' y { p with gap:=i }->Q (.ref y) H')
theorem asd:bQ ["self","gap"] ["self","gap"] (aW qT):=dN (by decide +kernel)
theorem gK {g:V} {l m:Int} (h:cL g l m=true):∃ i,g=.int i/\l<=i/\i<=m:=by
 cases g with
 | int i=>exact ⟨i,rfl,by simpa [cL] using h⟩
 | _=>exact absurd h (by simp [cL])
theorem Jz (T:lq K mg a):cG P w K mg base (fu P w) 4 a.SQ a.dPG ["self","gap"] (Hr K a a.pot):=by
 refine T.PG.F.lO asd (fun vs H Q E h=>?_) (fun cdv A outer s H vs Q E hr h=>?_)
 ·obtain ⟨x,p,g,kg,rfl,_⟩:=h;rfl
 ·obtain ⟨x,p,g,kg,rfl,hc,⟨dx,hx⟩,ok,hg,bad,good⟩:=h;refine ⟨_,aU (bY (Cg T.kP (pB T) hr T.S7 T.PI.b (dY bL) (ao (gB (pv 0) rfl) (ao (pv 1) aF)))),?_⟩;rw [hc] at hx;have hr0:p.rest=none:=by
   cases e:p.rest with
   | none=>rfl
   | some r=>rw [bM.cls,e] at hc; exact absurd hc.symm T.ne
  refine ⟨_,rfl,x,a.pot,dx,_,_,rfl,hx,T.tP.cl,T.nP _ (by simp),p.vP,_,rfl,?_⟩;refine M7 (kn:=.str) ⟨_,rfl⟩ (lR ok.nm) hg (fun e=>bad (by simpa [uG,hr0,iJ,ok.nm] using e)) (fun e H' y hy s' hy'=>?_);have eg:cL g 1 60=true:=by simpa [iJ,ok.nm] using e
  obtain ⟨i,rfl,_⟩:=gK eg;obtain ⟨dy,hy'⟩:=hy';refine good (by simpa [uG,hr0] using eg) i H' y rfl hy s' ⟨dy,?_⟩;rw [hy'];simp only [bM.cls,bM.fs,hr0]
end
section
variable {P:cA} {w:World} {K:Fg} {mg:Str->Option aA} {base:Heap} {a:fW}
def restOk (g r:V):Bool:=match g with
 | .int i=>cL r 0 (i - 1)
 | _=>false
noncomputable def yG (K:Fg) (a:fW):Sp:=fun vs H Q E=>∃ p dx n g r kn kg kr,vs=[.ref p,n,g,r]/\H p=some (.ins a.bT dx [])/\eX K H n kn/\vO n/\eX K H g kg/\eX K H r kr/\(∀ q,r=.ref q->q≠p) /\ ((iJ n g && restOk g r)=false->∀ H',But p H H'->E (.ref a.dD) none H')/\((iJ n g && restOk g r)=true->∀ H',But p H H'->H' p=some (.ins a.bT dx [("name",n),("gap",g),("rest",r)])->Q .non H')
theorem ase:bQ ["self","name","gap","rest"] ["self","name","gap","rest"] (aW nu):=dN (by decide +kernel)
theorem eX.but {H H':Hp} {p:aB} {v:V} {k:Kd} (h:eX K H v k) (b:But p H H') (ne:∀ q,v=.ref q->q≠p):eX K H' v k:=by
 cases k with
 | lst =>
  obtain ⟨a,xs,rfl,e | ⟨o,e⟩⟩:=h
  ·exact ⟨a,xs,rfl,.inl (b _ _ (ne _ rfl) e)⟩
  ·exact ⟨a,xs,rfl,.inr ⟨o,b _ _ (ne _ rfl) e⟩⟩
 | tup=>obtain ⟨a,xs,rfl,e⟩:=h; exact ⟨a,xs,rfl,b _ _ (ne _ rfl) e⟩
 | ins C=>obtain ⟨a,dx,fs,rfl,e,t⟩:=h; exact ⟨a,dx,fs,rfl,b _ _ (ne _ rfl) e,t⟩
 | _=>exact h
theorem Same.but {H H':Hp} {p:aB} (s:Same H H'):But p H H':=fun b o _ e=>s b o e
theorem But.trans {H H1 H2:Hp} {p:aB} (s:But p H H1) (t:But p H1 H2):But p H H2:=fun b o n e=>t b o n (s b o n e)
theorem S9 {H:Hp} {p:aB} {o:HO}:But p H (upd H p o):=fun b u n e=>by rw [bx n]; exact e
theorem vQ (T:lq K mg a):cG P w K mg base (fu P w) 3 a.SX a.dCI ["self","name","gap","rest"] (yG K a):=by
 refine T.CI.F.lO ase (fun vs H Q E h=>?_) (fun cdv A outer s H vs Q E hr h=>?_)
 ·obtain ⟨p,dx,n,g,r,kn,kg,kr,rfl,_⟩:=h;rfl
 ·obtain ⟨p,dx,n,g,r,kn,kg,kr,rfl,hp,hn,sn,hg,hkr,nr,bad,good⟩:=h;refine ⟨_,aK (fY (RT T.S7 T.cI (pB T) hr T.PI.b (dY bL) (ao (pv 0) (ao (pv 1) (ao (pv 2) aF))))) (aK (dG (fK (eO (dH T.okW (hr.mono (by decide)) T.mwh T.wh.F.kp T.wh.b bG (ao (pv 3) (ao aM (ao (bH uW (pv 2) aM) aF)))))) (aU (fQ bL rfl (by rfl) T.dD.m T.dD.q PySem.F.excBase_ValueError (ao dR aF))) bU) (aU (oZ (pv 0) (pv 3) rfl))),?_⟩;refine ⟨_,rfl,_,rfl,_,rfl,p,dx,a.bT,n,g,kn,kg,rfl,hp,.inr rfl,hn,sn,hg,fun e H' s'=>bad (by simp [e]) H' (Same.but s'),fun e H1 b1 hp1=>?_⟩;have eg:cL g 1 60=true:=by
   rw [iJ,Bool.and_eq_true] at e;exact e.2
  obtain ⟨i,rfl,_⟩:=gK eg;refine ⟨_,rfl,_,rfl,_,_,rfl,rfl,r,0,i - 1,kr,rfl,hkr.but b1 nr,_,rfl,?_⟩;cases er:cL r 0 (i - 1) with
  | false=>exact cQ ⟨by show 1<=sizeLine; decide,bad (by simp [restOk,er]) H1 b1⟩
  | true =>
   refine cU ⟨_,rfl,_,rfl,p,a.bT,dx,_,rfl,hp1,T.tC.cl,T.nC _ (by simp),by show 2 < 1000; decide,?_⟩;refine good (by simp [e,restOk,er]) _ (b1.trans S9) ?_;rw [aD];exact congrArg (fun l=>some (HO.ins a.bT dx l)) (M5 n (.int i) r)
theorem M8 {H:Hp} {Q:aB->Hp->Prop} {E:XK} {n g r:V} {kn kg kr:Kd} (hn:eX K H n kn) (sn:vO n) (hg:eX K H g kg) (hr:eX K H r kr) (bad:(iJ n g && restOk g r)=false->∀ H',Same H H'->E (.ref a.dD) none H') (good:(iJ n g && restOk g r)=true->∀ H' x,H x=none->Same H H'->(∃ dx,H' x=some (.ins a.bT dx [("name",n),("gap",g),("rest",r)]))->Q x H') : ∀ x dx,H x=none->H dx=none->dx≠x->yG K a [.ref x,n,g,r] (upd (upd H dx (.own x)) x (.ins a.bT dx [])) (fun v H2=>v=.non/\Q x H2) E:=by
 intro x dx nx ndx ne;have s0:=rT (C:=a.bT) nx ndx;refine ⟨x,dx,n,g,r,kn,kg,kr,rfl,aD,hn.same s0,sn,hg.same s0,hr.same s0,fun q e z=>?_,fun e H' s'=>bad e H' (s'.made nx ndx),fun e H' b' hp=>⟨rfl,good e H' x nx (b'.made nx ndx) ⟨dx,hp⟩⟩⟩;subst e z;cases kr with
 | lst =>
  obtain ⟨_,_,e,h | ⟨_,h⟩⟩:=hr
  ·cases e; rw [nx] at h; cases h
  ·cases e; rw [nx] at h; cases h
 | tup=>obtain ⟨_,_,e,h⟩:=hr; cases e; rw [nx] at h; cases h
 | ins C=>obtain ⟨_,_,_,e,h,_⟩:=hr; cases e; rw [nx] at h; cases h
 | non=>cases hr
 | bl=>obtain ⟨_,e⟩:=hr; cases e
 | int=>obtain ⟨_,e⟩:=hr; cases e
 | str=>obtain ⟨_,e⟩:=hr; cases e
theorem asf:bQ ["self","gap"] ["self","gap"] (aW qU):=dN (by decide +kernel)
theorem JB (T:lq K mg a):cG P w K mg base (fu P w) 5 a.S5 a.dCG ["self","gap"] (Hr K a a.bT):=by
 refine T.CG.F.lO asf (fun vs H Q E h=>?_) (fun cdv A outer s H vs Q E hr h=>?_)
 ·obtain ⟨x,p,g,kg,rfl,_⟩:=h;rfl
 ·obtain ⟨x,p,g,kg,rfl,hc,⟨dx,hx⟩,ok,hg,bad,good⟩:=h;refine ⟨_,aU (bY (Cg T.kC (vQ T) hr T.ajC T.CI.b (dY bL) (ao (gB (pv 0) rfl) (ao (pv 1) (ao (gB (pv 0) rfl) aF))))),?_⟩;rw [hc] at hx;obtain ⟨r,hr0⟩:∃ r,p.rest=some r:=by
   cases e:p.rest with
   | none=>rw [bM.cls,e] at hc; exact absurd hc T.ne
   | some r=>exact ⟨r,rfl⟩
  have lr:p.fs.lookup ("rest":Str)=some (.int r):=by simp only [bM.fs,hr0]; exact Hq _ _ _
  refine ⟨_,rfl,x,a.bT,dx,_,_,rfl,hx,T.tC.cl,T.nC _ (by simp),p.vP,_,rfl,_,rfl,x,a.bT,dx,_,_,rfl,hx,T.tC.cl,T.nC _ (by simp),lr,?_⟩;have e0:(iJ (.str p.nm) g && restOk g (.int r))=uG p g:=by
   rw [iJ,ok.nm,Bool.true_and,uG,hr0];rfl
  refine M8 (kn:=.str) (kr:=.int) ⟨_,rfl⟩ (lR ok.nm) hg ⟨_,rfl⟩ (fun e=>bad (by rw [<- e0]; exact e)) (fun e H' y hy s' hy'=>?_);obtain ⟨i,rfl,_⟩:∃ i,g=.int i/\True:=by
   cases g with
   | int i=>exact ⟨i,rfl,trivial⟩
   | _=>exact absurd e (by simp [restOk])
  obtain ⟨dy,hy'⟩:=hy';refine good (by rw [<- e0]; exact e) i H' y rfl hy s' ⟨dy,?_⟩;rw [hy'];simp only [bM.cls,bM.fs,hr0]
theorem lq.gap (T:lq K mg a):∀ C,(C=a.pot\/C=a.bT)->∃ f fd,Cls K C/\Meth K C "with_gap" f/\cG P w K mg base (fu P w) 5 f fd ["self","gap"] (Hr K a C)/\Binds K fd ["self","gap"] []:=by
 intro C h;rcases h with rfl | rfl
 ·exact ⟨_,_,T.tP.cl,T.gP,(Jz T).mono (by decide),T.PG.b⟩
 ·exact ⟨_,_,T.tC.cl,T.gC,JB T,T.CG.b⟩
theorem acN {X:Cx} {pl:Sem Bool} {o e:Expr} {es:List Expr} {ta:TE} {t:TA} {apos pos:Pos} {E:XK} (he:PE X o ta) (ha:PA X (e::es) t) (T:lq K mg a) (hr:d7 5 X.A) (hx:Passes (fu X.prog X.w) X E) (hK:autoParam (X.K=K) zau0) (hm:autoParam (X.mg=mg) zau0) (hst:autoParam (starEach (e::es) X.env=(false,eval e X.env)::starEach es X.env) zau0) (hpl:autoParam ((backTo pos (starEach es X.env)).any (·.1)=false) zau0) (ht:autoParam (eval (.Call (.Attribute o "with_gap" apos) (e::es) [] pos) X.env=(do
   let ov <- eval o X.env
   standAt apos.atName
   let (f,first) <- holding [ov] (getMethod ov "with_gap" pl)
   callWith pos f first (backTo pos (starEach (e::es) X.env)) (backToKw pos (keywordEach [] X.env)))) zau0) :
  PE X (.Call (.Attribute o "with_gap" apos) (e::es) [] pos) (Ly (fun C=>C=a.pot\/C=a.bT) "with_gap" (Hr K a) E ta t):=by
 subst hK hm;exact Ci he hr T.gap hx ha hst hpl ht
end
abbrev M9:cY:=top 23
abbrev Nb:cY:=top 24
abbrev Nf:cY:=top 25
structure Fq (K:Fg) (mg:Str->Option aA) (a:fW):Prop where
 T:lq K mg a
 kpp:kitOne K (.ref a.pot) (.ref a.pot)=some true
 kcp:kitOne K (.ref a.bT) (.ref a.pot)=some true
 kb:∀ k:Kd,(∀ C,k≠.ins C)->kitOne K k.ty (.ref a.pot)=some false
 own:Fn K "own_pots" "own_pots" M9 ["pots"] a.Cr a.ajx
 acO:mg "own_pots"=some (.ref a.Cr)
 cnt:Fn K "refuse_bad_counts" "refuse_bad_counts" Nb ["pots","cans","week","closed"] a.Cu a.ajy
 acP:mg "refuse_bad_counts"=some (.ref a.Cu)
 twc:Fn K "refuse_name_twice" "refuse_name_twice" Nf ["pots"] a.Cv a.ajz
 acQ:mg "refuse_name_twice"=some (.ref a.Cv)
 tooMany:Exn K mg "TooMany" a.tooMany
 Ng:∃ t,mg "MOST_POTS"=some (.int 8 t)
 Nh:∃ t,mg "MOST_CANS"=some (.int 8 t)
 Ni:∃ t,mg "MOST_WEEK"=some (.int 14 t)
 Ft:∃ t,mg "MOST_STATES"=some (.int 20000 t)
section
variable {P:cA} {w:World} {K:Fg} {mg:Str->Option aA} {base:Heap} {a:fW}
def Qf (a:fW):Kd->Bool
 | .ins C=>decide (C=a.pot\/C=a.bT)
 | _=>false
def PK (a:fW) (k:Kd):Prop:=∀ C,k=.ins C->C=a.pot\/C=a.bT
theorem Fq.Qf (G:Fq K mg a) {k:Kd} (h:PK a k):kitOne K k.ty (.ref a.pot)=some (Tw.Qf a k):=by
 cases k with
 | ins C =>
  have e:Tw.Qf a (.ins C)=true:=aL (h C rfl);rw [e];rcases h C rfl with rfl | rfl
  ·exact G.kpp
  ·exact G.kcp
 | _=>exact G.kb _ (fun C z=>nomatch z)
theorem jR.upd {H:Hp} {b D:aB} {p:bM} {xs:List V} {o:HO} (h:jR a H b p) (hD:H D=some (.lst xs)):jR a (L2.upd H D o) b p:=by
 obtain ⟨dx,e⟩:=h;exact ⟨dx,by rw [bx (Gz e hD (by intro z; cases z))]; exact e⟩
theorem bM.acR {p:bM} (h:p.Ok):uG p (.int p.gap)=true:=by
 have h1:cL (.int p.gap) 1 60=true:=by simp [cL,h.gap.1,h.gap.2]
 unfold uG;cases e:p.rest with
 | none=>exact h1
 | some r =>
  obtain ⟨r0,r1⟩:=h.rest r e;have r1':r<=p.gap - 1:=by omega
  rw [h1]
  show (true && cL (.int r) 0 (p.gap - 1))=true
  simp [cL,r0,r1']
theorem gY {H H':Hp} {D:aB} {o:HO} (s:Same H H') (h:H D=none):Same H (L2.upd H' D o):=fun b u e=>by rw [bx (dj e h)]; exact s b u e
def lA (a:fW) (H:Hp) (as:List aB) (ps:List bM):Prop:=Paired (jR a H) as ps
theorem lA.same {H H':Hp} {as:List aB} {ps:List bM} (h:lA a H as ps) (s:Same H H'):lA a H' as ps:=Paired.ig h fun _ _ e=>e.same s
theorem lA.upd {H:Hp} {as:List aB} {ps:List bM} {D:aB} {xs:List V} {o:HO} (h:lA a H as ps) (hD:H D=some (.lst xs)):lA a (L2.upd H D o) as ps:=Paired.ig h fun _ _ e=>e.upd hD
noncomputable def Vp (K:Fg) (a:fW):Sp:=fun vs H Q E=>∃ v k,vs=[v]/\eX K H v k/\(bi k .list=false->∀ H',Same H H'->E (.ref a.dD) none H') /\ (bi k .list=true->∃ l xs ks,v=.ref l/\cD K H l xs/\xs.length<=1000/\Paired (eX K H) xs ks/\(∀ k ∈ ks,PK a k)/\(ks.all (Qf a)=false->∀ H',Same H H'->E (.ref a.dD) none H') /\ (ks.all (Qf a)=true->∃ as ps,xs=as.map V.ref/\lA a H as ps/\(∀ p ∈ ps,p.Ok)/\∀ H' l' bs,Same H H'->H l'=none->H' l'=some (.lst (bs.map V.ref))->lA a H' bs ps->Q (.ref l') H'))
theorem Vq:bQ ["pots","pot"] ["pots"] (aW M9):=dN (by decide +kernel)
theorem acS (G:Fq K mg a):cG P w K mg base (fu P w) 6 a.Cr a.ajx ["pots"] (Vp K a):=by
 refine G.own.F.lO Vq (fun vs H Q E h=>?_) (fun cdv A outer s H vs Q E hr h=>?_)
 ·obtain ⟨v,k,rfl,_⟩:=h;rfl
 ·obtain ⟨v,k,rfl,hk,no,yes⟩:=h;have T:=G.T;refine ⟨_,aK (dG (fK (eO (jW .list T.B.isinstance T.B.list (pv 0)))) (aU (fQ bL rfl (by rfl) T.dD.m T.dD.q PySem.F.excBase_ValueError (ao dR aF))) bU) (aK (iC fJ rfl (eG (pv 0)) (cV 1 Vq.nd) (aU (dG (fK (eO (acv T.B.isinstance T.S7 (pv 1)))) (aU (fQ bL rfl (by rfl) T.dD.m T.dD.q PySem.F.excBase_ValueError (ao dR aF))) bU))) (aU (bY (fM bL rfl ⟨_,_,rfl,rfl,rfl⟩ (fZ.plain (N':=["pot"]) rfl (by decide +kernel) (by decide +kernel)) (eG (pv 0)) (fun _ _ _ _ _=>cV 0 (show [("pot":Str)].Nodup by decide +kernel)) (fun _ _ _ _ _=>f9) (fun _ _ _ _ _ acc=>acN (pv 0) (ao (uD K (pv 0)) aF) T hr (dY acc)))))),?_⟩;refine ⟨_,rfl,v,k,rfl,hk,_,rfl,?_⟩;cases ek:bi k .list with
  | false=>exact cQ ⟨by show 1<=sizeLine; decide,no ek H (Same.refl _)⟩
  | true =>
   obtain ⟨l,xs,ks,rfl,hl,hlen,kds,pks,bad,good⟩:=yes ek;refine cU ⟨_,rfl,l,rfl,⟨_,hl⟩,jq (K:=K) (a:=l) (xs:=xs) (fun i σ H'=>∃ u,σ=[some (.ref l),u]/\H=H'/\(ks.take i).all (Qf a)=true) ⟨none,rfl,rfl,rfl⟩ (fun i σ H' _ ⟨_,_,e,_⟩=>e ▸ hl) ?_ ?_⟩
   ·rintro i x σ H' hi ⟨u,rfl,rfl,al⟩;obtain ⟨kx,hkx,kd⟩:=dz kds hi;refine ⟨_,rfl,x,kx,a.pot,_,rfl,kd,G.Qf (pks kx (aR hkx)),_,rfl,?_⟩;cases e:Qf a kx with
    | false =>
     refine cQ ⟨by show 1<=sizeLine; decide,bad ?_ _ (Same.refl _)⟩;rw [Bool.eq_false_iff];intro z;rw [all_eq_true] at z;rw [z kx (aR hkx)] at e;cases e
    | true=>exact cU ⟨_,rfl,rfl,by rw [take_snoc hkx,List.all_append,al]; simp [e]⟩
   ·rintro σ H' ⟨u,rfl,rfl,al⟩;have lk:xs.length=ks.length:=Paired.length kds;rw [lk,bI] at al;obtain ⟨as,ps,rfl,pots,uN,q⟩:=good al;refine ⟨_,rfl,l,rfl,⟨_,hl⟩,fun D hD=>?_⟩;have sD:=aV (o:=.lst []) hD;have lp:as.length=ps.length:=Paired.length pots;refine kO as.length (by rw [aq] at hlen; exact bh hlen (by decide)) (fun i acc H'=>∃ bs:List aB,acc=bs.map V.ref/\bs.length=i/\H' D=some (.lst acc)/\Same H H'/\lA a H' bs (ps.take i)) ⟨[],rfl,rfl,aD,sD,.nil⟩ (fun i acc H' _ ⟨bs,e,lb,hd,_⟩=>⟨by rw [e,aq,lb],hd⟩) ?_ ?_
    ·rintro acc H' ⟨bs,rfl,lb,hd,s',pt⟩;refine ⟨⟨_,s'.seq hl,by rw [aq]; exact aN _⟩,?_⟩;rw [lp,bI] at pt;exact q H' D bs s' hD hd pt
    ·rintro i acc H' lt ⟨bs,rfl,lb,hd,s',pt⟩;have hl':=s'.seq hl;obtain ⟨b,hb⟩:∃ b,as[i]?=some b:=⟨as[i],aC lt⟩;obtain ⟨p,hp,pb⟩:=dz pots hb;have hx:(as.map V.ref)[i]?=some (.ref b):=by rw [aH,hb]; rfl
     refine ⟨⟨_,_,hl',hx⟩,?_⟩;rintro x yq ⟨rfl,hx'⟩ Qc k;have ex:=hx' _ hl';rw [hx] at ex;cases ex;obtain ⟨dx,hb'⟩:=pb.same s';have Vr:=uN p (aR hp);have cT:=T.cls p.jx;refine ⟨fX,_,rfl,b,p.cls a,dx,_,rfl,hb',p.jx,p.ajG (by decide +kernel) (by decide +kernel) (by decide +kernel),_,rfl,b,p.cls a,dx,_,_,rfl,hb',cT.1.cl,cT.2 _ (by simp),p.Ho,?_⟩;refine ⟨b,p,.int p.gap,.int,rfl,rfl,⟨dx,hb'⟩,Vr,⟨_,rfl⟩,fun z=>(by rw [bM.acR Vr] at z; cases z),fun _ j H3 y ej hy s3 py=>?_⟩;cases ej;refine k (.ref y) H3 (s3 _ _ hd) ⟨bs++[y],by rw [bf]; rfl,by rw [aZ,lb]; rfl,aD,gY (s'.trans s3) hD,?_⟩
     ·rw [take_snoc hp];exact Paired.snoc ((pt.same s3).upd (s3 _ _ hd)) (jR.upd py (s3 _ _ hd))
end
section
variable {X:Cx} {e:Expr} {p pos:Pos}
theorem uH {x:Str} {T:String} {r:List V->Hp->VK->Prop} {es:List Expr} {t:TA} (hc:gw X (.type T) r) (hm:X.mg x=none) (hv:bootBuiltins x=some (.type T)) (ha:PA X (e::es) t) (hg:autoParam (Gl X x) zau0) (hn:autoParam (x≠"__name__") zau1) (hdb:autoParam ((x == ("__debug__":Str))=false) zau1) (he:autoParam (starEach (e::es) X.env=(false,eval e X.env)::starEach es X.env) zau0) (hpl:autoParam ((backTo pos (starEach es X.env)).any (·.1)=false) zau0):PE X (.Call (.Name x p) (e::es) [] pos) (tCB r t):=Ja hc hg hm hv ha hn hdb he hpl
end
section
variable {P:cA} {w:World} {K:Fg} {mg:Str->Option aA} {base:Heap} {a:fW}
def qW (w c:V):Bool:=match w with
 | .int i=>cL c 0 (1 * 2 ^ i.toNat - 1)
 | _=>false
def uI (n:Nat) (c w cl:V):Bool:=decide (1<=n) && decide (n<=8) && cL c 0 8 && cL w 1 14 && qW w cl
noncomputable def ajI (K:Fg) (a:fW):Sp:=fun vs H Q E=>∃ l xs c w cl kc kw kl,vs=[.ref l,c,w,cl]/\cD K H l xs/\eX K H c kc/\eX K H w kw/\eX K H cl kl /\ (uI xs.length c w cl=false->E (.ref a.tooMany) none H)/\(uI xs.length c w cl=true->Q .non H)
theorem ajJ:bQ ["pots","cans","week","closed"] ["pots","cans","week","closed"] (aW Nb):=dN (by decide +kernel)
theorem acU (G:Fq K mg a):cG P w K mg base (fu P w) 2 a.Cu a.ajy ["pots","cans","week","closed"] (ajI K a):=by
 refine G.cnt.F.lO ajJ (fun vs H Q E h=>?_) (fun cdv A outer s H vs Q E hr h=>?_)
 ·obtain ⟨l,xs,c,wk,cl,kc,kw,kl,rfl,_⟩:=h;rfl
 ·obtain ⟨l,xs,c,wk,cl,kc,kw,kl,rfl,hl,hc,hw,hcl,bad,good⟩:=h;have T:=G.T;obtain ⟨t1,m1⟩:=G.Ng;obtain ⟨t2,m2⟩:=G.Nh;obtain ⟨t3,m3⟩:=G.Ni;refine ⟨_,aK (dG (fK (Bc xR xR aM (dB bJ T.B.len PySem.boot_len (ao (pv 0) aF)) (iy (.int 8) m1 ⟨t1,rfl⟩))) (aU (fQ bL rfl (by rfl) G.tooMany.m G.tooMany.q PySem.F.excBase_ValueError (ao dR aF))) bU) (aK (dG (fK (eO (dH T.okW hr T.mwh T.wh.F.kp T.wh.b bG (ao (pv 1) (ao aM (ao (iy (.int 8) m2 ⟨t2,rfl⟩) aF)))))) (aU (fQ bL rfl (by rfl) G.tooMany.m G.tooMany.q PySem.F.excBase_ValueError (ao dR aF))) bU) (aK (dG (fK (eO (dH T.okW hr T.mwh T.wh.F.kp T.wh.b bG (ao (pv 2) (ao aM (ao (iy (.int 14) m3 ⟨t3,rfl⟩) aF)))))) (aU (fQ bL rfl (by rfl) G.tooMany.m G.tooMany.q PySem.F.excBase_ValueError (ao dR aF))) bU) (aU (dG (fK (eO (dH T.okW hr T.mwh T.wh.F.kp T.wh.b bG (ao (pv 3) (ao aM (ao (bH uW (bH Ek aM (pv 2)) aM) aF)))))) (aU (fQ bL rfl (by rfl) G.tooMany.m G.tooMany.q PySem.F.excBase_ValueError (ao dR aF))) bU)))),?_⟩;refine ⟨_,rfl,l,xs,rfl,.inl hl,_,_,rfl,rfl,_,rfl,?_⟩;unfold uI at bad good
  by_cases h1:1<=xs.length
  ·have h1':(1:Int)<=(xs.length:Int):=by omega
   rw [aL h1'];refine cQ ⟨_,_,rfl,rfl,_,rfl,?_⟩
   by_cases h2:xs.length<=8
   ·have h2':(xs.length:Int)<=8:=by omega
    rw [aL h2'];rw [aL h1,aL h2] at bad good;refine cU ⟨_,rfl,c,0,8,kc,rfl,hc,_,rfl,?_⟩;cases ec:cL c 0 8 with
    | false=>exact cQ ⟨by show 1<=sizeLine; decide,bad (by rw [ec]; rfl)⟩
    | true =>
     refine cU ⟨_,rfl,wk,1,14,kw,rfl,hw,_,rfl,?_⟩;cases ew:cL wk 1 14 with
     | false=>exact cQ ⟨by show 1<=sizeLine; decide,bad (by rw [ec,ew]; rfl)⟩
     | true =>
      obtain ⟨i,rfl,i1,i2⟩:=gK ew;refine cU ⟨_,rfl,_,rfl,_,_,rfl,rfl,⟨by omega,by omega,by decide⟩,_,_,rfl,rfl,cl,0,_,kl,rfl,hcl,_,rfl,?_⟩;rw [ec,ew] at bad good;cases el:cL cl 0 (1 * 2 ^ i.toNat - 1) with
      | false=>exact cQ ⟨by show 1<=sizeLine; decide,bad (by rw [qW,el]; rfl)⟩
      | true=>exact cU (good (by rw [qW,el]; rfl))
   ·have h2':¬ (xs.length:Int)<=8:=by omega
    rw [aG h2'];exact cQ ⟨by show 1<=sizeLine; decide,bad (by rw [aG h2]; simp)⟩
  ·have h1':¬ (1:Int)<=(xs.length:Int):=by omega
   rw [aG h1'];exact cU ⟨_,rfl,cQ ⟨by show 1<=sizeLine; decide,bad (by rw [aG h1]; simp)⟩⟩
noncomputable def ajK (K:Fg) (a:fW):Sp:=fun vs H Q E=>∃ l as ps,vs=[.ref l]/\cD K H l (as.map V.ref)/\lA a H as ps/\as.length<=8 /\ (¬ (ps.map bM.nm).Nodup->∀ H',Same H H'->E (.ref a.dD) none H')/\((ps.map bM.nm).Nodup->∀ H',Same H H'->Q .non H')
theorem ajL:bQ ["pots"] ["pots"] (aW Nf):=dN (by decide +kernel)
theorem acV (G:Fq K mg a):cG P w K mg base (fu P w) 2 a.Cv a.ajz ["pots"] (ajK K a):=by
 refine G.twc.F.lO ajL (fun vs H Q E h=>?_) (fun cdv A outer s H vs Q E hr h=>?_)
 ·obtain ⟨l,as,ps,rfl,_⟩:=h;rfl
 ·obtain ⟨l,as,ps,rfl,hl,pots,h8,bad,good⟩:=h;have T:=G.T;refine ⟨_,aU (dG (bV Ay (dB Jf T.B.len PySem.boot_len (ao (uH (Je rfl) T.B.set boot_set (ao (fM bL rfl ⟨_,_,rfl,rfl,rfl⟩ (fZ.plain (N':=["pot"]) rfl (by decide +kernel) (by decide +kernel)) (eG (pv 0)) (fun _ _ _ _ _=>cV 0 (show [("pot":Str)].Nodup by decide +kernel)) (fun _ _ _ _ _=>f9) (fun _ _ _ _ _ _=>uD K (pv 0))) aF)) aF)) (dB bJ T.B.len PySem.boot_len (ao (pv 0) aF)) (cB _)) (aU (fQ bL rfl (by rfl) T.dD.m T.dD.q PySem.F.excBase_ValueError (ao dR aF))) bU),?_⟩;refine ⟨_,rfl,l,rfl,⟨_,hl⟩,fun D hD=>?_⟩;have lp:as.length=ps.length:=Paired.length pots;refine kO as.length (bh h8 (by decide)) (fun i acc H'=>acc=((ps.take i).map bM.nm).map V.str/\upd H D (.lst acc)=H') ⟨rfl,rfl⟩ (fun i acc H' le ⟨e,eh⟩=>⟨?_,by rw [<- eh,aD]⟩) ?_ ?_
  ·rw [e,aq,aq,length_take,<- lp]; omega
  ·rintro acc H' ⟨rfl,rfl⟩;have sD:=aV (o:=.lst (((ps.take as.length).map bM.nm).map V.str)) hD;rw [lp,bI] at sD ⊢;refine ⟨⟨_,sD.seq hl,by rw [aq,lp]; exact aN _⟩,D,ps.map bM.nm,rfl,cD.of aD,?_,fun S hS=>?_⟩
   ·rw [aq,<- lp]; exact Nat.lt_of_le_of_lt (Nat.succ_le_succ h8) (by decide)
   ·have sS:=sD.trans (aV (o:=vA P w S (iG (ps.map bM.nm)).length) hS);refine ⟨S,_,rfl,aD,_,rfl,l,_,rfl,.inl (sS.seq hl),rfl,_,rfl,?_⟩;have e1:(V.int ((iG (ps.map bM.nm)).length:Int)=V.int ((as.map V.ref).length:Int)) ↔ (ps.map bM.nm).Nodup:=by
     rw [<- G4,aq,aq,<- lp];constructor
     ·intro z; injection z with z; exact Int.ofNat.inj z
     ·intro z; rw [z]
    by_cases nd:(ps.map bM.nm).Nodup
    ·rw [aL (e1.mpr nd)];exact cU (good nd _ sS)
    ·rw [aG (fun z=>nd (e1.mp z))];exact cQ ⟨by show 1<=sizeLine; decide,bad nd _ sS⟩
  ·rintro i acc H' lt ⟨rfl,rfl⟩;have sD:=aV (o:=.lst (((ps.take i).map bM.nm).map V.str)) hD;have hl':=sD.seq hl;obtain ⟨b,hb⟩:∃ b,as[i]?=some b:=⟨as[i],aC lt⟩;obtain ⟨q,hq,pb⟩:=dz pots hb;have hx:(as.map V.ref)[i]?=some (.ref b):=by rw [aH,hb]; rfl
   refine ⟨⟨_,_,hl',hx⟩,?_⟩;rintro x yq ⟨rfl,hx'⟩ Qc k;have ex:=hx' _ hl';rw [hx] at ex;cases ex;obtain ⟨dx,hb'⟩:=pb.same sD;have cT:=T.cls q.jx;refine ⟨fX,_,rfl,b,q.cls a,dx,_,_,rfl,hb',cT.1.cl,cT.2 _ (by simp),q.vP,?_⟩;refine k _ _ aD ⟨?_,by rw [jh]⟩;rw [take_snoc hq,bf,bf];rfl
end
abbrev Tc:cY:=inClass (top 28) 0
abbrev Cz:cY:=inClass (top 28) 1
structure Fv (K:Fg) (x qual:Str) (st:cY) (dV:aA) (f:aB) (fd:dW):Prop where
 ex:∃ (oc:aA) (od:Option aB) (kV doc pm:aA) (an:Option aB) (cdv ct:aA) (osl:Array (Option aA)),fd=fnOf x qual (jM st) (gq st) (aW st) dV kV doc pm an cdv ct/\K.lookup f=some ⟨oc,od,.func fd,osl⟩/\codeIn K cdv qual=true
 kp:keepIn K (.ref f)=true
theorem Fv.lO {P:cA} {w:World} {K:Fg} {mg:Str->Option aA} {base:Heap} {x qual:Str} {st:cY} {dV:aA} {f:aB} {fd:dW} {N ps:List Str} {k:Nat} {sp:Sp} (F:Fv K x qual st dV f fd) (S:bQ N ps (aW st)) (len:∀ vs H Q E,sp vs H Q E->vs.length=ps.length) (body:∀ (cdv:aA) (A:c7) (outer:List Env) (s:aQ) (H:Hp) (vs:List V) (Q:VK) (E:XK),d7 k (A.deeper (PyProof.Rows.envOfC qual (aW st) s.heap.objs.size f cdv))->sp vs H Q E -> ∃ t,xP (oO (fu P w) P w K mg base N qual (aW st) f cdv A outer s H E) (gq st) t/\t { nx:=fun _ H'=>Q .non H',rt:=Q } (start N vs) H):cG P w K mg base (fu P w) (k + 1) f fd ps sp:=by
 obtain ⟨oc,od,kV,doc,pm,an,cdv,ct,osl,rfl,lk,hcd⟩:=F.ex;exact Vc lk hcd S len fun A outer s H vs Q E hr h=>body cdv A outer s H vs Q E hr h
structure CJ (K:Fg) (mg:Str->Option aA) (a:fW) (dV:aA):Prop where
 G:Fq K mg a
 tG:Ce K a.garden
 acW:mg "Garden"=some (.ref a.garden)
 nG:∀ f ∈ (["pots","cans","week","closed"]:List Str),iM K a.garden f
 gi:Fv K "__init__" "Garden.__init__" Tc dV a.Qd a.dGI
 b4:Binds K a.dGI ["self","pots","cans","week","closed"] []
 b1:∃ t1 t2 t3,Binds K a.dGI ["self","pots","cans","week","closed"] [.int 1 t1,.int 1 t2,.int 0 t3]
 b2:∃ t2 t3,Binds K a.dGI ["self","pots","cans","week","closed"] [.int 1 t2,.int 0 t3]
 kG:Mk K a.garden a.Qd
 size:Fn K "size" "Garden.size" Cz ["self"] a.MJ a.Vn
 ajM:Meth K a.garden "size" a.MJ
section
variable {P:cA} {w:World} {K:Fg} {mg:Str->Option aA} {base:Heap} {a:fW} {dV:aA}
structure zV where
 pots:List bM
 cans:Int
 week:Int
 closed:Int
def Nj (l:aB) (c w cl:V):List (Str × V):=[("pots",.ref l),("cans",c),("week",w),("closed",cl)]
theorem nF (l:aB) (c w cl:V):(Nj l c w cl).lookup ("pots":Str)=some (.ref l):=yE
theorem acX (l:aB) (c w cl:V):(Nj l c w cl).lookup ("cans":Str)=some c:=(iK (by decide +kernel)).trans yE
theorem pC (l:aB) (c w cl:V):(Nj l c w cl).lookup ("week":Str)=some w:=(iK (by decide +kernel)).trans ((iK (by decide +kernel)).trans yE)
theorem Nk (l:aB) (c w cl:V):(Nj l c w cl).lookup ("closed":Str)=some cl:=(iK (by decide +kernel)).trans ((iK (by decide +kernel)).trans ((iK (by decide +kernel)).trans yE))
theorem ajN (l:aB) (c w cl:V) {m:Str} (h1:(m == "pots")=false) (h2:(m == "cans")=false) (h3:(m == "week")=false) (h4:(m == "closed")=false):(Nj l c w cl).lookup m=none := (iK h1).trans ((iK h2).trans ((iK h3).trans (iK h4)))
theorem lU {f g:Str} {v x:V} {r:List (Str × V)} (h:¬ g=f):gH f v ((g,x)::r)=(g,x)::gH f v r:=by
 show (if g=f then _ else _)=_
 rw [if_neg h]
theorem ajO (l:aB) (c w cl:V):gH "closed" cl (gH "week" w (gH "cans" c (gH "pots" (.ref l) [])))=Nj l c w cl:=by
 have e1:gH "pots" (V.ref l) []=[(("pots":Str),V.ref l)]:=rfl;have e2:gH "cans" c [(("pots":Str),V.ref l)]=([("pots",V.ref l),("cans",c)]:List (Str × V)):=by rw [lU (by decide +kernel)]; rfl
 have e3:gH "week" w ([("pots",V.ref l),("cans",c)]:List (Str × V))=([("pots",V.ref l),("cans",c),("week",w)]:List (Str × V)):=by rw [lU (by decide +kernel),lU (by decide +kernel)]; rfl
 have e4:gH "closed" cl ([("pots",V.ref l),("cans",c),("week",w)]:List (Str × V))=([("pots",V.ref l),("cans",c),("week",w),("closed",cl)]:List (Str × V)):=by rw [lU (by decide +kernel),lU (by decide +kernel),lU (by decide +kernel)]; rfl
 rw [e1,e2,e3,e4];rfl
def sizeOf (wk:Int) (ps:List bM):Int:=ps.foldl (fun s p=>s * p.gap) wk
def jy (a:fW) (H:Hp) (x:aB) (g:zV):Prop:=∃ dx l as,H x=some (.ins a.garden dx (Nj l (.int g.cans) (.int g.week) (.int g.closed)))/\H l=some (.lst (as.map V.ref))/\lA a H as g.pots
theorem jy.same {H H':Hp} {x:aB} {g:zV} (h:jy a H x g) (s:Same H H'):jy a H' x g:=by
 obtain ⟨dx,l,as,h1,h2,h3⟩:=h;exact ⟨dx,l,as,s _ _ h1,s _ _ h2,h3.same s⟩
noncomputable def acY (K:Fg) (a:fW):Sp:=fun vs H Q _=>∃ x dx l as ps c wk cl,vs=[.ref x]/\H x=some (.ins a.garden dx (Nj l c (.int wk) cl))/\cD K H l (as.map V.ref)/\lA a H as ps/\(∀ p ∈ ps,p.Ok)/\Q (.int (sizeOf wk ps)) H
theorem zW:bQ ["self","states","pot"] ["self"] (aW Cz):=dN (by decide +kernel)
theorem Te (Z:CJ K mg a dV):cG P w K mg base (fu P w) 1 a.MJ a.Vn ["self"] (acY K a):=by
 refine Z.size.F.lO zW (fun vs H Q E h=>?_) (fun cdv A outer s H vs Q E hr h=>?_)
 ·obtain ⟨x,dx,l,as,ps,c,wk,cl,rfl,_⟩:=h;rfl
 ·obtain ⟨x,dx,l,as,ps,c,wk,cl,rfl,hx,hl,pots,uN,q⟩:=h;have T:=Z.G.T;refine ⟨_,aK (bO (i:=1) zW.nd rfl (Or.inl rfl) (gB (pv 0) rfl)) (aK (iC fJ rfl (eG (gB (pv 0) rfl)) (cV 2 zW.nd) (aU (bO (i:=1) zW.nd rfl (Or.inl rfl) (bH rJ (pv 1) (gB (pv 2) rfl))))) (aU (bY (pv 1)))),?_⟩;refine ⟨_,rfl,x,a.garden,dx,_,_,rfl,hx,Z.tG.cl,Z.nG _ (by simp),pC ..,_,rfl,x,a.garden,dx,_,_,rfl,hx,Z.tG.cl,Z.nG _ (by simp),nF ..,l,rfl,⟨_,hl⟩,jq (K:=K) (a:=l) (xs:=as.map V.ref) (fun i σ H'=>∃ u,σ=[some (.ref x),some (.int (sizeOf wk (ps.take i))),u]/\H=H') ⟨none,rfl,rfl⟩ (fun i σ H' _ ⟨_,_,e⟩=>e ▸ hl) ?_ ?_⟩
  ·rintro i y σ H' hi ⟨u,rfl,rfl⟩;rw [aH] at hi;obtain ⟨b,hb,rfl⟩:=bB.mp hi;obtain ⟨p,hp,dy,hb'⟩:=dz pots hb;have Vr:=uN p (aR hp);have cT:=T.cls p.jx;refine ⟨_,rfl,_,rfl,b,p.cls a,dy,_,_,rfl,hb',cT.1.cl,cT.2 _ (by simp),p.Ho,_,_,rfl,rfl,.inr ⟨by have:=Vr.gap; omega,by have:=Vr.gap; omega⟩,?_⟩;have e:sizeOf wk (ps.take (i + 1))=sizeOf wk (ps.take i) * p.gap:=by
    rw [take_snoc hp,sizeOf,sizeOf,foldl_append];rfl
   refine ⟨some (.ref b),?_,rfl⟩;rw [e];rfl
  ·rintro σ H' ⟨u,rfl,rfl⟩;refine ⟨_,rfl,?_⟩;have lp:as.length=ps.length:=Paired.length pots;rw [aq,lp,bI];exact q
theorem acZ {σ:St} {H:Hp} {R:List V->Hp->Prop} (h:R [] H):Es σ H R:=h
inductive ajP where
 | bad | many | ok
 deriving DecidableEq
noncomputable def vR (ps:List bM) (c w cl:V):ajP := if uI ps.length c w cl=false then .many else if ¬ (ps.map bM.nm).Nodup then .bad else
 match w with
 | .int wk=>if 20000 < sizeOf wk ps then .many else .ok
 | _=>.many
def CK (o:Option (List bM)) (c w cl:V):ajP:=match o with
 | none=>.bad
 | some ps=>vR ps c w cl
inductive xM (K:Fg) (a:fW) (H:Hp):V->Option (List bM)->Prop where
 | no {v:V} {k:Kd} (hk:eX K H v k) (h:bi k .list=false):xM K a H v none
 | mix {l:aB} {xs:List V} {ks:List Kd} (hk:eX K H (.ref l) .lst) (hl:cD K H l xs) (len:xs.length<=1000) (kds:Paired (eX K H) xs ks) (pk:∀ k ∈ ks,PK a k) (h:ks.all (Qf a)=false):xM K a H (.ref l) none
 | pots {l:aB} {as:List aB} {ps:List bM} (hk:eX K H (.ref l) .lst) (hl:cD K H l (as.map V.ref)) (len:as.length<=1000) (pots:lA a H as ps) (uN:∀ p ∈ ps,p.Ok):xM K a H (.ref l) (some ps)
theorem Nm (T:lq K mg a) {H:Hp} {as:List aB} {ps:List bM} (h:lA a H as ps):Paired (eX K H) (as.map V.ref) (ps.map fun p=>Kd.ins (p.cls a)):=by
 induction h with
 | nil=>exact .nil
 | cons r _ ih =>
  obtain ⟨dx,e⟩:=r;exact .cons ⟨_,dx,_,rfl,e,(T.cls (bM.jx _)).1⟩ ih
theorem Np {ps:List bM}:(ps.map fun p=>Kd.ins (p.cls a)).all (Qf a)=true:=by
 rw [all_map,all_eq_true];intro p _;exact aL p.jx
theorem ac0 (T:lq K mg a) {H:Hp} {Q:VK} {E:XK} {v:V} {o:Option (List bM)} (g:xM K a H v o) (bad:o=none->∀ H',Same H H'->E (.ref a.dD) none H') (good:∀ ps,o=some ps->(∀ p ∈ ps,p.Ok)->∀ H' l' bs,Same H H'->H l'=none->H' l'=some (.lst (bs.map V.ref))->lA a H' bs ps->Q (.ref l') H'):Vp K a [v] H Q E:=by
 cases g with
 | no hk h=>exact ⟨v,_,rfl,hk,fun _=>bad rfl,fun z=>by rw [h] at z; cases z⟩
 | mix hk hl len kds pk h=>exact ⟨_,_,rfl,hk,(fun z=>nomatch z),fun _=>⟨_,_,_,rfl,hl,len,kds,pk,fun _=>bad rfl,fun z=>by rw [h] at z; cases z⟩⟩
 | pots hk hl len pots uN =>
  refine ⟨_,_,rfl,hk,(fun z=>nomatch z),fun _=>⟨_,_,_,rfl,hl,by rw [aq]; exact len,Nm T pots,?_,fun z=>?_,fun _=>⟨_,_,rfl,pots,uN,good _ rfl uN⟩⟩⟩
  ·intro k hk C e;obtain ⟨p,_,rfl⟩:=bN.mp hk;cases e;exact p.jx
  ·rw [Np] at z;cases z
def rW (a:fW) (H H':Hp) (x:aB) (g:zV):Prop:=∃ dx l as,H' x=some (.ins a.garden dx (Nj l (.int g.cans) (.int g.week) (.int g.closed)))/\H' l=some (.lst (as.map V.ref))/\lA a H' as g.pots/\H l=none
theorem rW.from {H0 H H':Hp} {x:aB} {g:zV} (h:rW a H H' x g) (s:Same H0 H):rW a H0 H' x g:=by
 obtain ⟨dx,l,as,h1,h2,h3,h4⟩:=h;exact ⟨dx,l,as,h1,h2,h3,s.free h4⟩
noncomputable def ajQ (K:Fg) (a:fW):Sp:=fun vs H Q E=>∃ x dx v c w cl o kc kw kl,vs=[.ref x,v,c,w,cl]/\H x=some (.ins a.garden dx [])/\xM K a H v o/\eX K H c kc/\eX K H w kw/\eX K H cl kl /\ (CK o c w cl=.bad->∀ H',But x H H'->E (.ref a.dD) none H')/\(CK o c w cl=.many->∀ H',But x H H'->E (.ref a.tooMany) none H') /\ (CK o c w cl=.ok->∀ ps ci wi li H',o=some ps->c=.int ci->w=.int wi->cl=.int li->But x H H'->rW a H H' x ⟨ps,ci,wi,li⟩->Q .non H')
theorem ajR:bQ ["self","pots","cans","week","closed","copies"] ["self","pots","cans","week","closed"] (aW Tc):=dN (by decide +kernel)
theorem ajS (Z:CJ K mg a dV):cG P w K mg base (fu P w) 7 a.Qd a.dGI ["self","pots","cans","week","closed"] (ajQ K a):=by
 refine Z.gi.lO ajR (fun vs H Q E h=>?_) (fun cdv A outer s H vs Q E hr h=>?_)
 ·obtain ⟨x,dx,v,c,wk,cl,o,kc,kw,kl,rfl,_⟩:=h;rfl
 ·obtain ⟨x,dx,v,c,wk,cl,o,kc,kw,kl,rfl,hx,ga,hc,hw,hcl,bad,many,good⟩:=h;have G:=Z.G;have T:=G.T;obtain ⟨t1,m1⟩:=G.Ft;have hr2:d7 2 _:=hr.mono (by decide);refine ⟨_,aK (bO (i:=5) ajR.nd rfl (Or.inl rfl) (dH (acS G) hr G.acO G.own.F.kp G.own.b (dY bL) (ao (pv 1) aF))) (aK (fY (dH (acU G) hr2 G.acP G.cnt.F.kp G.cnt.b (dY bL) (ao (pv 5) (ao (pv 2) (ao (pv 3) (ao (pv 4) aF)))))) (aK (fY (dH (acV G) hr2 G.acQ G.twc.F.kp G.twc.b (dY bL) (ao (pv 5) aF))) (aK (oZ (pv 0) (pv 5) rfl) (aK (oZ (pv 0) (pv 2) rfl) (aK (oZ (pv 0) (pv 3) rfl) (aK (oZ (pv 0) (pv 4) rfl) (aU (dG (bV Ba (Bf (pv 0) Z.tG.cl Z.ajM (Te Z) (hr.mono (by decide)) Z.size.b .nil bG) (iy (.int 20000) m1 ⟨t1,rfl⟩) (cB _)) (aU (fQ bL rfl (by rfl) G.tooMany.m G.tooMany.q PySem.F.excBase_ValueError (ao dR aF))) bU)))))))),?_⟩;refine ⟨_,rfl,acZ (ac0 T ga (fun e H' s'=>bad (by rw [e]; rfl) H' (Same.but s')) (fun ps eo uN H1 l bs s1 fl hl1 pt1=>?_))⟩;subst eo;have lb:bs.length=ps.length:=Paired.length pt1;have hl1':cD K H1 l (bs.map V.ref):=cD.of hl1;refine ⟨_,rfl,_,rfl,_,rfl,_,rfl,l,_,c,wk,cl,kc,kw,kl,rfl,hl1',hc.same s1,hw.same s1,hcl.same s1,fun e=>many ?_ H1 (Same.but s1),fun e=>?_⟩
  ·rw [aq,lb] at e
   show vR _ _ _ _=_
   unfold vR;rw [if_pos e]
  ·rw [aq,lb] at e;have e':¬ uI ps.length c wk cl=false:=by rw [e]; exact Bool.noConfusion
   have h8:ps.length<=8/\(∃ ci,c=.int ci)/\(∃ wi,wk=.int wi)/\∃ li,cl=.int li:=by
    unfold uI at e;simp only [Bool.and_eq_true,decide_eq_true_eq] at e;obtain ⟨⟨⟨⟨e1,e2⟩,e3⟩,e4⟩,e5⟩:=e;obtain ⟨ci,rfl,_⟩:=gK e3;obtain ⟨wi,rfl,_⟩:=gK e4;obtain ⟨li,rfl,_⟩:=gK e5;exact ⟨e2,⟨_,rfl⟩,⟨_,rfl⟩,⟨_,rfl⟩⟩
   obtain ⟨h8,⟨ci,rfl⟩,⟨wi,rfl⟩,⟨li,rfl⟩⟩:=h8;refine ⟨_,rfl,l,bs,ps,rfl,hl1',pt1,by rw [lb]; exact h8,fun nd H2 s2=>bad ?_ H2 (Same.but (s1.trans s2)),fun nd H2 s2=>?_⟩
   ·show vR _ _ _ _=_
    unfold vR;rw [if_neg e',if_pos nd]
   ·have nxl:x≠l:=dj hx fl;have s12:=s1.trans s2;have hx2:=s12 _ _ hx;refine ⟨_,rfl,_,rfl,x,a.garden,dx,_,rfl,hx2,Z.tG.cl,Z.nG _ (by simp),by show 0 < 1000; decide,?_⟩;refine ⟨_,rfl,_,rfl,x,a.garden,dx,_,rfl,aD,Z.tG.cl,Z.nG _ (by simp),by show 1 < 1000; decide,?_⟩;refine ⟨_,rfl,_,rfl,x,a.garden,dx,_,rfl,aD,Z.tG.cl,Z.nG _ (by simp),(by rw [show gH "cans" (V.int ci) (gH "pots" (V.ref l) [])=[(("pots":Str),V.ref l),(("cans":Str),V.int ci)] from lU (by decide +kernel)]; show 2 < 1000; decide),?_⟩;refine ⟨_,rfl,_,rfl,x,a.garden,dx,_,rfl,aD,Z.tG.cl,Z.nG _ (by simp),?_,?_⟩
    ·have:=jc "week" (V.int wi) (gH "cans" (V.int ci) (gH "pots" (V.ref l) []));have:=jc "cans" (V.int ci) (gH "pots" (V.ref l) []);have:=jc "pots" (V.ref l) [];simp at this;omega
    ·rw [jh,jh,jh,ajO];generalize eH:upd H2 x (.ins a.garden dx (Nj l (.int ci) (.int wi) (.int li)))=H3;have hx3:H3 x=some (.ins a.garden dx (Nj l (.int ci) (.int wi) (.int li))):=by rw [<- eH,aD]
     have b3:But x H H3:=fun b o n e=>by rw [<- eH,bx n]; exact s12 _ _ e
     have hl3:H3 l=some (.lst (bs.map V.ref)):=by rw [<- eH,bx nxl.symm]; exact s2 _ _ hl1
     have pt3:lA a H3 bs ps:=by
      refine Paired.ig (pt1.same s2) fun b p e=>?_
      obtain ⟨dy,e⟩:=e;refine ⟨dy,?_⟩;rw [<- eH,bx ?_]
      ·exact e
      ·intro z;subst z;rw [e] at hx2;have:=(cu hx2);injection this with _ _ e3;unfold bM.fs at e3
       split at e3 <;> cases e3
     refine ⟨_,rfl,x,dx,_,rfl,hx3,ajN _ _ _ _ (by decide +kernel) (by decide +kernel) (by decide +kernel) (by decide +kernel),x,dx,l,bs,ps,_,wi,_,rfl,hx3,cD.of hl3,pt3,uN,_,_,rfl,rfl,_,rfl,?_⟩
     by_cases big:20000 < sizeOf wi ps
     ·rw [aL big];refine cQ ⟨by show 1<=sizeLine; decide,many ?_ _ b3⟩
      show vR _ _ _ _=_
      unfold vR;rw [if_neg e',if_neg (fun z=>z nd)];exact if_pos big
     ·rw [aG big];refine cU (good ?_ ps ci wi li _ rfl rfl rfl rfl b3 ⟨dx,l,bs,hx3,hl3,pt3,fl⟩)
      show vR _ _ _ _=_
      unfold vR;rw [if_neg e',if_neg (fun z=>z nd)];exact if_neg big
end
theorem jO.mark {k:Nat} {A:c7} {o:Option aA} (r:jO k A):jO k (A.mark o):=⟨r.dp,r.un⟩
section
variable {P:cA} {w:World} {K:Fg} {mg:Str->Option aA} {base:Heap} {a:fW} {dV:aA}
theorem xM.same {H H':Hp} {v:V} {o:Option (List bM)} (g:xM K a H v o) (s:Same H H'):xM K a H' v o:=by
 cases g with
 | no hk h=>exact .no (hk.same s) h
 | mix hk hl len kds pk h=>exact .mix (hk.same s) (s.seq hl) len (Paired.ig kds fun _ _ e=>e.same s) pk h
 | pots hk hl len pots uN=>exact .pots (hk.same s) (s.seq hl) len (pots.same s) uN
structure Vs (a:fW) (H:Hp) (Q:aB->Hp->Prop) (E:XK) (o:Option (List bM)) (c w cl:V):Prop where
 bad:CK o c w cl=.bad->∀ H',Same H H'->E (.ref a.dD) none H'
 many:CK o c w cl=.many->∀ H',Same H H'->E (.ref a.tooMany) none H'
 ok:CK o c w cl=.ok->∀ ps ci wi li H' x,o=some ps->c=.int ci->w=.int wi->cl=.int li->H x=none->Same H H'->rW a H H' x ⟨ps,ci,wi,li⟩->Q x H'
theorem ac2 {H:Hp} {Q:aB->Hp->Prop} {E:XK} {v c w cl:V} {o:Option (List bM)} {kc kw kl:Kd} (ga:xM K a H v o) (hc:eX K H c kc) (hw:eX K H w kw) (hcl:eX K H cl kl) (p:Vs a H Q E o c w cl) : ∀ x dx,H x=none->H dx=none->dx≠x->ajQ K a [.ref x,v,c,w,cl] (upd (upd H dx (.own x)) x (.ins a.garden dx [])) (fun v H2=>v=.non/\Q x H2) E:=by
 intro x dx nx ndx ne;have s0:=rT (C:=a.garden) nx ndx;exact ⟨x,dx,v,c,w,cl,o,kc,kw,kl,rfl,aD,ga.same s0,hc.same s0,hw.same s0,hcl.same s0,fun e H' b=>p.bad e H' (b.made nx ndx),fun e H' b=>p.many e H' (b.made nx ndx),fun e ps ci wi li H' h1 h2 h3 h4 b g=>⟨rfl,p.ok e ps ci wi li H' x h1 h2 h3 h4 nx (b.made nx ndx) (g.from s0)⟩⟩
theorem eqT {x y:Int} {A B:Prop} (e:x=y) (h:A):if decide (V.int x=V.int y)=true then A else B:=by
 rw [aL (by rw [e])]; exact cQ h
theorem Vt {x y:Int} {A B:Prop} (e:x≠y) (h:B):if decide (V.int x=V.int y)=true then A else B:=by
 rw [aG (fun z=>e (by injection z))]; exact cU h
theorem ajU {H:Hp} {Q:aB->Hp->Prop} {E:XK} {ps:List bM} {c w cl:Int} (h:CK (some ps) (.int c) (.int w) (.int cl)=.ok) (k:∀ H' x,H x=none->Same H H'->rW a H H' x ⟨ps,c,w,cl⟩->Q x H'):Vs a H Q E (some ps) (.int c) (.int w) (.int cl) := ⟨fun e=>(by rw [h] at e; cases e),fun e=>(by rw [h] at e; cases e),fun _ ps' ci wi li H' x e1 e2 e3 e4 hx s' g=>by cases e1; cases e2; cases e3; cases e4; exact k H' x hx s' g⟩
theorem jd {H:Hp} {n:Nat} {x:V} (h:fL x=true):vC K H n x x true:=by
 have:=vC.flat (K:=K) (H:=H) (n:=n) h h;rw [qN h] at this;exact this
end
abbrev rY:cY:=top 50
structure XC (K:Fg) (a:fW) (C:aB) (j:Nat):Prop where
 t:Jg K C
 b0:kitOne K (.ref C) (.ref a.dD)=some (0 == j)
 b1:kitOne K (.ref C) (.ref a.tooMany)=some (1 == j)
 b2:kitOne K (.ref C) (.ref a.dU)=some (2 == j)
 b3:kitOne K (.ref C) (.ref a.cj)=some (3 == j)
 b4:kitOne K (.ref C) (.ref a.jX)=some (4 == j)
 b5:kitOne K (.ref C) (.ref a.cM)=some (5 == j)
 v:kitOne K (.ref C) (.type "ValueError")=some true
 m:exmOne K (.ref C) (.ref a.pA)=some true
structure zX (mg:Str->Option aA) (a:fW):Prop where
 is:mg "isinstance"=none
 ve:mg "ValueError"=none
 n0:mg "BadPot"=some (.ref a.dD)
 n1:mg "TooMany"=some (.ref a.tooMany)
 n2:mg "NoPot"=some (.ref a.dU)
 n3:mg "BadDay"=some (.ref a.cj)
 n4:mg "BadRow"=some (.ref a.jX)
 n5:mg "NoState"=some (.ref a.cM)
 ge:mg "GardenError"=some (.ref a.pA)
section
variable {P:cA} {w:World} {K:Fg} {mg:Str->Option aA} {base:Heap} {a:fW} {dV:aA}
def hot (j:Nat):List V:=[.bl (0 == j),.bl (1 == j),.bl (2 == j),.bl (3 == j),.bl (4 == j),.bl (5 == j)]
def zY (K:Fg) (a:fW):Sp:=fun vs H Q _=>∃ e C j,vs=[.ref e]/\H e=some (kE e (.ref C) none)/\XC K a C j/\∀ H' l,Same H H'->H' l=some (.lst (hot j))->Q (.ref l) H'
theorem uQ:bQ ["_law_error","_law_found"] ["_law_error"] (aW rY):=dN (by decide +kernel)
theorem Nq {f:aB} {fd:dW} (F:mO K "_law_sorts" "_law_sorts" rY f fd) (N:zX mg a):qM P w K mg base (fu P w) 1 f fd ["_law_error"] (zY K a):=by
 refine F.okH uQ (fun vs H Q E h=>?_) (fun cdv A outer s H vs Q E hr h=>?_)
 ·obtain ⟨e,C,j,rfl,_⟩:=h;rfl
 ·obtain ⟨e,C,j,rfl,he,x,q⟩:=h;refine ⟨_,aK (bO (i:=1) uQ.nd rfl (Or.inl rfl) (fP (ao (dB ju N.is boot_isinstance (ao (pv 0) (ao (iy (.ref a.dD) N.n0 rfl) aF))) (ao (dB ju N.is boot_isinstance (ao (pv 0) (ao (iy (.ref a.tooMany) N.n1 rfl) aF))) (ao (dB ju N.is boot_isinstance (ao (pv 0) (ao (iy (.ref a.dU) N.n2 rfl) aF))) aF))))) (aU (bY (bH zF (pv 1) (fP (ao (dB ju N.is boot_isinstance (ao (pv 0) (ao (iy (.ref a.cj) N.n3 rfl) aF))) (ao (dB ju N.is boot_isinstance (ao (pv 0) (ao (iy (.ref a.jX) N.n4 rfl) aF))) (ao (dB ju N.is boot_isinstance (ao (pv 0) (ao (iy (.ref a.cM) N.n5 rfl) aF))) aF))))))),?_⟩;refine ⟨_,rfl,e,C,_,_,_,rfl,rfl,⟨_,.inl rfl⟩,he,x.t,x.b0,_,rfl,e,C,_,_,_,rfl,rfl,⟨_,.inl rfl⟩,he,x.t,x.b1,_,rfl,e,C,_,_,_,rfl,rfl,⟨_,.inl rfl⟩,he,x.t,x.b2,by show 3<=sizeLine; decide,fun l1 h1=>?_⟩;have s1:=aV (o:=.lst [V.bl (0 == j),.bl (1 == j),.bl (2 == j)]) h1;have Kg:=s1 _ _ he;refine ⟨_,rfl,_,rfl,e,C,_,_,_,rfl,rfl,⟨_,.inl rfl⟩,Kg,x.t,x.b3,_,rfl,e,C,_,_,_,rfl,rfl,⟨_,.inl rfl⟩,Kg,x.t,x.b4,_,rfl,e,C,_,_,_,rfl,rfl,⟨_,.inl rfl⟩,Kg,x.t,x.b5,by show 3<=sizeLine; decide,fun l2 h2=>?_⟩;have s2:=aV (o:=.lst [V.bl (3 == j),.bl (4 == j),.bl (5 == j)]) h2;refine ⟨l1,l2,_,_,rfl,rfl,s2 _ _ aD,aD,by show 6<=sizeLine; decide,fun l3 h3=>?_⟩;exact q _ l3 ((s1.trans s2).trans (aV h3)) aD
end
abbrev CN:cY:=top 26
abbrev vU:cY:=top 27
abbrev Tg:cY:=inClass (top 28) 2
abbrev Ti:cY:=inClass (top 28) 3
structure Tj (K:Fg) (mg:Str->Option aA) (a:fW) (dV:aA):Prop where
 Z:CJ K mg a dV
 ac3:Fn K "is_state" "is_state" CN ["garden","value"] a.MN a.Vo
 ajV:mg "is_state"=some (.ref a.MN)
 ref:Fn K "refuse_no_state" "refuse_no_state" vU ["garden","value"] a.Fp a.M4
 asj:mg "refuse_no_state"=some (.ref a.Fp)
 num:Fn K "number" "Garden.number" Tg ["self","state"] a.Cw a.ar9
 axQ:Meth K a.garden "number" a.Cw
 sta:Fn K "state" "Garden.state" Ti ["self","number"] a.Cy a.asa
 axR:Meth K a.garden "state" a.Cy
 ajW:Exn K mg "NoState" a.cM
section
variable {P:cA} {w:World} {K:Fg} {mg:Str->Option aA} {base:Heap} {a:fW} {dV:aA}
theorem ac4 {x y:Int} {A B:Prop} (e:x≠y) (h:A):if (!decide (V.int x=V.int y))=true then A else B:=by
 rw [aG (fun z=>e (by injection z))]; exact cQ h
theorem JC {x y:Int} {A B:Prop} (e:x=y) (h:B):if (!decide (V.int x=V.int y))=true then A else B:=by
 rw [aL (by rw [e])]; exact cU h
theorem CP {X:Cx} {pos:Pos} (K:Fg) {es:List Expr} {k:Nat} {t:U7} {n:Nat} (hc:X.calm=true) (h:PGs X es t) (hK:autoParam (X.K=K) zau0) (hn:autoParam ((assignEach es X.env).length=n) zau0) (hst:autoParam ((assignEach es X.env).findIdx? (·.1)=none) zau0):PG X (.Tuple es k pos) (aiK K n t):=by
 subst hK;exact oX hc h hn hst
def pD (ys:List V) (ps:List bM):Bool:=(ys.zip ps).all fun c=>cL c.1 0 (c.2.gap - 1)
inductive mH (K:Fg) (H:Hp) (wk:Int) (ps:List bM):V->Bool->Prop
 | no {v:V} {k:Kd}:eX K H v k->bi k .tuple=false->mH K H wk ps v false
 | len {t:aB} {xs:List V}:H t=some (.tup xs)->xs.length≠2->mH K H wk ps (.ref t) false
 | day {t:aB} {d s:V} {k:Kd}:H t=some (.tup [d,s])->eX K H d k->cL d 0 (wk - 1)=false->mH K H wk ps (.ref t) false
 | sn {t:aB} {d s:V} {k:Kd}:H t=some (.tup [d,s])->cL d 0 (wk - 1)=true->eX K H s k->bi k .tuple=false->mH K H wk ps (.ref t) false
 | sl {t s:aB} {d:V} {ys:List V}:H t=some (.tup [d,.ref s])->cL d 0 (wk - 1)=true->H s=some (.tup ys)->ys.length≠ps.length->mH K H wk ps (.ref t) false
 | all {t s:aB} {d:V} {ys:List V}:H t=some (.tup [d,.ref s])->cL d 0 (wk - 1)=true->H s=some (.tup ys)->ys.length=ps.length->(∀ y ∈ ys,∃ k,eX K H y k)->mH K H wk ps (.ref t) (pD ys ps)
def ac5 (K:Fg) (a:fW):Sp:=fun vs H Q _=>∃ x g v b,vs=[.ref x,v]/\jy a H x g/\g.pots.length<=8/\mH K H g.week g.pots v b/\∀ H',Same H H'->Q (.bl b) H'
theorem Fw:bQ ["garden","value","day","since"] ["garden","value"] (aW CN):=dN (by decide +kernel)
theorem vV {H:Hp} {v:V} {l m:Int} (h:cL v l m=true):eX K H v .int:=by
 obtain ⟨i,rfl,_⟩:=gK h;exact ⟨i,rfl⟩
theorem Tn (S:Tj K mg a dV):cG P w K mg base (fu P w) 2 a.MN a.Vo ["garden","value"] (ac5 K a):=by
 refine S.ac3.F.lO Fw (fun vs H Q E h=>?_) (fun cdv A outer s H vs Q E hr h=>?_)
 ·obtain ⟨x,g,v,b,rfl,_⟩:=h;rfl
 ·obtain ⟨x,g,v,b,rfl,⟨dx,l,as,hx,hl,pt⟩,h8,sa,q⟩:=h;have Z:=S.Z;have T:=Z.G.T;have JD:[("days":Str),"pot"].Nodup:=by decide +kernel
  refine ⟨_,aK (dG (pw_or (fK (eO (jW .tuple T.B.isinstance T.B.tuple (pv 1)))) (pw_or1 (bV Ay (dB bJ T.B.len PySem.boot_len (ao (pv 1) aF)) aM (cB _)))).pt (aU (bY iZ)) bU) (aK (bO (i:=2) Fw.nd rfl (Or.inl rfl) (cZ dJ (pv 1) aM (fun _ _=>rfl))) (aK (bO (i:=3) Fw.nd rfl (Or.inl rfl) (cZ dJ (pv 1) aM (fun _ _=>rfl))) (aK (dG (fK (eO (dH T.okW hr T.mwh T.wh.F.kp T.wh.b bG (ao (pv 2) (ao aM (ao (bH uW (gB (pv 0) rfl) aM) aF)))))) (aU (bY iZ)) bU) (aK (dG (pw_or (fK (eO (jW .tuple T.B.isinstance T.B.tuple (pv 3)))) (pw_or1 (bV Ay (dB bJ T.B.len PySem.boot_len (ao (pv 3) aF)) (dB bJ T.B.len PySem.boot_len (ao (gB (pv 0) rfl) aF)) (cB _)))).pt (aU (bY iZ)) bU) (aU (bY (dB (rP rfl) T.B.all boot_all (ao (fM bL rfl ⟨_,_,rfl,rfl,rfl⟩ (fZ.plain (N':=["days","pot"]) rfl (by decide +kernel) (by decide +kernel)) (acp (by rfl) T.B.zip (ao (pv 3) (ao (gB (pv 0) rfl) aF))) (fun _ _ _ _ _=>CP K (n:=2) rfl (cN (cV 0 JD) (cN (cV 1 JD) iB))) (fun _ _ _ _ _=>f9) (fun _ _ _ _ _ _=>dH T.okW hr T.mwh T.wh.F.kp T.wh.b bG (ao (pv 0) (ao aM (ao (bH uW (uD K (pv 1)) aM) aF))))) aF)))))))),?_⟩;have la:as.length=g.pots.length:=Paired.length pt;have hL:cD K H l (as.map V.ref):=cD.of hl;cases sa with
  | no hk hb =>
   refine ⟨_,rfl,v,_,rfl,hk,_,rfl,?_⟩;rw [hb];exact cQ (cQ (q H (Same.refl _)))
  | @len t xs h1 h2 =>
   refine ⟨_,rfl,_,.tup,rfl,⟨t,_,rfl,h1⟩,_,rfl,cU ⟨_,rfl,t,_,rfl,.inr (dM.of h1),rfl,_,rfl,ac4 (by omega) (q H (Same.refl _))⟩⟩
  | @day t d s k h1 h2 h3 =>
   refine ⟨_,rfl,_,.tup,rfl,⟨t,_,rfl,h1⟩,_,rfl,cU ⟨_,rfl,t,_,rfl,.inr (dM.of h1),rfl,_,rfl,JC rfl ⟨_,rfl,t,_,0,d,rfl,rfl,dM.of h1,rfl,_,rfl,t,_,1,s,rfl,rfl,dM.of h1,rfl,?_⟩⟩⟩;refine ⟨_,rfl,_,rfl,x,a.garden,dx,_,_,rfl,hx,Z.tG.cl,Z.nG _ (by simp),pC ..,_,_,rfl,rfl,d,0,g.week - 1,k,rfl,h2,_,rfl,?_⟩;rw [h3];exact cQ (q H (Same.refl _))
  | @sn t d s k h1 h2 h3 h4 =>
   refine ⟨_,rfl,_,.tup,rfl,⟨t,_,rfl,h1⟩,_,rfl,cU ⟨_,rfl,t,_,rfl,.inr (dM.of h1),rfl,_,rfl,JC rfl ⟨_,rfl,t,_,0,d,rfl,rfl,dM.of h1,rfl,_,rfl,t,_,1,s,rfl,rfl,dM.of h1,rfl,?_⟩⟩⟩;refine ⟨_,rfl,_,rfl,x,a.garden,dx,_,_,rfl,hx,Z.tG.cl,Z.nG _ (by simp),pC ..,_,_,rfl,rfl,d,0,g.week - 1,.int,rfl,vV h2,_,rfl,?_⟩;rw [h2];refine cU ⟨_,rfl,s,k,rfl,h3,_,rfl,?_⟩;rw [h4];exact cQ (cQ (q H (Same.refl _)))
  | @sl t s d ys h1 h2 h3 h4 =>
   refine ⟨_,rfl,_,.tup,rfl,⟨t,_,rfl,h1⟩,_,rfl,cU ⟨_,rfl,t,_,rfl,.inr (dM.of h1),rfl,_,rfl,JC rfl ⟨_,rfl,t,_,0,d,rfl,rfl,dM.of h1,rfl,_,rfl,t,_,1,.ref s,rfl,rfl,dM.of h1,rfl,?_⟩⟩⟩;refine ⟨_,rfl,_,rfl,x,a.garden,dx,_,_,rfl,hx,Z.tG.cl,Z.nG _ (by simp),pC ..,_,_,rfl,rfl,d,0,g.week - 1,.int,rfl,vV h2,_,rfl,?_⟩;rw [h2];refine cU ⟨_,rfl,.ref s,.tup,rfl,⟨s,_,rfl,h3⟩,_,rfl,cU ⟨_,rfl,s,_,rfl,.inr (dM.of h3),_,rfl,x,a.garden,dx,_,_,rfl,hx,Z.tG.cl,Z.nG _ (by simp),nF ..,l,_,rfl,.inl hL,rfl,_,rfl,?_⟩⟩;exact ac4 (by rw [aq,la]; omega) (q H (Same.refl _))
  | @all t s d ys h1 h2 h3 h4 h5 =>
   refine ⟨_,rfl,_,.tup,rfl,⟨t,_,rfl,h1⟩,_,rfl,cU ⟨_,rfl,t,_,rfl,.inr (dM.of h1),rfl,_,rfl,JC rfl ⟨_,rfl,t,_,0,d,rfl,rfl,dM.of h1,rfl,_,rfl,t,_,1,.ref s,rfl,rfl,dM.of h1,rfl,?_⟩⟩⟩;refine ⟨_,rfl,_,rfl,x,a.garden,dx,_,_,rfl,hx,Z.tG.cl,Z.nG _ (by simp),pC ..,_,_,rfl,rfl,d,0,g.week - 1,.int,rfl,vV h2,_,rfl,?_⟩;rw [h2];refine cU ⟨_,rfl,.ref s,.tup,rfl,⟨s,_,rfl,h3⟩,_,rfl,cU ⟨_,rfl,s,_,rfl,.inr (dM.of h3),_,rfl,x,a.garden,dx,_,_,rfl,hx,Z.tG.cl,Z.nG _ (by simp),nF ..,l,_,rfl,.inl hL,rfl,_,rfl,JC (by rw [aq,la,h4]) ?_⟩⟩;refine ⟨_,rfl,_,rfl,x,a.garden,dx,_,_,rfl,hx,Z.tG.cl,Z.nG _ (by simp),nF ..,s,l,ys,_,rfl,dM.of h3,hL,fun D hD=>?_⟩;refine zP ys.length (bh (by omega:ys.length<=8) (by decide)) (fun i=>.bl (((ys.zip g.pots)[i]?.map fun c=>cL c.1 0 (c.2.gap - 1)).getD true)) (fun i H'=>H' D=some (.lst ((List.range i).map fun i=>V.bl (((ys.zip g.pots)[i]?.map fun c=>cL c.1 0 (c.2.gap - 1)).getD true)))/\Same H H') ⟨aD,aV hD⟩ (fun i H' _ e=>e.1) (fun H' e=>⟨?_,?_⟩) (fun i H' lt e=>⟨?_,?_⟩)
   ·exact ⟨ys,_,dM.of (e.2 _ _ h3),e.2.seq hL,.inl (aN _)⟩
   ·refine ⟨D,(List.range ys.length).map fun i=>(((ys.zip g.pots)[i]?.map fun c=>cL c.1 0 (c.2.gap - 1)).getD true),rfl,cD.of (by rw [e.1,map_map]; rfl),?_⟩;have ez:((List.range ys.length).map fun i=>(((ys.zip g.pots)[i]?.map fun c=>cL c.1 0 (c.2.gap - 1)).getD true)).all id=pD ys g.pots:=by
     have lz:(ys.zip g.pots).length=ys.length:=by rw [length_zip]; omega
     have:=all_range ((ys.zip g.pots).map fun c=>cL c.1 0 (c.2.gap - 1));rw [aq,lz] at this;rw [all_map] at this ⊢;refine Eq.trans ?_ this
     congr 1
     funext i
     simp
    rw [ez];exact q _ e.2
   ·have l2:i < (as.map V.ref).length:=by rw [aq]; omega
    exact ⟨ys,as.map V.ref,ys[i],(as.map V.ref)[i],dM.of (e.2 _ _ h3),e.2.seq hL,by simp [lt],by simp [l2]⟩
   ·rintro y yq ⟨t2,Vu,rfl,hu⟩ Qc k;obtain ⟨hd,s1⟩:=e;have lb:i < as.length:=by omega
    have hb:as[i]?=some as[i]:=aC lb;obtain ⟨p,hp,pb⟩:=dz pt hb;have hy:ys[i]?=some ys[i]:=aC lt;have hbm:(as.map V.ref)[i]?=some (.ref as[i]):=by rw [aH,hb]; rfl
    have e2:=hu ys _ ys[i] (.ref as[i]) (dM.of (s1 _ _ h3)) (s1.seq hL) hy hbm;subst e2;have s2:=s1.trans (aV (o:=.tup [ys[i],V.ref as[i]]) Vu);obtain ⟨ky,hky⟩:=h5 ys[i] (List.getElem_mem lt);obtain ⟨dy,hb'⟩:=pb.same s2;have cT:=T.cls p.jx;refine ⟨t2,_,rfl,dM.of aD,rfl,_,_,rfl,_,_,rfl,rfl,fX,_,rfl,_,rfl,as[i],p.cls a,dy,_,_,rfl,hb',cT.1.cl,cT.2 _ (by simp),p.Ho,_,_,rfl,rfl,ys[i],0,p.gap - 1,ky,rfl,hky.same s2,?_⟩;have hz:(ys.zip g.pots)[i]?=some (ys[i],p):=by rw [List.getElem?_zip_eq_some]; exact ⟨hy,hp⟩
    have k':=k (upd H' t2 (.tup [ys[i],V.ref as[i]])) (by rw [bx (dj hd Vu)]; exact hd) ⟨aD,gY s2 hD⟩;rw [hz] at k';exact k'
noncomputable def Tp (K:Fg) (a:fW):Sp:=fun vs H Q E=>∃ x g v b,vs=[.ref x,v]/\jy a H x g/\g.pots.length<=8/\mH K H g.week g.pots v b/\(b=false->∀ H',Same H H'->E (.ref a.cM) none H')/\(b=true->∀ H',Same H H'->Q .non H')
theorem Tq:bQ ["garden","value"] ["garden","value"] (aW vU):=dN (by decide +kernel)
theorem Nr (S:Tj K mg a dV):cG P w K mg base (fu P w) 3 a.Fp a.M4 ["garden","value"] (Tp K a):=by
 refine S.ref.F.lO Tq (fun vs H Q E h=>?_) (fun cdv A outer s H vs Q E hr h=>?_)
 ·obtain ⟨x,g,v,b,rfl,_⟩:=h;rfl
 ·obtain ⟨x,g,v,b,rfl,gx,h8,sa,bad,good⟩:=h;refine ⟨_,aU (dG (fK (eO (dH (Tn S) hr S.ajV S.ac3.F.kp S.ac3.b bG (ao (pv 0) (ao (pv 1) aF))))) (aU (fQ bL rfl (by rfl) S.ajW.m S.ajW.q PySem.F.excBase_ValueError (ao dR aF))) bU),?_⟩;refine ⟨_,rfl,_,rfl,x,g,v,b,rfl,gx,h8,sa,fun H1 s1=>⟨_,rfl,?_⟩⟩;cases b with
  | false=>exact cQ ⟨by show 1<=sizeLine; decide,bad rfl H1 s1⟩
  | true=>exact cU (good rfl H1 s1)
def je (H:Hp) (v:V) (d:Int) (ds:List Int):Prop:=∃ t s,v=.ref t/\H t=some (.tup [.int d,.ref s])/\H s=some (.tup (ds.map V.int))
structure JF (wk:Int) (ps:List bM) (d:Int) (ds:List Int):Prop where
 d0:0<=d
 d1:d < wk
 len:ds.length=ps.length
 at_:∀ (i:Nat) (y:Int) (p:bM),ds[i]?=some y->ps[i]?=some p->0<=y/\y < p.gap
theorem je.same {H H':Hp} {v:V} {d:Int} {ds:List Int} (h:je H v d ds) (s:Same H H'):je H' v d ds:=by
 obtain ⟨t,u,e,h1,h2⟩:=h;exact ⟨t,u,e,s _ _ h1,s _ _ h2⟩
theorem uJ:∀ {ys:List V} {ps:List bM},ys.length=ps.length->pD ys ps=true->∃ ds:List Int,ys=ds.map V.int/\∀ (i:Nat) (y:Int) (p:bM),ds[i]?=some y->ps[i]?=some p->0<=y/\y < p.gap
 | [],_,_,_=>⟨[],rfl,fun i y p h=>by simp at h⟩
 | y::ys,[],h,_=>by simp at h
 | y::ys,p::ps,h,z=>by
  have z':(cL y 0 (p.gap - 1) && pD ys ps)=true:=z;rw [Bool.and_eq_true] at z';obtain ⟨i,rfl,h1,h2⟩:=gK z'.1;obtain ⟨ds,rfl,hd⟩:=uJ (by simpa using h) z'.2;refine ⟨i::ds,rfl,fun j y q hy hq=>?_⟩;cases j with
  | zero=>cases hy; cases hq; exact ⟨h1,by omega⟩
  | succ j=>exact hd j y q hy hq
theorem yH:∀ {ds:List Int} {ps:List bM},ds.length=ps.length->(∀ (i:Nat) (y:Int) (p:bM),ds[i]?=some y->ps[i]?=some p->0<=y/\y < p.gap)->pD (ds.map V.int) ps=true
 | [],_,_,_=>rfl
 | y::ds,[],h,_=>by simp at h
 | y::ds,p::ps,h,z=>by
  show (cL (.int y) 0 (p.gap - 1) && pD (ds.map V.int) ps)=true
  rw [yH (by simpa using h) fun i y q h1 h2=>z (i + 1) y q h1 h2];obtain ⟨h1,h2⟩:=z 0 y p rfl rfl;have h3:y<=p.gap - 1:=by omega
  simp [cL,h1,h3]
theorem mH.good {H:Hp} {wk:Int} {ps:List bM} {v:V} (h:mH K H wk ps v true):∃ d ds,je H v d ds/\JF wk ps d ds:=by
 generalize e:true=b at h;cases h with
 | no=>cases e
 | len=>cases e
 | day=>cases e
 | sn=>cases e
 | sl=>cases e
 | @all t s d ys h1 h2 h3 h4 h5 =>
  obtain ⟨i,rfl,i0,i1⟩:=gK h2;obtain ⟨ds,rfl,hd⟩:=uJ h4 e.symm;exact ⟨i,ds,⟨t,s,rfl,h1,h3⟩,i0,by omega,by simpa using h4,hd⟩
theorem je.arg {H:Hp} {wk:Int} {ps:List bM} {v:V} {d:Int} {ds:List Int} (h:je H v d ds) (ok:JF wk ps d ds):mH K H wk ps v true:=by
 obtain ⟨t,s,rfl,h1,h2⟩:=h;have e:pD (ds.map V.int) ps=true:=yH ok.len ok.at_;rw [<- e];refine .all h1 ?_ h2 (by rw [aq]; exact ok.len) fun y hy=>?_
 ·have:=ok.d0;have:=ok.d1;have h3:d<=wk - 1:=by omega
  simp [cL,ok.d0,h3]
 ·obtain ⟨i,_,rfl⟩:=bN.mp hy;exact ⟨.int,i,rfl⟩
theorem je.one {H:Hp} {v:V} {d d':Int} {ds ds':List Int} (h:je H v d ds) (h':je H v d' ds'):d=d'/\ds=ds':=by
 obtain ⟨t,s,rfl,h1,h2⟩:=h;obtain ⟨t',s',e,h1',h2'⟩:=h';cases e;rw [h1] at h1';cases h1';rw [h2] at h2';injection h2' with h2';injection h2' with h2';exact ⟨rfl,(List.map_inj_right (fun _ _ z=>by injection z)).mp h2'⟩
end
abbrev vW:cY:=top 3
abbrev qX:cY:=top 31
abbrev CQ:cY:=top 32
abbrev qY:cY:=inClass (top 16) 1
abbrev qZ:cY:=inClass (top 17) 1
structure Fx (K:Fg) (mg:Str->Option aA) (a:fW) (dV:aA):Prop where
 S:Tj K mg a dV
 asl:∃ f fd,Fn K "is_set" "is_set" vW ["number","bit"] f fd/\mg "is_set"=some (.ref f)
 con:∃ f fd,Fn K "cans_on" "cans_on" qX ["garden","day"] f fd/\mg "cans_on"=some (.ref f)
 asn:∃ f fd,Fn K "day_behind" "day_behind" CQ ["garden","day"] f fd/\mg "day_behind"=some (.ref f)
 aso:∃ f fd,Fn K "may" "Pot.may" qY ["self","since"] f fd/\Meth K a.pot "may" f
 asp:∃ f fd,Fn K "may" "Cactus.may" qZ ["self","since"] f fd/\Meth K a.bT "may" f
section
variable {P:cA} {w:World} {K:Fg} {mg:Str->Option aA} {base:Heap} {a:fW} {dV:aA}
def Hs:Sp:=fun vs H Q _=>∃ n b:Int,vs=[.int n,.int b]/\0<=b/\Q (.bl (fG n b)) H
theorem Tr:bQ ["number","bit"] ["number","bit"] (aW vW):=dN (by decide +kernel)
theorem Tt {i j:Int}:decide (V.int i=V.int j)=decide (i=j):=by
 by_cases h:i=j
 ·rw [aL h,aL (by rw [h])]
 ·rw [aG h,aG (fun z=>h (by injection z))]
theorem Nt {f:aB} {fd:dW} (F:mO K "is_set" "is_set" vW f fd):cG P w K mg base (fu P w) 1 f fd ["number","bit"] Hs:=by
 refine F.lO Tr (fun vs H Q E h=>?_) (fun cdv A outer s H vs Q E hr h=>?_)
 ·obtain ⟨n,b,rfl,_⟩:=h;rfl
 ·obtain ⟨n,b,rfl,b0,q⟩:=h;refine ⟨_,aU (bY (jN gQ (bH zf (bH zc (pv 0) (pv 1)) aM) aM (cB _))),?_⟩;refine ⟨_,rfl,_,rfl,_,_,rfl,rfl,b0,_,_,rfl,rfl,rfl,?_⟩;rw [Tt];exact q
def CT (a:fW):Sp:=fun vs H Q _=>∃ x g d,vs=[.ref x,.int d]/\jy a H x g/\0<=d/\Q (.int (if fG g.closed d then 0 else g.cans)) H
theorem Nu:bQ ["garden","day"] ["garden","day"] (aW qX):=dN (by decide +kernel)
theorem JG {f:aB} {fd:dW} (F:mO K "cans_on" "cans_on" qX f fd) (W:Fx K mg a dV):cG P w K mg base (fu P w) 2 f fd ["garden","day"] (CT a):=by
 refine F.lO Nu (fun vs H Q E h=>?_) (fun cdv A outer s H vs Q E hr h=>?_)
 ·obtain ⟨x,g,d,rfl,_⟩:=h;rfl
 ·obtain ⟨x,g,d,rfl,⟨dx,l,as,hx,hl,pt⟩,d0,q⟩:=h;have Z:=W.S.Z;obtain ⟨fi,di,iF,mI⟩:=W.asl;have oki:cG P w K mg base (fu P w) 1 fi di ["number","bit"] Hs:=Nt iF.F;refine ⟨_,aU (bY (j9 (eO (dH oki hr mI iF.F.kp iF.b bG (ao (gB (pv 0) rfl) (ao (pv 1) aF)))) aM (gB (pv 0) rfl))),?_⟩;refine ⟨_,rfl,x,a.garden,dx,_,_,rfl,hx,Z.tG.cl,Z.nG _ (by simp),Nk ..,_,rfl,_,_,rfl,d0,_,rfl,?_⟩;cases e:fG g.closed d with
  | true=>rw [e] at q; exact cQ q
  | false=>rw [e] at q; exact cU ⟨_,rfl,x,a.garden,dx,_,_,rfl,hx,Z.tG.cl,Z.nG _ (by simp),acX ..,q⟩
def Nv (a:fW):Sp:=fun vs H Q _=>∃ x g d,vs=[.ref x,.int d]/\jy a H x g/\0 < g.week/\Q (.int ((d + 1) % g.week)) H
theorem ac6:bQ ["garden","day"] ["garden","day"] (aW CQ):=dN (by decide +kernel)
theorem Tv {f:aB} {fd:dW} (F:mO K "day_behind" "day_behind" CQ f fd) (W:Fx K mg a dV):cG P w K mg base (fu P w) 1 f fd ["garden","day"] (Nv a):=by
 refine F.lO ac6 (fun vs H Q E h=>?_) (fun cdv A outer s H vs Q E hr h=>?_)
 ·obtain ⟨x,g,d,rfl,_⟩:=h;rfl
 ·obtain ⟨x,g,d,rfl,⟨dx,l,as,hx,hl,pt⟩,w0,q⟩:=h;have Z:=W.S.Z;refine ⟨_,aU (bY (bH eY (bH fD (pv 1) aM) (gB (pv 0) rfl))),?_⟩;exact ⟨_,rfl,_,_,rfl,rfl,_,rfl,x,a.garden,dx,_,_,rfl,hx,Z.tG.cl,Z.nG _ (by simp),pC ..,_,_,rfl,rfl,w0,q⟩
def vX (p:bM) (s:Int):Bool:=match p.rest with
 | none=>true
 | some r=>decide (r<=s)
def Ht (a:fW) (C:aB):Sp:=fun vs H Q _=>∃ x p s,vs=[.ref x,.int s]/\p.cls a=C/\jR a H x p/\Q (.bl (vX p s)) H
theorem asq:bQ ["self","since"] ["self","since"] (aW qY):=dN (by decide +kernel)
theorem asr:bQ ["self","since"] ["self","since"] (aW qZ):=dN (by decide +kernel)
theorem JH {f:aB} {fd:dW} (F:mO K "may" "Pot.may" qY f fd) (T:lq K mg a):cG P w K mg base (fu P w) 1 f fd ["self","since"] (Ht a a.pot):=by
 refine F.lO asq (fun vs H Q E h=>?_) (fun cdv A outer s H vs Q E hr h=>?_)
 ·obtain ⟨x,p,n,rfl,_⟩:=h;rfl
 ·obtain ⟨x,p,n,rfl,hc,px,q⟩:=h;refine ⟨_,aU (bY iZ),?_⟩;have e:vX p n=true:=by
   unfold vX;cases e:p.rest with
   | none=>rfl
   | some r=>rw [bM.cls,e] at hc; exact absurd hc.symm T.ne
  rw [e] at q;exact q
theorem JK {f:aB} {fd:dW} (F:mO K "may" "Cactus.may" qZ f fd) (T:lq K mg a):cG P w K mg base (fu P w) 1 f fd ["self","since"] (Ht a a.bT):=by
 refine F.lO asr (fun vs H Q E h=>?_) (fun cdv A outer s H vs Q E hr h=>?_)
 ·obtain ⟨x,p,n,rfl,_⟩:=h;rfl
 ·obtain ⟨x,p,n,rfl,hc,⟨dx,hx⟩,q⟩:=h;refine ⟨_,aU (bY (jN aiP (pv 1) (gB (pv 0) rfl) (cB _))),?_⟩;obtain ⟨r,er⟩:∃ r,p.rest=some r:=by
   cases e:p.rest with
   | none=>rw [bM.cls,e] at hc; exact absurd hc T.ne
   | some r=>exact ⟨r,rfl⟩
  have lr:p.fs.lookup ("rest":Str)=some (.int r):=by simp only [bM.fs,er]; exact Hq _ _ _
  rw [hc] at hx;have e:vX p n=decide (r<=n):=by unfold vX; rw [er]
  rw [e] at q;exact ⟨_,rfl,_,rfl,x,a.bT,dx,_,_,rfl,hx,T.tC.cl,T.nC _ (by simp),lr,_,_,rfl,rfl,q⟩
theorem Fx.may (W:Fx K mg a dV):∀ C,(C=a.pot\/C=a.bT)->∃ f fd,Cls K C/\Meth K C "may" f/\cG P w K mg base (fu P w) 1 f fd ["self","since"] (Ht a C)/\Binds K fd ["self","since"] []:=by
 intro C h;have T:=W.S.Z.G.T;rcases h with rfl | rfl
 ·obtain ⟨f,fd,F,m⟩:=W.aso;exact ⟨f,fd,T.tP.cl,m,JH F.F T,F.b⟩
 ·obtain ⟨f,fd,F,m⟩:=W.asp;exact ⟨f,fd,T.tC.cl,m,JK F.F T,F.b⟩
end
section
variable {P:cA} {w:World} {K:Fg} {mg:Str->Option aA} {base:Heap} {a:fW} {dV:aA}
def CV (p:bM):Int:=match p.rest with
 | none=>-1
 | some r=>r
def JL (p:bM) (s:Int):Cp:=⟨s,p.gap,CV p⟩
theorem vY {r:St} {x y z:Option V}:kI (none::none::none::r) ((((none::none::none::r).set 0 x).set 1 y).set 2 z):=by
 intro j v h
 match j,h with
 | 0,h=>simp at h
 | 1,h=>simp at h
 | 2,h=>simp at h
 | j + 3,h=>exact h
theorem ints_snoc {H H':Hp} {vs:List V} {b:List Int} (p:Paired (lQ H) vs b) (n:Int):Paired (lQ H') (vs++[.int n]) (b++[n]):=Paired.snoc (Paired.ig p fun _ _ z=>z) rfl
theorem Nx {p:bM} {s:Int} (h:0<=s):vX p s=decide (CV p<=s):=by
 unfold vX CV;cases p.rest with
 | none=>exact (aL (show (-1:Int)<=s by omega)).symm
 | some r=>rfl
end
abbrev lV:Rep (Int × List Int):=LK lQ (vI lQ)
abbrev ac7:Rep (Int × Int × List Int):=LK lQ lV
theorem rm:uE ac7:=qP gJ (qP gJ (qO gJ))
theorem fU:uE lV:=qP gJ (qO gJ)
section
variable {P:cA} {w:World} {K:Fg} {mg:Str->Option aA} {base:Heap} {a:fW} {dV:aA}
def cpsOf (ps:List bM) (ds:List Int):List Cp:=(ps.zip ds).map fun q=>JL q.1 q.2
theorem zZ {ps:List bM} {ds:List Int} {i:Nat} {p:bM} {n:Int} (hp:ps[i]?=some p) (hn:ds[i]?=some n):(cpsOf ps ds)[i]?=some (JL p n):=by
 have:(ps.zip ds)[i]?=some (p,n):=by rw [List.getElem?_zip_eq_some]; exact ⟨hp,hn⟩
 unfold cpsOf;rw [aH,this];rfl
theorem lW {ps:List bM} {ds:List Int} (h:ds.length=ps.length):(cpsOf ps ds).length=ps.length:=by
 unfold cpsOf;rw [aq,length_zip];omega
theorem iu {α β:Type} {R:α->β->Prop}:∀ {xs:List α} {ys:List β} {us:List α} {ws:List β},Paired R xs ys->Paired R us ws->Paired R (xs++us) (ys++ws)
 | [],[],_,_,_,q=>q
 | _::_,_::_,_,_,.cons h t,q=>.cons h (iu t q)
theorem ac8 {i:Nat} (h:i<=8):2 ^ i<=256:=by
 have:2 ^ i<=2 ^ 8:=Nat.pow_le_pow_right (by decide) h;simpa using this
end
abbrev JM:cY:=top 29
section
variable {P:cA} {w:World} {K:Fg} {mg:Str->Option aA} {base:Heap} {a:fW} {dV:aA}
structure First (nm:Str) (ps:List bM) (j:Nat) (p:bM):Prop where
 at_:ps[j]?=some p
 is:p.nm=nm
 no:∀ i q,i < j->ps[i]?=some q->q.nm≠nm
theorem First.ex {nm:Str}:∀ {ps:List bM},nm ∈ ps.map bM.nm->∃ j p,First nm ps j p
 | [],h=>nomatch h
 | q::ps,h=>by
  by_cases e:q.nm=nm
  ·exact ⟨0,q,rfl,e,fun i _ hi=>absurd hi (Nat.not_lt_zero i)⟩
  ·have h':nm ∈ ps.map bM.nm:=by
    rcases aO.mp h with z | z
    ·exact absurd z.symm e
    ·exact z
   obtain ⟨j,p,f⟩:=First.ex h';refine ⟨j + 1,p,f.at_,f.is,fun i r hi hr=>?_⟩;cases i with
   | zero=>cases hr; exact e
   | succ i=>exact f.no i r (by omega) hr
theorem First.mem {nm:Str} {ps:List bM} {j:Nat} {p:bM} (f:First nm ps j p):nm ∈ ps.map bM.nm:=bN.mpr ⟨p,aR f.at_,f.is⟩
theorem Fy (T:lq K mg a) {H:Hp} {l D:aB} {as:List aB} {ps:List bM} {σ:St} {Qe:Hp->Prop} (hl:cD K H l (as.map V.ref)) (pots:lA a H as ps) (h8:as.length<=1000) (hD:H D=none) (q:Qe (upd H D (.lst ((ps.map bM.nm).map V.str)))) : ∃ W:Nat->Nat->List V->Hp->Prop,(∃ m,W 0 m [] (upd H D (.lst [])))/\oU D (KC K l) (jt (List.replicate 1 none) σ) (xQ 0) Bx (ab4 K (Kz 0) "name") Qe W:=by
 have lp:as.length=ps.length:=Paired.length pots;refine kO as.length (bh h8 (by decide)) (fun i acc H'=>acc=((ps.take i).map bM.nm).map V.str/\upd H D (.lst acc)=H') ⟨rfl,rfl⟩ (fun i acc H' le ⟨e,eh⟩=>⟨?_,by rw [<- eh,aD]⟩) ?_ ?_
 ·rw [e,aq,aq,length_take,<- lp]; omega
 ·rintro acc H' ⟨rfl,rfl⟩;have sD:=aV (o:=.lst (((ps.take as.length).map bM.nm).map V.str)) hD;rw [lp,bI] at sD ⊢;exact ⟨⟨_,sD.seq hl,by rw [aq,lp]; exact aN _⟩,q⟩
 ·rintro i acc H' lt ⟨rfl,rfl⟩;have sD:=aV (o:=.lst (((ps.take i).map bM.nm).map V.str)) hD;have hl':=sD.seq hl;obtain ⟨b,hb⟩:∃ b,as[i]?=some b:=⟨as[i],aC lt⟩;obtain ⟨q,hq,pb⟩:=dz pots hb;have hx:(as.map V.ref)[i]?=some (.ref b):=by rw [aH,hb]; rfl
  refine ⟨⟨_,_,hl',hx⟩,?_⟩;rintro x yq ⟨rfl,hx'⟩ Qc k;have ex:=hx' _ hl';rw [hx] at ex;cases ex;obtain ⟨dx,hb'⟩:=pb.same sD;have cT:=T.cls q.jx;refine ⟨fX,_,rfl,b,q.cls a,dx,_,_,rfl,hb',cT.1.cl,cT.2 _ (by simp),q.vP,?_⟩;refine k _ _ aD ⟨?_,by rw [jh]⟩;rw [take_snoc hq,bf,bf];rfl
theorem Ny {ps:List bM} {i:Nat} {z:V} (h:((ps.map bM.nm).map V.str)[i]?=some z):∃ q,ps[i]?=some q/\z=.str q.nm:=by
 rw [aH,aH] at h;cases e:ps[i]? with
 | none=>rw [e] at h; cases h
 | some q=>rw [e] at h; cases h; exact ⟨q,rfl,rfl⟩
noncomputable def Vv (K:Fg) (a:fW):Sp:=fun vs H Q E=>∃ x g v o,vs=[.ref x,v]/\jy a H x g/\g.pots.length<=8/\G9 K H v o/\((∀ nm,o=some nm->nm ∉ g.pots.map bM.nm)->∀ H',Same H H'->E (.ref a.dU) none H') /\ (∀ nm j p,o=some nm->First nm g.pots j p->∀ H',Same H H'->Q (.int (j:Nat)) H')
theorem Vw:bQ ["garden","name","names"] ["garden","name"] (aW JM):=dN (by decide +kernel)
theorem Tz {H H':Hp} {v:V} {o:Option Str} (h:G9 K H v o) (s:Same H H'):G9 K H' v o:=by
 rcases h with h | ⟨e,h | ⟨l,xs,e2,h⟩⟩
 ·exact .inl h
 ·exact .inr ⟨e,.inl h⟩
 ·exact .inr ⟨e,.inr ⟨l,xs,e2,s.seq h⟩⟩
structure asu (K:Fg) (mg:Str->Option aA) (a:fW):Prop where
 plc:∃ f fd,Fn K "place_of" "place_of" JM ["garden","name"] f fd/\mg "place_of"=some (.ref f)
 dU:Exn K mg "NoPot" a.dU
theorem ac9 {f:aB} {fd:dW} (F:mO K "place_of" "place_of" JM f fd) (Z:CJ K mg a dV) (nP:Exn K mg "NoPot" a.dU):cG P w K mg base (fu P w) 1 f fd ["garden","name"] (Vv K a):=by
 refine F.lO Vw (fun vs H Q E h=>?_) (fun cdv A outer s H vs Q E hr h=>?_)
 ·obtain ⟨x,g,v,o,rfl,_⟩:=h;rfl
 ·obtain ⟨x,g,v,o,rfl,⟨dx,l,as,hx,hl,pt⟩,h8,na,noP,yes⟩:=h;have T:=Z.G.T;refine ⟨_,aK (qL (i:=2) Vw.nd rfl (Or.inl rfl) bL rfl ⟨_,_,rfl,rfl,rfl⟩ (fZ.plain (N':=["pot"]) rfl (by decide +kernel) (by decide +kernel)) (eG (gB (pv 0) rfl)) (fun _ _ _ _ _=>cV 0 (show [("pot":Str)].Nodup by decide +kernel)) (fun _ _ _ _ _=>f9) (fun _ _ _ _ _ _=>uD K (pv 0))) (aK (dG (bV (Jk hr.units) (pv 1) (pv 2) rfl) (aU (fQ bL rfl (by rfl) nP.m nP.q PySem.F.excBase_ValueError (ao dR aF))) bU) (aU (bY (mZ PySem.F.plainAttrs_list PySem.F.slot_list_index PySem.F.type_list_index Cd (pv 2) (ao (pv 1) aF))))),?_⟩;have la:as.length=g.pots.length:=Paired.length pt;have hL:cD K H l (as.map V.ref):=cD.of hl;refine ⟨_,rfl,x,a.garden,dx,_,_,rfl,hx,Z.tG.cl,Z.nG _ (by simp),nF ..,l,rfl,⟨_,hL⟩,fun D hD=>Fy T hL pt (by omega) hD ?_⟩;have sD:=aV (o:=.lst ((g.pots.map bM.nm).map V.str)) hD;refine ⟨_,rfl,_,rfl,D,_,o,rfl,cD.of aD,Tz na sD,_,rfl,?_⟩;cases o with
  | none=>exact cQ ⟨by show 1<=sizeLine; decide,noP (fun _ z=>nomatch z) _ sD⟩
  | some nm =>
   rcases na with ⟨nm',rfl,e⟩ | ⟨z,_⟩
   ·cases e
    by_cases hm:nm ∈ g.pots.map bM.nm
    ·rw [show acA (some nm) (g.pots.map bM.nm)=false by show (!decide _)=false; rw [aL hm]; rfl];obtain ⟨j,p,f⟩:=First.ex hm;refine cU ⟨_,rfl,.inl ⟨rfl,_,cD.of aD⟩,_,rfl,D,_,.str nm,j,rfl,rfl,aD,rfl,m8 _,⟨.str p.nm,?_,?_⟩,fun i z hi hz=>?_,yes nm j p rfl f _ sD⟩
     ·rw [aH,aH,f.at_]; rfl
     ·rw [f.is]; exact qN rfl
     ·obtain ⟨q,hq,rfl⟩:=Ny hz;have ne:=f.no i q hi hq
      show (q.nm == nm)=false
      simp [ne]
    ·rw [show acA (some nm) (g.pots.map bM.nm)=true by show (!decide _)=true; rw [aG hm]; rfl];exact cQ ⟨by show 1<=sizeLine; decide,noP (fun _ z=>by cases z; exact hm) _ sD⟩
   ·cases z
end
abbrev Nz:cY:=inClass (top 11) 0
abbrev oH:cY:=top 34
structure Hu (K:Fg) (mg:Str->Option aA) (a:fW):Prop where
 gE:mg "GardenError"=some (.ref a.pA)
 cb:ajq K a.pA "ValueError.__init__"
 bd:∃ f fd,Fn K "__init__" "BadDay.__init__" Nz ["self","day"] f fd/\acC K a.cj f Fl "ValueError.__new__"/\isFn K (.ref f)=true
 ea:ajs K a.cj "day"
 m:mg "BadDay"=some (.ref a.cj)
section
variable {P:cA} {w:World} {K:Fg} {mg:Str->Option aA} {base:Heap} {a:fW} {dV:aA}
def NK (a:fW):Sp:=fun vs H Q _=>∃ e d,vs=[.ref e,.int d]/\H e=some (jL e a.cj none)/\d.natAbs.log2 < 100/\∀ dx,H dx=none->Q .non (upd (upd H dx (.xd [("day",.int d)])) e (jL e a.cj (some dx)))
theorem ajY:bQ ["self","day"] ["self","day"] (aW Nz):=dN (by decide +kernel)
theorem ada {f:aB} {fd:dW} (F:mO K "__init__" "BadDay.__init__" Nz f fd) (X:Hu K mg a):cG P w K mg base (fu P w) 1 f fd ["self","day"] (NK a):=by
 refine F.lO ajY (fun vs H Q E h=>?_) (fun cdv A outer s H vs Q E hr h=>?_)
 ·obtain ⟨e,d,rfl,_⟩:=h;rfl
 ·obtain ⟨e,d,rfl,he,ld,q⟩:=h;obtain ⟨f',fd',_,q',_⟩:=X.bd;refine ⟨_,aK (fY (Mh X.gE X.cb q' PySem.F.excBase_ValueError (ao (pv 0) (ao (R7 (pv 1)) aF)))) (aU (acF (pv 0) (pv 1) rfl)),?_⟩;refine ⟨_,rfl,_,rfl,d,rfl,ld,fun z=>⟨e,_,none,rfl,he,?_⟩⟩;exact ⟨_,rfl,_,rfl,e,_,rfl,he,X.ea,fun dx hdx=>q dx hdx⟩
theorem TF {H:Hp} {e dx C:aB} {o:HO} (he:H e=none) (hdx:upd H e (jL e C none) dx=none):Same H (del (upd (upd (upd H e (jL e C none)) dx o) e (jL e C (some dx))) e)/\del (upd (upd (upd H e (jL e C none)) dx o) e (jL e C (some dx))) e dx=some o:=by
 have ne:dx≠e:=fun z=>by rw [z,aD] at hdx; cases hdx
 have h0:H dx=none:=by rw [bx ne] at hdx; exact hdx
 refine ⟨fun b u hb=>?_,?_⟩
 ·have be:b≠e:=dj hb he;have bd:b≠dx:=dj hb h0;rw [m9 be,bx be,bx bd,bx be];exact hb
 ·rw [m9 ne,bx ne,aD]
theorem Fz {H:Hp} {E:XK} {d:Int} (ld:d.natAbs.log2 < 100) (q:∀ H' dx,Same H H'->H' dx=some (.xd [("day",.int d)])->E (.ref a.cj) (some dx) H') : 1<=sizeLine/\∀ e,H e=none->NK a [.ref e,.int d] (upd H e (jL e a.cj none)) (fun v H2=>v=.non/\∃ dx,H2 e=some (jL e a.cj dx)/\E (.ref a.cj) dx (del H2 e)) fun _ _ _=>False:=by
 refine ⟨by decide,fun e he=>⟨e,d,rfl,aD,ld,fun dx hdx=>⟨rfl,some dx,aD,?_⟩⟩⟩;have z:=TF (o:=.xd [("day",.int d)]) he hdx;exact q _ dx z.1 z.2
def sE (ps:List bM) (ds:List Int) (js:List Nat):Bool:=js.all fun j=>((ps.zip ds)[j]?.map fun q=>vX q.1 q.2).getD true
def CW (g:zV) (d:Int) (ds:List Int) (js:List Nat):Bool:=!decide js.Nodup || decide ((if fG g.closed d then 0 else g.cans) < (js.length:Int)) || !sE g.pots ds js
noncomputable def Vx (K:Fg) (a:fW):Sp:=fun vs H Q E=>∃ x g v d ds p js day,vs=[.ref x,v,.ref p,.int day]/\jy a H x g/\je H v d ds/\H p=some (.lst (js.map fun j:Nat=>V.int (j:Int)))/\(∀ j ∈ js,j < g.pots.length)/\ds.length=g.pots.length/\js.length<=1000/\0<=d/\day.natAbs.log2 < 100 /\ (CW g d ds js=true->∀ H' dx,Same H H'->H' dx=some (.xd [("day",.int day)])->E (.ref a.cj) (some dx) H')/\(CW g d ds js=false->∀ H',Same H H'->Q .non H')
theorem ajZ:bQ ["garden","state","places","day"] ["garden","state","places","day"] (aW oH):=dN (by decide +kernel)
def JN:Rep Nat:=fun _ v j=>v=.int (j:Int)
def RBl:Rep Bool:=fun _ v b=>v=.bl b
theorem z6:uE JN:=⟨fun h _=>h,fun h _=>h⟩
theorem adb:uE RBl:=⟨fun h _=>h,fun h _=>h⟩
theorem Vy {H:Hp}:∀ js:List Nat,Paired (JN H) (js.map fun j:Nat=>V.int (j:Int)) js
 | []=>.nil
 | _::js=>.cons rfl (Vy js)
theorem aj0 {H:Hp}:∀ {vs:List V} {bs:List Bool},Paired (RBl H) vs bs->vs=bs.map V.bl
 | [],[],_=>rfl
 | _::_,_::_,.cons h t=>by rw [aj0 t,cR]; cases h; rfl
theorem gM {r:St} {x:Option V}:kI (none::r) ((none::r).set 0 x):=by
 intro j v h
 match j,h with
 | 0,h=>simp at h
 | j + 1,h=>exact h
theorem CZ (js:List Nat):Jo (js.map fun j:Nat=>(j:Int))=js.length ↔ js.Nodup:=by
 have:=Sd (js.map fun j:Nat=>(j:Int));rw [aq] at this;rw [this];constructor
 ·intro h;unfold Nodup at h ⊢;rw [List.pairwise_map] at h;exact h.imp fun hab z=>hab (by rw [z])
 ·intro h;unfold Nodup at h ⊢;rw [List.pairwise_map];exact h.imp fun hab z=>hab (by omega)
theorem ade {f:aB} {fd:dW} (F:mO K "refuse_bad_day" "refuse_bad_day" oH f fd) (W:Fx K mg a dV) (X:Hu K mg a):cG P w K mg base (fu P w) 3 f fd ["garden","state","places","day"] (Vx K a):=by
 refine F.lO ajZ (fun vs H Q E h=>?_) (fun cdv A outer s H vs Q E hr h=>?_)
 ·obtain ⟨x,g,v,d,ds,p,js,day,rfl,_⟩:=h;rfl
 ·obtain ⟨x,g,v,d,ds,p,js,day,rfl,gx,st,hp,jb,ld,l3,d0,adf,bad,good⟩:=h;have Z:=W.S.Z;have B:=Z.G.T.B;obtain ⟨fi,di,iF,xi,fni⟩:=X.bd;obtain ⟨fc,dc,cF,mC⟩:=W.con;have oki:cG P w K mg base (fu P w) 1 fi di ["self","day"] (NK a):=ada iF.F X;have yI:cG P w K mg base (fu P w) 2 fc dc ["garden","day"] (CT a):=JG cF.F W;have hr2:d7 2 _:=hr.mono (by decide);have hr1:d7 1 _:=hr.mono (by decide);have Kl:[("place":Str),"garden","state"].Nodup:=by decide +kernel
  refine ⟨_,aK (dG (bV Ay (dB Jq B.len PySem.boot_len (ao (uH (Jp rfl) B.set boot_set (ao (pv 2) aF)) aF)) (dB bJ B.len PySem.boot_len (ao (pv 2) aF)) (cB _)) (aU (rQ bL rfl (by rfl) X.m xi fni PySem.F.excBase_ValueError oki hr2 iF.b (ao (pv 3) aF))) bU) (aK (dG (bV Ba (dB bJ B.len PySem.boot_len (ao (pv 2) aF)) (dH yI hr2 mC cF.F.kp cF.b bG (ao (pv 0) (ao (cZ dJ (pv 1) aM (fun _ _=>rfl)) aF))) (cB _)) (aU (rQ bL rfl (by rfl) X.m xi fni PySem.F.excBase_ValueError oki hr2 iF.b (ao (pv 3) aF))) bU) (aU (dG (fK (eO (dB (rP rfl) B.all boot_all (ao (fM bL rfl ⟨_,_,rfl,rfl,rfl⟩ (gj (N':=["place","garden","state"]) (cl:=[("state",s.heap.objs.size + 2),("garden",s.heap.objs.size + 1)]) [none,some 0,some 1] ["garden","state","places","day"] (aW oH).names [(".0",.local),("place",.local),("garden",.cell),("state",.cell)] ["state","garden"] rfl (by decide +kernel) (by decide +kernel) rfl (fun p hp=>by simp only [aO,not_mem_nil,or_false] at hp; rcases hp with rfl | rfl <;> rfl) rfl rfl rfl rfl (by decide +kernel) rfl (by decide +kernel)) (eG (pv 2)) (fun _ _ _ _ _=>cV 0 Kl) (fun _ _ _ _ _=>f9) (fun _ _ _ _ _ _=>Ci (Cs:=fun C=>C=a.pot\/C=a.bT) (sp:=Ht a) (cZ (Cj K) (uD K (pv 1)) (pv 0) (fun _ _=>rfl)) hr1 W.may bG (ao (cZ (qQ K) (cZ (qQ K) (pv 2) aM (fun _ _=>rfl)) (pv 0) (fun _ _=>rfl)) aF))) aF)))) (aU (rQ bL rfl (by rfl) X.m xi fni PySem.F.excBase_ValueError oki hr2 iF.b (ao (pv 3) aF))) bU))),?_⟩;obtain ⟨dx,l,as,hx,hl,pt⟩:=id gx;obtain ⟨t,su,rfl,ht,hs⟩:=id st;have ep:(js.map fun j:Nat=>V.int (j:Int))=(js.map fun j:Nat=>(j:Int)).map V.int:=by rw [map_map]; rfl
  have sb:2000 < scanBound:=by decide
  have big:1000<=sizeLine:=by decide
  refine ⟨_,rfl,p,js.map fun j:Nat=>(j:Int),rfl,ep ▸ cD.of hp,(by rw [aq]; omega),fun q S hq=>⟨q,S,_,rfl,aD,_,rfl,p,_,rfl,.inl (cD.of (aV hq _ _ hp)),rfl,_,rfl,?_⟩⟩;have s1:=aV (o:=.set S (Jo (js.map fun j:Nat=>(j:Int)))) hq;rw [show (js.map fun j:Nat=>V.int (j:Int)).length=js.length from aq ..]
  by_cases n1:js.Nodup
  ·refine JC (by rw [(CZ js).mpr n1]) ?_;refine ⟨_,rfl,p,_,rfl,.inl (cD.of (s1 _ _ hp)),_,rfl,_,rfl,t,_,0,.int d,rfl,rfl,dM.of (s1 _ _ ht),rfl,x,g,d,rfl,gx.same s1,d0,_,_,rfl,rfl,_,rfl,?_⟩;rw [show (js.map fun j:Nat=>V.int (j:Int)).length=js.length from aq ..]
   by_cases n2:(if fG g.closed d then 0 else g.cans) < (js.length:Int)
   ·rw [aL n2];refine cQ ⟨_,rfl,Fz adf fun H' NP s' hd'=>bad ?_ H' NP (s1.trans s') hd'⟩;unfold CW;rw [aL n2];simp
   ·rw [aG n2];refine cU ⟨_,rfl,p,rfl,⟨_,cD.of (s1 _ _ hp)⟩,fun D hD=>?_⟩;have la:as.length=g.pots.length:=Paired.length pt;refine m7 z6 adb (f:=fun j=>((g.pots.zip ds)[j]?.map fun q=>vX q.1 q.2).getD true) (H:=upd H q _) (l:=p) (xs:=js) ⟨p,_,rfl,s1 _ _ hp,Vy js⟩ (by omega) hD ?_ ?_
    ·intro i j v H2 hj rv s2 Qc k;cases rv;have lj:=jb j (aR hj);obtain ⟨b,hb⟩:∃ b,as[j]?=some b:=⟨as[j]'(by omega),aC (by omega)⟩;obtain ⟨pp,hpp,pb⟩:=dz pt hb;obtain ⟨n,hn⟩:∃ n,ds[j]?=some n:=⟨ds[j]'(by omega),aC (by omega)⟩;have s3:=s1.trans s2;have hx3:=s3 _ _ hx;obtain ⟨db,hb3⟩:=pb.same s3;have hba:(as.map V.ref)[j]?=some (.ref b):=by rw [aH,hb]; rfl
     have hnd:(ds.map V.int)[j]?=some (.int n):=by rw [aH,hn]; rfl
     refine ⟨gM,_,rfl,x,a.garden,dx,_,_,rfl,hx3,Z.tG.cl,Z.nG _ (by simp),nF ..,_,rfl,l,_,_,_,rfl,rfl,cD.of (s3 _ _ hl),fj hba,b,pp.cls a,db,_,rfl,hb3,pp.jx,pp.ajG (by decide +kernel) (by decide +kernel) (by decide +kernel),_,rfl,t,_,1,.ref su,rfl,rfl,dM.of (s3 _ _ ht),rfl,_,rfl,su,_,_,_,rfl,rfl,dM.of (s3 _ _ hs),fj hnd,b,pp,n,rfl,rfl,⟨db,hb3⟩,k _ _ (Same.refl _) ?_⟩;have:(g.pots.zip ds)[j]?=some (pp,n):=by rw [List.getElem?_zip_eq_some]; exact ⟨hpp,hn⟩
     rw [this];rfl
    ·intro H' s2 r;obtain ⟨D',vs,eD,hv,Qg⟩:=r;cases eD;obtain rfl:vs=(js.map fun j=>((g.pots.zip ds)[j]?.map fun q=>vX q.1 q.2).getD true).map V.bl:=aj0 Qg;refine ⟨D,_,rfl,cD.of hv,_,rfl,?_⟩;have em:(js.map fun j=>((g.pots.zip ds)[j]?.map fun q=>vX q.1 q.2).getD true).all id=sE g.pots ds js:=by
      unfold sE;rw [all_map];rfl
     rw [em];cases ea:sE g.pots ds js with
     | true =>
      refine cU (good ?_ H' (s1.trans s2));unfold CW;rw [aL n1,aG n2,ea];rfl
     | false =>
      refine cQ ⟨_,rfl,Fz adf fun H3 NP s' hd'=>bad ?_ H3 NP ((s1.trans s2).trans s') hd'⟩;unfold CW;rw [ea];simp
  ·refine ac4 (fun z=>n1 ((CZ js).mp (by omega))) ⟨_,rfl,Fz adf fun H' NP s' hd'=>bad ?_ H' NP (s1.trans s') hd'⟩;unfold CW;rw [aG n1];simp
end
abbrev oJ:cY:=top 35
abbrev Dc:cY:=top 36
theorem FJ (K:Fg) {X:Cx} (hK:autoParam (X.K=K) zau0):lE X (compareOp .In) (rIn K false):=by
 subst hK;exact yg
def nats (js:List Nat):List V:=js.map fun j:Nat=>V.int (j:Int)
theorem yJ (js:List Nat):(nats js).all fL=true:=by
 rw [all_eq_true];intro v hv;obtain ⟨k,_,rfl⟩:=bN.mp hv;rfl
theorem z7 (k:Nat):∀ js:List Nat,inV (.int (k:Int)) (nats js)=decide (k ∈ js)
 | []=>rfl
 | j::js=>by
  have e:inV (.int (k:Int)) (nats (j::js))=(o8 (.int (j:Int)) (.int (k:Int)) || inV (.int (k:Int)) (nats js)):=rfl;rw [e,z7 k js]
  by_cases h:k=j
  ·subst h;have:o8 (.int (k:Int)) (.int (k:Int))=true:=by simp [o8]
   simp [this]
  ·have:o8 (.int (j:Int)) (.int (k:Int))=false:=by simp [o8]; omega
   simp [this,h]
def FN (ds:List Int) (js:List Nat):List Int:=ds.zipIdx.map fun q=>if q.2 ∈ js then 0 else q.1 + 1
def NQ (ps:List bM) (ss:List Int):List Str:=((ps.zip ss).filter fun q=>decide (q.2=q.1.gap)).map fun q=>q.1.nm
section
variable {P:cA} {w:World} {K:Fg} {mg:Str->Option aA} {base:Heap} {a:fW} {dV:aA}
def Vz:Sp:=fun vs H Q _=>∃ v d ds p js,vs=[v,.ref p]/\je H v d ds/\H p=some (.lst (nats js))/\ds.length<=1000/\∀ H' t,Same H H'->H' t=some (.tup ((FN ds js).map V.int))->Q (.ref t) H'
theorem aj1:bQ ["state","places"] ["state","places"] (aW oJ):=dN (by decide +kernel)
theorem NT {H:Hp}:∀ gs:List Int,Paired (lQ H) (gs.map V.int) gs
 | []=>.nil
 | _::gs=>.cons rfl (NT gs)
theorem yK {r:St} {x y:Option V}:kI (none::none::r) (((none::none::r).set 0 x).set 1 y):=by
 intro j v h
 match j,h with
 | 0,h=>simp at h
 | 1,h=>simp at h
 | j + 2,h=>exact h
theorem ints_of {H:Hp}:∀ {vs:List V} {bs:List Int},Paired (lQ H) vs bs->vs=bs.map V.int
 | [],[],_=>rfl
 | _::_,_::_,.cons h t=>by rw [ints_of t,cR]; cases h; rfl
theorem oK {H:Hp}:∀ {vs:List V} {bs:List Str},Paired (vH H) vs bs->vs=bs.map V.str
 | [],[],_=>rfl
 | _::_,_::_,.cons h t=>by rw [oK t,cR]; cases h; rfl
theorem adg {f:aB} {fd:dW} (F:mO K "since_behind" "since_behind" oJ f fd) (B:Kh mg) (en:mg "enumerate"=none):cG P w K mg base (fu P w) 1 f fd ["state","places"] Vz:=by
 refine F.lO aj1 (fun vs H Q E h=>?_) (fun cdv A outer s H vs Q E hr h=>?_)
 ·obtain ⟨v,d,ds,p,js,rfl,_⟩:=h;rfl
 ·obtain ⟨v,d,ds,p,js,rfl,⟨t,su,rfl,ht,hs⟩,hp,l3,q⟩:=h;have Kl:[("place":Str),"days","places"].Nodup:=by decide +kernel
  refine ⟨_,aU (bY (uH iU B.tuple boot_tuple (ao (fM bL rfl ⟨_,_,rfl,rfl,rfl⟩ (gj (N':=["place","days","places"]) (cl:=[("places",s.heap.objs.size + 1)]) [none,none,some 1] ["state","places"] (aW oJ).names [(".0",.local),("place",.local),("days",.local),("places",.cell)] ["places"] rfl (by decide +kernel) (by decide +kernel) rfl (fun p hp=>by rw [aP.mp hp]; rfl) rfl rfl rfl rfl (by decide +kernel) rfl (by decide +kernel)) (Mt (by rfl) en (ao (cZ dJ (pv 0) aM (fun _ _=>rfl)) aF)) (fun _ _ _ _ _=>CP K (n:=2) rfl (cN (cV 0 Kl) (cN (cV 1 Kl) iB))) (fun _ _ _ _ _=>f9) (fun _ _ _ _ _ _=>j9 (bV (FJ K) (pv 0) (pv 2) rfl) aM (bH fD (pv 1) aM))) aF))),?_⟩;have big:1000<=sizeLine:=by decide
  refine ⟨_,rfl,t,_,1,.ref su,rfl,rfl,dM.of ht,rfl,su,_,rfl,dM.of hs,fun D hD=>?_⟩;obtain ⟨go,stop,yl⟩:=acJ (K:=K) (R:=lQ) gJ (H:=H) (l:=su) (xs:=ds) ⟨su,_,rfl,hs,NT ds⟩;have ll:ds.zipIdx.length=ds.length:=List.length_zipIdx;refine kZ (R:=fun H2 v q=>∃ T,v=.ref T/\H2 T=some (.tup [.int (q.2:Nat),.int q.1])) (S:=lQ) gJ (xs:=ds.zipIdx) (fun _=>true) (fun q=>if q.2 ∈ js then 0 else q.1 + 1) (fun _=>True) (by omega) hD (fun i H' lt s'=>go i H' (by omega) s') (fun H' s'=>by rw [ll]; exact stop H' s') ?_ ?_ ?_
  ·intro i q v H' H2 hq s' hy;rw [List.getElem?_zipIdx] at hq;obtain ⟨n,hn,rfl⟩:=bB.mp hq;obtain ⟨s2,T,u,e1,e2,e3⟩:=yl i n v H' H2 hn s' hy;cases e3;exact ⟨s2,T,e1,by rw [e2]; simp⟩
  ·rintro i ⟨n,j⟩ v H2 hq ⟨T,rfl,hT⟩ s2 Qc Qn k kn;refine ⟨T,_,rfl,dM.of hT,rfl,_,_,rfl,_,_,rfl,rfl,yK,?_⟩
   show if true=true then _ else Qn H2
   rw [if_pos rfl];refine ⟨_,rfl,_,rfl,p,_,rfl,.inl (cD.of (s2 _ _ hp)),rfl,yJ js,_,rfl,?_⟩
   show if (inV (.int (j:Int)) (nats js))=true then _ else _
   rw [z7];have k':=k rfl trivial
   by_cases hm:j ∈ js
   ·rw [aL hm];refine cQ (k' _ _ (Same.refl _) ?_)
    show V.int 0=V.int (if j ∈ js then 0 else n + 1)
    rw [if_pos hm]
   ·rw [aG hm];refine cU ⟨_,rfl,_,_,rfl,rfl,k' _ _ (Same.refl _) ?_⟩
    show V.int (n + 1)=V.int (if j ∈ js then 0 else n + 1)
    rw [if_neg hm]
  ·intro H' s' _ r;obtain ⟨D',vs,eD,hv,Qg⟩:=r;cases eD;have e:=ints_of Qg;rw [List.filter_eq_self.mpr fun _ _=>rfl] at e;subst e;exact ⟨D,_,rfl,.inl ⟨cD.of hv,fun tt htt=>q _ tt (s'.trans (aV htt)) aD⟩⟩
noncomputable def VB (a:fW):Sp:=fun vs H Q _=>∃ x g su ss,vs=[.ref x,.ref su]/\jy a H x g/\H su=some (.tup (ss.map V.int))/\ss.length=g.pots.length/\g.pots.length<=1000/\∀ H' l,Same H H'->H' l=some (.lst ((NQ g.pots ss).map V.str))->Q (.ref l) H'
theorem aj2:bQ ["garden","since"] ["garden","since"] (aW Dc):=dN (by decide +kernel)
theorem adh {f:aB} {fd:dW} (F:mO K "dry_names" "dry_names" Dc f fd) (Z:CJ K mg a dV):cG P w K mg base (fu P w) 1 f fd ["garden","since"] (VB a):=by
 refine F.lO aj2 (fun vs H Q E h=>?_) (fun cdv A outer s H vs Q E hr h=>?_)
 ·obtain ⟨x,g,su,ss,rfl,_⟩:=h;rfl
 ·obtain ⟨x,g,su,ss,rfl,⟨dx,l,as,hx,hl,pt⟩,hs,ls,l3,q⟩:=h;have T:=Z.G.T;have JD:[("pot":Str),"days"].Nodup:=by decide +kernel
  refine ⟨_,aU (bY (fM bL rfl ⟨_,_,rfl,rfl,rfl⟩ (fZ.plain (N':=["pot","days"]) rfl (by decide +kernel) (by decide +kernel)) (Sv (by rfl) T.B.zip (ao (gB (pv 0) rfl) (ao (pv 1) aF))) (fun _ _ _ _ _=>CP K (n:=2) rfl (cN (cV 0 JD) (cN (cV 1 JD) iB))) (fun _ _ _ _ _=>oA (bV gQ (pv 1) (uD K (pv 0)) (cB _))) (fun _ _ _ _ _ _=>uD K (pv 0)))),?_⟩;have big:1000<=sizeLine:=by decide
  have la:as.length=g.pots.length:=Paired.length pt;have lz:(g.pots.zip ss).length=g.pots.length:=by rw [length_zip]; omega
  refine ⟨_,rfl,x,a.garden,dx,_,_,rfl,hx,Z.tG.cl,Z.nG _ (by simp),nF ..,_,rfl,l,su,_,_,rfl,cD.of hl,dM.of hs,fun D hD=>?_⟩;refine kZ (R:=fun H2 v (q:bM × Int)=>∃ T b,v=.ref T/\H2 T=some (.tup [.ref b,.int q.2])/\jR a H2 b q.1) (S:=vH) iV (xs:=g.pots.zip ss) (fun q=>decide (q.2=q.1.gap)) (fun q=>q.1.nm) (fun _=>True) (by omega) hD ?_ ?_ ?_ ?_ ?_
  ·intro i H' lt s';rw [lz] at lt;exact ⟨_,_,.ref (as[i]'(by omega)),.int (ss[i]'(by omega)),cD.of (s' _ _ hl),dM.of (s' _ _ hs),by rw [aH,aC (by omega)]; rfl,by rw [aH,aC (by omega)]; rfl⟩
  ·intro H' s';exact ⟨_,_,cD.of (s' _ _ hl),dM.of (s' _ _ hs),.inl (by rw [aq]; omega)⟩
  ·rintro i ⟨pp,n⟩ v H' H2 hq s' ⟨T,hT,rfl,hy⟩;obtain ⟨h1,h2⟩:=List.getElem?_zip_eq_some.mp hq;obtain ⟨b,hb⟩:∃ b,as[i]?=some b:=⟨as[i]'(by have:=(aX.mp h1).1; omega),aC _⟩;obtain ⟨p',hp',pb⟩:=dz pt hb;rw [h1] at hp';cases hp';rw [hy _ _ (.ref b) (.int n) (cD.of (s' _ _ hl)) (dM.of (s' _ _ hs)) (by rw [aH,hb]; rfl) (by rw [aH,h2]; rfl)];have z:=aV (o:=.tup [V.ref b,.int n]) hT;exact ⟨z,T,b,rfl,aD,(pb.same s').same z⟩
  ·rintro i ⟨pp,n⟩ v H2 hq ⟨T2,b,rfl,hT,⟨db,hb⟩⟩ s2 Qc Qn k kn;have cT:=T.cls pp.jx;refine ⟨T2,_,rfl,dM.of hT,rfl,_,_,rfl,_,_,rfl,rfl,yK,_,rfl,_,rfl,b,pp.cls a,db,_,_,rfl,hb,cT.1.cl,cT.2 _ (by simp),pp.Ho,rfl,_,rfl,?_⟩
   by_cases z:n=pp.gap
   ·refine eqT z ⟨_,rfl,b,pp.cls a,db,_,_,rfl,hb,cT.1.cl,cT.2 _ (by simp),pp.vP,k (aL z) trivial _ _ (Same.refl _) rfl⟩
   ·exact Vt z (kn (aG z) _ (Same.refl _))
  ·intro H' s' _ r;obtain ⟨D',vs,eD,hv,Qg⟩:=r;cases eD;exact q H' D s' (by rw [hv,oK Qg]; rfl)
end
inductive Wk where
 | kept (d:Int) (ds:List Int)
 | dry (n:Nat) (nm:Str)
 | bad (n:Nat)
 | none (n:Nat)
abbrev lB (ps:List bM):List Str:=ps.map bM.nm
noncomputable def vZ (nms:List Str) (cans wk cl:Int) (ps:List bM):List (List Str)->Nat->Int->List Int->Wk
 | [],_,d,ds=>.kept d ds
 | r::rs,n,d,ds=>if (r.all fun nm=>decide (nm ∈ nms))=true then
   if (r.map fun nm=>nms.idxOf nm).Nodup then
    match d8 nms cans (fG cl d) (cpsOf ps ds) (r.map fun nm=>nms.idxOf nm) with
    | .no=>.bad n
    | .dry nm=>.dry n nm
    | .st far=>vZ nms cans wk cl ps rs (n + 1) ((d + 1) % wk) far
   else .bad n
  else .none n
abbrev jz (g:zV):List (List Str)->Nat->Int->List Int->Wk:=vZ (lB g.pots) g.cans g.week g.closed g.pots
theorem yL {nm:Str}:∀ {ps:List bM} {j:Nat} {p:bM},First nm ps j p->(lB ps).idxOf nm=j
 | [],j,p,f=>by have:=f.at_; simp at this
 | q::ps,0,p,f=>by
  have e:q=p:=by have:=f.at_; simpa using this
  have i:=f.is;rw [<- e] at i;simp [lB,idxOf_cons,i]
 | q::ps,j + 1,p,f=>by
  have ne:=f.no 0 q (by omega) rfl;have ih:=yL (ps:=ps) (j:=j) (p:=p) ⟨f.at_,f.is,fun i r hi hr=>f.no (i + 1) r (by omega) hr⟩;have e:(q.nm == nm)=false:=by simpa using ne
  simp only [lB] at ih ⊢;rw [cR,idxOf_cons,e,ih];rfl
theorem v7 {α β:Type} (F:α->Option β):∀ xs:List α,xs.findSome? F=(List.range xs.length).findSome? fun k=>xs[k]?.bind F
 | []=>rfl
 | x::xs=>by
  rw [length_cons,range_succ_eq_map,findSome?_cons,findSome?_cons,List.findSome?_map,v7 F xs];rfl
theorem head_filter {α β:Type} (p:α->Bool) (f:α->β):∀ xs:List α,((xs.filter p).map f).head?=xs.findSome? fun x=>if p x=true then some (f x) else Option.none
 | []=>rfl
 | x::xs=>by
  rw [findSome?_cons];cases h:p x with
  | true=>simp [List.filter_cons,h]
  | false =>
   rw [List.filter_cons_of_neg (by simp [h]),head_filter p f xs];simp
theorem FP {β:Type} {F G:Nat->Option β} {n:Nat} (h:∀ k,k < n->F k=G k):(List.range n).findSome? F=(List.range n).findSome? G:=by
 have:∀ l:List Nat,(∀ k ∈ l,F k=G k)->l.findSome? F=l.findSome? G:=by
  intro l
  induction l with
  | nil=>intro _; rfl
  | cons k l ih =>
   intro h;rw [findSome?_cons,findSome?_cons,h k (by simp),ih fun j hj=>h j (by simp [hj])]
 exact this _ fun k hk=>h k (mem_range.mp hk)
theorem rz {l:List Cp} {js:List Nat}:(ji l js).length=l.length:=by
 unfold ji;rw [aq,bA]
theorem TJ {ps:List bM} {ds:List Int} (js:List Nat) (h:ds.length=ps.length):FN ds js=ji (cpsOf ps ds) js:=by
 have lc:=lW h;apply ext_getElem?;intro i;unfold FN;rw [aH,List.getElem?_zipIdx]
 by_cases lt:i < ds.length
 ·have hd:ds[i]?=some ds[i]:=aC lt;have hp:ps[i]?=some (ps[i]'(by omega)):=aC _;rw [Fd (zZ hp hd),hd];simp [JL]
 ·rw [List.getElem?_eq_none (by omega),List.getElem?_eq_none (by rw [rz,lc]; omega)];rfl
theorem NZ {ps:List bM} {ds:List Int} (js:List Nat) (h:ds.length=ps.length):(NQ ps (ji (cpsOf ps ds) js)).head?=zQ (lB ps) (cpsOf ps ds) js:=by
 have lc:=lW h;have lf:(ji (cpsOf ps ds) js).length=ps.length:=by rw [rz,lc]
 unfold NQ;rw [head_filter,v7];have ln:(ps.zip (ji (cpsOf ps ds) js)).length=(cpsOf ps ds).length:=by rw [length_zip,lf,lc]; omega
 rw [ln];unfold zQ;refine FP fun k lt=>?_
 rw [lc] at lt;have hd:ds[k]?=some (ds[k]'(by omega)):=aC _;have hp:ps[k]?=some (ps[k]'(by omega)):=aC _;have hc:=zZ hp hd;have hf:=Fd (gU:=js) hc;have hz:(ps.zip (ji (cpsOf ps ds) js))[k]?=some (ps[k]'(by omega),if k ∈ js then 0 else (JL (ps[k]'(by omega)) (ds[k]'(by omega))).s + 1):=by rw [List.getElem?_zip_eq_some]; exact ⟨hp,hf⟩
 have hm:(lB ps)[k]?=some (ps[k]'(by omega)).nm:=by rw [lB,aH,hp]; rfl
 rw [hz,hf,hc,hm];simp [JL]
theorem Dd {g:zV} {d:Int} {ds:List Int} {js:List Nat} (c0:0<=g.cans) (ld:ds.length=g.pots.length) (y0:∀ y ∈ ds,0<=y) (jb:∀ j ∈ js,j < g.pots.length):CW g d ds js=(!decide js.Nodup || !gG g.cans (fG g.closed d) (cpsOf g.pots ds) js):=by
 unfold CW gG;have e1:decide ((if fG g.closed d then 0 else g.cans) < (js.length:Int))=(!js.isEmpty && (fG g.closed d || decide (g.cans < (js.length:Int)))):=by
  cases js with
  | nil=>cases fG g.closed d <;> simp <;> omega
  | cons j js=>cases fG g.closed d <;> simp <;> omega
 have e2:sE g.pots ds js=js.all fun k=>((cpsOf g.pots ds)[k]?.map fun c=>decide (c.rest<=c.s)).getD true:=by
  unfold sE;rw [Bool.eq_iff_iff,all_eq_true,all_eq_true]; refine forall_congr' fun k=>forall_congr' fun hk=>?_
  have lk:=jb k hk;have hd:ds[k]?=some (ds[k]'(by omega)):=aC _;have hp:g.pots[k]?=some (g.pots[k]'lk):=aC _;have hz:(g.pots.zip ds)[k]?=some (g.pots[k]'lk,ds[k]'(by omega)):=by rw [List.getElem?_zip_eq_some]; exact ⟨hp,hd⟩
  rw [hz,zZ hp hd,Option.map_some,Option.map_some,Option.getD_some,Option.getD_some,Nx (y0 _ (List.getElem_mem _))];rfl
 rw [e1,e2];cases (!js.isEmpty && (fG g.closed d || decide (g.cans < (js.length:Int)))) <;> cases decide js.Nodup <;> simp
theorem TQ {ps:List bM} {ds:List Int} {js:List Nat} (y0:∀ y ∈ ds,0<=y):∀ y ∈ ji (cpsOf ps ds) js,0<=y:=by
 intro y hy;unfold ji at hy;obtain ⟨k,_,rfl⟩:=bN.mp hy
 split
 ·exact Int.le_refl _
 ·cases e:(cpsOf ps ds)[k]? with
  | none=>exact Int.le_refl _
  | some c =>
   have:c ∈ cpsOf ps ds:=aR e;unfold cpsOf at this;obtain ⟨q,hq,rfl⟩:=bN.mp this;have h0:=y0 q.2 (of_mem_zip hq).2
   show 0<=q.2 + 1
   omega
theorem JQ {n:Nat} (h:n < 2 ^ 62):n.log2 < 100:=by
 have:n.log2 < 62:=by
  by_cases z:n=0
  ·subst z; decide
  ·exact (Nat.log2_lt z).mpr h
 omega
section
variable {P:cA} {w:World} {K:Fg} {mg:Str->Option aA} {base:Heap} {a:fW} {dV:aA}
end
abbrev JR:cY:=inClass (top 28) 4
section
variable {P:cA} {w:World} {K:Fg} {mg:Str->Option aA} {base:Heap} {a:fW} {dV:aA}
def VD (a:fW):Sp:=fun vs H Q _=>∃ x g,vs=[.ref x]/\jy a H x g/\g.pots.length<=8/\∀ H' t,Same H H'->je H' (.ref t) 0 (List.replicate g.pots.length 0)->Q (.ref t) H'
theorem aj3:bQ ["self"] ["self"] (aW JR):=dN (by decide +kernel)
theorem JT {α:Type} (y:α) (n:Nat):(List.range n).map (fun _=>y)=List.replicate n y:=by
 induction n with
 | zero=>rfl
 | succ n ih=>rw [cH,bf,ih,List.replicate_succ']; rfl
theorem adi (Z:CJ K mg a dV) {f:aB} {fd:dW} (F:mO K "fresh" "Garden.fresh" JR f fd):cG P w K mg base (fu P w) 1 f fd ["self"] (VD a):=by
 refine F.lO aj3 (fun vs H Q E h=>?_) (fun cdv A outer s H vs Q E hr h=>?_)
 ·obtain ⟨x,g,rfl,_⟩:=h;rfl
 ·obtain ⟨x,g,rfl,⟨dx,l,as,hx,hl,pt⟩,h8,q⟩:=h;have T:=Z.G.T;refine ⟨_,aU (bY (dX (ao aM (ao (uH iU T.B.tuple boot_tuple (ao (fM bL rfl ⟨_,_,rfl,rfl,rfl⟩ (fZ.plain (N':=["pot"]) rfl (by decide +kernel) (by decide +kernel)) (eG (gB (pv 0) rfl)) (fun _ _ _ _ _=>cV 0 (show [("pot":Str)].Nodup by decide +kernel)) (fun _ _ _ _ _=>f9) (fun _ _ _ _ _ _=>aM)) aF)) aF)))),?_⟩;have la:as.length=g.pots.length:=Paired.length pt;have hL:cD K H l (as.map V.ref):=cD.of hl;refine ⟨_,rfl,x,a.garden,dx,_,_,rfl,hx,Z.tG.cl,Z.nG _ (by simp),nF ..,l,rfl,⟨_,hL⟩,fun D hD=>?_⟩;refine zP as.length (bh (by omega:as.length<=8) (by decide)) (fun _=>.int 0) (fun i H'=>H'=upd H D (.lst ((List.range i).map fun _=>V.int 0))) rfl (fun i H' _ e=>by rw [e,aD]) (fun H' e=>⟨?_,?_⟩) (fun i H' lt e=>⟨?_,?_⟩)
  ·subst e;exact ⟨_,(aV hD).seq hL,by rw [aq]; exact aN _⟩
  ·subst e;have sD:=aV (o:=.lst ((List.range as.length).map fun _=>V.int 0)) hD;refine ⟨D,_,rfl,.inl ⟨cD.of aD,fun t ht=>⟨by show 2<=sizeLine; decide,fun u hu=>?_⟩⟩⟩;have nut:t≠u:=dj aD hu;refine q _ u ((sD.trans (aV ht)).trans (aV hu)) ⟨u,t,rfl,aD,?_⟩;rw [bx nut,aD,JT,la,List.map_replicate]
  ·subst e;have sD:=aV (o:=.lst ((List.range i).map fun _=>V.int 0)) hD;exact ⟨_,_,sD.seq hL,by rw [aH,aC lt]; rfl⟩
  ·rintro y yq ⟨rfl,_⟩ Qc k;subst e;exact ⟨fX,k _ aD (by rw [jh])⟩
theorem N5 {wk:Int} {ps:List bM} (h:1<=wk) (uN:∀ p ∈ ps,p.Ok):JF wk ps 0 (List.replicate ps.length 0):=by
 refine ⟨Int.le_refl _,by omega,by rw [List.length_replicate],fun i y p hy hp=>?_⟩;rw [List.getElem?_replicate] at hy
 split at hy
 ·cases hy;have:=(uN p (aR hp)).gap;omega
 ·cases hy
end
abbrev jj:cY:=top 37
abbrev Df:cY:=top 38
abbrev aj4:List Str:=["garden","rows","state","first","here","day","names","places","since","dry"]
def jT:Rep (List (List Str)):=fun H v rs=>∃ l ls,v=.ref l/\H l=some (.lst (ls.map V.ref))/\Paired (fun b (r:List Str)=>H b=some (.lst (r.map V.str))) ls rs
theorem jT.same {H H':Hp} {v:V} {rs:List (List Str)} (h:jT H v rs) (s:Same H H'):jT H' v rs:=by
 obtain ⟨l,ls,e,hl,p⟩:=h;exact ⟨l,ls,e,s _ _ hl,Paired.ig p fun _ _ z=>s _ _ z⟩
theorem z8 {H:Hp}:∀ {vs:List V} {js:List Nat},Paired (JN H) vs js->vs=nats js
 | [],[],_=>rfl
 | _::_,_::_,.cons h t=>by rw [z8 t]; cases h; rfl
theorem Hv {H:Hp}:∀ gs:List Str,Paired (vH H) (gs.map V.str) gs
 | []=>.nil
 | _::gs=>.cons rfl (Hv gs)
structure Hw (K:Fg) (mg:Str->Option aA) (a:fW) (dV:aA):Prop where
 W:Fx K mg a dV
 N:asu K mg a
 X:Hu K mg a
 en:mg "enumerate"=none
 bad:∃ f fd,Fn K "refuse_bad_day" "refuse_bad_day" oH ["garden","state","places","day"] f fd/\mg "refuse_bad_day"=some (.ref f)
 sin:∃ f fd,Fn K "since_behind" "since_behind" oJ ["state","places"] f fd/\mg "since_behind"=some (.ref f)
 dry:∃ f fd,Fn K "dry_names" "dry_names" Dc ["garden","since"] f fd/\mg "dry_names"=some (.ref f)
 fol:∃ f fd dv t,Fv K "followed" "followed" jj dv f fd/\Binds K fd ["garden","rows","state","first"] []/\Binds K fd ["garden","rows","state","first"] [.int 0 t]/\mg "followed"=some (.ref f)
 fre:∃ f fd,Fn K "fresh" "Garden.fresh" JR ["self"] f fd/\Meth K a.garden "fresh" f
section
variable {P:cA} {w:World} {K:Fg} {mg:Str->Option aA} {base:Heap} {a:fW} {dV:aA}
noncomputable def sG (a:fW) (H:Hp) (Q:VK) (E:XK):Wk->Prop
 | .kept d ds=>∀ H' t u,Same H H'->H' t=some (.tup [.bl true,u])->je H' u d ds->Q (.ref t) H'
 | .dry n nm=>∀ H' t,Same H H'->H' t=some (.tup [.bl false,.int (n:Nat),.str nm])->Q (.ref t) H'
 | .bad n=>∀ H' dx,Same H H'->H' dx=some (.xd [("day",.int (n:Nat))])->E (.ref a.cj) (some dx) H'
 | .none _=>∀ H',Same H H'->E (.ref a.dU) none H'
theorem sG.from {H H1:Hp} {Q:VK} {E:XK} {k:Wk} (h:sG a H Q E k) (s:Same H H1):sG a H1 Q E k:=by
 cases k with
 | kept d ds=>exact fun H' t u s'=>h H' t u (s.trans s')
 | dry n nm=>exact fun H' t s'=>h H' t (s.trans s')
 | bad n=>exact fun H' dx s'=>h H' dx (s.trans s')
 | none n=>exact fun H' s'=>h H' (s.trans s')
structure TV (g:zV):Prop where
 w1:1<=g.week
 c0:0<=g.cans
 n8:g.pots.length<=8
noncomputable def Hx (K:Fg) (a:fW):Sp:=fun vs H Q E=>∃ x g rv rows v b f,vs=[.ref x,rv,v,.int (f:Nat)]/\jy a H x g/\TV g/\jT H rv rows/\rows.length<=9000/\(∀ r ∈ rows,r.length<=1000)/\f < 2 ^ 61/\mH K H g.week g.pots v b /\ (b=false->∀ H',Same H H'->E (.ref a.cM) none H')/\(b=true->∀ d ds,je H v d ds->JF g.week g.pots d ds->sG a H Q E (jz g rows f d ds))
theorem uK:bQ aj4 ["garden","rows","state","first"] (aW jj):=dN (by decide +kernel)
theorem Hy {α:Type} {xs:List α} {i:Nat} {x:α} (h:xs[i]?=some x):xs.drop i=x::xs.drop (i + 1):=by
 obtain ⟨lt,e⟩:=aX.mp h;rw [List.drop_eq_getElem_cons lt,e]
theorem FQ {f:aB} {fd:dW} {dv:aA} (F:Fv K "followed" "followed" jj dv f fd) (X:Hw K mg a dV):cG P w K mg base (fu P w) 4 f fd ["garden","rows","state","first"] (Hx K a):=by
 refine F.lO uK (fun vs H Q E h=>?_) (fun cdv A outer s H vs Q E hr h=>?_)
 ·obtain ⟨x,g,rv,rows,v,b,n,rfl,_⟩:=h;rfl
 ·obtain ⟨x,g,rv,rows,v,b,n,rfl,gx,gf,rr,lr,lrr,ln,sa,bad,good⟩:=h;have S:=X.W.S;have Z:=S.Z;have B:=Z.G.T.B;obtain ⟨fp,dp,pF,mP⟩:=X.N.plc;obtain ⟨fb,db,bF,mB⟩:=X.bad;obtain ⟨fs,ds',sF,mS⟩:=X.sin;obtain ⟨fy,dy,yF,mY⟩:=X.dry;obtain ⟨fd',dd,dF,mD⟩:=X.W.asn;have Vr:cG P w K mg base (fu P w) 1 fp dp ["garden","name"] (Vv K a):=ac9 pF.F Z X.N.dU;have okb:cG P w K mg base (fu P w) 3 fb db ["garden","state","places","day"] (Vx K a):=ade bF.F X.W X.X;have uN:cG P w K mg base (fu P w) 1 fs ds' ["state","places"] Vz:=adg sF.F B X.en;have oky:cG P w K mg base (fu P w) 1 fy dy ["garden","since"] (VB a):=adh yF.F Z;have okd:cG P w K mg base (fu P w) 1 fd' dd ["garden","day"] (Nv a):=Tv dF.F X.W;have hr1:d7 1 _:=hr.mono (by decide);have hr3:d7 3 _:=hr.mono (by decide);have kP:=pF.F.kp;have bP:=pF.b;have JD:[("name":Str),"garden"].Nodup:=by decide +kernel
  refine ⟨_,aK (fY (dH (Nr S) hr3 S.asj S.ref.F.kp S.ref.b (dY bL) (ao (pv 0) (ao (pv 2) aF)))) (aK (bO (i:=4) uK.nd rfl (Or.inl rfl) (pv 2)) (aK (iC fJ rfl (Ms (by rfl) X.en (ao (pv 1) aF) (pv 3)) (oX rfl (cN (cV 5 uK.nd) (cN (cV 6 uK.nd) iB))) (aK (qL (i:=7) uK.nd rfl (Or.inl rfl) bL rfl ⟨_,_,rfl,rfl,rfl⟩ (gj (N':=["name","garden"]) (cl:=[("garden",s.heap.objs.size + 1)]) [none,some 0] aj4 (aW jj).names [(".0",.local),("name",.local),("place_of",.globalImplicit),("garden",.cell)] ["garden"] rfl (by decide +kernel) (by decide +kernel) rfl (fun p hp=>by rw [aP.mp hp]; rfl) rfl rfl rfl rfl (by decide +kernel) rfl (by decide +kernel)) (eG (pv 6)) (fun _ _ _ _ _=>cV 0 JD) (fun _ _ _ _ _=>f9) (fun _ _ _ _ _ acc=>dH Vr hr1 mP kP bP (dY acc) (ao (pv 1) (ao (pv 0) aF)))) (aK (fY (dH okb hr3 mB bF.F.kp bF.b (dY bL) (ao (pv 0) (ao (pv 4) (ao (pv 7) (ao (pv 5) aF)))))) (aK (bO (i:=8) uK.nd rfl (Or.inl rfl) (dH uN hr1 mS sF.F.kp sF.b bG (ao (pv 4) (ao (pv 7) aF)))) (aK (bO (i:=9) uK.nd rfl (Or.inl rfl) (dH oky hr1 mY yF.F.kp yF.b bG (ao (pv 0) (ao (pv 8) aF)))) (aK (dG (KQ (pv 9) (fun _=>rfl)) (aU (bY (dX (ao iZ (ao (pv 5) (ao (cZ gA (pv 9) aM (fun _ _=>rfl)) aF)))))) bU) (aU (bO (i:=4) uK.nd rfl (Or.inl rfl) (dX (ao (dH okd hr1 mD dF.F.kp dF.b bG (ao (pv 0) (ao (cZ dJ (pv 4) aM (fun _ _=>rfl)) aF))) (ao (pv 8) aF))))))))))) (aU (bY (dX (ao iZ (ao (pv 4) aF))))))),?_⟩;refine ⟨_,rfl,_,rfl,x,g,v,b,rfl,gx,gf.n8,sa,bad,fun hb H1 s1=>?_⟩;subst hb;obtain ⟨d0,ds0,st0,ok0⟩:=sa.good;have post:=(good rfl d0 ds0 st0 ok0).from s1;have gx1:=gx.same s1;have rr1:=rr.same s1;have st1:=st0.same s1;clear good bad;obtain ⟨rl,ls,rfl,hrl,Km⟩:=id rr1;have lls:ls.length=rows.length:=Paired.length Km;have n8:=gf.n8;have big:9000<=sizeLine:=by decide
  refine ⟨_,rfl,_,rfl,_,rfl,rl,_,n,rfl,rfl,(by omega),cD.of hrl,?_⟩;refine Ju (K:=K) (l:=rl) (xs:=ls.map V.ref) (tu:=false) (f:=n) (fun i σ H'=>∃ u d ds u5 u6 u7 u8 u9,σ=[some (.ref x),some (.ref rl),some v,some (.int (n:Nat)),some u,u5,u6,u7,u8,u9]/\je H' u d ds/\0<=d/\ds.length=g.pots.length/\(∀ y ∈ ds,0<=y)/\Same H1 H'/\jz g rows n d0 ds0=jz g (rows.drop i) (n + i) d ds) ⟨v,d0,ds0,none,none,none,none,none,rfl,st1,ok0.d0,ok0.len,?_,Same.refl _,rfl⟩ ?_ ?_ ?_
  ·intro y hy;obtain ⟨k,hk⟩:=List.mem_iff_getElem?.mp hy;have lt:=(aX.mp hk).1;have l2:=ok0.len;exact (ok0.at_ k y _ hk (aC (by omega))).1
  ·rintro i σ H' _ ⟨u,d,ds,u5,u6,u7,u8,u9,_,_,_,_,_,s',_⟩;exact cD.of (s' _ _ hrl)
  ·rintro i xv T σ H2 hi ⟨u,d,ds,u5,u6,u7,u8,u9,rfl,st,dp0,ld,y0,s2,ew⟩ hT;rw [aH] at hi;obtain ⟨rb,hrb,rfl⟩:=bB.mp hi;obtain ⟨r,hr',er⟩:=dz Km hrb;have z:=aV (o:=.tup [V.int (n + i:Nat),.ref rb]) hT;have s3:=s2.trans z;have st3:=st.same z;have lri:=lrr r (aR hr');have li:i < 9000:=by have:=(aX.mp hr').1; omega
   rw [Hy hr'] at ew;have post':=post;rw [ew] at post';refine ⟨T,_,rfl,dM.of aD,rfl,_,_,rfl,_,_,rfl,rfl,?_⟩;refine ⟨_,rfl,rb,rfl,⟨_,cD.of (s3 _ _ er)⟩,fun D hD=>?_⟩;obtain ⟨go,stop,yl⟩:=Mv (K:=K) (R:=vH) iV (H:=upd H2 T (.tup [V.int (n + i:Nat),.ref rb])) (l:=rb) (xs:=r) ⟨rb,_,rfl,s3 _ _ er,Hv r⟩;refine kZ (R:=vH) (S:=JN) z6 (xs:=r) (fun _=>true) (fun nm=>(lB g.pots).idxOf nm) (fun nm=>nm ∈ lB g.pots) (by omega) hD go stop yl ?_ ?_
   ·intro j nm v3 H3 hj rv s4 Qc Qn k kn;cases rv;refine ⟨gM,?_⟩
    show if true=true then _ else Qn H3
    rw [if_pos rfl];refine ⟨_,rfl,_,rfl,x,g,.str nm,some nm,rfl,gx1.same (s3.trans s4),n8,.inl ⟨nm,rfl,rfl⟩,fun no H4 s5=>?_,fun nm' j' p' e1 fst H4 s5=>?_⟩
    ·have nin:=no nm rfl;have e:jz g (r::rows.drop (i + 1)) (n + i) d ds=.none (n + i):=by
      unfold jz vZ;rw [if_neg];intro h;rw [all_eq_true] at h;exact nin (by simpa using h nm (aR hj))
     rw [e] at post';exact post' H4 ((s3.trans s4).trans s5)
    ·cases e1;exact k rfl fst.mem _ _ s5 (by show V.int _=V.int _; rw [yL fst])
   ·intro H3 s4 al r3;obtain ⟨D',vs,eD,hv,Qg⟩:=r3;cases eD;rw [List.filter_eq_self.mpr fun _ _=>rfl] at Qg;have ev:vs=nats (r.map fun nm=>(lB g.pots).idxOf nm):=z8 Qg;subst ev;have ea:(r.all fun nm=>decide (nm ∈ lB g.pots))=true:=by
     rw [all_eq_true];intro nm hnm;exact aL (al nm hnm rfl)
    generalize ejs:(r.map fun nm=>(lB g.pots).idxOf nm)=js at hv;have jb:∀ j ∈ js,j < g.pots.length:=by
     intro j hj;rw [<- ejs] at hj;obtain ⟨nm,hnm,rfl⟩:=bN.mp hj;have:=List.idxOf_lt_length_of_mem (al nm hnm rfl);simpa [lB] using this
    have ljs:js.length<=1000:=by rw [<- ejs,aq]; exact lri
    have s34:=s3.trans s4;have st4:=st3.same s4;have eb:=Dd (d:=d) gf.c0 ld y0 jb;have wlk:jz g (r::rows.drop (i + 1)) (n + i) d ds=if js.Nodup then (match d8 (lB g.pots) g.cans (fG g.closed d) (cpsOf g.pots ds) js with
      | .no=>.bad (n + i)
      | .dry nm=>.dry (n + i) nm
      | .st far=>jz g (rows.drop (i + 1)) (n + i + 1) ((d + 1) % g.week) far) else .bad (n + i):=by
     rw [<- ejs];unfold jz;rw [vZ,if_pos ea] <;> rfl
    rw [wlk] at post' ew;have lg:((n + i:Nat):Int).natAbs.log2 < 100:=by
     rw [Int.natAbs_natCast];exact JQ (by omega)
    refine ⟨_,rfl,_,rfl,_,rfl,_,rfl,x,g,u,d,ds,D,js,((n + i:Nat):Int),rfl,gx1.same s34,st4,hv,jb,ld,ljs,dp0,lg,fun hb H4 dx s5 hdx=>?_,fun hb H4 s5=>?_⟩
    ·have e:(if js.Nodup then (match d8 (lB g.pots) g.cans (fG g.closed d) (cpsOf g.pots ds) js with
      | .no=>Wk.bad (n + i)
      | .dry nm=>.dry (n + i) nm
      | .st far=>jz g (rows.drop (i + 1)) (n + i + 1) ((d + 1) % g.week) far) else .bad (n + i))=.bad (n + i):=by
      by_cases nd:js.Nodup
      ·rw [if_pos nd];rw [eb,aL nd] at hb;have:gG g.cans (fG g.closed d) (cpsOf g.pots ds) js=false:=by simpa using hb
       unfold d8;rw [this];rfl
      ·rw [if_neg nd]
     rw [e] at post';exact post' H4 dx (s34.trans s5) hdx
    ·rw [eb] at hb;have nd:js.Nodup:=by
      rcases Bool.or_eq_false_iff.mp hb with ⟨h1,_⟩;simpa using h1
     have al':gG g.cans (fG g.closed d) (cpsOf g.pots ds) js=true:=by
      rcases Bool.or_eq_false_iff.mp hb with ⟨_,h1⟩;simpa using h1
     rw [if_pos nd] at post' ew;have Ko:=s34.trans s5;have Kf:=st4.same s5;refine ⟨_,rfl,_,rfl,u,d,ds,D,js,rfl,Kf,s5 _ _ hv,by omega,fun H5 ts s6 hts=>?_⟩;rw [TJ js ld] at hts;have VF:=Ko.trans s6;have lf:(ji (cpsOf g.pots ds) js).length=g.pots.length:=by rw [rz,lW ld]
     refine ⟨_,rfl,_,rfl,x,g,ts,_,rfl,gx1.same VF,hts,lf,by omega,fun H6 ly s7 hly=>?_⟩;have s47:=VF.trans s7;have st7:=(Kf.same s6).same s7;have hh:=NZ js ld;refine ⟨_,rfl,!((NQ g.pots (ji (cpsOf g.pots ds) js)).map V.str).isEmpty,.inl ⟨_,cD.of hly,rfl⟩,?_⟩;cases ed:NQ g.pots (ji (cpsOf g.pots ds) js) with
     | nil =>
      rw [ed] at hh;have dn:zQ (lB g.pots) (cpsOf g.pots ds) js=none:=hh.symm;have ebh:d8 (lB g.pots) g.cans (fG g.closed d) (cpsOf g.pots ds) js=.st (ji (cpsOf g.pots ds) js):=by
       unfold d8;rw [al',dn];rfl
      rw [ebh] at ew;obtain ⟨tu,su,rfl,htu,hsu⟩:=id st7;refine cU ?_;refine ⟨_,rfl,_,rfl,tu,_,0,.int d,rfl,rfl,dM.of htu,rfl,x,g,d,rfl,gx1.same s47,(by have:=gf.w1; omega),_,rfl,by show 2<=sizeLine; decide,fun t4 h4=>?_⟩;have z4:=aV (o:=.tup [V.int ((d + 1) % g.week),.ref ts]) h4;refine ⟨_,_,_,_,_,_,_,_,rfl,⟨t4,ts,rfl,aD,(s7.trans z4) _ _ hts⟩,Int.emod_nonneg _ (by have:=gf.w1; omega),lf,TQ y0,s47.trans z4,ew⟩
     | cons nm rest =>
      rw [ed] at hh hly;have dn:zQ (lB g.pots) (cpsOf g.pots ds) js=some nm:=hh.symm;have ebh:d8 (lB g.pots) g.cans (fG g.closed d) (cpsOf g.pots ds) js=.dry nm:=by
       unfold d8;rw [al',dn];rfl
      rw [ebh] at post';refine cQ ⟨_,rfl,_,rfl,ly,_,((0:Nat):Int),.str nm,rfl,rfl,cD.of hly,fj rfl,by show 3<=sizeLine; decide,fun t4 h4=>?_⟩;exact post' _ t4 (s47.trans (aV h4)) aD
  ·rintro σ H2 ⟨u,d,ds,u5,u6,u7,u8,u9,rfl,st,dp0,ld,y0,s2,ew⟩;rw [aq,lls,List.drop_length] at ew;rw [ew] at post;refine ⟨_,rfl,by show 2<=sizeLine; decide,fun t4 h4=>?_⟩;have z4:=aV (o:=.tup [V.bl true,u]) h4;exact post _ t4 u (s2.trans z4) aD (st.same z4)
noncomputable def N6 (K:Fg) (a:fW):Sp:=fun vs H Q E=>∃ x g rv rows,vs=[.ref x,rv]/\jy a H x g/\TV g/\(∀ p ∈ g.pots,p.Ok)/\jT H rv rows/\rows.length<=9000/\(∀ r ∈ rows,r.length<=1000) /\ sG a H Q E (jz g rows 0 0 (List.replicate g.pots.length 0))
theorem adk:bQ ["garden","rows"] ["garden","rows"] (aW Df):=dN (by decide +kernel)
theorem TX {f:aB} {fd:dW} (F:mO K "kept" "kept" Df f fd) (X:Hw K mg a dV):cG P w K mg base (fu P w) 5 f fd ["garden","rows"] (N6 K a):=by
 refine F.lO adk (fun vs H Q E h=>?_) (fun cdv A outer s H vs Q E hr h=>?_)
 ·obtain ⟨x,g,rv,rows,rfl,_⟩:=h;rfl
 ·obtain ⟨x,g,rv,rows,rfl,gx,gf,uN,rr,lr,lrr,post⟩:=h;have Z:=X.W.S.Z;obtain ⟨ff,df,dv,t0,fF,_,b0,mF⟩:=X.fol;obtain ⟨fe,de,eF,hF⟩:=X.fre;have okf:cG P w K mg base (fu P w) 4 ff df ["garden","rows","state","first"] (Hx K a):=FQ fF X;have oke:cG P w K mg base (fu P w) 1 fe de ["self"] (VD a):=adi Z eF.F;have hr1:d7 1 _:=hr.mono (by decide);have v0:Vals [V.int ((0:Nat):Int)] [Value.int 0 t0]:=.cons ⟨t0,rfl⟩ .nil;refine ⟨_,aU (bY (zm okf hr (by rfl) mF fF.kp b0 v0 (dY bL) (ao (pv 0) (ao (pv 1) (ao (Bf (pv 0) Z.tG.cl hF oke hr1 eF.b .nil bG) aF))))),?_⟩;obtain ⟨dx,l,as,hx,hl,pt⟩:=id gx;refine ⟨_,rfl,_,rfl,_,rfl,x,dx,_,rfl,hx,ajN _ _ _ _ (by decide +kernel) (by decide +kernel) (by decide +kernel) (by decide +kernel),x,g,rfl,gx,gf.n8,fun H1 t s1 st=>?_⟩;have ok1:=N5 (wk:=g.week) gf.w1 uN;refine ⟨x,g,rv,rows,_,true,0,rfl,gx.same s1,gf,rr.same s1,lr,lrr,by decide,st.arg ok1,(fun z=>nomatch z),fun _ d ds sv _=>?_⟩;obtain ⟨rfl,rfl⟩:=sv.one st;exact post.from s1
end
abbrev nH:cY:=top 51
section
variable {P:cA} {w:World} {K:Fg} {mg:Str->Option aA} {base:Heap} {a:fW} {dV:aA}
theorem v8 {H H':Hp} {e C:aB} {fs:List (Str × V)} (x:ExcAt H e C fs) (s:Same H H'):ExcAt H' e C fs:=by
 obtain ⟨dx,h1,h2⟩:=x;exact ⟨dx,s _ _ h1,s _ _ h2⟩
theorem pG {H H':Hp} {e C:aB} (x:uF H e C) (s:Same H H'):uF H' e C:=by
 rcases x with h | ⟨fs,h⟩
 ·exact .inl (s _ _ h)
 ·exact .inr ⟨fs,v8 h s⟩
def N7 (K:Fg) (a:fW):Sp:=fun vs H Q _=>∃ e C j,vs=[.ref e]/\uF H e C/\XC K a C j/\∀ H' l,Same H H'->H' l=some (.lst (hot j))->Q (.ref l) H'
theorem JV {f:aB} {fd:dW} (F:mO K "_law_sorts" "_law_sorts" rY f fd) (N:zX mg a):qM P w K mg base (fu P w) 1 f fd ["_law_error"] (N7 K a):=by
 refine F.okH uQ (fun vs H Q E h=>?_) (fun cdv A outer s H vs Q E hr h=>?_)
 ·obtain ⟨e,C,j,rfl,_⟩:=h;rfl
 ·obtain ⟨e,C,j,rfl,he,x,q⟩:=h;refine ⟨_,aK (bO (i:=1) uQ.nd rfl (Or.inl rfl) (fP (ao (dB (iH K) N.is boot_isinstance (ao (pv 0) (ao (iy (.ref a.dD) N.n0 rfl) aF))) (ao (dB (iH K) N.is boot_isinstance (ao (pv 0) (ao (iy (.ref a.tooMany) N.n1 rfl) aF))) (ao (dB (iH K) N.is boot_isinstance (ao (pv 0) (ao (iy (.ref a.dU) N.n2 rfl) aF))) aF))))) (aU (bY (bH zF (pv 1) (fP (ao (dB (iH K) N.is boot_isinstance (ao (pv 0) (ao (iy (.ref a.cj) N.n3 rfl) aF))) (ao (dB (iH K) N.is boot_isinstance (ao (pv 0) (ao (iy (.ref a.jX) N.n4 rfl) aF))) (ao (dB (iH K) N.is boot_isinstance (ao (pv 0) (ao (iy (.ref a.cM) N.n5 rfl) aF))) aF))))))),?_⟩;refine ⟨_,rfl,e,C,_,_,_,rfl,rfl,⟨_,.inl rfl⟩,he,x.t,x.b0,_,rfl,e,C,_,_,_,rfl,rfl,⟨_,.inl rfl⟩,he,x.t,x.b1,_,rfl,e,C,_,_,_,rfl,rfl,⟨_,.inl rfl⟩,he,x.t,x.b2,by show 3<=sizeLine; decide,fun l1 h1=>?_⟩;have s1:=aV (o:=.lst [V.bl (0 == j),.bl (1 == j),.bl (2 == j)]) h1;have Kg:=pG he s1;refine ⟨_,rfl,_,rfl,e,C,_,_,_,rfl,rfl,⟨_,.inl rfl⟩,Kg,x.t,x.b3,_,rfl,e,C,_,_,_,rfl,rfl,⟨_,.inl rfl⟩,Kg,x.t,x.b4,_,rfl,e,C,_,_,_,rfl,rfl,⟨_,.inl rfl⟩,Kg,x.t,x.b5,by show 3<=sizeLine; decide,fun l2 h2=>?_⟩;have s2:=aV (o:=.lst [V.bl (3 == j),.bl (4 == j),.bl (5 == j)]) h2;refine ⟨l1,l2,_,_,rfl,rfl,s2 _ _ aD,aD,by show 6<=sizeLine; decide,fun l3 h3=>?_⟩;exact q _ l3 ((s1.trans s2).trans (aV h3)) aD
structure adl (K:Fg) (mg:Str->Option aA) (a:fW):Prop where
 N:zX mg a
 x2:XC K a a.dU 2
 x3:XC K a a.cj 3
 x5:XC K a a.cM 5
 dh:hasDictIn K a.cj=true
 dn:findIn K (.ref a.cj) "day"=some none
 so:∃ f fd,Fn K "_law_sorts" "_law_sorts" rY ["_law_error"] f fd/\mg "_law_sorts"=some (.ref f)
 rf:∃ f fd,Fn K "_law_refusal" "_law_refusal" nH ["_law_error"] f fd/\mg "_law_refusal"=some (.ref f)
inductive Rfs (a:fW) (H:Hp) (e:aB):Str->Int->Prop
 | bad {n:Int}:ExcAt H e a.cj [("day",.int n)]->Rfs a H e "bad" n
 | none:H e=some (kE e (.ref a.dU) none)->Rfs a H e "none" (-1)
def yM (a:fW):Sp:=fun vs H Q _=>∃ e z n,vs=[.ref e]/\Rfs a H e z n/\∀ H' t,Same H H'->H' t=some (.tup [.str z,.int n])->Q (.ref t) H'
theorem JW:bQ ["_law_error"] ["_law_error"] (aW nH):=dN (by decide +kernel)
theorem Hz {j:Nat} (h:j < 6):(hot j).countP (fun z=>o8 z (.bl true))=1:=by
 have:j=0\/j=1\/j=2\/j=3\/j=4\/j=5:=by omega
 rcases this with rfl | rfl | rfl | rfl | rfl | rfl <;> decide
theorem FT {f:aB} {fd:dW} (F:mO K "_law_refusal" "_law_refusal" nH f fd) (Z:adl K mg a):qM P w K mg base (fu P w) 2 f fd ["_law_error"] (yM a):=by
 refine F.okH JW (fun vs H Q E h=>?_) (fun cdv A outer s H vs Q E hr h=>?_)
 ·obtain ⟨e,z,n,rfl,_⟩:=h;rfl
 ·obtain ⟨e,z,n,rfl,rf,q⟩:=h;have N:=Z.N;obtain ⟨fs,ds,sF,mS⟩:=Z.so;refine ⟨_,aK (dG (pw_or (bV Ay (mZ PySem.F.plainAttrs_list PySem.F.slot_list_count PySem.F.type_list_count Ls (vo (JV sF.F N) hr (by rfl) mS sF.F.kp sF.b .nil bG (ao (pv 0) aF)) (ao iZ aF)) aM (cB _)) (pw_or1 (fK (eO (dB (iH K) N.is boot_isinstance (ao (pv 0) (ao (zO (T:="ValueError") (by rfl) N.ve (by decide +kernel)) aF))))))).pt (aU (bY oW)) bU) (aK (dG (eO (dB (iH K) N.is boot_isinstance (ao (pv 0) (ao (iy (.ref a.cj) N.n3 rfl) aF)))) (aU (bY (dX (ao dR (ao (R9 K (pv 0)) aF))))) bU) (aU (bY (j9 (eO (dB (iH K) N.is boot_isinstance (ao (pv 0) (ao (iy (.ref a.dU) N.n2 rfl) aF)))) (dX (ao dR (ao (Ax uX aM) aF))) oW)))),?_⟩;cases rf with
  | bad he =>
   have hx:uF H e a.cj:=.inr ⟨_,he⟩;refine ⟨_,rfl,e,_,3,rfl,hx,Z.x3,fun H1 l s1 hl=>?_⟩;have hx1:=pG hx s1;have Kg:=v8 he s1;refine ⟨.inl ⟨rfl,_,cD.of hl⟩,l,_,_,rfl,rfl,hl,rfl,(show (hot 3).all fL=true from rfl),rfl,_,rfl,?_⟩;rw [Hz (by decide)];refine cU ⟨_,rfl,e,_,.ty "ValueError",_,_,rfl,rfl,⟨e,.inr ⟨_,rfl⟩⟩,hx1,Z.x3.t,Z.x3.v,_,rfl,?_⟩;refine cU ⟨_,rfl,e,_,_,_,_,rfl,rfl,⟨_,.inl rfl⟩,hx1,Z.x3.t,Z.x3.b3,_,rfl,cQ ?_⟩;refine ⟨_,rfl,e,_,_,_,rfl,Kg,Z.x3.t,Z.dh,Z.dn,rfl,by show 2<=sizeLine; decide,fun t ht=>q _ t (s1.trans (aV ht)) aD⟩
  | none he =>
   have hx:uF H e a.dU:=.inl he;refine ⟨_,rfl,e,_,2,rfl,hx,Z.x2,fun H1 l s1 hl=>?_⟩;have hx1:=pG hx s1;refine ⟨.inl ⟨rfl,_,cD.of hl⟩,l,_,_,rfl,rfl,hl,rfl,(show (hot 2).all fL=true from rfl),rfl,_,rfl,?_⟩;rw [Hz (by decide)];refine cU ⟨_,rfl,e,_,.ty "ValueError",_,_,rfl,rfl,⟨e,.inr ⟨_,rfl⟩⟩,hx1,Z.x2.t,Z.x2.v,_,rfl,?_⟩;refine cU ⟨_,rfl,e,_,_,_,_,rfl,rfl,⟨_,.inl rfl⟩,hx1,Z.x2.t,Z.x2.b3,_,rfl,cU ?_⟩;refine ⟨_,rfl,e,_,_,_,_,rfl,rfl,⟨_,.inl rfl⟩,hx1,Z.x2.t,Z.x2.b2,_,rfl,cQ ?_⟩;exact ⟨_,rfl,by show 2<=sizeLine; decide,fun t ht=>q _ t (s1.trans (aV ht)) aD⟩
end
abbrev Dg:cY:=top 40
abbrev Dh:cY:=top 41
section
variable {P:cA} {w:World} {K:Fg} {mg:Str->Option aA} {base:Heap} {a:fW} {dV:aA}
def z9 (K:Fg):Sp:=fun vs H Q _=>∃ (s:aB) (ns:List Int) (k:Nat),vs=[.ref s,.int k]/\cD K H s (ns.map V.int)/\Q (.int (ns.getD k 0)) H
theorem adn:bQ ["_law_script","_law_k"] ["_law_script","_law_k"] (aW Dg):=dN (by decide +kernel)
theorem Aa {f:aB} {fd:dW} (F:mO K "_law_cell_at" "_law_cell_at" Dg f fd) (B:Kh mg):cG P w K mg base (fu P w) 1 f fd ["_law_script","_law_k"] (z9 K):=by
 refine F.lO adn (fun vs H Q E h=>?_) (fun cdv A outer s H vs Q E hr h=>?_)
 ·obtain ⟨x,ns,k,rfl,_⟩:=h;rfl
 ·obtain ⟨x,ns,k,rfl,hs,q⟩:=h;refine ⟨_,aK (dG (bV Az (pv 1) (dB bJ B.len PySem.boot_len (ao (pv 0) aF)) (cB _)) (aU (bY (cZ gA (pv 0) (pv 1) (fun _ _=>rfl)))) bU) (aU (bY aM)),?_⟩;refine ⟨_,rfl,_,rfl,x,_,rfl,.inl hs,_,_,rfl,rfl,_,rfl,?_⟩
  by_cases lt:k < ns.length
  ·rw [aL (by rw [aq]; omega)];have e:(ns.map V.int)[k]?=some (.int (ns.getD k 0)):=by simp [lt]
   exact cQ ⟨_,rfl,_,rfl,x,_,_,_,rfl,rfl,hs,fj e,q⟩
  ·rw [aG (by rw [aq]; omega)];have e:ns.getD k 0=0:=by simp [List.getD,List.getElem?_eq_none (by omega:ns.length<=k)]
   rw [e] at q;exact cU q
def Ab:List Int:=[1000003,1000033,1000037,1000039,1000081,1000099,1000117,1000121]
def uR (k:Int):Int:=Ab.getD (k % 8).toNat 1
def mJ (c k m:Int):Int:=(c * 48271 + k * 69621 + c / 1000003 % 1000003 * 40692) % uR k % m
theorem Ac (c k:Int) {m:Int} (h:0 < m):0<=mJ c k m:=Int.emod_nonneg _ (by omega)
theorem Ad (c k:Int) {m:Int} (h:0 < m):mJ c k m < m:=Int.emod_lt_of_pos _ h
theorem N8 (k:Int):K1 (Ab.map V.int) (k % 8)=some (.int (uR k))/\0 < uR k:=by
 have h0:0<=k % 8:=Int.emod_nonneg _ (by decide);have h1:k % 8 < 8:=Int.emod_lt_of_pos _ (by decide);unfold uR;have h:k % 8=0\/k % 8=1\/k % 8=2\/k % 8=3\/k % 8=4\/k % 8=5\/k % 8=6\/k % 8=7:=by omega
 rcases h with e | e | e | e | e | e | e | e <;> rw [e] <;> exact ⟨rfl,by decide⟩
def FW:Sp:=fun vs H Q _=>∃ c k m:Int,vs=[.int c,.int k,.int m]/\0 < m/\∀ H',Same H H'->Q (.int (mJ c k m)) H'
theorem FZ:bQ ["_law_cell","_law_k","_law_many","_law_primes","_law_blend"] ["_law_cell","_law_k","_law_many"] (aW Dh):=dN (by decide +kernel)
theorem HB {f:aB} {fd:dW} (F:mO K "_law_draw" "_law_draw" Dh f fd):cG P w K mg base (fu P w) 1 f fd ["_law_cell","_law_k","_law_many"] FW:=by
 refine F.lO FZ (fun vs H Q E h=>?_) (fun cdv A outer s H vs Q E hr h=>?_)
 ·obtain ⟨c,k,m,rfl,_⟩:=h;rfl
 ·obtain ⟨c,k,m,rfl,m0,q⟩:=h;refine ⟨_,aK (bO (i:=3) FZ.nd rfl (Or.inl rfl) (dX (oF [.int 1000003,.int 1000033,.int 1000037,.int 1000039,.int 1000081,.int 1000099,.int 1000117,.int 1000121] rfl))) (aK (bO (i:=4) FZ.nd rfl (Or.inl rfl) (bH fD (bH fD (bH rJ (pv 0) aM) (bH rJ (pv 1) aM)) (bH rJ (bH eY (bH gZ (pv 0) aM) aM) aM))) (aU (bY (bH eY (bH eY (pv 4) (cZ dJ (pv 3) (bH eY (pv 1) aM) (fun _ _=>rfl))) (pv 2))))),?_⟩;refine ⟨by show 8<=sizeLine; decide,fun t ht=>?_⟩;have st:=aV (o:=.tup (Ab.map V.int)) ht;refine ⟨_,rfl,_,_,rfl,rfl,.inr ⟨by decide,by decide⟩,_,rfl,_,_,rfl,rfl,.inr ⟨by decide,by decide⟩,_,_,rfl,rfl,_,rfl,_,_,rfl,rfl,⟨by decide,by decide⟩,_,_,rfl,rfl,(by show (0:Int) < 1000003; decide),_,_,rfl,rfl,.inr ⟨by decide,by decide⟩,_,_,rfl,rfl,?_⟩;obtain ⟨pa,p0⟩:=N8 k;refine ⟨_,rfl,_,rfl,_,rfl,_,_,rfl,rfl,(by show (0:Int) < 8; decide),t,_,_,_,rfl,rfl,dM.of aD,pa,_,_,rfl,rfl,p0,_,rfl,_,_,rfl,rfl,m0,?_⟩;exact q _ st
end
abbrev nJ:cY:=top 42
structure gR where
 pots:List (Str × Int × Int)
 cans:Int
 week:Int
 closed:Int
abbrev JX:Rep (Str × Int × Int):=Vm vH lQ lQ
theorem gO:uE JX:=LR iV gJ gJ
def jU:Rep gR:=fun H v sp=>∃ t l,v=.ref t/\H t=some (.tup [.ref l,.int sp.cans,.int sp.week,.int sp.closed])/\iI JX H (.ref l) sp.pots
theorem jU.same {H H':Hp} {v:V} {sp:gR} (h:jU H v sp) (s:Same H H'):jU H' v sp:=by
 obtain ⟨t,l,e,ht,r⟩:=h;exact ⟨t,l,e,s _ _ ht,r.same gO s⟩
def VG (s:Str):Bool:=s.cps.toList.getLast? == some 113
structure Di (q:Str × Int × Int):Prop where
 nm:nameV (.str q.1)=true
 g1:1<=q.2.1
 g2:q.2.1<=9
 r1:-1<=q.2.2
 r2:q.2.2 < q.2.1
 nq:VG q.1=false
def nM (q:Str × Int × Int):bM:=⟨q.1,q.2.1,if q.2.2 < 0 then none else some q.2.2⟩
def cC (qs:List (Str × Int × Int)):List bM:=qs.map nM
structure eU (sp:gR):Prop where
 n1:1<=sp.pots.length
 n8:sp.pots.length<=8
 nd:(sp.pots.map fun q=>q.1).Nodup
 row:∀ q ∈ sp.pots,Di q
 c1:0<=sp.cans
 c2:sp.cans<=8
 w1:1<=sp.week
 w2:sp.week<=14
 l1:0<=sp.closed
 l2:sp.closed < 2 ^ sp.week.toNat
 sz:sizeOf sp.week (cC sp.pots)<=4000
structure JZ (K:Fg) (mg:Str->Option aA):Prop where
 B:Kh mg
 ce:∃ f fd,Fn K "_law_cell_at" "_law_cell_at" Dg ["_law_script","_law_k"] f fd/\mg "_law_cell_at"=some (.ref f)
 dr:∃ f fd,Fn K "_law_draw" "_law_draw" Dh ["_law_cell","_law_k","_law_many"] f fd/\mg "_law_draw"=some (.ref f)
theorem size_le {m:Int} (hm:0<=m):∀ (ps:List bM) (wk:Int),0<=wk->(∀ p ∈ ps,0<=p.gap/\p.gap<=m)->0<=sizeOf wk ps/\sizeOf wk ps<=wk * m ^ ps.length
 | [],wk,h0,_=>by
  show 0<=wk/\wk<=wk * m ^ 0
  rw [Int.pow_zero,Int.mul_one];exact ⟨h0,Int.le_refl _⟩
 | p::ps,wk,h0,h=>by
  obtain ⟨g0,g1⟩:=h p (by simp);have h1:0<=wk * p.gap:=Int.mul_nonneg h0 g0;obtain ⟨i1,i2⟩:=size_le hm ps (wk * p.gap) h1 fun q hq=>h q (by simp [hq])
  refine ⟨i1,Int.le_trans i2 ?_⟩;rw [length_cons,Int.pow_succ,Int.mul_comm (m ^ ps.length) m,<- Int.mul_assoc];have p0:0<=m ^ ps.length:=Int.pow_nonneg hm;exact Int.mul_le_mul_of_nonneg_right (Int.mul_le_mul_of_nonneg_left g1 h0) p0
theorem Oa {m:Int} (hm:1<=m):∀ {i n:Nat},i<=n->m ^ i<=m ^ n
 | i,0,h=>by
  have:i=0:=by omega
  rw [this];exact Int.le_refl _
 | i,n + 1,h=>by
  by_cases e:i=n + 1
  ·rw [e];exact Int.le_refl _
  ·have ih:=Oa hm (i:=i) (n:=n) (by omega);have p0:0<=m ^ n:=Int.pow_nonneg (by omega);rw [Int.pow_succ];have:=Int.mul_le_mul_of_nonneg_left hm p0;omega
theorem HD {qs:List (Str × Int × Int)} {wk:Int} {m:Int} {n:Nat} (hm:1<=m) (w1:1<=wk) (w2:wk<=14) (hl:qs.length<=n) (h:∀ q ∈ qs,Di q/\q.2.1<=m) (hb:14 * m ^ n<=4000):sizeOf wk (cC qs)<=4000:=by
 have h1:=(size_le (m:=m) (by omega) (cC qs) wk (by omega) fun p hp=>by
  obtain ⟨q,hq,rfl⟩:=bN.mp hp;have:=(h q hq).1.g1;exact ⟨by show 0<=q.2.1; omega,(h q hq).2⟩).2
 rw [cC,aq] at h1;have p1:m ^ qs.length<=m ^ n:=Oa (by omega) hl;have p2:0<=m ^ qs.length:=Int.pow_nonneg (by omega);have h2:wk * m ^ qs.length<=14 * m ^ n:=Int.le_trans (Int.mul_le_mul_of_nonneg_right w2 p2) (Int.mul_le_mul_of_nonneg_left p1 (by decide))
 show sizeOf wk (qs.map nM)<=4000
 omega
def Kp (j:Int):Str:=([("ivy":Str),"iv","fern","fernz","a"]).getD j.toNat "a"
theorem aj6 (z:Int):z % 5=0\/z % 5=1\/z % 5=2\/z % 5=3\/z % 5=4:=by omega
theorem ado (z:Int):K1 [V.str "ivy",.str "iv",.str "fern",.str "fernz",.str "a"] (z % 5)=some (.str (Kp (z % 5)))/\nameV (.str (Kp (z % 5)))=true/\VG (Kp (z % 5))=false:=by
 rcases aj6 z with e | e | e | e | e <;> rw [e] <;> exact ⟨rfl,by decide +kernel,by decide +kernel⟩
theorem adp (z:Int) {n:Nat} (h:n<=3):((List.range n).map fun k:Nat=>Kp ((z + k) % 5)).Nodup:=by
 have e:(fun k:Nat=>Kp ((z + k) % 5))=fun k:Nat=>Kp ((z % 5 + k) % 5):=by
  funext k
  congr 1
  omega
 rw [e];have hn:n=0\/n=1\/n=2\/n=3:=by omega
 rcases aj6 z with e | e | e | e | e <;> rw [e] <;> rcases hn with rfl | rfl | rfl | rfl <;> decide +kernel
theorem TY (z:Int):∃ c,K1 [V.int 1,.int 2,.int 1,.int 0,.int 3,.int 1] (z % 6)=some (.int c)/\0<=c/\c<=8:=by
 have h:z % 6=0\/z % 6=1\/z % 6=2\/z % 6=3\/z % 6=4\/z % 6=5:=by omega
 rcases h with e | e | e | e | e | e <;> rw [e] <;> exact ⟨_,rfl,by decide,by decide⟩
section
variable {P:cA} {w:World} {K:Fg} {mg:Str->Option aA} {base:Heap} {a:fW} {dV:aA}
abbrev Ob:List Str:=["_law_script","_law_first","_law_cell","_law_other","_law_third","_law_count","_law_most","_law_names","_law_pots","_law_k","_law_gap","_law_rest","_law_week","_law_closed"]
def Oc (K:Fg):Sp:=fun vs H Q _=>∃ (s:aB) (ns:List Int) (k:Nat),vs=[.ref s,.int k]/\cD K H s (ns.map V.int)/\∀ H' v sp,Same H H'->jU H' v sp->eU sp->Q v H'
theorem fV:bQ Ob ["_law_script","_law_first"] (aW nJ):=dN (by decide +kernel)
theorem aj7 (T:JZ K mg) {f:aB} {cdv:aA} {A:c7} {outer:List Env} {s:aQ} {H₀:Hp} {E:XK} (hr:d7 1 (A.deeper (PyProof.Rows.envOfC "_law_spec" (aW nJ) s.heap.objs.size f cdv))) : ∃ t,xP (oO (fu P w) P w K mg base Ob "_law_spec" (aW nJ) f cdv A outer s H₀ E) ((gq nJ).drop 13) t/\∀ (D:Ends) (H:Hp) (l:aB) (qs:List (Str × Int × Int)) (third wk:Int) (s0 s1 s2 s3 s5 s6 s7 s9 GZ Le s13:Option V),iI JX H (.ref l) qs->1<=wk->wk<=14->(∀ H' t c cl,Same H H'->jU H' (.ref t) ⟨qs,c,wk,cl⟩->0<=c->c<=8->0<=cl->cl < 2 ^ wk.toNat->D.rt (.ref t) H') -> t D [s0,s1,s2,s3,some (.int third),s5,s6,s7,some (.ref l),s9,GZ,Le,some (.int wk),s13] H:=by
 refine ⟨_,aK (bO (i:=13) fV.nd rfl (Or.inl rfl) aM) (aK (dG (bV gQ (bH eY (bH gZ (pv 4) aM) aM) aM (cB _)) (aU (bO (i:=13) fV.nd rfl (Or.inl rfl) (bH eY (bH gZ (pv 4) aM) (bH Ek aM (pv 12))))) bU) (aU (bY (dX (ao (pv 8) (ao (cZ dJ (dX (oF [.int 1,.int 2,.int 1,.int 0,.int 3,.int 1] rfl)) (bH eY (bH gZ (pv 4) aM) aM) (fun _ _=>rfl)) (ao (pv 12) (ao (pv 13) aF)))))))),?_⟩;intro D H l qs third wk s0 s1 s2 s3 s5 s6 s7 s9 GZ Le s13 rl w1 w2 q;have p0:(0:Int) < 2 ^ wk.toNat:=Int.pow_pos (by decide);refine ⟨_,rfl,_,_,rfl,rfl,⟨by decide,by decide⟩,_,_,rfl,rfl,(by show (0:Int) < 3; decide),rfl,_,rfl,?_⟩;obtain ⟨c,ca,c1,c2⟩:=TY (third / 5);have fin:∀ cl:Int,0<=cl->cl < 2 ^ wk.toNat->∀ t1:aB,H t1=none->∀ t2:aB,(upd H t1 (.tup [V.int 1,.int 2,.int 1,.int 0,.int 3,.int 1])) t2=none->D.rt (.ref t2) (upd (upd H t1 (.tup [V.int 1,.int 2,.int 1,.int 0,.int 3,.int 1])) t2 (.tup [.ref l,.int c,.int wk,.int cl])):=by
  intro cl h0 h1 t1 h2 t2 h3;have v1:=aV (o:=.tup [V.int 1,.int 2,.int 1,.int 0,.int 3,.int 1]) h2;have v2:=aV (o:=.tup [V.ref l,.int c,.int wk,.int cl]) h3;exact q _ t2 c cl (v1.trans v2) ⟨t2,l,rfl,aD,rl.same gO (v1.trans v2)⟩ c1 c2 h0 h1
 refine Bp (fun _=>?_) (fun _=>?_)
 ·refine ⟨_,rfl,_,_,rfl,rfl,⟨by decide,by decide⟩,_,rfl,_,_,rfl,rfl,⟨by omega,by omega,by decide⟩,_,_,rfl,rfl,(by show (0:Int) < 1 * 2 ^ wk.toNat; omega),?_⟩;refine ⟨_,rfl,by show 6<=sizeLine; decide,fun t1 h1=>⟨_,rfl,_,_,rfl,rfl,⟨by decide,by decide⟩,_,_,rfl,rfl,(by show (0:Int) < 6; decide),t1,_,_,_,rfl,rfl,dM.of aD,ca,_,rfl,_,rfl,by show 4<=sizeLine; decide,fun t2 h2=>?_⟩⟩;exact fin _ (Int.emod_nonneg _ (by omega)) (by have:=Int.emod_lt_of_pos (third / 216) (show (0:Int) < 1 * 2 ^ wk.toNat by omega); omega) t1 h1 t2 h2
 ·refine ⟨_,rfl,by show 6<=sizeLine; decide,fun t1 h1=>⟨_,rfl,_,_,rfl,rfl,⟨by decide,by decide⟩,_,_,rfl,rfl,(by show (0:Int) < 6; decide),t1,_,_,_,rfl,rfl,dM.of aD,ca,_,rfl,_,rfl,by show 4<=sizeLine; decide,fun t2 h2=>?_⟩⟩;exact fin 0 (by decide) p0 t1 h1 t2 h2
end
section
variable {P:cA} {w:World} {K:Fg} {mg:Str->Option aA} {base:Heap} {a:fW} {dV:aA}
abbrev Od:List V:=[V.str "ivy",.str "iv",.str "fern",.str "fernz",.str "a"]
theorem aj8 (T:JZ K mg) {f:aB} {cdv:aA} {A:c7} {outer:List Env} {s:aQ} {H₀:Hp} {E:XK} (hr:d7 1 (A.deeper (PyProof.Rows.envOfC "_law_spec" (aW nJ) s.heap.objs.size f cdv))) : ∃ t,xP (oO (fu P w) P w K mg base Ob "_law_spec" (aW nJ) f cdv A outer s H₀ E) ((gq nJ).drop 7) t/\∀ (D:Ends) (H:Hp) (cell other third cnt most:Int) (s0 s1 s7 s8 s9 GZ Le s12 s13:Option V),1<=cnt->1<=most->((cnt<=3/\most<=3)\/(cnt<=1/\most<=9))->(∀ H' v sp,Same H H'->jU H' v sp->eU sp->D.rt v H') -> t D [s0,s1,some (.int cell),some (.int other),some (.int third),some (.int cnt),some (.int most),s7,s8,s9,GZ,Le,s12,s13] H:=by
 have B:=T.B;obtain ⟨fd',dd,dF,mD⟩:=T.dr;have okd:cG P w K mg base (fu P w) 1 fd' dd ["_law_cell","_law_k","_law_many"] FW:=HB dF.F;have kD:=dF.F.kp;have bD:=dF.b;obtain ⟨tc,hC,T3⟩:=aj7 (P:=P) (w:=w) (base:=base) (f:=f) (cdv:=cdv) (A:=A) (outer:=outer) (s:=s) (H₀:=H₀) (E:=E) T hr;refine ⟨_,aK (bO (i:=7) fV.nd rfl (Or.inl rfl) (dX (oF Od rfl))) (aK (bO (i:=8) fV.nd rfl (Or.inl rfl) (fP aF)) (aK (iC fJ rfl (gh rfl B.range (ao (pv 5) aF)) (cV 9 fV.nd) (aK (bO (i:=10) fV.nd rfl (Or.inl rfl) (bH fD aM (dH okd hr mD kD bD bG (ao (pv 3) (ao (pv 9) (ao (pv 6) aF)))))) (aK (bO (i:=11) fV.nd rfl (Or.inl rfl) (Ax uX aM)) (aK (dG (bV gQ (dH okd hr mD kD bD bG (ao (pv 3) (ao (bH fD (pv 9) aM) (oF [.int 4] rfl)))) aM (cB _)) (aU (bO (i:=11) fV.nd rfl (Or.inl rfl) (dH okd hr mD kD bD bG (ao (pv 3) (ao (bH fD (pv 9) aM) (ao (pv 10) aF)))))) bU) (aU (fY (mZ PySem.F.plainAttrs_list PySem.F.slot_list_append PySem.F.type_list_append iQ (pv 8) (ao (dX (ao (cZ dJ (pv 7) (bH eY (bH fD (bH gZ (pv 2) aM) (pv 9)) aM) (fun _ _=>rfl)) (ao (pv 10) (ao (pv 11) aF)))) aF)))))))) (aK (bO (i:=12) fV.nd rfl (Or.inl rfl) (bH fD aM (uH IV B.int boot_int (ao (jN gQ (bH eY (pv 4) aM) aM (cB _)) aF)))) (aK (dG (bV gQ (bH eY (bH gZ (pv 4) aM) aM) aM (cB _)) (aU (bO (i:=12) fV.nd rfl (Or.inl rfl) (bH fD aM (bH eY (bH gZ (pv 4) aM) aM)))) bU) (aK (dG (bV gQ (bH eY (bH gZ (pv 2) aM) aM) aM (cB _)) (aU (bO (i:=12) fV.nd rfl (Or.inl rfl) (bH fD aM (bH eY (pv 4) aM)))) bU) hC))))),?_⟩;intro D H cell other third cnt most s0 s1 s7 s8 s9 GZ Le s12 s13 c1 m1 hcm q;refine ⟨by show 5<=sizeLine; decide,fun tn htn=>⟨by show 0<=sizeLine; decide,fun l hl=>?_⟩⟩;have v1:=aV (o:=.tup Od) htn;have v2:=aV (o:=.lst []) hl;refine ⟨_,rfl,_,rfl,by omega,by omega,?_⟩;refine jo (lo:=0) (n:=cnt.toNat) (fun i σ H'=>∃ qs u9 u10 Oe,σ=[s0,s1,some (.int cell),some (.int other),some (.int third),some (.int cnt),some (.int most),some (.ref tn),some (.ref l),u9,u10,Oe,s12,s13]/\(qs.map fun q=>q.1)=((List.range i).map fun k:Nat=>Kp ((cell / 54 + k) % 5))/\(∀ q ∈ qs,Di q/\q.2.1<=most)/\iI JX H' (.ref l) qs/\Same (upd H tn (.tup Od)) H') ⟨[],s9,GZ,Le,rfl,rfl,(fun q hq=>by cases hq),⟨l,[],rfl,aD,.nil⟩,v2⟩ ?_ ?_
 ·rintro i σ H1 lt ⟨qs,u9,u10,Oe,rfl,nms,rows,rl,s1'⟩;have e0:(0 + (i:Int))=((i:Nat):Int):=Int.zero_add _;rw [e0];have ln:qs.length=i:=by
   have:=congrArg List.length nms
   rwa [aq,aq,bA] at this
  refine ⟨_,rfl,_,rfl,_,rfl,_,_,_,rfl,by omega,fun H2 s2=>⟨_,_,rfl,rfl,?_⟩⟩;have d0:=Ac other (i:Int) (m:=most) (by omega);have d1:=Ad other (i:Int) (m:=most) (by omega);generalize mJ other (i:Int) most=dr at d0 d1 ⊢;obtain ⟨na,nn,nq⟩:=ado (cell / 54 + (i:Int));have big:1000<=sizeLine:=by decide
  have fin:∀ (r:Int) (H3:Hp),Same H2 H3->-1<=r->r < 1 + dr->∃ vs,H3 l=some (.lst vs)/\H3 tn=some (.tup Od)/\vs.length < sizeLine/\∀ t3:aB,H3 t3=none->∃ qs',(qs'.map fun q=>q.1)=((List.range (i + 1)).map fun k:Nat=>Kp ((cell / 54 + k) % 5))/\(∀ q ∈ qs',Di q/\q.2.1<=most)/\iI JX (upd (upd H3 t3 (.tup [V.str (Kp ((cell / 54 + (i:Int)) % 5)),.int (1 + dr),.int r])) l (.lst (vs++[V.ref t3]))) (.ref l) qs'/\Same (upd H tn (.tup Od)) (upd (upd H3 t3 (.tup [V.str (Kp ((cell / 54 + (i:Int)) % 5)),.int (1 + dr),.int r])) l (.lst (vs++[V.ref t3]))):=by
   intro r H3 s3 r1 r2;obtain ⟨_,vs,el,hv,Dj⟩:=rl.same gO (s2.trans s3);cases el;refine ⟨vs,hv,(s1'.trans (s2.trans s3)) _ _ aD,by rw [Paired.length Dj,ln]; omega,fun t3 h3=>?_⟩;have v3:=aV (o:=.tup [V.str (Kp ((cell / 54 + (i:Int)) % 5)),.int (1 + dr),.int r]) h3;have hv3:=v3 _ _ hv;refine ⟨qs++[(Kp ((cell / 54 + (i:Int)) % 5),1 + dr,r)],?_,fun q hq=>?_,⟨l,_,rfl,aD,?_⟩,gY ((s1'.trans (s2.trans s3)).trans v3) hl⟩
   ·rw [bf,nms,cH,bf]; rfl
   ·rcases mem_append.mp hq with h | h
    ·exact rows q h
    ·rw [aP.mp h];exact ⟨⟨nn,by show 1<=1 + dr; omega,by show 1 + dr<=9; omega,r1,r2,nq⟩,by show 1 + dr<=most; omega⟩
   ·refine iu (Paired.ig Dj fun _ _ z=>gO.upd (gO.same z v3) hv3) (.cons ?_ .nil);exact gO.upd ⟨t3,_,_,_,rfl,aD,rfl,rfl,rfl⟩ hv3
  refine ⟨_,rfl,_,rfl,_,rfl,_,_,rfl,rfl,_,_,_,rfl,by decide,fun H3 s3=>⟨rfl,_,rfl,?_⟩⟩;refine Bp (fun _=>?_) (fun _=>?_)
  ·refine ⟨_,rfl,_,rfl,_,_,rfl,rfl,_,rfl,_,_,_,rfl,by omega,fun H4 s4=>?_⟩;have e1:=Ac other ((i:Int) + 5) (m:=1 + dr) (by omega);have e2:=Ad other ((i:Int) + 5) (m:=1 + dr) (by omega);generalize mJ other ((i:Int) + 5) (1 + dr)=r at e1 e2 ⊢;obtain ⟨vs,hv,ht,lz,k⟩:=fin r H4 (s3.trans s4) (by omega) e2;refine ⟨_,rfl,.inl ⟨rfl,_,cD.of hv⟩,_,rfl,_,rfl,_,_,rfl,rfl,⟨by decide,by decide⟩,_,rfl,_,_,rfl,rfl,_,_,rfl,rfl,(by show (0:Int) < 5; decide),tn,_,_,_,rfl,rfl,dM.of ht,na,_,rfl,_,rfl,by show 3<=sizeLine; decide,fun t3 h3=>?_⟩;obtain ⟨qs',a1,a2,a3,a4⟩:=k t3 h3;exact ⟨l,vs,_,rfl,rfl,(aV h3) _ _ hv,lz,qs',_,_,_,rfl,a1,a2,a3,a4⟩
  ·obtain ⟨vs,hv,ht,lz,k⟩:=fin (-1) H3 s3 (by omega) (by omega);refine ⟨_,rfl,.inl ⟨rfl,_,cD.of hv⟩,_,rfl,_,rfl,_,_,rfl,rfl,⟨by decide,by decide⟩,_,rfl,_,_,rfl,rfl,_,_,rfl,rfl,(by show (0:Int) < 5; decide),tn,_,_,_,rfl,rfl,dM.of ht,na,_,rfl,_,rfl,by show 3<=sizeLine; decide,fun t3 h3=>?_⟩;obtain ⟨qs',a1,a2,a3,a4⟩:=k t3 h3;exact ⟨l,vs,_,rfl,rfl,(aV h3) _ _ hv,lz,qs',_,_,_,rfl,a1,a2,a3,a4⟩
 ·rintro σ H1 ⟨qs,u9,u10,Oe,rfl,nms,rows,rl,s1'⟩;have ln:qs.length=cnt.toNat:=by
   have:=congrArg List.length nms
   rwa [aq,aq,bA] at this
  have fin:∀ wk:Int,1<=wk->wk<=14->∀ H' t c cl,Same H1 H'->jU H' (.ref t) ⟨qs,c,wk,cl⟩->0<=c->c<=8->0<=cl->cl < 2 ^ wk.toNat->D.rt (.ref t) H':=by
   intro wk w1 w2 H' t c cl s' r c0 c8 l0 l1;refine q H' _ _ ((v1.trans s1').trans s') r ⟨by show 1<=qs.length; omega,by show qs.length<=8; omega,?_,fun z hz=>(rows z hz).1,c0,c8,w1,w2,l0,l1,?_⟩
   ·show (qs.map fun q=>q.1).Nodup
    rw [nms];exact adp _ (by omega)
   ·rcases hcm with ⟨x1,x2⟩ | ⟨x1,x2⟩
    ·exact HD (m:=3) (n:=3) (by decide) w1 w2 (by show qs.length<=3; omega) (fun z hz=>⟨(rows z hz).1,by have:=(rows z hz).2; omega⟩) (by decide)
    ·exact HD (m:=9) (n:=1) (by decide) w1 w2 (by show qs.length<=1; omega) (fun z hz=>⟨(rows z hz).1,by have:=(rows z hz).2; omega⟩) (by decide)
  refine ⟨_,rfl,_,_,rfl,rfl,(by show (0:Int) < 3; decide),rfl,.inr ⟨_,rfl,_,_,rfl,rfl,?_⟩⟩;have b0:∀ b:Bool,1<=1 + (if b then (1:Int) else 0)/\1 + (if b then (1:Int) else 0)<=14:=fun b=>by cases b <;> decide
  have b1:0<=third / 24 % 3:=Int.emod_nonneg _ (by decide);have b2:third / 24 % 3 < 3:=Int.emod_lt_of_pos _ (by decide);have b3:0<=third % 14:=Int.emod_nonneg _ (by decide);have b4:third % 14 < 14:=Int.emod_lt_of_pos _ (by decide);refine ⟨_,rfl,_,_,rfl,rfl,⟨by decide,by decide⟩,_,_,rfl,rfl,(by show (0:Int) < 8; decide),rfl,_,rfl,?_⟩;refine Bp (fun _=>⟨_,rfl,_,_,rfl,rfl,⟨by decide,by decide⟩,_,_,rfl,rfl,(by show (0:Int) < 3; decide),_,_,rfl,rfl,_,rfl,_,_,rfl,rfl,⟨by decide,by decide⟩,_,_,rfl,rfl,(by show (0:Int) < 6; decide),rfl,_,rfl,Bp (fun _=>⟨_,rfl,_,_,rfl,rfl,(by show (0:Int) < 14; decide),_,_,rfl,rfl,?_⟩) (fun _=>?_)⟩) (fun _=>⟨_,rfl,_,_,rfl,rfl,⟨by decide,by decide⟩,_,_,rfl,rfl,(by show (0:Int) < 6; decide),rfl,_,rfl,Bp (fun _=>⟨_,rfl,_,_,rfl,rfl,(by show (0:Int) < 14; decide),_,_,rfl,rfl,?_⟩) (fun _=>?_)⟩)
  ·exact T3 D H1 l qs third _ _ _ _ _ _ _ _ _ _ _ _ rl (by omega) (by omega) (fin _ (by omega) (by omega))
  ·exact T3 D H1 l qs third _ _ _ _ _ _ _ _ _ _ _ _ rl (by omega) (by omega) (fin _ (by omega) (by omega))
  ·exact T3 D H1 l qs third _ _ _ _ _ _ _ _ _ _ _ _ rl (by omega) (by omega) (fin _ (by omega) (by omega))
  ·exact T3 D H1 l qs third _ _ _ _ _ _ _ _ _ _ _ _ rl (b0 _).1 (b0 _).2 (fin _ (b0 _).1 (b0 _).2)
end
abbrev nO:cY:=top 43
section
variable {P:cA} {w:World} {K:Fg} {mg:Str->Option aA} {base:Heap} {a:fW} {dV:aA}
theorem T4 {f:aB} {fd:dW} (F:mO K "_law_spec" "_law_spec" nJ f fd) (T:JZ K mg):cG P w K mg base (fu P w) 2 f fd ["_law_script","_law_first"] (Oc K):=by
 refine F.lO fV (fun vs H Q E h=>?_) (fun cdv A outer s H vs Q E hr h=>?_)
 ·obtain ⟨s,ns,k,rfl,_⟩:=h;rfl
 ·obtain ⟨sc,ns,k,rfl,hS,q⟩:=h;have B:=T.B;obtain ⟨fc,dc,cF,mC⟩:=T.ce;have yI:cG P w K mg base (fu P w) 1 fc dc ["_law_script","_law_k"] (z9 K):=Aa cF.F B;have kC:=cF.F.kp;have bC:=cF.b;obtain ⟨tb,hB,Ae⟩:=aj8 (P:=P) (w:=w) (base:=base) (f:=f) (cdv:=cdv) (A:=A) (outer:=outer) (s:=s) (H₀:=H) (E:=E) T hr;refine ⟨_,aK (bO (i:=2) fV.nd rfl (Or.inl rfl) (dH yI hr mC kC bC bG (ao (pv 0) (ao (pv 1) aF)))) (aK (bO (i:=3) fV.nd rfl (Or.inl rfl) (dH yI hr mC kC bC bG (ao (pv 0) (ao (bH fD (pv 1) aM) aF)))) (aK (bO (i:=4) fV.nd rfl (Or.inl rfl) (dH yI hr mC kC bC bG (ao (pv 0) (ao (bH fD (pv 1) aM) aF)))) (aK (bO (i:=5) fV.nd rfl (Or.inl rfl) (bH fD aM (bH eY (pv 2) aM))) (aK (bO (i:=6) fV.nd rfl (Or.inl rfl) aM) (aK (dG (pw_and (bV gQ (pv 5) aM (cB _)) (pw_and1 (bV Ba (bH eY (bH gZ (pv 2) aM) aM) aM (cB _)))).pt (aU (bO (i:=6) fV.nd rfl (Or.inl rfl) aM)) bU) (aK (dG (bV gQ (bH eY (bH gZ (pv 2) aM) aM) aM (cB _)) (aK (bO (i:=5) fV.nd rfl (Or.inl rfl) aM) (aU (bO (i:=6) fV.nd rfl (Or.inl rfl) aM))) bU) hB)))))),?_⟩;refine ⟨_,rfl,_,rfl,sc,ns,k,rfl,hS,_,rfl,_,rfl,_,_,rfl,rfl,sc,ns,k + 1,rfl,hS,_,rfl,_,rfl,_,_,rfl,rfl,sc,ns,k + 2,rfl,hS,_,rfl,_,_,rfl,rfl,(by show (0:Int) < 3; decide),_,_,rfl,rfl,_,rfl,rfl,_,rfl,?_⟩;generalize ns.getD k 0=cell;generalize ns.getD (k + 1) 0=other;generalize ns.getD (k + 2) 0=third;have c0:0<=cell % 3:=Int.emod_nonneg _ (by decide);have c1:cell % 3 < 3:=Int.emod_lt_of_pos _ (by decide);refine Bp (fun _=>⟨_,rfl,_,_,rfl,rfl,⟨by decide,by decide⟩,_,_,rfl,rfl,(by show (0:Int) < 3; decide),_,_,rfl,rfl,_,rfl,Bp (fun _=>?_) (fun _=>?_)⟩) (fun _=>cU ?_)
  all_goals refine ⟨_,rfl,_,_,rfl,rfl,⟨by decide,by decide⟩,_,_,rfl,rfl,(by show (0:Int) < 6; decide),rfl,_,rfl,Bp (fun _=>?_) (fun _=>?_)⟩
  ·exact Ae _ H cell other third 1 9 _ _ _ _ _ _ _ _ _ (by decide) (by decide) (.inr ⟨by decide,by decide⟩) q
  ·exact Ae _ H cell other third _ 2 _ _ _ _ _ _ _ _ _ (by omega) (by decide) (.inl ⟨by omega,by decide⟩) q
  ·exact Ae _ H cell other third 1 9 _ _ _ _ _ _ _ _ _ (by decide) (by decide) (.inr ⟨by decide,by decide⟩) q
  ·exact Ae _ H cell other third _ 3 _ _ _ _ _ _ _ _ _ (by omega) (by decide) (.inl ⟨by omega,by decide⟩) q
  ·exact Ae _ H cell other third 1 9 _ _ _ _ _ _ _ _ _ (by decide) (by decide) (.inr ⟨by decide,by decide⟩) q
  ·exact Ae _ H cell other third _ 3 _ _ _ _ _ _ _ _ _ (by omega) (by decide) (.inl ⟨by omega,by decide⟩) q
def nQ (sp:gR):zV:=⟨cC sp.pots,sp.cans,sp.week,sp.closed⟩
theorem v9 {q:Str × Int × Int} (h:Di q):(nM q).Ok:=by
 refine ⟨h.nm,⟨h.g1,by have:=h.g2; show q.2.1<=60; omega⟩,fun r hr=>?_⟩;unfold nM at hr;dsimp only at hr
 split at hr
 ·cases hr
 ·cases hr;exact ⟨by omega,h.r2⟩
theorem eU.uN {sp:gR} (h:eU sp):∀ p ∈ (nQ sp).pots,p.Ok:=by
 intro p hp;obtain ⟨q,hq,rfl⟩:=bN.mp hp;exact v9 (h.row q hq)
theorem dZ (qs:List (Str × Int × Int)):(cC qs).length=qs.length:=by rw [cC,aq]
theorem eU.out {sp:gR} (h:eU sp):CK (some (cC sp.pots)) (.int sp.cans) (.int sp.week) (.int sp.closed)=.ok:=by
 show vR _ _ _ _=_
 unfold vR;have n1:=h.n1;have n8:=h.n8;have w1:=h.w1;have w2:=h.w2;have c1:=h.c1;have c2:=h.c2;have l1:=h.l1;have l2:=h.l2;have c:uI (cC sp.pots).length (.int sp.cans) (.int sp.week) (.int sp.closed)=true:=by
  unfold uI qW cL;rw [dZ];simp [n1,n8,w1,w2,c1,c2,l1];omega
 have nd:((cC sp.pots).map bM.nm).Nodup:=by
  have:(cC sp.pots).map bM.nm=sp.pots.map fun q=>q.1:=by rw [cC,map_map]; rfl
  rw [this];exact h.nd
 rw [if_neg (by rw [c]; decide),if_neg (fun z=>z nd)];have:sizeOf sp.week (cC sp.pots)<=20000:=Int.le_trans h.sz (by decide);exact if_neg (by omega)
abbrev aj9:List Str:=["_law_spec_here","_law_pots","_law_name","_law_gap","_law_rest"]
def Og (a:fW):Sp:=fun vs H Q _=>∃ v sp,vs=[v]/\jU H v sp/\eU sp/\∀ H' x,Same H H'->jy a H' x (nQ sp)->Q (.ref x) H'
theorem wg:bQ aj9 ["_law_spec_here"] (aW nO):=dN (by decide +kernel)
theorem T5 {f:aB} {fd:dW} (F:mO K "_law_garden" "_law_garden" nO f fd) (Z:CJ K mg a dV):cG P w K mg base (fu P w) 9 f fd ["_law_spec_here"] (Og a):=by
 refine F.lO wg (fun vs H Q E h=>?_) (fun cdv A outer s H vs Q E hr h=>?_)
 ·obtain ⟨v,sp,rfl,_⟩:=h;rfl
 ·obtain ⟨v,sp,rfl,⟨t,l,rfl,ht,rl⟩,ok,q⟩:=h;have T:=Z.G.T;have B:=T.B;have hr3:d7 3 _:=hr.mono (by decide);have hr4:d7 4 _:=hr.mono (by decide);refine ⟨_,aK (bO (i:=1) wg.nd rfl (Or.inl rfl) (fP aF)) (aK (iC fJ rfl (eG (cZ dJ (pv 0) aM (fun _ _=>rfl))) (oX rfl (cN (cV 2 wg.nd) (cN (cV 3 wg.nd) (cN (cV 4 wg.nd) iB)))) (aU (dG (bV Az (pv 4) aM (cB _)) (aU (fY (mZ PySem.F.plainAttrs_list PySem.F.slot_list_append PySem.F.type_list_append iQ (pv 1) (ao (Cg T.kP (pB T) hr3 T.S7 T.PI.b (dY bL) (ao (pv 2) (ao (pv 3) aF))) aF)))) (aU (fY (mZ PySem.F.plainAttrs_list PySem.F.slot_list_append PySem.F.type_list_append iQ (pv 1) (ao (Cg T.kC (vQ T) hr4 T.ajC T.CI.b (dY bL) (ao (pv 2) (ao (pv 3) (ao (pv 4) aF)))) aF))))))) (aU (bY (Cg Z.kG (ajS Z) hr Z.acW Z.b4 (dY bL) (ao (pv 1) (ao (cZ dJ (pv 0) aM (fun _ _=>rfl)) (ao (cZ dJ (pv 0) aM (fun _ _=>rfl)) (ao (cZ dJ (pv 0) aM (fun _ _=>rfl)) aF)))))))),?_⟩;refine ⟨by show 0<=sizeLine; decide,fun lp hlp=>?_⟩;have vp:=aV (o:=.lst []) hlp;obtain ⟨_,vs,el,hv,Dj⟩:=id rl;cases el;have big:1000<=sizeLine:=by decide
  have n8:=ok.n8;refine ⟨_,rfl,t,_,0,.ref l,rfl,rfl,dM.of (vp _ _ ht),rfl,l,rfl,⟨_,cD.of (vp _ _ hv)⟩,?_⟩;refine jq (K:=K) (a:=l) (xs:=vs) (fun i σ H'=>∃ u2 u3 u4 bs,σ=[some (.ref t),some (.ref lp),u2,u3,u4]/\bs.length=i/\H' lp=some (.lst (bs.map V.ref))/\lA a H' bs ((cC sp.pots).take i)/\Same H H') ⟨none,none,none,[],rfl,rfl,aD,.nil,vp⟩ (fun i σ H' _ ⟨_,_,_,_,_,_,_,_,s'⟩=>cD.of (s' _ _ hv)) ?_ ?_
  ·rintro i x σ H2 hi ⟨u2,u3,u4,bs,rfl,lb,hp2,pt2,s2⟩;obtain ⟨c,hc,rc⟩:=dz Dj hi;have yI:=ok.row c (aR hc);have li:i < sp.pots.length:=(aX.mp hc).1;have asC:(cC sp.pots)[i]?=some (nM c):=by rw [cC,aH,hc]; rfl
   obtain ⟨tc,y1,y2,y3,rfl,htc,r1,r2,r3⟩:=gO.same rc s2;cases r1; cases r2; cases r3;have lz:(bs.map V.ref).length < sizeLine:=by rw [aq]; omega
   have Vr:=v9 yI;have g1:=yI.g1;have g2:=yI.g2;have g3:c.2.1<=60:=by omega
   have hnm:=yI.nm;have a1:iJ (.str c.1) (.int c.2.1)=true:=by simp [iJ,hnm,cL,g1,g3]
   have fin:∀ H3 y,H2 y=none->Same H2 H3->jR a H3 y (nM c)->∃ u2 u3 u4 bs',[some (V.ref t),some (V.ref lp),some (V.str c.1),some (V.int c.2.1),some (V.int c.2.2)]=[some (V.ref t),some (V.ref lp),u2,u3,u4]/\bs'.length=i + 1/\(upd H3 lp (.lst (bs.map V.ref++[V.ref y]))) lp=some (.lst (bs'.map V.ref))/\lA a (upd H3 lp (.lst (bs.map V.ref++[V.ref y]))) bs' ((cC sp.pots).take (i + 1))/\Same H (upd H3 lp (.lst (bs.map V.ref++[V.ref y]))):=by
    intro H3 y hy s3 py;have hp3:=s3 _ _ hp2;refine ⟨_,_,_,bs++[y],rfl,by rw [aZ,lb]; rfl,by rw [aD,bf]; rfl,?_,gY (s2.trans s3) hlp⟩;rw [take_snoc asC];exact Paired.snoc ((pt2.same s3).upd hp3) (jR.upd py hp3)
   refine ⟨tc,_,rfl,dM.of htc,rfl,_,_,rfl,_,_,rfl,_,_,rfl,rfl,?_⟩;refine ⟨_,rfl,_,_,rfl,rfl,_,rfl,?_⟩
   by_cases neg:c.2.2 < 0
   ·rw [aL neg];refine cQ ⟨_,rfl,.inl ⟨rfl,_,cD.of hp2⟩,_,rfl,_,rfl,acZ ?_⟩;refine M7 (kn:=.str) (kg:=.int) ⟨_,rfl⟩ (lR hnm) ⟨_,rfl⟩ (fun e=>absurd e ?_) (fun _ H3 y hy s3 py=>⟨lp,_,_,rfl,rfl,s3 _ _ hp2,lz,fin H3 y hy s3 ?_⟩)
    ·rw [a1]; decide
    ·obtain ⟨dy,hy'⟩:=py;refine ⟨dy,?_⟩;rw [hy'];simp only [bM.cls,bM.fs,nM,if_pos neg]
   ·rw [aG neg];refine cU ⟨_,rfl,.inl ⟨rfl,_,cD.of hp2⟩,_,rfl,_,rfl,_,rfl,acZ ?_⟩;refine M8 (kn:=.str) (kg:=.int) (kr:=.int) ⟨_,rfl⟩ (lR hnm) ⟨_,rfl⟩ ⟨_,rfl⟩ (fun e=>absurd e ?_) (fun _ H3 y hy s3 py=>⟨lp,_,_,rfl,rfl,s3 _ _ hp2,lz,fin H3 y hy s3 ?_⟩)
    ·have r2:=yI.r2;have r0:0<=c.2.2:=by omega
     have r3:c.2.2<=c.2.1 - 1:=by omega
     have a2:restOk (.int c.2.1) (.int c.2.2)=true:=by simp [restOk,cL,r0,r3]
     rw [a1,a2]
     decide
    ·obtain ⟨dy,hy'⟩:=py;refine ⟨dy,?_⟩;rw [hy'];simp only [bM.cls,bM.fs,nM,if_neg neg]
  rintro σ H2 ⟨u2,u3,u4,bs,rfl,lb,hp2,pt2,s2⟩;have lv:vs.length=sp.pots.length:=Paired.length Dj;rw [lv,<- dZ,bI] at pt2;have Vu:=s2 _ _ ht;refine ⟨_,rfl,_,rfl,t,_,1,.int sp.cans,rfl,rfl,dM.of Vu,rfl,_,rfl,t,_,2,.int sp.week,rfl,rfl,dM.of Vu,rfl,_,rfl,t,_,3,.int sp.closed,rfl,rfl,dM.of Vu,rfl,?_⟩;exact ac2 (kc:=.int) (kw:=.int) (kl:=.int) (xM.pots (as:=bs) (ps:=cC sp.pots) ⟨lp,_,rfl,.inl hp2⟩ (cD.of hp2) (by omega) pt2 ok.uN) ⟨_,rfl⟩ ⟨_,rfl⟩ ⟨_,rfl⟩ (ajU ok.out (fun H4 x hx s4 gn=>q H4 x (s2.trans s4) (by obtain ⟨d4,l4,a4,e1,e2,e3,_⟩:=gn; exact ⟨d4,l4,a4,e1,e2,e3⟩)))
end
abbrev iW:cY:=top 44
def akb (H:Hp) (r:V) (tm:Int):Bh Str->Prop
 | .no=>r=.non
 | .dry nm=>r=.str nm
 | .st far=>lV H r (tm,far)
abbrev bZ (sp:gR):List Str:=sp.pots.map fun q=>q.1
abbrev wj (gU:List Nat):List V:=gU.map fun k=>V.int ((k:Nat):Int)
theorem Oh (gU:List Nat):(wj gU).all fL=true:=by
 rw [all_eq_true];intro v hv;obtain ⟨k,_,rfl⟩:=bN.mp hv;rfl
theorem Oi (k:Nat):∀ gU:List Nat,inV (.int (k:Int)) (wj gU)=decide (k ∈ gU)
 | []=>rfl
 | j::gU=>by
  have ih:=Oi k gU;have e:inV (.int (k:Int)) (wj (j::gU))=(o8 (.int (j:Int)) (.int (k:Int)) || inV (.int (k:Int)) (wj gU)):=rfl;rw [e,ih]
  by_cases h:k=j
  ·subst h;have:o8 (.int (k:Int)) (.int (k:Int))=true:=by simp [o8]
   simp [this]
  ·have:o8 (.int (j:Int)) (.int (k:Int))=false:=by simp [o8]; omega
   simp [this,h]
theorem Oj {q:Str × Int × Int} (h:-1<=q.2.2):CV (nM q)=q.2.2:=by
 unfold CV nM;dsimp only
 by_cases z:q.2.2 < 0
 ·rw [if_pos z]; show (-1:Int)=q.2.2; omega
 ·rw [if_neg z]
theorem T6 {qs:List (Str × Int × Int)} {ds:List Int} {i:Nat} {c:Str × Int × Int} {n:Int} (hc:qs[i]?=some c) (hn:ds[i]?=some n) (h:-1<=c.2.2):(cpsOf (cC qs) ds)[i]?=some ⟨n,c.2.1,c.2.2⟩:=by
 have hp:(cC qs)[i]?=some (nM c):=by rw [cC,aH,hc]; rfl
 rw [zZ hp hn,JL,Oj h];rfl
theorem HF {ν:Type} {f:Nat->Option ν} {n i:Nat} {y:ν} (lt:i < n) (hn:∀ j,j < i->f j=none) (hi:f i=some y):(List.range n).findSome? f=some y:=by
 have e:List.range n=List.range i++(List.range (n - i)).map (i + ·):=by
  have:n=i + (n - i):=by omega
  conv=>lhs; rw [this,List.range_add]
 have e2:n - i=(n - i - 1) + 1:=by omega
 rw [e,List.findSome?_append,e2,range_succ_eq_map,cR,findSome?_cons];have:(List.range i).findSome? f=none:=by
  rw [List.findSome?_eq_none_iff];intro j hj;exact hn j (mem_range.mp hj)
 rw [this];simp [hi]
theorem Ol {H:Hp}:∀ gs:List Int,Paired (lQ H) (gs.map V.int) gs
 | []=>.nil
 | g::gs=>.cons rfl (Ol gs)
section
variable {P:cA} {w:World} {K:Fg} {mg:Str->Option aA} {base:Heap} {a:fW} {dV:aA}
abbrev akc:List Str:=["_law_spec_here","_law_state","_law_wet","_law_pots","_law_cans","_law_week","_law_closed","_law_day","_law_since","_law_k","_law_found","_law_far"]
noncomputable def Om:Sp:=fun vs H Q _=>∃ v sp u d ds wl gU,vs=[v,u,.ref wl]/\jU H v sp/\eU sp/\je H u d ds/\0<=d/\ds.length=sp.pots.length/\H wl=some (.lst (wj gU))/\(∀ k ∈ gU,k < sp.pots.length)/\gU.length<=8 /\ ∀ H' r,Same H H'->akb H' r ((d + 1) % sp.week) (d8 (bZ sp) sp.cans (fG sp.closed d) (cpsOf (cC sp.pots) ds) gU)->Q r H'
theorem nR:bQ akc ["_law_spec_here","_law_state","_law_wet"] (aW iW):=dN (by decide +kernel)
theorem asD (B:Kh mg) {f:aB} {cdv:aA} {A:c7} {outer:List Env} {s:aQ} {H₀:Hp} {E:XK} : ∃ t,xP (oO (fu P w) P w K mg base akc "_law_behind" (aW iW) f cdv A outer s H₀ E) ((gq iW).drop 3) t/\∀ (D:Ends) (H:Hp) (l wl su:aB) (sp:gR) (d:Int) (ds:List Int) (gU:List Nat) (s0 s1 s4 s6 s9 GZ Le:Option V),iI JX H (.ref l) sp.pots->eU sp->H su=some (.tup (ds.map V.int))->ds.length=sp.pots.length->H wl=some (.lst (wj gU))->(∀ k ∈ gU,k < sp.pots.length)->(!(!gU.isEmpty && (fG sp.closed d || decide (sp.cans < (gU.length:Int)))))=true -> (∀ H' r,Same H H'->akb H' r ((d + 1) % sp.week) (d8 (bZ sp) sp.cans (fG sp.closed d) (cpsOf (cC sp.pots) ds) gU)->D.rt r H') -> t D [s0,s1,some (.ref wl),some (.ref l),s4,some (.int sp.week),s6,some (.int d),some (.ref su),s9,GZ,Le] H:=by
 refine ⟨_,aK (iC fJ rfl (eG (pv 2)) (cV 9 nR.nd) (aU (dG (bV Az (cZ dJ (pv 8) (pv 9) (fun _ _=>rfl)) (cZ dJ (cZ gA (pv 3) (pv 9) (fun _ _=>rfl)) aM (fun _ _=>rfl)) (cB _)) (aU (bY oW)) bU))) (aK (bO (i:=10) nR.nd rfl (Or.inl rfl) (fP aF)) (aK (iC fJ rfl (gh rfl B.range (ao (dB bJ B.len PySem.boot_len (ao (pv 3) aF)) aF)) (cV 9 nR.nd) (aK (bO (i:=11) nR.nd rfl (Or.inl rfl) (j9 (bV yg (pv 9) (pv 2) rfl) aM (bH fD (cZ dJ (pv 8) (pv 9) (fun _ _=>rfl)) aM))) (aK (dG (bV gQ (pv 11) (cZ dJ (cZ gA (pv 3) (pv 9) (fun _ _=>rfl)) aM (fun _ _=>rfl)) (cB _)) (aU (bY (cZ dJ (cZ gA (pv 3) (pv 9) (fun _ _=>rfl)) aM (fun _ _=>rfl)))) bU) (aU (fY (mZ PySem.F.plainAttrs_list PySem.F.slot_list_append PySem.F.type_list_append iQ (pv 10) (ao (pv 11) aF))))))) (aU (bY (dX (ao (bH eY (bH fD (pv 7) aM) (pv 5)) (ao (uH iU B.tuple boot_tuple (ao (pv 10) aF)) aF))))))),?_⟩;intro D H l wl su sp d ds gU s0 s1 s4 s6 s9 GZ Le rl ok hs ld hw wb c0 q;obtain ⟨_,vs,el,hv,Dj⟩:=id rl;cases el;have lv:vs.length=sp.pots.length:=Paired.length Dj;have n8:=ok.n8;have w1:=ok.w1;have big:1000<=sizeLine:=by decide
 have lc:(cpsOf (cC sp.pots) ds).length=sp.pots.length:=by rw [lW (by rw [dZ]; exact ld),dZ]
 have row:∀ {H':Hp} (k:Nat),Same H H'->k < sp.pots.length->∃ (tc:aB) (c:Str × Int × Int) (n:Int),vs[k]?=some (.ref tc)/\sp.pots[k]?=some c/\ds[k]?=some n/\H' tc=some (.tup [.str c.1,.int c.2.1,.int c.2.2])/\(cpsOf (cC sp.pots) ds)[k]?=some ⟨n,c.2.1,c.2.2⟩:=by
  intro H' k s' lt;have hc:sp.pots[k]?=some sp.pots[k]:=aC lt;have hn:ds[k]?=some (ds[k]'(by omega)):=aC (by omega);obtain ⟨x,hx,rx⟩:=iR Dj hc;obtain ⟨tc,y1,y2,y3,rfl,htc,r1,r2,r3⟩:=gO.same rx s';cases r1; cases r2; cases r3;exact ⟨tc,_,_,hx,hc,hn,htc,T6 hc hn (ok.row _ (List.getElem_mem lt)).r1⟩
 refine ⟨_,rfl,wl,rfl,⟨_,cD.of hw⟩,?_⟩;refine jq (K:=K) (a:=wl) (xs:=wj gU) (fun i σ H'=>∃ u9,σ=[s0,s1,some (.ref wl),some (.ref l),s4,some (.int sp.week),s6,some (.int d),some (.ref su),u9,GZ,Le]/\H'=H/\((gU.take i).all fun k=>((cpsOf (cC sp.pots) ds)[k]?.map fun c=>decide (c.rest<=c.s)).getD true)=true) ⟨s9,rfl,rfl,rfl⟩ (fun i σ H' _ ⟨_,_,e,_⟩=>by rw [e]; exact cD.of hw) ?_ ?_
 ·rintro i x σ H1 hi ⟨u9,rfl,rfl,ha⟩;rw [aH] at hi;obtain ⟨k,hk,rfl⟩:=bB.mp hi;have lk:=wb k (aR hk);obtain ⟨tc,c,n,hx,hc,hn,htc,hcp⟩:=row k (Same.refl _) lk;have hdn:(ds.map V.int)[k]?=some (.int n):=by rw [aH,hn]; rfl
  refine ⟨_,rfl,_,rfl,su,_,_,_,rfl,rfl,dM.of hs,fj hdn,_,rfl,_,rfl,l,_,_,_,rfl,rfl,cD.of hv,fj hx,tc,_,2,.int c.2.2,rfl,rfl,dM.of htc,rfl,_,_,rfl,rfl,_,rfl,?_⟩
  by_cases z:n < c.2.2
  ·rw [aL z];refine cQ (q H1 _ (Same.refl _) ?_);have:gG sp.cans (fG sp.closed d) (cpsOf (cC sp.pots) ds) gU=false:=by
    unfold gG;rw [Bool.and_eq_false_iff];refine .inr ?_;rw [List.all_eq_false];refine ⟨k,aR hk,?_⟩;rw [hcp];simp;exact z
   unfold d8;rw [this];rfl
  ·rw [aG z];refine cU ⟨_,rfl,rfl,?_⟩;rw [take_snoc hk,List.all_append,ha];simp [hcp];omega
 rintro σ H1 ⟨u9,rfl,rfl,ha⟩;rw [aq,bI] at ha;have al:gG sp.cans (fG sp.closed d) (cpsOf (cC sp.pots) ds) gU=true:=by
  unfold gG;rw [Bool.and_eq_true];exact ⟨c0,ha⟩
 refine ⟨by show 0<=sizeLine; decide,fun lf hlf=>?_⟩;have vf:=aV (o:=.lst []) hlf;refine ⟨_,rfl,l,_,rfl,.inl (cD.of (vf _ _ hv)),_,rfl,by omega,by omega,?_⟩;refine jo (lo:=0) (n:=((vs.length:Nat):Int).toNat) (fun i σ H'=>∃ u9 Oe,σ=[s0,s1,some (.ref wl),some (.ref l),s4,some (.int sp.week),s6,some (.int d),some (.ref su),u9,some (.ref lf),Oe]/\H' lf=some (.lst (((ji (cpsOf (cC sp.pots) ds) gU).take i).map V.int))/\(∀ j,j < i->(ji (cpsOf (cC sp.pots) ds) gU)[j]?≠(cpsOf (cC sp.pots) ds)[j]?.map Cp.gap)/\Same H1 H') ⟨_,_,rfl,aD,(fun j h=>by omega),vf⟩ ?_ ?_
 ·rintro i σ H2 lt ⟨u9,Oe,rfl,hf,nd,s2⟩;have e0:(0 + (i:Int))=((i:Nat):Int):=Int.zero_add _;rw [e0];have lk:i < sp.pots.length:=by omega
  obtain ⟨tc,c,n,hx,hc,hn,htc,hcp⟩:=row i s2 lk;have hdn:(ds.map V.int)[i]?=some (.int n):=by rw [aH,hn]; rfl
  have Dk:=Fd (gU:=gU) hcp;have lz:(((ji (cpsOf (cC sp.pots) ds) gU).take i).map V.int).length < sizeLine:=by
   rw [aq,length_take];omega
  refine ⟨_,rfl,_,rfl,wl,_,rfl,.inl (cD.of (s2 _ _ hw)),rfl,Oh gU,_,rfl,?_⟩
  show if (inV (.int (i:Int)) (wj gU))=true then _ else _
  rw [Oi]
  by_cases hm:i ∈ gU
  ·rw [if_pos hm] at Dk;rw [aL hm];refine cQ ?_;refine ⟨_,rfl,_,rfl,_,rfl,l,_,_,_,rfl,rfl,cD.of (s2 _ _ hv),fj hx,tc,_,1,.int c.2.1,rfl,rfl,dM.of htc,rfl,rfl,_,rfl,?_⟩
   by_cases z:(0:Int)=c.2.1
   ·refine eqT z ⟨_,rfl,_,rfl,l,_,_,_,rfl,rfl,cD.of (s2 _ _ hv),fj hx,tc,_,0,.str c.1,rfl,rfl,dM.of htc,rfl,q H2 _ s2 ?_⟩;have dr:zQ (bZ sp) (cpsOf (cC sp.pots) ds) gU=some c.1:=by
     refine HF (i:=i) (by omega) (fun j hj=>if_neg (nd j hj)) ?_;rw [Dk,hcp,Option.map_some,z,if_pos rfl,bZ,aH,hc];rfl
    unfold d8;rw [al,dr];rfl
   ·refine Vt z ⟨_,rfl,.inl ⟨rfl,_,cD.of hf⟩,_,rfl,lf,_,_,rfl,rfl,hf,lz,?_⟩;refine ⟨_,_,rfl,by rw [aD,take_snoc Dk,bf]; rfl,fun j hj=>?_,gY s2 hlf⟩
    by_cases e:j=i
    ·subst e;rw [Dk,hcp,Option.map_some];intro e;exact z (cu e)
    ·exact nd j (by omega)
  ·rw [if_neg hm] at Dk;rw [aG hm];refine cU ⟨_,rfl,_,rfl,su,_,_,_,rfl,rfl,dM.of (s2 _ _ hs),fj hdn,_,_,rfl,rfl,?_⟩;refine ⟨_,rfl,_,rfl,_,rfl,l,_,_,_,rfl,rfl,cD.of (s2 _ _ hv),fj hx,tc,_,1,.int c.2.1,rfl,rfl,dM.of htc,rfl,rfl,_,rfl,?_⟩
   by_cases z:n + 1=c.2.1
   ·refine eqT z ⟨_,rfl,_,rfl,l,_,_,_,rfl,rfl,cD.of (s2 _ _ hv),fj hx,tc,_,0,.str c.1,rfl,rfl,dM.of htc,rfl,q H2 _ s2 ?_⟩;have dr:zQ (bZ sp) (cpsOf (cC sp.pots) ds) gU=some c.1:=by
     refine HF (i:=i) (by omega) (fun j hj=>if_neg (nd j hj)) ?_;rw [Dk,hcp,Option.map_some,z,if_pos rfl,bZ,aH,hc];rfl
    unfold d8;rw [al,dr];rfl
   ·refine Vt z ⟨_,rfl,.inl ⟨rfl,_,cD.of hf⟩,_,rfl,lf,_,_,rfl,rfl,hf,lz,?_⟩;refine ⟨_,_,rfl,by rw [aD,take_snoc Dk,bf]; rfl,fun j hj=>?_,gY s2 hlf⟩
    by_cases e:j=i
    ·subst e;rw [Dk,hcp,Option.map_some];intro e;exact z (cu e)
    ·exact nd j (by omega)
 ·rintro σ H2 ⟨u9,Oe,rfl,hf,nd,s2⟩;have fl:(ji (cpsOf (cC sp.pots) ds) gU).length=((vs.length:Nat):Int).toNat:=by
   unfold ji;rw [aq,bA,lc,lv];simp
  rw [<- fl,bI] at hf;have dr:zQ (bZ sp) (cpsOf (cC sp.pots) ds) gU=none:=by
   unfold zQ;rw [List.findSome?_eq_none_iff];intro j hj;have:=mem_range.mp hj;exact if_neg (nd j (by omega))
  refine ⟨_,rfl,_,_,rfl,rfl,_,rfl,_,_,rfl,rfl,(by show 0 < sp.week; omega),_,rfl,lf,_,rfl,.inl ⟨cD.of hf,fun tt htt=>⟨by show 2<=sizeLine; decide,fun tr htr=>?_⟩⟩⟩;have v3:=aV (o:=.tup ((ji (cpsOf (cC sp.pots) ds) gU).map V.int)) htt;have v4:=aV (o:=.tup [V.int ((d + 1) % sp.week),.ref tt]) htr;refine q _ _ ((s2.trans v3).trans v4) ?_;unfold d8;rw [al,dr];exact ⟨tr,_,_,rfl,aD,rfl,tt,_,rfl,v4 _ _ aD,Ol _⟩
theorem Oo {f:aB} {fd:dW} (F:mO K "_law_behind" "_law_behind" iW f fd) (B:Kh mg):cG P w K mg base (fu P w) 1 f fd ["_law_spec_here","_law_state","_law_wet"] Om:=by
 refine F.lO nR (fun vs H Q E h=>?_) (fun cdv A outer s H vs Q E hr h=>?_)
 ·obtain ⟨v,sp,u,d,ds,wl,gU,rfl,_⟩:=h;rfl
 ·obtain ⟨v,sp,u,d,ds,wl,gU,rfl,⟨t,l,rfl,ht,rl⟩,ok,⟨t2,s2,rfl,Vu,hs2⟩,d0,ld,hw,wb,w8,q⟩:=h;obtain ⟨_,vs,el,hv,Dj⟩:=id rl;cases el;have lv:vs.length=sp.pots.length:=Paired.length Dj;have n8:=ok.n8;have w1:=ok.w1;have big:1000<=sizeLine:=by decide
  obtain ⟨tb,hB,Ae⟩:=asD (P:=P) (w:=w) (K:=K) (base:=base) (f:=f) (cdv:=cdv) (A:=A) (outer:=outer) (s:=s) (H₀:=H) (E:=E) B;refine ⟨_,aK (Eh (pv 0) (oX rfl (cN (cV 3 nR.nd) (cN (cV 4 nR.nd) (cN (cV 5 nR.nd) (cN (cV 6 nR.nd) iB)))))) (aK (Eh (pv 1) (oX rfl (cN (cV 7 nR.nd) (cN (cV 8 nR.nd) iB)))) (aK (dG (pw_and (bV (EY hr.units) (pv 2) (fP aF) (cB _)) (pw_and1 (pw_or (bV gQ (bH zf (bH zc (pv 6) (pv 7)) aM) aM (cB _)) (pw_or1 (bV Ba (dB bJ B.len PySem.boot_len (ao (pv 2) aF)) (pv 4) (cB _)))).pt)).pt (aU (bY oW)) bU) hB)),?_⟩;refine ⟨_,rfl,t,_,rfl,dM.of ht,rfl,_,_,rfl,_,_,rfl,_,_,rfl,_,_,rfl,rfl,?_⟩;refine ⟨_,rfl,t2,_,rfl,dM.of Vu,rfl,_,_,rfl,_,_,rfl,rfl,?_⟩;refine ⟨_,rfl,by show 0<=sizeLine; decide,fun le hle=>?_⟩;have ve:=aV (o:=.lst []) hle;have rw0:iI lQ (upd H le (.lst [])) (.ref wl) (gU.map fun k:Nat=>(k:Int)):=⟨wl,_,rfl,ve _ _ hw,by
   rw [show wj gU=(gU.map fun k:Nat=>(k:Int)).map V.int by rw [map_map]; rfl]; exact Ol _⟩
  refine acz eq_int (n:=0) (by decide) rw0 ⟨le,[],rfl,aD,.nil⟩ ⟨_,rfl,?_⟩;cases gU with
  | nil =>
   refine cU (cU ?_);exact Ae _ (upd H le (.lst [])) l wl s2 sp d ds [] _ _ _ _ _ _ _ (rl.same gO ve) ok (ve _ _ hs2) ld (ve _ _ hw) wb rfl (fun H' r s'=>q H' r (ve.trans s'))
  | cons k0 gU =>
   have no:∀ H',Same H H'->(fG sp.closed d || decide (sp.cans < ((k0::gU).length:Int)))=true->Q .non H':=by
    intro H' s' c;refine q H' _ s' ?_;have:gG sp.cans (fG sp.closed d) (cpsOf (cC sp.pots) ds) (k0::gU)=false:=by
     unfold gG;rw [c];rfl
    unfold d8;rw [this];rfl
   refine cQ ⟨_,rfl,_,rfl,_,_,rfl,rfl,d0,_,_,rfl,rfl,rfl,_,rfl,?_⟩;rw [Tt];cases eb:fG sp.closed d with
   | true =>
    have eb':decide (Builtin.bitAnd (sp.closed / 2 ^ d.toNat) 1=1)=true:=eb;rw [eb'];exact cQ (cQ (no _ ve (by rw [eb]; rfl)))
   | false =>
    have eb':decide (Builtin.bitAnd (sp.closed / 2 ^ d.toNat) 1=1)=false:=eb;rw [eb'];refine cU ⟨_,rfl,wl,_,rfl,.inl (cD.of (ve _ _ hw)),_,rfl,_,_,rfl,rfl,_,rfl,?_⟩;rw [aq]
    by_cases z:sp.cans < ((k0::gU).length:Int)
    ·rw [aL z];exact cQ (no _ ve (by rw [eb,aL z]; rfl))
    ·rw [aG z];refine cU ?_;exact Ae _ (upd H le (.lst [])) l wl s2 sp d ds (k0::gU) _ _ _ _ _ _ _ (rl.same gO ve) ok (ve _ _ hs2) ld (ve _ _ hw) wb (by rw [eb,aG z]; rfl) (fun H' r s'=>q H' r (ve.trans s'))
end
abbrev pH:cY:=top 45
theorem pI {r:St} {x:Option V}:kI (none::r) ((none::r).set 0 x):=by
 intro j v h
 match j,h with
 | 0,h=>simp at h
 | j + 1,h=>exact h
def pJ (sp:gR) (d:Int) (ds:List Int):List (Int × Int × List Int):=(Fb (bZ sp) sp.cans (fG sp.closed d) (cpsOf (cC sp.pots) ds)).map fun q=>(q.1,(d + 1) % sp.week,q.2)
theorem wu (n j:Nat):kW (n + 1) j=kW n j++if j.testBit n then [n] else []:=by
 unfold kW;rw [cH,cX];cases h:j.testBit n <;> simp [h]
section
variable {P:cA} {w:World} {K:Fg} {mg:Str->Option aA} {base:Heap} {a:fW} {dV:aA}
abbrev VH:List Str:=["_law_spec_here","_law_state","_law_found","_law_chosen","_law_wet","_law_ahead"]
def HJ:Sp:=fun vs H Q _=>∃ v sp u d ds,vs=[v,u]/\jU H v sp/\eU sp/\je H u d ds/\0<=d/\ds.length=sp.pots.length /\ ∀ H' l,Same H H'->iI ac7 H' (.ref l) (pJ sp d ds)->Q (.ref l) H'
theorem rA:bQ VH ["_law_spec_here","_law_state"] (aW pH):=dN (by decide +kernel)
theorem Oq {f fb:aB} {fd db:dW} (F:mO K "_law_steps" "_law_steps" pH f fd) (B:Kh mg) (T7:Fn K "_law_behind" "_law_behind" iW ["_law_spec_here","_law_state","_law_wet"] fb db) (mB:mg "_law_behind"=some (.ref fb)) : cG P w K mg base (fu P w) 2 f fd ["_law_spec_here","_law_state"] HJ:=by
 refine F.lO rA (fun vs H Q E h=>?_) (fun cdv A outer s H vs Q E hr h=>?_)
 ·obtain ⟨v,sp,u,d,ds,rfl,_⟩:=h;rfl
 ·obtain ⟨v,sp,u,d,ds,rfl,rs,ok,st,d0,ld,q⟩:=h;have okb:cG P w K mg base (fu P w) 1 fb db ["_law_spec_here","_law_state","_law_wet"] Om:=Oo T7.F B;have JD:[("_law_k":Str),"_law_chosen"].Nodup:=by decide +kernel
  refine ⟨_,aK (bO (i:=2) rA.nd rfl (Or.inl rfl) (fP aF)) (aK (iC fJ rfl (gh rfl B.range (ao (bH Ek aM (dB bJ B.len PySem.boot_len (ao (cZ dJ (pv 0) aM (fun _ _=>rfl)) aF))) aF)) (cV 3 rA.nd rfl (Or.inr rfl)) (aK (qL (i:=4) rA.nd rfl (Or.inl rfl) bL rfl ⟨_,_,rfl,rfl,rfl⟩ (gj (N':=["_law_k","_law_chosen"]) (cl:=[("_law_chosen",s.heap.objs.size + 1)]) [none,some 3] VH (aW pH).names [(".0",.local),("_law_k",.local),("_law_chosen",.cell)] ["_law_chosen"] rfl (by decide +kernel) (by decide +kernel) rfl (fun p hp=>by rw [aP.mp hp]; rfl) rfl rfl rfl rfl (by decide +kernel) rfl (by decide +kernel)) (gh rfl B.range (ao (dB bJ B.len PySem.boot_len (ao (cZ dJ (pv 0) aM (fun _ _=>rfl)) aF)) aF)) (fun _ _ _ _ _=>cV 0 JD) (fun _ _ _ _ _=>oA (bV gQ (bH zf (bH zc (pv 1) (pv 0)) aM) aM (cB _))) (fun _ _ _ _ _ _=>pv 0)) (aK (bO (i:=5) rA.nd rfl (Or.inl rfl) (dH okb hr mB T7.F.kp T7.b bG (ao (pv 0) (ao (pv 1) (ao (pv 4) aF))))) (aU (dG (eO (jW .tuple B.isinstance B.tuple (pv 5))) (aU (fY (mZ PySem.F.plainAttrs_list PySem.F.slot_list_append PySem.F.type_list_append iQ (pv 2) (ao (dX (ao (pv 3) (ao (pv 5) aF))) aF)))) bU))))) (aU (bY (pv 2)))),?_⟩;obtain ⟨t,l,rfl,ht,rl⟩:=id rs;obtain ⟨_,vs,el,hv,Dj⟩:=id rl;cases el;have lv:vs.length=sp.pots.length:=Paired.length Dj;have n8:=ok.n8;have big:1000<=sizeLine:=by decide
  have lc:(cpsOf (cC sp.pots) ds).length=sp.pots.length:=by rw [lW (by rw [dZ]; exact ld),dZ]
  have axY:=ac8 n8;refine ⟨by show 0<=sizeLine; decide,fun lf hlf=>?_⟩;have vf:=aV (o:=.lst []) hlf;have e2:(1:Int) * 2 ^ ((vs.length:Nat):Int).toNat=((2 ^ sp.pots.length:Nat):Int):=by
   rw [lv,Int.one_mul];simp
  refine ⟨_,rfl,t,_,0,.ref l,rfl,rfl,dM.of (vf _ _ ht),rfl,l,_,rfl,.inl (cD.of (vf _ _ hv)),_,_,rfl,rfl,⟨by omega,by omega,by decide⟩,_,rfl,?_⟩;have en:((1:Int) * 2 ^ ((vs.length:Nat):Int).toNat).toNat=2 ^ sp.pots.length:=by rw [e2,Int.toNat_natCast]
  have b1:-2 ^ 62<=(1:Int) * 2 ^ ((vs.length:Nat):Int).toNat/\(1:Int) * 2 ^ ((vs.length:Nat):Int).toNat < 2 ^ 62:=by rw [e2]; omega
  refine ⟨b1.1,b1.2,?_⟩;refine jo (lo:=0) (n:=((1:Int) * 2 ^ ((vs.length:Nat):Int).toNat).toNat) (fun i σ H'=>∃ u3 u4 u5,σ=[some (.ref t),some u,some (.ref lf),u3,u4,u5]/\iI ac7 H' (.ref lf) (((List.range i).filterMap (jQ (bZ sp) sp.cans (fG sp.closed d) (cpsOf (cC sp.pots) ds))).map fun q=>(q.1,(d + 1) % sp.week,q.2))/\Same H H') ⟨none,none,none,rfl,⟨lf,[],rfl,aD,.nil⟩,vf⟩ ?_ ?_
  ·rintro j σ H1 lt ⟨u3,u4,u5,rfl,rf,s1⟩;rw [en] at lt;have e0:(0 + (j:Int))=((j:Nat):Int):=Int.zero_add _;rw [e0];have ht1:=s1 _ _ ht;have hv1:=s1 _ _ hv;refine ⟨_,rfl,t,_,0,.ref l,rfl,rfl,dM.of ht1,rfl,l,_,rfl,.inl (cD.of hv1),_,rfl,by omega,by omega,fun D hD=>?_⟩;refine uP sp.pots.length (by omega) (fun i acc H'=>acc=wj (kW i j)/\H'=upd H1 D (.lst acc)) ⟨rfl,rfl⟩ (fun i acc H' le ⟨ea,eh⟩=>⟨?_,by rw [eh,aD]⟩) ?_ ?_
   ·rw [ea,aq];unfold kW;exact bh (length_filter_le _ _) (by rw [bA]; exact aN _)
   ·rintro acc H' ⟨rfl,rfl⟩;refine ⟨(by show ((vs.length:Nat):Int).toNat<=sp.pots.length; omega),?_⟩;have vD:=aV (o:=.lst (wj (kW sp.pots.length j))) hD;have s2:=s1.trans vD;have wb:∀ k ∈ kW sp.pots.length j,k < sp.pots.length:=fun k hk=>(RZ.mp hk).1
    have w8:(kW sp.pots.length j).length<=8:=by
     unfold kW;exact bh (length_filter_le _ _) (by rw [bA]; exact n8)
    refine ⟨_,rfl,_,rfl,_,rfl,_,sp,_,d,ds,D,_,rfl,rs.same s2,ok,st.same s2,d0,ld,aD,wb,w8,fun H3 r s3 hb=>?_⟩;have rf3:=rf.same rm (vD.trans s3);have s4:=s2.trans s3;obtain ⟨_,us,eu,hu,pu⟩:=id rf3;cases eu;have lu:us.length < sizeLine:=by
     rw [Paired.length pu,aq];have:=List.length_filterMap_le (jQ (bZ sp) sp.cans (fG sp.closed d) (cpsOf (cC sp.pots) ds)) (List.range j);rw [bA] at this;omega
    have es:(List.range (j + 1)).filterMap (jQ (bZ sp) sp.cans (fG sp.closed d) (cpsOf (cC sp.pots) ds))=(List.range j).filterMap (jQ (bZ sp) sp.cans (fG sp.closed d) (cpsOf (cC sp.pots) ds))++(jQ (bZ sp) sp.cans (fG sp.closed d) (cpsOf (cC sp.pots) ds) j).toList:=by
     rw [cH,List.filterMap_append];cases h:jQ (bZ sp) sp.cans (fG sp.closed d) (cpsOf (cC sp.pots) ds) j <;> simp [h]
    cases eb:d8 (bZ sp) sp.cans (fG sp.closed d) (cpsOf (cC sp.pots) ds) (kW sp.pots.length j) with
    | no =>
     have ej:jQ (bZ sp) sp.cans (fG sp.closed d) (cpsOf (cC sp.pots) ds) j=none:=by
      unfold jQ;rw [lc,eb]
     rw [eb] at hb;cases hb;refine ⟨_,rfl,.non,.non,rfl,rfl,_,rfl,cU ⟨_,_,_,rfl,?_,s4⟩⟩;rw [es,ej];simp;exact rf3
    | dry nm =>
     have ej:jQ (bZ sp) sp.cans (fG sp.closed d) (cpsOf (cC sp.pots) ds) j=none:=by
      unfold jQ;rw [lc,eb]
     rw [eb] at hb;cases hb;refine ⟨_,rfl,.str nm,.str,rfl,⟨_,rfl⟩,_,rfl,cU ⟨_,_,_,rfl,?_,s4⟩⟩;rw [es,ej];simp;exact rf3
    | st far =>
     have ej:jQ (bZ sp) sp.cans (fG sp.closed d) (cpsOf (cC sp.pots) ds) j=some ((j:Int),far):=by
      unfold jQ;rw [lc,eb]
     rw [eb] at hb;obtain ⟨tr,y1,y2,rfl,htr,r1,r2⟩:=id hb;refine ⟨_,rfl,.ref tr,.tup,rfl,⟨tr,_,rfl,htr⟩,_,rfl,cQ ⟨_,rfl,.inl ⟨rfl,_,cD.of hu⟩,_,rfl,_,rfl,by show 2<=sizeLine; decide,fun tp htp=>?_⟩⟩;have v5:=aV (o:=.tup [V.int (j:Int),.ref tr]) htp;have hu5:=v5 _ _ hu;refine ⟨lf,us,_,rfl,rfl,hu5,lu,_,_,_,rfl,⟨lf,_,rfl,aD,?_⟩,gY (s4.trans v5) hlf⟩;rw [es,ej,bf];refine iu (Paired.ig pu fun _ _ z=>rm.upd (rm.same z v5) hu5) (.cons ?_ .nil);exact rm.upd ⟨tp,_,_,rfl,aD,rfl,(qP gJ (qO gJ)).same hb v5⟩ hu5
   ·rintro i acc H' Bv ⟨rfl,rfl⟩;refine ⟨(by show i < ((vs.length:Nat):Int).toNat; omega),?_⟩;rintro x yq ⟨rfl,rfl⟩ Qc Qn k kn;have e1:(0 + (i:Int))=((i:Nat):Int):=Int.zero_add _;rw [e1];refine ⟨pI,_,rfl,_,rfl,_,_,rfl,rfl,(by show (0:Int)<=(i:Int); omega),_,_,rfl,rfl,rfl,_,rfl,?_⟩;rw [Tt];have eb:=LQ j i;unfold fG at eb;rw [eb];cases tb:j.testBit i with
    | true =>
     refine cQ ⟨_,rfl,k _ _ aD ⟨?_,by rw [jh]⟩⟩;rw [wu,tb];simp
    | false =>
     refine cU (kn _ ⟨?_,rfl⟩);rw [wu,tb];simp
  ·rintro σ H1 ⟨u3,u4,u5,rfl,rf,s1⟩;refine ⟨_,rfl,q H1 lf s1 ?_⟩;unfold pJ Fb;rw [lc];rw [en] at rf;exact rf
end
abbrev jA:cY:=top 47
def gb (g:Int) (fs:List (List Int)):List (List Int):=fs.flatMap fun c=>(List.range g.toNat).map fun k:Nat=>c++[(k:Int)]
def combs (gs:List Int):List (List Int):=gs.foldl (fun fs g=>gb g fs) [[]]
def jk (sp:gR):List (Int × List Int):=(List.range sp.week.toNat).flatMap fun d:Nat=>(combs (sp.pots.map fun q=>q.2.1)).map fun c=>((d:Int),c)
theorem wz (gs:List Int) (g:Int):combs (gs++[g])=gb g (combs gs):=by
 unfold combs;rw [foldl_append];rfl
theorem oM {g:Int}:∀ fs:List (List Int),(gb g fs).length=fs.length * g.toNat
 | []=>by simp [gb]
 | c::fs=>by
  have ih:=oM (g:=g) fs;unfold gb at ih ⊢;rw [flatMap_cons,aZ,ih,aq,bA,length_cons,Nat.succ_mul];omega
def jl (gs:List Int) (n:Nat):Nat:=gs.foldl (fun n g=>n * g.toNat) n
theorem Dm:∀ (gs:List Int) (fs:List (List Int)),(gs.foldl (fun fs g=>gb g fs) fs).length=jl gs fs.length
 | [],_=>rfl
 | g::gs,fs=>by
  show (gs.foldl (fun fs g=>gb g fs) (gb g fs)).length=jl gs (fs.length * g.toNat)
  rw [Dm gs,oM]
theorem yN (gs:List Int):(combs gs).length=jl gs 1:=Dm gs [[]]
theorem Dn:∀ (gs:List Int) (n m:Nat),jl gs (n * m)=n * jl gs m
 | [],_,_=>rfl
 | g::gs,n,m=>by
  show jl gs (n * m * g.toNat)=n * jl gs (m * g.toNat)
  rw [Nat.mul_assoc,Dn gs]
theorem HN:∀ (gs:List Int) (n:Nat),(∀ g ∈ gs,1<=g)->n<=jl gs n
 | [],_,_=>aN _
 | g::gs,n,h=>by
  have h1:=h g (by simp);have ih:=HN gs (n * g.toNat) fun z hz=>h z (by simp [hz])
  have:n * 1<=n * g.toNat:=Nat.mul_le_mul_left n (by omega)
  show n<=jl gs (n * g.toNat)
  omega
theorem J0 {gs:List Int} (h:∀ g ∈ gs,1<=g) (i:Nat) (n:Nat):jl (gs.take i) n<=jl gs n:=by
 have e:jl gs n=jl (gs.drop i) (jl (gs.take i) n):=by
  unfold jl;rw [<- foldl_append,List.take_append_drop]
 rw [e];exact HN _ _ fun g hg=>h g (List.mem_of_mem_drop hg)
theorem Dp:∀ (qs:List (Str × Int × Int)) (n:Nat),(∀ q ∈ qs,1<=q.2.1)->sizeOf (n:Int) (cC qs)=((jl (qs.map fun q=>q.2.1) n:Nat):Int)
 | [],_,_=>rfl
 | q::qs,n,h=>by
  have h1:=h q (by simp);have e:(n:Int) * q.2.1=((n * q.2.1.toNat:Nat):Int):=by
   rw [Int.natCast_mul]
   congr 1
   omega
  have ih:=Dp qs (n * q.2.1.toNat) fun z hz=>h z (by simp [hz])
  show sizeOf ((n:Int) * q.2.1) (cC qs)=((jl (qs.map fun q=>q.2.1) (n * q.2.1.toNat):Nat):Int)
  rw [e,ih]
abbrev fC (sp:gR):List Int:=sp.pots.map fun q=>q.2.1
theorem eU.len {sp:gR} (ok:eU sp):sp.week.toNat * jl (fC sp) 1<=4000:=by
 have w1:=ok.w1;have h:=Dp sp.pots sp.week.toNat fun q hq=>(ok.row q hq).g1
 have e:((sp.week.toNat:Nat):Int)=sp.week:=by omega
 rw [e] at h;have e2:jl (fC sp) sp.week.toNat=sp.week.toNat * jl (fC sp) 1:=by
  have:=Dn (fC sp) sp.week.toNat 1
  rwa [Nat.mul_one] at this
 have sz:=ok.sz;rw [h] at sz;have sz':jl (fC sp) sp.week.toNat<=4000:=by
  have s2:((jl (fC sp) sp.week.toNat:Nat):Int)<=((4000:Nat):Int):=sz;exact Int.ofNat_le.mp s2
 rw [e2] at sz';exact sz'
theorem eU.akd {sp:gR} (ok:eU sp):∀ g ∈ fC sp,1<=g:=by
 intro g hg;obtain ⟨q,hq,rfl⟩:=bN.mp hg;exact (ok.row q hq).g1
theorem eU.comb {sp:gR} (ok:eU sp) (i:Nat):(combs ((fC sp).take i)).length<=4000:=by
 rw [yN];have h1:=J0 ok.akd i 1;have h2:=ok.len;have w1:=ok.w1;have h3:1 * jl (fC sp) 1<=sp.week.toNat * jl (fC sp) 1:=Nat.mul_le_mul_right _ (by omega);omega
theorem Ga {g:Int} {fs:List (List Int)} (j:Nat):(gb g (fs.take j)).length<=(gb g fs).length:=by
 rw [oM,oM];exact Nat.mul_le_mul_right _ (by rw [length_take]; omega)
theorem wA {g:Int} {fs:List (List Int)} {j:Nat} {c:List Int} (h:fs[j]?=some c):gb g (fs.take (j + 1))=gb g (fs.take j)++(List.range g.toNat).map fun k:Nat=>c++[(k:Int)]:=by
 rw [take_snoc h];unfold gb;rw [List.flatMap_append];simp
theorem Dq (cs:List (List Int)):∀ d:Nat,((List.range d).flatMap fun d:Nat=>cs.map fun c=>((d:Int),c)).length=d * cs.length
 | 0=>by simp
 | d + 1=>by
  rw [cH,List.flatMap_append,aZ,Dq cs d,Nat.succ_mul,flatMap_cons,List.flatMap_nil,cJ,aq]
theorem yO {n:Nat}:∀ (gs:List Int) (fs:List (List Int)),(∀ c ∈ fs,c.length=n)->∀ c ∈ gs.foldl (fun fs g=>gb g fs) fs,c.length=n + gs.length
 | [],fs,h=>h
 | g::gs,fs,h=>by
  intro c hc;have ih:=yO (n:=n + 1) gs (gb g fs) (fun c hc=>by
   unfold gb at hc;obtain ⟨b,hb,hc⟩:=mem_flatMap.mp hc;obtain ⟨k,_,rfl⟩:=bN.mp hc;rw [aZ,h b hb];rfl) c hc
  rw [ih,length_cons];omega
section
variable {P:cA} {w:World} {K:Fg} {mg:Str->Option aA} {base:Heap} {a:fW} {dV:aA}
abbrev Lq:List Str:=["_law_spec_here","_law_found","_law_name","_law_gap","_law_rest","_law_longer","_law_since","_law_states_here","_law_day"]
def yP:Sp:=fun vs H Q _=>∃ v sp,vs=[v]/\jU H v sp/\eU sp/\∀ H' l,Same H H'->iI lV H' (.ref l) (jk sp)->Q (.ref l) H'
theorem gk:bQ Lq ["_law_spec_here"] (aW jA):=dN (by decide +kernel)
theorem Gb {f:aB} {fd:dW} (F:mO K "_law_states" "_law_states" jA f fd) (B:Kh mg):cG P w K mg base (fu P w) 1 f fd ["_law_spec_here"] yP:=by
 refine F.lO gk (fun vs H Q E h=>?_) (fun cdv A outer s H vs Q E hr h=>?_)
 ·obtain ⟨v,sp,rfl,_⟩:=h;rfl
 ·obtain ⟨v,sp,rfl,⟨t,l,rfl,ht,rl⟩,ok,q⟩:=h;have ndA:[("_law_far":Str),"_law_since"].Nodup:=by decide +kernel
  have ndB:[("_law_since":Str),"_law_day"].Nodup:=by decide +kernel
  refine ⟨_,aK (bO (i:=1) gk.nd rfl (Or.inl rfl) (fP (ao (dX aF) aF))) (aK (iC fJ rfl (eG (cZ dJ (pv 0) aM (fun _ _=>rfl))) (oX rfl (cN (cV 2 gk.nd) (cN (cV 3 gk.nd) (cN (cV 4 gk.nd) iB)))) (aK (bO (i:=5) gk.nd rfl (Or.inl rfl) (fP aF)) (aK (iC fJ rfl (eG (pv 1)) (cV 6 gk.nd rfl (Or.inr rfl)) (aU (fY (mZ PySem.F.plainAttrs_list PySem.F.slot_list_extend PySem.F.type_list_extend yh (pv 5) (ao (fM bL rfl ⟨_,_,rfl,rfl,rfl⟩ (gj (N':=["_law_far","_law_since"]) (cl:=[("_law_since",s.heap.objs.size + 1)]) [none,some 6] Lq (aW jA).names [(".0",.local),("_law_far",.local),("_law_since",.cell)] ["_law_since"] rfl (by decide +kernel) (by decide +kernel) rfl (fun p hp=>by rw [aP.mp hp]; rfl) rfl rfl rfl rfl (by decide +kernel) rfl (by decide +kernel)) (gh rfl B.range (ao (pv 3) aF)) (fun _ _ _ _ _=>cV 0 ndA) (fun _ _ _ _ _=>f9) (fun _ _ _ _ _ _=>bH RX (pv 1) (dX (ao (pv 0) aF)))) aF))))) (aU (bO (i:=1) gk.nd rfl (Or.inl rfl) (pv 5)))))) (aK (bO (i:=7) gk.nd rfl (Or.inl rfl) (fP aF)) (aK (iC fJ rfl (gh rfl B.range (ao (cZ dJ (pv 0) aM (fun _ _=>rfl)) aF)) (cV 8 gk.nd rfl (Or.inr rfl)) (aU (fY (mZ PySem.F.plainAttrs_list PySem.F.slot_list_extend PySem.F.type_list_extend yh (pv 7) (ao (fM bL rfl ⟨_,_,rfl,rfl,rfl⟩ (gj (N':=["_law_since","_law_day"]) (cl:=[("_law_day",s.heap.objs.size + 2)]) [none,some 8] Lq (aW jA).names [(".0",.local),("_law_since",.local),("_law_day",.cell)] ["_law_day"] rfl (by decide +kernel) (by decide +kernel) rfl (fun p hp=>by rw [aP.mp hp]; rfl) rfl rfl rfl rfl (by decide +kernel) rfl (by decide +kernel)) (eG (pv 1)) (fun _ _ _ _ _=>cV 0 ndB) (fun _ _ _ _ _=>f9) (fun _ _ _ _ _ _=>dX (ao (pv 1) (ao (pv 0) aF)))) aF))))) (aU (bY (pv 7)))))),?_⟩;obtain ⟨_,vs,el,hv,Dj⟩:=id rl;cases el;have lv:vs.length=sp.pots.length:=Paired.length Dj;have n8:=ok.n8;have w1:=ok.w1;have w2:=ok.w2;have big:10000<=sizeLine:=by decide
  have VJ:uE (vI lQ):=qO gJ;refine ⟨by show 0<=sizeLine; decide,fun t0 h0=>⟨by show 1<=sizeLine; decide,fun l0 hl0=>?_⟩⟩;have v0:=aV (o:=.tup []) h0;have v1:=aV (o:=.lst [V.ref t0]) hl0;have sA:=v0.trans v1;have r0:iI (vI lQ) (upd (upd H t0 (.tup [])) l0 (.lst [V.ref t0])) (.ref l0) (combs ((fC sp).take 0)):=⟨l0,_,rfl,aD,.cons ⟨t0,[],rfl,v1 _ _ aD,.nil⟩ .nil⟩;refine ⟨_,rfl,t,_,0,.ref l,rfl,rfl,dM.of (sA _ _ ht),rfl,l,rfl,⟨_,cD.of (sA _ _ hv)⟩,?_⟩;refine jq (K:=K) (a:=l) (xs:=vs) (fun i σ H'=>∃ fl u2 u3 u4 u5 u6,σ=[some (.ref t),some (.ref fl),u2,u3,u4,u5,u6,none,none]/\iI (vI lQ) H' (.ref fl) (combs ((fC sp).take i))/\Same H H') ⟨l0,none,none,none,none,none,rfl,r0,sA⟩ (fun i σ H' _ ⟨_,_,_,_,_,_,_,_,s'⟩=>cD.of (s' _ _ hv)) ?_ ?_
  ·rintro i x σ H1 hi ⟨fl,u2,u3,u4,u5,u6,rfl,rf,s1⟩;obtain ⟨c,hc,rc⟩:=dz Dj hi;have yI:=ok.row c (aR hc);have g1:=yI.g1;have g2:=yI.g2;have hg:(fC sp)[i]?=some c.2.1:=by rw [aH,hc]; rfl
   obtain ⟨tc,y1,y2,y3,rfl,htc,r1,r2,r3⟩:=gO.same rc s1;cases r1; cases r2; cases r3;have cb:=ok.comb (i + 1);rw [take_snoc hg,wz] at cb;have each:∀ b ∈ combs ((fC sp).take i),b.length<=8:=by
    intro b hb;have:=yO (n:=0) ((fC sp).take i) [[]] (fun c hc=>by rw [aP.mp hc]; rfl) b hb;rw [length_take,aq] at this;omega
   refine ⟨tc,_,rfl,dM.of htc,rfl,_,_,rfl,_,_,rfl,_,_,rfl,rfl,?_⟩;refine ⟨by show 0<=sizeLine; decide,fun ll hll=>?_⟩;have vl:=aV (o:=.lst []) hll;obtain ⟨_,ws,ew,hw,pw⟩:=id rf;cases ew;have lw:ws.length=(combs ((fC sp).take i)).length:=Paired.length pw;refine ⟨_,rfl,fl,rfl,⟨_,cD.of (vl _ _ hw)⟩,?_⟩;refine jq (K:=K) (a:=fl) (xs:=ws) (fun j σ H'=>∃ u6,σ=[some (.ref t),some (.ref fl),some (.str c.1),some (.int c.2.1),some (.int c.2.2),some (.ref ll),u6,none,none]/\iI (vI lQ) H' (.ref ll) (gb c.2.1 ((combs ((fC sp).take i)).take j))/\Same H1 H') ⟨_,rfl,⟨ll,[],rfl,aD,.nil⟩,vl⟩ (fun j σ H' _ ⟨_,_,_,s'⟩=>cD.of (s' _ _ hw)) ?_ ?_
   ·rintro j y σ H2 hj ⟨v6,rfl,rl2,s2⟩;obtain ⟨b,hb,rb⟩:=dz pw hj;have lb:=each b (aR hb);obtain ⟨_,us,eu,hu,pu⟩:=id rl2;cases eu;have st0:=Ga (g:=c.2.1) (fs:=combs ((fC sp).take i)) (j + 1);have lu:us.length=(gb c.2.1 ((combs ((fC sp).take i)).take j)).length:=Paired.length pu;rw [wA hb,aZ,aq,bA] at st0;refine ⟨_,rfl,.inl ⟨rfl,_,cD.of hu⟩,_,rfl,_,rfl,by omega,by omega,fun D hD=>?_⟩;refine Ma VJ (fun k:Nat=>b++[(k:Int)]) rfl (by omega) hD ?_ ?_
    ·intro k H3 lk s3 Qc kk;obtain ⟨tb,bs,rfl,htb,pb⟩:=VJ.same rb (s2.trans s3);refine ⟨pI,_,rfl,_,rfl,by show 1<=sizeLine; decide,fun t1 h1=>?_⟩;have v2:=aV (o:=.tup [V.int (k:Int)]) h1;refine ⟨tb,t1,bs,_,rfl,rfl,v2 _ _ htb,aD,by rw [Paired.length pb]; show b.length + 1<=sizeLine; omega,fun p2 H4 s4 hp2=>?_⟩;exact kk _ _ (v2.trans s4) ⟨p2,_,rfl,hp2,ints_snoc pb (k:Int)⟩
    ·rintro H3 s3 ⟨_,zs,ez,hz,pz⟩;cases ez;have hu3:=s3 _ _ hu;have lz:zs.length=c.2.1.toNat:=by rw [Paired.length pz,aq,bA]
     refine ⟨ll,D,us,zs,rfl,rfl,hu3,hz,by omega,_,rfl,⟨ll,_,rfl,aD,?_⟩,gY (s2.trans s3) hll⟩;rw [wA hb];exact iu (Paired.ig pu fun _ _ z=>VJ.upd (VJ.same z s3) hu3) (Paired.ig pz fun _ _ z=>VJ.upd z hu3)
   ·rintro σ H2 ⟨v6,rfl,rl2,s2⟩;refine ⟨_,rfl,ll,_,_,_,_,_,rfl,?_,s1.trans s2⟩;rw [lw,bI] at rl2;rw [take_snoc hg,wz];exact rl2
  ·rintro σ H1 ⟨fl,u2,u3,u4,u5,u6,rfl,rf,s1⟩;have eT:(fC sp).take vs.length=fC sp:=by rw [lv,<- aq (f:=fun q:Str × Int × Int=>q.2.1),bI]
   rw [eT] at rf;have cb:=ok.len;have cl:=yN (fC sp);refine ⟨by show 0<=sizeLine; decide,fun sl hsl=>?_⟩;have vl:=aV (o:=.lst []) hsl;refine ⟨_,rfl,t,_,2,.int sp.week,rfl,rfl,dM.of (vl _ _ (s1 _ _ ht)),rfl,_,rfl,by omega,by omega,?_⟩;refine jo (lo:=0) (n:=sp.week.toNat) (fun d σ H'=>∃ u8,σ=[some (.ref t),some (.ref fl),u2,u3,u4,u5,u6,some (.ref sl),u8]/\iI lV H' (.ref sl) ((List.range d).flatMap fun d:Nat=>(combs (fC sp)).map fun c=>((d:Int),c))/\Same H1 H') ⟨none,rfl,⟨sl,[],rfl,aD,.nil⟩,vl⟩ ?_ ?_
   ·rintro d σ H2 lt ⟨u8,rfl,rs,s2⟩;have e0:(0 + (d:Int))=((d:Nat):Int):=Int.zero_add _;rw [e0];have rf2:=rf.same VJ s2;obtain ⟨_,ws,ew,hw,pw⟩:=id rf2;cases ew;have lw:=Paired.length pw;obtain ⟨_,us,eu,hu,pu⟩:=id rs;cases eu;have lu:us.length=d * (combs (fC sp)).length:=by
     rw [Paired.length pu];exact Dq _ d
    have ml:(d + 1) * (combs (fC sp)).length<=sp.week.toNat * (combs (fC sp)).length:=Nat.mul_le_mul_right _ lt;rw [cl] at ml lu;rw [Nat.succ_mul] at ml;refine ⟨_,rfl,.inl ⟨rfl,_,cD.of hu⟩,_,rfl,fl,rfl,⟨_,cD.of hw⟩,fun D hD=>m7 VJ fU (fun c=>((d:Int),c)) rf2 (by omega) hD ?_ ?_⟩
    ·rintro k b y H3 hb rb s3 Qc kk;refine ⟨pI,_,rfl,_,rfl,by show 2<=sizeLine; decide,fun t1 h1=>?_⟩;have v2:=aV (o:=.tup [V.int (d:Int),y]) h1;exact kk _ _ v2 ⟨t1,_,_,rfl,aD,rfl,VJ.same rb v2⟩
    ·rintro H3 s3 ⟨_,zs,ez,hz,pz⟩;cases ez;have hu3:=s3 _ _ hu;have lz:zs.length=(combs (fC sp)).length:=by rw [Paired.length pz,aq]
     refine ⟨sl,D,us,zs,rfl,rfl,hu3,hz,by omega,_,rfl,⟨sl,_,rfl,aD,?_⟩,gY (s2.trans s3) hsl⟩;rw [cH,List.flatMap_append];refine iu (Paired.ig pu fun _ _ z=>fU.upd (fU.same z s3) hu3) ?_;rw [flatMap_cons,List.flatMap_nil,cJ];exact Paired.ig pz fun _ _ z=>fU.upd z hu3
   ·rintro σ H2 ⟨u8,rfl,rs,s2⟩;exact ⟨_,rfl,q H2 sl (s1.trans s2) rs⟩
end
abbrev lY:cY:=top 48
abbrev wB:cY:=top 49
theorem yQ {α:Type} {p q:α->Bool}:∀ {l:List α},(∀ x ∈ l,p x=true->q x=false)->l.countP (fun x=>p x || q x)=l.countP p + l.countP q
 | [],_=>rfl
 | x::l,h=>by
  have ih:=yQ (p:=p) (q:=q) (l:=l) fun y hy=>h y (by simp [hy])
  rw [countP_cons,countP_cons,countP_cons,ih];cases hp:p x with
  | true =>
   have:=h x (by simp) hp;simp [this];omega
  | false=>simp; omega
theorem count_at (j:Nat):∀ n:Nat,(List.range n).countP (fun k=>decide (k=j))=if j < n then 1 else 0
 | 0=>rfl
 | n + 1=>by
  rw [cH,List.countP_append,count_at j n]
  by_cases e:n=j
  ·subst e; simp
  ·by_cases lt:j < n
   ·simp [lt,e]; omega
   ·have:¬ j < n + 1:=by omega
    simp [lt,e,this]
def Ar (n:Nat) (js:List Nat):List Nat:=(List.range n).filter fun k=>decide (k ∈ js)
theorem HS {n:Nat}:∀ {js:List Nat},(∀ j ∈ js,j < n)->(Ar n js).length<=js.length/\((Ar n js).length=js.length ↔ js.Nodup)
 | [],_=>by
  have:Ar n []=[]:=by unfold Ar; simp
  rw [this];simp
 | j::js,h=>by
  obtain ⟨h1,h2⟩:=HS (n:=n) (js:=js) fun k hk=>h k (by simp [hk])
  have hj:=h j (by simp);unfold Ar at h1 h2 ⊢;rw [<- List.countP_eq_length_filter] at h1 h2 ⊢
  by_cases m:j ∈ js
  ·have e:(fun k=>decide (k ∈ j::js))=fun k=>decide (k ∈ js):=by
    funext k
    by_cases z:k=j
    ·subst z; simp [m]
    ·simp [z]
   rw [e,length_cons,nodup_cons];refine ⟨by omega,fun z=>by omega,fun z=>absurd m z.1⟩
  ·have e:(fun k=>decide (k ∈ j::js))=fun k=>decide (k=j) || decide (k ∈ js):=by
    funext k
    simp
   rw [e,yQ,count_at,if_pos hj,length_cons,nodup_cons]
   ·refine ⟨by omega,fun z=>⟨m,h2.mp (by omega)⟩,fun z=>?_⟩;have:=h2.mpr z.2;omega
   ·intro k _ hk;have:k=j:=by simpa using hk
    rw [this];simpa using m
theorem Ot (n:Nat) (js:List Nat):(Ar n js).length<=n:=by
 unfold Ar;exact bh (length_filter_le _ _) (by rw [bA]; exact aN _)
theorem pK {α:Type} {p:α->Bool}:∀ {l:List α},(l.filter p).length < l.length ↔ l.all p=false
 | []=>by simp
 | x::l=>by
  have ih:=pK (p:=p) (l:=l);have le:=length_filter_le p l;cases h:p x with
  | true=>rw [List.filter_cons_of_pos h]; simp [h]
  | false=>rw [List.filter_cons_of_neg (by simp [h])]; simp [h]; omega
theorem HW (x:Str):∀ ns:List Str,inV (.str x) (ns.map V.str)=decide (x ∈ ns)
 | []=>rfl
 | n::ns=>by
  have e:inV (.str x) ((n::ns).map V.str)=(o8 (.str n) (.str x) || inV (.str x) (ns.map V.str)):=rfl;rw [e,HW x ns]
  by_cases h:x=n
  ·subst h;have:o8 (.str x) (.str x)=true:=qN rfl;simp [this]
  ·have:o8 (.str n) (.str x)=false:=by
    show (n == x)=false
    simpa using fun z=>h z.symm
   simp [this,h]
theorem Dr (n:Nat) (js:List Nat):Ar (n + 1) js=Ar n js++(if decide (n ∈ js)=true then [n] else []):=by
 unfold Ar;rw [cH,cX]
 congr 1
 by_cases m:n ∈ js <;> simp [m]
theorem HX {x:Str}:∀ {ns:List Str},x ∈ ns->ns[ns.idxOf x]?=some x
 | n::ns,h=>by
  rw [idxOf_cons]
  by_cases e:n=x
  ·subst e; simp
  ·have e2:(n == x)=false:=by simpa using e
   rw [e2];have hm:x ∈ ns:=by
    rcases aO.mp h with z | z
    ·exact absurd z.symm e
    ·exact z
   simpa using HX hm
theorem Ou {x y:Str}:∀ {ns:List Str} {i:Nat},i < ns.idxOf x->ns[i]?=some y->(y == x)=false
 | n::ns,i,hi,hy=>by
  rw [idxOf_cons] at hi
  by_cases e:n=x
  ·subst e; simp at hi
  ·have e2:(n == x)=false:=by simpa using e
   rw [e2] at hi;cases i with
   | zero =>
    have:n=y:=by simpa using hy
    rw [<- this];exact e2
   | succ i=>exact Ou (ns:=ns) (i:=i) (by simpa using hi) (by simpa using hy)
theorem iw {α β:Type} {R:α->β->Prop}:∀ {xs:List α} {ys:List β} {i:Nat} {y:β},Paired R xs ys->ys[i]?=some y->∃ x,xs[i]?=some x/\R x y
 | [],[],_,_,_,e=>by simp at e
 | _::_,_::_,0,y,.cons h t,e=>⟨_,rfl,by cases e; exact h⟩
 | _::_,_::_,i + 1,y,.cons h t,e=>by
  obtain ⟨x,hx,r⟩:=iw (i:=i) t (by simpa using e);exact ⟨x,by simpa using hx,r⟩
theorem rB {H:Hp} {v:V} {d:Int} {ds:List Int} (h:lV H v (d,ds)):je H v d ds:=by
 obtain ⟨t,u,w,rfl,ht,r1,r2⟩:=h;cases r1;obtain ⟨s,vs,rfl,hs,p⟩:=r2;have e:=ints_of p;subst e;exact ⟨t,s,rfl,ht,hs⟩
theorem HY {ν:Type} {nms:List ν} {cans:Int} {sh:Bool} {l:List Cp} {js:List Nat} {far:List Int} (h:d8 nms cans sh l js=.st far):far=ji l js:=by
 unfold d8 at h
 split at h
 ·split at h
  ·cases h
  ·cases h;rfl
 ·cases h
theorem adv (sp:gR):lB (nQ sp).pots=bZ sp:=by
 show (cC sp.pots).map bM.nm=sp.pots.map fun q=>q.1
 unfold cC;rw [map_map];rfl
section
variable {P:cA} {w:World} {K:Fg} {mg:Str->Option aA} {base:Heap} {a:fW} {dV:aA}
theorem adw (K:Fg) {X:Cx} {T:String} {name:Str} {id:String} {r:V->List V->Hp->VK->Prop} {o e:Expr} {es:List Expr} {to:TE} {t:TA} {apos cpos:Pos} (pa:PlainAttrs T) (slot:Slot T name id) (hty:typeOf (.builtin id)=pure (.type "method_descriptor")) (hm:MtR X id r) (ho:PE X o to) (ha:PA X (e::es) t) (hK:autoParam (X.K=K) zau0) (hbase:autoParam (attributeBase o name X.env (eval o X.env)=eval o X.env) zau0) (hfew:autoParam (((backTo cpos (starEach (e::es) X.env)).all (fun x=>!x.1) && (backToKw cpos (keywordEach [] X.env)).all (fun x=>x.1.isSome) && decide ((e::es).length + ([]:List Keyword).length + (if ([]:List Keyword).isEmpty then 0 else 1) < 30))=true) zau0) (hline:autoParam ((apos.endLine == cpos.line)=true) zau0) (hs:autoParam (starEach (e::es) X.env=(false,eval e X.env)::starEach es X.env) zau0) (hplain:autoParam ((backTo cpos (starEach es X.env)).any (·.1)=false) zau0) : PE X (.Call (.Attribute o name apos) (e::es) [] cpos) (tBM K T r to t):=by
 subst hK;exact mZ pa slot hty hm ho ha hbase hfew hline hs hplain
noncomputable def Ia (H:Hp) (t:aB):Wk->Prop
 | .kept d ds=>∃ u,H t=some (.tup [.str "kept",u])/\je H u d ds
 | .dry n nm=>H t=some (.tup [.str "dry",.int (n:Nat),.str nm])
 | .bad n=>H t=some (.tup [.str "bad",.int (n:Nat)])
 | .none n=>H t=some (.tup [.str "none",.int (n:Nat)])
abbrev mL (sp:gR):List (List Str)->Nat->Int->List Int->Wk:=vZ (bZ sp) sp.cans sp.week sp.closed (cC sp.pots)
abbrev adx:List Str:=["_law_spec_here","_law_rows_here","_law_state","_law_first","_law_names","_law_k","_law_wet","_law_ahead"]
noncomputable def Ds:Sp:=fun vs H Q _=>∃ v sp rv rows u d ds f,vs=[v,rv,u,.int ((f:Nat):Int)]/\jU H v sp/\eU sp/\jT H rv rows/\rows.length<=9000/\(∀ r ∈ rows,r.length<=1000)/\je H u d ds/\0<=d/\ds.length=sp.pots.length /\ ∀ H' t,Same H H'->Ia H' t (mL sp rows f d ds)->Q (.ref t) H'
theorem lD:bQ adx ["_law_spec_here","_law_rows_here","_law_state","_law_first"] (aW lY):=dN (by decide +kernel)
theorem J1 {f fb:aB} {fd db:dW} (F:mO K "_law_walked" "_law_walked" lY f fd) (B:Kh mg) (T7:Fn K "_law_behind" "_law_behind" iW ["_law_spec_here","_law_state","_law_wet"] fb db) (mB:mg "_law_behind"=some (.ref fb)) : cG P w K mg base (fu P w) 2 f fd ["_law_spec_here","_law_rows_here","_law_state","_law_first"] Ds:=by
 refine F.lO lD (fun vs H Q E h=>?_) (fun cdv A outer s H vs Q E hr h=>?_)
 ·obtain ⟨v,sp,rv,rows,u,d,ds,n,rfl,_⟩:=h;rfl
 ·obtain ⟨v,sp,rv,rows,u,d0,ds0,n,rfl,rs,ok,rr,lr,lrr,st0,dp0,ld0,q⟩:=h;have okb:cG P w K mg base (fu P w) 1 fb db ["_law_spec_here","_law_state","_law_wet"] Om:=Oo T7.F B;have Kl:[("_law_name":Str),"_law_gap","_law_rest"].Nodup:=by decide +kernel
  have JD:[("_law_name":Str),"_law_names"].Nodup:=by decide +kernel
  have asH:[("_law_k":Str),"_law_wet"].Nodup:=by decide +kernel
  refine ⟨_,aK (bO (i:=4) lD.nd rfl (Or.inr rfl) (fM bL rfl ⟨_,_,rfl,rfl,rfl⟩ (fZ.plain (N':=["_law_name","_law_gap","_law_rest"]) rfl (by decide +kernel) (by decide +kernel)) (eG (cZ dJ (pv 0) aM (fun _ _=>rfl))) (fun _ _ _ _ _=>CP K (n:=3) rfl (cN (cV 0 Kl) (cN (cV 1 Kl) (cN (cV 2 Kl) iB)))) (fun _ _ _ _ _=>f9) (fun _ _ _ _ _ _=>pv 0))) (aK (iC fJ rfl (gh rfl B.range (ao (dB bJ B.len PySem.boot_len (ao (pv 1) aF)) aF)) (cV 5 lD.nd) (aK (bO (i:=6) lD.nd rfl (Or.inr rfl) (fM bL rfl ⟨_,_,rfl,rfl,rfl⟩ (gj (N':=["_law_name","_law_names"]) (cl:=[("_law_names",s.heap.objs.size + 1)]) [none,some 4] adx (aW lY).names [(".0",.local),("_law_name",.local),("_law_names",.cell)] ["_law_names"] rfl (by decide +kernel) (by decide +kernel) rfl (fun p hp=>by rw [aP.mp hp]; rfl) rfl rfl rfl rfl (by decide +kernel) rfl (by decide +kernel)) (eG (cZ gA (pv 1) (pv 5) (fun _ _=>rfl))) (fun _ _ _ _ _=>cV 0 JD) (fun _ _ _ _ _=>oA (bV (FJ K) (pv 0) (pv 1) rfl)) (fun _ _ _ _ _ _=>adw K PySem.F.plainAttrs_list PySem.F.slot_list_index PySem.F.type_list_index Cd (pv 1) (ao (pv 0) aF)))) (aK (dG (bV Az (dB bJ B.len PySem.boot_len (ao (pv 6) aF)) (dB bJ B.len PySem.boot_len (ao (cZ gA (pv 1) (pv 5) (fun _ _=>rfl)) aF)) (cB _)) (aU (bY (dX (ao dR (ao (bH fD (pv 3) (pv 5)) aF))))) bU) (aK (dG (bV Az (dB bJ B.len PySem.boot_len (ao (fM bL rfl ⟨_,_,rfl,rfl,rfl⟩ (gj (N':=["_law_k","_law_wet"]) (cl:=[("_law_wet",s.heap.objs.size + 2)]) [none,some 6] adx (aW lY).names [(".0",.local),("_law_k",.local),("_law_wet",.cell)] ["_law_wet"] rfl (by decide +kernel) (by decide +kernel) rfl (fun p hp=>by rw [aP.mp hp]; rfl) rfl rfl rfl rfl (by decide +kernel) rfl (by decide +kernel)) (gh rfl B.range (ao (dB bJ B.len PySem.boot_len (ao (pv 4) aF)) aF)) (fun _ _ _ _ _=>cV 0 asH) (fun _ _ _ _ _=>oA (bV (FJ K) (pv 0) (pv 1) rfl)) (fun _ _ _ _ _ _=>pv 0)) aF)) (dB bJ B.len PySem.boot_len (ao (pv 6) aF)) (cB _)) (aU (bY (dX (ao dR (ao (bH fD (pv 3) (pv 5)) aF))))) bU) (aK (bO (i:=7) lD.nd rfl (Or.inl rfl) (dH okb hr mB T7.F.kp T7.b bG (ao (pv 0) (ao (pv 2) (ao (pv 6) aF))))) (aK (dG (bV ab2 (pv 7) oW (cB _)) (aU (bY (dX (ao dR (ao (bH fD (pv 3) (pv 5)) aF))))) bU) (aK (dG (fK (eO (jW .tuple B.isinstance B.tuple (pv 7)))) (aU (bY (dX (ao dR (ao (bH fD (pv 3) (pv 5)) (ao (pv 7) aF)))))) bU) (aU (bO (i:=2) lD.nd rfl (Or.inl rfl) (pv 7)))))))))) (aU (bY (dX (ao dR (ao (pv 2) aF)))))),?_⟩;obtain ⟨t,l,rfl,ht,rl⟩:=id rs;obtain ⟨_,vs,el,hv,Dj⟩:=id rl;cases el;have n8:=ok.n8;have big:9000<=sizeLine:=by decide
  refine ⟨_,rfl,t,_,0,.ref l,rfl,rfl,dM.of ht,rfl,l,rfl,⟨_,cD.of hv⟩,fun nl hnl=>?_⟩;refine m7 gO iV (fun q=>q.1) rl (by omega) hnl ?_ ?_
  ·rintro i c v H2 hc ⟨t',u1,u2,u3,rfl,ht',r1,r2,r3⟩ s2 Qc k;cases r1;exact ⟨t',_,rfl,dM.of ht',rfl,_,_,rfl,_,_,rfl,_,_,rfl,rfl,vY,_,rfl,k _ _ (Same.refl _) rfl⟩
  intro H1 s1 rN;obtain ⟨nl',nvs,en,hN,pN⟩:=rN;cases en;have eN:=oK pN;rw [show (sp.pots.map fun q=>q.1)=bZ sp from rfl] at eN;subst eN;have lN:(bZ sp).length=sp.pots.length:=aq ..;have rs1:=rs.same s1;have rr1:=rr.same s1;have st1:=st0.same s1;obtain ⟨rl',ls,rfl,hrl,Km⟩:=id rr1;have lls:ls.length=rows.length:=Paired.length Km;refine ⟨_,rfl,rl',_,rfl,.inl (cD.of hrl),_,rfl,by rw [aq]; omega,by rw [aq]; omega,?_⟩;rw [show (ls.map V.ref).length=rows.length by rw [aq,lls]];refine jo (lo:=0) (n:=((rows.length:Nat):Int).toNat) (fun i σ H'=>∃ u d ds u5 u6 u7,σ=[some (.ref t),some (.ref rl'),some u,some (.int ((n:Nat):Int)),some (.ref nl),u5,u6,u7]/\je H' u d ds/\0<=d/\ds.length=sp.pots.length/\Same H1 H'/\mL sp rows n d0 ds0=mL sp (rows.drop i) (n + i) d ds) ⟨u,d0,ds0,none,none,none,rfl,st1,dp0,ld0,Same.refl _,rfl⟩ ?_ ?_
  ·rintro i σ H2 lt ⟨u,d,ds,u5,u6,u7,rfl,st,dp,ld,s2,ew⟩;have lt':i < rows.length:=by omega
   have e0:(0 + (i:Int))=((i:Nat):Int):=Int.zero_add _;rw [e0];obtain ⟨r,hr'⟩:∃ r,rows[i]?=some r:=⟨rows[i],aC lt'⟩;obtain ⟨rb,hrb,er⟩:=iw Km hr';have lri:=lrr r (aR hr');rw [Hy hr'] at ew;have hla:(ls.map V.ref)[i]?=some (.ref rb):=by rw [aH,hrb]; rfl
   have er2:=s2 _ _ er;have hN2:=s2 _ _ hN;refine ⟨_,rfl,_,rfl,rl',_,_,_,rfl,rfl,cD.of (s2 _ _ hrl),fj hla,rb,rfl,⟨_,cD.of er2⟩,fun D hD=>?_⟩;obtain ⟨go,stop,yl⟩:=Mv (K:=K) (R:=vH) iV (H:=H2) (l:=rb) (xs:=r) ⟨rb,_,rfl,er2,Hv r⟩;refine kZ (R:=vH) (S:=JN) z6 (xs:=r) (fun nm=>decide (nm ∈ bZ sp)) (fun nm=>(bZ sp).idxOf nm) (fun _=>True) (by omega) hD go stop yl ?_ ?_
   ·intro j nm v3 H3 hj rv s4 Qc Qn k kn;cases rv;have hN3:=s4 _ _ hN2;refine ⟨gM,_,rfl,_,rfl,nl,_,rfl,.inl (cD.of hN3),rfl,m8 _,_,rfl,?_⟩
    show if (inV (.str nm) ((bZ sp).map V.str))=true then _ else _
    rw [HW]
    by_cases m:nm ∈ bZ sp
    ·rw [aL m];have li:=List.idxOf_lt_length_of_mem m;refine cQ ⟨_,rfl,.inl ⟨rfl,_,cD.of hN3⟩,_,rfl,nl,_,.str nm,(bZ sp).idxOf nm,rfl,rfl,hN3,rfl,m8 _,⟨.str nm,?_,qN rfl⟩,fun i' z hi hz=>?_,k (aL m) trivial _ _ (Same.refl _) rfl⟩
     ·rw [aH,HX m];rfl
     ·rw [aH] at hz;obtain ⟨y,hy,rfl⟩:=bB.mp hz
      show (y == nm)=false
      exact Ou hi hy
    ·rw [aG m];exact cU (kn (aG m) _ (Same.refl _))
   intro H3 s4 _ r3;obtain ⟨D',vs3,eD,hw,Qg⟩:=r3;cases eD;have ev:=z8 Qg;subst ev;have Kq:=s2.trans s4;have asJ:=Kq _ _ hrl;have er3:=s4 _ _ er2;have lw:(nats ((r.filter fun nm=>decide (nm ∈ bZ sp)).map fun nm=>(bZ sp).idxOf nm)).length=(r.filter fun nm=>decide (nm ∈ bZ sp)).length:=by unfold nats; rw [aq,aq]
   refine ⟨_,rfl,D,_,rfl,.inl (cD.of hw),_,rfl,_,rfl,rl',_,_,_,rfl,rfl,cD.of asJ,fj hla,rb,_,rfl,.inl (cD.of er3),_,_,rfl,rfl,_,rfl,?_⟩;rw [lw,show (r.map V.str).length=r.length from aq ..]
   by_cases al:(r.all fun nm=>decide (nm ∈ bZ sp))=true
   ·have nlt:¬ (((r.filter fun nm=>decide (nm ∈ bZ sp)).length:Int) < (r.length:Int)):=fun z=>by
     have:=pK.mp (show (r.filter fun nm=>decide (nm ∈ bZ sp)).length < r.length by omega);rw [al] at this;cases this
    rw [aG nlt];refine cU ?_;have ef:(r.filter fun nm=>decide (nm ∈ bZ sp))=r:=List.filter_eq_self.mpr (all_eq_true.mp al);rw [ef] at hw;generalize ejs:(r.map fun nm=>(bZ sp).idxOf nm)=js at hw;have jb:∀ j ∈ js,j < sp.pots.length:=by
     intro j hj;rw [<- ejs] at hj;obtain ⟨nm,hnm,rfl⟩:=bN.mp hj;have m:=all_eq_true.mp al nm hnm;have:=List.idxOf_lt_length_of_mem (show nm ∈ bZ sp by simpa using m);omega
    have wlk:mL sp (r::rows.drop (i + 1)) (n + i) d ds=if js.Nodup then (match d8 (bZ sp) sp.cans (fG sp.closed d) (cpsOf (cC sp.pots) ds) js with
      | .no=>.bad (n + i)
      | .dry nm=>.dry (n + i) nm
      | .st far=>mL sp (rows.drop (i + 1)) (n + i + 1) ((d + 1) % sp.week) far) else .bad (n + i):=by
     rw [<- ejs];unfold mL;rw [vZ,if_pos al] <;> rfl
    rw [wlk] at ew;have hN3:=Kq _ _ hN;refine ⟨_,rfl,nl,_,rfl,.inl (cD.of hN3),_,rfl,by rw [aq]; omega,by rw [aq]; omega,fun D2 hD2=>?_⟩;rw [show ((bZ sp).map V.str).length=sp.pots.length by rw [aq,lN]];have T8:=hw;refine uP sp.pots.length (by omega) (fun i acc H'=>acc=nats (Ar i js)/\H'=upd H3 D2 (.lst acc)) ⟨rfl,rfl⟩ (fun i acc H' le ⟨ea,eh⟩=>⟨?_,by rw [eh,aD]⟩) ?_ ?_
    ·rw [ea];unfold nats;rw [aq];exact Ot _ _
    ·rintro acc H' ⟨rfl,rfl⟩;refine ⟨(by show ((sp.pots.length:Nat):Int).toNat<=sp.pots.length; omega),?_⟩;have z2:=aV (o:=.lst (nats (Ar sp.pots.length js))) hD2;have s5:=Kq.trans z2;have Qh:=z2 _ _ hw;refine ⟨D2,_,rfl,.inl (cD.of aD),_,rfl,D,_,rfl,.inl (cD.of Qh),_,_,rfl,rfl,_,rfl,?_⟩;rw [show (nats (Ar sp.pots.length js)).length=(Ar sp.pots.length js).length from aq ..,show (nats js).length=js.length from aq ..];obtain ⟨le1,akg⟩:=HS jb;have le2:=Ot sp.pots.length js
     by_cases nd:js.Nodup
     ·have e1:=akg.mpr nd;rw [if_pos nd] at ew;rw [aG (show ¬ (((Ar sp.pots.length js).length:Int) < (js.length:Int)) by omega)];refine cU ?_;refine ⟨_,rfl,_,rfl,_,rfl,_,sp,u,d,ds,D,js,rfl,rs1.same s5,ok,st.same (s4.trans z2),dp,ld,Qh,jb,by omega,fun H4 rr4 s6 hb=>?_⟩;have s7:=s5.trans s6;cases eb:d8 (bZ sp) sp.cans (fG sp.closed d) (cpsOf (cC sp.pots) ds) js with
      | no =>
       rw [eb] at hb ew;cases hb;refine ⟨_,rfl,rfl,_,rfl,cQ ⟨_,rfl,_,rfl,_,_,rfl,rfl,by show 2<=sizeLine; decide,fun t4 h4=>q _ t4 ((s1.trans s7).trans (aV h4)) ?_⟩⟩;rw [ew];exact aD
      | dry nm =>
       rw [eb] at hb ew;cases hb;refine ⟨_,rfl,rfl,_,rfl,cU ⟨_,rfl,.str nm,.str,rfl,⟨_,rfl⟩,_,rfl,cQ ⟨_,rfl,_,rfl,_,_,rfl,rfl,_,rfl,by show 3<=sizeLine; decide,fun t4 h4=>q _ t4 ((s1.trans s7).trans (aV h4)) ?_⟩⟩⟩;rw [ew];exact aD
      | st far =>
       rw [eb] at hb ew;obtain ⟨tr,y1,y2,rfl,htr,r1,r2⟩:=id hb;refine ⟨_,rfl,rfl,_,rfl,cU ⟨_,rfl,.ref tr,.tup,rfl,⟨tr,_,rfl,htr⟩,_,rfl,cU ⟨_,rfl,?_⟩⟩⟩;refine ⟨_,_,_,_,_,_,rfl,rB hb,Int.emod_nonneg _ (by have:=ok.w1; omega),?_,s7,?_⟩
       ·have:=HY eb;rw [this,rz,lW (by rw [dZ]; exact ld),dZ]
       ·rw [ew];rfl
     ·have ne1:(Ar sp.pots.length js).length≠js.length:=fun z=>nd (akg.mp z)
      rw [if_neg nd] at ew;rw [aL (show ((Ar sp.pots.length js).length:Int) < (js.length:Int) by omega)];refine cQ ⟨_,rfl,_,rfl,_,_,rfl,rfl,by show 2<=sizeLine; decide,fun t4 h4=>q _ t4 ((s1.trans s5).trans (aV h4)) ?_⟩;rw [ew];exact aD
    ·rintro i2 acc H' Bv ⟨rfl,rfl⟩;refine ⟨(by show i2 < ((sp.pots.length:Nat):Int).toNat; omega),?_⟩;rintro x yq ⟨rfl,rfl⟩ Qc Qn k kn;have e1:(0 + (i2:Int))=((i2:Nat):Int):=Int.zero_add _;rw [e1];have Qh:=aV (o:=.lst (nats (Ar i2 js))) hD2 _ _ hw;refine ⟨gM,_,rfl,_,rfl,D,_,rfl,.inl (cD.of Qh),rfl,yJ js,_,rfl,?_⟩
     show if (inV (.int (i2:Int)) (nats js))=true then _ else _
     rw [z7]
     by_cases m:i2 ∈ js
     ·rw [aL m];refine cQ ⟨_,rfl,k _ _ aD ⟨?_,by rw [jh]⟩⟩;rw [Dr,aL m];unfold nats;simp
     ·rw [aG m];refine cU (kn _ ⟨?_,rfl⟩);rw [Dr,aG m];simp
   ·have Bv:((r.filter fun nm=>decide (nm ∈ bZ sp)).length:Int) < (r.length:Int):=by
     have:=pK.mpr (show (r.all fun nm=>decide (nm ∈ bZ sp))=false by simpa using al);omega
    rw [aL Bv];have wlk:mL sp (r::rows.drop (i + 1)) (n + i) d ds=.none (n + i):=by
     unfold mL;rw [vZ,if_neg al]
    rw [wlk] at ew;refine cQ ⟨_,rfl,_,rfl,_,_,rfl,rfl,by show 2<=sizeLine; decide,fun t4 h4=>q _ t4 ((s1.trans Kq).trans (aV h4)) ?_⟩;rw [ew];exact aD
  ·rintro σ H2 ⟨u,d,ds,u5,u6,u7,rfl,st,dp,ld,s2,ew⟩;rw [Int.toNat_natCast,List.drop_length] at ew;refine ⟨_,rfl,by show 2<=sizeLine; decide,fun t4 h4=>q _ t4 ((s1.trans s2).trans (aV h4)) ?_⟩;rw [ew];exact ⟨u,aD,st.same (aV h4)⟩
end
abbrev pL:cY:=top 52
def asK (lr:aB) (H:Hp) (b:aB) (r:List Str):Prop:=b≠lr/\H b=some (.lst (r.map V.str))/\r.length<=20
noncomputable def akh (bw:Bool) (sp:gR) (H2:Hp) (t Kr nl lr:aB) (n many i:Nat) (σ:St) (H':Hp):Prop:=∃ (u:V) (d:Int) (ds:List Int) (ls:List aB) (rows:List (List Str)) (u8 u9 u10 Oe VL:Option V),σ=[some (.ref t),some (.ref Kr),some (.int ((n:Nat):Int)),some (.int ((many:Nat):Int)),some (.bl bw),some (.ref nl),some u,some (.ref lr),u8,u9,u10,Oe,VL]/\lV H' u (d,ds)/\0<=d/\ds.length=sp.pots.length/\H' lr=some (.lst (ls.map V.ref))/\Paired (asK lr H') ls rows/\rows.length=i/\Same H2 H'
theorem T9 {nm:Str} (h:nameV (.str nm)=true):nm.length<=12:=by
 have e:nameV (.str nm)=(decide (1<=nm.length) && decide (nm.length<=12) && nm.cps.toList.all letter):=rfl;rw [e,Bool.and_eq_true,Bool.and_eq_true] at h;exact of_decide_eq_true h.1.2
theorem asL (xs:List V):Bj xs none (some 2)=xs.take 2:=by
 unfold Bj;rw [show (2:Int)=((2:Nat):Int) from rfl,HT.GQ];simp [HT.Aq]
theorem Ov {sp:gR} {d:Int} {ds:List Int} {c:Int × Int × List Int} (w1:1<=sp.week) (ld:ds.length=sp.pots.length) (h:c ∈ pJ sp d ds):0<=c.2.1/\c.2.2.length=sp.pots.length:=by
 unfold pJ Fb at h;obtain ⟨q,hq,rfl⟩:=bN.mp h;obtain ⟨j,_,hj⟩:=List.mem_filterMap.mp hq;refine ⟨Int.emod_nonneg _ (by omega),?_⟩;unfold jQ at hj
 split at hj
 ·rename_i far e
  cases hj
  show far.length=_
  rw [HY e,rz,lW (by rw [dZ]; exact ld),dZ]
 ·cases hj
def asM (t u:TS):TS:=fun D σ H=>∃ R:St->Hp->Prop,(∀ σ' H',R σ' H'->u D σ' H')/\((∀ σ' H',R σ' H'->u D σ' H')->t { D with nx:=u D } σ H)
theorem Af {X:Cx} {st:cY} {rest:List cY} {t u:TS} (h1:PS X st t) (h2:xP X rest u):xP X (st::rest) (asM t u):=fun pins s σ H D I h=>by
 obtain ⟨R,a,b⟩:=h;exact aK h1 h2 pins s σ H D I (b a)
section
variable {P:cA} {w:World} {K:Fg} {mg:Str->Option aA} {base:Heap} {a:fW} {dV:aA}
abbrev ady:List Str:=["_law_spec_here","_law_script","_law_first","_law_many","_law_wild","_law_names","_law_state","_law_rows_here","_law_at","_law_cell","_law_steps_here","_law_row","_law_chosen"]
noncomputable def Ib (K:Fg):Sp:=fun vs H Q _=>∃ (v:V) (sp:gR) (Kr:aB) (ns:List Int) (f many:Nat) (bw:Bool),vs=[v,.ref Kr,.int ((f:Nat):Int),.int ((many:Nat):Int),.bl bw]/\jU H v sp/\eU sp/\cD K H Kr (ns.map V.int)/\many<=100 /\ ∀ H' l rows,Same H H'->jT H' (.ref l) rows->rows.length=many->(∀ r ∈ rows,r.length<=20)->Q (.ref l) H'
theorem g8:bQ ady ["_law_spec_here","_law_script","_law_first","_law_many","_law_wild"] (aW pL):=dN (by decide +kernel)
theorem Ow {f fb fst:aB} {fd db dst:dW} (F:mO K "_law_rows" "_law_rows" pL f fd) (D:JZ K mg) (T7:Fn K "_law_behind" "_law_behind" iW ["_law_spec_here","_law_state","_law_wet"] fb db) (mB:mg "_law_behind"=some (.ref fb)) (St':Fn K "_law_steps" "_law_steps" pH ["_law_spec_here","_law_state"] fst dst) (mSt:mg "_law_steps"=some (.ref fst)) : cG P w K mg base (fu P w) 3 f fd ["_law_spec_here","_law_script","_law_first","_law_many","_law_wild"] (Ib K):=by
 refine F.lO g8 (fun vs H Q E h=>?_) (fun cdv A outer s H vs Q E hr h=>?_)
 ·obtain ⟨v,sp,Kr,ns,n,many,bw,rfl,_⟩:=h;rfl
 ·obtain ⟨v,sp,Kr,ns,n,many,bw,rfl,rs,ok,asO,lm,q⟩:=h;have B:=D.B;obtain ⟨fc,dc,cF,mC⟩:=D.ce;obtain ⟨fr,dr,rF,mR⟩:=D.dr;have yI:cG P w K mg base (fu P w) 1 fc dc ["_law_script","_law_k"] (z9 K):=Aa cF.F B;have okr:cG P w K mg base (fu P w) 1 fr dr ["_law_cell","_law_k","_law_many"] FW:=HB rF.F;have uN:cG P w K mg base (fu P w) 2 fst dst ["_law_spec_here","_law_state"] HJ:=Oq St'.F B T7 mB;have hr1:d7 1 _:=hr.mono (by decide);have hr2:d7 2 _:=hr.mono (by decide);have kR:=rF.F.kp;have bR:=rF.b;have nd1:[("_law_name":Str)].Nodup:=by decide +kernel
  have Kl:[("_law_name":Str),"_law_gap","_law_rest"].Nodup:=by decide +kernel
  have JD:[("_law_name":Str),"_law_cell"].Nodup:=by decide +kernel
  have asR:[("_law_k":Str),"_law_chosen","_law_names"].Nodup:=by decide +kernel
  refine ⟨_,aK (bO (i:=5) g8.nd rfl (Or.inr rfl) (fM bL rfl ⟨_,_,rfl,rfl,rfl⟩ (fZ.plain (N':=["_law_name","_law_gap","_law_rest"]) rfl (by decide +kernel) (by decide +kernel)) (eG (cZ dJ (pv 0) aM (fun _ _=>rfl))) (fun _ _ _ _ _=>CP K (n:=3) rfl (cN (cV 0 Kl) (cN (cV 1 Kl) (cN (cV 2 Kl) iB)))) (fun _ _ _ _ _=>f9) (fun _ _ _ _ _ _=>pv 0))) (aK (bO (i:=6) g8.nd rfl (Or.inl rfl) (dX (ao aM (ao (uH iU B.tuple boot_tuple (ao (fM bL rfl ⟨_,_,rfl,rfl,rfl⟩ (fZ.plain (N':=["_law_name"]) rfl (by decide +kernel) (by decide +kernel)) (eG (pv 5)) (fun _ _ _ _ _=>cV 0 nd1) (fun _ _ _ _ _=>f9) (fun _ _ _ _ _ _=>aM)) aF)) aF)))) (aK (bO (i:=7) g8.nd rfl (Or.inl rfl) (fP aF)) (aK (iC fJ rfl (gh rfl B.range (ao (pv 3) aF)) (cV 8 g8.nd) (aK (bO (i:=9) g8.nd rfl (Or.inr rfl) (bH fD (dH yI hr1 mC cF.F.kp cF.b bG (ao (pv 1) (ao (bH fD (pv 2) (pv 8)) aF))) (bH rJ aM (pv 8)))) (aK (bO (i:=10) g8.nd rfl (Or.inl rfl) (dH uN hr2 mSt St'.F.kp St'.b bG (ao (pv 0) (ao (pv 6) aF)))) (aK (bO (i:=11) g8.nd rfl (Or.inl rfl) (vg zy (fM bL rfl ⟨_,_,rfl,rfl,rfl⟩ (gj (N':=["_law_name","_law_cell"]) (cl:=[("_law_cell",s.heap.objs.size + 2)]) [none,some 9] ady (aW pL).names [(".0",.local),("_law_name",.local),("_law_draw",.globalImplicit),("len",.globalImplicit),("_law_cell",.cell)] ["_law_cell"] rfl (by decide +kernel) (by decide +kernel) rfl (fun p hp=>by rw [aP.mp hp]; rfl) rfl rfl rfl rfl (by decide +kernel) rfl (by decide +kernel)) (eG (pv 5)) (fun _ _ _ _ _=>cV 0 JD) (fun _ _ _ _ _=>oA (bV gQ (dH okr hr1 mR kR bR bG (ao (pv 1) (ao (dB qK B.len PySem.boot_len (ao (pv 0) aF)) (ao aM aF)))) aM (cB _))) (fun _ _ _ _ _ _=>pv 0)) zp (zq aM))) (Af (dG (pw_and (bV (EY hr.units) (pv 10) (fP aF) (cB _)) (pw_and1 (bV Ba (dH okr hr1 mR kR bR bG (ao (pv 9) (ao aM (ao aM aF)))) aM (cB _)))).pt (aK (Eh (cZ gA (pv 10) (dH okr hr1 mR kR bR bG (ao (pv 9) (ao aM (ao (dB bJ B.len PySem.boot_len (ao (pv 10) aF)) aF)))) (fun _ _=>rfl)) (oX rfl (cN (cV 12 g8.nd rfl (Or.inr rfl)) (cN (cV 6 g8.nd) iB)))) (aU (qL (i:=11) g8.nd rfl (Or.inl rfl) bL rfl ⟨_,_,rfl,rfl,rfl⟩ (gj (N':=["_law_k","_law_chosen","_law_names"]) (cl:=[("_law_names",s.heap.objs.size + 1),("_law_chosen",s.heap.objs.size + 3)]) [none,some 12,some 5] ady (aW pL).names [(".0",.local),("_law_k",.local),("_law_chosen",.cell),("_law_names",.cell)] ["_law_names","_law_chosen"] rfl (by decide +kernel) (by decide +kernel) rfl (fun p hp=>by simp only [aO,not_mem_nil,or_false] at hp; rcases hp with rfl | rfl <;> rfl) rfl rfl rfl rfl (by decide +kernel) rfl (by decide +kernel)) (gh rfl B.range (ao (dB bJ B.len PySem.boot_len (ao (pv 5) aF)) aF)) (fun _ _ _ _ _=>cV 0 asR) (fun _ _ _ _ _=>oA (bV gQ (bH zf (bH zc (pv 1) (pv 0)) aM) aM (cB _))) (fun _ _ _ _ _ _=>cZ (Cj K) (pv 2) (pv 0) (fun _ _=>rfl))))) bU) (Af (dG (pw_and (eO (pv 4)) (pw_and1 (bV gQ (dH okr hr1 mR kR bR bG (ao (pv 9) (ao aM (ao aM aF)))) aM (cB _)))).pt (aU (bO (i:=11) g8.nd rfl (Or.inl rfl) (bH zF (pv 11) (cZ dJ (dX (ao (fP (ao (cZ gA (pv 5) aM (fun _ _=>rfl)) aF)) (ao (fP (ao dR aF)) (ao (fP (ao (cZ gA (pv 5) aM (fun _ _=>rfl)) (ao (cZ gA (pv 5) aM (fun _ _=>rfl)) (ao dR aF)))) aF)))) (bH eY (pv 9) aM) (fun _ _=>rfl))))) bU) (aU (fY (mZ PySem.F.plainAttrs_list PySem.F.slot_list_append PySem.F.type_list_append iQ (pv 7) (ao (j9 (bV gQ (bH eY (pv 9) aM) aM (cB _)) (RV (pv 11)) (pv 11)) aF)))))))))) (aU (bY (pv 7)))))),?_⟩;obtain ⟨t,l,rfl,ht,rl⟩:=id rs;obtain ⟨_,vs,el,hv,Dj⟩:=id rl;cases el;have n8:=ok.n8;have n1:=ok.n1;have big:1000<=sizeLine:=by decide
  refine ⟨_,rfl,t,_,0,.ref l,rfl,rfl,dM.of ht,rfl,l,rfl,⟨_,cD.of hv⟩,fun nl hnl=>?_⟩;refine m7 gO iV (fun q=>q.1) rl (by omega) hnl ?_ ?_
  ·rintro i c v H2 hc ⟨t',u1,u2,u3,rfl,ht',r1,r2,r3⟩ s2 Qc k;cases r1;exact ⟨t',_,rfl,dM.of ht',rfl,_,_,rfl,_,_,rfl,_,_,rfl,rfl,vY,_,rfl,k _ _ (Same.refl _) rfl⟩
  intro H1 s1 rN;obtain ⟨nl',nvs,en,hN,pN⟩:=id rN;cases en;have eN:=oK pN;rw [show (sp.pots.map fun q=>q.1)=bZ sp from rfl] at eN rN;subst eN;have lN:(bZ sp).length=sp.pots.length:=aq ..;have asS:∀ nm ∈ bZ sp,nm.length<=12:=fun nm h=>by
   obtain ⟨q,hq,rfl⟩:=bN.mp h;exact T9 (ok.row q hq).nm
  refine ⟨_,rfl,nl,rfl,⟨_,cD.of hN⟩,fun D0 hD0=>?_⟩;refine m7 iV gJ (fun _=>(0:Int)) rN (by omega) hD0 ?_ ?_
  ·intro i c v H2 hc rv s2 Qc k;exact ⟨fX,k _ _ (Same.refl _) rfl⟩
  intro H1' s1' rZ;obtain ⟨D0',zvs,ez,hZ,pZ⟩:=id rZ;cases ez;refine ⟨D0,_,rfl,.inl ⟨cD.of hZ,fun tt htt=>⟨by show 2<=sizeLine; decide,fun t0 ht0=>?_⟩⟩⟩;have w1:=aV (o:=.tup zvs) htt;have w2:=aV (o:=.tup [V.int 0,.ref tt]) ht0;generalize hH2:upd (upd H1' tt (.tup zvs)) t0 (.tup [V.int 0,.ref tt])=H2;have st2:lV H2 (.ref t0) (0,(bZ sp).map fun _=>(0:Int)):=by
   rw [<- hH2];exact ⟨t0,_,_,rfl,aD,rfl,tt,_,rfl,w2 _ _ aD,Paired.ig pZ fun _ _ z=>z⟩
  have s02:Same H1 H2:=by rw [<- hH2]; exact (s1'.trans w1).trans w2
  have hN2:=s02 _ _ hN;have s0:=s1.trans s02;have aki:=s0.seq asO;have rs2:=rs.same s0;refine ⟨by show 0<=sizeLine; decide,fun lr hlr=>?_⟩;have wl:=aV (o:=.lst []) hlr;refine ⟨_,rfl,_,rfl,by omega,by omega,?_⟩;refine jo (lo:=0) (n:=((many:Nat):Int).toNat) (fun i σ H'=>akh bw sp H2 t Kr nl lr n many i σ H') ⟨.ref t0,0,_,[],[],none,none,none,none,none,rfl,fU.same st2 wl,by decide,by rw [aq,lN],aD,.nil,rfl,wl⟩ ?_ ?_
  ·rintro i σ H3 lt ⟨u,d,ds,ls,rows,u8,u9,u10,Oe,VL,rfl,st,dp,ld,hl3,pr,lrw,s3⟩;have e0:(0 + (i:Int))=((i:Nat):Int):=Int.zero_add _;rw [e0];refine ⟨_,rfl,_,rfl,_,rfl,_,_,rfl,rfl,Kr,ns,n + i,rfl,s3.seq aki,_,rfl,_,_,rfl,rfl,.inl ⟨by decide,by decide⟩,_,_,rfl,rfl,?_⟩;obtain ⟨cell,hcell⟩:∃ c:Int,(fun i j:Int=>V.int (i + j)) (ns.getD (n + i) 0) (7 * (i:Int))=V.int c:=⟨_,rfl⟩;rw [hcell];refine ⟨_,rfl,_,rfl,_,sp,u,d,ds,rfl,rs2.same s3,ok,rB st,dp,ld,fun H4 l4 s4 rl4=>?_⟩;have hN4:=s4 _ _ (s3 _ _ hN2);have rN4:iI vH H4 (.ref nl) (bZ sp):=⟨nl,_,rfl,hN4,Hv _⟩;refine ⟨_,rfl,nl,rfl,⟨_,cD.of hN4⟩,fun D hD=>?_⟩;refine Fe iV iV (fun nm=>decide (mJ cell nm.length 2=0)) (fun nm=>nm) rN4 (by omega) hD ?_ ?_
   ·intro j nm v5 H5 hj rv s5 Qc Qn k kn;cases rv;have lnm:=asS nm (aR hj);refine ⟨gM,_,rfl,_,rfl,nm,rfl,by omega,cell,_,2,rfl,by decide,fun H6 s6=>⟨rfl,_,rfl,?_⟩⟩
    by_cases z:mJ cell nm.length 2=0
    ·exact eqT z ⟨_,rfl,k (aL z) _ _ s6 rfl⟩
    ·exact Vt z (kn (aG z) _ s6)
   intro H5 s5 r5;obtain ⟨D',rvs,eD,hr5,p5⟩:=r5;cases eD;have e5:=oK p5;rw [List.map_id' _] at e5;generalize er:(bZ sp).filter (fun nm=>decide (mJ cell nm.length 2=0))=r5 at e5;have lr5:r5.length<=8:=by
    rw [<- er];exact bh (length_filter_le _ _) (by omega)
   subst e5;refine ⟨_,rfl,D,_,rfl,cD.of hr5,fun rb hrb=>?_⟩;rw [asL,<- map_take];have w5:=aV (o:=.lst ((r5.take 2).map V.str)) hrb;have s35:=(s4.trans s5).trans w5;have Ua:rb≠lr:=fun z=>by
    have:=(s4.trans s5) _ _ hl3;rw [<- z,hrb] at this;cases this
   refine ⟨fun σ' H'=>∃ (rb:aB) (r:List Str) (u:V) (d:Int) (ds:List Int) (VL:Option V),σ'=[some (.ref t),some (.ref Kr),some (.int ((n:Nat):Int)),some (.int ((many:Nat):Int)),some (.bl bw),some (.ref nl),some u,some (.ref lr),some (.int (i:Int)),some (.int cell),some (.ref l4),some (.ref rb),VL]/\lV H' u (d,ds)/\0<=d/\ds.length=sp.pots.length/\Same H3 H'/\rb≠lr/\H' rb=some (.lst (r.map V.str))/\r.length<=8,?_,?_⟩
   ·
    clear st dp ld s35 w5 Ua hrb rb hr5 p5 s5 H5 D hD rN4 hN4 rl4 s4 H4;rintro σ' H4 ⟨rb,r,u,d,ds,VL,rfl,st,dp,ld,s4,Ua,hrb,lrb⟩;have hN4:=s4 _ _ (s3 _ _ hN2);refine ⟨fun σ' H'=>∃ (rb:aB) (r:List Str),σ'=[some (.ref t),some (.ref Kr),some (.int ((n:Nat):Int)),some (.int ((many:Nat):Int)),some (.bl bw),some (.ref nl),some u,some (.ref lr),some (.int (i:Int)),some (.int cell),some (.ref l4),some (.ref rb),VL]/\Same H4 H'/\rb≠lr/\H' rb=some (.lst (r.map V.str))/\r.length<=20,?_,?_⟩
    ·clear Ua hrb lrb r rb;rintro σ' H5 ⟨rb,r,rfl,s5,Ua,hrb,lrb⟩;have s35:=s4.trans s5;have hl5:=s35 _ _ hl3;have ll:ls.length=i:=by rw [Paired.length pr]; exact lrw
     have fin:∀ H6 rx (r':List Str),Same H5 H6->rx≠lr->H6 rx=some (.lst (r'.map V.str))->r'.length<=20->akh bw sp H2 t Kr nl lr n many (i + 1) [some (.ref t),some (.ref Kr),some (.int ((n:Nat):Int)),some (.int ((many:Nat):Int)),some (.bl bw),some (.ref nl),some u,some (.ref lr),some (.int (i:Int)),some (.int cell),some (.ref l4),some (.ref rb),VL] (upd H6 lr (.lst (ls.map V.ref++[.ref rx]))):=by
      intro H6 rx r' s6 nrx hrx lrx;have hl6:=s6 _ _ hl5;have s36:=s35.trans s6;refine ⟨u,d,ds,ls++[rx],rows++[r'],_,_,_,_,_,rfl,fU.upd (fU.same st (s5.trans s6)) hl6,dp,ld,by rw [aD,bf]; rfl,?_,by rw [aZ,lrw]; rfl,gY (s3.trans s36) hlr⟩;refine iu (Paired.ig pr fun b r h=>?_) (.cons ?_ .nil)
      ·exact ⟨h.1,by rw [bx h.1]; exact s36 _ _ h.2.1,h.2.2⟩
      ·exact ⟨nrx,by rw [bx nrx]; exact hrx,lrx⟩
     have lz:(ls.map V.ref).length < sizeLine:=by rw [aq,ll]; omega
     refine ⟨_,rfl,.inl ⟨rfl,_,cD.of hl5⟩,_,rfl,_,_,rfl,rfl,(by show (0:Int) < 3; decide),rfl,_,rfl,?_⟩
     by_cases z:cell % 3=0
     ·refine eqT z ⟨_,rfl,rb,_,rfl,cD.of hrb,fun q hq=>⟨lr,_,_,rfl,rfl,aV hq _ _ hl5,lz,?_⟩⟩;have nq:q≠lr:=fun z=>by rw [z,hl5] at hq; cases hq
      exact fin _ q r.reverse (aV hq) nq (by rw [aD,List.map_reverse]) (by rw [List.length_reverse]; exact lrb)
     ·exact Vt z ⟨_,rfl,lr,_,_,rfl,rfl,hl5,lz,fin _ rb r (Same.refl _) Ua hrb lrb⟩
    ·intro fin;cases bw with
     | false=>exact ⟨_,rfl,false,rfl,cU (cU (fin _ _ ⟨rb,r,rfl,Same.refl _,Ua,hrb,by omega⟩))⟩
     | true =>
     refine ⟨_,rfl,true,rfl,cQ ⟨_,rfl,cell,7,12,rfl,by decide,fun H5 s5=>⟨rfl,_,rfl,?_⟩⟩⟩;have hN5:=s5 _ _ hN4
     by_cases z:mJ cell 7 12=0
     ·obtain ⟨n0,hn0⟩:∃ n0,(bZ sp)[0]?=some n0:=⟨(bZ sp)[0]'(by omega),aC _⟩;have at0:((bZ sp).map V.str)[0]?=some (.str n0):=by rw [aH,hn0]; rfl
      have a0:K1 ((bZ sp).map V.str) 0=some (.str n0):=fj (j:=0) at0;refine eqT z ?_;refine ⟨_,rfl,_,rfl,nl,_,0,.str n0,rfl,rfl,cD.of hN5,a0,by show 1<=sizeLine; decide,fun l1 h1=>⟨by show 1<=sizeLine; decide,fun l2 h2=>?_⟩⟩;have v1:=aV (o:=.lst [V.str n0]) h1;have v2:=aV (o:=.lst [V.str "zz"]) h2;have hN7:=v2 _ _ (v1 _ _ hN5);refine ⟨_,rfl,nl,_,0,.str n0,rfl,rfl,cD.of hN7,a0,_,rfl,nl,_,0,.str n0,rfl,rfl,cD.of hN7,a0,by show 3<=sizeLine; decide,fun l3 h3=>⟨by show 3<=sizeLine; decide,fun t3 h4=>?_⟩⟩;have v3:=aV (o:=.lst [V.str n0,.str n0,.str "zz"]) h3;have v4:=aV (o:=.tup [V.ref l1,.ref l2,.ref l3]) h4;generalize hH9:upd (upd (upd (upd H5 l1 (.lst [V.str n0])) l2 (.lst [V.str "zz"])) l3 (.lst [V.str n0,.str n0,.str "zz"])) t3 (.tup [V.ref l1,.ref l2,.ref l3])=H9;have s59:Same H5 H9:=by rw [<- hH9]; exact ((v1.trans v2).trans v3).trans v4
      have e9:∃ (lx:aB) (zs:List Str),K1 [V.ref l1,.ref l2,.ref l3] (cell % 3)=some (.ref lx)/\H9 lx=some (.lst (zs.map V.str))/\zs.length<=3:=by
       have hm:cell % 3=0\/cell % 3=1\/cell % 3=2:=by omega
       rcases hm with e | e | e <;> rw [e]
       ·exact ⟨l1,[n0],rfl,by rw [<- hH9]; exact (v2.trans (v3.trans v4)) _ _ aD,by simp⟩
       ·exact ⟨l2,["zz"],rfl,by rw [<- hH9]; exact (v3.trans v4) _ _ aD,by decide⟩
       ·exact ⟨l3,[n0,n0,"zz"],rfl,by rw [<- hH9]; exact v4 _ _ aD,by simp⟩
      have ht9:H9 t3=some (.tup [V.ref l1,.ref l2,.ref l3]):=by rw [<- hH9,aD]
      obtain ⟨lx,zs,ex,hx9,lzs⟩:=e9;refine ⟨_,rfl,_,_,rfl,rfl,(by show (0:Int) < 3; decide),t3,_,_,_,rfl,rfl,dM.of ht9,ex,rb,lx,_,_,rfl,rfl,(s5.trans s59) _ _ hrb,hx9,by rw [aq,aq]; omega,fun p hp=>?_⟩;have np:p≠lr:=fun z=>by rw [z,(s4.trans (s5.trans s59)) _ _ hl3] at hp; cases hp
      exact fin _ _ ⟨p,r++zs,rfl,(s5.trans s59).trans (aV hp),np,by rw [aD,bf],by rw [aZ]; omega⟩
     ·exact Vt z (fin _ _ ⟨rb,r,rfl,s5,Ua,s5 _ _ hrb,by omega⟩)
   ·intro fin;obtain ⟨_,VN,e4,hv4,p4⟩:=id rl4;cases e4;have Ko:=s5.trans w5;have hv5:=Ko _ _ hv4;have Kf:=fU.same st s35;refine ⟨_,rfl,by show 0<=sizeLine; decide,fun l5 h5=>⟨l4,l5,VN,[],0,fun _=>true,rfl,rfl,cD.of (aV h5 _ _ hv5),cD.of aD,by decide,(fun _ j x y _ hy=>by simp at hy),fun le=>⟨false,?_,cU (cU ?_)⟩,fun ne=>⟨true,rfl,cQ ?_⟩⟩⟩
    ·simp
    ·have w6:=aV (o:=.lst []) h5;exact fin _ _ ⟨rb,r5.take 2,u,d,ds,_,rfl,fU.same Kf w6,dp,ld,s35.trans w6,Ua,w6 _ _ aD,by rw [length_take]; omega⟩
    have w6:=aV (o:=.lst []) h5;have l4p:0 < VN.length:=by
     have:VN.length≠0:=ne;omega
    refine ⟨_,rfl,cell,5,8,rfl,by decide,fun H6 s6=>⟨_,_,rfl,rfl,_,rfl,?_⟩⟩;have s36:=s35.trans (w6.trans s6);have hv6:=(w6.trans s6) _ _ hv5
    by_cases z:0 < mJ cell 5 8
    ·rw [aL z];refine cQ ?_;refine ⟨_,rfl,_,rfl,_,rfl,l4,_,rfl,.inl (cD.of hv6),cell,6,_,rfl,by omega,fun H7 s7=>?_⟩;have s37:=s36.trans s7;have d0:=Ac cell 6 (m:=((VN.length:Nat):Int)) (by omega);have d1:=Ad cell 6 (m:=((VN.length:Nat):Int)) (by omega);obtain ⟨jn,ej⟩:∃ jn:Nat,mJ cell 6 ((VN.length:Nat):Int)=(jn:Int):=⟨(mJ cell 6 ((VN.length:Nat):Int)).toNat,by omega⟩;have lv4:VN.length=(pJ sp d ds).length:=Paired.length p4;obtain ⟨c,hc⟩:∃ c,(pJ sp d ds)[jn]?=some c:=⟨(pJ sp d ds)[jn]'(by omega),aC _⟩;obtain ⟨cv,hcv,rc⟩:=iw p4 hc;have cok:=Ov ok.w1 ld (aR hc);have rc7:=rm.same rc (Ko.trans ((w6.trans s6).trans s7));obtain ⟨tc,c1,c2,rfl,htc,rc1,rc2⟩:=id rc7;cases rc1;refine ⟨l4,_,_,_,rfl,rfl,cD.of (s7 _ _ hv6),?_,tc,_,rfl,dM.of htc,rfl,_,_,rfl,_,_,rfl,rfl,?_⟩
     ·rw [ej];exact fj hcv
     have hN7:=s37 _ _ (s3 _ _ hN2);refine ⟨_,rfl,nl,_,rfl,.inl (cD.of hN7),_,rfl,by rw [aq]; omega,by rw [aq]; omega,fun D2 hD2=>?_⟩;rw [show ((bZ sp).map V.str).length=sp.pots.length by rw [aq,lN]];refine kZ (R:=JN) (S:=vH) iV (xs:=List.range sp.pots.length) (fun k=>fG c.1 (k:Int)) (fun k=>(bZ sp).getD k "") (fun _=>True) (by rw [bA]; omega) hD2 (fun k H' lt _=>by rw [bA] at lt; show k < ((sp.pots.length:Nat):Int).toNat; omega) (fun H' _=>by rw [bA]; show ((sp.pots.length:Nat):Int).toNat<=sp.pots.length; omega) ?_ ?_ ?_
     ·rintro k x v H8 H9 hx _ ⟨rfl,rfl⟩;rw [List.getElem?_range (by have:=(aX.mp hx).1; rw [bA] at this; exact this)] at hx;cases hx;exact ⟨Same.refl _,by show V.int (0 + (k:Int))=V.int (k:Int); rw [Int.zero_add]⟩
     ·intro k x v H8 hx rv s8 Qc Qn kk kn;cases rv;have lx:x < sp.pots.length:=mem_range.mp (aR hx);refine ⟨gM,_,rfl,_,rfl,_,_,rfl,rfl,(by show (0:Int)<=(x:Int); omega),_,_,rfl,rfl,rfl,_,rfl,?_⟩;rw [Tt]
      show if fG c.1 (x:Int)=true then _ else _
      cases hb:fG c.1 (x:Int) with
      | true =>
       have ha:((bZ sp).map V.str)[x]?=some (.str ((bZ sp).getD x "")):=by
        rw [aH,aC (by omega)];simp [lx]
       exact cQ ⟨_,rfl,_,rfl,nl,_,_,_,rfl,rfl,cD.of (s8 _ _ hN7),fj ha,kk hb trivial _ _ (Same.refl _) rfl⟩
      | false=>exact cU (kn hb _ (Same.refl _))
     intro H8 s8 _ r8;obtain ⟨D2',vs8,e8,hv8,p8⟩:=r8;cases e8;have e8:=oK p8;subst e8;have nD:D2≠lr:=fun z=>by rw [z,s37 _ _ hl3] at hD2; cases hD2
     refine fin _ _ ⟨D2,_,c2,c.2.1,c.2.2,_,rfl,fU.same rc2 s8,cok.1,cok.2,s37.trans s8,nD,hv8,?_⟩;rw [aq];exact bh (length_filter_le _ _) (by rw [bA]; exact n8)
    ·rw [aG z];exact cU (fin _ _ ⟨rb,r5.take 2,u,d,ds,_,rfl,fU.same Kf (w6.trans s6),dp,ld,s36,Ua,(w6.trans s6) _ _ aD,by rw [length_take]; omega⟩)
  ·rintro σ H3 ⟨u,d,ds,ls,rows,u8,u9,u10,Oe,VL,rfl,st,dp,ld,hl3,pr,lrw,s3⟩;refine ⟨_,rfl,q H3 lr rows (s0.trans s3) ⟨lr,ls,rfl,hl3,Paired.ig pr fun _ _ z=>z.2.1⟩ (by rw [lrw]; simp) fun r hr=>?_⟩;obtain ⟨k,hk⟩:=List.mem_iff_getElem?.mp hr;obtain ⟨b,_,hb⟩:=iw pr hk;exact hb.2.2
end
section
variable {X:Cx}
theorem J6 (K:Fg) (hK:autoParam (X.K=K) zau0):gw X (.builtin "isinstance") (fun xs H Q=>∃ e C c cv b,xs=[.ref e,c]/\RelV c cv/\(∃ C',c=.ref C'\/∃ T,c=.ty T)/\H e=some (kE e (.ref C) none)/\Jg K C/\kitOne K (.ref C) cv=some b/\Q (.bl b) H):=by
 subst hK;exact ju
theorem Ie (K:Fg) (hu:X.A.units + 64 < cLine) (hK:autoParam (X.K=K) zau0):lE X (compareOp .Eq) (Ji K false):=by
 subst hK;exact acr hu
end
section
variable {P:cA} {w:World} {K:Fg} {mg:Str->Option aA} {base:Heap} {a:fW} {dV:aA}
theorem Dt {D:Ends} {σ:St} {i:Nat} (x5:XC K a a.cM 5) {H1:Hp} {e:aB} (he:H1 e=none) (hσ:σ[i]?=some (some (.ref e))) (q:∀ H',Same H1 H'->D.rt (.bl true) H') : aiG (U6 (tOp (Ji K false) (xW (zY K a) [] (fun _ _ _=>False) (uz (Kz i) Es)) (tOp ai0 (tOp ai1 (ab5 (Lz [V.bl false])) (tC (.int 5))) (ab5 (Lz [V.bl true])))) (tCB (fun xs H Q=>∃ e C c cv b,xs=[.ref e,c]/\RelV c cv/\(∃ C',c=.ref C'\/∃ T,c=.ty T)/\H e=some (kE e (.ref C) none)/\Jg K C/\kitOne K (.ref C) cv=some b/\Q (.bl b) H) (uz (Kz i) (uz (tC (.ty "ValueError")) Es)))) D σ (upd H1 e (kE e (.ref a.cM) none)):=by
 have s0:=aV (o:=kE e (.ref a.cM) none) he;refine ⟨_,hσ,e,a.cM,5,rfl,aD,x5,fun H2 l s2 hl=>?_⟩;refine ⟨by show 1<=sizeLine; decide,fun l1 hl1=>⟨l1,5,_,rfl,rfl,aD,by decide,by decide,by show 5<=sizeLine; decide,fun l2 hl2=>⟨by show 1<=sizeLine; decide,fun l3 hl3=>?_⟩⟩⟩;have u1:=aV (o:=.lst [V.bl false]) hl1;have u2:=aV (o:=.lst (List.replicate (5:Int).toNat [V.bl false]).flatten) hl2;have u3:=aV (o:=.lst [V.bl true]) hl3;refine ⟨l2,l3,_,_,rfl,rfl,u3 _ _ aD,aD,by show 6<=sizeLine; decide,fun l4 hl4=>?_⟩;have u4:=aV (o:=.lst ((List.replicate (5:Int).toNat [V.bl false]).flatten++[V.bl true])) hl4;have sA:=((u1.trans u2).trans u3).trans u4;refine ⟨l,l4,hot 5,hot 5,0,fun _=>true,rfl,rfl,cD.of (sA _ _ hl),cD.of aD,by decide,fun _ j x y e1 e2=>?_,fun _=>⟨true,rfl,cQ ?_⟩,fun z=>absurd rfl z⟩
 ·rw [e1] at e2;cases e2;exact jd (all_eq_true.mp (show (hot 5).all fL=true from rfl) x (aR e1))
 ·exact ⟨_,hσ,e,a.cM,.ty "ValueError",_,_,rfl,rfl,⟨e,.inr ⟨_,rfl⟩⟩,sA _ _ (s2 _ _ aD),x5.t,x5.v,q _ ((s0.trans s2).trans sA)⟩
end
abbrev rC:cY:=top 53
abbrev asV:List Str:=["_law_garden_here","_law_spec_here","_law_rows_here","_law_state","_law_first","_law_way","_law_due","_law_handed","_law_found","_law_error","_law_told_here"]
section
variable {P:cA} {w:World} {K:Fg} {mg:Str->Option aA} {base:Heap} {a:fW} {dV:aA}
noncomputable def Ig:Sp:=fun vs H Q _=>∃ t,vs=[.ref t]/\((∃ u,H t=some (.tup [.str "kept",u])/\∀ H' t',Same H H'->H' t'=some (.tup [.bl true,u])->Q (.ref t') H') \/ (∃ n nm,H t=some (.tup [.str "dry",.int n,.str nm])/\∀ H' t',Same H H'->H' t'=some (.tup [.bl false,.int n,.str nm])->Q (.ref t') H'))
theorem Ub:bQ ["_law_due"] ["_law_due"] (aW wB):=dN (by decide +kernel)
theorem Ox {f:aB} {fd:dW} (F:mO K "_law_told" "_law_told" wB f fd):cG P w K mg base (fu P w) 1 f fd ["_law_due"] Ig:=by
 refine F.lO Ub (fun vs H Q E h=>?_) (fun cdv A outer s H vs Q E hr h=>?_)
 ·obtain ⟨t,rfl,_⟩:=h;rfl
 ·obtain ⟨t,rfl,h⟩:=h;refine ⟨_,aK (dG (bV gQ (cZ dJ (pv 0) aM (fun _ _=>rfl)) dR (cB _)) (aU (bY (dX (ao iZ (ao (cZ dJ (pv 0) aM (fun _ _=>rfl)) aF))))) bU) (aU (bY (dX (ao iZ (ao (cZ dJ (pv 0) aM (fun _ _=>rfl)) (ao (cZ dJ (pv 0) aM (fun _ _=>rfl)) aF)))))),?_⟩;rcases h with ⟨u,ht,q⟩ | ⟨n,nm,ht,q⟩
  ·refine ⟨_,rfl,t,_,0,.str "kept",rfl,rfl,dM.of ht,rfl,rfl,_,rfl,?_⟩;rw [aL rfl];exact cQ ⟨_,rfl,t,_,1,u,rfl,rfl,dM.of ht,rfl,by show 2<=sizeLine; decide,fun t4 h4=>q _ t4 (aV h4) aD⟩
  ·refine ⟨_,rfl,t,_,0,.str "dry",rfl,rfl,dM.of ht,rfl,rfl,_,rfl,?_⟩;rw [aG (by decide)];exact cU ⟨_,rfl,t,_,1,.int n,rfl,rfl,dM.of ht,rfl,_,rfl,t,_,2,.str nm,rfl,rfl,dM.of ht,rfl,by show 3<=sizeLine; decide,fun t4 h4=>q _ t4 (aV h4) aD⟩
theorem lZ (n:Nat):(List.range n).all (fun _=>true)=true:=by
 rw [all_eq_true];intro _ _;rfl
theorem Uc {H:Hp} {b c:aB} {r:List Str} (hb:H b=some (.lst (r.map V.str))) (hc:H c=some (.lst (r.map V.str))):vC K H 1 (.ref b) (.ref c) true:=by
 by_cases e:b=c
 ·subst e;exact .self
 ·have:=vC.lst (K:=K) (H:=H) (n:=0) (e:=fun _=>true) e (cD.of hb) (cD.of hc) rfl fun j x y hx hy=>by
   rw [hx] at hy;cases hy;rw [aH] at hx;obtain ⟨s,_,rfl⟩:=bB.mp hx;exact jd rfl
  rw [lZ] at this;exact this
theorem adA {H:Hp} {u v:V} {d:Int} {ds:List Int} (hu:je H u d ds) (hv:je H v d ds):vC K H 2 u v true:=by
 obtain ⟨t,s,rfl,ht,hs⟩:=hu;obtain ⟨t',s',rfl,ht',hs'⟩:=hv;have inner:vC K H 1 (.ref s) (.ref s') true:=by
  by_cases e:s=s'
  ·subst e;exact .self
  ·have:=vC.tup (K:=K) (H:=H) (n:=0) (e:=fun _=>true) e (dM.of hs) (dM.of hs') fun j x y hx hy=>by
    rw [hx] at hy;cases hy;rw [aH] at hx;obtain ⟨i,_,rfl⟩:=bB.mp hx;exact jd rfl
   rw [lZ] at this;simpa using this
 by_cases e:t=t'
 ·subst e;exact .self
 ·have:=vC.tup (K:=K) (H:=H) (n:=1) (e:=fun _=>true) e (dM.of ht) (dM.of ht') fun j x y hx hy=>by
   match j with
   | 0=>cases hx; cases hy; exact jd rfl
   | 1=>cases hx; cases hy; exact inner
   | j + 2=>simp at hx
  rw [lZ] at this;simpa using this
theorem Ag {H:Hp} {l m:aB} {rows:List (List Str)} (hl:jT H (.ref l) rows) (hm:jT H (.ref m) rows):∃ ls ms:List aB,cD K H l (ls.map V.ref)/\cD K H m (ms.map V.ref)/\(ls.map V.ref).length=(ms.map V.ref).length/\∀ (j:Nat) x y,(ls.map V.ref)[j]?=some x->(ms.map V.ref)[j]?=some y->vC K H 1 x y true:=by
 obtain ⟨_,ls,e1,h1,p1⟩:=hl;obtain ⟨_,ms,e2,h2,p2⟩:=hm;cases e1;cases e2;refine ⟨ls,ms,cD.of h1,cD.of h2,by rw [aq,aq,Paired.length p1,Paired.length p2],fun j x y hx hy=>?_⟩;rw [aH] at hx hy;obtain ⟨b,hb,rfl⟩:=bB.mp hx;obtain ⟨c,hc,rfl⟩:=bB.mp hy;obtain ⟨r,hr,er⟩:=dz p1 hb;obtain ⟨r',hr',er'⟩:=dz p2 hc;rw [hr] at hr';cases hr';exact Uc er er'
theorem Ia.same {H H':Hp} {t:aB} {k:Wk} (h:Ia H t k) (s:Same H H'):Ia H' t k:=by
 cases k with
 | kept d ds =>
  obtain ⟨u,h1,h2⟩:=h;exact ⟨u,s _ _ h1,h2.same s⟩
 | dry n nm=>exact s _ _ h
 | bad n=>exact s _ _ h
 | none n=>exact s _ _ h
def Oz (H:Hp) (t:aB):Wk->Prop
 | .kept d ds=>∃ u,H t=some (.tup [.bl true,u])/\je H u d ds
 | .dry n nm=>H t=some (.tup [.bl false,.int (n:Nat),.str nm])
 | _=>False
def Raised (a:fW) (H:Hp) (k:Wk):XK:=fun cls dx H'=>Same H H'/\((∃ n NP,k=.bad n/\cls=.ref a.cj/\dx=some NP/\H' NP=some (.xd [("day",.int (n:Nat))]))\/(∃ n,k=.none n/\cls=.ref a.dU/\dx=none))
theorem post_of {H:Hp} {Q:VK} {k:Wk} (h:∀ t' H',Same H H'->Oz H' t' k->Q (.ref t') H'):sG a H Q (Raised a H k) k:=by
 cases k with
 | kept d ds=>exact fun H' t u s ht st=>h t H' s ⟨u,ht,st⟩
 | dry n nm=>exact fun H' t s ht=>h t H' s ht
 | bad n=>exact fun H' dx s hd=>⟨s,.inl ⟨n,dx,rfl,rfl,rfl,hd⟩⟩
 | none n=>exact fun H' s=>⟨s,.inr ⟨n,rfl,rfl,rfl⟩⟩
def PR2 (D:aB) (H:Hp) (b:aB) (r:List Str):Prop:=b≠D/\H b=some (.lst (r.map V.str))
theorem Ah (sp:gR):jz (nQ sp)=mL sp:=by
 unfold jz mL;rw [adv];rfl
structure OD (K:Fg) (mg:Str->Option aA) (a:fW) (dV:aA):Prop where
 Pl:Hw K mg a dV
 Z:adl K mg a
 wa:∃ f fd,Fn K "_law_walked" "_law_walked" lY ["_law_spec_here","_law_rows_here","_law_state","_law_first"] f fd/\mg "_law_walked"=some (.ref f)
 be:∃ f fd,Fn K "_law_behind" "_law_behind" iW ["_law_spec_here","_law_state","_law_wet"] f fd/\mg "_law_behind"=some (.ref f)
 to:∃ f fd,Fn K "_law_told" "_law_told" wB ["_law_due"] f fd/\mg "_law_told"=some (.ref f)
 ke:∃ f fd,Fn K "kept" "kept" Df ["garden","rows"] f fd/\mg "kept"=some (.ref f)
noncomputable def Ih (a:fW):Sp:=fun vs H Q _=>∃ x v sp rv rows u d ds f way,vs=[.ref x,v,rv,u,.int ((f:Nat):Int),.int way]/\jU H v sp/\eU sp/\jy a H x (nQ sp)/\jT H rv rows/\rows.length<=9000/\(∀ r ∈ rows,r.length<=1000)/\je H u d ds/\JF sp.week (cC sp.pots) d ds/\f < 2 ^ 61 /\ (way=0->f=0/\d=0/\ds=List.replicate sp.pots.length 0)/\∀ H',Same H H'->Q (.bl true) H'
theorem jV:bQ asV ["_law_garden_here","_law_spec_here","_law_rows_here","_law_state","_law_first","_law_way"] (aW rC):=dN (by decide +kernel)
theorem OJ {f:aB} {fd:dW} (F:mO K "_law_right" "_law_right" rC f fd) (X:OD K mg a dV):cG P w K mg base (fu P w) 6 f fd ["_law_garden_here","_law_spec_here","_law_rows_here","_law_state","_law_first","_law_way"] (Ih a):=by
 refine F.lO jV (fun vs H Q E h=>?_) (fun cdv A outer s H vs Q E hr h=>?_)
 ·obtain ⟨x,v,sp,rv,rows,u,d,ds,n,way,rfl,_⟩:=h;rfl
 ·obtain ⟨x,v,sp,rv,rows,u,d,ds,n,way,rfl,rs,ok,gx,rr,lr,lrr,st,sok,ln,w0,q⟩:=h;have Zt:=X.Z;have N:=Zt.N;have B:=X.Pl.W.S.Z.G.T.B;obtain ⟨fw,dw,wF,mW⟩:=X.wa;obtain ⟨fb,db,bF,mB⟩:=X.be;obtain ⟨ft,dt,tF,mT⟩:=X.to;obtain ⟨fk,dk,kF,mK⟩:=X.ke;obtain ⟨ff,df,dv,t0,fF,b1,b0,mF⟩:=X.Pl.fol;obtain ⟨fr,dr,rF,mR⟩:=Zt.rf;have okw:cG P w K mg base (fu P w) 2 fw dw ["_law_spec_here","_law_rows_here","_law_state","_law_first"] Ds:=J1 wF.F B bF mB;have okt:cG P w K mg base (fu P w) 1 ft dt ["_law_due"] Ig:=Ox tF.F;have okk:cG P w K mg base (fu P w) 5 fk dk ["garden","rows"] (N6 K a):=TX kF.F X.Pl;have okf:cG P w K mg base (fu P w) 4 ff df ["garden","rows","state","first"] (Hx K a):=FQ fF X.Pl;have okr:qM P w K mg base (fu P w) 2 fr dr ["_law_error"] (yM a):=FT rF.F Zt;have hr1:d7 1 _:=hr.mono (by decide);have hr2:d7 2 _:=hr.mono (by decide);have hr4:d7 4 _:=hr.mono (by decide);have hr5:d7 5 _:=hr.mono (by decide);have v0:Vals [V.int ((0:Nat):Int)] [Value.int 0 t0]:=.cons ⟨t0,rfl⟩ .nil;have nd1:[("_law_row":Str)].Nodup:=by decide +kernel
  have kK:=kF.F.kp;have bK:=kF.b;have kF':=fF.kp;refine ⟨_,aK (bO (i:=6) jV.nd rfl (Or.inl rfl) (dH okw hr2 mW wF.F.kp wF.b bG (ao (pv 1) (ao (pv 2) (ao (pv 3) (ao (pv 4) aF)))))) (aK (qL (i:=7) jV.nd rfl (Or.inl rfl) bL rfl ⟨_,_,rfl,rfl,rfl⟩ (fZ.plain (N':=["_law_row"]) rfl (by decide +kernel) (by decide +kernel)) (eG (pv 2)) (fun _ _ _ _ _=>cV 0 nd1) (fun _ _ _ _ _=>f9) (fun _ _ _ _ _ _=>uH (xK K) B.list boot_list (ao (pv 0) aF))) (Af (Sy (hit:=fun cls=>exmOne K cls (.ref a.pA)=some true) rfl ⟨_,_,rfl,rfl,rfl⟩ jV.nd (i:=9) rfl rfl (by rfl) N.ge (fun _ h=>h) (fun E' mQ Eb σ acc=>ni (Mw (bV gQ (pv 5) aM (cB _)) (ni (zU (i:=8) jV.nd rfl (Or.inl rfl) (vN okk hr5 mK kK bK .nil acc (ao (pv 0) (ao (pv 7) aF))))) (ni (Mw (bV gQ (pv 4) aM (cB _)) (ni (zU (i:=8) jV.nd rfl (Or.inl rfl) (vN okf hr4 mF kF' b0 v0 acc (ao (pv 0) (ao (pv 7) (ao (pv 3) aF)))))) (ni (zU (i:=8) jV.nd rfl (Or.inl rfl) (vN okf hr4 mF kF' b1 .nil acc (ao (pv 0) (ao (pv 7) (ao (pv 3) (ao (pv 4) aF))))))))))) (fun e=>aK (bO (i:=10) jV.nd rfl (Or.inl rfl) (vo okr (jO.mark (hr.mono (by decide)).toH) (by rfl) mR rF.F.kp rF.b .nil bG (ao (pv 9) aF))) (aU (bY (uV (jN (Ie K hr.units) (pv 7) (pv 2) (cB _)) (uV (jN Rr (pv 10) oW (cB _)) (Ef (jN (SJ K hr.units) (pv 10) (j9 (bV gQ (cZ (qQ K) (pv 6) aM (fun _ _=>rfl)) dR (cB _)) (pv 6) (dX (ao (cZ (qQ K) (pv 6) aM (fun _ _=>rfl)) (ao (Ax uX aM) aF)))) (cB _))))))))) (aK (dG (pw_or (bV gQ (cZ dJ (pv 6) aM (fun _ _=>rfl)) dR (cB _)) (pw_or (bV gQ (cZ dJ (pv 6) aM (fun _ _=>rfl)) dR (cB _)) (pw_or1 (bV (EY hr.units) (pv 7) (pv 2) (cB _))))).pt (aU (bY iZ)) bU) (aU (bY (uV (jW .tuple B.isinstance B.tuple (pv 8)) (uV (jW .bool B.isinstance B.bool (cZ dJ (pv 8) aM (fun _ _=>rfl))) (Ef (jN (Lr hr.units) (pv 8) (dH okt hr1 mT tF.F.kp tF.b bG (ao (pv 6) aF)) (cB _)))))))))),?_⟩;have big:9000<=sizeLine:=by decide
  have lds:ds.length=sp.pots.length:=by rw [sok.len]; exact dZ _
  refine ⟨_,rfl,_,rfl,_,rfl,_,rfl,v,sp,rv,rows,u,d,ds,n,rfl,rs,ok,rr,lr,lrr,st,sok.d0,lds,fun H1 t s1 hw=>?_⟩;obtain ⟨rl,ls,rfl,hrl,Km⟩:=id (rr.same s1);have lls:ls.length=rows.length:=Paired.length Km;refine ⟨_,rfl,rl,rfl,⟨_,cD.of hrl⟩,fun D hD=>?_⟩;refine kO rows.length (by omega) (fun i acc H'=>Same H1 H'/\H' D=some (.lst acc)/\∃ ms:List aB,acc=ms.map V.ref/\Paired (PR2 D H') ms (rows.take i)) ⟨aV hD,aD,[],rfl,by rw [take_zero]; exact .nil⟩ (fun i acc H' le ⟨_,e,ms,ea,p⟩=>⟨by rw [ea,aq,Paired.length p,length_take]; omega,e⟩) ?_ ?_
  ·rintro acc H2 ⟨s2,hD2,ms,rfl,p⟩;rw [bI] at p;refine ⟨⟨_,cD.of (s2 _ _ hrl),by rw [aq,lls]; exact aN _⟩,?_⟩;have s12:=s1.trans s2;have rr2:jT H2 (.ref rl) rows:=(rr.same s1).same s2;have rd2:jT H2 (.ref D) rows:=⟨D,ms,rfl,hD2,Paired.ig p fun _ _ z=>z.2⟩;have hw2:=hw.same s2;have st2:=st.same s12;have gx2:=gx.same s12;have fit:TV (nQ sp):=⟨ok.w1,ok.c1,by show (cC sp.pots).length<=8; rw [dZ]; exact ok.n8⟩;generalize hk:mL sp rows n d ds=k at hw2;refine ⟨fun σ' H'=>∃ t',σ'=[some (.ref x),some v,some (.ref rl),some u,some (.int ((n:Nat):Int)),some (.int way),some (.ref t),some (.ref D),some (.ref t'),none,none]/\Same H2 H'/\Oz H' t' k,?_,?_⟩
   ·
    rintro σ' H3 ⟨t',rfl,s3,rf⟩;have T8:=hw2.same s3;obtain ⟨as,bs,qa,qb,ql,qd⟩:=Ag (K:=K) (rd2.same s3) (rr2.same s3);cases k with
    | kept d' ds' =>
     obtain ⟨u0,T8,stu⟩:=T8;obtain ⟨u',ht',asZ⟩:=rf;refine ⟨_,rfl,t,_,0,.str "kept",rfl,rfl,dM.of T8,rfl,rfl,_,rfl,?_⟩;rw [aG (by decide)];refine cU ⟨_,rfl,t,_,0,.str "kept",rfl,rfl,dM.of T8,rfl,rfl,_,rfl,?_⟩;rw [aG (by decide)];refine cU ⟨_,rfl,_,rfl,D,rl,_,_,1,fun _=>true,rfl,rfl,qa,qb,by decide,fun _=>qd,fun _=>⟨false,?_,cU ?_⟩,fun z=>absurd ql z⟩
     ·rw [lZ]; rfl
     refine ⟨_,rfl,.ref t',.tup,rfl,⟨t',_,rfl,ht'⟩,true,rfl,cQ ⟨_,rfl,t',_,0,.bl true,rfl,rfl,dM.of ht',rfl,.bl true,.bl,rfl,⟨true,rfl⟩,true,rfl,cQ ⟨_,rfl,_,rfl,t,rfl,.inl ⟨u0,T8,fun H4 t4 s4 ht4=>?_⟩⟩⟩⟩;refine ⟨t',t4,_,_,2,fun _=>true,rfl,rfl,dM.of (s4 _ _ ht'),dM.of ht4,by decide,fun j x y hx hy=>?_,q _ ((s12.trans s3).trans s4)⟩
     match j with
     | 0=>cases hx; cases hy; exact jd rfl
     | 1=>cases hx; cases hy; exact adA (asZ.same s4) (stu.same s4)
     | j + 2=>simp at hx
    | dry m nm =>
     refine ⟨_,rfl,t,_,0,.str "dry",rfl,rfl,dM.of T8,rfl,rfl,_,rfl,?_⟩;rw [aG (by decide)];refine cU ⟨_,rfl,t,_,0,.str "dry",rfl,rfl,dM.of T8,rfl,rfl,_,rfl,?_⟩;rw [aG (by decide)];refine cU ⟨_,rfl,_,rfl,D,rl,_,_,1,fun _=>true,rfl,rfl,qa,qb,by decide,fun _=>qd,fun _=>⟨false,?_,cU ?_⟩,fun z=>absurd ql z⟩
     ·rw [lZ]; rfl
     refine ⟨_,rfl,.ref t',.tup,rfl,⟨t',_,rfl,rf⟩,true,rfl,cQ ⟨_,rfl,t',_,0,.bl false,rfl,rfl,dM.of rf,rfl,.bl false,.bl,rfl,⟨false,rfl⟩,true,rfl,cQ ⟨_,rfl,_,rfl,t,rfl,.inr ⟨_,nm,T8,fun H4 t4 s4 ht4=>?_⟩⟩⟩⟩;refine ⟨t',t4,_,_,0,fun _=>true,rfl,rfl,dM.of (s4 _ _ rf),dM.of ht4,by decide,fun j x y hx hy=>?_,q _ ((s12.trans s3).trans s4)⟩;rw [hx] at hy;cases hy;exact jd (all_eq_true.mp (show ([V.bl false,.int (m:Nat),.str nm]:List V).all fL=true from rfl) x (aR hx))
    | bad m=>exact rf.elim
    | none m=>exact rf.elim
   ·intro fin;refine ⟨Raised a H2 k,?_,?_⟩
    ·rintro cls dx H3 ⟨s3,h3⟩;rcases h3 with ⟨m,NP,ek,rfl,rfl,hdx⟩ | ⟨m,ek,rfl,rfl⟩
     ·refine ⟨Zt.x3.m,fun e he=>?_⟩;have s4:=aV (o:=kE e (.ref a.cj) (some NP)) he;rw [ek] at hw2;have Kq:=s3.trans s4;refine ⟨_,rfl,e,"bad",_,rfl,.bad ⟨NP,aD,s4 _ _ hdx⟩,fun H5 t5 s5 ht5=>?_⟩;have Ud:=Kq.trans s5;have Qh:=Ud _ _ hw2;obtain ⟨as,bs,qa,qb,ql,qd⟩:=Ag (K:=K) (rd2.same Ud) (rr2.same Ud);refine ⟨_,rfl,_,rfl,D,rl,_,_,1,fun _=>true,rfl,rfl,qa,qb,by decide,fun _=>qd,fun _=>⟨true,?_,cQ ?_⟩,fun z=>absurd ql z⟩
      ·rw [lZ]; rfl
      refine ⟨_,rfl,rfl,true,rfl,cQ ⟨_,rfl,_,rfl,t,_,0,.str "bad",rfl,rfl,dM.of Qh,rfl,rfl,_,rfl,?_⟩⟩;rw [aL rfl];refine cQ ⟨_,rfl,t5,t,_,_,0,fun _=>true,rfl,rfl,dM.of ht5,dM.of Qh,by decide,fun j x y hx hy=>?_,q _ (s12.trans Ud)⟩;rw [hx] at hy;cases hy;exact jd (all_eq_true.mp (show ([V.str "bad",.int (m:Nat)]:List V).all fL=true from rfl) x (aR hx))
     ·refine ⟨Zt.x2.m,fun e he=>?_⟩;have s4:=aV (o:=kE e (.ref a.dU) none) he;rw [ek] at hw2;have Kq:=s3.trans s4;refine ⟨_,rfl,e,"none",_,rfl,.none aD,fun H5 t5 s5 ht5=>?_⟩;have Ud:=Kq.trans s5;have Qh:=Ud _ _ hw2;obtain ⟨as,bs,qa,qb,ql,qd⟩:=Ag (K:=K) (rd2.same Ud) (rr2.same Ud);refine ⟨_,rfl,_,rfl,D,rl,_,_,1,fun _=>true,rfl,rfl,qa,qb,by decide,fun _=>qd,fun _=>⟨true,?_,cQ ?_⟩,fun z=>absurd ql z⟩
      ·rw [lZ]; rfl
      refine ⟨_,rfl,rfl,true,rfl,cQ ⟨_,rfl,_,rfl,t,_,0,.str "none",rfl,rfl,dM.of Qh,rfl,rfl,_,rfl,?_⟩⟩;rw [aG (by decide)];refine cU ⟨_,rfl,t,_,0,.str "none",rfl,rfl,dM.of Qh,rfl,_,rfl,by show 2<=sizeLine; decide,fun t6 h6=>?_⟩;have w6:=aV (o:=.tup [V.str "none",.int (-1)]) h6;refine ⟨t5,t6,_,_,0,fun _=>true,rfl,rfl,dM.of (w6 _ _ ht5),dM.of aD,by decide,fun j x y hx hy=>?_,q _ ((s12.trans Ud).trans w6)⟩;rw [hx] at hy;cases hy;exact jd (all_eq_true.mp (show ([V.str "none",.int (-1)]:List V).all fL=true from rfl) x (aR hx))
    ·refine ⟨_,rfl,rfl,_,rfl,?_⟩
     by_cases z0:way=0
     ·have uN:∀ p ∈ (nQ sp).pots,p.Ok:=fun p hp=>by
       obtain ⟨q,hq,rfl⟩:=bN.mp hp;exact v9 (ok.row q hq)
      refine eqT z0 ⟨_,rfl,_,rfl,x,nQ sp,_,rows,rfl,gx2,fit,uN,rd2,lr,lrr,?_⟩;obtain ⟨e1,e2,e3⟩:=w0 z0;have ek:jz (nQ sp) rows 0 0 (List.replicate (nQ sp).pots.length 0)=k:=by
       rw [Ah,<- hk,e1,e2,e3]
       show mL sp rows 0 0 (List.replicate (cC sp.pots).length 0)=_
       rw [dZ]
      rw [ek];exact post_of fun t' H' s' rf=>fin _ _ ⟨t',rfl,s',rf⟩
     ·refine Vt z0 ⟨_,rfl,rfl,_,rfl,?_⟩
      by_cases z1:((n:Nat):Int)=0
      ·have en:n=0:=by omega
       refine eqT z1 ⟨_,rfl,_,rfl,_,rfl,x,nQ sp,_,rows,u,true,0,rfl,gx2,fit,rd2,lr,lrr,by decide,st2.arg sok,(fun z=>nomatch z),fun _ d' ds' sv _=>?_⟩;obtain ⟨rfl,rfl⟩:=sv.one st2;have ek:jz (nQ sp) rows 0 d' ds'=k:=by rw [Ah,<- hk,en]
       rw [ek];exact post_of fun t' H' s' rf=>fin _ _ ⟨t',rfl,s',rf⟩
      ·refine Vt z1 ⟨_,rfl,_,rfl,_,rfl,_,rfl,x,nQ sp,_,rows,u,true,n,rfl,gx2,fit,rd2,lr,lrr,ln,st2.arg sok,(fun z=>nomatch z),fun _ d' ds' sv _=>?_⟩;obtain ⟨rfl,rfl⟩:=sv.one st2;have ek:jz (nQ sp) rows n d' ds'=k:=by rw [Ah,<- hk]
       rw [ek];exact post_of fun t' H' s' rf=>fin _ _ ⟨t',rfl,s',rf⟩
  ·rintro i acc H' lt ⟨s',e,ms,rfl,p⟩;obtain ⟨r,hr'⟩:∃ r,rows[i]?=some r:=⟨rows[i],aC lt⟩;obtain ⟨rb,hrb,er⟩:=iw Km hr';have hla:(ls.map V.ref)[i]?=some (.ref rb):=by rw [aH,hrb]; rfl
   refine ⟨⟨_,.ref rb,cD.of (s' _ _ hrl),hla⟩,?_⟩;rintro y yq ⟨rfl,hy⟩ Qc k;have ey:=hy _ (cD.of (s' _ _ hrl));rw [hla] at ey;cases ey;refine ⟨fX,_,rfl,rb,_,rfl,.inl (cD.of (s' _ _ er)),fun l' hl'=>?_⟩;have z:=aV (o:=.lst (r.map V.str)) hl';have nl:l'≠D:=fun y=>by rw [y,e] at hl'; cases hl'
   refine k _ _ (z _ _ e) ⟨kY (s'.trans z) hD,aD,ms++[l'],by rw [bf]; rfl,?_⟩;rw [take_snoc hr'];exact iu (Paired.ig p fun b r h=>⟨h.1,by rw [bx h.1]; exact z _ _ h.2⟩) (.cons ⟨nl,by rw [bx nl,aD]⟩ .nil)
end
def InC (ps:List Int) (c:List Int):Prop:=c.length=ps.length/\∀ (i:Nat) y g,c[i]?=some y->ps[i]?=some g->0<=y/\y < g
theorem O1 {ps c:List Int} {g:Int} {k:Nat} (h:InC ps c) (hk:(k:Int) < g):InC (ps++[g]) (c++[(k:Int)]):=by
 refine ⟨by rw [aZ,aZ,h.1]; rfl,fun i y g' hy hg=>?_⟩
 by_cases lt:i < c.length
 ·rw [List.getElem?_append_left lt] at hy;rw [List.getElem?_append_left (by rw [<- h.1]; exact lt)] at hg;exact h.2 i y g' hy hg
 ·rw [List.getElem?_append_right (by omega)] at hy;rw [List.getElem?_append_right (by rw [<- h.1]; omega)] at hg;have e1:i - c.length=0:=by
   have:=(aX.mp hy).1;simp at this;omega
  rw [e1] at hy;rw [<- h.1,e1] at hg;cases hy;cases hg;exact ⟨by omega,hk⟩
theorem Ii:∀ (gs ps:List Int) (fs:List (List Int)),(∀ c ∈ fs,InC ps c)->∀ c ∈ gs.foldl (fun fs g=>gb g fs) fs,InC (ps++gs) c
 | [],ps,fs,h=>by rw [cJ]; exact h
 | g::gs,ps,fs,h=>by
  have ih:=Ii gs (ps++[g]) (gb g fs) (fun c hc=>by
   unfold gb at hc;obtain ⟨b,hb,hc⟩:=mem_flatMap.mp hc;obtain ⟨k,hk,rfl⟩:=bN.mp hc;have:=mem_range.mp hk;exact O1 (h b hb) (by omega))
  rw [append_assoc] at ih;exact ih
theorem J7 {g:Int} (hg:1<=g) {fs:List (List Int)} {z:List Int} (h:fs.head?=some z):(gb g fs).head?=some (z++[0]):=by
 cases fs with
 | nil=>cases h
 | cons c fs =>
  cases h;have e:g.toNat=(g.toNat - 1) + 1:=by omega
  unfold gb;rw [flatMap_cons,e,range_succ_eq_map];rfl
theorem yR:∀ (gs:List Int) (fs:List (List Int)) (z:List Int),(∀ g ∈ gs,1<=g)->fs.head?=some z->(gs.foldl (fun fs g=>gb g fs) fs).head?=some (z++List.replicate gs.length 0)
 | [],fs,z,_,h=>by rw [List.length_nil,List.replicate_zero,cJ]; exact h
 | g::gs,fs,z,hg,h=>by
  have ih:=yR gs (gb g fs) (z++[0]) (fun x hx=>hg x (by simp [hx])) (J7 (hg g (by simp)) h);rw [append_assoc] at ih;exact ih
theorem eU.st {sp:gR} (ok:eU sp) {d:Int} {ds:List Int} (h:(d,ds) ∈ jk sp):JF sp.week (cC sp.pots) d ds:=by
 unfold jk at h;obtain ⟨k,hk,h⟩:=mem_flatMap.mp h;obtain ⟨c,hc,e⟩:=bN.mp h;cases e;have lk:=mem_range.mp hk;have i:=Ii (fC sp) [] [[]] (fun c hc=>by rw [aP.mp hc]; exact ⟨rfl,fun i y g hy=>by simp at hy⟩) ds hc;rw [nil_append] at i;refine ⟨by omega,by have:=ok.w1; omega,by rw [i.1,aq,dZ],fun j y p hy hp=>?_⟩;rw [cC,aH] at hp;obtain ⟨q,hq,rfl⟩:=bB.mp hp;exact i.2 j y q.2.1 hy (by rw [aH,hq]; rfl)
theorem eU.first {sp:gR} (ok:eU sp):(jk sp)[0]?=some (0,List.replicate sp.pots.length 0):=by
 have h:=yR (fC sp) [[]] [] ok.akd rfl;rw [nil_append,aq] at h;have w1:=ok.w1;have e:sp.week.toNat=(sp.week.toNat - 1) + 1:=by omega
 have h':(combs (fC sp)).head?=some (List.replicate sp.pots.length 0):=h;unfold jk;rw [<- List.head?_eq_getElem?,e,range_succ_eq_map,flatMap_cons,List.head?_append,List.head?_map,h'];rfl
abbrev Du:cY:=top 54
abbrev as5:List Str:=["_law_script","_law_spec_here","_law_garden_here","_law_rows_here","_law_states_here","_law_state","_law_first","_law_many","_law_error"]
theorem Ij (xs:List V) (k:Nat):Bj xs none (some (k:Int))=xs.take k:=by
 unfold Bj;rw [HT.GQ];simp only [HT.Aq,List.drop_zero,Nat.sub_zero];rcases Nat.le_total k xs.length with h | h
 ·rw [Nat.min_eq_left h]
 ·rw [Nat.min_eq_right h,bI,List.take_of_length_le h]
theorem wC {α β:Type} {R:α->β->Prop}:∀ {xs:List α} {ys:List β} (j:Nat),Paired R xs ys->Paired R (xs.take j) (ys.take j)
 | _,_,0,_=>by rw [take_zero,take_zero]; exact .nil
 | _,_,_ + 1,.nil=>.nil
 | _,_,j + 1,.cons h t=>.cons h (wC j t)
structure VP (K:Fg) (mg:Str->Option aA) (a:fW) (dV:aA):Prop where
 R:OD K mg a dV
 D:JZ K mg
 mn:mg "min"=none
 mx:mg "max"=none
 sp:∃ f fd,Fn K "_law_spec" "_law_spec" nJ ["_law_script","_law_first"] f fd/\mg "_law_spec"=some (.ref f)
 gar:∃ f fd,Fn K "_law_garden" "_law_garden" nO ["_law_spec_here"] f fd/\mg "_law_garden"=some (.ref f)
 st:∃ f fd,Fn K "_law_steps" "_law_steps" pH ["_law_spec_here","_law_state"] f fd/\mg "_law_steps"=some (.ref f)
 ls:∃ f fd,Fn K "_law_states" "_law_states" jA ["_law_spec_here"] f fd/\mg "_law_states"=some (.ref f)
 ro:∃ f fd,Fn K "_law_rows" "_law_rows" pL ["_law_spec_here","_law_script","_law_first","_law_many","_law_wild"] f fd/\mg "_law_rows"=some (.ref f)
 ri:∃ f fd,Fn K "_law_right" "_law_right" rC ["_law_garden_here","_law_spec_here","_law_rows_here","_law_state","_law_first","_law_way"] f fd/\mg "_law_right"=some (.ref f)
section
variable {P:cA} {w:World} {K:Fg} {mg:Str->Option aA} {base:Heap} {a:fW} {dV:aA}
def Ik (K:Fg):Sp:=fun vs H Q _=>∃ (l:aB) (ns:List Int),vs=[.ref l]/\cD K H l (ns.map V.int)/\∀ H',Q (.bl true) H'
theorem rD:bQ as5 ["_law_script"] (aW Du):=dN (by decide +kernel)
theorem adB {f:aB} {fd:dW} (F:mO K "law" "law" Du f fd) (X:VP K mg a dV):cG P w K mg base (fu P w) 10 f fd ["_law_script"] (Ik K):=by
 refine F.lO rD (fun vs H Q E h=>?_) (fun cdv A outer s H vs Q E hr h=>?_)
 ·obtain ⟨l,ns,rfl,_⟩:=h;rfl
 ·obtain ⟨l,ns,rfl,hS,q⟩:=h;have Zh:=X.R.Pl.W.S.Z;have B:=Zh.G.T.B;have Zt:=X.R.Z;have N:=Zt.N;obtain ⟨fsp,dsp,spF,mSp⟩:=X.sp;obtain ⟨fg,dg,gF,mG⟩:=X.gar;obtain ⟨fst,dst,stF,mSt⟩:=X.st;obtain ⟨fls,dls,lsF,mLs⟩:=X.ls;obtain ⟨fro,dro,roF,mRo⟩:=X.ro;obtain ⟨fri,dri,riF,mRi⟩:=X.ri;obtain ⟨fb,db,bF,mB⟩:=X.R.be;obtain ⟨fc,dc,cF,mC⟩:=X.D.ce;obtain ⟨ff,df,dv,t0,fF,b1,b0,mF⟩:=X.R.Pl.fol;obtain ⟨fs,ds',sF,mS⟩:=Zt.so;have ata:cG P w K mg base (fu P w) 2 fsp dsp ["_law_script","_law_first"] (Oc K):=T4 spF.F X.D;have okg:cG P w K mg base (fu P w) 9 fg dg ["_law_spec_here"] (Og a):=T5 gF.F Zh;have atb:cG P w K mg base (fu P w) 1 fls dls ["_law_spec_here"] yP:=Gb lsF.F B;have atc:cG P w K mg base (fu P w) 3 fro dro ["_law_spec_here","_law_script","_law_first","_law_many","_law_wild"] (Ib K):=Ow roF.F X.D bF mB stF mSt;have akp:cG P w K mg base (fu P w) 6 fri dri ["_law_garden_here","_law_spec_here","_law_rows_here","_law_state","_law_first","_law_way"] (Ih a):=OJ riF.F X.R;have yI:cG P w K mg base (fu P w) 1 fc dc ["_law_script","_law_k"] (z9 K):=Aa cF.F B;have okf:cG P w K mg base (fu P w) 4 ff df ["garden","rows","state","first"] (Hx K a):=FQ fF X.R.Pl;have atd:qM P w K mg base (fu P w) 1 fs ds' ["_law_error"] (zY K a):=Nq sF.F N;have hr1:d7 1 _:=hr.mono (by decide);have hr2:d7 2 _:=hr.mono (by decide);have hr3:d7 3 _:=hr.mono (by decide);have hr4:d7 4 _:=hr.mono (by decide);have hr6:d7 6 _:=hr.mono (by decide);have v0:Vals [V.int ((0:Nat):Int)] [Value.int 0 t0]:=.cons ⟨t0,rfl⟩ .nil;have kC:=cF.F.kp;have bC:=cF.b;have kRi:=riF.F.kp;have bRi:=riF.b;have kF:=fF.kp;refine ⟨_,aK (bO (i:=1) rD.nd rfl (Or.inl rfl) (dH ata hr2 mSp spF.F.kp spF.b bG (ao (pv 0) (ao aM aF)))) (aK (bO (i:=2) rD.nd rfl (Or.inl rfl) (dH okg hr mG gF.F.kp gF.b bG (ao (pv 1) aF))) (aK (bO (i:=3) rD.nd rfl (Or.inl rfl) (dH atc hr3 mRo roF.F.kp roF.b bG (ao (pv 1) (ao (pv 0) (ao aM (ao (dB (IK rfl) X.mn boot_min (ao aM (ao (dB (Iz rfl) X.mx boot_max (ao aM (ao (bH uW (dB bJ B.len PySem.boot_len (ao (pv 0) aF)) aM) aF))) aF))) (ao iZ aF))))))) (aK (bO (i:=4) rD.nd rfl (Or.inl rfl) (dH atb hr1 mLs lsF.F.kp lsF.b bG (ao (pv 1) aF))) (aK (bO (i:=5) rD.nd rfl (Or.inl rfl) (cZ gA (pv 4) (bH eY (dH yI hr1 mC kC bC bG (ao (pv 0) (ao aM aF))) (dB bJ B.len PySem.boot_len (ao (pv 4) aF))) (fun _ _=>rfl))) (aK (bO (i:=6) rD.nd rfl (Or.inl rfl) (bH rJ (bH eY (dH yI hr1 mC kC bC bG (ao (pv 0) (ao aM aF))) aM) (bH eY (bH gZ (dH yI hr1 mC kC bC bG (ao (pv 0) (ao aM aF))) aM) aM))) (aK (iC fJ rfl (eG (fP (ao (dB bJ B.len PySem.boot_len (ao (pv 3) aF)) (ao (bH gZ (dB bJ B.len PySem.boot_len (ao (pv 3) aF)) aM) (ao aM (ao aM aF)))))) (cV 7 rD.nd) (aK (dG (fK (eO (dH akp hr6 mRi kRi bRi bG (ao (pv 2) (ao (pv 1) (ao (vg zy (pv 3) zp (zq (pv 7))) (ao (cZ gA (pv 4) aM (fun _ _=>rfl)) (ao aM (ao aM aF))))))))) (aU (bY iZ)) bU) (aU (dG (fK (eO (dH akp hr6 mRi kRi bRi bG (ao (pv 2) (ao (pv 1) (ao (vg zy (pv 3) zp (zq (pv 7))) (ao (pv 5) (ao (pv 6) (ao aM aF))))))))) (aU (bY iZ)) bU)))) (aK (Lb (hit:=fun cls=>exmOne K cls (.ref a.pA)=some true) rfl ⟨_,_,rfl,rfl,rfl⟩ rD.nd (i:=8) rfl rfl (by rfl) N.ge (fun _ h=>h) (fun E' mQ Eb acc=>aU (fY (zm okf hr4 (by rfl) mF kF b0 v0 (dY acc) (ao (pv 2) (ao (pv 3) (ao (dX (ao (uD K (pv 2)) (ao (cZ (qQ K) (pv 5) aM (fun _ _=>rfl)) aF))) aF)))))) (fun e=>aU (bY (uV (jN (Ie K hr.units) (vo atd (jO.mark (hr.mono (by decide)).toH) (by rfl) mS sF.F.kp sF.b .nil bG (ao (pv 8) aF)) (bH zF (bH ab9 (fP (oF [.bl false] rfl)) aM) (fP (oF [.bl true] rfl))) (cB _)) (Ef (dB (J6 K) N.is boot_isinstance (ao (pv 8) (ao (zO (T:="ValueError") (by rfl) N.ve (by decide +kernel)) aF)))))))) (aU (bY iZ))))))))),?_⟩;refine ⟨_,rfl,l,ns,0,rfl,hS,fun H1 v sp s1 rs ok=>?_⟩;refine ⟨_,rfl,v,sp,rfl,rs,ok,fun H2 x s2 gx=>?_⟩;have hS2:=(s1.trans s2).seq hS;obtain ⟨many,em,lm⟩:∃ many:Nat,(if (if ((ns.map V.int).length:Int) - 3 > 0 then ((ns.map V.int).length:Int) - 3 else 0) < 40 then (if ((ns.map V.int).length:Int) - 3 > 0 then ((ns.map V.int).length:Int) - 3 else 0) else 40)=(many:Int)/\many<=100:=by
   generalize ((ns.map V.int).length:Int) - 3=z;have:0<=(if (if z > 0 then z else 0) < 40 then (if z > 0 then z else 0) else 40)/\(if (if z > 0 then z else 0) < 40 then (if z > 0 then z else 0) else 40)<=40:=by
    split <;> split <;> omega
   exact ⟨_,(Int.toNat_of_nonneg this.1).symm,by omega⟩
  refine ⟨_,rfl,_,rfl,_,rfl,l,_,rfl,.inl hS2,_,_,rfl,rfl,0,_,rfl,40,_,rfl,v,sp,l,ns,3,many,true,?_,rs.same s2,ok,hS2,lm,fun H3 rl rows s3 rr lrw lrr=>?_⟩
  ·rw [<- em];rfl
  refine ⟨_,rfl,v,sp,rfl,(rs.same s2).same s3,ok,fun H4 ll s4 rst=>?_⟩;have Kq:=s3.trans s4;have hS4:=Kq.seq hS2;obtain ⟨_,svs,es,hsv,psv⟩:=id rst;cases es;have lsv:svs.length=(jk sp).length:=Paired.length psv;have adD:=ok.first
  have lp:0 < (jk sp).length:=(aX.mp adD).1;refine ⟨_,rfl,_,rfl,l,ns,3,rfl,hS4,_,rfl,ll,_,rfl,.inl (cD.of hsv),_,_,rfl,rfl,(by show (0:Int) < (svs.length:Int); omega),?_⟩;generalize ns.getD 3 0=Il;have m0:0<=Il % (svs.length:Int):=Int.emod_nonneg _ (by omega);have m1:Il % (svs.length:Int) < (svs.length:Int):=Int.emod_lt_of_pos _ (by omega);obtain ⟨k,ek⟩:∃ k:Nat,Il % (svs.length:Int)=(k:Int):=⟨(Il % (svs.length:Int)).toNat,by omega⟩;obtain ⟨c,hc⟩:∃ c,(jk sp)[k]?=some c:=⟨(jk sp)[k]'(by omega),aC _⟩;obtain ⟨cv,hcv,rc⟩:=iw psv hc;obtain ⟨d,ds⟩:=c;have sok:=ok.st (aR hc);have stc:=rB rc;refine ⟨ll,_,_,cv,rfl,rfl,cD.of hsv,by rw [ek]; exact fj hcv,?_⟩;refine ⟨_,rfl,l,ns,4,rfl,hS4,_,_,rfl,rfl,(by show (0:Int) < 1000; decide),_,rfl,l,ns,4,rfl,hS4,_,_,rfl,rfl,⟨by decide,by decide⟩,_,_,rfl,rfl,(by show (0:Int) < 2; decide),_,_,rfl,rfl,?_,?_⟩
  ·left
   have a0:=Int.emod_nonneg (ns.getD 4 0) (b:=1000) (by decide);have a1:=Int.emod_lt_of_pos (ns.getD 4 0) (b:=1000) (by decide);constructor <;> omega
  obtain ⟨n,en,ln⟩:∃ n:Nat,(fun i j:Int=>V.int (i * j)) (ns.getD 4 0 % 1000) (ns.getD 4 0 / 1000 % 2)=V.int ((n:Nat):Int)/\n < 2 ^ 61:=by
   have a0:=Int.emod_nonneg (ns.getD 4 0) (b:=1000) (by decide);have a1:=Int.emod_lt_of_pos (ns.getD 4 0) (b:=1000) (by decide);have b:ns.getD 4 0 / 1000 % 2=0\/ns.getD 4 0 / 1000 % 2=1:=by omega
   rcases b with b | b <;> rw [b]
   ·exact ⟨0,by show V.int (ns.getD 4 0 % 1000 * 0)=V.int 0; rw [Int.mul_zero],by decide⟩
   ·exact ⟨(ns.getD 4 0 % 1000).toNat,by show V.int (ns.getD 4 0 % 1000 * 1)=V.int _; rw [Int.mul_one,Int.toNat_of_nonneg a0],by omega⟩
  rw [en];obtain ⟨rl',rls,erl,hrl,Km⟩:=id (rr.same s4);cases erl;have lrl:rls.length=rows.length:=Paired.length Km;refine ⟨_,rfl,rl,_,rfl,.inl (cD.of hrl),_,rfl,rl,_,rfl,.inl (cD.of hrl),_,_,rfl,rfl,⟨by decide,by decide⟩,by show 4<=sizeLine; decide,fun lm4 hm4=>?_⟩;have w4:=aV (o:=.lst [V.int ((rls.map V.ref).length:Int),.int (((rls.map V.ref).length:Int) / 2),.int 1,.int 0]) hm4;refine ⟨lm4,rfl,⟨_,cD.of aD⟩,?_⟩;have gx4:=gx.same Kq;have rs4:=(rs.same s2).same Kq;have uN:∀ (j:Nat) (z:V),([V.int ((rls.map V.ref).length:Int),.int (((rls.map V.ref).length:Int) / 2),.int 1,.int 0]:List V)[j]?=some z->∃ m:Nat,z=V.int (m:Int):=by
   intro j z hz
   match j with
   | 0=>cases hz; exact ⟨_,rfl⟩
   | 1=>cases hz; exact ⟨(rls.map V.ref).length / 2,rfl⟩
   | 2=>cases hz; exact ⟨1,rfl⟩
   | 3=>cases hz; exact ⟨0,rfl⟩
   | j + 4=>simp at hz
  refine jq (K:=K) (a:=lm4) (xs:=[V.int ((rls.map V.ref).length:Int),.int (((rls.map V.ref).length:Int) / 2),.int 1,.int 0]) (fun i σ H'=>∃ u7,σ=[some (.ref l),some v,some (.ref x),some (.ref rl),some (.ref ll),some cv,some (.int ((n:Nat):Int)),u7,none]/\Same (upd H4 lm4 (.lst [V.int ((rls.map V.ref).length:Int),.int (((rls.map V.ref).length:Int) / 2),.int 1,.int 0])) H') ⟨none,rfl,Same.refl _⟩ (fun i σ H' _ ⟨_,_,s'⟩=>cD.of (s' _ _ aD)) ?_ ?_
  ·rintro i z σ H5 hz ⟨u7,rfl,s5⟩;obtain ⟨m,rfl⟩:=uN i z hz;have Ko:=w4.trans s5;have ati:=Ko _ _ hrl;have atj:Paired (fun b (r:List Str)=>H5 b=some (.lst (r.map V.str))) rls rows:=Paired.ig Km fun _ _ z=>Ko _ _ z
   obtain ⟨c0,hc0,r0⟩:=iw psv adD;have st0:=rB r0;have atk:=ok.st (aR adD);have VR:∀ r ∈ rows.take m,r.length<=1000:=fun r hr=>by
    have:=lrr r (List.mem_of_mem_take hr);omega
   have lrm:(rows.take m).length<=9000:=by rw [length_take]; omega
   refine ⟨_,rfl,_,rfl,_,rfl,_,rfl,_,rfl,rl,_,rfl,cD.of ati,fun p5 hp5=>?_⟩;rw [Ij,<- map_take];have w5:=aV (o:=.lst ((rls.take m).map V.ref)) hp5;have rr5:jT (upd H5 p5 (.lst ((rls.take m).map V.ref))) (.ref p5) (rows.take m):=⟨p5,rls.take m,rfl,aD,wC m (Paired.ig atj fun _ _ z=>w5 _ _ z)⟩;have VF:=Ko.trans w5;refine ⟨_,rfl,ll,_,0,c0,rfl,rfl,cD.of (VF _ _ hsv),fj (j:=0) hc0,x,v,sp,.ref p5,rows.take m,c0,0,_,0,0,rfl,rs4.same VF,ok,gx4.same VF,rr5,lrm,VR,st0.same VF,atk,by decide,fun _=>⟨rfl,rfl,rfl⟩,fun H6 s6=>⟨true,rfl,cU ?_⟩⟩;have s47:=VF.trans s6;refine ⟨_,rfl,_,rfl,_,rfl,_,rfl,_,rfl,rl,_,rfl,cD.of (s47 _ _ hrl),fun p7 hp7=>?_⟩;rw [Ij,<- map_take];have w7:=aV (o:=.lst ((rls.take m).map V.ref)) hp7;have s48:=s47.trans w7;have rr7:jT (upd H6 p7 (.lst ((rls.take m).map V.ref))) (.ref p7) (rows.take m):=⟨p7,rls.take m,rfl,aD,wC m (Paired.ig Km fun _ _ z=>s48 _ _ z)⟩;refine ⟨_,rfl,_,rfl,x,v,sp,.ref p7,rows.take m,cv,d,ds,n,1,rfl,rs4.same s48,ok,gx4.same s48,rr7,lrm,VR,stc.same s48,sok,ln,(fun z=>nomatch z),fun H8 s8=>⟨true,rfl,cU ⟨_,rfl,s5.trans ((w5.trans s6).trans (w7.trans s8))⟩⟩⟩
  ·rintro σ H5 ⟨u7,rfl,s5⟩;have Ko:=w4.trans s5;have gx5:=gx4.same Ko;obtain ⟨dx,gl,as,hx,_,_⟩:=id gx5;obtain ⟨ct,cs,rfl,hct,hcs⟩:=stc.same Ko;refine ⟨_,rfl,_,rfl,_,rfl,x,a.garden,dx,_,_,rfl,hx,Zh.tG.cl,Zh.nG _ (by simp),pC ..,_,rfl,ct,_,1,.ref cs,rfl,rfl,dM.of hct,rfl,by show 2<=sizeLine; decide,fun t6 h6=>?_⟩;have w6:=aV (o:=.tup [V.int (nQ sp).week,.ref cs]) h6;have fit:TV (nQ sp):=⟨ok.w1,ok.c1,by show (cC sp.pots).length<=8; rw [dZ]; exact ok.n8⟩;refine ⟨x,nQ sp,.ref rl,rows,.ref t6,false,0,rfl,gx5.same w6,fit,((rr.same s4).same Ko).same w6,by omega,(fun r hr=>by have:=lrr r hr; omega),by decide,?_,fun _ H7 s7=>⟨Zt.x5.m,fun e he=>Dt Zt.x5 he rfl fun H' s'=>q H'⟩,fun z=>nomatch z⟩;refine .day (k:=.int) aD ⟨_,rfl⟩ ?_;simp [cL];omega
end
theorem len1 {us:List aA} (h:us.length=1):∃ x,us=[x]:=match us,h with | [x],_=>⟨x,rfl⟩
theorem len2 {us:List aA} (h:us.length=2):∃ x y,us=[x,y]:=match us,h with | [x,y],_=>⟨x,y,rfl⟩
theorem akq {us:List aA} (h:us.length=3):∃ x y z,us=[x,y,z]:=match us,h with | [x,y,z],_=>⟨x,y,z,rfl⟩
theorem O2 {P:List aA->Prop} (h:∀ x,P [x]):∀ us,us.length=1->P us
 | [x],_=>h x
theorem Ai {P:List aA->Prop} (h:∀ x y,P [x,y]):∀ us,us.length=2->P us
 | [x,y],_=>h x y
theorem ul3 {P:List aA->Prop} (h:∀ x y z,P [x,y,z]):∀ us,us.length=3->P us
 | [x,y,z],_=>h x y z
theorem ayJ {us:List aA} (h:us.length=4):∃ x y z u,us=[x,y,z,u]:=match us,h with | [x,y,z,u],_=>⟨x,y,z,u,rfl⟩
theorem ul5 {P:List aA->Prop} (h:∀ x y z u v,P [x,y,z,u,v]):∀ us,us.length=5->P us
 | [x,y,z,u,v],_=>h x y z u v
theorem ul6 {P:List aA->Prop} (h:∀ x y z u v r,P [x,y,z,u,v,r]):∀ us,us.length=6->P us
 | [x,y,z,u,v,r],_=>h x y z u v r
theorem ul4 {P:List aA->Prop} (h:∀ x y z u,P [x,y,z,u]):∀ us,us.length=4->P us
 | [x,y,z,u],_=>h x y z u
abbrev fN (x q:Str) (s:cY) (dv kV dc pm:aA) (an:Option aB) (cd ct:aA):dW:=fnOf x q (jM s) (gq s) (aW s) dv kV dc pm an cd ct
theorem all_mk {l:PySem.W.OpenLaw} {w:World} {K:Fg} {h:Heap} {mg:Str->Option aA} {fa:aB} (X:K.In h) (G:h.Ns mainGlobals mg) (hfa:mg "law"=some (.ref fa)) {pA dD jX tooMany cM dU cj pot bT garden fWh fNm MF SQ SX S5 Cr Cu Cv Td Qd fSz Ue Ug Cw Cy Jy MK adE adF adG Uh Ui adH adI adJ Uj Tf adK fBI adL adM adN adO adP adQ adR adS adT adU adV adW adX adY:aB} {atl atm atn atp atq atr u1 u2 u3 akt:Tok} {atu aku atv akv atw akx atx aky aty akz atz akA akB V0 akC V1 akD V2 odT akE Gd atA akF akG V3 akH V4 akI V5 akJ V6 akK V7 akL V8 akM akN akO akP akQ akR akS akT akU akV akW akX akY akZ ak0 ak1 V9 Dv ak2 ak3 ak4 atB atD atE ak5 ak6 ak7 ak8 ak9 ala alb alc ald ale alf alg alh ali alj alk alm aln alo alp alq alr als alu alv alw alx Dw:Option aB} {atF atH atJ atL atM atN aly alz alA slT alB atO alC alD alE alF alG alH alI alJ alK alL alM alN alO alP Wa alQ alR atQ alS alT alU alV alW alX alY alZ al0 al1 al2 al3 al4 al5:Array (Option aA)} {atR al6 al7 al8 adZ al9 atU ama amb amc ad0 amd atV ame amf amg ad1 amh atX ami amj amk ad2 aml atY amm amn amo ad3 amq atZ amr ams amt ad4 amu amv Wb Wc Wd O3 Wf amw Wg Wh Wi O4 Wj amx Wl Wm Wn O5 Wo ocT amy Ge Gf Gg Dy Gh at3 amz amA amB ad5 amC amD Wq Wr Ws O6 Wt amE Wu Wv Ww O7 Wx amF Wy Wz WD O8 WK amG WL WM WQ O9 WR amH WT WW WX Pa WY amI W0 W2 W3 Pb W4 amJ amK amL amM W5 amN amO amP amQ amR W6 amS amT amU amV amW W7 amX amY amZ am0 am1 W8 am2 am3 am4 am5 am6 W9 am7 am8 am9 ana anb Xa anc ane anf ang anh Xb ani anj ank anl anm Xc ano Xd Dz DG DK yS DN anp anq anr ant anu Xe anv at4 at5 at6 at7 anw at8 anx anz anA anB Xf anC anD anE anF anG Xg anH anI anJ anK anL Xh anM anN anO anP anQ Xi anR anS anT anU anV Xj anW anY anZ an0 an1 Xk an2 an3 an4 an5 an6 Xl an7 an8 an9 aoa aob Xm aoc aod aoe aof aog Xn aoh aoi aoj aok aol Xo aom aon aoo aop aoq Xp aor aos aot aou aov Xq aow aox aoy aoz aoA Xr aoB aoC DP DQ DR yU DW:aA} {nT at9:Nat} {aua aub:Str} {auc aoD aud:List aA} {ad6:aB} {aue auf:Bool} {auh:List Str} {aui:Option Bool} {auj auk aul aum aun:Option aA} (jm:nsIn K mainGlobals "isinstance"=some none) (Gi:nsIn K mainGlobals "bool"=some none) (Pg:nsIn K mainGlobals "int"=some none) (Ph:nsIn K mainGlobals "str"=some none) (Gj:nsIn K mainGlobals "list"=some none) (Aj:nsIn K mainGlobals "tuple"=some none) (Pj:nsIn K mainGlobals "len"=some none) (Pk:nsIn K mainGlobals "all"=some none) (Pn:nsIn K mainGlobals "set"=some none) (Pq:nsIn K mainGlobals "zip"=some none) (pO:nsIn K mainGlobals "reversed"=some none) (Ak:nsIn K mainGlobals "range"=some none) (mj:nsIn K mainGlobals "ValueError"=some none) (nU:nsIn K mainGlobals "enumerate"=some none) (Pr:nsIn K mainGlobals "min"=some none) (Pu:nsIn K mainGlobals "max"=some none) (ad7:nsIn K mainGlobals "LONGEST_NAME"=some (some (.int 12 atl))) (ad8:nsIn K mainGlobals "MOST_GAP"=some (some (.int 60 atm))) (ad9:nsIn K mainGlobals "MOST_POTS"=some (some (.int 8 atn))) (aea:nsIn K mainGlobals "MOST_CANS"=some (some (.int 8 atp))) (aeb:nsIn K mainGlobals "MOST_WEEK"=some (some (.int 14 atq))) (aec:nsIn K mainGlobals "MOST_STATES"=some (some (.int 20000 atr))) (Gk:nsIn K mainGlobals "GardenError"=some (some (.ref pA))) (wD:nsIn K mainGlobals "BadPot"=some (some (.ref dD))) (wG:nsIn K mainGlobals "BadRow"=some (some (.ref jX))) (sH:nsIn K mainGlobals "TooMany"=some (some (.ref tooMany))) (sI:nsIn K mainGlobals "NoState"=some (some (.ref cM))) (Al:nsIn K mainGlobals "NoPot"=some (some (.ref dU))) (wH:nsIn K mainGlobals "BadDay"=some (some (.ref cj))) (Px:nsIn K mainGlobals "Pot"=some (some (.ref pot))) (wI:nsIn K mainGlobals "Cactus"=some (some (.ref bT))) (wJ:nsIn K mainGlobals "Garden"=some (some (.ref garden))) (ne:pot≠bT) (aWh:nsIn K mainGlobals "is_whole"=some (some (.ref fWh))) (lWh:K.lookup fWh=some ⟨atR,atu,.func (fN "is_whole" "is_whole" rR .none al6 al7 al8 aku adZ al9),atF⟩) (cWh:codeIn K adZ "is_whole"=true) (kWh:keepIn K (.ref fWh)=true) (aNm:nsIn K mainGlobals "is_name"=some (some (.ref fNm))) (lNm:K.lookup fNm=some ⟨atU,atv,.func (fN "is_name" "is_name" oG .none ama amb amc akv ad0 amd),atH⟩) (cNm:codeIn K ad0 "is_name"=true) (kNm:keepIn K (.ref fNm)=true) (aPI:findIn K (.ref pot) "__init__"=some (some (.ref MF))) (iPI:isFn K (.ref MF)=true) (lPI:K.lookup MF=some ⟨atV,atw,.func (fN "__init__" "Pot.__init__" nj .none ame amf amg akx ad1 amh),atJ⟩) (cPI:codeIn K ad1 "Pot.__init__"=true) (kPI:keepIn K (.ref MF)=true) (aPG:findIn K (.ref pot) "with_gap"=some (some (.ref SQ))) (iPG:isFn K (.ref SQ)=true) (lPG:K.lookup SQ=some ⟨atX,atx,.func (fN "with_gap" "Pot.with_gap" qT .none ami amj amk aky ad2 aml),atL⟩) (cPG:codeIn K ad2 "Pot.with_gap"=true) (kPG:keepIn K (.ref SQ)=true) (aCI:findIn K (.ref bT) "__init__"=some (some (.ref SX))) (iCI:isFn K (.ref SX)=true) (lCI:K.lookup SX=some ⟨atY,aty,.func (fN "__init__" "Cactus.__init__" nu .none amm amn amo akz ad3 amq),atM⟩) (cCI:codeIn K ad3 "Cactus.__init__"=true) (kCI:keepIn K (.ref SX)=true) (aCG:findIn K (.ref bT) "with_gap"=some (some (.ref S5))) (iCG:isFn K (.ref S5)=true) (lCG:K.lookup S5=some ⟨atZ,atz,.func (fN "with_gap" "Cactus.with_gap" qU .none amr ams amt akA ad4 amu),atN⟩) (cCG:codeIn K ad4 "Cactus.with_gap"=true) (kCG:keepIn K (.ref S5)=true) (aed:nsIn K mainGlobals "own_pots"=some (some (.ref Cr))) (aee:K.lookup Cr=some ⟨amv,akB,.func (fN "own_pots" "own_pots" M9 .none Wb Wc Wd V0 O3 Wf),aly⟩) (aef:codeIn K O3 "own_pots"=true) (kOwn:keepIn K (.ref Cr)=true) (aeg:nsIn K mainGlobals "refuse_bad_counts"=some (some (.ref Cu))) (aeh:K.lookup Cu=some ⟨amw,akC,.func (fN "refuse_bad_counts" "refuse_bad_counts" Nb .none Wg Wh Wi V1 O4 Wj),alz⟩) (aei:codeIn K O4 "refuse_bad_counts"=true) (aej:keepIn K (.ref Cu)=true) (aek:nsIn K mainGlobals "refuse_name_twice"=some (some (.ref Cv))) (ael:K.lookup Cv=some ⟨amx,akD,.func (fN "refuse_name_twice" "refuse_name_twice" Nf .none Wl Wm Wn V2 O5 Wo),alA⟩) (aem:codeIn K O5 "refuse_name_twice"=true) (aen:keepIn K (.ref Cv)=true) (aGI:findIn K (.ref garden) "__init__"=some (some (.ref Qd))) (iGI:isFn K (.ref Qd)=true) (lGI:K.lookup Qd=some ⟨amy,akE,.func (fN "__init__" "Garden.__init__" Tc (.ref Td) Ge Gf Gg Gd Dy Gh),alB⟩) (cGI:codeIn K Dy "Garden.__init__"=true) (kGI:keepIn K (.ref Qd)=true) (lT:K.lookup Td=some ⟨ocT,odT,.seq #[.int 1 u1,.int 1 u2,.int 0 u3] nT,slT⟩) (aSz:findIn K (.ref garden) "size"=some (some (.ref fSz))) (iSz:isFn K (.ref fSz)=true) (lSz:K.lookup fSz=some ⟨at3,atA,.func (fN "size" "Garden.size" Cz .none amz amA amB akF ad5 amC),atO⟩) (cSz:codeIn K ad5 "Garden.size"=true) (kSz:keepIn K (.ref fSz)=true) (aeo:nsIn K mainGlobals "is_state"=some (some (.ref Ue))) (aep:K.lookup Ue=some ⟨amD,akG,.func (fN "is_state" "is_state" CN .none Wq Wr Ws V3 O6 Wt),alC⟩) (aer:codeIn K O6 "is_state"=true) (aes:keepIn K (.ref Ue)=true) (aeu:nsIn K mainGlobals "refuse_no_state"=some (some (.ref Ug))) (aev:K.lookup Ug=some ⟨amE,akH,.func (fN "refuse_no_state" "refuse_no_state" vU .none Wu Wv Ww V4 O7 Wx),alD⟩) (aew:codeIn K O7 "refuse_no_state"=true) (aex:keepIn K (.ref Ug)=true) (aey:findIn K (.ref garden) "number"=some (some (.ref Cw))) (aez:isFn K (.ref Cw)=true) (aeA:K.lookup Cw=some ⟨amF,akI,.func (fN "number" "Garden.number" Tg .none Wy Wz WD V5 O8 WK),alE⟩) (aeB:codeIn K O8 "Garden.number"=true) (Uk:keepIn K (.ref Cw)=true) (aeC:findIn K (.ref garden) "state"=some (some (.ref Cy))) (aeD:isFn K (.ref Cy)=true) (aeE:K.lookup Cy=some ⟨amG,akJ,.func (fN "state" "Garden.state" Ti .none WL WM WQ V6 O9 WR),alF⟩) (aeF:codeIn K O9 "Garden.state"=true) (Ul:keepIn K (.ref Cy)=true) (aeG:findIn K (.ref garden) "fresh"=some (some (.ref Jy))) (aeH:isFn K (.ref Jy)=true) (aeI:K.lookup Jy=some ⟨amH,akK,.func (fN "fresh" "Garden.fresh" JR .none WT WW WX V7 Pa WY),alG⟩) (aeJ:codeIn K Pa "Garden.fresh"=true) (Um:keepIn K (.ref Jy)=true) (aeK:nsIn K mainGlobals "place_of"=some (some (.ref MK))) (aeL:K.lookup MK=some ⟨amI,akL,.func (fN "place_of" "place_of" JM .none W0 W2 W3 V8 Pb W4),alH⟩) (aeM:codeIn K Pb "place_of"=true) (aeN:keepIn K (.ref MK)=true) (aeO:nsIn K mainGlobals "is_set"=some (some (.ref adE))) (aeP:K.lookup adE=some ⟨amJ,akM,.func (fN "is_set" "is_set" vW .none amK amL amM akN W5 amN),alI⟩) (aeQ:codeIn K W5 "is_set"=true) (aeR:keepIn K (.ref adE)=true) (aeS:nsIn K mainGlobals "cans_on"=some (some (.ref adF))) (aeT:K.lookup adF=some ⟨amO,akO,.func (fN "cans_on" "cans_on" qX .none amP amQ amR akP W6 amS),alJ⟩) (aeU:codeIn K W6 "cans_on"=true) (aeV:keepIn K (.ref adF)=true) (aeW:nsIn K mainGlobals "day_behind"=some (some (.ref adG))) (aeX:K.lookup adG=some ⟨amT,akQ,.func (fN "day_behind" "day_behind" CQ .none amU amV amW akR W7 amX),alK⟩) (aeY:codeIn K W7 "day_behind"=true) (aeZ:keepIn K (.ref adG)=true) (ae0:findIn K (.ref pot) "may"=some (some (.ref Uh))) (ae1:isFn K (.ref Uh)=true) (ae2:K.lookup Uh=some ⟨amY,akS,.func (fN "may" "Pot.may" qY .none amZ am0 am1 akT W8 am2),alL⟩) (ae3:codeIn K W8 "Pot.may"=true) (Uo:keepIn K (.ref Uh)=true) (ae4:findIn K (.ref bT) "may"=some (some (.ref Ui))) (ae5:isFn K (.ref Ui)=true) (ae6:K.lookup Ui=some ⟨am3,akU,.func (fN "may" "Cactus.may" qZ .none am4 am5 am6 akV W9 am7),alM⟩) (ae7:codeIn K W9 "Cactus.may"=true) (Uq:keepIn K (.ref Ui)=true) (ae8:nsIn K mainGlobals "refuse_bad_day"=some (some (.ref adH))) (ae9:K.lookup adH=some ⟨am8,akW,.func (fN "refuse_bad_day" "refuse_bad_day" oH .none am9 ana anb akX Xa anc),alN⟩) (afa:codeIn K Xa "refuse_bad_day"=true) (afb:keepIn K (.ref adH)=true) (afc:nsIn K mainGlobals "since_behind"=some (some (.ref adI))) (afd:K.lookup adI=some ⟨ane,akY,.func (fN "since_behind" "since_behind" oJ .none anf ang anh akZ Xb ani),alO⟩) (afe:codeIn K Xb "since_behind"=true) (afg:keepIn K (.ref adI)=true) (afh:nsIn K mainGlobals "dry_names"=some (some (.ref adJ))) (afi:K.lookup adJ=some ⟨anj,ak0,.func (fN "dry_names" "dry_names" Dc .none ank anl anm ak1 Xc ano),alP⟩) (afj:codeIn K Xc "dry_names"=true) (afk:keepIn K (.ref adJ)=true) (afl:nsIn K mainGlobals "followed"=some (some (.ref Uj))) (afm:K.lookup Uj=some ⟨Xd,V9,.func (fN "followed" "followed" jj (.ref Tf) Dz DG DK Dv yS DN),Wa⟩) (afn:codeIn K yS "followed"=true) (afo:keepIn K (.ref Uj)=true) (Ur:K.lookup Tf=some ⟨anp,ak2,.seq #[.int 0 akt] at9,alQ⟩) (afp:nsIn K mainGlobals "kept"=some (some (.ref adK))) (afq:K.lookup adK=some ⟨anq,ak3,.func (fN "kept" "kept" Df .none anr ant anu ak4 Xe anv),alR⟩) (afr:codeIn K Xe "kept"=true) (afs:keepIn K (.ref adK)=true) (aBI:findIn K (.ref cj) "__init__"=some (some (.ref fBI))) (iBI:isFn K (.ref fBI)=true) (lBI:K.lookup fBI=some ⟨at4,atB,.func (fN "__init__" "BadDay.__init__" Nz .none at5 at6 at7 atD anw at8),atQ⟩) (cBI:codeIn K anw "BadDay.__init__"=true) (kBI:keepIn K (.ref fBI)=true) (aft:K.lookup cj=some ⟨.type "type",atE,.cls ⟨aua,auc,.ref cj::aoD,ad6,aub,aue,auh,aud,auf,aui,false⟩,#[auj,auk,aul,aum,some (.builtin "ValueError.__new__"),aun]⟩) (afu:tailIn K Fl aoD=true) (afv:nsOkIn K ad6=true) (afw:nsIn K ad6 "__init__"=some (some (.ref fBI))) (afx:findIn K (.ref cj) "__setattr__"=some (some (.builtin "object.__setattr__"))) (afy:zT K cj=true) (afz:takerIn K cj "day"=some none) (Im:hasDictIn K cj=true) (afA:findIn K (.ref cj) "day"=some none) (rdG:readsIn K pA (.type "type")=true) (gaG:specialIn K (.ref pA) "__getattribute__"=some (some (.builtin "type.__getattribute__"))) (atG:findCls K (.ref pA) (.type "type") "__init__"=some (.val (.builtin "ValueError.__init__"))) (afB:nsIn K mainGlobals "_law_sorts"=some (some (.ref adL))) (afC:K.lookup adL=some ⟨anx,ak5,.func (fN "_law_sorts" "_law_sorts" rY .none anz anA anB ak6 Xf anC),alS⟩) (afD:codeIn K Xf "_law_sorts"=true) (afE:keepIn K (.ref adL)=true) (afF:nsIn K mainGlobals "_law_cell_at"=some (some (.ref adM))) (afG:K.lookup adM=some ⟨anD,ak7,.func (fN "_law_cell_at" "_law_cell_at" Dg .none anE anF anG ak8 Xg anH),alT⟩) (afH:codeIn K Xg "_law_cell_at"=true) (afI:keepIn K (.ref adM)=true) (afJ:nsIn K mainGlobals "_law_draw"=some (some (.ref adN))) (afK:K.lookup adN=some ⟨anI,ak9,.func (fN "_law_draw" "_law_draw" Dh .none anJ anK anL ala Xh anM),alU⟩) (afL:codeIn K Xh "_law_draw"=true) (afM:keepIn K (.ref adN)=true) (afN:nsIn K mainGlobals "_law_spec"=some (some (.ref adO))) (afO:K.lookup adO=some ⟨anN,alb,.func (fN "_law_spec" "_law_spec" nJ .none anO anP anQ alc Xi anR),alV⟩) (afP:codeIn K Xi "_law_spec"=true) (afQ:keepIn K (.ref adO)=true) (afR:nsIn K mainGlobals "_law_garden"=some (some (.ref adP))) (afS:K.lookup adP=some ⟨anS,ald,.func (fN "_law_garden" "_law_garden" nO .none anT anU anV ale Xj anW),alW⟩) (afT:codeIn K Xj "_law_garden"=true) (afU:keepIn K (.ref adP)=true) (afV:nsIn K mainGlobals "_law_behind"=some (some (.ref adQ))) (afW:K.lookup adQ=some ⟨anY,alf,.func (fN "_law_behind" "_law_behind" iW .none anZ an0 an1 alg Xk an2),alX⟩) (afX:codeIn K Xk "_law_behind"=true) (afY:keepIn K (.ref adQ)=true) (afZ:nsIn K mainGlobals "_law_steps"=some (some (.ref adR))) (af0:K.lookup adR=some ⟨an3,alh,.func (fN "_law_steps" "_law_steps" pH .none an4 an5 an6 ali Xl an7),alY⟩) (af2:codeIn K Xl "_law_steps"=true) (af3:keepIn K (.ref adR)=true) (af4:nsIn K mainGlobals "_law_states"=some (some (.ref adS))) (af5:K.lookup adS=some ⟨an8,alj,.func (fN "_law_states" "_law_states" jA .none an9 aoa aob alk Xm aoc),alZ⟩) (af6:codeIn K Xm "_law_states"=true) (af7:keepIn K (.ref adS)=true) (af8:nsIn K mainGlobals "_law_walked"=some (some (.ref adT))) (af9:K.lookup adT=some ⟨aod,alm,.func (fN "_law_walked" "_law_walked" lY .none aoe aof aog aln Xn aoh),al0⟩) (aga:codeIn K Xn "_law_walked"=true) (agb:keepIn K (.ref adT)=true) (agc:nsIn K mainGlobals "_law_told"=some (some (.ref adU))) (agd:K.lookup adU=some ⟨aoi,alo,.func (fN "_law_told" "_law_told" wB .none aoj aok aol alp Xo aom),al1⟩) (agf:codeIn K Xo "_law_told"=true) (agg:keepIn K (.ref adU)=true) (agh:nsIn K mainGlobals "_law_refusal"=some (some (.ref adV))) (agi:K.lookup adV=some ⟨aon,alq,.func (fN "_law_refusal" "_law_refusal" nH .none aoo aop aoq alr Xp aor),al2⟩) (agj:codeIn K Xp "_law_refusal"=true) (agk:keepIn K (.ref adV)=true) (agl:nsIn K mainGlobals "_law_rows"=some (some (.ref adW))) (agm:K.lookup adW=some ⟨aos,als,.func (fN "_law_rows" "_law_rows" pL .none aot aou aov alu Xq aow),al3⟩) (agn:codeIn K Xq "_law_rows"=true) (ago:keepIn K (.ref adW)=true) (agp:nsIn K mainGlobals "_law_right"=some (some (.ref adX))) (agq:K.lookup adX=some ⟨aox,alv,.func (fN "_law_right" "_law_right" rC .none aoy aoz aoA alw Xr aoB),al4⟩) (agr:codeIn K Xr "_law_right"=true) (ags:keepIn K (.ref adX)=true) (Us:nsIn K mainGlobals "law"=some (some (.ref adY))) (agt:K.lookup adY=some ⟨aoC,alx,.func (fN "law" "law" Du .none DP DQ DR Dw yU DW),al5⟩) (agu:codeIn K yU "law"=true) (agv:keepIn K (.ref adY)=true) (gt:specialIn K (.builtin "object.__class__") "__get__"=some (some (.builtin "getset_descriptor.__get__"))) (tk:takesIn K (.builtin "object.__class__")=some true) (Gm:plainGet K pot Str.empty=true) (Gn:hasDictIn K pot=true) (Gp:plainOver K pot=true) (Gq:findIn K (.ref pot) "__setattr__"=some (some (.builtin "object.__setattr__"))) (Gr:findIn K (.ref pot) "__class__"=some (some (.builtin "object.__class__"))) (Gs:mroIn K pot (.type "object")=some true) (nW:kitOne K (.ref pot) (.type "bool")=some false) (pP:kitOne K (.ref pot) (.type "int")=some false) (pQ:kitOne K (.ref pot) (.type "str")=some false) (nY:kitOne K (.ref pot) (.type "list")=some false) (mq:kitOne K (.ref pot) (.type "tuple")=some false) (Gu:makesIn K pot=true) (Gv:keepIn K (.ref pot)=true) (sJ:plainGet K bT Str.empty=true) (sO:hasDictIn K bT=true) (sU:plainOver K bT=true) (sV:findIn K (.ref bT) "__setattr__"=some (some (.builtin "object.__setattr__"))) (sW:findIn K (.ref bT) "__class__"=some (some (.builtin "object.__class__"))) (sX:mroIn K bT (.type "object")=some true) (jB:kitOne K (.ref bT) (.type "bool")=some false) (jY:kitOne K (.ref bT) (.type "int")=some false) (jZ:kitOne K (.ref bT) (.type "str")=some false) (jC:kitOne K (.ref bT) (.type "list")=some false) (jf:kitOne K (.ref bT) (.type "tuple")=some false) (sY:makesIn K bT=true) (sZ:keepIn K (.ref bT)=true) (tD:plainGet K garden Str.empty=true) (tE:hasDictIn K garden=true) (tH:plainOver K garden=true) (tK:findIn K (.ref garden) "__setattr__"=some (some (.builtin "object.__setattr__"))) (tL:findIn K (.ref garden) "__class__"=some (some (.builtin "object.__class__"))) (tM:mroIn K garden (.type "object")=some true) (jD:kitOne K (.ref garden) (.type "bool")=some false) (j4:kitOne K (.ref garden) (.type "int")=some false) (j5:kitOne K (.ref garden) (.type "str")=some false) (jE:kitOne K (.ref garden) (.type "list")=some false) (jg:kitOne K (.ref garden) (.type "tuple")=some false) (tO:makesIn K garden=true) (tQ:keepIn K (.ref garden)=true) (nZ:findIn K (.ref pot) "name"=some none) (pR:findIn K (.ref pot) "gap"=some none) (n6:findIn K (.ref pot) "rest"=some none) (jF:findIn K (.ref bT) "name"=some none) (j6:findIn K (.ref bT) "gap"=some none) (jG:findIn K (.ref bT) "rest"=some none) (jH:findIn K (.ref garden) "pots"=some none) (jJ:findIn K (.ref garden) "cans"=some none) (jK:findIn K (.ref garden) "week"=some none) (iT:findIn K (.ref garden) "closed"=some none) (rdP:readsIn K pot (.type "type")=true) (gaP:specialIn K (.ref pot) "__getattribute__"=some (some (.builtin "type.__getattribute__"))) (atP:findCls K (.ref pot) (.type "type") "__init__"=some (.val (.ref MF))) (kpp:kitOne K (.ref pot) (.ref pot)=some true) (kcp:kitOne K (.ref bT) (.ref pot)=some true) (oh:kitOne K (.type "NoneType") (.ref pot)=some false) (Am:kitOne K (.type "bool") (.ref pot)=some false) (Gw:kitOne K (.type "int") (.ref pot)=some false) (Gx:kitOne K (.type "str") (.ref pot)=some false) (Ao:kitOne K (.type "list") (.ref pot)=some false) (wK:kitOne K (.type "tuple") (.ref pot)=some false) (tR:excIn K dD Fl "ValueError.__new__"=true) (pU:excIn K tooMany Fl "ValueError.__new__"=true) (pW:excIn K cM Fl "ValueError.__new__"=true) (wL:excIn K dU Fl "ValueError.__new__"=true) (wM:findIn K (.ref dU) "__getattribute__"=some (some (.builtin "BaseException.__getattribute__"))) (wN:findIn K (.ref dU) "__getattr__"=some none) (wO:isClsIn K dU=true) (wQ:findIn K (.ref dU) "__class__"=some (some (.builtin "object.__class__"))) (wR:mroIn K dU (.type "object")=some true) (wU:subIn K (.ref dU) (.type "BaseException")=some true) (wV:kitOne K (.ref dU) (.ref dD)=some false) (wW:kitOne K (.ref dU) (.ref tooMany)=some false) (wX:kitOne K (.ref dU) (.ref dU)=some true) (wY:kitOne K (.ref dU) (.ref cj)=some false) (wZ:kitOne K (.ref dU) (.ref jX)=some false) (xg:kitOne K (.ref dU) (.ref cM)=some false) (xq:kitOne K (.ref dU) (.type "ValueError")=some true) (xr:exmOne K (.ref dU) (.ref pA)=some true) (tV:findIn K (.ref cj) "__getattribute__"=some (some (.builtin "BaseException.__getattribute__"))) (tW:findIn K (.ref cj) "__getattr__"=some none) (tX:isClsIn K cj=true) (tY:findIn K (.ref cj) "__class__"=some (some (.builtin "object.__class__"))) (tZ:mroIn K cj (.type "object")=some true) (uc:subIn K (.ref cj) (.type "BaseException")=some true) (ud:kitOne K (.ref cj) (.ref dD)=some false) (uf:kitOne K (.ref cj) (.ref tooMany)=some false) (ug:kitOne K (.ref cj) (.ref dU)=some false) (uh:kitOne K (.ref cj) (.ref cj)=some true) (um:kitOne K (.ref cj) (.ref jX)=some false) (uo:kitOne K (.ref cj) (.ref cM)=some false) (uq:kitOne K (.ref cj) (.type "ValueError")=some true) (ur:exmOne K (.ref cj) (.ref pA)=some true) (pX:findIn K (.ref cM) "__getattribute__"=some (some (.builtin "BaseException.__getattribute__"))) (pY:findIn K (.ref cM) "__getattr__"=some none) (qg:isClsIn K cM=true) (qj:findIn K (.ref cM) "__class__"=some (some (.builtin "object.__class__"))) (qm:mroIn K cM (.type "object")=some true) (qp:subIn K (.ref cM) (.type "BaseException")=some true) (qt:kitOne K (.ref cM) (.ref dD)=some false) (qu:kitOne K (.ref cM) (.ref tooMany)=some false) (qw:kitOne K (.ref cM) (.ref dU)=some false) (qx:kitOne K (.ref cM) (.ref cj)=some false) (qy:kitOne K (.ref cM) (.ref jX)=some false) (qz:kitOne K (.ref cM) (.ref cM)=some true) (qC:kitOne K (.ref cM) (.type "ValueError")=some true) (qD:exmOne K (.ref cM) (.ref pA)=some true) : ∃ fd:dW,(∀ (s:aQ) (v:aA),BindsTo s fd ⟨[v],[]⟩ [("_law_script",v)])/\∀ base:Heap,K.In base->base.Ns mainGlobals mg->cG l.prog w K mg base (fu l.prog w) 10 fa fd ["_law_script"] (Ik K):=by
 have e:=hfa.symm.trans (mg_of X G Us);cases e;have Py:=mg_of X G Gk;have DX:=mg_of X G wD;have Pz:=mg_of X G wG;have yV:=mg_of X G sH;have yW:=mg_of X G sI;have Io:=mg_of X G Al;have DY:=mg_of X G wH;have aoE:=mg_of X G Px;have PB:=mg_of X G wI;have PJ:=mg_of X G wJ;have FWh:=cW (st:=rR) lWh cWh kWh;have bWh:=FWh.binds (ps:=["value","least","most"]) fun _ _ _ _ _ _=>ul3 fun _ _ _=>rfl
 have mWh:=mg_of X G aWh;have FNm:=cW (st:=oG) lNm cNm kNm;have bNm:=FNm.binds (ps:=["value"]) fun _ _ _ _ _ _=>O2 fun _=>rfl
 have mNm:=mg_of X G aNm;have FPI:=cW (st:=nj) lPI cPI kPI;have bPI:=FPI.binds (ps:=["self","name","gap"]) fun _ _ _ _ _ _=>ul3 fun _ _ _=>rfl
 have FPG:=cW (st:=qT) lPG cPG kPG;have bPG:=FPG.binds (ps:=["self","gap"]) fun _ _ _ _ _ _=>Ai fun _ _=>rfl
 have FCI:=cW (st:=nu) lCI cCI kCI;have bCI:=FCI.binds (ps:=["self","name","gap","rest"]) fun _ _ _ _ _ _=>ul4 fun _ _ _ _=>rfl
 have FCG:=cW (st:=qU) lCG cCG kCG;have bCG:=FCG.binds (ps:=["self","gap"]) fun _ _ _ _ _ _=>Ai fun _ _=>rfl
 have aoF:=cW (st:=M9) aee aef kOwn;have au7:=aoF.binds (ps:=["pots"]) fun _ _ _ _ _ _=>O2 fun _=>rfl
 have acO:=mg_of X G aed;have aoG:=cW (st:=Nb) aeh aei aej;have au8:=aoG.binds (ps:=["pots","cans","week","closed"]) fun _ _ _ _ _ _=>ul4 fun _ _ _ _=>rfl
 have acP:=mg_of X G aeg;have aoH:=cW (st:=Nf) ael aem aen;have au9:=aoH.binds (ps:=["pots"]) fun _ _ _ _ _ _=>O2 fun _=>rfl
 have acQ:=mg_of X G aek;have FSz:=cW (st:=Cz) lSz cSz kSz;have bSz:=FSz.binds (ps:=["self"]) fun _ _ _ _ _ _=>O2 fun _=>rfl
 have aoI:=cW (st:=CN) aep aer aes;have ava:=aoI.binds (ps:=["garden","value"]) fun _ _ _ _ _ _=>Ai fun _ _=>rfl
 have avb:=mg_of X G aeo;have aoJ:=cW (st:=vU) aev aew aex;have avc:=aoJ.binds (ps:=["garden","value"]) fun _ _ _ _ _ _=>Ai fun _ _=>rfl
 have avd:=mg_of X G aeu;have aoK:=cW (st:=Tg) aeA aeB Uk;have ave:=aoK.binds (ps:=["self","state"]) fun _ _ _ _ _ _=>Ai fun _ _=>rfl
 have aoL:=cW (st:=Ti) aeE aeF Ul;have avf:=aoL.binds (ps:=["self","number"]) fun _ _ _ _ _ _=>Ai fun _ _=>rfl
 have aoM:=cW (st:=JR) aeI aeJ Um;have avh:=aoM.binds (ps:=["self"]) fun _ _ _ _ _ _=>O2 fun _=>rfl
 have aoN:=cW (st:=JM) aeL aeM aeN;have avi:=aoN.binds (ps:=["garden","name"]) fun _ _ _ _ _ _=>Ai fun _ _=>rfl
 have avj:=mg_of X G aeK;have aoO:=cW (st:=vW) aeP aeQ aeR;have avk:=aoO.binds (ps:=["number","bit"]) fun _ _ _ _ _ _=>Ai fun _ _=>rfl
 have avl:=mg_of X G aeO;have aoP:=cW (st:=qX) aeT aeU aeV;have avm:=aoP.binds (ps:=["garden","day"]) fun _ _ _ _ _ _=>Ai fun _ _=>rfl
 have avn:=mg_of X G aeS;have aoQ:=cW (st:=CQ) aeX aeY aeZ;have avo:=aoQ.binds (ps:=["garden","day"]) fun _ _ _ _ _ _=>Ai fun _ _=>rfl
 have avp:=mg_of X G aeW;have aoR:=cW (st:=qY) ae2 ae3 Uo;have avq:=aoR.binds (ps:=["self","since"]) fun _ _ _ _ _ _=>Ai fun _ _=>rfl
 have aoS:=cW (st:=qZ) ae6 ae7 Uq;have avr:=aoS.binds (ps:=["self","since"]) fun _ _ _ _ _ _=>Ai fun _ _=>rfl
 have aoT:=cW (st:=oH) ae9 afa afb;have avs:=aoT.binds (ps:=["garden","state","places","day"]) fun _ _ _ _ _ _=>ul4 fun _ _ _ _=>rfl
 have avt:=mg_of X G ae8;have aoU:=cW (st:=oJ) afd afe afg;have avu:=aoU.binds (ps:=["state","places"]) fun _ _ _ _ _ _=>Ai fun _ _=>rfl
 have avv:=mg_of X G afc;have aoV:=cW (st:=Dc) afi afj afk;have avw:=aoV.binds (ps:=["garden","since"]) fun _ _ _ _ _ _=>Ai fun _ _=>rfl
 have avx:=mg_of X G afh;have avy:Fv K "followed" "followed" jj (.ref Tf) Uj (fN "followed" "followed" jj (.ref Tf) Dz DG DK Dv yS DN):=⟨⟨Xd,V9,Dz,DG,DK,Dv,yS,DN,Wa,rfl,afm,afn⟩,afo⟩;have aoW:Binds K (fN "followed" "followed" jj (.ref Tf) Dz DG DK Dv yS DN) ["garden","rows","state","first"] []:=fun s us hK hl=>match us,hl with | [_,_,_,_],_=>binds_K hK rfl Ur rfl rfl rfl
 have aoX:Binds K (fN "followed" "followed" jj (.ref Tf) Dz DG DK Dv yS DN) ["garden","rows","state","first"] [.int 0 akt]:=fun s us hK hl=>(by obtain ⟨x,y,z,rfl⟩:=akq (show us.length=3 by simpa using hl); exact binds_K hK rfl Ur rfl rfl rfl)
 have avz:=mg_of X G afl;have aoY:=cW (st:=Df) afq afr afs;have avA:=aoY.binds (ps:=["garden","rows"]) fun _ _ _ _ _ _=>Ai fun _ _=>rfl
 have avB:=mg_of X G afp;have FBI:=cW (st:=Nz) lBI cBI kBI;have bBI:=FBI.binds (ps:=["self","day"]) fun _ _ _ _ _ _=>Ai fun _ _=>rfl
 have aoZ:=cW (st:=rY) afC afD afE;have avC:=aoZ.binds (ps:=["_law_error"]) fun _ _ _ _ _ _=>O2 fun _=>rfl
 have avD:=mg_of X G afB;have ao0:=cW (st:=Dg) afG afH afI;have avE:=ao0.binds (ps:=["_law_script","_law_k"]) fun _ _ _ _ _ _=>Ai fun _ _=>rfl
 have avF:=mg_of X G afF;have ao1:=cW (st:=Dh) afK afL afM;have avG:=ao1.binds (ps:=["_law_cell","_law_k","_law_many"]) fun _ _ _ _ _ _=>ul3 fun _ _ _=>rfl
 have avH:=mg_of X G afJ;have ao2:=cW (st:=nJ) afO afP afQ;have avI:=ao2.binds (ps:=["_law_script","_law_first"]) fun _ _ _ _ _ _=>Ai fun _ _=>rfl
 have avJ:=mg_of X G afN;have ao3:=cW (st:=nO) afS afT afU;have avK:=ao3.binds (ps:=["_law_spec_here"]) fun _ _ _ _ _ _=>O2 fun _=>rfl
 have acW:=mg_of X G afR;have ao4:=cW (st:=iW) afW afX afY;have avL:=ao4.binds (ps:=["_law_spec_here","_law_state","_law_wet"]) fun _ _ _ _ _ _=>ul3 fun _ _ _=>rfl
 have avM:=mg_of X G afV;have ao5:=cW (st:=pH) af0 af2 af3;have avN:=ao5.binds (ps:=["_law_spec_here","_law_state"]) fun _ _ _ _ _ _=>Ai fun _ _=>rfl
 have avO:=mg_of X G afZ;have ao6:=cW (st:=jA) af5 af6 af7;have avP:=ao6.binds (ps:=["_law_spec_here"]) fun _ _ _ _ _ _=>O2 fun _=>rfl
 have avQ:=mg_of X G af4;have ao7:=cW (st:=lY) af9 aga agb;have avR:=ao7.binds (ps:=["_law_spec_here","_law_rows_here","_law_state","_law_first"]) fun _ _ _ _ _ _=>ul4 fun _ _ _ _=>rfl
 have avS:=mg_of X G af8;have ao8:=cW (st:=wB) agd agf agg;have avT:=ao8.binds (ps:=["_law_due"]) fun _ _ _ _ _ _=>O2 fun _=>rfl
 have avU:=mg_of X G agc;have ao9:=cW (st:=nH) agi agj agk;have avV:=ao9.binds (ps:=["_law_error"]) fun _ _ _ _ _ _=>O2 fun _=>rfl
 have avW:=mg_of X G agh;have apa:=cW (st:=pL) agm agn ago;have avX:=apa.binds (ps:=["_law_spec_here","_law_script","_law_first","_law_many","_law_wild"]) fun _ _ _ _ _ _=>ul5 fun _ _ _ _ _=>rfl
 have avY:=mg_of X G agl;have apb:=cW (st:=rC) agq agr ags;have avZ:=apb.binds (ps:=["_law_garden_here","_law_spec_here","_law_rows_here","_law_state","_law_first","_law_way"]) fun _ _ _ _ _ _=>ul6 fun _ _ _ _ _ _=>rfl
 have av0:=mg_of X G agp;have apc:=cW (st:=Du) agt agu agv;have ayZ:=apc.binds (ps:=["_law_script"]) fun _ _ _ _ _ _=>O2 fun _=>rfl
 have ay0:=mg_of X G Us;have apd:Ce K pot:=⟨⟨Gm,Gn,Gp,Gq⟩,Gr,gt,tk,Gs,fun b=>(by cases b; exact nW; exact pP; exact pQ; exact nY; exact mq)⟩;have PL:Ce K bT:=⟨⟨sJ,sO,sU,sV⟩,sW,gt,tk,sX,fun b=>(by cases b; exact jB; exact jY; exact jZ; exact jC; exact jf)⟩;have PN:Ce K garden:=⟨⟨tD,tE,tH,tK⟩,tL,gt,tk,tM,fun b=>(by cases b; exact jD; exact j4; exact j5; exact jE; exact jg)⟩;have ape:∀ f ∈ (["name","gap","rest"]:List Str),iM K pot f:=fun f hf=>(by simp only [aO,mem_nil_iff,or_false] at hf; rcases hf with rfl | rfl | rfl; exact nZ; exact pR; exact n6)
 have PX:∀ f ∈ (["name","gap","rest"]:List Str),iM K bT f:=fun f hf=>(by simp only [aO,mem_nil_iff,or_false] at hf; rcases hf with rfl | rfl | rfl; exact jF; exact j6; exact jG)
 have P0:∀ f ∈ (["pots","cans","week","closed"]:List Str),iM K garden f:=fun f hf=>(by simp only [aO,mem_nil_iff,or_false] at hf; rcases hf with rfl | rfl | rfl | rfl; exact jH; exact jJ; exact jK; exact iT)
 obtain ⟨a,ea⟩:∃ a:fW,a=⟨pot,bT,garden,dD,tooMany,cM,dU,pA,jX,cj,fWh,fNm,MF,SQ,SX,S5,Cr,Cu,Cv,Qd,fSz,fa,fa,MK,fa,Ue,Ug,Cw,Cy,Jy,(fN "is_whole" "is_whole" rR .none al6 al7 al8 aku adZ al9),(fN "is_name" "is_name" oG .none ama amb amc akv ad0 amd),(fN "__init__" "Pot.__init__" nj .none ame amf amg akx ad1 amh),(fN "with_gap" "Pot.with_gap" qT .none ami amj amk aky ad2 aml),(fN "__init__" "Cactus.__init__" nu .none amm amn amo akz ad3 amq),(fN "with_gap" "Cactus.with_gap" qU .none amr ams amt akA ad4 amu),(fN "own_pots" "own_pots" M9 .none Wb Wc Wd V0 O3 Wf),(fN "refuse_bad_counts" "refuse_bad_counts" Nb .none Wg Wh Wi V1 O4 Wj),(fN "refuse_name_twice" "refuse_name_twice" Nf .none Wl Wm Wn V2 O5 Wo),(fN "__init__" "Garden.__init__" Tc (.ref Td) Ge Gf Gg Gd Dy Gh),(fN "size" "Garden.size" Cz .none amz amA amB akF ad5 amC),(fN "law" "law" Du .none DP DQ DR Dw yU DW),(fN "law" "law" Du .none DP DQ DR Dw yU DW),(fN "place_of" "place_of" JM .none W0 W2 W3 V8 Pb W4),(fN "law" "law" Du .none DP DQ DR Dw yU DW),(fN "is_state" "is_state" CN .none Wq Wr Ws V3 O6 Wt),(fN "refuse_no_state" "refuse_no_state" vU .none Wu Wv Ww V4 O7 Wx),(fN "number" "Garden.number" Tg .none Wy Wz WD V5 O8 WK),(fN "state" "Garden.state" Ti .none WL WM WQ V6 O9 WR),(fN "fresh" "Garden.fresh" JR .none WT WW WX V7 Pa WY)⟩:=⟨_,rfl⟩;have B:Kh mg:=⟨mg_none_of X G jm,mg_none_of X G Gi,mg_none_of X G Pg,mg_none_of X G Ph,mg_none_of X G Gj,mg_none_of X G Aj,mg_none_of X G Pj,mg_none_of X G Pk,mg_none_of X G Pn,mg_none_of X G Pq,mg_none_of X G pO,mg_none_of X G Ak⟩;have T:lq K mg a:=by subst ea; exact ⟨B,⟨_,mg_of X G ad7⟩,⟨_,mg_of X G ad8⟩,⟨DX,tR⟩,⟨FWh,bWh⟩,mWh,⟨FNm,bNm⟩,mNm,aoE,PB,apd,PL,ape,PX,⟨FPI,bPI⟩,⟨FPG,bPG⟩,⟨FCI,bCI⟩,⟨FCG,bCG⟩,⟨Gu,aPI,iPI,Gv⟩,⟨sY,aCI,iCI,sZ⟩,⟨aPG,iPG,kPG⟩,⟨aCG,iCG,kCG⟩,⟨rdP,gaP,atP,kPI⟩,ne⟩
 have kb:∀ k:Kd,(∀ C,k≠.ins C)->kitOne K k.ty (.ref pot)=some false:=fun k hk=>(by cases k; exact oh; exact Am; exact Gw; exact Gx; exact Ao; exact wK; exact absurd rfl (hk _))
 have U:Fq K mg a:=by subst ea; exact ⟨T,kpp,kcp,kb,⟨aoF,au7⟩,acO,⟨aoG,au8⟩,acP,⟨aoH,au9⟩,acQ,⟨yV,pU⟩,⟨_,mg_of X G ad9⟩,⟨_,mg_of X G aea⟩,⟨_,mg_of X G aeb⟩,⟨_,mg_of X G aec⟩⟩
 have FGI:Fv K "__init__" "Garden.__init__" Tc (.ref Td) Qd (fN "__init__" "Garden.__init__" Tc (.ref Td) Ge Gf Gg Gd Dy Gh):=⟨⟨amy,akE,Ge,Gf,Gg,Gd,Dy,Gh,alB,rfl,lGI,cGI⟩,kGI⟩;have b4:Binds K (fN "__init__" "Garden.__init__" Tc (.ref Td) Ge Gf Gg Gd Dy Gh) ["self","pots","cans","week","closed"] []:=fun s us hK hl=>match us,hl with | [_,_,_,_,_],_=>binds_K hK rfl lT rfl rfl rfl
 have b1:Binds K (fN "__init__" "Garden.__init__" Tc (.ref Td) Ge Gf Gg Gd Dy Gh) ["self","pots","cans","week","closed"] [.int 1 u1,.int 1 u2,.int 0 u3]:=fun s us hK hl=>(by obtain ⟨x,y,rfl⟩:=len2 (show us.length=2 by simpa using hl); exact binds_K hK rfl lT rfl rfl rfl)
 have b2:Binds K (fN "__init__" "Garden.__init__" Tc (.ref Td) Ge Gf Gg Gd Dy Gh) ["self","pots","cans","week","closed"] [.int 1 u2,.int 0 u3]:=fun s us hK hl=>(by obtain ⟨x,y,z,rfl⟩:=akq (show us.length=3 by simpa using hl); exact binds_K hK rfl lT rfl rfl rfl)
 have Z:CJ K mg a (.ref Td):=by subst ea; exact ⟨U,PN,PJ,P0,FGI,b4,⟨_,_,_,b1⟩,⟨_,_,b2⟩,⟨tO,aGI,iGI,tQ⟩,⟨FSz,bSz⟩,⟨aSz,iSz,kSz⟩⟩
 have S:Tj K mg a (.ref Td):=by subst ea; exact ⟨Z,⟨aoI,ava⟩,avb,⟨aoJ,avc⟩,avd,⟨aoK,ave⟩,⟨aey,aez,Uk⟩,⟨aoL,avf⟩,⟨aeC,aeD,Ul⟩,⟨yW,pW⟩⟩
 have N:zX mg a:=by subst ea; exact ⟨mg_none_of X G jm,mg_none_of X G mj,DX,yV,Io,DY,Pz,yW,Py⟩
 have Ut:XC K a dU 2:=by subst ea; exact ⟨⟨wM,wN,wO,wQ,gt,tk,wR,wU⟩,wV,wW,wX,wY,wZ,xg,xq,xr⟩
 have Qa:XC K a cj 3:=by subst ea; exact ⟨⟨tV,tW,tX,tY,gt,tk,tZ,uc⟩,ud,uf,ug,uh,um,uo,uq,ur⟩
 have Ka:XC K a cM 5:=by subst ea; exact ⟨⟨pX,pY,qg,qj,gt,tk,qm,qp⟩,qt,qu,qw,qx,qy,qz,qC,qD⟩
 have W:Fx K mg a (.ref Td):=by subst ea; exact ⟨S,⟨_,_,⟨aoO,avk⟩,avl⟩,⟨_,_,⟨aoP,avm⟩,avn⟩,⟨_,_,⟨aoQ,avo⟩,avp⟩,⟨_,_,⟨aoR,avq⟩,⟨ae0,ae1,Uo⟩⟩,⟨_,_,⟨aoS,avr⟩,⟨ae4,ae5,Uq⟩⟩⟩
 have D:JZ K mg:=⟨B,⟨_,_,⟨ao0,avE⟩,avF⟩,⟨_,_,⟨ao1,avG⟩,avH⟩⟩;have BD:Hu K mg a:=by subst ea; exact ⟨Py,⟨rdG,gaG,atG,rfl⟩,⟨_,_,⟨FBI,bBI⟩,⟨⟨_,_,_,_,_,_,_,_,_,_,_,_,_,_,_,_,aft,afu,afv,afw⟩⟩,iBI⟩,⟨afx,afy,afz,Im⟩,DY⟩
 have Pl:Hw K mg a (.ref Td):=by subst ea; exact ⟨W,⟨⟨_,_,⟨aoN,avi⟩,avj⟩,⟨Io,wL⟩⟩,BD,mg_none_of X G nU,⟨_,_,⟨aoT,avs⟩,avt⟩,⟨_,_,⟨aoU,avu⟩,avv⟩,⟨_,_,⟨aoV,avw⟩,avx⟩,⟨_,_,_,_,avy,aoW,aoX,avz⟩,⟨_,_,⟨aoM,avh⟩,⟨aeG,aeH,Um⟩⟩⟩
 have Zz:adl K mg a:=by subst ea; exact ⟨N,Ut,Qa,Ka,Im,afA,⟨_,_,⟨aoZ,avC⟩,avD⟩,⟨_,_,⟨ao9,avV⟩,avW⟩⟩
 have Rt:OD K mg a (.ref Td):=⟨Pl,Zz,⟨_,_,⟨ao7,avR⟩,avS⟩,⟨_,_,⟨ao4,avL⟩,avM⟩,⟨_,_,⟨ao8,avT⟩,avU⟩,⟨_,_,⟨aoY,avA⟩,avB⟩⟩;have R:VP K mg a (.ref Td):=⟨Rt,D,mg_none_of X G Pr,mg_none_of X G Pu,⟨_,_,⟨ao2,avI⟩,avJ⟩,⟨_,_,⟨ao3,avK⟩,acW⟩,⟨_,_,⟨ao5,avN⟩,avO⟩,⟨_,_,⟨ao6,avP⟩,avQ⟩,⟨_,_,⟨apa,avX⟩,avY⟩,⟨_,_,⟨apb,avZ⟩,av0⟩⟩;exact ⟨(fN "law" "law" Du .none DP DQ DR Dw yU DW),fun s v=>.of_eq rfl,fun base _ _=>adB apc R⟩
theorem walk {l:PySem.W.OpenLaw} {q:cA} {loose:List Str} {XP:(Str->Option aA)->Heap->Prop} {YP:World->Heap->Prop} {d:DefRec} {K:Params->Fg} (hn:l.most=some 63) (hdf:d.params.defaults=[]) (hY:∀ (w:World) (h:Heap),YP w h->(K w.params).In h) (F:∀ (w:World) (mg:Str->Option aA) (fa:aB) (h:Heap),(K w.params).In h->h.Ns mainGlobals mg->mg d.name=some (.ref fa) -> ∃ fd:dW,(∀ (s:aQ) (u:aA),BindsTo s fd ⟨[u],[]⟩ [("_law_script",u)])/\∀ base:Heap,(K w.params).In base->base.Ns mainGlobals mg->cG l.prog w (K w.params) mg base (fu l.prog w) 10 fa fd ["_law_script"] (Ik (K w.params))) : PySem.W.WalkO q loose XP YP l.row.toRowW d [] (fun f vs=>PySem.call f vs) := L2.RJ (n:=63) (k:=10) (x:="_law_script") (CX:=fun w=>fu l.prog w) (sp:=fun w=>Ik (K w.params)) hn (by decide) hdf ⟨rfl,by decide,by decide⟩ hY F (fun _ _ a ns hl _ hS=>⟨a,ns,rfl,hS,fun _=>rfl⟩) fun _ _ _ _ _ z=>by
 obtain ⟨_,_,_,_,_,_,_,_,_,_,_,_,_,_,_,z⟩:=z;exact z
end Tw
open PySem PySem.W PyProof.Rows
set_option maxRecDepth 100000 in
set_option maxHeartbeats 0 in
theorem PySem.Challenge.cw_thirstwise_k06_plans_followed_holds : PySem.Challenge.rw_thirstwise_k06_plans_followed.Holds := by
 w_on; o_law
 refine PySem.W.holds_open (q:=Tw.view) (loose:=Tw.LO) (Xt:=fun s=>xlAt Tw.view [] s && recOk (RowW.records (OpenRow.toRowW (OpenLaw.row PySem.Challenge.rw_thirstwise_k06_plans_followed))) s) (XP:=XL Tw.view []) (Yf:=Hook.obs (PySem.W.kHook Tw.KK Tw.addrs (fun _=>by kernel_rfl))) (Ya:=Hook.val (PySem.W.kHook Tw.KK Tw.addrs (fun _=>by kernel_rfl))) (YP:=Hook.says (PySem.W.kHook Tw.KK Tw.addrs (fun _=>by kernel_rfl))) (N:=7476) Tw.hl (Hook.of (PySem.W.kHook Tw.KK Tw.addrs (fun _=>by kernel_rfl))) (Hook.keeps (PySem.W.kHook Tw.KK Tw.addrs (fun _=>by kernel_rfl))) (fun s e=>xl_of s (Bool.and_eq_true_iff.mp e).1) XL.keeps (by rfl) (by rfl) (by rfl) (fun s e=>recFacts_of (Bool.and_eq_true_iff.mp e).2) (by rfl) (by first | assumption | decide +kernel) (by decide +kernel) ⟨rfl,rfl,rfl,rfl,rfl,by decide +kernel⟩ ?hw ?hc
 case hw=>w_witness2
 k_fill
 refine Tw.walk (l:=PySem.Challenge.rw_thirstwise_k06_plans_followed) rfl rfl (fun w h Y=>PySem.W.kIn_of Y) ?F
 case F =>
  intro w mg fa h KX G hmg;refine' Tw.all_mk KX G hmg ?jm ?Gi ?Pg ?Ph ?Gj ?Aj ?Pj ?Pk ?Pn ?Pq ?pO ?Ak ?mj ?nU ?Pr ?Pu ?ad7 ?ad8 ?ad9 ?aea ?aeb ?aec ?Gk ?wD ?wG ?sH ?sI ?Al ?wH ?Px ?wI ?wJ ?ne ?aWh ?lWh ?cWh ?kWh ?aNm ?lNm ?cNm ?kNm ?aPI ?iPI ?lPI ?cPI ?kPI ?aPG ?iPG ?lPG ?cPG ?kPG ?aCI ?iCI ?lCI ?cCI ?kCI ?aCG ?iCG ?lCG ?cCG ?kCG ?aed ?aee ?aef ?kOwn ?aeg ?aeh ?aei ?aej ?aek ?ael ?aem ?aen ?aGI ?iGI ?lGI ?cGI ?kGI ?lT ?aSz ?iSz ?lSz ?cSz ?kSz ?aeo ?aep ?aer ?aes ?aeu ?aev ?aew ?aex ?aey ?aez ?aeA ?aeB ?Uk ?aeC ?aeD ?aeE ?aeF ?Ul ?aeG ?aeH ?aeI ?aeJ ?Um ?aeK ?aeL ?aeM ?aeN ?aeO ?aeP ?aeQ ?aeR ?aeS ?aeT ?aeU ?aeV ?aeW ?aeX ?aeY ?aeZ ?ae0 ?ae1 ?ae2 ?ae3 ?Uo ?ae4 ?ae5 ?ae6 ?ae7 ?Uq ?ae8 ?ae9 ?afa ?afb ?afc ?afd ?afe ?afg ?afh ?afi ?afj ?afk ?afl ?afm ?afn ?afo ?Ur ?afp ?afq ?afr ?afs ?aBI ?iBI ?lBI ?cBI ?kBI ?aft ?afu ?afv ?afw ?afx ?afy ?afz ?Im ?afA ?rdG ?gaG ?atG ?afB ?afC ?afD ?afE ?afF ?afG ?afH ?afI ?afJ ?afK ?afL ?afM ?afN ?afO ?afP ?afQ ?afR ?afS ?afT ?afU ?afV ?afW ?afX ?afY ?afZ ?af0 ?af2 ?af3 ?af4 ?af5 ?af6 ?af7 ?af8 ?af9 ?aga ?agb ?agc ?agd ?agf ?agg ?agh ?agi ?agj ?agk ?agl ?agm ?agn ?ago ?agp ?agq ?agr ?ags ?Us ?agt ?agu ?agv ?gt ?tk ?Gm ?Gn ?Gp ?Gq ?Gr ?Gs ?nW ?pP ?pQ ?nY ?mq ?Gu ?Gv ?sJ ?sO ?sU ?sV ?sW ?sX ?jB ?jY ?jZ ?jC ?jf ?sY ?sZ ?tD ?tE ?tH ?tK ?tL ?tM ?jD ?j4 ?j5 ?jE ?jg ?tO ?tQ ?nZ ?pR ?n6 ?jF ?j6 ?jG ?jH ?jJ ?jK ?iT ?rdP ?gaP ?atP ?kpp ?kcp ?oh ?Am ?Gw ?Gx ?Ao ?wK ?tR ?pU ?pW ?wL ?wM ?wN ?wO ?wQ ?wR ?wU ?wV ?wW ?wX ?wY ?wZ ?xg ?xq ?xr ?tV ?tW ?tX ?tY ?tZ ?uc ?ud ?uf ?ug ?uh ?um ?uo ?uq ?ur ?pX ?pY ?qg ?qj ?qm ?qp ?qt ?qu ?qw ?qx ?qy ?qz ?qC ?qD
  case jm | Gi | Pg | Ph | Gj | Aj | Pj | Pk | Pn | Pq | pO | Ak | mj | nU | Pr | Pu | ad7 | ad8 | ad9 | aea | aeb | aec | Gk | wD | wG | sH | sI | Al | wH | Px | wI | wJ=>k_is
  case ne=>decide
  case aWh | lWh | cWh | kWh | aNm | lNm | cNm | kNm | aPI | iPI | lPI | cPI | kPI | aPG | iPG | lPG | cPG | kPG | aCI | iCI | lCI | cCI | kCI | aCG | iCG | lCG | cCG | kCG | aed | aee | aef | kOwn | aeg | aeh | aei | aej | aek | ael | aem | aen=>k_is
  case aGI | iGI | lGI | cGI | kGI | lT | aSz | iSz | lSz | cSz | kSz | aeo | aep | aer | aes | aeu | aev | aew | aex | aey | aez | aeA | aeB | Uk | aeC | aeD | aeE | aeF | Ul | aeG | aeH | aeI | aeJ | Um | aeK | aeL | aeM | aeN | aeO | aeP=>k_is
  case aeQ | aeR | aeS | aeT | aeU | aeV | aeW | aeX | aeY | aeZ | ae0 | ae1 | ae2 | ae3 | Uo | ae4 | ae5 | ae6 | ae7 | Uq | ae8 | ae9 | afa | afb | afc | afd | afe | afg | afh | afi | afj | afk | afl | afm | afn | afo | Ur | afp | afq | afr=>k_is
  case afs | aBI | iBI | lBI | cBI | kBI | aft=>k_is
  case afu | afv=>kernel_rfl
  case afw | afx=>k_is
  case afy=>kernel_rfl
  case afz | Im | afA | rdG | gaG | atG | afB | afC | afD | afE | afF | afG | afH | afI | afJ | afK | afL | afM | afN | afO | afP | afQ | afR | afS | afT | afU | afV | afW | afX | afY | afZ | af0 | af2 | af3 | af4 | af5 | af6 | af7 | af8 | af9=>k_is
  case aga | agb | agc | agd | agf | agg | agh | agi | agj | agk | agl | agm | agn | ago | agp | agq | agr | ags | Us | agt | agu | agv | gt | tk | Gm | Gn | Gp | Gq | Gr | Gs=>k_is
  case nW | pP | pQ | nY | mq=>kit_is
  case Gu | Gv | sJ | sO | sU | sV | sW | sX=>k_is
  case jB | jY | jZ | jC | jf=>kit_is
  case sY | sZ | tD | tE | tH | tK | tL | tM=>k_is
  case jD | j4 | j5 | jE | jg=>kit_is
  case tO | tQ | nZ | pR | n6 | jF | j6 | jG | jH | jJ | jK | iT | rdP | gaP | atP=>k_is
  case kpp | kcp | oh | Am | Gw | Gx | Ao | wK=>kit_is
  case tR | pU | pW | wL=>k_exc
  case wM | wN | wO | wQ | wR | wU=>k_is
  case wV | wW | wX | wY | wZ | xg | xq=>kit_is
  case xr=>kts_exm
  case tV | tW | tX | tY | tZ | uc=>k_is
  case ud | uf | ug | uh | um | uo | uq=>kit_is
  case ur=>kts_exm
  case pX | pY | qg | qj | qm | qp=>k_is
  case qt | qu | qw | qx | qy | qz | qC=>kit_is
  case qD=>kts_exm
