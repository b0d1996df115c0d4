import PyProof.Rows.All
import Wide.All
import Wide.FinOn
import OpenK.KLine
import KE.KIsAll
import KE.RegKIsAll
import KE.RegKTryMore
import OpenK.KOwn
import KE.KRevIter
import KE.KRevSl
import KE.KItem
import KE.KxBytes
import Lean
import PyProof.EqAt
import PyProof.EqKinds
import PyProof.TupleCall
import PyProof.DictRoadsH
import PyProof.DictKinds
import PyProof.AttrMiss
import PyProof.IsiH_list
import PyProof.ListNew
import PyProof.FactsAll.dict
import KE.KLam
import KE.KMinKey
import PyProof.Rows.TupTab
import KE.KNest
import PyProof.Rows.SumAny
import PyProof.ExcClass2
import PyProof.ExcInit
import PyProof.Rows.FStr
import PyProof.Rows.SetFrom
import KE.KIntText
import KE.KSortedM
import PyProof.CallStr
import PyProof.CollectWalk
import PyProof.DictRoads
import PyProof.DictTruth
import PyProof.FactsAll.set
import PyProof.Rows.SortShell
import PyProof.Rows.SortWalk
import PyProof.Rows.StrItems
import PyProof.StrBlockL
import PyProof.StrCalls2
import PyProof.StrLawsChain
import PyProof.StrLawsTight
import PySem.Challenge.RW_thirstwise_k08_gardens_read_and_written
set_option compiler.extract_closed false
set_option genSizeOf false
set_option bootstrap.genMatcherCode false
noncomputable section
set_option Elab.async false
set_option linter.all false
set_option maxRecDepth 1000000
set_option maxHeartbeats 0
theorem zau0a (h:True:=by rfl):True:=trivial
abbrev zau0:=zau0a._auto_1
theorem zau1a (h:True:=by decide):True:=trivial
abbrev zau1:=zau1a._auto_1
theorem zau2a (h:True:=by first | exact .inl rfl | exact .inr rfl | assumption):True:=trivial
abbrev zau2:=zau2a._auto_1
theorem zau3a (h:True:=by intro _; rfl):True:=trivial
abbrev zau3:=zau3a._auto_1
theorem zau4a (h:True:=by decide +kernel):True:=trivial
abbrev zau4:=zau4a._auto_1
theorem zau5a (h:True:=by with_unfolding_all rfl):True:=trivial
abbrev zau5:=zau5a._auto_1
open PySem.W (InstAt Looks any_some binds_K callWith_K callWith_K0 clsIn cls_value codeIn emptyDict excIn exmOne findCls findIn fnOf handedIn hasDictIn instObj isFn isNs_of_in keepIn kia_one kitOne kitx_dict kitx_list lookIn looks_clsIn looks_findIn makesIn methodCall_KW methodObj method_cls mg_none_of mg_of mroIn nsIn nsOkIn plainGet plainGet_of plainOver readsIn set_plain specialIn tailIn tail_of_in takerIn takesIn typeIn)
open List (Pairwise Perm all_eq_true all_map append_assoc append_nil cons_append cons_lt_cons_iff ext_getElem? filter_append filter_cons filter_eq_self flatten_cons length_append length_cons length_drop length_filter_le length_map length_nil length_range length_replicate length_take map_append map_congr_left map_cons map_id map_id' map_map map_nil mem_append mem_append_left mem_append_right mem_cons mem_cons_of_mem mem_cons_self mem_filter mem_map mem_nil_iff mem_of_getElem? mem_range mem_singleton nil_append nodup_cons not_mem_nil of_mem_zip range_succ replicate_succ size_toArray take_length take_of_length_le)
open PyProof.Rows (bitAnd_pp boot_all boot_int boot_isinstance boot_list boot_max boot_set boot_str boot_sum callWith_builtin1 callWith_type1 split_le split_pos)
abbrev aj := @PySem.wpAny_bind
abbrev ak := @PySem.wpAny_pure
abbrev cM := @PySem.wpAny_mono
abbrev cH := @PySem.codeAny_mono
abbrev au := @PySem.Heap.get?_push_of_some
abbrev aC := @PySem.Heap.get?_push_size
abbrev aN := @List.getElem?_eq_some_iff
abbrev aP := @List.getElem?_eq_getElem
abbrev aU := @List.getElem?_map
abbrev aq := @List.length_map
abbrev aR := @List.length_append
abbrev aO := @List.mem_singleton
abbrev bf := @List.mem_map
abbrev bQ := @List.mem_append
abbrev cu := @List.filter_append
abbrev aW := @List.mem_of_getElem?
abbrev cD := @Int.toNat_natCast
abbrev aK := @decide_eq_true
abbrev aH := @decide_eq_false
abbrev aJ := @Nat.le_refl
abbrev cX := @Nat.lt_irrefl
abbrev bw := @Nat.le_trans
abbrev bU := @Option.some.inj
abbrev bH := @Option.map_eq_some_iff
abbrev dR := @Nat.zero_le
abbrev aX := @List.map_append
abbrev bT := @List.map_map
abbrev bO := @List.map_cons
abbrev bV := @List.take_length
abbrev aQ := @List.mem_cons
abbrev aZ := @Nat.lt_of_lt_of_le
abbrev bZ := @List.append_nil
abbrev aA := PySem.Value
abbrev aB := PySem.Addr
abbrev aM := PySem.Shared
abbrev cg := PySem.Program
abbrev d9 := PySem.FuncData
abbrev cW := PySem.Around
abbrev cV := PySem.Stmt
abbrev Fg := PySem.W.Frag
namespace L2
open PySem
def inClass (s:cV) (j:Nat):cV:=match s with
 | .ClassDef _ _ _ body _ _ _ _ _ _ _=>body.getD j (.Pass ⟨0,0,0,0⟩)
 | _=>.Pass ⟨0,0,0,0⟩
def jZ (s:cV):Arguments:=match s with
 | .FunctionDef _ a _ _ _ _ _ _ _ _=>a
 | _=>{ posonlyargs:=[],args:=[],vararg:=none,kwonlyargs:=[],kw_defaults:=[],kwarg:=none,defaults:=[] }
def gk (s:cV):List cV:=match s with
 | .FunctionDef _ _ b _ _ _ _ _ _ _=>b
 | _=>[]
def aY (s:cV):Scope:=match s with
 | .FunctionDef _ _ _ _ _ _ sc _ _ _=>sc
 | _=>{ kind:=.function,names:=[],isGenerator:=false,isCoroutine:=false }
end L2
namespace Tw
open PySem PySem.W L2
abbrev PW:cg:=PySem.Challenge.pw_thirstwise_k08_gardens_read_and_written
def top (i:Nat):cV:=PySem.Challenge.pw_thirstwise_k08_gardens_read_and_written.main.body.getD i (.Pass ⟨0,0,0,0⟩)
noncomputable section
abbrev SS (s:String):Str:=Str.ofString s
abbrev VS (s:String) (n:Nat):aA:=Value.str (Str.ofString s) n
abbrev cP (n:Nat):aA:=Value.str (Str.ofString "/claim/cut.py") n
abbrev KH (P:Params) (s:Str):=PyData.keyHash P s
abbrev dE (P:Params) (s:String) (n:Nat) (v:aA):DictEntry:={ hash:=PyData.keyHash P (Str.ofString s),key:=Value.str (Str.ofString s) n,val:=v }
abbrev tU (a:Array aA):Obj:={ cls:=.type "tuple",data:=.seq a }
abbrev cO (a:Array aA):Obj:={ cls:=.type "code",data:=.fields a }
abbrev fR (a:Array (Option aA)):Obj:={ cls:=.type "frame",slots:=a }
abbrev dO (a:Array DictEntry) (n:Nat):Obj:={ cls:=.type "dict",data:=.dict a n }
noncomputable abbrev fO (n q:String) (s:cV) (dv m:aA) (c:Nat):Obj:={ cls:=.type "function",data:=.func { name:=Str.ofString n,qualname:=Str.ofString q,params:=jZ s,body:=FuncBody.stmts (gk s),scope:=aY s,globals:=3,closure:=[],defaults:=dv,kwdefaults:=.none,pyModule:=m,code:=.ref c } }
noncomputable abbrev fB (n q:String) (s:cV):Obj:={ cls:=.none,data:=.func { name:=SS n,qualname:=SS q,params:=jZ s,body:=FuncBody.stmts (gk s),scope:=aY s,globals:=0,closure:=[],defaults:=.none,kwdefaults:=.none } }
abbrev tB (a:Array aA):Obj:={ cls:=.none,data:=.fields a }
abbrev i0 (n:Int):aA:=.int n 0
abbrev lF (o:Obj):BT:=.node o .nil .nil
abbrev nD (o:Obj) (l r:BT):BT:=.node o l r
noncomputable abbrev ag8 (P:Params):Obj:=dO #[dE P "__name__" 165 (VS "thirstwise.gardens" 436),dE P "__doc__" 166 .none,dE P "__package__" 167 .none,dE P "__loader__" 168 (.builtin "__main__.__loader__#opaque"),dE P "__spec__" 169 .none,dE P "__annotations__" 170 (.ref 6),dE P "__builtins__" 171 (.ref 4),dE P "__file__" 173 (cP 172),dE P "__cached__" 174 .none,dE P "_wall" 193 (.ref 21),dE P "is_whole" 204 (.ref 28),dE P "is_set" 212 (.ref 35),dE P "GardenError" 232 (.ref 45),dE P "BadPot" 248 (.ref 58),dE P "BadRow" 273 (.ref 77),dE P "TooMany" 289 (.ref 89),dE P "NoState" 305 (.ref 101),dE P "LONGEST_NAME" 309 (.int 12 308),dE P "MOST_GAP" 311 (.int 60 310),dE P "is_name" 317 (.ref 108),dE P "Pot" 378 (.ref 153),dE P "Cactus" 435 (.ref 202),dE P "MOST_POTS" 439 (.int 8 438),dE P "MOST_CANS" 441 (.int 8 440),dE P "MOST_WEEK" 443 (.int 14 442),dE P "MOST_STATES" 445 (.int 20000 444),dE P "own_pots" 451 (.ref 209),dE P "refuse_bad_counts" 461 (.ref 216),dE P "refuse_name_twice" 467 (.ref 221)] 29
noncomputable abbrev U5 (P:Params):Obj:=dO #[dE P "__name__" 165 (VS "law_thirstwise_k08_gardens_read_and_written" 639),dE P "__doc__" 166 .none,dE P "__package__" 167 .none,dE P "__loader__" 168 (.builtin "__main__.__loader__#opaque"),dE P "__spec__" 169 .none,dE P "__annotations__" 170 (.ref 6),dE P "__builtins__" 171 (.ref 4),dE P "__file__" 173 (cP 172),dE P "__cached__" 174 .none,dE P "_wall" 193 (.ref 21),dE P "is_whole" 204 (.ref 28),dE P "is_set" 212 (.ref 35),dE P "GardenError" 232 (.ref 45),dE P "BadPot" 248 (.ref 58),dE P "BadRow" 273 (.ref 77),dE P "TooMany" 289 (.ref 89),dE P "NoState" 305 (.ref 101),dE P "LONGEST_NAME" 309 (.int 12 308),dE P "MOST_GAP" 311 (.int 60 310),dE P "is_name" 317 (.ref 108),dE P "Pot" 378 (.ref 153),dE P "Cactus" 435 (.ref 202),dE P "MOST_POTS" 439 (.int 8 438),dE P "MOST_CANS" 441 (.int 8 440),dE P "MOST_WEEK" 443 (.int 14 442),dE P "MOST_STATES" 445 (.int 20000 444),dE P "own_pots" 451 (.ref 209),dE P "refuse_bad_counts" 461 (.ref 216),dE P "refuse_name_twice" 467 (.ref 221),dE P "is_state" 473 (.ref 226),dE P "refuse_no_state" 481 (.ref 233),dE P "Garden" 558 (.ref 279),dE P "joined" 566 (.ref 290),dE P "written" 574 (.ref 295),dE P "number_in" 580 (.ref 300),dE P "head_in" 586 (.ref 305),dE P "pot_in" 592 (.ref 310),dE P "words_in" 598 (.ref 315),dE P "numbered_rows" 604 (.ref 320),dE P "pots_in" 616 (.ref 327),dE P "read" 629 (.ref 334),dE P "sheet" 638 (.ref 340),dE P "_law_cell_at" 648 (.ref 347),dE P "_law_draw" 659 (.ref 354),dE P "_law_spec" 679 (.ref 361),dE P "_law_garden" 690 (.ref 368),dE P "_law_plain" 696 (.ref 373),dE P "_law_loose" 709 (.ref 380),dE P "_law_same" 715 (.ref 385),dE P "_law_sheet" 726 (.ref 392),dE P "_law_great" 737 (.ref 399),dE P "law" 743 (.ref 404)] 52
abbrev o11:Obj:=tU #[]
abbrev o12:Obj:=tB #[]
noncomputable abbrev abY:Obj:=tB #[i0 1,i0 0,.ref 20,i0 5,i0 0,.ref 27,i0 9,i0 0,.ref 34,i0 12,i0 0,.ref 41,i0 14,i0 0,.ref 54,i0 16,i0 0,.ref 66,i0 21,i0 0,.ref 85,i0 23,i0 0,.ref 97,i0 28,i0 0,.ref 107,i0 32,i0 0,.ref 114,i0 53,i0 0,.ref 163,i0 77,i0 0,.ref 208,i0 84,i0 0,.ref 215,i0 93,i0 0,.ref 220]
noncomputable abbrev Te:Obj:=tB #[i0 1,i0 0,.ref 20,i0 5,i0 0,.ref 27,i0 9,i0 0,.ref 34,i0 12,i0 0,.ref 41,i0 14,i0 0,.ref 54,i0 16,i0 0,.ref 66,i0 21,i0 0,.ref 85,i0 23,i0 0,.ref 97,i0 28,i0 0,.ref 107,i0 32,i0 0,.ref 114,i0 53,i0 0,.ref 163,i0 77,i0 0,.ref 208,i0 84,i0 0,.ref 215,i0 93,i0 0,.ref 220,i0 96,i0 0,.ref 225,i0 106,i0 0,.ref 232,i0 109,i0 0,.ref 239,i0 147,i0 0,.ref 289,i0 150,i0 0,.ref 294,i0 155,i0 0,.ref 299,i0 161,i0 0,.ref 304,i0 170,i0 0,.ref 309,i0 180,i0 0,.ref 314,i0 182,i0 0,.ref 319,i0 185,i0 0,.ref 326,i0 195,i0 0,.ref 333,i0 208,i0 0,.ref 339,i0 211,i0 0,.ref 346,i0 215,i0 0,.ref 353,i0 219,i0 0,.ref 360,i0 247,i0 0,.ref 367,i0 255,i0 0,.ref 372,i0 261,i0 0,.ref 379,i0 270,i0 0,.ref 384,i0 274,i0 0,.ref 391,i0 281,i0 0,.ref 398,i0 289,i0 0,.ref 403]
abbrev o13:Obj:=cO #[VS "<module>" 182,VS "<module>" 183,cP 184,i0 1,i0 0,i0 0,i0 0,i0 0,.ref 11,.bool false,i0 181,.ref 12,.none,.none,.none,.none,i0 185,i0 1,cP 186]
abbrev o14:Obj:=fR #[some (.ref 13),some (.ref 3),some (.ref 3),none,some (VS "__main__" 164),none,some (.ref 0)]
abbrev o15:Obj:=tU #[]
abbrev o16:Obj:=tB #[]
abbrev o17:Obj:=tU #[VS "k" 190]
abbrev o18:Obj:=tU #[]
abbrev o19:Obj:=fB "_wall" "_wall" (top 0)
abbrev o20:Obj:=cO #[VS "_wall" 187,VS "_wall" 188,cP 189,i0 1,i0 1,i0 0,i0 0,i0 3,.ref 15,.bool true,i0 181,.ref 16,.none,.ref 17,.ref 18,.ref 19,i0 191,i0 1,cP 192]
abbrev o21:Obj:=fO "_wall" "_wall" (top 0) .none (VS "__main__" 164) 20
abbrev o22:Obj:=tU #[]
abbrev o23:Obj:=tB #[]
abbrev o24:Obj:=tU #[VS "value" 199,VS "least" 200,VS "most" 201]
abbrev o25:Obj:=tU #[]
abbrev o26:Obj:=fB "is_whole" "is_whole" (top 2)
abbrev o27:Obj:=cO #[VS "is_whole" 196,VS "is_whole" 197,cP 198,i0 5,i0 3,i0 0,i0 0,i0 3,.ref 22,.bool true,i0 181,.ref 23,.none,.ref 24,.ref 25,.ref 26,i0 202,i0 5,cP 203]
abbrev o28:Obj:=fO "is_whole" "is_whole" (top 2) .none (VS "thirstwise.checks" 194) 27
abbrev o29:Obj:=tU #[]
abbrev o30:Obj:=tB #[]
abbrev o31:Obj:=tU #[VS "number" 208,VS "bit" 209]
abbrev o32:Obj:=tU #[]
abbrev o33:Obj:=fB "is_set" "is_set" (top 3)
abbrev o34:Obj:=cO #[VS "is_set" 205,VS "is_set" 206,cP 207,i0 9,i0 2,i0 0,i0 0,i0 3,.ref 29,.bool true,i0 181,.ref 30,.none,.ref 31,.ref 32,.ref 33,i0 210,i0 9,cP 211]
abbrev o35:Obj:=fO "is_set" "is_set" (top 3) .none (VS "thirstwise.checks" 194) 34
abbrev o36:Obj:=tU #[.type "ValueError"]
abbrev o37:Obj:={ cls:=.type "builtin_function_or_method",data:=.fields #[.builtin "type.__prepare__",.type "type"] }
noncomputable abbrev o38 (P:Params):Obj:=dO #[dE P "__module__" 222 (VS "thirstwise.errors" 213),dE P "__qualname__" 224 (VS "GardenError" 223),dE P "__firstlineno__" 226 (.int 12 225),dE P "__static_attributes__" 227 (.ref 43)] 4
abbrev o39:Obj:=tU #[]
abbrev o40:Obj:=tB #[]
abbrev o41:Obj:=cO #[VS "GardenError" 217,VS "GardenError" 218,cP 219,i0 12,i0 0,i0 0,i0 0,i0 0,.ref 39,.bool false,i0 181,.ref 40,.none,.none,.none,.none,i0 220,i0 12,cP 221]
abbrev o42:Obj:=fR #[some (.ref 41),some (.ref 3),some (.ref 38),none,some (VS "thirstwise.errors" 213),none,some (.ref 0)]
abbrev o43:Obj:=tU #[]
noncomputable abbrev o44 (P:Params):Obj:=dO #[dE P "__module__" 222 (VS "thirstwise.errors" 213),dE P "__firstlineno__" 226 (.int 12 225),dE P "__static_attributes__" 227 (.ref 43),dE P "__weakref__" 229 (.ref 46),dE P "__doc__" 230 .none] 3
noncomputable abbrev o45:Obj:={ cls:=.type "type",data:=.cls { name:=SS "GardenError",bases:=[.type "ValueError"],mro:=[.ref 45,.type "ValueError",.type "Exception",.type "BaseException",.type "object"],ns:=44,qualname:=SS "GardenError",subclasses:=[.ref 58,.ref 77,.ref 89,.ref 101] },slots:=#[some (.ref 36),none,some (VS "GardenError" 215),some (VS "GardenError" 223),some (.builtin "ValueError.__new__"),some (.bool true)] }
abbrev o46:Obj:={ cls:=.type "getset_descriptor",data:=.fields #[VS "__weakref__" 228,.ref 45,.builtin "ExceptionGroup.__weakref__",.none] }
abbrev o47:Obj:={ cls:=.type "super",data:=.fields #[.ref 45,.ref 45,.ref 45] }
abbrev o48:Obj:={ cls:=.type "builtin_function_or_method",data:=.fields #[.builtin "object.__init_subclass__",.ref 45] }
abbrev o49:Obj:=tU #[.ref 45]
abbrev o50:Obj:={ cls:=.type "builtin_function_or_method",data:=.fields #[.builtin "type.__prepare__",.type "type"] }
noncomputable abbrev o51 (P:Params):Obj:=dO #[dE P "__module__" 240 (VS "thirstwise.errors" 213),dE P "__qualname__" 242 (VS "BadPot" 241),dE P "__firstlineno__" 244 (.int 14 243),dE P "__static_attributes__" 245 (.ref 56)] 4
abbrev o52:Obj:=tU #[]
abbrev o53:Obj:=tB #[]
abbrev o54:Obj:=cO #[VS "BadPot" 235,VS "BadPot" 236,cP 237,i0 14,i0 0,i0 0,i0 0,i0 0,.ref 52,.bool false,i0 181,.ref 53,.none,.none,.none,.none,i0 238,i0 14,cP 239]
abbrev o55:Obj:=fR #[some (.ref 54),some (.ref 3),some (.ref 51),none,some (VS "thirstwise.errors" 213),none,some (.ref 0)]
abbrev o56:Obj:=tU #[]
abbrev o57 (P:Params):Obj:=dO #[dE P "__module__" 240 (VS "thirstwise.errors" 213),dE P "__firstlineno__" 244 (.int 14 243),dE P "__static_attributes__" 245 (.ref 56),dE P "__doc__" 246 .none] 2
noncomputable abbrev o58:Obj:={ cls:=.type "type",data:=.cls { name:=SS "BadPot",bases:=[.ref 45],mro:=[.ref 58,.ref 45,.type "ValueError",.type "Exception",.type "BaseException",.type "object"],ns:=57,qualname:=SS "BadPot" },slots:=#[some (.ref 49),none,some (VS "BadPot" 233),some (VS "BadPot" 241),some (.builtin "ValueError.__new__"),some (.bool true)] }
abbrev o59:Obj:={ cls:=.type "super",data:=.fields #[.ref 58,.ref 58,.ref 58] }
abbrev o60:Obj:={ cls:=.type "builtin_function_or_method",data:=.fields #[.builtin "object.__init_subclass__",.ref 58] }
abbrev o61:Obj:=tU #[.ref 45]
abbrev o62:Obj:={ cls:=.type "builtin_function_or_method",data:=.fields #[.builtin "type.__prepare__",.type "type"] }
noncomputable abbrev o63 (P:Params):Obj:=dO #[dE P "__module__" 256 (VS "thirstwise.errors" 213),dE P "__qualname__" 258 (VS "BadRow" 257),dE P "__firstlineno__" 260 (.int 16 259),dE P "__init__" 268 (.ref 74),dE P "__static_attributes__" 270 (.ref 75)] 5
abbrev o64:Obj:=tU #[]
abbrev o65:Obj:=tB #[i0 18,i0 4,.ref 73]
abbrev o66:Obj:=cO #[VS "BadRow" 251,VS "BadRow" 252,cP 253,i0 16,i0 0,i0 0,i0 0,i0 0,.ref 64,.bool false,i0 181,.ref 65,.none,.none,.none,.none,i0 254,i0 16,cP 255]
abbrev o67:Obj:=fR #[some (.ref 66),some (.ref 3),some (.ref 63),none,some (VS "thirstwise.errors" 213),none,some (.ref 0)]
abbrev o68:Obj:=tU #[]
abbrev o69:Obj:=tB #[]
abbrev o70:Obj:=tU #[VS "self" 264,VS "row" 265]
abbrev o71:Obj:=tU #[]
abbrev o72:Obj:=fB "__init__" "BadRow.__init__" (inClass (top 7) 0)
abbrev o73:Obj:=cO #[VS "__init__" 261,VS "BadRow.__init__" 262,cP 263,i0 18,i0 2,i0 0,i0 0,i0 3,.ref 68,.bool true,i0 181,.ref 69,.none,.ref 70,.ref 71,.ref 72,i0 266,i0 18,cP 267]
abbrev o74:Obj:=fO "__init__" "BadRow.__init__" (inClass (top 7) 0) .none (VS "thirstwise.errors" 213) 73
abbrev o75:Obj:=tU #[VS "row" 269]
noncomputable abbrev o76 (P:Params):Obj:=dO #[dE P "__module__" 256 (VS "thirstwise.errors" 213),dE P "__firstlineno__" 260 (.int 16 259),dE P "__init__" 268 (.ref 74),dE P "__static_attributes__" 270 (.ref 75),dE P "__doc__" 271 .none] 2
noncomputable abbrev o77:Obj:={ cls:=.type "type",data:=.cls { name:=SS "BadRow",bases:=[.ref 45],mro:=[.ref 77,.ref 45,.type "ValueError",.type "Exception",.type "BaseException",.type "object"],ns:=76,qualname:=SS "BadRow" },slots:=#[some (.ref 61),none,some (VS "BadRow" 249),some (VS "BadRow" 257),some (.builtin "ValueError.__new__"),some (.bool true)] }
abbrev o78:Obj:={ cls:=.type "super",data:=.fields #[.ref 77,.ref 77,.ref 77] }
abbrev o79:Obj:={ cls:=.type "builtin_function_or_method",data:=.fields #[.builtin "object.__init_subclass__",.ref 77] }
abbrev o80:Obj:=tU #[.ref 45]
abbrev o81:Obj:={ cls:=.type "builtin_function_or_method",data:=.fields #[.builtin "type.__prepare__",.type "type"] }
noncomputable abbrev o82 (P:Params):Obj:=dO #[dE P "__module__" 281 (VS "thirstwise.errors" 213),dE P "__qualname__" 283 (VS "TooMany" 282),dE P "__firstlineno__" 285 (.int 21 284),dE P "__static_attributes__" 286 (.ref 87)] 4
abbrev o83:Obj:=tU #[]
abbrev o84:Obj:=tB #[]
abbrev o85:Obj:=cO #[VS "TooMany" 276,VS "TooMany" 277,cP 278,i0 21,i0 0,i0 0,i0 0,i0 0,.ref 83,.bool false,i0 181,.ref 84,.none,.none,.none,.none,i0 279,i0 21,cP 280]
abbrev o86:Obj:=fR #[some (.ref 85),some (.ref 3),some (.ref 82),none,some (VS "thirstwise.errors" 213),none,some (.ref 0)]
abbrev o87:Obj:=tU #[]
abbrev o88 (P:Params):Obj:=dO #[dE P "__module__" 281 (VS "thirstwise.errors" 213),dE P "__firstlineno__" 285 (.int 21 284),dE P "__static_attributes__" 286 (.ref 87),dE P "__doc__" 287 .none] 2
noncomputable abbrev o89:Obj:={ cls:=.type "type",data:=.cls { name:=SS "TooMany",bases:=[.ref 45],mro:=[.ref 89,.ref 45,.type "ValueError",.type "Exception",.type "BaseException",.type "object"],ns:=88,qualname:=SS "TooMany" },slots:=#[some (.ref 80),none,some (VS "TooMany" 274),some (VS "TooMany" 282),some (.builtin "ValueError.__new__"),some (.bool true)] }
abbrev o90:Obj:={ cls:=.type "super",data:=.fields #[.ref 89,.ref 89,.ref 89] }
abbrev o91:Obj:={ cls:=.type "builtin_function_or_method",data:=.fields #[.builtin "object.__init_subclass__",.ref 89] }
abbrev o92:Obj:=tU #[.ref 45]
abbrev o93:Obj:={ cls:=.type "builtin_function_or_method",data:=.fields #[.builtin "type.__prepare__",.type "type"] }
noncomputable abbrev o94 (P:Params):Obj:=dO #[dE P "__module__" 297 (VS "thirstwise.errors" 213),dE P "__qualname__" 299 (VS "NoState" 298),dE P "__firstlineno__" 301 (.int 23 300),dE P "__static_attributes__" 302 (.ref 99)] 4
abbrev o95:Obj:=tU #[]
abbrev o96:Obj:=tB #[]
abbrev o97:Obj:=cO #[VS "NoState" 292,VS "NoState" 293,cP 294,i0 23,i0 0,i0 0,i0 0,i0 0,.ref 95,.bool false,i0 181,.ref 96,.none,.none,.none,.none,i0 295,i0 23,cP 296]
abbrev o98:Obj:=fR #[some (.ref 97),some (.ref 3),some (.ref 94),none,some (VS "thirstwise.errors" 213),none,some (.ref 0)]
abbrev o99:Obj:=tU #[]
abbrev o100 (P:Params):Obj:=dO #[dE P "__module__" 297 (VS "thirstwise.errors" 213),dE P "__firstlineno__" 301 (.int 23 300),dE P "__static_attributes__" 302 (.ref 99),dE P "__doc__" 303 .none] 2
noncomputable abbrev Oh:Obj:={ cls:=.type "type",data:=.cls { name:=SS "NoState",bases:=[.ref 45],mro:=[.ref 101,.ref 45,.type "ValueError",.type "Exception",.type "BaseException",.type "object"],ns:=100,qualname:=SS "NoState" },slots:=#[some (.ref 92),none,some (VS "NoState" 290),some (VS "NoState" 298),some (.builtin "ValueError.__new__"),some (.bool true)] }
abbrev U6:Obj:={ cls:=.type "super",data:=.fields #[.ref 101,.ref 101,.ref 101] }
abbrev U7:Obj:={ cls:=.type "builtin_function_or_method",data:=.fields #[.builtin "object.__init_subclass__",.ref 101] }
abbrev Oi:Obj:=tU #[]
abbrev U8:Obj:=tB #[]
abbrev U9:Obj:=fB "is_name" "is_name" (top 13)
abbrev Oj:Obj:=cO #[VS "is_name" 312,VS "is_name" 313,cP 314,i0 28,i0 1,i0 0,i0 0,i0 3,.ref 104,.bool true,i0 181,.ref 105,.none,.none,.none,.ref 106,i0 315,i0 28,cP 316]
abbrev Ol:Obj:=fO "is_name" "is_name" (top 13) .none (VS "thirstwise.pots" 306) 107
abbrev Va:Obj:=tU #[]
abbrev Vb:Obj:={ cls:=.type "builtin_function_or_method",data:=.fields #[.builtin "type.__prepare__",.type "type"] }
noncomputable abbrev o111 (P:Params):Obj:=dO #[dE P "__module__" 325 (VS "thirstwise.pots" 306),dE P "__qualname__" 327 (VS "Pot" 326),dE P "__firstlineno__" 329 (.int 32 328),dE P "__init__" 338 (.ref 122),dE P "may" 346 (.ref 129),dE P "words" 353 (.ref 136),dE P "with_gap" 361 (.ref 143),dE P "shortest" 368 (.ref 150),dE P "__static_attributes__" 371 (.ref 151)] 9
abbrev Vc:Obj:=tU #[]
abbrev Vd:Obj:=tB #[i0 34,i0 4,.ref 121,i0 42,i0 4,.ref 128,i0 45,i0 4,.ref 135,i0 48,i0 4,.ref 142,i0 51,i0 4,.ref 149]
abbrev Ve:Obj:=cO #[VS "Pot" 320,VS "Pot" 321,cP 322,i0 32,i0 0,i0 0,i0 0,i0 0,.ref 112,.bool false,i0 181,.ref 113,.none,.none,.none,.none,i0 323,i0 32,cP 324]
abbrev Vf:Obj:=fR #[some (.ref 114),some (.ref 3),some (.ref 111),none,some (VS "thirstwise.pots" 306),none,some (.ref 0)]
abbrev Om:Obj:=tU #[]
abbrev Vg:Obj:=tB #[]
abbrev Oo:Obj:=tU #[VS "self" 333,VS "name" 334,VS "gap" 335]
abbrev Oq:Obj:=tU #[]
abbrev Vh:Obj:=fB "__init__" "Pot.__init__" (inClass (top 14) 0)
abbrev Ot:Obj:=cO #[VS "__init__" 330,VS "Pot.__init__" 331,cP 332,i0 34,i0 3,i0 0,i0 0,i0 3,.ref 116,.bool true,i0 181,.ref 117,.none,.ref 118,.ref 119,.ref 120,i0 336,i0 34,cP 337]
abbrev Ou:Obj:=fO "__init__" "Pot.__init__" (inClass (top 14) 0) .none (VS "thirstwise.pots" 306) 121
abbrev Ov:Obj:=tU #[]
abbrev Vi:Obj:=tB #[]
abbrev Ow:Obj:=tU #[VS "self" 342,VS "since" 343]
abbrev Ox:Obj:=tU #[]
abbrev Vj:Obj:=fB "may" "Pot.may" (inClass (top 14) 1)
abbrev Oz:Obj:=cO #[VS "may" 339,VS "Pot.may" 340,cP 341,i0 42,i0 2,i0 0,i0 0,i0 3,.ref 123,.bool true,i0 181,.ref 124,.none,.ref 125,.ref 126,.ref 127,i0 344,i0 42,cP 345]
abbrev OD:Obj:=fO "may" "Pot.may" (inClass (top 14) 1) .none (VS "thirstwise.pots" 306) 128
abbrev OJ:Obj:=tU #[]
abbrev Vk:Obj:=tB #[]
abbrev O1:Obj:=tU #[VS "self" 350]
abbrev O2:Obj:=tU #[]
abbrev Vl:Obj:=fB "words" "Pot.words" (inClass (top 14) 2)
abbrev O3:Obj:=cO #[VS "words" 347,VS "Pot.words" 348,cP 349,i0 45,i0 1,i0 0,i0 0,i0 3,.ref 130,.bool true,i0 181,.ref 131,.none,.ref 132,.ref 133,.ref 134,i0 351,i0 45,cP 352]
abbrev O4:Obj:=fO "words" "Pot.words" (inClass (top 14) 2) .none (VS "thirstwise.pots" 306) 135
abbrev O5:Obj:=tU #[]
abbrev Vm:Obj:=tB #[]
abbrev O6:Obj:=tU #[VS "self" 357,VS "gap" 358]
abbrev O7:Obj:=tU #[]
abbrev Vn:Obj:=fB "with_gap" "Pot.with_gap" (inClass (top 14) 3)
abbrev O8:Obj:=cO #[VS "with_gap" 354,VS "Pot.with_gap" 355,cP 356,i0 48,i0 2,i0 0,i0 0,i0 3,.ref 137,.bool true,i0 181,.ref 138,.none,.ref 139,.ref 140,.ref 141,i0 359,i0 48,cP 360]
abbrev O9:Obj:=fO "with_gap" "Pot.with_gap" (inClass (top 14) 3) .none (VS "thirstwise.pots" 306) 142
abbrev Pa:Obj:=tU #[]
abbrev Vo:Obj:=tB #[]
abbrev Pb:Obj:=tU #[VS "self" 365]
abbrev Pg:Obj:=tU #[]
abbrev Vp:Obj:=fB "shortest" "Pot.shortest" (inClass (top 14) 4)
abbrev Ph:Obj:=cO #[VS "shortest" 362,VS "Pot.shortest" 363,cP 364,i0 51,i0 1,i0 0,i0 0,i0 3,.ref 144,.bool true,i0 181,.ref 145,.none,.ref 146,.ref 147,.ref 148,i0 366,i0 51,cP 367]
abbrev Vq:Obj:=fO "shortest" "Pot.shortest" (inClass (top 14) 4) .none (VS "thirstwise.pots" 306) 149
abbrev Pj:Obj:=tU #[VS "gap" 369,VS "name" 370]
noncomputable abbrev Pk (P:Params):Obj:=dO #[dE P "__module__" 325 (VS "thirstwise.pots" 306),dE P "__firstlineno__" 329 (.int 32 328),dE P "__init__" 338 (.ref 122),dE P "may" 346 (.ref 129),dE P "words" 353 (.ref 136),dE P "with_gap" 361 (.ref 143),dE P "shortest" 368 (.ref 150),dE P "__static_attributes__" 371 (.ref 151),dE P "__dict__" 373 (.ref 154),dE P "__weakref__" 375 (.ref 155),dE P "__doc__" 376 .none] 4
noncomputable abbrev Pn:Obj:={ cls:=.type "type",data:=.cls { name:=SS "Pot",bases:=[.type "object"],mro:=[.ref 153,.type "object"],ns:=152,qualname:=SS "Pot",subclasses:=[.ref 202] },slots:=#[none,none,some (VS "Pot" 318),some (VS "Pot" 326),some (.builtin "object.__new__"),some (.bool true)] }
abbrev Pq:Obj:={ cls:=.type "getset_descriptor",data:=.fields #[VS "__dict__" 372,.ref 153,.builtin "function.__dict__",.builtin "function.__dict__#set"] }
abbrev Pr:Obj:={ cls:=.type "getset_descriptor",data:=.fields #[VS "__weakref__" 374,.ref 153,.builtin "ExceptionGroup.__weakref__",.none] }
abbrev Vr:Obj:={ cls:=.type "super",data:=.fields #[.ref 153,.ref 153,.ref 153] }
abbrev Vs:Obj:={ cls:=.type "builtin_function_or_method",data:=.fields #[.builtin "object.__init_subclass__",.ref 153] }
abbrev Pu:Obj:=tU #[.ref 153]
abbrev Vt:Obj:={ cls:=.type "builtin_function_or_method",data:=.fields #[.builtin "type.__prepare__",.type "type"] }
noncomputable abbrev Vu (P:Params):Obj:=dO #[dE P "__module__" 386 (VS "thirstwise.pots" 306),dE P "__qualname__" 388 (VS "Cactus" 387),dE P "__firstlineno__" 390 (.int 53 389),dE P "__init__" 400 (.ref 171),dE P "may" 408 (.ref 178),dE P "words" 415 (.ref 185),dE P "with_gap" 423 (.ref 192),dE P "shortest" 430 (.ref 199),dE P "__static_attributes__" 432 (.ref 200)] 9
abbrev Vv:Obj:=tU #[]
abbrev Vw:Obj:=tB #[i0 55,i0 4,.ref 170,i0 61,i0 4,.ref 177,i0 64,i0 4,.ref 184,i0 67,i0 4,.ref 191,i0 70,i0 4,.ref 198]
abbrev Vx:Obj:=cO #[VS "Cactus" 381,VS "Cactus" 382,cP 383,i0 53,i0 0,i0 0,i0 0,i0 0,.ref 161,.bool false,i0 181,.ref 162,.none,.none,.none,.none,i0 384,i0 53,cP 385]
abbrev Vy:Obj:=fR #[some (.ref 163),some (.ref 3),some (.ref 160),none,some (VS "thirstwise.pots" 306),none,some (.ref 0)]
abbrev Px:Obj:=tU #[]
abbrev Vz:Obj:=tB #[]
abbrev Py:Obj:=tU #[VS "self" 394,VS "name" 395,VS "gap" 396,VS "rest" 397]
abbrev Pz:Obj:=tU #[]
abbrev VB:Obj:=fB "__init__" "Cactus.__init__" (inClass (top 15) 0)
abbrev PB:Obj:=cO #[VS "__init__" 391,VS "Cactus.__init__" 392,cP 393,i0 55,i0 4,i0 0,i0 0,i0 3,.ref 165,.bool true,i0 181,.ref 166,.none,.ref 167,.ref 168,.ref 169,i0 398,i0 55,cP 399]
abbrev PJ:Obj:=fO "__init__" "Cactus.__init__" (inClass (top 15) 0) .none (VS "thirstwise.pots" 306) 170
abbrev PL:Obj:=tU #[]
abbrev VD:Obj:=tB #[]
abbrev PN:Obj:=tU #[VS "self" 404,VS "since" 405]
abbrev PX:Obj:=tU #[]
abbrev VF:Obj:=fB "may" "Cactus.may" (inClass (top 15) 1)
abbrev P0:Obj:=cO #[VS "may" 401,VS "Cactus.may" 402,cP 403,i0 61,i0 2,i0 0,i0 0,i0 3,.ref 172,.bool true,i0 181,.ref 173,.none,.ref 174,.ref 175,.ref 176,i0 406,i0 61,cP 407]
abbrev Qa:Obj:=fO "may" "Cactus.may" (inClass (top 15) 1) .none (VS "thirstwise.pots" 306) 177
abbrev Qd:Obj:=tU #[]
abbrev VG:Obj:=tB #[]
abbrev Qf:Obj:=tU #[VS "self" 412]
abbrev Qg:Obj:=tU #[]
abbrev VH:Obj:=fB "words" "Cactus.words" (inClass (top 15) 2)
abbrev Qh:Obj:=cO #[VS "words" 409,VS "Cactus.words" 410,cP 411,i0 64,i0 1,i0 0,i0 0,i0 3,.ref 179,.bool true,i0 181,.ref 180,.none,.ref 181,.ref 182,.ref 183,i0 413,i0 64,cP 414]
abbrev Qi:Obj:=fO "words" "Cactus.words" (inClass (top 15) 2) .none (VS "thirstwise.pots" 306) 184
abbrev Qj:Obj:=tU #[]
abbrev VJ:Obj:=tB #[]
abbrev Qk:Obj:=tU #[VS "self" 419,VS "gap" 420]
abbrev Ql:Obj:=tU #[]
abbrev VL:Obj:=fB "with_gap" "Cactus.with_gap" (inClass (top 15) 3)
abbrev Qm:Obj:=cO #[VS "with_gap" 416,VS "Cactus.with_gap" 417,cP 418,i0 67,i0 2,i0 0,i0 0,i0 3,.ref 186,.bool true,i0 181,.ref 187,.none,.ref 188,.ref 189,.ref 190,i0 421,i0 67,cP 422]
abbrev Qo:Obj:=fO "with_gap" "Cactus.with_gap" (inClass (top 15) 3) .none (VS "thirstwise.pots" 306) 191
abbrev Qp:Obj:=tU #[]
abbrev VN:Obj:=tB #[]
abbrev Qq:Obj:=tU #[VS "self" 427]
abbrev Qs:Obj:=tU #[]
abbrev VP:Obj:=fB "shortest" "Cactus.shortest" (inClass (top 15) 4)
abbrev Qt:Obj:=cO #[VS "shortest" 424,VS "Cactus.shortest" 425,cP 426,i0 70,i0 1,i0 0,i0 0,i0 3,.ref 193,.bool true,i0 181,.ref 194,.none,.ref 195,.ref 196,.ref 197,i0 428,i0 70,cP 429]
abbrev VR:Obj:=fO "shortest" "Cactus.shortest" (inClass (top 15) 4) .none (VS "thirstwise.pots" 306) 198
abbrev o200:Obj:=tU #[VS "rest" 431]
noncomputable abbrev Qw (P:Params):Obj:=dO #[dE P "__module__" 386 (VS "thirstwise.pots" 306),dE P "__firstlineno__" 390 (.int 53 389),dE P "__init__" 400 (.ref 171),dE P "may" 408 (.ref 178),dE P "words" 415 (.ref 185),dE P "with_gap" 423 (.ref 192),dE P "shortest" 430 (.ref 199),dE P "__static_attributes__" 432 (.ref 200),dE P "__doc__" 433 .none] 2
noncomputable abbrev Qx:Obj:={ cls:=.type "type",data:=.cls { name:=SS "Cactus",bases:=[.ref 153],mro:=[.ref 202,.ref 153,.type "object"],ns:=201,qualname:=SS "Cactus" },slots:=#[some (.ref 158),none,some (VS "Cactus" 379),some (VS "Cactus" 387),some (.builtin "object.__new__"),some (.bool true)] }
abbrev V0:Obj:={ cls:=.type "super",data:=.fields #[.ref 202,.ref 202,.ref 202] }
abbrev V1:Obj:={ cls:=.type "builtin_function_or_method",data:=.fields #[.builtin "object.__init_subclass__",.ref 202] }
abbrev Qy:Obj:=tU #[]
abbrev V2:Obj:=tB #[]
abbrev V3:Obj:=fB "own_pots" "own_pots" (top 21)
abbrev Qz:Obj:=cO #[VS "own_pots" 446,VS "own_pots" 447,cP 448,i0 77,i0 1,i0 0,i0 0,i0 3,.ref 205,.bool true,i0 181,.ref 206,.none,.none,.none,.ref 207,i0 449,i0 77,cP 450]
abbrev QB:Obj:=fO "own_pots" "own_pots" (top 21) .none (VS "thirstwise.gardens" 436) 208
abbrev QC:Obj:=tU #[]
abbrev V4:Obj:=tB #[]
abbrev QD:Obj:=tU #[VS "pots" 455,VS "cans" 456,VS "week" 457,VS "closed" 458]
abbrev QF:Obj:=tU #[]
abbrev V5:Obj:=fB "refuse_bad_counts" "refuse_bad_counts" (top 22)
abbrev QG:Obj:=cO #[VS "refuse_bad_counts" 452,VS "refuse_bad_counts" 453,cP 454,i0 84,i0 4,i0 0,i0 0,i0 3,.ref 210,.bool true,i0 181,.ref 211,.none,.ref 212,.ref 213,.ref 214,i0 459,i0 84,cP 460]
abbrev QH:Obj:=fO "refuse_bad_counts" "refuse_bad_counts" (top 22) .none (VS "thirstwise.gardens" 436) 215
abbrev QJ:Obj:=tU #[]
abbrev V6:Obj:=tB #[]
abbrev V7:Obj:=fB "refuse_name_twice" "refuse_name_twice" (top 23)
abbrev QK:Obj:=cO #[VS "refuse_name_twice" 462,VS "refuse_name_twice" 463,cP 464,i0 93,i0 1,i0 0,i0 0,i0 3,.ref 217,.bool true,i0 181,.ref 218,.none,.none,.none,.ref 219,i0 465,i0 93,cP 466]
abbrev QL:Obj:=fO "refuse_name_twice" "refuse_name_twice" (top 23) .none (VS "thirstwise.gardens" 436) 220
abbrev V8:Obj:=tU #[]
abbrev ab1:Obj:=tB #[]
abbrev ab2:Obj:=fB "is_state" "is_state" (top 24)
abbrev V9:Obj:=cO #[VS "is_state" 468,VS "is_state" 469,cP 470,i0 96,i0 2,i0 0,i0 0,i0 3,.ref 222,.bool true,i0 181,.ref 223,.none,.none,.none,.ref 224,i0 471,i0 96,cP 472]
abbrev ab3:Obj:=fO "is_state" "is_state" (top 24) .none (VS "thirstwise.gardens" 436) 225
abbrev Wa:Obj:=tU #[]
abbrev ab4:Obj:=tB #[]
abbrev Wb:Obj:=tU #[VS "garden" 477,VS "value" 478]
abbrev Wc:Obj:=tU #[]
abbrev ab5:Obj:=fB "refuse_no_state" "refuse_no_state" (top 25)
abbrev Wd:Obj:=cO #[VS "refuse_no_state" 474,VS "refuse_no_state" 475,cP 476,i0 106,i0 2,i0 0,i0 0,i0 3,.ref 227,.bool true,i0 181,.ref 228,.none,.ref 229,.ref 230,.ref 231,i0 479,i0 106,cP 480]
abbrev ab6:Obj:=fO "refuse_no_state" "refuse_no_state" (top 25) .none (VS "thirstwise.gardens" 436) 232
abbrev ab7:Obj:=tU #[]
abbrev ab8:Obj:={ cls:=.type "builtin_function_or_method",data:=.fields #[.builtin "type.__prepare__",.type "type"] }
noncomputable abbrev ab9 (P:Params):Obj:=dO #[dE P "__module__" 489 (VS "thirstwise.gardens" 436),dE P "__qualname__" 491 (VS "Garden" 490),dE P "__firstlineno__" 493 (.int 109 492),dE P "__init__" 508 (.ref 248),dE P "size" 517 (.ref 255),dE P "number" 528 (.ref 262),dE P "state" 539 (.ref 269),dE P "fresh" 546 (.ref 276),dE P "__static_attributes__" 551 (.ref 277)] 9
abbrev acd:Obj:=tU #[]
abbrev ace:Obj:=tB #[i0 111,i0 4,.ref 247,i0 122,i0 4,.ref 254,i0 128,i0 4,.ref 261,i0 135,i0 4,.ref 268,i0 145,i0 4,.ref 275]
abbrev acf:Obj:=cO #[VS "Garden" 484,VS "Garden" 485,cP 486,i0 109,i0 0,i0 0,i0 0,i0 0,.ref 237,.bool false,i0 181,.ref 238,.none,.none,.none,.none,i0 487,i0 109,cP 488]
abbrev acg:Obj:=fR #[some (.ref 239),some (.ref 3),some (.ref 236),none,some (VS "thirstwise.gardens" 436),none,some (.ref 0)]
abbrev Wf:Obj:=tU #[.int 1 494,.int 1 495,.int 0 496]
abbrev Wg:Obj:=tU #[]
abbrev ach:Obj:=tB #[]
abbrev Wh:Obj:=tU #[VS "self" 500,VS "pots" 501,VS "cans" 502,VS "week" 503,VS "closed" 504,VS "copies" 505]
abbrev Wi:Obj:=tU #[]
abbrev aci:Obj:=fB "__init__" "Garden.__init__" (inClass (top 26) 0)
abbrev Wj:Obj:=cO #[VS "__init__" 497,VS "Garden.__init__" 498,cP 499,i0 111,i0 5,i0 0,i0 0,i0 3,.ref 242,.bool true,i0 181,.ref 243,.none,.ref 244,.ref 245,.ref 246,i0 506,i0 111,cP 507]
abbrev Wk:Obj:=fO "__init__" "Garden.__init__" (inClass (top 26) 0) (.ref 241) (VS "thirstwise.gardens" 436) 247
abbrev Wl:Obj:=tU #[]
abbrev acj:Obj:=tB #[]
abbrev Wm:Obj:=tU #[VS "self" 512,VS "states" 513,VS "pot" 514]
abbrev Wn:Obj:=tU #[]
abbrev acn:Obj:=fB "size" "Garden.size" (inClass (top 26) 1)
abbrev Wo:Obj:=cO #[VS "size" 509,VS "Garden.size" 510,cP 511,i0 122,i0 1,i0 0,i0 0,i0 3,.ref 249,.bool true,i0 181,.ref 250,.none,.ref 251,.ref 252,.ref 253,i0 515,i0 122,cP 516]
abbrev Wq:Obj:=fO "size" "Garden.size" (inClass (top 26) 1) .none (VS "thirstwise.gardens" 436) 254
abbrev Wr:Obj:=tU #[]
abbrev aco:Obj:=tB #[]
abbrev Ws:Obj:=tU #[VS "self" 521,VS "state" 522,VS "count" 523,VS "days" 524,VS "pot" 525]
abbrev Wt:Obj:=tU #[]
abbrev acp:Obj:=fB "number" "Garden.number" (inClass (top 26) 2)
abbrev Wu:Obj:=cO #[VS "number" 518,VS "Garden.number" 519,cP 520,i0 128,i0 2,i0 0,i0 0,i0 3,.ref 256,.bool true,i0 181,.ref 257,.none,.ref 258,.ref 259,.ref 260,i0 526,i0 128,cP 527]
abbrev acq:Obj:=fO "number" "Garden.number" (inClass (top 26) 2) .none (VS "thirstwise.gardens" 436) 261
abbrev Wv:Obj:=tU #[]
abbrev acr:Obj:=tB #[]
abbrev Ww:Obj:=tU #[VS "self" 532,VS "number" 533,VS "left" 534,VS "since" 535,VS "pot" 536]
abbrev Wx:Obj:=tU #[]
abbrev acs:Obj:=fB "state" "Garden.state" (inClass (top 26) 3)
abbrev Wy:Obj:=cO #[VS "state" 529,VS "Garden.state" 530,cP 531,i0 135,i0 2,i0 0,i0 0,i0 3,.ref 263,.bool true,i0 181,.ref 264,.none,.ref 265,.ref 266,.ref 267,i0 537,i0 135,cP 538]
abbrev acu:Obj:=fO "state" "Garden.state" (inClass (top 26) 3) .none (VS "thirstwise.gardens" 436) 268
abbrev Wz:Obj:=tU #[]
abbrev acv:Obj:=tB #[]
abbrev WD:Obj:=tU #[VS "self" 543]
abbrev WK:Obj:=tU #[]
abbrev acw:Obj:=fB "fresh" "Garden.fresh" (inClass (top 26) 4)
abbrev WL:Obj:=cO #[VS "fresh" 540,VS "Garden.fresh" 541,cP 542,i0 145,i0 1,i0 0,i0 0,i0 3,.ref 270,.bool true,i0 181,.ref 271,.none,.ref 272,.ref 273,.ref 274,i0 544,i0 145,cP 545]
abbrev acy:Obj:=fO "fresh" "Garden.fresh" (inClass (top 26) 4) .none (VS "thirstwise.gardens" 436) 275
abbrev WM:Obj:=tU #[VS "cans" 547,VS "closed" 548,VS "pots" 549,VS "week" 550]
noncomputable abbrev WQ (P:Params):Obj:=dO #[dE P "__module__" 489 (VS "thirstwise.gardens" 436),dE P "__firstlineno__" 493 (.int 109 492),dE P "__init__" 508 (.ref 248),dE P "size" 517 (.ref 255),dE P "number" 528 (.ref 262),dE P "state" 539 (.ref 269),dE P "fresh" 546 (.ref 276),dE P "__static_attributes__" 551 (.ref 277),dE P "__dict__" 553 (.ref 280),dE P "__weakref__" 555 (.ref 281),dE P "__doc__" 556 .none] 4
noncomputable abbrev WR:Obj:={ cls:=.type "type",data:=.cls { name:=SS "Garden",bases:=[.type "object"],mro:=[.ref 279,.type "object"],ns:=278,qualname:=SS "Garden" },slots:=#[none,none,some (VS "Garden" 482),some (VS "Garden" 490),some (.builtin "object.__new__"),some (.bool true)] }
abbrev WT:Obj:={ cls:=.type "getset_descriptor",data:=.fields #[VS "__dict__" 552,.ref 279,.builtin "function.__dict__",.builtin "function.__dict__#set"] }
abbrev WW:Obj:={ cls:=.type "getset_descriptor",data:=.fields #[VS "__weakref__" 554,.ref 279,.builtin "ExceptionGroup.__weakref__",.none] }
abbrev acz:Obj:={ cls:=.type "super",data:=.fields #[.ref 279,.ref 279,.ref 279] }
abbrev acA:Obj:={ cls:=.type "builtin_function_or_method",data:=.fields #[.builtin "object.__init_subclass__",.ref 279] }
abbrev WX:Obj:=tU #[]
abbrev acB:Obj:=tB #[]
abbrev WY:Obj:=tU #[VS "one" 562,VS "other" 563]
abbrev W0:Obj:=tU #[]
abbrev acC:Obj:=fB "joined" "joined" (top 27)
abbrev W2:Obj:=cO #[VS "joined" 559,VS "joined" 560,cP 561,i0 147,i0 2,i0 0,i0 0,i0 3,.ref 284,.bool true,i0 181,.ref 285,.none,.ref 286,.ref 287,.ref 288,i0 564,i0 147,cP 565]
abbrev W3:Obj:=fO "joined" "joined" (top 27) .none (VS "thirstwise.gardens" 436) 289
abbrev W4:Obj:=tU #[]
abbrev acD:Obj:=tB #[]
abbrev acE:Obj:=fB "written" "written" (top 29)
abbrev W5:Obj:=cO #[VS "written" 569,VS "written" 570,cP 571,i0 150,i0 1,i0 0,i0 0,i0 3,.ref 291,.bool true,i0 181,.ref 292,.none,.none,.none,.ref 293,i0 572,i0 150,cP 573]
abbrev W6:Obj:=fO "written" "written" (top 29) .none (VS "thirstwise.notes" 567) 294
abbrev W7:Obj:=tU #[]
abbrev acF:Obj:=tB #[]
abbrev acG:Obj:=fB "number_in" "number_in" (top 30)
abbrev W8:Obj:=cO #[VS "number_in" 575,VS "number_in" 576,cP 577,i0 155,i0 2,i0 0,i0 0,i0 3,.ref 296,.bool true,i0 181,.ref 297,.none,.none,.none,.ref 298,i0 578,i0 155,cP 579]
abbrev o300:Obj:=fO "number_in" "number_in" (top 30) .none (VS "thirstwise.notes" 567) 299
abbrev W9:Obj:=tU #[]
abbrev acH:Obj:=tB #[]
abbrev acI:Obj:=fB "head_in" "head_in" (top 31)
abbrev Xa:Obj:=cO #[VS "head_in" 581,VS "head_in" 582,cP 583,i0 161,i0 2,i0 0,i0 0,i0 3,.ref 301,.bool true,i0 181,.ref 302,.none,.none,.none,.ref 303,i0 584,i0 161,cP 585]
abbrev Xb:Obj:=fO "head_in" "head_in" (top 31) .none (VS "thirstwise.notes" 567) 304
abbrev Xc:Obj:=tU #[]
abbrev acJ:Obj:=tB #[]
abbrev acK:Obj:=fB "pot_in" "pot_in" (top 32)
abbrev Xd:Obj:=cO #[VS "pot_in" 587,VS "pot_in" 588,cP 589,i0 170,i0 2,i0 0,i0 0,i0 3,.ref 306,.bool true,i0 181,.ref 307,.none,.none,.none,.ref 308,i0 590,i0 170,cP 591]
abbrev Xe:Obj:=fO "pot_in" "pot_in" (top 32) .none (VS "thirstwise.notes" 567) 309
abbrev Xf:Obj:=tU #[]
abbrev acL:Obj:=tB #[]
abbrev acM:Obj:=fB "words_in" "words_in" (top 33)
abbrev Xg:Obj:=cO #[VS "words_in" 593,VS "words_in" 594,cP 595,i0 180,i0 1,i0 0,i0 0,i0 3,.ref 311,.bool true,i0 181,.ref 312,.none,.none,.none,.ref 313,i0 596,i0 180,cP 597]
abbrev Xh:Obj:=fO "words_in" "words_in" (top 33) .none (VS "thirstwise.notes" 567) 314
abbrev Xi:Obj:=tU #[]
abbrev acN:Obj:=tB #[]
abbrev acO:Obj:=fB "numbered_rows" "numbered_rows" (top 34)
abbrev Xj:Obj:=cO #[VS "numbered_rows" 599,VS "numbered_rows" 600,cP 601,i0 182,i0 1,i0 0,i0 0,i0 3,.ref 316,.bool true,i0 181,.ref 317,.none,.none,.none,.ref 318,i0 602,i0 182,cP 603]
abbrev Xk:Obj:=fO "numbered_rows" "numbered_rows" (top 34) .none (VS "thirstwise.notes" 567) 319
abbrev Xl:Obj:=tU #[]
abbrev acP:Obj:=tB #[]
abbrev Xm:Obj:=tU #[VS "rows" 608,VS "pots" 609,VS "names" 610,VS "row" 611,VS "words" 612,VS "pot" 613]
abbrev Xn:Obj:=tU #[]
abbrev acQ:Obj:=fB "pots_in" "pots_in" (top 35)
abbrev Xo:Obj:=cO #[VS "pots_in" 605,VS "pots_in" 606,cP 607,i0 185,i0 1,i0 0,i0 0,i0 3,.ref 321,.bool true,i0 181,.ref 322,.none,.ref 323,.ref 324,.ref 325,i0 614,i0 185,cP 615]
abbrev Xp:Obj:=fO "pots_in" "pots_in" (top 35) .none (VS "thirstwise.notes" 567) 326
abbrev Xq:Obj:=tU #[]
abbrev acR:Obj:=tB #[]
abbrev Xr:Obj:=tU #[VS "text" 620,VS "lines" 621,VS "rows" 622,VS "beyond" 623,VS "head" 624,VS "pots" 625,VS "e" 626]
abbrev Xu:Obj:=tU #[]
abbrev acS:Obj:=fB "read" "read" (top 36)
abbrev Xv:Obj:=cO #[VS "read" 617,VS "read" 618,cP 619,i0 195,i0 1,i0 0,i0 0,i0 3,.ref 328,.bool true,i0 181,.ref 329,.none,.ref 330,.ref 331,.ref 332,i0 627,i0 195,cP 628]
abbrev Xw:Obj:=fO "read" "read" (top 36) .none (VS "thirstwise.notes" 567) 333
abbrev Xx:Obj:=tU #[.int 0 632]
abbrev Xy:Obj:=tU #[]
abbrev acT:Obj:=tB #[]
abbrev acU:Obj:=fB "sheet" "sheet" (top 38)
abbrev Xz:Obj:=cO #[VS "sheet" 633,VS "sheet" 634,cP 635,i0 208,i0 2,i0 0,i0 0,i0 3,.ref 336,.bool true,i0 181,.ref 337,.none,.none,.none,.ref 338,i0 636,i0 208,cP 637]
abbrev XC:Obj:=fO "sheet" "sheet" (top 38) (.ref 335) (VS "thirstwise.plans" 630) 339
abbrev XD:Obj:=tU #[]
abbrev acV:Obj:=tB #[]
abbrev XF:Obj:=tU #[VS "_law_script" 644,VS "_law_k" 645]
abbrev XH:Obj:=tU #[]
abbrev acW:Obj:=fB "_law_cell_at" "_law_cell_at" (top 40)
abbrev XJ:Obj:=cO #[VS "_law_cell_at" 641,VS "_law_cell_at" 642,cP 643,i0 211,i0 2,i0 0,i0 0,i0 3,.ref 341,.bool true,i0 181,.ref 342,.none,.ref 343,.ref 344,.ref 345,i0 646,i0 211,cP 647]
abbrev XM:Obj:=fO "_law_cell_at" "_law_cell_at" (top 40) .none (VS "law_thirstwise_k08_gardens_read_and_written" 639) 346
abbrev XQ:Obj:=tU #[]
abbrev acX:Obj:=tB #[]
abbrev XR:Obj:=tU #[VS "_law_cell" 652,VS "_law_k" 653,VS "_law_many" 654,VS "_law_primes" 655,VS "_law_blend" 656]
abbrev XS:Obj:=tU #[]
abbrev acY:Obj:=fB "_law_draw" "_law_draw" (top 41)
abbrev X3:Obj:=cO #[VS "_law_draw" 649,VS "_law_draw" 650,cP 651,i0 215,i0 3,i0 0,i0 0,i0 3,.ref 348,.bool true,i0 181,.ref 349,.none,.ref 350,.ref 351,.ref 352,i0 657,i0 215,cP 658]
abbrev X4:Obj:=fO "_law_draw" "_law_draw" (top 41) .none (VS "law_thirstwise_k08_gardens_read_and_written" 639) 353
abbrev X5:Obj:=tU #[]
abbrev acZ:Obj:=tB #[]
noncomputable abbrev X6:Obj:=tU #[VS "_law_script" 663,VS "_law_first" 664,VS "_law_cell" 665,VS "_law_other" 666,VS "_law_third" 667,VS "_law_count" 668,VS "_law_most" 669,VS "_law_names" 670,VS "_law_pots" 671,VS "_law_k" 672,VS "_law_gap" 673,VS "_law_rest" 674,VS "_law_week" 675,VS "_law_closed" 676]
abbrev X7:Obj:=tU #[]
abbrev ac0:Obj:=fB "_law_spec" "_law_spec" (top 42)
abbrev X8:Obj:=cO #[VS "_law_spec" 660,VS "_law_spec" 661,cP 662,i0 219,i0 2,i0 0,i0 0,i0 3,.ref 355,.bool true,i0 181,.ref 356,.none,.ref 357,.ref 358,.ref 359,i0 677,i0 219,cP 678]
abbrev Yb:Obj:=fO "_law_spec" "_law_spec" (top 42) .none (VS "law_thirstwise_k08_gardens_read_and_written" 639) 360
abbrev Yc:Obj:=tU #[]
abbrev ac2:Obj:=tB #[]
abbrev Yd:Obj:=tU #[VS "_law_spec_here" 683,VS "_law_pots" 684,VS "_law_name" 685,VS "_law_gap" 686,VS "_law_rest" 687]
abbrev Ye:Obj:=tU #[]
abbrev ac3:Obj:=fB "_law_garden" "_law_garden" (top 43)
abbrev Yg:Obj:=cO #[VS "_law_garden" 680,VS "_law_garden" 681,cP 682,i0 247,i0 1,i0 0,i0 0,i0 3,.ref 362,.bool true,i0 181,.ref 363,.none,.ref 364,.ref 365,.ref 366,i0 688,i0 247,cP 689]
abbrev Yh:Obj:=fO "_law_garden" "_law_garden" (top 43) .none (VS "law_thirstwise_k08_gardens_read_and_written" 639) 367
abbrev Yi:Obj:=tU #[]
abbrev ac4:Obj:=tB #[]
abbrev ac5:Obj:=fB "_law_plain" "_law_plain" (top 44)
abbrev Yj:Obj:=cO #[VS "_law_plain" 691,VS "_law_plain" 692,cP 693,i0 255,i0 1,i0 0,i0 0,i0 3,.ref 369,.bool true,i0 181,.ref 370,.none,.none,.none,.ref 371,i0 694,i0 255,cP 695]
abbrev Yk:Obj:=fO "_law_plain" "_law_plain" (top 44) .none (VS "law_thirstwise_k08_gardens_read_and_written" 639) 372
abbrev Yl:Obj:=tU #[]
abbrev ac6:Obj:=tB #[]
abbrev Ym:Obj:=tU #[VS "_law_rows" 700,VS "_law_cell" 701,VS "_law_found" 702,VS "_law_k" 703,VS "_law_more" 704,VS "_law_gap" 705,VS "_law_words" 706]
abbrev o377:Obj:=tU #[]
abbrev ac7:Obj:=fB "_law_loose" "_law_loose" (top 45)
abbrev Yn:Obj:=cO #[VS "_law_loose" 697,VS "_law_loose" 698,cP 699,i0 261,i0 2,i0 0,i0 0,i0 3,.ref 374,.bool true,i0 181,.ref 375,.none,.ref 376,.ref 377,.ref 378,i0 707,i0 261,cP 708]
abbrev Yo:Obj:=fO "_law_loose" "_law_loose" (top 45) .none (VS "law_thirstwise_k08_gardens_read_and_written" 639) 379
abbrev Yp:Obj:=tU #[]
abbrev ac8:Obj:=tB #[]
abbrev ac9:Obj:=fB "_law_same" "_law_same" (top 46)
abbrev Yq:Obj:=cO #[VS "_law_same" 710,VS "_law_same" 711,cP 712,i0 270,i0 2,i0 0,i0 0,i0 3,.ref 381,.bool true,i0 181,.ref 382,.none,.none,.none,.ref 383,i0 713,i0 270,cP 714]
abbrev Yr:Obj:=fO "_law_same" "_law_same" (top 46) .none (VS "law_thirstwise_k08_gardens_read_and_written" 639) 384
abbrev Ys:Obj:=tU #[]
abbrev ada:Obj:=tB #[]
abbrev Yt:Obj:=tU #[VS "_law_rows" 719,VS "_law_width" 720,VS "_law_found" 721,VS "_law_k" 722,VS "_law_text" 723]
abbrev Yu:Obj:=tU #[]
abbrev adb:Obj:=fB "_law_sheet" "_law_sheet" (top 47)
abbrev Yv:Obj:=cO #[VS "_law_sheet" 716,VS "_law_sheet" 717,cP 718,i0 274,i0 2,i0 0,i0 0,i0 3,.ref 386,.bool true,i0 181,.ref 387,.none,.ref 388,.ref 389,.ref 390,i0 724,i0 274,cP 725]
abbrev Yw:Obj:=fO "_law_sheet" "_law_sheet" (top 47) .none (VS "law_thirstwise_k08_gardens_read_and_written" 639) 391
abbrev Yx:Obj:=tU #[]
abbrev ade:Obj:=tB #[]
abbrev Yy:Obj:=tU #[VS "_law_script" 730,VS "_law_cell" 731,VS "_law_gap" 732,VS "_law_pots" 733,VS "_law_week" 734]
abbrev Yz:Obj:=tU #[]
abbrev adf:Obj:=fB "_law_great" "_law_great" (top 48)
abbrev YB:Obj:=cO #[VS "_law_great" 727,VS "_law_great" 728,cP 729,i0 281,i0 1,i0 0,i0 0,i0 3,.ref 393,.bool true,i0 181,.ref 394,.none,.ref 395,.ref 396,.ref 397,i0 735,i0 281,cP 736]
abbrev YC:Obj:=fO "_law_great" "_law_great" (top 48) .none (VS "law_thirstwise_k08_gardens_read_and_written" 639) 398
abbrev o400:Obj:=tU #[]
abbrev adg:Obj:=tB #[]
abbrev adh:Obj:=fB "law" "law" (top 49)
abbrev YD:Obj:=cO #[VS "law" 738,VS "law" 739,cP 740,i0 289,i0 1,i0 0,i0 0,i0 3,.ref 400,.bool true,i0 181,.ref 401,.none,.none,.none,.ref 402,i0 741,i0 289,cP 742]
abbrev YF:Obj:=fO "law" "law" (top 49) .none (VS "law_thirstwise_k08_gardens_read_and_written" 639) 403
noncomputable def KK:Params->Frag:=fun P=>(nat_lit 2,(boot_o_2 P))::(nat_lit 3,(U5 P))::(nat_lit 15,o15)::(nat_lit 17,o17)::(nat_lit 18,o18)::(nat_lit 20,o20)::(nat_lit 22,o22)::(nat_lit 24,o24)::(nat_lit 25,o25)::(nat_lit 27,o27)::(nat_lit 28,o28)::(nat_lit 29,o29)::(nat_lit 31,o31)::(nat_lit 32,o32)::(nat_lit 34,o34)::(nat_lit 35,o35)::(nat_lit 36,o36)::(nat_lit 43,o43)::(nat_lit 44,(o44 P))::(nat_lit 45,o45)::(nat_lit 46,o46)::(nat_lit 49,o49)::(nat_lit 56,o56)::(nat_lit 57,(o57 P))::(nat_lit 58,o58)::(nat_lit 61,o61)::(nat_lit 68,o68)::(nat_lit 70,o70)::(nat_lit 71,o71)::(nat_lit 73,o73)::(nat_lit 74,o74)::(nat_lit 75,o75)::(nat_lit 76,(o76 P))::(nat_lit 77,o77)::(nat_lit 80,o80)::(nat_lit 87,o87)::(nat_lit 88,(o88 P))::(nat_lit 89,o89)::(nat_lit 92,o92)::(nat_lit 99,o99)::(nat_lit 100,(o100 P))::(nat_lit 101,Oh)::(nat_lit 104,Oi)::(nat_lit 107,Oj)::(nat_lit 108,Ol)::(nat_lit 116,Om)::(nat_lit 118,Oo)::(nat_lit 119,Oq)::(nat_lit 121,Ot)::(nat_lit 122,Ou)::(nat_lit 123,Ov)::(nat_lit 125,Ow)::(nat_lit 126,Ox)::(nat_lit 128,Oz)::(nat_lit 129,OD)::(nat_lit 130,OJ)::(nat_lit 132,O1)::(nat_lit 133,O2)::(nat_lit 135,O3)::(nat_lit 136,O4)::(nat_lit 137,O5)::(nat_lit 139,O6)::(nat_lit 140,O7)::(nat_lit 142,O8)::(nat_lit 143,O9)::(nat_lit 144,Pa)::(nat_lit 146,Pb)::(nat_lit 147,Pg)::(nat_lit 149,Ph)::(nat_lit 151,Pj)::(nat_lit 152,(Pk P))::(nat_lit 153,Pn)::(nat_lit 154,Pq)::(nat_lit 155,Pr)::(nat_lit 158,Pu)::(nat_lit 165,Px)::(nat_lit 167,Py)::(nat_lit 168,Pz)::(nat_lit 170,PB)::(nat_lit 171,PJ)::(nat_lit 172,PL)::(nat_lit 174,PN)::(nat_lit 175,PX)::(nat_lit 177,P0)::(nat_lit 178,Qa)::(nat_lit 179,Qd)::(nat_lit 181,Qf)::(nat_lit 182,Qg)::(nat_lit 184,Qh)::(nat_lit 185,Qi)::(nat_lit 186,Qj)::(nat_lit 188,Qk)::(nat_lit 189,Ql)::(nat_lit 191,Qm)::(nat_lit 192,Qo)::(nat_lit 193,Qp)::(nat_lit 195,Qq)::(nat_lit 196,Qs)::(nat_lit 198,Qt)::(nat_lit 200,o200)::(nat_lit 201,(Qw P))::(nat_lit 202,Qx)::(nat_lit 205,Qy)::(nat_lit 208,Qz)::(nat_lit 209,QB)::(nat_lit 210,QC)::(nat_lit 212,QD)::(nat_lit 213,QF)::(nat_lit 215,QG)::(nat_lit 216,QH)::(nat_lit 217,QJ)::(nat_lit 220,QK)::(nat_lit 221,QL)::(nat_lit 222,V8)::(nat_lit 225,V9)::(nat_lit 227,Wa)::(nat_lit 229,Wb)::(nat_lit 230,Wc)::(nat_lit 232,Wd)::(nat_lit 241,Wf)::(nat_lit 242,Wg)::(nat_lit 244,Wh)::(nat_lit 245,Wi)::(nat_lit 247,Wj)::(nat_lit 248,Wk)::(nat_lit 249,Wl)::(nat_lit 251,Wm)::(nat_lit 252,Wn)::(nat_lit 254,Wo)::(nat_lit 255,Wq)::(nat_lit 256,Wr)::(nat_lit 258,Ws)::(nat_lit 259,Wt)::(nat_lit 261,Wu)::(nat_lit 263,Wv)::(nat_lit 265,Ww)::(nat_lit 266,Wx)::(nat_lit 268,Wy)::(nat_lit 270,Wz)::(nat_lit 272,WD)::(nat_lit 273,WK)::(nat_lit 275,WL)::(nat_lit 277,WM)::(nat_lit 278,(WQ P))::(nat_lit 279,WR)::(nat_lit 280,WT)::(nat_lit 281,WW)::(nat_lit 284,WX)::(nat_lit 286,WY)::(nat_lit 287,W0)::(nat_lit 289,W2)::(nat_lit 290,W3)::(nat_lit 291,W4)::(nat_lit 294,W5)::(nat_lit 295,W6)::(nat_lit 296,W7)::(nat_lit 299,W8)::(nat_lit 300,o300)::(nat_lit 301,W9)::(nat_lit 304,Xa)::(nat_lit 305,Xb)::(nat_lit 306,Xc)::(nat_lit 309,Xd)::(nat_lit 310,Xe)::(nat_lit 311,Xf)::(nat_lit 314,Xg)::(nat_lit 315,Xh)::(nat_lit 316,Xi)::(nat_lit 319,Xj)::(nat_lit 320,Xk)::(nat_lit 321,Xl)::(nat_lit 323,Xm)::(nat_lit 324,Xn)::(nat_lit 326,Xo)::(nat_lit 327,Xp)::(nat_lit 328,Xq)::(nat_lit 330,Xr)::(nat_lit 331,Xu)::(nat_lit 333,Xv)::(nat_lit 334,Xw)::(nat_lit 335,Xx)::(nat_lit 336,Xy)::(nat_lit 339,Xz)::(nat_lit 340,XC)::(nat_lit 341,XD)::(nat_lit 343,XF)::(nat_lit 344,XH)::(nat_lit 346,XJ)::(nat_lit 347,XM)::(nat_lit 348,XQ)::(nat_lit 350,XR)::(nat_lit 351,XS)::(nat_lit 353,X3)::(nat_lit 354,X4)::(nat_lit 355,X5)::(nat_lit 357,X6)::(nat_lit 358,X7)::(nat_lit 360,X8)::(nat_lit 361,Yb)::(nat_lit 362,Yc)::(nat_lit 364,Yd)::(nat_lit 365,Ye)::(nat_lit 367,Yg)::(nat_lit 368,Yh)::(nat_lit 369,Yi)::(nat_lit 372,Yj)::(nat_lit 373,Yk)::(nat_lit 374,Yl)::(nat_lit 376,Ym)::(nat_lit 377,o377)::(nat_lit 379,Yn)::(nat_lit 380,Yo)::(nat_lit 381,Yp)::(nat_lit 384,Yq)::(nat_lit 385,Yr)::(nat_lit 386,Ys)::(nat_lit 388,Yt)::(nat_lit 389,Yu)::(nat_lit 391,Yv)::(nat_lit 392,Yw)::(nat_lit 393,Yx)::(nat_lit 395,Yy)::(nat_lit 396,Yz)::(nat_lit 398,YB)::(nat_lit 399,YC)::(nat_lit 400,o400)::(nat_lit 403,YD)::(nat_lit 404,YF)::[]
noncomputable def addrs:List aB:=[2,3,15,17,18,20,22,24,25,27,28,29,31,32,34,35,36,43,44,45,46,49,56,57,58,61,68,70,71,73,74,75,76,77,80,87,88,89,92,99,100,101,104,107,108,116,118,119,121,122,123,125,126,128,129,130,132,133,135,136,137,139,140,142,143,144,146,147,149,151,152,153,154,155,158,165,167,168,170,171,172,174,175,177,178,179,181,182,184,185,186,188,189,191,192,193,195,196,198,200,201,202,205,208,209,210,212,213,215,216,217,220,221,222,225,227,229,230,232,241,242,244,245,247,248,249,251,252,254,255,256,258,259,261,263,265,266,268,270,272,273,275,277,278,279,280,281,284,286,287,289,290,291,294,295,296,299,300,301,304,305,306,309,310,311,314,315,316,319,320,321,323,324,326,327,328,330,331,333,334,335,336,339,340,341,343,344,346,347,348,350,351,353,354,355,357,358,360,361,362,364,365,367,368,369,372,373,374,376,377,379,380,381,384,385,386,388,389,391,392,393,395,396,398,399,400,403,404]
abbrev LO:List Str:=["sheet"]
noncomputable def view:cg:={ PySem.Challenge.pw_thirstwise_k08_gardens_read_and_written with main:={ PySem.Challenge.pw_thirstwise_k08_gardens_read_and_written.main with body:=[top 0,top 2,top 3,top 5,top 6,top 7,top 8,top 9,top 11,top 12,top 13,top 14,top 15,top 17,top 18,top 19,top 20,top 21,top 22,top 23,top 24,top 25,top 26,top 27,top 29,top 30,top 31,top 32,top 33,top 34,top 35,top 36,top 40,top 41,top 42,top 43,top 44,top 45,top 46,top 47,top 48,top 49] } }
abbrev ANN:Option aA:=some (Value.ref 6)
abbrev QQ:Pos:={ line:=0,col:=0,endLine:=0,endCol:=0 }
abbrev BODY:List cV:=behindTheImports PySem.Challenge.pw_thirstwise_k08_gardens_read_and_written
abbrev ENV:Env:={ scope:=PySem.Challenge.pw_thirstwise_k08_gardens_read_and_written.main.scope,locals:=mainNs,globals:=mainNs,cells:=[],code:=Value.ref 13,frame:=some 14 }
abbrev CE:Code:=Code.body BODY ENV
abbrev aln:Life:={ }
abbrev adk:Life:={ }
noncomputable def Tf:Params->Heap:=fun P=>Heap.mk (Array.mk [(boot_o_0 P),(boot_o_1 P),(boot_o_2 P),(boot_o_3 P),(boot_o_4 P),(boot_o_5 P),(boot_o_6 P),(boot_o_7 P),(boot_o_8 P),(boot_o_9 P),(boot_o_10 P),o11,o12,o13,o14]) adk
abbrev Tg:Life:={ }
noncomputable def Ti:Params->BT:=fun P=>(nD (boot_o_0 P) (nD (boot_o_1 P) (nD (boot_o_3 P) (lF (boot_o_7 P)) (lF o11)) (nD (boot_o_5 P) (lF (boot_o_9 P)) (lF o13))) (nD (boot_o_2 P) (nD (boot_o_4 P) (lF (boot_o_8 P)) (lF o12)) (nD (boot_o_6 P) (lF (boot_o_10 P)) (lF o14))))
abbrev Tj:Life:={ }
noncomputable def Tn:Params->BT:=fun P=>(nD (boot_o_0 P) (nD (boot_o_1 P) (nD (ag8 P) (nD (boot_o_7 P) (nD o15 (nD o31 (nD (o63 P) (lF Vj) (lF Qm)) (nD o95 (lF Vt) .nil)) (nD o47 (nD o79 (lF O9) (lF V3)) (nD (o111 P) (lF PX) .nil))) (nD o23 (nD o39 (nD o71 (lF O3) (lF VR)) (nD U7 (lF Py) .nil)) (nD o55 (nD o87 (lF Pj) (lF QG)) (nD Oq (lF VH) .nil)))) (nD o11 (nD o19 (nD o35 (nD o67 (lF Vk) (lF Qq)) (nD o99 (lF Vx) .nil)) (nD (o51 P) (nD o83 (lF Pg) (lF V4)) (nD Vf (lF Qd) .nil))) (nD o27 (nD o43 (nD o75 (lF O6) (lF V0)) (nD Oj (lF PJ) .nil)) (nD o59 (nD o91 (lF Pr) (lF V7)) (nD Ov (lF VJ) .nil))))) (nD (boot_o_5 P) (nD (boot_o_9 P) (nD o17 (nD o33 (nD o65 (lF OD) (lF Qp)) (nD o97 (lF Vv) .nil)) (nD o49 (nD o81 (lF Vo) (lF QB)) (nD Vd (lF P0) .nil))) (nD o25 (nD o41 (nD o73 (lF O5) (lF (Qw P))) (nD U8 (lF VB) .nil)) (nD (o57 P) (nD o89 (lF Pn) (lF QJ)) (nD Ot (lF Qi) .nil)))) (nD o13 (nD o21 (nD o37 (nD o69 (lF O2) (lF VP)) (nD Oh (lF Px) .nil)) (nD o53 (nD o85 (lF Ph) (lF QF)) (nD Vg (lF Qf) .nil))) (nD o29 (nD o45 (nD o77 (lF Vn) (lF Qy)) (nD Va (lF VD) .nil)) (nD o61 (nD o93 (lF Vs) (lF QL)) (nD Ow (lF Ql) .nil)))))) (nD (boot_o_2 P) (nD (boot_o_4 P) (nD (boot_o_8 P) (nD o16 (nD o32 (nD o64 (lF Oz) (lF Qo)) (nD o96 (lF (Vu P)) .nil)) (nD o48 (nD o80 (lF Pa) (lF Qz)) (nD Vc (lF VF) .nil))) (nD o24 (nD o40 (nD o72 (lF O4) (lF o200)) (nD Oi (lF Pz) .nil)) (nD o56 (nD (o88 P) (lF (Pk P)) (lF QH)) (nD Vh (lF Qh) .nil)))) (nD abY (nD o20 (nD o36 (nD o68 (lF O1) (lF Qs)) (nD (o100 P) (lF Vy) .nil)) (nD o52 (nD o84 (lF Vp) (lF QD)) (nD Om (lF VG) .nil))) (nD o28 (nD (o44 P) (nD (o76 P) (lF O7) (lF V1)) (nD Ol (lF PL) .nil)) (nD o60 (nD o92 (lF Vr) (lF QK)) (nD Vi (lF Qk) .nil))))) (nD (boot_o_6 P) (nD (boot_o_10 P) (nD o18 (nD o34 (nD o66 (lF OJ) (lF VN)) (nD o98 (lF Vw) .nil)) (nD o50 (nD (o82 P) (lF Pb) (lF QC)) (nD Ve (lF Qa) .nil))) (nD o26 (nD o42 (nD o74 (lF Vm) (lF Qx)) (nD U9 (lF PB) .nil)) (nD o58 (nD o90 (lF Pq) (lF V6)) (nD Ou (lF Qj) .nil)))) (nD o14 (nD o22 (nD (o38 P) (nD o70 (lF Vl) (lF Qt)) (nD U6 (lF Vz) .nil)) (nD o54 (nD o86 (lF Vq) (lF V5)) (nD Oo (lF Qg) .nil))) (nD o30 (nD o46 (nD o78 (lF O8) (lF V2)) (nD Vb (lF PN) .nil)) (nD o62 (nD (o94 P) (lF Pu) .nil) (nD Ox (lF VL) .nil)))))))
abbrev Tp:Life:={ }
noncomputable def Tq:Params->BT:=fun P=>(nD (boot_o_0 P) (nD (boot_o_1 P) (nD (U5 P) (nD (boot_o_7 P) (nD o15 (nD o31 (nD (o63 P) (nD Vj (lF Wq) (lF ac9)) (nD Qm (lF Xj) .nil)) (nD o95 (nD Vt (lF W0) .nil) (nD ab1 (lF XS) .nil))) (nD o47 (nD o79 (nD O9 (lF acv) (lF YC)) (nD V3 (lF Xx) .nil)) (nD (o111 P) (nD PX (lF acI) .nil) (nD acf (lF Yg) .nil)))) (nD o23 (nD o39 (nD o71 (nD O3 (lF Wv) (lF Yv)) (nD VR (lF Xp) .nil)) (nD U7 (nD Py (lF W6) .nil) (nD ab5 (lF ac0) .nil))) (nD o55 (nD o87 (nD Pj (lF WR) .nil) (nD QG (lF XF) .nil)) (nD Oq (nD VH (lF Xf) .nil) (nD Wj (lF ac6) .nil))))) (nD o11 (nD o19 (nD o35 (nD o67 (nD Vk (lF Wt) (lF ada)) (nD Qq (lF Xm) .nil)) (nD o99 (nD Vx (lF W4) .nil) (nD Wa (lF X5) .nil))) (nD (o51 P) (nD o83 (nD Pg (lF WL) (lF YD)) (nD V4 (lF Xz) .nil)) (nD Vf (nD Qd (lF acJ) .nil) (nD ach (lF ac5) .nil)))) (nD o27 (nD o43 (nD o75 (nD O6 (lF acs) (lF Yy)) (nD V0 (lF Xu) .nil)) (nD Oj (nD PJ (lF W8) .nil) (nD ab8 (lF ac2) .nil))) (nD o59 (nD o91 (nD Pr (lF acA) .nil) (nD V7 (lF XM) .nil)) (nD Ov (nD VJ (lF Xh) .nil) (nD Wm (lF Yn) .nil)))))) (nD (boot_o_5 P) (nD (boot_o_9 P) (nD o17 (nD o33 (nD o65 (nD OD (lF aco) (lF Yr)) (nD Qp (lF Xl) .nil)) (nD o97 (nD Vv (lF W2) .nil) (nD V9 (lF X3) .nil))) (nD o49 (nD o81 (nD Vo (lF WK) (lF adg)) (nD QB (lF acT) .nil)) (nD Vd (nD P0 (lF Xb) .nil) (nD Wf (lF Yi) .nil)))) (nD o25 (nD o41 (nD o73 (nD O5 (lF Ww) (lF Yx)) (nD (Qw P) (lF acR) .nil)) (nD U8 (nD VB (lF acF) .nil) (nD ab6 (lF Yb) .nil))) (nD (o57 P) (nD o89 (nD Pn (lF WW) .nil) (nD QJ (lF acW) .nil)) (nD Ot (nD Qi (lF acM) .nil) (nD Wl (lF o377) .nil))))) (nD o13 (nD o21 (nD o37 (nD o69 (nD O2 (lF Wu) (lF Yu)) (nD VP (lF acQ) .nil)) (nD Oh (nD Px (lF acE) .nil) (nD Wb (lF X6) .nil))) (nD o53 (nD o85 (nD Ph (lF WM) .nil) (nD QF (lF XD) .nil)) (nD Vg (nD Qf (lF Xd) .nil) (nD Wi (lF Yk) .nil)))) (nD o29 (nD o45 (nD o77 (nD Vn (lF acu) (lF adf)) (nD Qy (lF Xv) .nil)) (nD Va (nD VD (lF W9) .nil) (nD acd (lF Ye) .nil))) (nD o61 (nD o93 (nD Vs (lF acB) .nil) (nD QL (lF acX) .nil)) (nD Ow (nD Ql (lF acN) .nil) (nD acn (lF Yp) .nil))))))) (nD (boot_o_2 P) (nD (boot_o_4 P) (nD (boot_o_8 P) (nD o16 (nD o32 (nD o64 (nD Oz (lF Wr) (lF Yq)) (nD Qo (lF Xk) .nil)) (nD o96 (nD (Vu P) (lF acC) .nil) (nD ab2 (lF acY) .nil))) (nD o48 (nD o80 (nD Pa (lF WD) (lF o400)) (nD Qz (lF Xy) .nil)) (nD Vc (nD VF (lF Xa) .nil) (nD acg (lF Yh) .nil)))) (nD o24 (nD o40 (nD o72 (nD O4 (lF acr) (lF Yw)) (nD o200 (lF Xq) .nil)) (nD Oi (nD Pz (lF W7) .nil) (nD Wd (lF X8) .nil))) (nD o56 (nD (o88 P) (nD (Pk P) (lF WT) .nil) (nD QH (lF XH) .nil)) (nD Vh (nD Qh (lF acL) .nil) (nD Wk (lF Ym) .nil))))) (nD Te (nD o20 (nD o36 (nD o68 (nD O1 (lF acp) (lF Yt)) (nD Qs (lF Xn) .nil)) (nD (o100 P) (nD Vy (lF acD) .nil) (nD ab4 (lF acZ) .nil))) (nD o52 (nD o84 (nD Vp (lF acy) (lF YF)) (nD QD (lF XC) .nil)) (nD Om (nD VG (lF acK) .nil) (nD Wh (lF Yj) .nil)))) (nD o28 (nD (o44 P) (nD (o76 P) (nD O7 (lF Wy) (lF Yz)) (nD V1 (lF acS) .nil)) (nD Ol (nD PL (lF o300) .nil) (nD (ab9 P) (lF Yd) .nil))) (nD o60 (nD o92 (nD Vr (lF WX) .nil) (nD QK (lF XQ) .nil)) (nD Vi (nD Qk (lF Xi) .nil) (nD Wn (lF Yo) .nil)))))) (nD (boot_o_6 P) (nD (boot_o_10 P) (nD o18 (nD o34 (nD o66 (nD OJ (lF Ws) (lF Ys)) (nD VN (lF acP) .nil)) (nD o98 (nD Vw (lF W3) .nil) (nD ab3 (lF X4) .nil))) (nD o50 (nD (o82 P) (nD Pb (lF acw) (lF adh)) (nD QC (lF acU) .nil)) (nD Ve (nD Qa (lF Xc) .nil) (nD Wg (lF ac4) .nil)))) (nD o26 (nD o42 (nD o74 (nD Vm (lF Wx) (lF ade)) (nD Qx (lF Xr) .nil)) (nD U9 (nD PB (lF acG) .nil) (nD ab7 (lF Yc) .nil))) (nD o58 (nD o90 (nD Pq (lF acz) .nil) (nD V6 (lF XJ) .nil)) (nD Ou (nD Qj (lF Xg) .nil) (nD acj (lF ac7) .nil))))) (nD o14 (nD o22 (nD (o38 P) (nD o70 (nD Vl (lF acq) (lF adb)) (nD Qt (lF Xo) .nil)) (nD U6 (nD Vz (lF W5) .nil) (nD Wc (lF X7) .nil))) (nD o54 (nD o86 (nD Vq (lF (WQ P)) .nil) (nD V5 (lF acV) .nil)) (nD Oo (nD Qg (lF Xe) .nil) (nD aci (lF Yl) .nil)))) (nD o30 (nD o46 (nD o78 (nD O8 (lF Wz) (lF YB)) (nD V2 (lF Xw) .nil)) (nD Vb (nD PN (lF acH) .nil) (nD ace (lF ac3) .nil))) (nD o62 (nD (o94 P) (nD Pu (lF WY) .nil) (nD V8 (lF XR) .nil)) (nD Ox (nD VL (lF acO) .nil) (nD Wo (lF ac8) .nil))))))))
abbrev adl:Life:={ }
noncomputable def qD:Params->Heap:=fun P=>Heap.mk (Array.mk [(boot_o_0 P),(boot_o_1 P),(boot_o_2 P),(U5 P),(boot_o_4 P),(boot_o_5 P),(boot_o_6 P),(boot_o_7 P),(boot_o_8 P),(boot_o_9 P),(boot_o_10 P),o11,Te,o13,o14,o15,o16,o17,o18,o19,o20,o21,o22,o23,o24,o25,o26,o27,o28,o29,o30,o31,o32,o33,o34,o35,o36,o37,(o38 P),o39,o40,o41,o42,o43,(o44 P),o45,o46,o47,o48,o49,o50,(o51 P),o52,o53,o54,o55,o56,(o57 P),o58,o59,o60,o61,o62,(o63 P),o64,o65,o66,o67,o68,o69,o70,o71,o72,o73,o74,o75,(o76 P),o77,o78,o79,o80,o81,(o82 P),o83,o84,o85,o86,o87,(o88 P),o89,o90,o91,o92,o93,(o94 P),o95,o96,o97,o98,o99,(o100 P),Oh,U6,U7,Oi,U8,U9,Oj,Ol,Va,Vb,(o111 P),Vc,Vd,Ve,Vf,Om,Vg,Oo,Oq,Vh,Ot,Ou,Ov,Vi,Ow,Ox,Vj,Oz,OD,OJ,Vk,O1,O2,Vl,O3,O4,O5,Vm,O6,O7,Vn,O8,O9,Pa,Vo,Pb,Pg,Vp,Ph,Vq,Pj,(Pk P),Pn,Pq,Pr,Vr,Vs,Pu,Vt,(Vu P),Vv,Vw,Vx,Vy,Px,Vz,Py,Pz,VB,PB,PJ,PL,VD,PN,PX,VF,P0,Qa,Qd,VG,Qf,Qg,VH,Qh,Qi,Qj,VJ,Qk,Ql,VL,Qm,Qo,Qp,VN,Qq,Qs,VP,Qt,VR,o200,(Qw P),Qx,V0,V1,Qy,V2,V3,Qz,QB,QC,V4,QD,QF,V5,QG,QH,QJ,V6,V7,QK,QL,V8,ab1,ab2,V9,ab3,Wa,ab4,Wb,Wc,ab5,Wd,ab6,ab7,ab8,(ab9 P),acd,ace,acf,acg,Wf,Wg,ach,Wh,Wi,aci,Wj,Wk,Wl,acj,Wm,Wn,acn,Wo,Wq,Wr,aco,Ws,Wt,acp,Wu,acq,Wv,acr,Ww,Wx,acs,Wy,acu,Wz,acv,WD,WK,acw,WL,acy,WM,(WQ P),WR,WT,WW,acz,acA,WX,acB,WY,W0,acC,W2,W3,W4,acD,acE,W5,W6,W7,acF,acG,W8,o300,W9,acH,acI,Xa,Xb,Xc,acJ,acK,Xd,Xe,Xf,acL,acM,Xg,Xh,Xi,acN,acO,Xj,Xk,Xl,acP,Xm,Xn,acQ,Xo,Xp,Xq,acR,Xr,Xu,acS,Xv,Xw,Xx,Xy,acT,acU,Xz,XC,XD,acV,XF,XH,acW,XJ,XM,XQ,acX,XR,XS,acY,X3,X4,X5,acZ,X6,X7,ac0,X8,Yb,Yc,ac2,Yd,Ye,ac3,Yg,Yh,Yi,ac4,ac5,Yj,Yk,Yl,ac6,Ym,o377,ac7,Yn,Yo,Yp,ac8,ac9,Yq,Yr,Ys,ada,Yt,Yu,adb,Yv,Yw,Yx,ade,Yy,Yz,adf,YB,YC,o400,adg,adh,YD,YF]) adl
end
theorem Tr {tb:String->Option Builtin} {p:cg} {w:World} {n₀:Nat} {ann:Option aA} {env:Env} {q:Pos} {n N:Nat} {s s' r:aM} {b:List cV} {c:Code} {pos p':Pos} (i k:Nat) (h:segRun tb p w n₀ ann 1 n s (piecesOf ((b.drop i).take k) env c pos [topFrame q])=some (.next,s',c,p')) (g:topRun tb p w n₀ ann N s' (restOf (b.drop (i + k)) env c p' [topFrame q])=some r):topRun tb p w n₀ ann (n + N) s (restOf (b.drop i) env c pos [topFrame q])=some r:=by
 have e:b.drop i=(b.drop i).take k++b.drop (i + k):=by rw [<- List.drop_drop,List.take_append_drop]
 rw [e];exact piece_app h g
theorem Jx:∀ w:World,(fun os=>topGo treeTable PySem.Challenge.pw_thirstwise_k08_gardens_read_and_written w 11 ANN 12 (Shared.mk (boot_heap w.params) (Array.mk []) boot_drawn boot_toks os) (topStub PySem.Challenge.pw_thirstwise_k08_gardens_read_and_written))=fun os=>some ((Shared.mk (Tf w.params) (Array.mk []) boot_drawn 187 os),Thread.mk (denote treeTable CE) CE { line:=0,col:=0,endLine:=0,endCol:=0 } [topFrame QQ]):=by
 intro w; kernel_rfl
theorem CW:∀ w:World,(fun os=>segRun treeTable PySem.Challenge.pw_thirstwise_k08_gardens_read_and_written w 11 ANN 1 1 (Shared.mk (Tf w.params) (Array.mk []) boot_drawn 187 os) (blockOf BODY ENV CE { line:=0,col:=0,endLine:=0,endCol:=0 } [topFrame QQ]))=fun os=>some (Flow.next,(SharedT.abs (SharedT.mk (Ti w.params) 15 Tg (Array.mk []) boot_drawn 187 os)),CE,{ line:=0,col:=0,endLine:=0,endCol:=0 }):=by
 intro w; kernel_rfl
theorem adn:∀ w:World,(fun os=>segRunT treeTable PySem.Challenge.pw_thirstwise_k08_gardens_read_and_written w 11 ANN 1 2084 (SharedT.mk (Ti w.params) 15 Tg (Array.mk []) boot_drawn 187 os) (piecesOf ((BODY.drop 0).take 24) ENV CE { line:=0,col:=0,endLine:=0,endCol:=0 } [topFrame QQ]))=fun os=>some (Flow.next,(SharedT.mk (Tn w.params) 222 Tj (Array.mk []) boot_drawn 468 os),CE,{ line:=93,col:=0,endLine:=95,endCol:=54 }):=by
 intro w; kernel_rfl
theorem ado:∀ w:World,(fun os=>segRunT treeTable PySem.Challenge.pw_thirstwise_k08_gardens_read_and_written w 11 ANN 1 1051 (SharedT.mk (Tn w.params) 222 Tj (Array.mk []) boot_drawn 468 os) (piecesOf ((BODY.drop 24).take 26) ENV CE { line:=93,col:=0,endLine:=95,endCol:=54 } [topFrame QQ]))=fun os=>some (Flow.next,(SharedT.mk (Tq w.params) 405 Tp (Array.mk []) boot_drawn 744 os),CE,{ line:=289,col:=0,endLine:=324,endCol:=55 }):=by
 intro w; kernel_rfl
theorem Jy:∀ w:World,(fun os=>topRun treeTable PySem.Challenge.pw_thirstwise_k08_gardens_read_and_written w 11 ANN 2 (SharedT.abs (SharedT.mk (Tq w.params) 405 Tp (Array.mk []) boot_drawn 744 os)) (restOf (BODY.drop 50) ENV CE { line:=289,col:=0,endLine:=324,endCol:=55 } [topFrame QQ]))=fun os=>some (Shared.mk (qD w.params) (Array.mk []) boot_drawn 744 os):=by
 intro w; kernel_rfl
theorem ahU (w:World) (os:OsState):topRun treeTable PySem.Challenge.pw_thirstwise_k08_gardens_read_and_written w 11 ANN (12 + (1 + (2084 + (1051 + (2))))) (Shared.mk (boot_heap w.params) (Array.mk []) boot_drawn boot_toks os) (topStub PySem.Challenge.pw_thirstwise_k08_gardens_read_and_written)=some (Shared.mk (qD w.params) (Array.mk []) boot_drawn 744 os) := go_top (congrFun (Jx w) os) (piece_block (congrFun (CW w) os) (Tr 0 24 (segRun_of (congrFun (adn w) os)) (Tr 24 26 (segRun_of (congrFun (ado w) os)) (congrFun (Jy w) os))))
theorem lk1:∀ w:World,(fun os=>(staticsOk (importedModules PySem.Challenge.pw_thirstwise_k08_gardens_read_and_written.main.body) (boot_heap w.params) (qD w.params) && namesBound PySem.Challenge.pw_thirstwise_k08_gardens_read_and_written (qD w.params) && gensDone (Shared.mk (qD w.params) (Array.mk []) boot_drawn 744 os) && laidKept (boot_heap w.params) (qD w.params)))=fun _=>true:=by
 intro w; kernel_rfl
theorem lk2:∀ w:World,(fun os=>openSeen view LO (importedModules PySem.Challenge.pw_thirstwise_k08_gardens_read_and_written.main.body) (fun s=>xlAt view [] s && recOk (RowW.records (OpenRow.toRowW (OpenLaw.row PySem.Challenge.rw_thirstwise_k08_gardens_read_and_written))) s) true (Shared.mk (qD w.params) (Array.mk []) boot_drawn 744 os))=fun _=>openGood view LO:=by
 intro w; kernel_rfl
theorem lk3:∀ w:World,(fun os=>Hook.obs (kHook KK addrs (fun _=>by kernel_rfl)) (Shared.mk (qD w.params) (Array.mk []) boot_drawn 744 os))=fun _=>Hook.val (kHook KK addrs (fun _=>by kernel_rfl)) w:=by
 intro w; kernel_rfl
theorem opn:∀ w:World,(fencedOpening treeTable PySem.Challenge.pw_thirstwise_k08_gardens_read_and_written w 6392).map (fun s=>(s.heap,s.gens,s.drawn,s.toks))=some (boot_heap w.params,Array.mk [],boot_drawn,boot_toks):=boot_open (by kernel_rfl) (by kernel_rfl) (fun s=>by kernel_rfl)
theorem siz:∀ w:World,((boot_heap w.params).isNs mainGlobals && (Array.mk []:Array GenState).size == 0,(boot_heap w.params).objs.size,(boot_heap w.params).nsMap mainGlobals "__annotations__")=(true,11,ANN):=by
 intro w; kernel_rfl
theorem hl:LeftO PySem.Challenge.rw_thirstwise_k08_gardens_read_and_written.row.prog view LO (fun s=>xlAt view [] s && recOk (RowW.records (OpenRow.toRowW (OpenLaw.row PySem.Challenge.rw_thirstwise_k08_gardens_read_and_written))) s) (Hook.obs (kHook KK addrs (fun _=>by kernel_rfl))) (Hook.val (kHook KK addrs (fun _=>by kernel_rfl))) 6392 := LeftO.of_pieces (p:=PySem.Challenge.pw_thirstwise_k08_gardens_read_and_written) (q:=view) (loose:=LO) (Xt:=(fun s=>xlAt view [] s && recOk (RowW.records (OpenRow.toRowW (OpenLaw.row PySem.Challenge.rw_thirstwise_k08_gardens_read_and_written))) s)) (Yf:=Hook.obs (kHook KK addrs (fun _=>by kernel_rfl))) (Ya:=Hook.val (kHook KK addrs (fun _=>by kernel_rfl))) (N:=6392) (g0:=true) (H₀:=boot_heap) (H₁:=qD) (gs₀:=Array.mk []) (gs₁:=(Array.mk [])) (d₀:=boot_drawn) (d₁:=boot_drawn) (k₀:=boot_toks) (k₁:=744) (m₀:=11) (ann:=ANN) (M:=12 + (1 + (2084 + (1051 + (2))))) opn siz ahU (by kernel_rfl) (fun w=>funext fun os=>Prod.ext (congrFun (lk1 w) os) (Prod.ext (congrFun (lk2 w) os) (congrFun (lk3 w) os)))
end Tw
namespace L2
open PySem PySem.Spec PyProof.Rows
abbrev Key:=Sum Int Str
def Gb:Key->aA->Bool
 | .inl k,v=>Value.isInt k v
 | .inr x,v=>Value.isStrOf x v
def ahV (w:World):Key->Int
 | .inl k=>hashInt k
 | .inr x=>hashStr w x
theorem fJ:∀ {k:Key} {v:aA},Gb k v=true->(∃ i t,k=Sum.inl i/\v=Value.int i t)\/(∃ x t,k=Sum.inr x/\v=Value.str x t)
 | .inl i,v,h=>by
  obtain ⟨t,e⟩:=Value.isInt_shape (k:=i) (v:=v) h;exact .inl ⟨i,t,rfl,e⟩
 | .inr x,v,h=>by
  obtain ⟨t,e⟩:=Value.isStrOf_shape (x:=x) (v:=v) h;exact .inr ⟨x,t,rfl,e⟩
theorem Hx (x:Str) (t:Tok):Gb (.inr x) (.str x t)=true:=by simp [Gb,Value.isStrOf]
theorem YG (a b:Int):decide ((Sum.inl a:Key)=Sum.inl b)=(a == b):=by
 by_cases e:a=b
 ·subst e; simp
 ·have h:¬ (Sum.inl a:Key)=Sum.inl b:=fun q=>e (Sum.inl.inj q)
  rw [aH h];exact (beq_eq_false_iff_ne.mpr e).symm
theorem YH (a b:Str):decide ((Sum.inr a:Key)=Sum.inr b)=decide (a=b):=by
 by_cases e:a=b
 ·subst e; simp
 ·have h:¬ (Sum.inr a:Key)=Sum.inr b:=fun q=>e (Sum.inr.inj q)
  rw [aH h,aH e]
theorem YJ (a:Int) (b:Str):decide ((Sum.inl a:Key)=Sum.inr b)=false:=aH (fun q=>nomatch q)
theorem YK (a:Str) (b:Int):decide ((Sum.inr a:Key)=Sum.inl b)=false:=aH (fun q=>nomatch q)
noncomputable def ur (prog:cg) (w:World):PySem.KeyKind prog w Key where
 is:=Gb
 hash:=ahV w
 inj:=fun v a b ha hb=>by
  rcases fJ ha with ⟨i,t,rfl,rfl⟩ | ⟨x,t,rfl,rfl⟩
  ·rcases fJ hb with ⟨j,u,rfl,e⟩ | ⟨y,u,rfl,e⟩
   ·injection e with e1 _; rw [e1]
   ·exact nomatch e
  ·rcases fJ hb with ⟨j,u,rfl,e⟩ | ⟨y,u,rfl,e⟩
   ·exact nomatch e
   ·injection e with e1 _; rw [e1]
 byValue:=fun k v h=>by
  rcases fJ h with ⟨i,t,rfl,rfl⟩ | ⟨x,t,rfl,rfl⟩ <;> rfl
 pyHash:=fun hv h=>by
  rcases fJ hv with ⟨i,t,rfl,rfl⟩ | ⟨x,t,rfl,rfl⟩
  ·exact wpAny_pyHash_int h
  ·exact wpAny_pyHash_str h
 eqBool:=fun hu hv h=>by
  rcases fJ hu with ⟨i,t,rfl,rfl⟩ | ⟨x,t,rfl,rfl⟩
  ·rcases fJ hv with ⟨j,u,rfl,rfl⟩ | ⟨y,u,rfl,rfl⟩
   ·rw [YG] at h; exact wpAny_eqBool_int h
   ·rw [YJ] at h; exact SeqAt.EqAt.int_str i t y u _ _ _ _ h
  ·rcases fJ hv with ⟨j,u,rfl,rfl⟩ | ⟨y,u,rfl,rfl⟩
   ·rw [YK] at h; exact SeqAt.EqAt.str_int x t j u _ _ _ _ h
   ·rw [YH] at h; exact wpAny_eqBool_str h
 «strs»:=fun k x t v h=>by
  rcases fJ h with ⟨i,u,rfl,e⟩ | ⟨y,u,rfl,e⟩
  ·exact nomatch e
  ·injection e with e1 _
   subst e1;cases v <;> rfl
theorem tR (prog:cg) (w:World) (x:Str) (t:Tok):(ur prog w).is (.inr x) (.str x t)=true:=Hx x t
inductive V where
 | non | bl (b:Bool) | int (i:Int) | str (x:Str) | Gd (b:Array UInt8) | flt (b:UInt64) | ref (a:aB) | ty (n:String)
 deriving DecidableEq
noncomputable def RelV:V->aA->Prop
 | .non,u=>u=Value.none
 | .bl b,u=>u=Value.bool b
 | .int i,u=>∃ t,u=Value.int i t
 | .str x,u=>∃ t,u=Value.str x t
 | .Gd b,u=>∃ t,u=Value.bytes b t
 | .flt b,u=>∃ t,u=Value.float b t
 | .ref a,u=>u=Value.ref a
 | .ty n,u=>u=Value.type n
abbrev Vals:List V->List aA->Prop:=Paired RelV
theorem Vals.length {xs:List V} {us:List aA} (r:Vals xs us):xs.length=us.length:=Paired.length r
theorem Vals.get:∀ {xs:List V} {us:List aA} {i:Nat} {x:V},Vals xs us->xs[i]?=some x->∃ u,us[i]?=some u/\RelV x u
 | _,_,_,_,.nil,e=>by simp at e
 | _,_,0,_,.cons r _,e=>by simp at e; subst e; exact ⟨_,rfl,r⟩
 | _,_,i + 1,x,.cons _ t,e=>by
  obtain ⟨u,h1,h2⟩:=Vals.get (i:=i) (x:=x) t (by simpa using e);exact ⟨u,by simpa using h1,h2⟩
theorem Vals.append:∀ {xs ys:List V} {us ws:List aA},Vals xs us->Vals ys ws->Vals (xs++ys) (us++ws)
 | _,_,_,_,.nil,s=>s
 | _,_,_,_,.cons r t,s=>.cons r (Vals.append t s)
theorem Vals.take:∀ {xs:List V} {us:List aA} (n:Nat),Vals xs us->Vals (xs.take n) (us.take n)
 | _,_,0,_=>.nil
 | _,_,_ + 1,.nil=>.nil
 | _,_,n + 1,.cons r t=>.cons r (Vals.take n t)
theorem Vals.drop:∀ {xs:List V} {us:List aA} (n:Nat),Vals xs us->Vals (xs.drop n) (us.drop n)
 | _,_,0,r=>r
 | _,_,_ + 1,.nil=>.nil
 | _,_,n + 1,.cons _ t=>Vals.drop n t
theorem Vals.none_of:∀ {xs:List V} {us:List aA} {i:Nat},Vals xs us->xs[i]?=none->us[i]?=none:=fun {xs us i} r e=>by
 have h1:=r.length;have h2:xs.length<=i:=List.getElem?_eq_none_iff.mp e;exact List.getElem?_eq_none_iff.mpr (by omega)
def wM:Option V->Option aA->Prop
 | some v,some u=>RelV v u
 | none,none=>True
 | _,_=>False
def KV {κ:Type}:List (κ × V)->List (κ × aA)->Prop:=Paired fun (p:κ × V) (q:κ × aA)=>p.1=q.1/\RelV p.2 q.2
def kV:Key->V
 | .inl i=>.int i
 | .inr x=>.str x
inductive HO where
 | lst (xs:List V)
 | tup (xs:List V)
 | dK (kvs:List (Key × V)) | dT (kvs:List (List Key × V))
 | set (S:Int->Bool) (n:Nat)
 | ins (C dx:aB) (fs:List (Str × V))
 | own (x:aB)
 | xd (fs:List (Str × V))
 | met (f x:aB)
 | rng (lo hi:Int)
 | z7 (o:Obj) (u:HO)
 | Tt (ps:Array aA)
 | ext (φ:Heap->Prop)
abbrev Hp:=aB->Option HO
def upd (H:Hp) (a:aB) (o:HO):Hp:=fun b=>if b=a then some o else H b
theorem aF {H:Hp} {a:aB} {o:HO}:upd H a o a=some o:=by unfold upd; rw [if_pos rfl]
theorem bA {H:Hp} {a b:aB} {o:HO} (h:b≠a):upd H a o b=H b:=by unfold upd; rw [if_neg h]
theorem oN {H:Hp} {a:aB} {o u:HO}:upd (upd H a o) a u=upd H a u:=by
 funext b; unfold upd; split <;> rfl
theorem Jz {H:Hp} {a b:aB} {o u:HO} (h:H a=some o) (h':H b=some u) (d:o≠u):a≠b:=by
 intro e; subst e; rw [h] at h'; exact d (bU h')
theorem dz {H:Hp} {a b:aB} {o:HO} (h:H a=some o) (h':H b=none):a≠b:=by
 intro e; subst e; rw [h] at h'; cases h'
section
variable (P:cg) (w:World)
noncomputable def eV (H:Hp) (h:Heap) (a:aB):HO->Prop
 | .lst xs=>xs.length<=sizeLine/\∃ (its:List aA) (n:Nat),Vals xs its/\h.get? a=some { cls:=.type "list",data:=.seq its.toArray n }
 | .tup xs=>xs.length<=sizeLine/\∃ its:List aA,Vals xs its/\IsTup h a its.toArray
 | .dK kvs=>kvs.length<=sizeLine/\(a == sysModules)=false/\∃ vs,KV kvs vs/\h.DictOf (ur P w) a vs
 | .dT kvs=>kvs.length<=sizeLine/\(a == sysModules)=false/\∃ xs:List (List Key × aB × aA),Paired (fun (p:List Key × V) (q:List Key × aB × aA)=>p.1=q.1/\H q.2.1=some (.tup (p.1.map kV))/\RelV p.2 q.2.2) kvs xs /\ ∃ o es ep,h.get? a=some o/\o.ExactDict/\o.data=.dict es ep/\es.toList=xs.map (entryOfKey (tupleKind (ur P w)))/\(xs.map (·.1)).Nodup
 | .set S n=>h.SetOf (intKind P w) a S n
 | .ins C dx fs=>H dx=some (.own a)/\fs.length<=1000/\dx≠a/\h.get? a=some (instObj C dx) /\ ∃ mA,h.Ns1 dx mA/\(∀ f,wM (fs.lookup f) (mA f))/\PySem.Within mA (fs.map (·.1))
 | .own _=>∃ o,h.get? a=some o
 | .xd fs=>∃ mA,h.Ns1 a mA/\∀ f,wM (fs.lookup f) (mA f)
 | .rng lo hi=>∃ t u v,h.get? a=some { cls:=.type "range",data:=.fields #[.int lo t,.int hi u,.int 1 v] }
 | .z7 o u=>h.get? a=some o/\eV H h a u
 | .Tt ps=>h.get? a=some { cls:=.none,data:=.fields ps }
 | .met f x=>h.get? a=some (methodObj (.ref f) (.ref x))
 | .ext φ=>φ h/\(∃ o,h.get? a=some o)/\∀ h1 h2:Heap,φ h1->(∀ o,h1.get? a=some o->h2.get? a=some o)->φ h2
def rB (H:Hp) (h:Heap):Prop:=∀ a o,H a=some o->eV P w H h a o
end
section
variable {P:cg} {w:World} {H H':Hp} {h h':Heap} {a:aB} {o:HO}
theorem eV.lt (x:eV P w H h a o):a < h.objs.size:=by
 cases o with
 | lst xs=>obtain ⟨_,_,_,_,e⟩:=x; exact Heap.lt_size e
 | tup xs=>obtain ⟨_,_,_,p⟩:=x; exact p.lt
 | dK kvs=>obtain ⟨_,_,_,_,o,_,_,e,_⟩:=x; exact Heap.lt_size e
 | dT kvs=>obtain ⟨_,_,_,_,o,_,_,e,_⟩:=x; exact Heap.lt_size e
 | set S n=>obtain ⟨o,_,_,_,e,_⟩:=x; exact Heap.lt_size e
 | ins C dx fs=>obtain ⟨_,_,_,e,_⟩:=x; exact Heap.lt_size e
 | own y=>obtain ⟨_,e⟩:=x; exact Heap.lt_size e
 | xd fs=>obtain ⟨_,⟨_,_,_,e,_⟩,_⟩:=x; exact Heap.lt_size e
 | rng lo hi=>obtain ⟨_,_,_,e⟩:=x; exact Heap.lt_size e
 | z7 ob u=>obtain ⟨e,_⟩:=x; exact Heap.lt_size e
 | Tt ps=>exact Heap.lt_size (show h.get? a=some _ from x)
 | met f y=>exact Heap.lt_size (show h.get? a=some _ from x)
 | ext φ=>obtain ⟨_,⟨_,e⟩,_⟩:=x; exact Heap.lt_size e
theorem Paired.jx {α β:Type} {F G:α->β->Prop}:∀ {l₁:List α} {l₂:List β},Paired F l₁ l₂->(∀ a b,F a b->G a b)->Paired G l₁ l₂
 | _,_,.nil,_=>.nil
 | _,_,.cons r t,f=>.cons (f _ _ r) (Paired.jx t f)
theorem eV.stay (x:eV P w H h a o) (k:∀ b u,(b=a\/H b=some (.own a))->h.get? b=some u->h'.get? b=some u) (ho:∀ b,H b=some (.own a)->H' b=some (.own a)) (ht:∀ b xs,H b=some (.tup xs)->H' b=some (.tup xs)):eV P w H' h' a o:=by
 induction o with
 | lst xs=>obtain ⟨z,its,n,r,e⟩:=x; exact ⟨z,its,n,r,k _ _ (.inl rfl) e⟩
 | tup xs=>obtain ⟨z,its,r,ob,e,c⟩:=x; exact ⟨z,its,r,ob,k _ _ (.inl rfl) e,c⟩
 | dK kvs=>obtain ⟨z,y,vs,r,ob,es,ep,e,c⟩:=x; exact ⟨z,y,vs,r,ob,es,ep,k _ _ (.inl rfl) e,c⟩
 | dT kvs =>
  obtain ⟨z,y,xs,r,ob,es,ep,e,c⟩:=x;exact ⟨z,y,xs,Paired.jx r fun p q z=>⟨z.1,ht _ _ z.2.1,z.2.2⟩,ob,es,ep,k _ _ (.inl rfl) e,c⟩
 | set S n=>obtain ⟨ob,es,ep,t,e,c⟩:=x; exact ⟨ob,es,ep,t,k _ _ (.inl rfl) e,c⟩
 | ins C dx fs =>
  obtain ⟨d,z,ne,e,mA,⟨od,es,ep,e2,c⟩,r⟩:=x;exact ⟨ho _ d,z,ne,k _ _ (.inl rfl) e,mA,⟨od,es,ep,k _ _ (.inr d) e2,c⟩,r⟩
 | own y=>obtain ⟨ob,e⟩:=x; exact ⟨ob,k _ _ (.inl rfl) e⟩
 | xd fs=>obtain ⟨mA,⟨od,es,ep,e,c⟩,r⟩:=x; exact ⟨mA,⟨od,es,ep,k _ _ (.inl rfl) e,c⟩,r⟩
 | rng lo hi=>obtain ⟨t,u,v,e⟩:=x; exact ⟨t,u,v,k _ _ (.inl rfl) e⟩
 | z7 ob u ih=>obtain ⟨e,q⟩:=x; exact ⟨k _ _ (.inl rfl) e,ih q⟩
 | Tt ps =>
  have e:h.get? a=some { cls:=.none,data:=.fields ps }:=x
  show h'.get? a=some { cls:=.none,data:=.fields ps }
  exact k a _ (.inl rfl) e
 | met f y =>
  have e:h.get? a=some (methodObj (.ref f) (.ref y)):=x
  show h'.get? a=some (methodObj (.ref f) (.ref y))
  exact k a _ (.inl rfl) e
 | ext φ=>obtain ⟨p,⟨o,e⟩,st⟩:=x; exact ⟨st _ _ p fun o q=>k _ _ (.inl rfl) q,⟨o,k _ _ (.inl rfl) e⟩,st⟩
theorem rB.lt (x:rB P w H h) (e:H a=some o):a < h.objs.size:=(x a o e).lt
theorem rB.fresh (x:rB P w H h) (e:h.objs.size<=a):H a=none:=by
 cases q:H a with
 | none=>rfl
 | some u=>exact absurd (aZ (x.lt q) e) (cX _)
theorem rB.kept (x:rB P w H h) (k:∀ b u,h.get? b=some u->h'.get? b=some u):rB P w H h':=fun a o e =>
 (x a o e).stay (fun b u _ q=>k b u q) (fun _ q=>q) fun _ _ q=>q
theorem rB.laid (x:rB P w H h) (k:∀ b u,h.get? b=some u->h'.get? b=some u) (hp:h.objs.size<=a) (new:eV P w (upd H a o) h' a o):rB P w (upd H a o) h':=fun b u e=>by
 have hn:=x.fresh hp
 by_cases hb:b=a
 ·subst hb; rw [aF] at e; cases e; exact new
 ·rw [bA hb] at e;exact (x b u e).stay (fun c v _ q=>k c v q) (fun c q=>by rw [bA (dz q hn)]; exact q) fun c xs q=>by rw [bA (dz q hn)]; exact q
end
def Rd (H:Hp) (a:aB) (u:HO):Prop:=H a=some u\/∃ o,H a=some (.z7 o u)
theorem Rd.ok {P:cg} {w:World} {H:Hp} {h:Heap} {a:aB} {u:HO} (r:Rd H a u) (x:rB P w H h):eV P w H h a u:=by
 rcases r with r | ⟨o,r⟩
 ·exact x a u r
 ·obtain ⟨_,q⟩:=x a _ r;exact q
def Mut:Option HO->Prop
 | some (.lst _)=>True
 | some (.dK _)=>True
 | some (.dT _)=>True
 | some (.set _ _)=>True
 | some (.ins _ _ _)=>True
 | some (.ext _)=>True
 | _=>False
section
variable {P:cg} {w:World} {H:Hp} {h h':Heap} {x e:aB} {o':HO}
theorem rB.write (ok:rB P w H h) (mu:Mut (H x)) (he:e=x\/H e=some (.own x)) (k:∀ b u,b≠e->h.get? b=some u->h'.get? b=some u) (heo:∃ u,h'.get? e=some u) (new:eV P w (upd H x o') h' x o'):rB P w (upd H x o') h':=fun b u q=>by
 have adp:∀ c y,H c=some (.own y)->c≠x:=fun c y r z=>by subst z; rw [r] at mu; exact mu
 have ahW:∀ c xs,H c=some (.tup xs)->c≠x:=fun c xs r z=>by subst z; rw [r] at mu; exact mu
 by_cases hb:b=x
 ·subst hb; rw [aF] at q; cases q; exact new
 ·rw [bA hb] at q
  by_cases hbe:b=e
  ·have q':H b=some (.own x):=by
    rcases he with z | z
    ·exact absurd (hbe.trans z) hb
    ·rw [hbe]; exact z
   rw [q] at q'; cases q';obtain ⟨v,hv⟩:=heo;exact ⟨v,by rw [hbe]; exact hv⟩
  ·refine (ok b u q).stay (fun c v hc r=>k c v ?_ r) (fun c r=>by rw [bA (adp c b r)]; exact r) fun c xs r=>by rw [bA (ahW c xs r)]; exact r
   rcases hc with rfl | hc
   ·exact hbe
   ·rintro rfl;rcases he with z | z
    ·exact adp c b hc z
    ·rw [hc] at z; cases z; exact hb rfl
end
structure Un (fs ex:List aB) (H H':Hp) (h h':Heap):Prop where
 keep:∀ b o,h.get? b=some o->H b=none->b ∉ fs->b ∉ ex->h'.get? b=some o
 slot:∀ b o,h.get? b=some o->H b=none->b ∈ fs->b ∉ ex->∃ sl,h'.get? b=some { o with slots:=sl }
 free:∀ b o,h.get? b=some o->H b=none->b ∉ ex->H' b=none
 there:∀ b o,h.get? b=some o->b ∉ ex->∃ o',h'.get? b=some o'
 tups:∀ b xs,H b=some (.tup xs)->H' b=some (.tup xs)
 ug:∀ b o u,H b=some (.z7 o u)->H' b=some (.z7 o u)
 uP:∀ b ps,H b=some (.Tt ps)->∃ more,H' b=some (.Tt (ps++more))
section
variable {fs fs' ex ex':List aB} {H H1 H2:Hp} {h h1 h2 h':Heap} {a x e:aB} {o:HO}
theorem Un.any (u:Un fs ex H H1 h h1) {b:aB} {ob:Obj} (q:h.get? b=some ob) (n:H b=none) (hx:b ∉ ex):∃ sl,h1.get? b=some { ob with slots:=sl }:=by
 by_cases hb:b ∈ fs
 ·exact u.slot b ob q n hb hx
 ·exact ⟨ob.slots,u.keep b ob q n hb hx⟩
theorem Un.kept (k:∀ b u,h.get? b=some u->h'.get? b=some u):Un fs ex H H h h' := ⟨fun b ob q _ _ _=>k b ob q,fun b ob q _ _ _=>⟨ob.slots,k b ob q⟩,fun _ _ _ n _=>n,fun b ob q _=>⟨ob,k b ob q⟩,fun _ _ q=>q,fun _ _ _ q=>q,fun _ ps q=>⟨#[],by rw [q]; simp⟩⟩
theorem Un.refl:Un fs ex H H h h:=Un.kept fun _ _ q=>q
theorem Un.laid (k:∀ b u,h.get? b=some u->h'.get? b=some u) (hp:h.objs.size<=a) (hn:H a=none):Un fs ex H (upd H a o) h h' where
 keep:=fun b u q _ _ _=>k b u q
 slot:=fun b u q _ _ _=>⟨u.slots,k b u q⟩
 free:=fun b u q n _=>by rw [bA (Nat.ne_of_lt (aZ (Heap.lt_size q) hp))]; exact n
 there:=fun b u q _=>⟨u,k b u q⟩
 tups:=fun b xs q=>by rw [bA (dz q hn)]; exact q
 ug:=fun b u xs q=>by rw [bA (dz q hn)]; exact q
 uP:=fun b ps q=>⟨#[],by rw [bA (dz q hn),q]; simp⟩
theorem Un.write (mu:Mut (H x)) (he:e=x\/H e=some (.own x)) (k:∀ b u,b≠e->h.get? b=some u->h'.get? b=some u) (heo:∃ u,h'.get? e=some u):Un fs ex H (upd H x o) h h':=by
 have hx:∀ b,H b=none->b≠x:=fun b n z=>by subst z; rw [n] at mu; exact mu
 have hb:∀ b,H b=none->b≠e:=fun b n z=>by
  subst z;rcases he with r | r
  ·exact hx b n r
  ·rw [n] at r; cases r
 have hm:∀ b u,H b=some u->¬ Mut (some u)->b≠x:=fun b u q nm z=>by subst z; rw [q] at mu; exact nm mu
 refine ⟨fun b u q n _ _=>k b u (hb b n) q,fun b u q n _ _=>⟨u.slots,k b u (hb b n) q⟩,fun b u q n _=>by rw [bA (hx b n)]; exact n,fun b u q _=>?_,fun b xs q=>by rw [bA (hm b _ q fun z=>z)]; exact q,fun b u xs q=>by rw [bA (hm b _ q fun z=>z)]; exact q,fun b ps q=>⟨#[],by rw [bA (hm b _ q fun z=>z),q]; simp⟩⟩
 by_cases hbe:b=e
 ·subst hbe; exact heo
 ·exact ⟨u,k b u hbe q⟩
end
def trk (h:Heap) (H:Hp):List aB:=(List.range h.objs.size).filter fun a=>(H a).isSome
def yH (h:Heap) (H:Hp):Heap:=PySem.W.hideAll h (trk h H)
theorem Hy (h:Heap) (H:Hp):(yH h H).objs.size=h.objs.size:=PySem.W.hideAll_size _ _
theorem JB {h:Heap} {H:Hp} {b:aB} {o:Obj} (e:h.get? b=some o) (n:H b=none):(yH h H).get? b=some o := PySem.W.hideAll_get _ e fun hm=>by
 have q:(H b).isSome=true:=(mem_filter.mp hm).2;rw [n] at q; simp at q
theorem QM {h:Heap} {H:Hp} {b:aB} {o:Obj} (e:(yH h H).get? b=some o):h.get? b=some o/\H b=none:=by
 have e':h.get? b=some o:=PySem.W.of_hideAll (trk h H) e;refine ⟨e',?_⟩;cases q:H b with
 | none=>rfl
 | some x =>
  have hm:b ∈ trk h H:=mem_filter.mpr ⟨mem_range.mpr (Heap.lt_size e'),by simp [q]⟩;have z:(yH h H).get? b=none:=PySem.W.hideAll_none (trk h H) hm;rw [z] at e; cases e
structure Mod (K:Fg) (mg:Str->Option aA) (base:Heap):Prop where
 Hz:K.In base
 glob:base.Ns mainGlobals mg
 blt:∃ mb,base.Ns builtinsNs mb/\∀ x:Str,x≠"__name__"->mb x=bootBuiltins x
 nolimit:base.NoLimit
structure Cx where
 prog:cg
 w:World
 K:Fg
 mg:Str->Option aA
 base:Heap
 A:cW
 N:List Str
 s₀:aM
 H₀:Hp
 env:Env
 outer:List Env
 stack:List Env
 ex:List aB
 fn:Str->Bool
 calm:Bool
 pn:List (aB × Obj)
 xe:aA->aM->Prop
def frs (l:List Env):List aB:=l.filterMap (·.frame)
abbrev Cx.fs (X:Cx):List aB:=frs X.outer
def Vis (sc:Scope) (x:Str):Prop:=sc.names.lookup x=some .local\/sc.names.lookup x=some .cell\/sc.names.lookup x=some .free
def Loc (sc:Scope) (x:Str):Prop:=sc.names.lookup x=some .local\/sc.names.lookup x=some .cell
noncomputable def Look (env:Env) (h:Heap) (m:Str->Option aA) (x:Str) (u:aA):Prop := (env.kindOf x=some .local/\m x=some u)\/((env.kindOf x=some .cell\/env.kindOf x=some .free)/\∃ c,env.cells.lookup x=some c/\h.IsCell c (some u))
structure Cx.Ok (X:Cx):Prop where
 mod:Mod X.K X.mg X.base
 kind:X.env.scope.kind=.function
 glob:X.env.globals=mainGlobals
 blt:X.env.builtins=builtinsNs
 above:X.s₀.heap.objs.size<=X.env.locals
 inj:∀ x y c,X.env.cells.lookup x=some c->X.env.cells.lookup y=some c->x=y
 has:∀ x,(X.env.kindOf x=some .cell\/X.env.kindOf x=some .free)->∃ c,X.env.cells.lookup x=some c
 cab:∀ x c,X.fn x=true->X.env.cells.lookup x=some c->X.s₀.heap.objs.size<=c
 hd:X.calm=true->X.A.handled=none
 frames:X.A.frames=some X.stack
 stk:X.stack=X.outer\/(X.stack=X.env::X.outer/\X.env.frame=some X.env.locals)
 exf:∀ b ∈ X.ex,b≠X.env.locals/\∀ x c,X.env.cells.lookup x=some c->c≠b
 bs:∀ b o,X.base.get? b=some o->X.s₀.heap.get? b=some o/\X.H₀ b=none
 N7:X.base.objs.size<=X.s₀.heap.objs.size
 JC:∀ b o,X.base.get? b=some o->b ∉ X.ex
 QS:∀ b ∈ X.ex,b ∉ X.fs
 rE:X.s₀.heap.FunFrames X.base X.outer
 YL:∀ b ∈ X.fs,X.H₀ b=none
structure Inv (X:Cx) (pins:List (aB × Obj)) (σ:List (Option V)) (H:Hp) (s:aM):Prop where
 ok:X.Ok
 os:s.os=X.s₀.os
 bare:AllBare s.gens
 base:Un X.fs X.ex X.H₀ H X.s₀.heap s.heap
 loc:∃ m,s.heap.Ns X.env.locals m/\∀ (i:Nat) (x:Str) (v:V),X.N[i]?=some x->σ[i]?=some (some v)->Vis X.env.scope x->∃ u,RelV v u/\Look X.env s.heap m x u
 cell:∀ x c,X.env.cells.lookup x=some c->∃ v,s.heap.IsCell c v
 free:H X.env.locals=none
 jf:∀ x c,X.env.cells.lookup x=some c->H c=none
 pin:∀ p ∈ X.pn++pins,s.heap.get? p.1=some p.2/\H p.1=none/\p.1≠X.env.locals/\p.1 ∉ X.fs/\∀ v,p.2.data≠.cell v
 hok:rB X.prog X.w H s.heap
 len:σ.length=X.N.length
section
variable {X:Cx} {pins:List (aB × Obj)} {σ:List (Option V)} {H H':Hp} {s:aM} {h':Heap}
theorem Cx.Ok.ahY (ok:X.Ok) {b:aB} {o:Obj} (e:X.base.get? b=some o):b ∉ X.fs:=fun hb=>by
 have:=(ok.rE.mem hb).1;rw [e] at this; cases this
theorem Inv.bs (I:Inv X pins σ H s):∀ b o,X.base.get? b=some o->s.heap.get? b=some o/\H b=none:=fun b o e =>
 ⟨I.base.keep b o (I.ok.bs b o e).1 (I.ok.bs b o e).2 (I.ok.ahY e) (I.ok.JC b o e),I.base.free b o (I.ok.bs b o e).1 (I.ok.bs b o e).2 (I.ok.JC b o e)⟩
theorem Inv.bk (I:Inv X pins σ H s):∀ b o,X.base.get? b=some o->s.heap.get? b=some o:=fun b o e=>(I.bs b o e).1
theorem Inv.mod (I:Inv X pins σ H s):Mod X.K X.mg X.base:=I.ok.mod
theorem Inv.nj (I:Inv X pins σ H s):X.K.In s.heap:=I.ok.mod.Hz.keeps I.bk
theorem Inv.fr (I:Inv X pins σ H s):∃ m,Fr X.base X.env.locals s.heap m := let ⟨m,hn,_⟩:=I.loc
 ⟨m,hn,I.bk,bw I.ok.N7 I.ok.above⟩
theorem Inv.lt (I:Inv X pins σ H s):X.env.locals < s.heap.objs.size:=let ⟨_,hn,_⟩:=I.loc; hn.lt
theorem Inv.sz (I:Inv X pins σ H s):X.s₀.heap.objs.size<=s.heap.objs.size:=bw I.ok.above (Nat.le_of_lt I.lt)
theorem Inv.ahZ (I:Inv X pins σ H s) {a:aB} (h:s.heap.objs.size<=a):a ∉ X.fs:=fun hb=>by
 obtain ⟨_,o,ho,_⟩:=I.ok.rE.mem hb;exact absurd (aZ (Heap.lt_size ho) (bw I.sz h)) (cX _)
theorem Inv.Tv (I:Inv X pins σ H s):∀ x c,X.env.cells.lookup x=some c->c≠X.env.locals:=fun x c e z=>by
 obtain ⟨v,o,ho,hd⟩:=I.cell x c e;obtain ⟨m,⟨o',es,ep,ho',hd',_⟩,_⟩:=I.loc;rw [z,ho'] at ho; cases ho; rw [hd'] at hd; cases hd
theorem Inv.rE (I:Inv X pins σ H s):s.heap.FunFrames X.base X.outer:=by
 have all:∀ (l:List Env),(∀ b ∈ frs l,b ∈ X.fs)->X.s₀.heap.FunFrames X.base l->s.heap.FunFrames X.base l:=by
  intro l
  induction l with
  | nil=>intro _ _; trivial
  | cons env r ih =>
   intro hs hl;obtain ⟨hk,⟨L,o,hf,hn,ho,hd⟩,hr⟩:=hl;have hL:L ∈ X.fs:=hs L (by unfold frs; rw [List.filterMap_cons,hf]; exact mem_cons_self);obtain ⟨sl,e⟩:=I.base.slot L o ho (I.ok.YL L hL) hL fun z=>I.ok.QS L z hL
   exact ⟨hk,⟨L,_,hf,hn,e,hd⟩,ih (fun b hb=>hs b (by unfold frs; rw [List.filterMap_cons,hf]; exact mem_cons_of_mem _ hb)) hr⟩
 exact all X.outer (fun _ hb=>hb) I.ok.rE
theorem Inv.stack (I:Inv X pins σ H s):s.heap.FunFrames X.base X.stack:=by
 rcases I.ok.stk with e | ⟨e,hf⟩
 ·rw [e]; exact I.rE
 ·rw [e];obtain ⟨m,hn,_⟩:=I.loc;refine .cons (by rw [I.ok.kind]; decide) hf hn ?_ I.rE;exact Heap.get?_none_of_le (bw I.ok.N7 I.ok.above)
theorem Inv.rG (I:Inv X pins σ H s):∀ b ∈ frs X.stack,b ∈ X.env.locals::X.fs:=fun b hb=>by
 rcases I.ok.stk with e | ⟨e,hf⟩
 ·rw [e] at hb; exact mem_cons_of_mem _ hb
 ·rw [e] at hb;unfold frs at hb;rw [List.filterMap_cons,hf] at hb;exact hb
theorem Inv.yI (I:Inv X pins σ H s):∀ b ∈ frs X.stack,H b=none:=fun b hb=>by
 rcases aQ.mp (I.rG b hb) with e | hb
 ·rw [e]; exact I.free
 ·obtain ⟨_,o,ho,_⟩:=I.ok.rE.mem hb;exact I.base.free b o ho (I.ok.YL b hb) fun z=>I.ok.QS b z hb
theorem Inv.step {g':Array GenState} {t':Nat} {d':Drawn} {ch:List aB} (I:Inv X pins σ H s) (hch:∀ b ∈ ch,(b ∈ X.ex\/X.s₀.heap.objs.size<=b)/\b≠X.env.locals/\(∀ x c,X.env.cells.lookup x=some c->c≠b)/\∀ p ∈ X.pn++pins,p.1≠b) (keep:∀ b o,b≠X.env.locals->b ∉ X.fs->b ∉ ch->s.heap.get? b=some o->H b=none->h'.get? b=some o) (slot:∀ b o,b≠X.env.locals->b ∈ X.fs->b ∉ ch->s.heap.get? b=some o->H b=none->∃ sl,h'.get? b=some { o with slots:=sl }) (free:∀ b o,b ∉ ch->s.heap.get? b=some o->H b=none->H' b=none) (there:∀ b o,b ∉ ch->s.heap.get? b=some o->∃ o',h'.get? b=some o') (tups:∀ b xs,H b=some (.tup xs)->H' b=some (.tup xs)) (ug:∀ b o u,H b=some (.z7 o u)->H' b=some (.z7 o u)) (uP:∀ b ps,H b=some (.Tt ps)->∃ more,H' b=some (.Tt (ps++more))) (ns:∀ m,s.heap.Ns X.env.locals m->h'.Ns X.env.locals m) (hok:rB X.prog X.w H' h') (hg:AllBare g') : Inv X pins σ H' { s with heap:=h',gens:=g',drawn:=d',toks:=t' }:=by
 have Tz:∀ b o,X.s₀.heap.get? b=some o->b≠X.env.locals:=fun b o e=>Nat.ne_of_lt (aZ (Heap.lt_size e) I.ok.above)
 have TF:∀ b o,X.s₀.heap.get? b=some o->b ∉ X.ex->b ∉ ch:=fun b o e hx hb=>by
  rcases (hch b hb).1 with z | z
  ·exact hx z
  ·exact absurd (aZ (Heap.lt_size e) z) (cX _)
 have cellK:∀ x c,X.env.cells.lookup x=some c->∀ v,s.heap.IsCell c v->h'.IsCell c v:=fun x c e v ⟨o,ho,hd⟩=>by
  have JD:c ∉ ch:=fun z=>(hch c z).2.2.1 x c e rfl
  by_cases hc:c ∈ X.fs
  ·obtain ⟨sl,q⟩:=slot c o (I.Tv x c e) hc JD ho (I.jf x c e);exact ⟨_,q,hd⟩
  ·exact ⟨o,keep c o (I.Tv x c e) hc JD ho (I.jf x c e),hd⟩
 refine ⟨I.ok,I.os,hg,⟨fun b o e n hb hx=>?_,fun b o e n hb hx=>?_,fun b o e n hx=>?_,fun b o e hx=>?_,fun b xs e=>tups b xs (I.base.tups b xs e),fun b o xs e=>ug b o xs (I.base.ug b o xs e),fun b ps e=>?_⟩,?_,fun x c e=>?_,?_,fun x c e=>?_,fun p hp=>?_,hok,I.len⟩
 ·exact keep b o (Tz b o e) hb (TF b o e hx) (I.base.keep b o e n hb hx) (I.base.free b o e n hx)
 ·obtain ⟨sl,e1⟩:=I.base.slot b o e n hb hx;obtain ⟨sl',e2⟩:=slot b _ (Tz b o e) hb (TF b o e hx) e1 (I.base.free b o e n hx);exact ⟨sl',e2⟩
 ·obtain ⟨o',e1⟩:=I.base.there b o e hx;exact free b o' (TF b o e hx) e1 (I.base.free b o e n hx)
 ·obtain ⟨o',e1⟩:=I.base.there b o e hx;exact there b o' (TF b o e hx) e1
 ·obtain ⟨m1,e1⟩:=I.base.uP b ps e;obtain ⟨m2,e2⟩:=uP b _ e1;exact ⟨m1++m2,by rw [e2,Array.append_assoc]⟩
 ·obtain ⟨m,hn,hl⟩:=I.loc;refine ⟨m,ns m hn,fun i x v e1 e2 e3=>?_⟩;obtain ⟨u,r,l⟩:=hl i x v e1 e2 e3;refine ⟨u,r,?_⟩;rcases l with l | ⟨k,c,e,z⟩
  ·exact .inl l
  ·exact .inr ⟨k,c,e,cellK x c e _ z⟩
 ·obtain ⟨v,z⟩:=I.cell x c e;exact ⟨v,cellK x c e v z⟩
 ·obtain ⟨m,⟨o,_,_,ho,_⟩,_⟩:=I.loc;exact free _ o (fun z=>(hch _ z).2.1 rfl) ho I.free
 ·obtain ⟨v,o,ho,hd⟩:=I.cell x c e;exact free c o (fun z=>(hch c z).2.2.1 x c e rfl) ho (I.jf x c e)
 ·obtain ⟨e,n,ne,nf,d⟩:=I.pin p hp;have JD:p.1 ∉ ch:=fun z=>(hch p.1 z).2.2.2 p hp rfl
  exact ⟨keep p.1 p.2 ne nf JD e n,free p.1 p.2 JD e n,ne,nf,d⟩
theorem Inv.un {t':Nat} (I:Inv X pins σ H s) (u:Un X.fs [] H H' s.heap h') (hok:rB X.prog X.w H' h'):Inv X pins σ H' { s with heap:=h',toks:=t' }:=by
 obtain ⟨m,⟨o,es,ep,ho,r⟩,_⟩:=id I.loc;obtain ⟨sl,hL⟩:=u.any ho I.free (by simp);exact I.step (g':=s.gens) (d':=s.drawn) (ch:=[]) (fun _ z=>nomatch z) (fun b o _ hb _ e n=>u.keep b o e n hb (by simp)) (fun b o _ hb _ e n=>u.slot b o e n hb (by simp)) (fun b o _ e n=>u.free b o e n (by simp)) (fun b o _ e=>u.there b o e (by simp)) u.tups u.ug u.uP (fun m' hm=>by
  obtain ⟨o',es',ep',ho',r'⟩:=hm;rw [ho] at ho'; cases ho';exact ⟨_,es',ep',hL,r'⟩) hok I.bare
theorem Inv.call {g':Array GenState} {t':Nat} {d':Drawn} {ch:List aB} (I:Inv X pins σ H s) (u:Un (frs X.stack) ch H H' s.heap h') (hok:rB X.prog X.w H' h') (hg:AllBare g') (hch:∀ b ∈ ch,(b ∈ X.ex\/X.s₀.heap.objs.size<=b)/\b≠X.env.locals/\(∀ x c,X.env.cells.lookup x=some c->c≠b)/\∀ p ∈ X.pn++pins,p.1≠b) : Inv X pins σ H' { s with heap:=h',gens:=g',drawn:=d',toks:=t' }:=by
 obtain ⟨m,⟨o,es,ep,ho,r⟩,_⟩:=id I.loc;obtain ⟨sl,hL⟩:=u.any ho I.free fun z=>(hch _ z).2.1 rfl
 exact I.step (ch:=ch) hch (fun b o hL hb hc e n=>u.keep b o e n (fun z=>(aQ.mp (I.rG b z)).elim hL hb) hc) (fun b o _ _ hc e n=>u.any e n hc) (fun b o hc e n=>u.free b o e n hc) (fun b o hc e=>u.there b o e hc) u.tups u.ug u.uP (fun m' hm=>by
  obtain ⟨o',es',ep',ho',r'⟩:=hm;rw [ho] at ho'; cases ho';exact ⟨_,es',ep',hL,r'⟩) hok hg
theorem Inv.turned {t':Nat} {it:aB} (I:Inv X pins σ H s) (k:∀ b o,b≠it->s.heap.get? b=some o->h'.get? b=some o) (hn:H it=none) (hL:it≠X.env.locals) (h1:it ∈ X.ex\/X.s₀.heap.objs.size<=it) (h2:∀ x c,X.env.cells.lookup x=some c->c≠it) (h3:∀ p ∈ X.pn++pins,p.1≠it):Inv X pins σ H { s with heap:=h',toks:=t' }:=by
 have nit:∀ b u,H b=some u->b≠it:=fun b u e z=>by rw [z,hn] at e; cases e
 refine I.step (g':=s.gens) (d':=s.drawn) (ch:=[it]) (fun b hb=>?_) (fun b o _ _ hc e _=>k b o (fun z=>hc (by simp [z])) e) (fun b o _ _ hc e _=>⟨o.slots,k b o (fun z=>hc (by simp [z])) e⟩) (fun _ _ _ _ n=>n) (fun b o hc e=>⟨o,k b o (fun z=>hc (by simp [z])) e⟩) (fun _ _ e=>e) (fun _ _ _ e=>e) (fun b ps e=>⟨#[],by rw [e]; simp⟩) (fun m hm=>?_) (fun b u e=>?_) I.bare
 ·have e:b=it:=by simpa using hb
  subst e;exact ⟨h1,hL,h2,h3⟩
 ·obtain ⟨o,es,ep,ho,r⟩:=hm;exact ⟨o,es,ep,k _ o (Ne.symm hL) ho,r⟩
 ·refine (I.hok b u e).stay (fun c v hc q=>k c v ?_ q) (fun _ q=>q) fun _ _ q=>q
  rcases hc with z | z
  ·rw [z]; exact nit b u e
  ·exact nit c _ z
theorem Inv.tok (I:Inv X pins σ H s) (t:Nat):Inv X pins σ H { s with toks:=t }:=I.un (h':=s.heap) (t':=t) Un.refl I.hok
theorem Inv.kept {t':Nat} (I:Inv X pins σ H s) (k:∀ b u,s.heap.get? b=some u->h'.get? b=some u):Inv X pins σ H { s with heap:=h',toks:=t' }:=I.un (Un.kept k) (I.hok.kept k)
theorem Inv.laid {a:aB} {o:HO} {t':Nat} (I:Inv X pins σ H s) (k:∀ b u,s.heap.get? b=some u->h'.get? b=some u) (hp:s.heap.objs.size<=a) (new:eV X.prog X.w (upd H a o) h' a o) : Inv X pins σ (upd H a o) { s with heap:=h',toks:=t' }:=I.un (Un.laid k hp (I.hok.fresh hp)) (I.hok.laid k hp new)
theorem Inv.write {x e:aB} {o:HO} {t':Nat} (I:Inv X pins σ H s) (mu:Mut (H x)) (he:e=x\/H e=some (.own x)) (k:∀ b u,b≠e->s.heap.get? b=some u->h'.get? b=some u) (heo:∃ u,h'.get? e=some u) (new:eV X.prog X.w (upd H x o) h' x o):Inv X pins σ (upd H x o) { s with heap:=h',toks:=t' }:=I.un (Un.write mu he k heo) (I.hok.write mu he k heo new)
theorem Inv.weak {σ':List (Option V)} (I:Inv X pins σ H s) (hl:σ'.length=σ.length) (w:∀ (i:Nat) v,σ'[i]?=some (some v)->σ[i]?=some (some v)):Inv X pins σ' H s := ⟨I.ok,I.os,I.bare,I.base,let ⟨m,hn,hl'⟩:=I.loc; ⟨m,hn,fun i x v e1 e2 e3=>hl' i x v e1 (w i v e2) e3⟩,I.cell,I.free,I.jf,I.pin,I.hok,hl.trans I.len⟩
theorem Inv.Ge {mV:List (aB × Obj)} (I:Inv X pins σ H s) (h:∀ p ∈ mV,s.heap.get? p.1=some p.2/\H p.1=none/\p.1≠X.env.locals/\p.1 ∉ X.fs/\∀ v,p.2.data≠.cell v):Inv X mV σ H s := ⟨I.ok,I.os,I.bare,I.base,I.loc,I.cell,I.free,I.jf,fun p hp=>(bQ.mp hp).elim (fun z=>I.pin p (mem_append_left _ z)) (h p),I.hok,I.len⟩
theorem z8 {N:List Str} (hN:N.Nodup) {i j:Nat} {x:Str} (a:N[i]?=some x) (b:N[j]?=some x):i=j:=by
 obtain ⟨h1,e1⟩:=aN.mp a;obtain ⟨h2,e2⟩:=aN.mp b;exact (List.getElem_inj hN).mp (e1.trans e2.symm)
theorem wY {M:Model} {A:cW} {E:aA->aM->Prop} {i:Nat} {x:Str} {v:V} {u:aA} {Q:Unit->aM->Prop} (I:Inv X pins σ H s) (hN:X.N.Nodup) (hi:X.N[i]?=some x) (hx:Loc X.env.scope x) (r:RelV v u) (h:∀ s',Inv X pins (σ.set i (some v)) H s'->(∃ a,Heap.SameBut a s.heap s'.heap/\(a=X.env.locals\/X.env.cells.lookup x=some a))->Q () s') (hf:autoParam (X.fn x=true\/X.env.scope.names.lookup x=some .local) zau2):wpAny M A (storeName X.env x u) Q E s:=by
 obtain ⟨m,hn,hl⟩:=id I.loc;have hcls:(X.env.scope.kind == .class || (X.env.scope.kind == .module && X.env.locals != X.env.globals))=false:=by rw [I.ok.kind]; rfl
 have hiσ:i < σ.length:=by rw [I.len]; exact (aN.mp hi).1
 have Tv:=I.Tv;have tracked:∀ {a:aB} {h':Heap},(∃ o,s.heap.get? a=some o/\H a=none)->Heap.SameBut a s.heap h'->rB X.prog X.w H h':=fun {a h'} ha hs b ob e=>by
  obtain ⟨_,_,hfree⟩:=ha;refine (I.hok b ob e).stay (fun c w' hc q=>(hs.2 c ?_).trans q) (fun _ q=>q) fun _ _ q=>q
  rintro rfl;rcases hc with rfl | hc
  ·rw [hfree] at e; cases e
  ·rw [hfree] at hc; cases hc
 rcases hx with hk | hk
 ·refine wpAny_storeName_local hk hn (fun h' hn' hs=>?_) hcls;obtain ⟨oL,_,_,hoL,_⟩:=id hn;refine h _ ⟨I.ok,I.os,I.bare,⟨fun b o e n hb hx=>?_,fun b o e n hb hx=>?_,I.base.free,fun b o e hx=>?_,I.base.tups,I.base.ug,I.base.uP⟩,⟨_,hn',fun j y v' e1 e2 e3=>?_⟩,fun y c e=>?_,I.free,I.jf,fun p hp=>?_,tracked ⟨oL,hoL,I.free⟩ hs,by simpa using I.len⟩ ⟨_,hs,.inl rfl⟩
  ·exact (hs.2 b (Nat.ne_of_lt (aZ (Heap.lt_size e) I.ok.above))).trans (I.base.keep b o e n hb hx)
  ·obtain ⟨sl,e1⟩:=I.base.slot b o e n hb hx;exact ⟨sl,(hs.2 b (Nat.ne_of_lt (aZ (Heap.lt_size e) I.ok.above))).trans e1⟩
  ·obtain ⟨o',e1⟩:=I.base.there b o e hx;exact ⟨o',(hs.2 b (Nat.ne_of_lt (aZ (Heap.lt_size e) I.ok.above))).trans e1⟩
  ·by_cases hj:j=i
   ·subst hj;rw [hi] at e1; cases e1;rw [List.getElem?_set_self hiσ] at e2;cases e2;exact ⟨u,r,.inl ⟨hk,by simp⟩⟩
   ·rw [List.getElem?_set_ne (Ne.symm hj)] at e2;obtain ⟨u',r',q⟩:=hl j y v' e1 e2 e3;refine ⟨u',r',?_⟩;rcases q with ⟨k,e⟩ | ⟨k,c,e,z⟩
    ·refine .inl ⟨k,?_⟩;have:y≠x:=fun e=>hj (z8 hN e1 (e ▸ hi))
     simp [this,e]
    ·exact .inr ⟨k,c,e,z.sameBut hs (Tv y c e)⟩
  ·obtain ⟨w',z⟩:=I.cell y c e;exact ⟨w',z.sameBut hs (Tv y c e)⟩
  ·obtain ⟨e,n,ne,nf,d⟩:=I.pin p hp;exact ⟨(hs.2 p.1 ne).trans e,n,ne,nf,d⟩
 ·have hfn:X.fn x=true:=by
   rcases hf with z | z
   ·exact z
   ·rw [z] at hk; cases hk
  obtain ⟨c,hc⟩:=I.ok.has x (.inl hk);obtain ⟨w',z⟩:=I.cell x c hc;refine wpAny_storeName_cell I.ok.kind hk hc z (fun h' hc' hs=>?_);obtain ⟨oc,hoc,ah0⟩:=id z;refine h { s with heap:=h' } ⟨I.ok,I.os,I.bare,⟨fun b o e n hb hx=>?_,fun b o e n hb hx=>?_,I.base.free,fun b o e hx=>?_,I.base.tups,I.base.ug,I.base.uP⟩,⟨m,hn.sameBut hs (Ne.symm (Tv x c hc)),fun j y v' e1 e2 e3=>?_⟩,fun y c' e=>?_,I.free,I.jf,fun p hp=>?_,tracked ⟨oc,hoc,I.jf x c hc⟩ hs,by simpa using I.len⟩ ⟨c,hs,.inr hc⟩
  ·exact (hs.2 b (Nat.ne_of_lt (aZ (Heap.lt_size e) (I.ok.cab x c hfn hc)))).trans (I.base.keep b o e n hb hx)
  ·obtain ⟨sl,e1⟩:=I.base.slot b o e n hb hx;exact ⟨sl,(hs.2 b (Nat.ne_of_lt (aZ (Heap.lt_size e) (I.ok.cab x c hfn hc)))).trans e1⟩
  ·obtain ⟨o',e1⟩:=I.base.there b o e hx;exact ⟨o',(hs.2 b (Nat.ne_of_lt (aZ (Heap.lt_size e) (I.ok.cab x c hfn hc)))).trans e1⟩
  ·by_cases hj:j=i
   ·subst hj;rw [hi] at e1; cases e1;rw [List.getElem?_set_self hiσ] at e2;cases e2;exact ⟨u,r,.inr ⟨.inl hk,c,hc,hc'⟩⟩
   ·rw [List.getElem?_set_ne (Ne.symm hj)] at e2;obtain ⟨u',r',q⟩:=hl j y v' e1 e2 e3;refine ⟨u',r',?_⟩;rcases q with q | ⟨k,c',e,z'⟩
    ·exact .inl q
    ·refine .inr ⟨k,c',e,z'.sameBut hs ?_⟩;rintro rfl;exact hj (z8 hN e1 (I.ok.inj _ _ _ e hc ▸ hi))
  ·by_cases hcc:c'=c
   ·subst hcc; exact ⟨_,hc'⟩
   ·obtain ⟨w2,z2⟩:=I.cell y c' e;exact ⟨w2,z2.sameBut hs hcc⟩
  ·obtain ⟨e,n,ne,nf,d⟩:=I.pin p hp;refine ⟨(hs.2 p.1 ?_).trans e,n,ne,nf,d⟩;intro q;rw [q,hoc] at e;have q':oc=p.2:=bU e;exact d w' (by rw [<- q']; exact ah0)
theorem uQ {M:Model} {A:cW} {E:aA->aM->Prop} {i:Nat} {x:Str} {v:V} {u:aA} {Q:Unit->aM->Prop} (I:Inv X pins σ H s) (hN:X.N.Nodup) (hi:X.N[i]?=some x) (hx:Loc X.env.scope x) (r:RelV v u) (h:∀ s',Inv X pins (σ.set i (some v)) H s'->Q () s') (hf:autoParam (X.fn x=true\/X.env.scope.names.lookup x=some .local) zau2):wpAny M A (storeName X.env x u) Q E s := wY I hN hi hx r (fun s' I' _=>h s' I') hf
theorem Inv.call' {s':aM} {ch:List aB} (I:Inv X pins σ H s) (ho:s'.os=s.os) (u:Un (frs X.stack) ch H H' s.heap s'.heap) (hok:rB X.prog X.w H' s'.heap) (hg:AllBare s'.gens) (hch:∀ b ∈ ch,(b ∈ X.ex\/X.s₀.heap.objs.size<=b)/\b≠X.env.locals/\(∀ x c,X.env.cells.lookup x=some c->c≠b)/\∀ p ∈ X.pn++pins,p.1≠b):Inv X pins σ H' s':=by
 obtain ⟨h',g',d',t',o'⟩:=s';have e:o'=s.os:=ho;subst e;exact I.call (g':=g') (t':=t') (d':=d') u hok hg hch
end
abbrev XK:=aA->Option aB->Hp->Prop
abbrev St:=List (Option V)
abbrev VK:=V->Hp->Prop
abbrev TE:=St->Hp->VK->Prop
abbrev TT:=St->Hp->(Bool->Hp->Prop)->Prop
abbrev TA:=St->Hp->(List V->Hp->Prop)->Prop
structure Ends where
 nx:St->Hp->Prop
 rt:VK
 bk:St->Hp->Prop:=fun _ _=>False
 ct:St->Hp->Prop:=fun _ _=>False
abbrev TS:=Ends->St->Hp->Prop
def EP (X:Cx) (pins:List (aB × Obj)) (σ:St) (Q:VK) (u:aA) (s':aM):Prop:=∃ v H',Inv X pins σ H' s'/\RelV v u/\Q v H'
def TP (X:Cx) (pins:List (aB × Obj)) (σ:St) (Q:Bool->Hp->Prop) (b:Bool) (s':aM):Prop:=∃ H',Inv X pins σ H' s'/\Q b H'
def AP (X:Cx) (pins:List (aB × Obj)) (σ:St) (Q:List V->Hp->Prop) (us:List aA) (s':aM):Prop:=∃ vs H',Inv X pins σ H' s'/\Vals vs us/\Q vs H'
noncomputable def SP (X:Cx) (pins:List (aB × Obj)) (D:Ends) (f:Flow) (s':aM):Prop := match f with
 | .next=>∃ σ' H',Inv X pins σ' H' s'/\D.nx σ' H'
 | .brk=>∃ σ' H',Inv X pins σ' H' s'/\D.bk σ' H'
 | .cont=>∃ σ' H',Inv X pins σ' H' s'/\D.ct σ' H'
 | .ret u=>∃ v σ' H',Inv X pins σ' H' s'/\RelV v u/\D.rt v H'
def PE (X:Cx) (e:Expr) (t:TE):Prop := ∀ (pins:List (aB × Obj)) (s:aM) (σ:St) (H:Hp) (Q:VK),Inv X pins σ H s->t σ H Q->wpAny (model X.prog X.w) X.A (eval e X.env) (EP X pins σ Q) X.xe s
noncomputable def PT (X:Cx) (e:Expr) (t:TT):Prop := ∀ (pins:List (aB × Obj)) (s:aM) (σ:St) (H:Hp) (Q:Bool->Hp->Prop),Inv X pins σ H s->t σ H Q->wpAny (model X.prog X.w) X.A (isTrue e X.env (eval e X.env)) (TP X pins σ Q) X.xe s
noncomputable def PW (X:Cx) (e:Expr) (t:TT):Prop := ∀ (whole:Sem aA) (pins:List (aB × Obj)) (s:aM) (σ:St) (H:Hp) (Q:Bool->Hp->Prop),Inv X pins σ H s->t σ H Q->wpAny (model X.prog X.w) X.A (isTrue e X.env whole) (TP X pins σ Q) X.xe s
theorem PW.pt {X:Cx} {e:Expr} {t:TT} (h:PW X e t):PT X e t:=h _
noncomputable def PA (X:Cx) (es:List Expr) (t:TA):Prop := ∀ (pos:Pos) (pins:List (aB × Obj)) (s:aM) (σ:St) (H:Hp) (Q:List V->Hp->Prop),Inv X pins σ H s->t σ H Q->wpAny (model X.prog X.w) X.A (spliced (backTo pos (starEach es X.env))) (AP X pins σ Q) X.xe s
def PS (X:Cx) (st:cV) (t:TS):Prop := ∀ (pins:List (aB × Obj)) (s:aM) (σ:St) (H:Hp) (D:Ends),Inv X pins σ H s->t D σ H->wpAny (model X.prog X.w) X.A (exec st X.env) (SP X pins D) X.xe s
def z9 (X:Cx) (st:List cV) (t:TS):Prop := ∀ (pins:List (aB × Obj)) (s:aM) (σ:St) (H:Hp) (D:Ends),Inv X pins σ H s->t D σ H->wpAny (model X.prog X.w) X.A (execs st X.env) (SP X pins D) X.xe s
theorem eX {α:Type} {t:Sem α} {Q Q':α->aM->Prop} {M:Model} {A:cW} {E:aA->aM->Prop} {s:aM} (h:wpAny M A t Q E s) (hQ:∀ a s,Q a s->Q' a s):wpAny M A t Q' E s:=cM h hQ fun _ _ x=>x
section
variable {X:Cx}
theorem bin {a b:Expr} {ta tb:TE} (ha:PE X a ta) (hb:PE X b tb) {pins:List (aB × Obj)} {s:aM} {σ:St} {H:Hp} {R:V->V->Hp->Prop} (I:Inv X pins σ H s) (h:ta σ H fun x H1=>tb σ H1 fun y H2=>R x y H2) {α:Type} {Q:α->aM->Prop} {f:aA->aA->Sem α} (hf:∀ v u s2 x y H2,Inv X pins σ H2 s2->RelV x v->RelV y u->R x y H2->wpAny (model X.prog X.w) X.A (f v u) Q X.xe s2) : wpAny (model X.prog X.w) X.A (eval a X.env) (fun v s₁=>wpAny (model X.prog X.w) X.A (eval b X.env) (fun u s₂=>wpAny (model X.prog X.w) X.A (f v u) Q X.xe s₂) X.xe s₁) X.xe s:=by
 refine eX (ha pins s σ H _ I h) fun v s1 ⟨x,H1,I1,r1,q1⟩=>?_
 refine eX (hb pins s1 σ H1 _ I1 q1) fun u s2 ⟨y,H2,I2,r2,q2⟩=>?_
 exact hf v u s2 x y H2 I2 r1 r2 q2
def adq (i:Nat):TE:=fun σ H Q=>∃ v,σ[i]?=some (some v)/\Q v H
def tC (v:V):TE:=fun _ H Q=>Q v H
theorem YM {i:Nat} {x:Str} {pos:Pos} (hN:X.N[i]?=some x) (hv:Vis X.env.scope x) (hd:autoParam ((x == ("__debug__":Str))=false) zau1) (hcd:autoParam ((x == ("__classdict__":Str))=false) zau1):PE X (.Name x pos) (adq i):=by
 intro pins s σ H Q I h;obtain ⟨v,e,h⟩:=h;obtain ⟨m,hn,hl⟩:=I.loc;obtain ⟨u,r,l⟩:=hl i x v hN e hv;have fin:EP X pins σ Q u s:=⟨v,H,I,r,h⟩;rcases l with ⟨hk,hm⟩ | ⟨hk,c,hc,hcell⟩
 ·exact wpAny_Name (wpAny_loadName_local I.ok.kind hk hn hm fin) hd
 ·rcases hk with hk | hk
  ·exact wpAny_Name (wpAny_loadName_cell I.ok.kind hk hc hcell fin) hd
  ·exact wpAny_Name (wpAny_loadName_free I.ok.kind hk hc hcell fin hcd) hd
theorem aL {i j pos}:PE X (.Constant (.int i) j pos) (tC (.int i)):=fun _ _ _ H _ I h=>wpAny_Constant_int ⟨.int i,H,I.tok _,⟨_,rfl⟩,h⟩
theorem j4 {b j pos}:PE X (.Constant (.bool b) j pos) (tC (.bl b)):=fun _ _ _ H _ I h=>Constant_bool ⟨.bl b,H,I,rfl,h⟩
theorem YQ {j pos}:PE X (.Constant .none j pos) (tC .non):=fun _ _ _ H _ I h=>Constant_none ⟨.non,H,I,rfl,h⟩
theorem cj {x j pos}:PE X (.Constant (.str x) j pos) (tC (.str x)):=fun _ _ _ H _ I h=>Calls.Constant_str ⟨.str x,H,I.tok _,⟨_,rfl⟩,h⟩
def Gl (X:Cx) (x:Str):Prop:=X.env.kindOf x=some .globalImplicit
theorem j5 {E:aA->aM->Prop} {pins:List (aB × Obj)} {s:aM} {σ:St} {H:Hp} {x:Str} {u:aA} {pos:Pos} {Q:aA->aM->Prop} (I:Inv X pins σ H s) (hg:Gl X x) (hm:X.mg x=some u) (h:Q u s) (hd:autoParam ((x == ("__debug__":Str))=false) zau1):wpAny (model X.prog X.w) X.A (eval (.Name x pos) X.env) Q E s := Calls.Name_function_global I.ok.kind hg (Calls.loadGlobal_global (by rw [I.ok.glob]; exact I.mod.glob.keeps I.bk) hm h) hd
theorem uR {E:aA->aM->Prop} {pins:List (aB × Obj)} {s:aM} {σ:St} {H:Hp} {x:Str} {u:aA} {pos:Pos} {Q:aA->aM->Prop} (I:Inv X pins σ H s) (hg:Gl X x) (hm:X.mg x=none) (hv:bootBuiltins x=some u) (h:Q u s) (hn:autoParam (x≠"__name__") zau1) (hd:autoParam ((x == ("__debug__":Str))=false) zau1):wpAny (model X.prog X.w) X.A (eval (.Name x pos) X.env) Q E s:=by
 obtain ⟨mb,h1,h2⟩:=I.mod.blt;exact Calls.Name_function_global I.ok.kind hg (Calls.loadGlobal_builtin (by rw [I.ok.glob]; exact I.mod.glob.keeps I.bk) hm (by rw [I.ok.blt]; exact h1.keeps I.bk) ((h2 x hn).trans hv) h) hd
theorem Gf {x:Str} {v:V} {u:aA} {pos:Pos} (hg:Gl X x) (hm:X.mg x=some u) (r:RelV v u) (hd:autoParam ((x == ("__debug__":Str))=false) zau1):PE X (.Name x pos) (tC v) := fun _ _ _ H _ I h=>j5 I hg hm ⟨v,H,I,r,h⟩ hd
theorem QT {x:Str} {v:V} {u:aA} {pos:Pos} (hg:Gl X x) (hm:X.mg x=none) (hv:bootBuiltins x=some u) (r:RelV v u) (hn:autoParam (x≠"__name__") zau1) (hd:autoParam ((x == ("__debug__":Str))=false) zau1):PE X (.Name x pos) (tC v) := fun _ _ _ H _ I h=>uR I hg hm hv ⟨v,H,I,r,h⟩ hn hd
variable {a b:Expr} {ta tb:TE} {pos:Pos}
noncomputable def PC (X:Cx) (op:CmpOp) (a b:Expr) (t:TE):Prop := ∀ (pins:List (aB × Obj)) (s:aM) (σ:St) (H:Hp) (Q:VK),Inv X pins σ H s->t σ H Q -> wpAny (model X.prog X.w) X.A (eval a X.env) (fun v s₁=>wpAny (model X.prog X.w) X.A (eval b X.env) (fun u s₂=>wpAny (model X.prog X.w) X.A (compareOp op v u) (EP X pins σ Q) X.xe s₂) X.xe s₁) X.xe s
def tB (t:TE):TT:=fun σ H Q=>t σ H fun x H1=>∃ c,x=.bl c/\Q c H1
theorem ah1 {op:CmpOp} {t:TE} (h:PC X op a b t) (h1:behindInMarks op b=false:=by first | exact adt _ (by decide) (by decide) | rfl):PT X (.Compare a [op] [b] pos) (tB t):=by
 intro pins s σ H Q I hw;refine wpAny_isTrue_Compare1 (eX (h pins s σ H _ I hw) fun v s1 h1=>eX h1 fun u s2 h2=>eX h2 fun c s3 ⟨x,H1,I1,r1,q1⟩=>?_) h1;obtain ⟨d,rfl,q⟩:=q1;cases r1;exact wpAny_truthy_bool ⟨H1,I1,q⟩
theorem eZ {e:Expr} {t:TE} (h:PE X e t) (he:autoParam (∀ whole,isTrue e X.env whole=(do let v <- whole; standAt e.pos; holding [v] (truthy v))) zau3):PT X e (tB t):=by
 intro pins s σ H Q I hw;refine isTrue_plain (eX (h pins s σ H _ I hw) fun v s1 ⟨x,H1,I1,r1,q1⟩=>?_) (he _);obtain ⟨d,rfl,q⟩:=q1;cases r1;exact wpAny_truthy_bool ⟨H1,I1,q⟩
variable {tA tB':TT} {rest:List Expr}
def ah2 (t u:TT):TT:=fun σ H Q=>t σ H fun c H1=>if c=true then u σ H1 Q else Q false H1
def tOr (t u:TT):TT:=fun σ H Q=>t σ H fun c H1=>if c=true then Q true H1 else u σ H1 Q
def ah3 (t:TT):TT:=fun σ H Q=>t σ H fun c H1=>Q (!c) H1
theorem pw_and1 (ha:PT X a tA):PW X (.BoolOp .And [a] pos) tA:=by
 intro wh pins s σ H Q I h;refine isTrue_and (eX (ha pins s σ H Q I h) fun c s1 e=>?_);cases c with
 | true=>exact isTrue_and_nil e
 | false=>exact e
theorem pw_or1 (ha:PT X a tA):PW X (.BoolOp .Or [a] pos) tA:=by
 intro wh pins s σ H Q I h;refine isTrue_or (eX (ha pins s σ H Q I h) fun c s1 e=>?_);cases c with
 | false=>exact isTrue_or_nil e
 | true=>exact e
theorem pw_and (ha:PT X a tA) (hb:PW X (.BoolOp .And (b::rest) pos) tB'):PW X (.BoolOp .And (a::b::rest) pos) (ah2 tA tB'):=by
 intro wh pins s σ H Q I h;refine isTrue_and (eX (ha pins s σ H _ I h) fun c s1 ⟨H1,I1,q1⟩=>?_);cases c with
 | true=>exact hb wh pins s1 σ H1 Q I1 q1
 | false=>exact ⟨H1,I1,q1⟩
theorem pw_or (ha:PT X a tA) (hb:PW X (.BoolOp .Or (b::rest) pos) tB'):PW X (.BoolOp .Or (a::b::rest) pos) (tOr tA tB'):=by
 intro wh pins s σ H Q I h;refine isTrue_or (eX (ha pins s σ H _ I h) fun c s1 ⟨H1,I1,q1⟩=>?_);cases c with
 | true=>exact ⟨H1,I1,q1⟩
 | false=>exact hb wh pins s1 σ H1 Q I1 q1
theorem fu (ha:PT X a tA):PT X (.UnaryOp .Not a pos) (ah3 tA):=by
 intro pins s σ H Q I h;exact isTrue_not (ha pins s σ H (fun c H1=>Q (!c) H1) I h)
def tIf (t:TT) (ta tb:TE):TE:=fun σ H Q=>t σ H fun c H1=>if c=true then ta σ H1 Q else tb σ H1 Q
theorem Aa {c:Expr} (hc:PT X c tA) (ha:PE X a ta) (hb:PE X b tb):PE X (.IfExp c a b pos) (tIf tA ta tb):=by
 intro pins s σ H Q I h;refine wpAny_IfExp (eX (hc pins s σ H _ I h) fun d s1 ⟨H1,I1,q1⟩=>?_);cases d with
 | true=>exact ha pins s1 σ H1 Q I1 q1
 | false=>exact hb pins s1 σ H1 Q I1 q1
end
noncomputable def cU (K:Fg) (H:Hp) (a:aB) (xs:List V):Prop := Rd H a (.lst xs) \/ ∃ (o:Obj) (its:Array aA) (n:Nat),K.lookup a=some o/\o.cls=.type "list"/\o.dict=none/\o.data=.seq its n/\its.size<=sizeLine/\Vals xs its.toList
def gY (K:Fg) (H:Hp) (a:aB) (xs:List V):Prop := Rd H a (.tup xs) \/ ∃ (o:Obj) (its:Array aA) (n:Nat),K.lookup a=some o/\o.cls=.type "tuple"/\o.data=.seq its n/\its.size<=sizeLine/\Vals xs its.toList
noncomputable def ah4:aA->Option V
 | .none=>some .non
 | .bool b=>some (.bl b)
 | .int i _=>some (.int i)
 | .str x _=>some (.str x)
 | .bytes b _=>some (.Gd b)
 | .float b _=>some (.flt b)
 | .ref a=>some (.ref a)
 | .type n=>some (.ty n)
 | _=>none
theorem RelV.abs {x:V} {u:aA} (r:RelV x u):ah4 u=some x:=by
 cases x with
 | non=>cases r; rfl
 | bl _=>cases r; rfl
 | int _=>obtain ⟨t,rfl⟩:=r; rfl
 | str _=>obtain ⟨t,rfl⟩:=r; rfl
 | Gd _=>obtain ⟨t,rfl⟩:=r; rfl
 | flt _=>obtain ⟨t,rfl⟩:=r; rfl
 | ref _=>cases r; rfl
 | ty _=>cases r; rfl
theorem RelV.inj {x y:V} {u:aA} (r:RelV x u) (q:RelV y u):x=y:=bU (r.abs.symm.trans q.abs)
theorem Vals.inj:∀ {xs ys:List V} {us:List aA},Vals xs us->Vals ys us->xs=ys
 | _,_,_,.nil,.nil=>rfl
 | _,_,_,.cons r t,.cons r' t'=>by rw [r.inj r',Vals.inj t t']
section
variable {X:Cx} {pins:List (aB × Obj)} {σ:St} {H:Hp} {s:aM} {a:aB} {xs ys:List V}
theorem cU.of {K:Fg} (h:H a=some (.lst xs)):cU K H a xs:=.inl (.inl h)
theorem gY.of {K:Fg} (h:H a=some (.tup xs)):gY K H a xs:=.inl (.inl h)
theorem Inv.list (I:Inv X pins σ H s) (h:cU X.K H a xs):∃ its:List aA,Vals xs its/\PlainL s.heap a its.toArray/\xs.length<=sizeLine:=by
 rcases h with h | ⟨o,its,n,hk,hc,hd,hs,hz,r⟩
 ·obtain ⟨z,its,n,r,e⟩:=h.ok I.hok;exact ⟨its,r,⟨_,n,e,rfl,rfl,rfl⟩,z⟩
 ·refine ⟨its.toList,r,⟨o,n,I.nj a o hk,hc,hd,by simpa using hs⟩,?_⟩;have e:=r.length;simp only [Array.length_toList] at e;omega
theorem Inv.tuple (I:Inv X pins σ H s) (h:gY X.K H a xs):∃ its:List aA,Vals xs its/\IsTup s.heap a its.toArray/\xs.length<=sizeLine:=by
 rcases h with h | ⟨o,its,n,hk,hc,hs,hz,r⟩
 ·obtain ⟨z,its,r,p⟩:=h.ok I.hok;exact ⟨its,r,p,z⟩
 ·refine ⟨its.toList,r,⟨o,I.nj a o hk,hc,n,by simpa using hs⟩,?_⟩;have e:=r.length;simp only [Array.length_toList] at e;omega
theorem Inv.Ab (I:Inv X pins σ H s) (h:cU X.K H a xs) (h':cU X.K H a ys):xs=ys:=by
 obtain ⟨its,r,⟨o,n,e,_,_,d⟩,_⟩:=I.list h;obtain ⟨its',r',⟨o',n',e',_,_,d'⟩,_⟩:=I.list h';rw [e] at e'; cases e';rw [d] at d';injection d' with d1 _;have:its=its':=by simpa using congrArg Array.toList d1
 subst this;exact r.inj r'
theorem Inv.HB (I:Inv X pins σ H s) (h:gY X.K H a xs) (h':gY X.K H a ys):xs=ys:=by
 obtain ⟨its,r,⟨o,e,_,n,d⟩,_⟩:=I.tuple h;obtain ⟨its',r',⟨o',e',_,n',d'⟩,_⟩:=I.tuple h';rw [e] at e'; cases e';rw [d] at d';injection d' with d1 _;have:its=its':=by simpa using congrArg Array.toList d1
 subst this;exact r.inj r'
end
section
variable {X:Cx} {pins:List (aB × Obj)} {σ:St} {H:Hp} {s:aM} {E:aA->aM->Prop}
end
section
variable {X:Cx} {st:cV} {rest:List cV} {t u:TS} {e:Expr} {te:TE} {pos:Pos}
def adu:TS:=fun D σ H=>D.nx σ H
def ah5 (t u:TS):TS:=fun D σ H=>t { D with nx:=u D } σ H
theorem cA:z9 X [] adu:=fun _ _ σ H _ I h=>wpAny_execs_nil ⟨σ,H,I,h⟩
theorem aG (h1:PS X st t) (h2:z9 X rest u):z9 X (st::rest) (ah5 t u):=by
 intro pins s σ H D I h;refine wpAny_execs_cons (eX (h1 pins s σ H { D with nx:=u D } I h) fun f s1 q=>?_);cases f with
 | next =>
  obtain ⟨σ',H',I',q⟩:=q;exact h2 pins s1 σ' H' D I' q
 | ret v=>exact q
 | brk=>exact q
 | cont=>exact q
theorem aV (h1:PS X st t):z9 X [st] t:=by
 intro pins s σ H D I h;refine wpAny_execs_cons (eX (h1 pins s σ H D I h) fun f s1 q=>?_);cases f with
 | next=>exact wpAny_execs_nil q
 | ret v=>exact q
 | brk=>exact q
 | cont=>exact q
theorem Inv.quiet {pins:List (aB × Obj)} {σ:St} {H:Hp} {s:aM} (I:Inv X pins σ H s):interactive X.env=false:=by simp [interactive,I.ok.kind]
def adv (te:TE):TS:=fun D σ H=>te σ H fun _ H1=>D.nx σ H1
theorem gZ (he:PE X e te) (hs:autoParam (swapsWith e none pos.line X.env=pure false) zau0):PS X (.Expr e pos) (adv te):=by
 intro pins s σ H D I h;exact wpAny_Expr_any (eX (he pins s σ H _ I h) fun v s1 ⟨x,H1,I1,r1,q1⟩=>⟨σ,H1,I1,q1⟩) I.quiet hs
def ah6 (te:TE):TS:=fun D σ H=>te σ H D.rt
theorem cJ (he:PE X e te):PS X (.Return (some e) pos) (ah6 te):=by
 intro pins s σ H D I h;exact wpAny_Return_some (eX (he pins s σ H _ I h) fun v s1 ⟨x,H1,I1,r1,q1⟩=>⟨x,σ,H1,I1,r1,q1⟩)
def ah7 (c:TT) (t u:TS):TS:=fun D σ H=>c σ H fun b H1=>if b=true then t D σ H1 else u D σ H1
theorem dU {c:Expr} {a b:List cV} {tc:TT} (hc:PT X c tc) (ha:z9 X a t) (hb:z9 X b u):PS X (.If c a b pos) (ah7 tc t u):=by
 intro pins s σ H D I h;refine wpAny_If (eX (hc pins s σ H _ I h) fun d s1 ⟨H1,I1,q1⟩=>?_);cases d with
 | true=>exact ha pins s1 σ H1 D I1 q1
 | false=>exact hb pins s1 σ H1 D I1 q1
def JF:TS:=fun _ _ _=>False
theorem uT:PS X st JF:=fun _ _ _ _ _ _ h=>h.elim
theorem wZ {sts:List cV}:z9 X sts JF:=fun _ _ _ _ _ _ h=>h.elim
end
abbrev TG:=V->St->Hp->(St->Hp->Prop)->Prop
abbrev TJ:=List V->St->Hp->(St->Hp->Prop)->Prop
noncomputable def PG (X:Cx) (target:Expr) (t:TG):Prop := ∀ (pins:List (aB × Obj)) (s:aM) (σ:St) (H:Hp) (v:V) (u:aA) (Q:St->Hp->Prop),Inv X pins σ H s->RelV v u->t v σ H Q -> wpAny (model X.prog X.w) X.A (assign target X.env u) (fun _ s'=>∃ σ' H',Inv X pins σ' H' s'/\Q σ' H') X.xe s
noncomputable def PGs (X:Cx) (ts:List Expr) (t:TJ):Prop := ∀ (pins:List (aB × Obj)) (s:aM) (σ:St) (H:Hp) (vs:List V) (us:List aA) (Q:St->Hp->Prop),Inv X pins σ H s->Vals vs us->t vs σ H Q -> wpAny (model X.prog X.w) X.A (assignInOrder ((assignEach ts X.env).map (·.2)) us) (fun _ s'=>∃ σ' H',Inv X pins σ' H' s'/\Q σ' H') X.xe s
abbrev QV:=V->V->V->Hp->(Hp->Prop)->Prop
noncomputable def adx (X:Cx) (t:QV):Prop := ∀ (pins:List (aB × Obj)) (s:aM) (σ:St) (H:Hp) (o i v:V) (ov iv u:aA) (Q:Hp->Prop),Inv X pins σ H s->RelV o ov->RelV i iv->RelV v u->t o i v H Q -> wpAny (model X.prog X.w) X.A (setItem ov iv u) (fun _ s'=>∃ H',Inv X pins σ H' s'/\Q H') X.xe s
section
variable {X:Cx} {pos:Pos}
def Gg (i:Nat):TG:=fun v σ H Q=>Q (σ.set i (some v)) H
theorem QW {i:Nat} {x:Str} (hN:X.N.Nodup) (hi:X.N[i]?=some x) (hx:Loc X.env.scope x) (hf:autoParam (X.fn x=true\/X.env.scope.names.lookup x=some .local) zau2):PG X (.Name x pos) (Gg i):=by
 intro pins s σ H v u Q I r h;exact wpAny_assign_Name (uQ I hN hi hx r (fun s' I'=>⟨_,H,I',h⟩) hf)
def ah8:TJ:=fun vs σ H Q=>vs=[]/\Q σ H
def ady (t:TG) (u:TJ):TJ:=fun vs σ H Q=>∃ v r,vs=v::r/\t v σ H fun σ' H'=>u r σ' H' Q
theorem j6:PGs X [] ah8:=by
 intro pins s σ H vs us Q I r h;obtain ⟨e,h⟩:=h;subst e;cases r;exact assignInOrder_nil ⟨σ,H,I,h⟩
theorem dD {e:Expr} {es:List Expr} {t:TG} {u:TJ} (h1:PG X e t) (h2:PGs X es u) (hs:autoParam ((assignEach (e::es) X.env).map (·.2)=assign e X.env::(assignEach es X.env).map (·.2)) zau0):PGs X (e::es) (ady t u):=by
 intro pins s σ H vs us Q I r h;obtain ⟨v,vr,e1,h⟩:=h;subst e1;cases r with
 | cons r rr =>
  rw [hs];refine assignInOrder_cons (eX (h1 pins s σ H _ _ _ I r h) fun _ s1 ⟨σ1,H1,I1,q1⟩=>?_);exact h2 pins s1 σ1 H1 _ _ Q I1 rr q1
def adz (K:Fg) (n:Nat) (t:TJ):TG:=fun v σ H Q=>∃ a xs,v=.ref a/\gY K H a xs/\xs.length=n/\t xs σ H Q
theorem yJ {es:List Expr} {k:Nat} {t:TJ} {n:Nat} (hc:X.calm=true) (h:PGs X es t) (hn:autoParam ((assignEach es X.env).length=n) zau0) (hst:autoParam ((assignEach es X.env).findIdx? (·.1)=none) zau0):PG X (.Tuple es k pos) (adz X.K n t):=by
 intro pins s σ H v u Q I r hw;obtain ⟨a,xs,e1,hq,hl,hw⟩:=hw;subst e1;cases r;obtain ⟨its,rv,ht,hz⟩:=I.tuple hq;refine assign_Tuple_tuple (I.ok.hd hc) ht (by simp [hn,<- hl,rv.length]) hst fun h' hx=>?_
 have I1:Inv X pins σ H { s with heap:=h' }:=I.kept (t':=s.toks) fun b o e=>hx b o (Nat.ne_of_lt (Heap.lt_size e)) e
 exact h pins _ σ H xs _ Q I1 (by simpa using rv) hw
def ah9 (to ti:TE) (t:QV):TG:=fun v σ H Q=>to σ H fun o H1=>ti σ H1 fun i H2=>t o i v H2 fun H3=>Q σ H3
theorem YS {o i:Expr} {to ti:TE} {t:QV} (ho:PE X o to) (hi:PE X i ti) (hs:adx X t) (ha:autoParam (∀ v,assign (.Subscript o i pos) X.env v=(do
  let ov <- holding [v] (eval o X.env)
  let iv <- holding [v,ov] (eval i X.env)
  standAt pos
  holding [v,ov,iv] (setItem ov iv v)
  release [v,ov,iv] [])) zau3):PG X (.Subscript o i pos) (ah9 to ti t):=by
 intro pins s σ H v u Q I r h;rw [ha];refine aj (wpAny_holding (eX (ho pins s σ H _ I h) fun ov s1 ⟨x,H1,I1,r1,q1⟩=>?_));refine aj (wpAny_holding (eX (hi pins s1 σ H1 _ I1 q1) fun iv s2 ⟨y,H2,I2,r2,q2⟩=>?_));refine aj (wpAny_standAt (aj (wpAny_holding (eX (hs pins s2 σ H2 x y v ov iv u _ I2 r1 r2 r q2) fun _ s3 ⟨H3,I3,q3⟩=>?_))));exact wpAny_release ⟨σ,H3,I3,q3⟩
def YT (te:TE) (g:TG):TS:=fun D σ H=>te σ H fun x H1=>g x σ H1 D.nx
theorem YW {tg e:Expr} {te:TE} {g:TG} (he:PE X e te) (hg:PG X tg g) (hs:autoParam (swapsWithSole [tg] e pos.line X.env=pure false) zau0) (hw:autoParam (swappedStores [tg] e X.env=pure none) zau0) (h1:autoParam ((assignEach [tg] X.env).map (·.2)=[assign tg X.env]) zau0):PS X (.Assign [tg] e pos) (YT te g):=by
 intro pins s σ H D I h;refine wpAny_Assign_stores (eX (he pins s σ H _ I h) fun v s1 ⟨x,H1,I1,r1,q1⟩=>?_) hs hw;rw [h1];exact eX (hg pins s1 σ H1 x v _ I1 r1 q1) fun _ s2 q=>q
theorem bK {i:Nat} {x:Str} {e:Expr} {te:TE} {pos':Pos} (hN:X.N.Nodup) (hi:X.N[i]?=some x) (hx:Loc X.env.scope x) (he:PE X e te) (hs:autoParam (swapsWith e (some (.Name x pos')) pos.line X.env=pure false) zau0) (hf:autoParam (X.fn x=true\/X.env.scope.names.lookup x=some .local) zau2) : PS X (.Assign [.Name x pos'] e pos) (YT te (Gg i)):=by
 intro pins s σ H D I h;refine wpAny_Assign_Name (eX (he pins s σ H _ I h) fun v s1 ⟨y,H1,I1,r1,q1⟩=>?_) hs;exact uQ I1 hN hi hx r1 (fun s2 I2=>⟨_,H1,I2,q1⟩) hf
end
section
variable {X:Cx} {pos:Pos}
end
structure It where
 go:Nat->Hp->Prop
 Ju:Nat->Hp->V->Hp->Prop
 stop:Nat->Hp->Prop
def pC (X:Cx) (pins:List (aB × Obj)) (H:Hp) (b:aB):Prop := H b=none/\b≠X.env.locals/\b ∉ X.fs/\(b ∈ X.ex\/X.s₀.heap.objs.size<=b)/\(∀ x c,X.env.cells.lookup x=some c->c≠b)/\∀ p ∈ X.pn++pins,p.1≠b
theorem Inv.QX {X:Cx} {pins:List (aB × Obj)} {σ:St} {H H':Hp} {s:aM} {b:aB} (I:Inv X pins σ H s) (hb:s.heap.objs.size<=b) (hn:H' b=none):pC X pins H' b:=by
 refine ⟨hn,Nat.ne_of_gt (aZ I.lt hb),I.ahZ hb,.inr (bw I.sz hb),fun x c e z=>?_,fun p hp z=>?_⟩
 ·obtain ⟨v,q⟩:=I.cell x c e;exact absurd (aZ q.lt (by rw [z]; exact hb)) (cX _)
 ·exact absurd (aZ (Heap.lt_size (I.pin p hp).1) (by rw [z]; exact hb)) (cX _)
structure Turn (P:cg) (w:World) (K:Fg) (tg:Expr) (J:It) (fp:List aB) (it:aB) (tn:Nat->Heap->Prop):Prop where
 mem:it ∈ fp
 obj:∀ i h,tn i h->∀ b ∈ fp,∃ o,h.get? b=some o/\∀ v,o.data≠.cell v
 keep:∀ i h h',tn i h->(∀ b ∈ fp,∀ o,h.get? b=some o->h'.get? b=some o)->tn i h'
 item:∀ (X:Cx),X.prog=P->X.w=w->X.K=K->X.calm=true->∀ (i:Nat) (pins:List (aB × Obj)) (s:aM) (σ:St) (H:Hp) (E:aA->aM->Prop),Inv X pins σ H s->(∀ b ∈ fp,pC X pins H b)->tn i s.heap->J.go i H -> wpAny (model P w) X.A (pyNext (.ref it)) (fun r s1=>∃ u,r=some u /\ wpAny (model P w) X.A (letOwnedTupleGo tg (.ref it) u) (fun _ s2=>∃ x H',Inv X pins σ H' s2/\RelV x u/\J.Ju i H x H'/\tn (i + 1) s2.heap/\∀ b ∈ fp,H' b=none) E s1) E s
 done:∀ (X:Cx),X.prog=P->X.w=w->X.K=K->X.calm=true->∀ (i:Nat) (pins:List (aB × Obj)) (s:aM) (σ:St) (H:Hp) (E:aA->aM->Prop),Inv X pins σ H s->(∀ b ∈ fp,pC X pins H b)->tn i s.heap->J.stop i H -> wpAny (model P w) X.A (pyNext (.ref it)) (fun r s1=>r=none/\Inv X pins σ H s1) E s
 self:∀ (A:cW) (i:Nat) (s:aM) (Q:aA->aM->Prop) (E:aA->aM->Prop),tn i s.heap->Q (.ref it) s->wpAny (model P w) A (pyIter (.ref it)) Q E s
abbrev TI:=St->Hp->(It->Hp->Prop)->Prop
noncomputable def PIE (X:Cx) (pins:List (aB × Obj)) (σ:St) (tg:Expr) (R:It->Hp->Prop) (itv:aA) (s2:aM):Prop := ∃ (it:aB) (fp:List aB) (tn:Nat->Heap->Prop) (J:It) (H':Hp),itv=.ref it/\Inv X pins σ H' s2/\Turn X.prog X.w X.K tg J fp it tn/\tn 0 s2.heap/\(∀ b ∈ fp,pC X pins H' b)/\R J H'
noncomputable def PI (X:Cx) (tg iter:Expr) (wi:TI):Prop := ∀ (pins:List (aB × Obj)) (s:aM) (σ:St) (H:Hp) (R:It->Hp->Prop),Inv X pins σ H s->wi σ H R -> wpAny (model X.prog X.w) X.A (eval iter X.env) (fun v s1=>wpAny (model X.prog X.w) X.A (pyIter v) (PIE X pins σ tg R) X.xe s1) X.xe s
theorem TQ {M:Model} {A:cW} {E:aA->aM->Prop} {s:aM} {tg:Expr} {it:aB} {u:aA} {o:Obj} {n:String} {vs:Array aA} {Q:Unit->aM->Prop} (ho:s.heap.get? it=some o) (hc:o.cls=.type n) (hd:o.data=.fields vs) (hn:["enumerate","zip","dict_itemiterator","dict_reverseitemiterator","odict_iterator","itertools.zip_longest","itertools.pairwise"].contains n=false) (hQ:Q () s):wpAny M A (letOwnedTupleGo tg (.ref it) u) Q E s:=by
 unfold letOwnedTupleGo;cases tg <;> first
  | exact ak hQ
  | (cases u <;> first
   | exact ak hQ
   | (
    refine aj (wpAny_load ho (?_));rw [hc,hd]
    show wpAny M A (if (["enumerate","zip","dict_itemiterator","dict_reverseitemiterator","odict_iterator","itertools.zip_longest","itertools.pairwise"].contains n && vs[0]? == some (rawInt _))=true then _ else _) Q E s
    rw [if_neg (by intro h; rw [hn,Bool.false_and] at h; cases h)];exact ak hQ))
def N8 (K:Fg) (a:aB):It := ⟨fun i H=>∃ xs x,cU K H a xs/\xs[i]?=some x,fun i H x H'=>H'=H/\∀ xs,cU K H a xs->xs[i]?=some x,fun i H=>∃ xs,cU K H a xs/\xs.length<=i⟩
def YX (lo:Int) (n:Nat):It:=⟨fun i _=>i < n,fun i H x H'=>H'=H/\x=.int (lo + i),fun i _=>n<=i⟩
theorem HD {P:cg} {w:World} {K:Fg} {tg:Expr} (a it:aB):Turn P w K tg (N8 K a) [it] it (fun i h=>h.IsListIter it a i) where
 mem:=by simp
 obj:=fun i h st b hb=>by
  have e:b=it:=by simpa using hb
  subst e;obtain ⟨o,e,c,d⟩:=st;exact ⟨o,e,fun v z=>by rw [d] at z; cases z⟩
 keep:=fun i h h' st k=>st.at fun o e=>k it (by simp) o e
 item:=by
  intro X hP hw hK hc i pins s σ H E I hf st hg;subst hP hw hK;obtain ⟨xs,x,hq,hx⟩:=hg;obtain ⟨its,rv,p,hz⟩:=I.list hq;obtain ⟨u,hu,ru⟩:=rv.get hx;obtain ⟨f0,f1,f2,f3,f4,f5⟩:=hf it (by simp);refine wpAny_pyNext_list_item st p.isList (x:=u) (by simpa using hu) fun h' st' sb=>?_
  have I1:Inv X pins σ H { s with heap:=h' }:=I.turned (t':=s.toks) (fun b o hb e=>(sb.2 b hb).trans e) f0 f1 f3 f4 f5;obtain ⟨o,e,c,d⟩:=id st';exact ⟨u,rfl,TQ (s:={ s with heap:=h' }) e c d (by decide) ⟨x,H,I1,ru,⟨rfl,fun ys hy=>by rw [I.Ab hy hq]; exact hx⟩,st',fun b hb=>(hf b hb).1⟩⟩
 done:=by
  intro X hP hw hK hc i pins s σ H E I hf st hg;subst hP hw hK;obtain ⟨xs,hq,hx⟩:=hg;obtain ⟨its,rv,p,hz⟩:=I.list hq;obtain ⟨f0,f1,f2,f3,f4,f5⟩:=hf it (by simp);have hl:=rv.length;exact wpAny_pyNext_list_end (I.ok.hd hc) st p.isList (by simp; omega) fun h' eb=>⟨rfl,I.turned (t':=s.toks) (fun b o hb e=>eb b o hb e) f0 f1 f3 f4 f5⟩
 self:=fun _ _ _ _ _ st h=>wpAny_pyIter_listiter st h
theorem CZ {P:cg} {w:World} {K:Fg} {tg:Expr} (it:aB) (lo:Int) (n:Nat):Turn P w K tg (YX lo n) [it] it (fun i h=>IsRangeIter h it (lo + (i:Nat) * 1) ((n:Int) - (i:Nat)) 1) where
 mem:=by simp
 obj:=fun i h st b hb=>by
  have e:b=it:=by simpa using hb
  subst e;exact ⟨_,st,fun v z=>by
   have z':Data.fields _=Data.cell v:=z;cases z'⟩
 keep:=fun i h h' st k=>k it (by simp) _ st
 item:=by
  intro X hP hw hK hc i pins s σ H E I hf st hg;subst hP hw hK;obtain ⟨f0,f1,f2,f3,f4,f5⟩:=hf it (by simp);have W:=Walks.range (prog:=X.prog) (w:=X.w) (I.ok.hd hc) it lo 1 n;refine W.item i s _ _ hg st fun v h' tk hv st' kk=>?_
  obtain ⟨t,rfl⟩:=hv;have I1:Inv X pins σ H { s with heap:=h',toks:=tk }:=I.turned (fun b o hb e=>kk b o (by simpa using hb) e) f0 f1 f3 f4 f5;refine ⟨_,rfl,TQ (s:={ s with heap:=h',toks:=tk }) (n:="range_iterator") st' rfl rfl (by decide) ⟨.int (lo + i),H,I1,⟨t,?_⟩,⟨rfl,rfl⟩,st',fun b hb=>(hf b hb).1⟩⟩;rw [Int.mul_one]
 done:=by
  intro X hP hw hK hc i pins s σ H E I hf st hg;subst hP hw hK;obtain ⟨f0,f1,f2,f3,f4,f5⟩:=hf it (by simp);exact wpAny_pyNext_range_end (I.ok.hd hc) st (by have:n<=i:=hg; omega) fun h' eb=>⟨rfl,I.turned (t':=s.toks) (fun b o hb e=>eb b o hb e) f0 f1 f3 f4 f5⟩
 self:=fun _ _ _ _ _ st h=>wpAny_pyIter_rangeiter st h
section
variable {X:Cx} {tg:Expr}
def adA (K:Fg) (tl:TE):TI:=fun σ H R=>tl σ H fun x H1=>∃ a,x=.ref a/\(∃ xs,cU K H1 a xs)/\R (N8 K a) H1
theorem eE {l:Expr} {tl:TE} (hl:PE X l tl):PI X tg l (adA X.K tl):=by
 intro pins s σ H R I h;refine eX (hl pins s σ H _ I h) fun v s1 ⟨x,H1,I1,r1,q1⟩=>?_
 obtain ⟨a,e,⟨xs,hq⟩,q⟩:=q1;subst e;cases r1;obtain ⟨its,rv,p,hz⟩:=I1.list hq;refine wpAny_pyIter_list p.isList ?_;refine ⟨s1.heap.objs.size,[s1.heap.objs.size],_,_,H1,rfl,I1.kept (t':=s1.toks) fun b o e=>au _ e,HD a _,⟨_,aC _ rfl,rfl,rfl⟩,fun b hb=>?_,q⟩;have e:b=s1.heap.objs.size:=by simpa using hb
 subst e;exact I1.QX (aJ _) (I1.hok.fresh (aJ _))
theorem JG {pins:List (aB × Obj)} {σ:St} {H:Hp} {s:aM} {R:It->Hp->Prop} {E:aA->aM->Prop} {lo hi:Int} {t u v:Tok} {tk:Nat} (I:Inv X pins σ H s) (h1:-(2 ^ 62)<=lo) (h2:lo < 2 ^ 62) (h3:-(2 ^ 62)<=hi) (h4:hi < 2 ^ 62) (q:R (YX lo (hi - lo).toNat) H):wpAny (model X.prog X.w) X.A (pyIter (.ref s.heap.objs.size)) (PIE X pins σ tg R) E { s with heap:=s.heap.push { cls:=.type "range",data:=.fields #[.int lo t,.int hi u,.int 1 v] },toks:=tk }:=by
 refine wpAny_pyIter_range (IsRange.new ..) (small_one h1 h2 h3 h4) ?_;have I1:Inv X pins σ H { s with heap:=s.heap.push { cls:=.type "range",data:=.fields #[.int lo t,.int hi u,.int 1 v] },toks:=tk }:=I.kept fun b o e=>au _ e
 refine ⟨(s.heap.push { cls:=.type "range",data:=.fields #[.int lo t,.int hi u,.int 1 v] }).objs.size,[(s.heap.push { cls:=.type "range",data:=.fields #[.int lo t,.int hi u,.int 1 v] }).objs.size],_,_,H,rfl,I1.kept (t':=tk) fun b o e=>au _ e,CZ _ lo (hi - lo).toNat,?_,fun b hb=>?_,q⟩
 ·have e1:lo + ((0:Nat):Int) * 1=lo:=by simp
  have e2:(((hi - lo).toNat:Nat):Int) - ((0:Nat):Int)=Builtin.Range.rangeSize lo hi 1:=by rw [rangeSize_one]; split <;> omega
  show IsRangeIter _ _ (lo + ((0:Nat):Int) * 1) ((((hi - lo).toNat:Nat):Int) - ((0:Nat):Int)) 1
  rw [e1,e2];exact aC _ rfl
 ·have e:b=(s.heap.push { cls:=.type "range",data:=.fields #[.int lo t,.int hi u,.int 1 v] }).objs.size:=by simpa using hb
  subst e;exact I1.QX (aJ _) (I1.hok.fresh (aJ _))
def adB (ta:TA):TI:=fun σ H R=>ta σ H fun vs H1=>∃ j:Int,vs=[.int j]/\-(2 ^ 62)<=j/\j < 2 ^ 62/\R (YX 0 j.toNat) H1
theorem iy {a:Expr} {ta:TA} {p pos:Pos} (hg:Gl X "range") (hm:X.mg "range"=none) (ha:PA X [a] ta) (hs:autoParam (starEach [a] X.env=[(false,eval a X.env)]) zau0):PI X tg (.Call (.Name "range" p) [a] [] pos) (adB ta):=by
 intro pins s σ H R I h;refine Call_ (uR I hg hm boot_range (callWith_type1 (eX (ha pos pins s σ H _ I h) fun us s1 ⟨vs,H1,I1,r1,q1⟩=>?_) hs rfl));obtain ⟨j,e,q1,q2,q⟩:=q1;subst e;cases r1 with
 | cons r rr =>
  cases rr;obtain ⟨t,rfl⟩:=r;exact call_range_1 (JG I1 (by omega) (by omega) q1 q2 (by simpa using q))
noncomputable def aia (wi:TI) (g:TG) (tb:TS):TS:=fun D σ H=>wi σ H fun J H1=>∃ W:Nat->Nat->St->Hp->Prop,(∃ m,W 0 m σ H1)/\∀ i m σ H,W i m σ H -> (J.stop i H/\D.nx σ H)\/(J.go i H/\∃ N:St->Hp->Prop,(∀ σ' H',N σ' H'->∃ m',m' < m/\W (i + 1) m' σ' H')/\∀ x H',J.Ju i H x H'->g x σ H' fun σ2 H2=>tb { D with nx:=N,ct:=N,bk:=D.nx } σ2 H2)
def nu (fp:List aB) (h:Heap):List (aB × Obj):=fp.filterMap fun b=>(h.get? b).map fun o=>(b,o)
theorem lK {fp:List aB} {h:Heap} {b:aB} {o:Obj} (hb:b ∈ fp) (e:h.get? b=some o):(b,o) ∈ nu fp h:=List.mem_filterMap.mpr ⟨b,hb,by rw [e]; rfl⟩
theorem HF {fp:List aB} {h:Heap} {p:aB × Obj} (hp:p ∈ nu fp h):p.1 ∈ fp/\h.get? p.1=some p.2:=by
 obtain ⟨b,hb,e⟩:=List.mem_filterMap.mp hp;cases q:h.get? b with
 | none=>rw [q] at e; cases e
 | some o =>
  rw [q] at e;have e':(b,o)=p:=bU e;subst e';exact ⟨hb,q⟩
theorem Inv.pinned {pins:List (aB × Obj)} {σ:St} {H:Hp} {s:aM} {fp:List aB} (I:Inv X pins σ H s) (hf:∀ b ∈ fp,pC X pins H b) (ho:∀ b ∈ fp,∃ o,s.heap.get? b=some o/\∀ v,o.data≠.cell v):Inv X (pins++nu fp s.heap) σ H s := I.Ge fun p hp=>(bQ.mp hp).elim (fun z=>I.pin p (mem_append_right _ z)) fun z=>by
 obtain ⟨hb,e⟩:=HF z;obtain ⟨f0,f1,f2,_⟩:=hf p.1 hb;obtain ⟨o,e',d⟩:=ho p.1 hb;rw [e] at e'; cases e';exact ⟨e,f0,f1,f2,d⟩
theorem Inv.qF {pins pl:List (aB × Obj)} {σ:St} {H:Hp} {s:aM} (I:Inv X (pins++pl) σ H s):Inv X pins σ H s:=I.Ge fun p hp=>I.pin p (mem_append_right _ (mem_append_left _ hp))
theorem jE {iter:Expr} {body:List cV} {wi:TI} {g:TG} {tb:TS} {pos:Pos} (hp:PassesOwn (model X.prog X.w) X.A X.env X.xe) (hc:X.calm=true) (hi:PI X tg iter wi) (hg:PG X tg g) (hb:z9 X body tb) (hs:autoParam (∀ x,foldedSetIterable iter X.env x=pure x) zau3):PS X (.For tg iter body [] pos) (aia wi g tb):=by
 intro pins s σ H D I h;refine wpAny_For (eX (hi pins s σ H _ I h) fun v s1 h1=>eX h1 fun itv s2 h2=>?_) hs;obtain ⟨it,fp,tn,J,H2,e,I2,T,st2,f2,W,⟨m0,w0⟩,turn⟩:=h2;subst e;have stat:∀ {H':Hp},(∀ b ∈ fp,H' b=none)->∀ b ∈ fp,pC X pins H' b:=fun hn b hb=>⟨hn b hb,(f2 b hb).2⟩
 refine codeAny_forLoop_any (fun n s'=>∃ i σ' H',Inv X pins σ' H' s'/\tn i s'.heap/\(∀ b ∈ fp,H' b=none)/\W i n σ' H') ?_ m0 ⟨0,σ,H2,I2,st2,fun b hb=>(f2 b hb).1,w0⟩;rintro n s3 ⟨i,σ3,H3,I3,st3,fr3,w3⟩;rcases turn i n σ3 H3 w3 with ⟨stop,qn⟩ | ⟨go,N,hN,step⟩
 ·refine wpAny_passesOwn hp (eX (T.done X rfl rfl rfl hc i pins s3 σ3 H3 X.xe I3 (stat fr3) st3 stop) fun r s4 ⟨hr,I4⟩=>?_);subst hr;exact wpAny_execs_nil ⟨σ3,H3,I4,qn⟩
 ·refine wpAny_passesOwn hp (eX (T.item X rfl rfl rfl hc i pins s3 σ3 H3 X.xe I3 (stat fr3) st3 go) fun r s4 ⟨u,hr,h4⟩=>?_);subst hr;refine wpAny_passesOwn hp (eX h4 fun _ s5 ⟨x,H5,I5,r5,y5,st5,fr5⟩=>?_);have I5':=I5.pinned (stat fr5) (T.obj _ _ st5);refine wpAny_passesOwn hp (eX (hg _ s5 σ3 H5 x u _ I5' r5 (step x H5 y5)) fun _ s6 ⟨σ6,H6,I6,q6⟩=>?_);refine wpAny_passesOwn hp (eX (hb _ s6 σ6 H6 _ I6 q6) fun f s7 q7=>?_);have again:∀ {σ7:St} {H7:Hp},Inv X (pins++nu fp s5.heap) σ7 H7 s7->N σ7 H7->∃ m,m < n/\∃ i σ' H',Inv X pins σ' H' s7/\tn i s7.heap/\(∀ b ∈ fp,H' b=none)/\W i m σ' H':=fun {σ7 H7} I7 n7=>by
   obtain ⟨m',hm,w7⟩:=hN σ7 H7 n7;refine ⟨m',hm,i + 1,σ7,H7,I7.qF,T.keep _ _ _ st5 fun b hb o e=>(I7.pin (b,o) (mem_append_right _ (mem_append_right _ (lK hb e)))).1,fun b hb=>?_,w7⟩;obtain ⟨o,e,d⟩:=T.obj _ _ st5 b hb;exact (I7.pin (b,o) (mem_append_right _ (mem_append_right _ (lK hb e)))).2.1
  cases f with
  | next=>obtain ⟨σ7,H7,I7,n7⟩:=q7; exact again I7 n7
  | cont=>obtain ⟨σ7,H7,I7,n7⟩:=q7; exact again I7 n7
  | brk=>obtain ⟨σ7,H7,I7,q7⟩:=q7; exact ⟨σ7,H7,I7.qF,q7⟩
  | ret v=>obtain ⟨x7,σ7,H7,I7,r7,q7⟩:=q7; exact ⟨x7,σ7,H7,I7.qF,r7,q7⟩
end
theorem nH {K:Fg} {a:aB} {xs:List V} {g:TG} {tb:TS} {D:Ends} {σ:St} {H:Hp} (Pv:Nat->St->Hp->Prop) (h0:Pv 0 σ H) (hl:∀ i σ H,i<=xs.length->Pv i σ H->cU K H a xs) (hs:∀ i x σ H,xs[i]?=some x->Pv i σ H->g x σ H fun σ2 H2=>tb { D with nx:=Pv (i + 1),ct:=Pv (i + 1),bk:=D.nx } σ2 H2) (hd:∀ σ H,Pv xs.length σ H->D.nx σ H) : ∃ W:Nat->Nat->St->Hp->Prop,(∃ m,W 0 m σ H)/\∀ i m σ H,W i m σ H -> ((N8 K a).stop i H/\D.nx σ H)\/((N8 K a).go i H/\∃ N:St->Hp->Prop,(∀ σ' H',N σ' H'->∃ m',m' < m/\W (i + 1) m' σ' H')/\∀ x H',(N8 K a).Ju i H x H'->g x σ H' fun σ2 H2=>tb { D with nx:=N,ct:=N,bk:=D.nx } σ2 H2):=by
 refine ⟨fun i m σ H=>m=xs.length - i/\i<=xs.length/\Pv i σ H,⟨xs.length,by simp,dR _,h0⟩,?_⟩;rintro i m σ H ⟨rfl,hi,p⟩;have q:=hl i σ H hi p
 by_cases hlt:i < xs.length
 ·refine .inr ⟨⟨xs,xs[i],q,by simp [hlt]⟩,Pv (i + 1),fun σ' H' p'=>⟨xs.length - (i + 1),by omega,rfl,hlt,p'⟩,fun x H' y=>?_⟩;obtain ⟨e,y⟩:=y;subst e;exact hs i x σ _ (y xs q) p
 ·have e:i=xs.length:=by omega
  subst e;exact .inl ⟨⟨xs,q,aJ _⟩,hd σ H p⟩
theorem jC {lo:Int} {n:Nat} {g:TG} {tb:TS} {D:Ends} {σ:St} {H:Hp} (Pv:Nat->St->Hp->Prop) (h0:Pv 0 σ H) (hs:∀ i σ H,i < n->Pv i σ H->g (.int (lo + i)) σ H fun σ2 H2=>tb { D with nx:=Pv (i + 1),ct:=Pv (i + 1),bk:=D.nx } σ2 H2) (hd:∀ σ H,Pv n σ H->D.nx σ H) : ∃ W:Nat->Nat->St->Hp->Prop,(∃ m,W 0 m σ H)/\∀ i m σ H,W i m σ H -> ((YX lo n).stop i H/\D.nx σ H)\/((YX lo n).go i H/\∃ N:St->Hp->Prop,(∀ σ' H',N σ' H'->∃ m',m' < m/\W (i + 1) m' σ' H')/\∀ x H',(YX lo n).Ju i H x H'->g x σ H' fun σ2 H2=>tb { D with nx:=N,ct:=N,bk:=D.nx } σ2 H2):=by
 refine ⟨fun i m σ H=>m=n - i/\i<=n/\Pv i σ H,⟨n,by simp,dR _,h0⟩,?_⟩;rintro i m σ H ⟨rfl,hi,p⟩
 by_cases hlt:i < n
 ·refine .inr ⟨hlt,Pv (i + 1),fun σ' H' p'=>⟨n - (i + 1),by omega,rfl,hlt,p'⟩,fun x H' y=>?_⟩;obtain ⟨e,y⟩:=y;subst e y;exact hs i σ _ hlt p
 ·have e:i=n:=by omega
  subst e;exact .inl ⟨aJ _,hd σ H p⟩
abbrev R2:=V->V->Hp->VK->Prop
noncomputable def pD (X:Cx) (f:aA->aA->Sem aA) (r:R2):Prop := ∀ (pins:List (aB × Obj)) (s:aM) (σ:St) (H:Hp) (x y:V) (v u:aA) (Q:VK),Inv X pins σ H s->RelV x v->RelV y u->r x y H Q -> wpAny (model X.prog X.w) X.A (f v u) (EP X pins σ Q) X.xe s
noncomputable def UnR (X:Cx) (f:aA->Sem aA) (r:V->Hp->VK->Prop):Prop := ∀ (pins:List (aB × Obj)) (s:aM) (σ:St) (H:Hp) (x:V) (v:aA) (Q:VK),Inv X pins σ H s->RelV x v->r x H Q -> wpAny (model X.prog X.w) X.A (f v) (EP X pins σ Q) X.xe s
noncomputable def gq (X:Cx) (f:aA) (r:List V->Hp->VK->Prop):Prop := ∀ (pins:List (aB × Obj)) (s:aM) (σ:St) (H:Hp) (xs:List V) (us:List aA) (Q:VK),Inv X pins σ H s->Vals xs us->r xs H Q -> wpAny (model X.prog X.w) X.A (call f us) (EP X pins σ Q) X.xe s
noncomputable def aic (X:Cx) (r:V->Hp->(Bool->Hp->Prop)->Prop):Prop := ∀ (pins:List (aB × Obj)) (s:aM) (σ:St) (H:Hp) (x:V) (v:aA) (Q:Bool->Hp->Prop),Inv X pins σ H s->RelV x v->r x H Q -> wpAny (model X.prog X.w) X.A (truthy v) (TP X pins σ Q) X.xe s
def tOp (r:R2) (ta tb:TE):TE:=fun σ H Q=>ta σ H fun x H1=>tb σ H1 fun y H2=>r x y H2 Q
def tUn (r:V->Hp->VK->Prop) (ta:TE):TE:=fun σ H Q=>ta σ H fun x H1=>r x H1 Q
def rI (C:Int->Int->Prop) (g:Int->Int->V):R2:=fun x y H Q=>∃ i j,x=.int i/\y=.int j/\C i j/\Q (g i j) H
def QZ (g:Int->Int->V):R2:=fun x y H Q=>∃ i j,x=.int i/\y=.int j/\Q (g i j) H
def rU (g:Int->V):V->Hp->VK->Prop:=fun x H Q=>∃ i,x=.int i/\Q (g i) H
section
variable {X:Cx} {a b c:Expr} {ta tb tc:TE} {pos:Pos}
theorem YZ (ha:PE X a ta) (hb:PE X b tb) {pins:List (aB × Obj)} {s:aM} {σ:St} {H:Hp} {R:V->V->Hp->Prop} (I:Inv X pins σ H s) (h:ta σ H fun x H1=>tb σ H1 fun y H2=>R x y H2) {Q:aA->aM->Prop} {f:aA->aA->Sem aA} (hf:∀ v u s2 x y H2,Inv X pins σ H2 s2->RelV x v->RelV y u->R x y H2->wpAny (model X.prog X.w) X.A (f v u) Q X.xe s2) : wpAny (model X.prog X.w) X.A (eval a X.env) (fun v s₁=>wpAny (model X.prog X.w) X.A (eval b X.env) (fun u s₂=>wpAny (model X.prog X.w) X.A (f v u) Q X.xe s₂) X.xe s₁) X.xe s:=by
 refine eX (ha pins s σ H _ I h) fun v s1 ⟨x,H1,I1,r1,q1⟩=>?_
 refine eX (hb pins s1 σ H1 _ I1 q1) fun u s2 ⟨y,H2,I2,r2,q2⟩=>?_
 exact hf v u s2 x y H2 I2 r1 r2 q2
theorem bB {op:Operator} {r:R2} (ho:pD X (binaryOp op) r) (ha:PE X a ta) (hb:PE X b tb):PE X (.BinOp a op b pos) (tOp r ta tb):=by
 intro pins s σ H Q I h;exact wpAny_BinOp (YZ ha hb I h fun v u s2 x y H2 I2 rx ry q=>ho pins s2 σ H2 x y v u Q I2 rx ry q)
theorem Gh {op:UnaryOp} {r:V->Hp->VK->Prop} (ho:UnR X (unaryOp op) r) (ha:PE X a ta):PE X (.UnaryOp op a pos) (tUn r ta):=by
 intro pins s σ H Q I h;exact UnaryOp_ (eX (ha pins s σ H _ I h) fun v s1 ⟨x,H1,I1,r1,q1⟩=>ho pins s1 σ H1 x v Q I1 r1 q1)
theorem opI {f:aA->aA->Sem aA} {C:Int->Int->Prop} {g:Int->Int->Int} (rule:∀ (i j:Int) (t u:Tok) (s:aM) (Q:aA->aM->Prop) (E:aA->aM->Prop),C i j->Q (.int (g i j) s.toks) { s with toks:=s.toks + 1 }->wpAny (model X.prog X.w) X.A (f (.int i t) (.int j u)) Q E s) : pD X f (rI C fun i j=>.int (g i j)):=by
 intro pins s σ H x y v u Q I rx ry h;obtain ⟨i,j,rfl,rfl,hc,q⟩:=h;obtain ⟨t,rfl⟩:=rx;obtain ⟨t',rfl⟩:=ry;exact rule i j t t' s _ _ hc ⟨.int (g i j),H,I.tok _,⟨_,rfl⟩,q⟩
theorem Y4 {f:aA->aA->Sem aA} {g:Int->Int->Int} (rule:∀ (i j:Int) (t u:Tok) (s:aM) (Q:aA->aM->Prop) (E:aA->aM->Prop),Q (.int (g i j) s.toks) { s with toks:=s.toks + 1 }->wpAny (model X.prog X.w) X.A (f (.int i t) (.int j u)) Q E s) : pD X f (QZ fun i j=>.int (g i j)):=by
 intro pins s σ H x y v u Q I rx ry h;obtain ⟨i,j,rfl,rfl,q⟩:=h;obtain ⟨t,rfl⟩:=rx;obtain ⟨t',rfl⟩:=ry;exact rule i j t t' s _ _ ⟨.int (g i j),H,I.tok _,⟨_,rfl⟩,q⟩
theorem Q0 {f:aA->aA->Sem aA} {g:Int->Int->Bool} (rule:∀ (i j:Int) (t u:Tok) (s:aM) (Q:aA->aM->Prop) (E:aA->aM->Prop),Q (.bool (g i j)) s->wpAny (model X.prog X.w) X.A (f (.int i t) (.int j u)) Q E s) : pD X f (QZ fun i j=>.bl (g i j)):=by
 intro pins s σ H x y v u Q I rx ry h;obtain ⟨i,j,rfl,rfl,q⟩:=h;obtain ⟨t,rfl⟩:=rx;obtain ⟨t',rfl⟩:=ry;exact rule i j t t' s _ _ ⟨.bl (g i j),H,I,rfl,q⟩
def aie (i j:Int):Prop:=0 < j/\j < 1073741824
def aif (i j:Int):Prop:=0<=j/\j<=1000000/\i.natAbs < 2 ^ 64
def Y5 (i j:Int):Prop:=(-(2 ^ 64) < i/\i < 2 ^ 64)\/(-(2 ^ 64) < j/\j < 2 ^ 64)
theorem Y5.ok {i j:Int} (h:Y5 i j):IntMulOk i j:=by
 rcases h with ⟨h1,h2⟩ | ⟨h1,h2⟩
 ·exact .of_left (intBits_le_64 h1 h2)
 ·exact .of_right (intBits_le_64 h1 h2)
theorem Dc (k:Nat):(0:Int)<=2 ^ k:=by
 rw [two_pow_cast];exact Int.natCast_nonneg _
theorem dY:pD X (binaryOp .Add) (QZ fun i j=>.int (i + j)):=Y4 fun _ _ _ _ _ _ _ q=>add_int q
theorem Dd:pD X (binaryOp .Sub) (QZ fun i j=>.int (i - j)):=Y4 fun _ _ _ _ _ _ _ q=>sub_int q
theorem yK:pD X (binaryOp .Mult) (rI Y5 fun i j=>.int (i * j)):=opI fun _ _ _ _ _ _ _ hc q=>mul_int q hc.ok
theorem gK:pD X (binaryOp .FloorDiv) (rI aie fun i j=>.int (i / j)):=opI fun i j _ _ _ _ _ hc q=>by
 have h1:(0:Int) < j:=hc.1;have h2:j < 1073741824:=hc.2;exact floordiv_int (by omega) (by rw [Int.fdiv_eq_ediv_of_nonneg i (by omega)]; exact q) (.inl (PyProof.noPylong_small (by omega)))
theorem fC:pD X (binaryOp .Mod) (rI (fun _ j=>0 < j) fun i j=>.int (i % j)):=opI fun i j _ _ _ _ _ hc q=>by
 have h1:(0:Int) < j:=hc;exact mod_int' (by omega) (by rw [Int.fmod_eq_emod_of_nonneg i (by omega)]; exact q)
theorem yL:pD X (binaryOp .LShift) (rI aif fun i j=>.int (i * 2 ^ j.toNat)):=opI fun _ _ _ _ _ _ _ hc q=>lshift_int_small hc.1 hc.2.1 hc.2.2 q
theorem JH:pD X (binaryOp .RShift) (rI (fun _ j=>0<=j) fun i j=>.int (i / 2 ^ j.toNat)):=opI fun i j _ _ _ _ _ hc q =>
 rshift_int hc (by rw [Int.fdiv_eq_ediv_of_nonneg i (Dc _)]; exact q)
theorem JK:pD X (binaryOp .BitAnd) (QZ fun i j=>.int (Builtin.bitAnd i j)):=Y4 fun _ _ _ _ _ _ _ q=>and_int q
theorem unI {f:aA->Sem aA} {g:Int->Int} (rule:∀ (i:Int) (t:Tok) (s:aM) (Q:aA->aM->Prop) (E:aA->aM->Prop),Q (.int (g i) s.toks) { s with toks:=s.toks + 1 }->wpAny (model X.prog X.w) X.A (f (.int i t)) Q E s) : UnR X f (rU fun i=>.int (g i)):=by
 intro pins s σ H x v Q I rx h;obtain ⟨i,rfl,q⟩:=h;obtain ⟨t,rfl⟩:=rx;exact rule i t s _ _ ⟨.int (g i),H,I.tok _,⟨_,rfl⟩,q⟩
theorem yM:UnR X (unaryOp .USub) (rU fun i=>.int (-i)):=unI fun _ _ _ _ _ q=>neg_int q
end
noncomputable def adD:V->V->Bool
 | .non,.non=>true | .non,.int _=>true | .int _,.non=>true | .non,.bl _=>true | .bl _,.non=>true | .non,.str _=>true | .str _,.non=>true
 | .int _,.int _=>true | .bl _,.bl _=>true | .str _,.str _=>true | .Gd _,.Gd _=>true
 | .int _,.str _=>true | .str _,.int _=>true | .bl _,.str _=>true | .str _,.bl _=>true
 | _,_=>false
def rEq:R2:=fun x y H Q=>adD x y=true/\Q (.bl (decide (x=y))) H
def rNe:R2:=fun x y H Q=>adD x y=true/\Q (.bl (!decide (x=y))) H
theorem Gi {i j:Int}:decide (V.int i=V.int j)=(i == j):=by
 rw [Bool.eq_iff_iff];simp
theorem JL {i j:Bool}:decide (V.bl i=V.bl j)=(i == j):=by
 rw [Bool.eq_iff_iff];simp
theorem Gj {i j:Str}:decide (V.str i=V.str j)=(i == j):=by
 rw [Bool.eq_iff_iff];simp
theorem Gk {i j:Array UInt8}:decide (V.Gd i=V.Gd j)=(i.toList == j.toList):=by
 rw [Bool.eq_iff_iff];cases i;cases j;simp
section
variable {X:Cx} {a b c:Expr} {ta tb tc:TE} {pos:Pos}
theorem dJ {pins:List (aB × Obj)} {σ:St} {H:Hp} {s:aM} {Q:VK} {k k':Bool} (I:Inv X pins σ H s) (q:Q (.bl k) H) (e:k=k'):EP X pins σ Q (.bool k') s:=by
 subst e;exact ⟨.bl k,H,I,rfl,q⟩
theorem jt:pD X (compareOp .Eq) rEq:=by
 intro pins s σ H x y v u Q I rx ry h;obtain ⟨hs,q⟩:=h;cases x with
 | non =>
  cases rx;cases y with
  | non=>cases ry; exact PySem.EqNone.eq_none_none (dJ I q (by simp))
  | bl j=>cases ry; exact PySem.EqNone.eq_none_bool (dJ I q (by simp))
  | int j=>obtain ⟨t',rfl⟩:=ry; exact PySem.EqNone.eq_none_int (dJ I q (by simp))
  | str j=>obtain ⟨t',rfl⟩:=ry; exact PySem.EqNone.eq_none_str (dJ I q (by simp))
  | _=>exact absurd (show false=true from hs) Bool.false_ne_true
 | bl i =>
  cases rx;cases y with
  | non=>cases ry; exact PySem.EqNone.eq_bool_none (dJ I q (by simp))
  | bl j=>cases ry; exact eq_bool (dJ I q JL)
  | str j=>obtain ⟨t',rfl⟩:=ry; exact PySem.EqMixed.eq_bool_str (dJ I q (by simp))
  | _=>exact absurd (show false=true from hs) Bool.false_ne_true
 | int i =>
  obtain ⟨t,rfl⟩:=rx;cases y with
  | non=>cases ry; exact PySem.EqNone.eq_int_none (dJ I q (by simp))
  | int j=>obtain ⟨t',rfl⟩:=ry; exact eq_int (dJ I q Gi)
  | str j=>obtain ⟨t',rfl⟩:=ry; exact PySem.EqMixed.eq_int_str (dJ I q (by simp))
  | _=>exact absurd (show false=true from hs) Bool.false_ne_true
 | str i =>
  obtain ⟨t,rfl⟩:=rx;cases y with
  | non=>cases ry; exact PySem.EqNone.eq_str_none (dJ I q (by simp))
  | bl j=>cases ry; exact PySem.EqMixed.eq_str_bool (dJ I q (by simp))
  | int j=>obtain ⟨t',rfl⟩:=ry; exact PySem.EqMixed.eq_str_int (dJ I q (by simp))
  | str j=>obtain ⟨t',rfl⟩:=ry; exact eq_str (dJ I q Gj)
  | _=>exact absurd (show false=true from hs) Bool.false_ne_true
 | Gd i =>
  obtain ⟨t,rfl⟩:=rx;cases y with
  | Gd j=>obtain ⟨t',rfl⟩:=ry; exact PySem.W.eq_bytes (dJ I q Gk)
  | _=>exact absurd (show false=true from hs) Bool.false_ne_true
 | _=>cases y <;> exact absurd (show false=true from hs) Bool.false_ne_true
theorem uU:pD X (compareOp .NotEq) rNe:=by
 intro pins s σ H x y v u Q I rx ry h;obtain ⟨hs,q⟩:=h;cases x with
 | non =>
  cases rx;cases y with
  | non=>cases ry; exact PySem.EqNone.ne_none_none (dJ I q (by simp))
  | bl j=>cases ry; exact PySem.EqNone.ne_none_bool (dJ I q (by simp))
  | int j=>obtain ⟨t',rfl⟩:=ry; exact PySem.EqNone.ne_none_int (dJ I q (by simp))
  | str j=>obtain ⟨t',rfl⟩:=ry; exact PySem.EqNone.ne_none_str (dJ I q (by simp))
  | _=>exact absurd (show false=true from hs) Bool.false_ne_true
 | bl i =>
  cases rx;cases y with
  | non=>cases ry; exact PySem.EqNone.ne_bool_none (dJ I q (by simp))
  | bl j=>cases ry; exact ne_bool (dJ I q (congrArg not JL))
  | str j=>obtain ⟨t',rfl⟩:=ry; exact PySem.EqMixed.ne_bool_str (dJ I q (by simp))
  | _=>exact absurd (show false=true from hs) Bool.false_ne_true
 | int i =>
  obtain ⟨t,rfl⟩:=rx;cases y with
  | non=>cases ry; exact PySem.EqNone.ne_int_none (dJ I q (by simp))
  | int j=>obtain ⟨t',rfl⟩:=ry; exact ne_int (dJ I q (congrArg not Gi))
  | str j=>obtain ⟨t',rfl⟩:=ry; exact PySem.EqMixed.ne_int_str (dJ I q (by simp))
  | _=>exact absurd (show false=true from hs) Bool.false_ne_true
 | str i =>
  obtain ⟨t,rfl⟩:=rx;cases y with
  | non=>cases ry; exact PySem.EqNone.ne_str_none (dJ I q (by simp))
  | bl j=>cases ry; exact PySem.EqMixed.ne_str_bool (dJ I q (by simp))
  | int j=>obtain ⟨t',rfl⟩:=ry; exact PySem.EqMixed.ne_str_int (dJ I q (by simp))
  | str j=>obtain ⟨t',rfl⟩:=ry; exact ne_str (dJ I q (congrArg not Gj))
  | _=>exact absurd (show false=true from hs) Bool.false_ne_true
 | Gd i =>
  obtain ⟨t,rfl⟩:=rx;cases y with
  | Gd j=>obtain ⟨t',rfl⟩:=ry; exact PySem.W.ne_bytes (dJ I q (congrArg not Gk))
  | _=>exact absurd (show false=true from hs) Bool.false_ne_true
 | _=>cases y <;> exact absurd (show false=true from hs) Bool.false_ne_true
theorem Ac:pD X (compareOp .Lt) (QZ fun i j=>.bl (decide (i < j))):=Q0 fun _ _ _ _ _ _ _ q=>lt_int q
theorem xg:pD X (compareOp .LtE) (QZ fun i j=>.bl (decide (i<=j))):=Q0 fun _ _ _ _ _ _ _ q=>le_int q
theorem JM:pD X (compareOp .Gt) (QZ fun i j=>.bl (decide (j < i))):=Q0 fun _ _ _ _ _ _ _ q=>gt_int q
theorem TV:pD X (compareOp .GtE) (QZ fun i j=>.bl (decide (j<=i))):=Q0 fun _ _ _ _ _ _ _ q=>ge_int q
theorem cQ (b:Expr) {op:CmpOp} (h:autoParam (op≠.In) zau1) (h2:autoParam (op≠.NotIn) zau1):behindInMarks op b=false:=by
 have e1:(op == CmpOp.In)=false:=by cases op <;> first | rfl | exact absurd rfl h
 have e2:(op == CmpOp.NotIn)=false:=by cases op <;> first | rfl | exact absurd rfl h2
 cases b <;> simp [behindInMarks,e1,e2]
theorem lM {op:CmpOp} {r:R2} (ho:pD X (compareOp op) r) (ha:PE X a ta) (hb:PE X b tb) (hm:behindInMarks op b=false):PE X (.Compare a [op] [b] pos) (tOp r ta tb):=by
 intro pins s σ H Q I h;exact wpAny_Compare1 (YZ ha hb I h fun v u s2 x y H2 I2 rx ry q=>ho pins s2 σ H2 x y v u Q I2 rx ry q) hm
def TX (t:TE):TT:=fun σ H Q=>t σ H fun x H'=>∃ k,x=.bl k/\Q k H'
theorem cN {op:CmpOp} {r:R2} (ho:pD X (compareOp op) r) (ha:PE X a ta) (hb:PE X b tb) (hm:behindInMarks op b=false):PT X (.Compare a [op] [b] pos) (TX (tOp r ta tb)):=by
 intro pins s σ H Q I h;refine wpAny_isTrue_Compare1 (eX (ha pins s σ H _ I h) fun v s1 ⟨x,H1,I1,r1,q1⟩=>eX (hb pins s1 σ H1 _ I1 q1) fun u s2 ⟨y,H2,I2,r2,q2⟩ =>
  eX (ho pins s2 σ H2 x y v u _ I2 r1 r2 q2) fun c s3 ⟨z,H3,I3,r3,k,e,q3⟩=>?_) hm
 subst e;cases r3;exact wpAny_truthy_bool ⟨H3,I3,q3⟩
def JN (r r':R2) (ta tb tc:TE):TE:=fun σ H Q=>ta σ H fun x H1=>tb σ H1 fun y H2=>r x y H2 fun z H3=>∃ k,z=.bl k /\ (if k=true then tc σ H3 fun w' H4=>r' y w' H4 Q else Q (.bl false) H3)
theorem uV {op op':CmpOp} {r r':R2} (ho:pD X (compareOp op) r) (ho':pD X (compareOp op') r') (ha:PE X a ta) (hb:PE X b tb) (hc:PE X c tc) (hm:autoParam (lastMarks [op,op'] [b,c]=false) zau5):PE X (.Compare a [op,op'] [b,c] pos) (JN r r' ta tb tc):=by
 intro pins s σ H Q I h;refine Compare_chain (eX (ha pins s σ H _ I h) fun v s1 ⟨x,H1,I1,r1,q1⟩=>chain_link (eX (hb pins s1 σ H1 _ I1 q1) fun u s2 ⟨y,H2,I2,r2,q2⟩ =>
  eX (ho pins s2 σ H2 x y v u _ I2 r1 r2 q2) fun d s3 ⟨z,H3,I3,r3,k,e,q3⟩=>?_)) hm
 subst e;cases r3;refine wpAny_truthy_bool ?_;cases k with
 | false=>exact ite_ff ⟨.bl false,H3,I3,rfl,q3⟩
 | true=>exact ite_tt (chain_last (eX (hc pins s3 σ H3 _ I3 q3) fun w' s4 ⟨z',H4,I4,r4,q4⟩=>ho' pins s4 σ H4 y z' u w' Q I4 r2 r4 q4))
theorem Ad {op op':CmpOp} {r r':R2} (ho:pD X (compareOp op) r) (ho':pD X (compareOp op') r') (ha:PE X a ta) (hb:PE X b tb) (hc:PE X c tc) (hm:autoParam (lastMarks [op,op'] [b,c]=false) zau5):PT X (.Compare a [op,op'] [b,c] pos) (TX (JN r r' ta tb tc)):=by
 intro pins s σ H Q I h;refine isTrue_chain (eX (ha pins s σ H _ I h) fun v s1 ⟨x,H1,I1,r1,q1⟩=>test_link (eX (hb pins s1 σ H1 _ I1 q1) fun u s2 ⟨y,H2,I2,r2,q2⟩ =>
  eX (ho pins s2 σ H2 x y v u _ I2 r1 r2 q2) fun d s3 ⟨z,H3,I3,r3,k,e,q3⟩=>?_)) hm
 subst e;cases r3;refine wpAny_truthy_bool ?_;cases k with
 | false =>
  obtain ⟨k',e',q'⟩:=q3;cases e';exact ite_ff ⟨H3,I3,q'⟩
 | true =>
  refine ite_tt (test_last (eX (hc pins s3 σ H3 _ I3 q3) fun w' s4 ⟨z',H4,I4,r4,q4⟩=>eX (ho' pins s4 σ H4 y z' u w' _ I4 r2 r4 q4) fun d' s5 ⟨z2,H5,I5,r5,k2,e2,q5⟩=>?_));subst e2;cases r5;exact wpAny_truthy_bool ⟨H5,I5,q5⟩
noncomputable def Y6 (K:Fg) (x:V) (H:Hp) (k:Bool):Prop := match x with
 | .non=>k=false
 | .bl b=>k=b
 | .int i=>k=(i != 0)
 | .str y=>y.length<=sizeLine/\k=((y.length:Int) != 0)
 | .Gd y=>y.size<=sizeLine/\k=((y.size:Int) != 0)
 | .ref p=>(∃ xs,cU K H p xs/\k=!xs.isEmpty)\/(∃ xs,gY K H p xs/\k=!xs.isEmpty)\/∃ kvs,H p=some (.dK kvs)/\k=!kvs.isEmpty
 | _=>False
theorem Df {κ:Type} {kvs:List (κ × V)} {vs:List (κ × aA)} (r:KV kvs vs):(!vs.isEmpty)=!kvs.isEmpty:=by
 cases r <;> rfl
theorem uW {xs:List V} {its:List aA} (r:Vals xs its):(!its.toArray.isEmpty)=!xs.isEmpty:=by
 cases r <;> simp
theorem rH:(sizeLine:Nat) < 2 ^ 63:=by rw [sizeLine_eq]; decide
theorem Y7:aic X (fun x H Q=>∃ k,Y6 X.K x H k/\Q k H):=by
 intro pins s σ H x v Q I rx h;obtain ⟨k,e,q⟩:=h;have hl:=rH;have hs:sizeLine=16777216:=sizeLine_eq;cases x with
 | non =>
  cases rx;have e':k=false:=e;subst e';exact truthy_none ⟨H,I,q⟩
 | bl b =>
  cases rx;have e':k=b:=e;subst e';exact wpAny_truthy_bool ⟨H,I,q⟩
 | int i =>
  obtain ⟨t,rfl⟩:=rx;have e':k=(i != 0):=e;subst e';exact PySem.P.truthy_int ⟨H,I,q⟩
 | str y =>
  obtain ⟨t,rfl⟩:=rx;obtain ⟨hy,e'⟩:y.length<=sizeLine/\k=((y.length:Int) != 0):=e;subst e';exact PySem.P.truthy_str (by omega) ⟨H,I.tok _,q⟩
 | Gd y =>
  obtain ⟨t,rfl⟩:=rx;obtain ⟨hy,e'⟩:y.size<=sizeLine/\k=((y.size:Int) != 0):=e;subst e';exact PySem.W.truthy_bytes (by omega) ⟨H,I.tok _,q⟩
 | ref p =>
  cases rx;have e':(∃ xs,cU X.K H p xs/\k=!xs.isEmpty)\/(∃ xs,gY X.K H p xs/\k=!xs.isEmpty)\/∃ kvs,H p=some (.dK kvs)/\k=!kvs.isEmpty:=e;rcases e' with ⟨xs,hx,e'⟩ | ⟨xs,hx,e'⟩ | ⟨kvs,hx,e'⟩
  ·subst e';obtain ⟨its,r,pl,hz⟩:=I.list hx;have hlen:=r.length;exact wpAny_truthy_list pl.isList (by simp only [size_toArray]; omega) ⟨H,I.tok _,by rw [uW r]; exact q⟩
  ·subst e';obtain ⟨its,r,pl,hz⟩:=I.tuple hx;have hlen:=r.length;exact truthy_tuple pl (by simp only [size_toArray]; omega) ⟨H,I.tok _,by rw [uW r]; exact q⟩
  ·subst e';obtain ⟨hz,hS,vs,r,m⟩:kvs.length<=sizeLine/\(p == sysModules)=false/\∃ vs,KV kvs vs/\s.heap.DictOf (ur X.prog X.w) p vs:=I.hok p _ hx;have hlen:kvs.length=vs.length:=Paired.length r;exact wpAny_truthy_dict hS m (by omega) ⟨H,I.tok _,by rw [Df r]; exact q⟩
 | _=>exact (show False from e).elim
theorem Ae (ha:PE X a ta) (he:∀ whole,isTrue a X.env whole=(do let v <- whole; standAt a.pos; holding [v] (truthy v))) :
  PT X a (fun σ H Q=>ta σ H fun x H'=>∃ k,Y6 X.K x H' k/\Q k H'):=by
 intro pins s σ H Q I h;exact isTrue_plain (eX (ha pins s σ H _ I h) fun v s1 ⟨x,H1,I1,r1,q1⟩=>Y7 pins s1 σ H1 x v Q I1 r1 q1) (he _)
theorem lN:pD X (binaryOp .Add) (fun x y H Q=>∃ i j,x=.str i/\y=.str j/\i.length + j.length<=sizeLine/\Q (.str (i++j)) H):=by
 intro pins s σ H x y v u Q I rx ry h;obtain ⟨i,j,rfl,rfl,hz,q⟩:=h;obtain ⟨t,rfl⟩:=rx;obtain ⟨t',rfl⟩:=ry;exact add_str (fun t' tk=>⟨.str (i++j),H,I.tok _,⟨_,rfl⟩,q⟩) hz
theorem vals1 {x:V} {us:List aA} (r:Vals [x] us):∃ u,us=[u]/\RelV x u:=by
 cases r with
 | cons r1 r2=>cases r2; exact ⟨_,rfl,r1⟩
theorem vals2 {x y:V} {us:List aA} (r:Vals [x,y] us):∃ u w',us=[u,w']/\RelV x u/\RelV y w':=by
 cases r with
 | cons r1 r2 =>
  cases r2 with
  | cons r3 r4=>cases r4; exact ⟨_,_,rfl,r1,r3⟩
theorem HJ (hc:X.calm=true):gq X (.builtin "max") (fun xs H Q=>∃ i j,xs=[.int i,.int j]/\Q (.int (if j > i then j else i)) H):=by
 intro pins s σ H xs us Q I r h;obtain ⟨i,j,rfl,q⟩:=h;obtain ⟨u,w',rfl,⟨t,rfl⟩,⟨t',rfl⟩⟩:=vals2 r;refine max_two_ints (I.ok.hd hc) fun h' tk k=>⟨_,H,I.kept k,?_,q⟩
 by_cases hj:j > i
 ·rw [if_pos hj,if_pos hj]; exact ⟨_,rfl⟩
 ·rw [if_neg hj,if_neg hj]; exact ⟨_,rfl⟩
theorem HN:gq X (.type "int") (fun xs H Q=>(∃ i,xs=[.int i]/\Q (.int i) H)\/∃ k,xs=[.bl k]/\Q (.int (if k then 1 else 0)) H):=by
 intro pins s σ H xs us Q I r h;rcases h with ⟨i,rfl,q⟩ | ⟨k,rfl,q⟩
 ·obtain ⟨u,rfl,t,rfl⟩:=vals1 r;exact call_int_int ⟨.int i,H,I,⟨_,rfl⟩,q⟩
 ·obtain ⟨u,rfl,r1⟩:=vals1 r;cases r1;exact call_int_bool ⟨.int (if k then 1 else 0),H,I.tok _,⟨_,rfl⟩,q⟩
end
structure Dg (h:Heap) (x dx C:aB) (mA:Str->Option aA):Prop where
 obj:h.get? x=some (instObj C dx)
 ns:h.Ns1 dx mA
 ne:dx≠x
theorem HS {h:Heap} {dx:aB} {mA:Str->Option aA} (n:h.Ns1 dx mA):∃ od,h.get? dx=some od/\∀ name,lookIn name od=some (mA name):=by
 obtain ⟨o,es,ep,ho,hd,hk,_,hm⟩:=n;refine ⟨o,ho,fun name=>?_⟩;have e:=hm name;unfold nsFind findBy at e;rw [<- Array.find?_toList] at e;unfold lookIn;rw [hd];dsimp only
 split
 ·rename_i y q
  rw [q] at e;exact congrArg some e
 ·rename_i q
  rw [q] at e;have a:es.toList.any (·.refKey)=false:=by
   rw [List.any_eq_false];intro y hy;obtain ⟨z,t,hkey⟩:=hk y (Array.mem_toList_iff.mp hy);simp [DictEntry.refKey,hkey]
  have a':¬ es.toList.any (·.refKey)=true:=by rw [a]; exact Bool.false_ne_true
  rw [if_neg a'];exact congrArg some e
theorem Dg.look {h:Heap} {x dx C:aB} {mA:Str->Option aA} (I:Dg h x dx C mA):∃ od,InstAt h x (instObj C dx) C (some od)/\∀ name,lookIn name od=some (mA name) := let ⟨od,ho,hl⟩:=HS I.ns
 ⟨od,⟨I.obj,rfl,rfl,ho⟩,hl⟩
section
variable {prog:cg} {w:World} {A:cW} {E:aA->aM->Prop} {s:aM} {K:Fg} {x dx C f:aB} {mA:Str->Option aA} {name:Str} {v:aA}
theorem get_map {expr:Bool} {Q:aA->aM->Prop} (X:K.In s.heap) (I:Dg s.heap x dx C mA) (hg:plainGet K C name=true) (hh:hasDictIn K C=true) (ha:findIn K (.ref C) name=some none) (hv:mA name=some v) (hv':handedIn v=true) (h:Q v { s with toks:=s.toks + 1 }) : wpAny (model prog w) A (getAttr (.ref x) name expr) Q E s:=by
 obtain ⟨od,J,hl⟩:=I.look;exact PySem.W.get_value X J (plainGet_of hg).1 (PySem.W.findObj_own hh ha rfl (by rw [hl,hv])) hv' h
theorem JQ {pl:Sem Bool} {Q:aA × List aA->aM->Prop} (X:K.In s.heap) (I:Dg s.heap x dx C mA) (hg:plainGet K C name=true) (hf:findIn K (.ref C) name=some (some (.ref f))) (ht:isFn K (.ref f)=true) (hv:mA name=none) (h:Q (.ref f,[.ref x]) s) : wpAny (model prog w) A (getMethod (.ref x) name pl) Q E s:=by
 obtain ⟨od,J,hl⟩:=I.look;exact PySem.W.method_fn X J (plainGet_of hg).1 (plainGet_of hg).2 hf (beq_iff_eq.mp ht) (by show (lookIn name od).map (·.isSome)=some false; rw [hl,hv]; rfl) h
theorem Q5 {ns:List Str} {Q:Unit->aM->Prop} (X:K.In s.heap) (I:Dg s.heap x dx C mA) (hs:findIn K (.ref C) "__setattr__"=some (some (.builtin "object.__setattr__"))) (hp:plainOver K C=true) (ht:takerIn K C name=some none) (hh:hasDictIn K C=true) (hw:PySem.Within mA ns) (hsz:ns.length<=sizeLine) (h:∀ h',Dg h' x dx C (fun y=>if y=name then some v else mA y)->Heap.SameBut dx s.heap h'->Q () { s with heap:=h',toks:=s.toks + 2 }) : wpAny (model prog w) A (setAttr (.ref x) name v) Q E s:=by
 obtain ⟨od,J,hl⟩:=I.look;refine set_plain X J hs (PySem.W.osa_open (s:={ s with toks:=s.toks + 1 }) (r:=none) X J hp ht fun b=>?_);obtain ⟨cd,hc,hd'⟩:=any_some hh;have hx:s.heap.get? x=some ⟨.ref C,some dx,.plain,#[]⟩:=I.obj;refine aj (ak (aj (aj (wpAny_loadPart hx (aj (Looks.here (s:={ s with toks:=s.toks + 1 }) (looks_clsIn X hc) ?_))))));rw [hd'];refine ak (a:=some dx) (aj (ak (aj ?_)));refine wpAny_nsSet1 (s:={ s with toks:=s.toks + 1 }) I.ns fun h' hn2 hs2=>?_
 obtain ⟨oD,esD,epD,hoD,hdD,hcD⟩:=hn2.count (PySem.Within.cons name v hw);refine aj (wpAny_lookBehind hoD (by rw [hdD]; exact pastItsLine_dict (bw hcD (by rw [length_cons]; omega))) ?_);exact ak (h _ ⟨(hs2.2 _ (Ne.symm I.ne)).trans I.obj,hn2,I.ne⟩ hs2)
theorem JR {R:Result->aM->Prop} {vs:List aA} {kw:List (Str × aA)} (X:K.In s.heap) (hm:makesIn K C=true) (hi:findIn K (.ref C) "__init__"=some (some (.ref f))) (hf:typeIn K (.ref f)=some (.type "function")) (h:codeAny (model prog w) (A.under (.builtin "type.__call__" ⟨.ref C::vs,kw⟩)) (.call (.ref f) ⟨.ref (s.heap.objs.size + 1)::vs,kw⟩) (PySem.W.InitBack (s.heap.objs.size + 1) R) { s with heap:=(s.heap.push emptyDict).push (instObj C s.heap.objs.size) }) : codeAny (model prog w) A (.call (.ref C) ⟨vs,kw⟩) R s:=by
 obtain ⟨hh,g,d,t,os⟩:=s;exact PySem.W.make_core (PySem.W.makes_of X hm) (looks_findIn X hi) (fun self=>PySem.W.bind_fn X self hf) (.inl rfl) h
end
def gM (f:Str) (v:V):List (Str × V)->List (Str × V)
 | []=>[(f,v)]
 | (g,x)::r=>if g=f then (g,v)::r else (g,x)::gM f v r
theorem tV (f g:Str) (v:V):∀ fs:List (Str × V),(gM f v fs).lookup g=if g=f then some v else fs.lookup g
 | []=>by
  show List.lookup g [(f,v)]=_
  by_cases h:g=f
  ·have hb:(g == f)=true:=beq_iff_eq.mpr h;simp only [List.lookup,hb,if_pos h]
  ·have hb:(g == f)=false:=beq_eq_false_iff_ne.mpr h;simp only [List.lookup,hb,if_neg h]
 | (k,x)::r=>by
  have ih:=tV f g v r;rw [show gM f v ((k,x)::r)=(if k=f then (k,v)::r else (k,x)::gM f v r) from rfl]
  by_cases hk:k=f
  ·rw [if_pos hk]
   by_cases h:g=k
   ·have hb:(g == k)=true:=beq_iff_eq.mpr h;simp only [List.lookup,hb,if_pos (h.trans hk)]
   ·have hb:(g == k)=false:=beq_eq_false_iff_ne.mpr h;simp only [List.lookup,hb,if_neg (fun e:g=f=>h (e.trans hk.symm))]
  ·rw [if_neg hk]
   by_cases h:g=k
   ·have hb:(g == k)=true:=beq_iff_eq.mpr h;simp only [List.lookup,hb,if_neg (fun e:g=f=>hk (h.symm.trans e))]
   ·have hb:(g == k)=false:=beq_eq_false_iff_ne.mpr h;simp only [List.lookup,hb];exact ih
theorem rJ (f:Str) (v:V):∀ fs:List (Str × V),f ∈ (gM f v fs).map (·.1)/\∀ g,g ∈ fs.map (·.1)->g ∈ (gM f v fs).map (·.1)
 | []=>⟨by simp [gM],fun g h=>by simp at h⟩
 | (k,x)::r=>by
  obtain ⟨i1,i2⟩:=rJ f v r;rw [show gM f v ((k,x)::r)=(if k=f then (k,v)::r else (k,x)::gM f v r) from rfl]
  by_cases hk:k=f
  ·rw [if_pos hk];subst hk;exact ⟨by simp,fun g h=>by simpa using h⟩
  ·rw [if_neg hk];refine ⟨?_,fun g h=>?_⟩
   ·rw [bO];exact mem_cons_of_mem _ i1
   ·rw [bO] at h ⊢;rcases aQ.mp h with e | e
    ·exact aQ.mpr (.inl e)
    ·exact mem_cons_of_mem _ (i2 g e)
theorem jg (f:Str) (v:V):∀ fs:List (Str × V),(gM f v fs).length<=fs.length + 1
 | []=>by simp [gM]
 | (k,x)::r=>by
  have ih:=jg f v r;rw [show gM f v ((k,x)::r)=(if k=f then (k,v)::r else (k,x)::gM f v r) from rfl]
  by_cases hk:k=f
  ·rw [if_pos hk,length_cons,length_cons]; omega
  ·rw [if_neg hk,length_cons,length_cons]; omega
theorem wM.some_of {v:V} {o:Option aA} (r:wM (some v) o):∃ u,o=some u/\RelV v u:=by
 cases o with
 | none=>exact (show False from r).elim
 | some u=>exact ⟨u,rfl,r⟩
theorem wM.none_of {o:Option aA} (r:wM none o):o=none:=by
 cases o with
 | none=>rfl
 | some u=>exact (show False from r).elim
theorem HW {v:V} {u:aA} (r:RelV v u):handedIn u=true:=by
 cases v with
 | non=>cases (show u=Value.none from r); rfl
 | bl b=>cases (show u=Value.bool b from r); rfl
 | int i=>obtain ⟨t,e⟩:=(show ∃ t,u=Value.int i t from r); cases e; rfl
 | str x=>obtain ⟨t,e⟩:=(show ∃ t,u=Value.str x t from r); cases e; rfl
 | Gd b=>obtain ⟨t,e⟩:=(show ∃ t,u=Value.bytes b t from r); cases e; rfl
 | flt b=>obtain ⟨t,e⟩:=(show ∃ t,u=Value.float b t from r); cases e; rfl
 | ref a=>cases (show u=Value.ref a from r); rfl
 | ty n=>cases (show u=Value.type n from r); rfl
section
variable {P:cg} {w:World} {H H':Hp} {h h':Heap} {a C dx:aB} {fs fs':List (Str × V)}
theorem uw (hok:rB P w H h) (e:H a=some (.ins C dx fs)):∃ mA,Dg h a dx C mA/\(∀ f,wM (fs.lookup f) (mA f))/\PySem.Within mA (fs.map (·.1))/\fs.length<=1000/\H dx=some (.own a):=by
 obtain ⟨d,z,ne,ob,mA,n,r,q⟩:=(show eV P w H h a (.ins C dx fs) from hok a _ e);exact ⟨mA,⟨ob,n,ne⟩,r,q,z,d⟩
end
structure Cls (K:Fg) (C:aB):Prop where
 pg:plainGet K C Str.empty=true
 hd:hasDictIn K C=true
 po:plainOver K C=true
 sa:findIn K (.ref C) "__setattr__"=some (some (.builtin "object.__setattr__"))
theorem Cls.get {K:Fg} {C:aB} (c:Cls K C) (f:Str):plainGet K C f=true:=c.pg
def iV (K:Fg) (C:aB) (f:Str):Prop:=findIn K (.ref C) f=some none
theorem iV.taker {K:Fg} {C:aB} {f:Str} (n:iV K C f):takerIn K C f=some none:=by
 unfold takerIn;rw [show findIn K (.ref C) f=some none from n];rfl
structure Meth (K:Fg) (C:aB) (m:Str) (f:aB):Prop where
 at_:findIn K (.ref C) m=some (some (.ref f))
 fn:isFn K (.ref f)=true
 kp:keepIn K (.ref f)=true
section
variable {X:Cx} {pins:List (aB × Obj)} {σ:St} {H:Hp} {s:aM} {a C dx:aB} {fs:List (Str × V)} {f:Str} {v:V} {A:cW} {E:aA->aM->Prop}
theorem Dh {b:Bool} {Q:aA->aM->Prop} (I:Inv X pins σ H s) (e:H a=some (.ins C dx fs)) (c:Cls X.K C) (n:iV X.K C f) (l:fs.lookup f=some v) (h:∀ u s',Inv X pins σ H s'->RelV v u->Q u s'):wpAny (model X.prog X.w) A (getAttr (.ref a) f b) Q E s:=by
 obtain ⟨mA,O,r,_,_,_⟩:=uw I.hok e;obtain ⟨u,hu,ru⟩:=wM.some_of (v:=v) (o:=mA f) (by rw [<- l]; exact r f);exact get_map I.nj O (c.get f) c.hd n hu (HW ru) (h u _ (I.tok _) ru)
theorem lO {m:Str} {g:aB} {pl:Sem Bool} {Q:aA × List aA->aM->Prop} (I:Inv X pins σ H s) (e:H a=some (.ins C dx fs)) (c:Cls X.K C) (k:Meth X.K C m g) (l:fs.lookup m=none) (h:Q (.ref g,[.ref a]) s):wpAny (model X.prog X.w) A (getMethod (.ref a) m pl) Q E s:=by
 obtain ⟨mA,O,r,_,_,_⟩:=uw I.hok e;have hn:mA m=none:=wM.none_of (by rw [<- l]; exact r m);exact JQ I.nj O (c.get m) k.at_ k.fn hn h
theorem Di {y:V} {u:aA} {Q:Unit->aM->Prop} (I:Inv X pins σ H s) (e:H a=some (.ins C dx fs)) (c:Cls X.K C) (n:iV X.K C f) (hl:fs.length < 1000) (ry:RelV y u) (h:∀ s',Inv X pins σ (upd H a (.ins C dx (gM f y fs))) s'->Q () s'):wpAny (model X.prog X.w) A (setAttr (.ref a) f u) Q E s:=by
 obtain ⟨mA,O,r,wi,_,ho⟩:=uw I.hok e;have hz:(fs.map (·.1)).length<=sizeLine:=by rw [aq,sizeLine_eq]; omega
 refine Q5 I.nj O c.sa c.po n.taker c.hd wi hz fun h' O' sb=>h _ ?_
 have hd:∃ o,h'.get? dx=some o:=let ⟨o,_,_,e',_⟩:=O'.ns; ⟨o,e'⟩;refine I.write (x:=a) (e:=dx) (by rw [e]; exact True.intro) (.inr ho) (fun b q hb z=>(sb.2 b hb).trans z) hd ?_;refine ⟨by rw [bA O.ne]; exact ho,?_,O.ne,O'.obj,_,O'.ns,fun g=>?_,fun g hg=>?_⟩
 ·have:=jg f y fs; omega
 ·show wM ((gM f y fs).lookup g) (if g=f then some u else mA g)
  rw [tV]
  by_cases q:g=f
  ·rw [if_pos q,if_pos q]; exact ry
  ·rw [if_neg q,if_neg q]; exact r g
 ·by_cases q:g=f
  ·rw [q]; exact (rJ f y fs).1
  ·refine (rJ f y fs).2 g (wi g fun z=>hg ?_)
   show (if g=f then some u else mA g)=none
   rw [if_neg q]; exact z
theorem Inv.made (I:Inv X pins σ H s):Inv X pins σ (upd (upd H s.heap.objs.size (.own (s.heap.objs.size + 1))) (s.heap.objs.size + 1) (.ins C s.heap.objs.size [])) { s with heap:=(s.heap.push emptyDict).push (instObj C s.heap.objs.size) }:=by
 have e1:(s.heap.push emptyDict).get? s.heap.objs.size=some emptyDict:=aC s.heap rfl;have e2:((s.heap.push emptyDict).push (instObj C s.heap.objs.size)).get? (s.heap.objs.size + 1)=some (instObj C s.heap.objs.size):=by
  have:=aC (s.heap.push emptyDict) (o:=instObj C s.heap.objs.size) rfl
  rwa [Heap.size_push] at this
 have e3:(s.heap.push emptyDict).Ns s.heap.objs.size (fun _=>none):=⟨emptyDict,#[],_,e1,rfl,(fun e he=>absurd he (by simp)),fun _=>rfl⟩;have I1:=I.laid (a:=s.heap.objs.size) (o:=.own (s.heap.objs.size + 1)) (h':=s.heap.push emptyDict) (t':=s.toks) (fun b u q=>au _ q) (aJ _) ⟨_,e1⟩;refine I1.laid (a:=s.heap.objs.size + 1) (o:=.ins C s.heap.objs.size []) (t':=s.toks) (fun b u q=>au _ q) (Nat.le_of_eq (Heap.size_push _ _)) ?_;have ne:s.heap.objs.size≠s.heap.objs.size + 1:=Nat.ne_of_lt (Nat.lt_succ_self _);refine ⟨by rw [bA ne,aF],dR _,ne,e2,fun _=>none,(Heap.Ns1.of_empty e3).at fun o q=>au _ q,fun _=>True.intro,fun y hy=>absurd rfl hy⟩
theorem Q6 {prog:cg} {w:World} {env:Env} {e:Expr} {f:Str} {pos:Pos} {s:aM} {Q:aA->aM->Prop} (hb:attributeBase e f env (eval e env)=eval e env) (h:wpAny (model prog w) A (eval e env) (fun o s₁=>wpAny (model prog w) A (getAttr o f true) Q E s₁) E s):wpAny (model prog w) A (eval (.Attribute e f pos) env) Q E s := Attribute_any_ h (by rw [arm_eval_Attribute,hb])
end
def adE (K:Fg) (ta:TE) (f:Str):TE:=fun σ H Q=>ta σ H fun x H1=>∃ a C dx fs v,x=.ref a/\H1 a=some (.ins C dx fs)/\Cls K C/\iV K C f/\fs.lookup f=some v/\Q v H1
noncomputable def aii (K:Fg) (ta tv:TE) (f:Str):TS:=fun D σ H=>tv σ H fun y H1=>ta σ H1 fun x H2=>∃ a C dx fs,x=.ref a/\H2 a=some (.ins C dx fs)/\Cls K C/\iV K C f/\fs.length < 1000 /\ D.nx σ (upd H2 a (.ins C dx (gM f y fs)))
section
variable {X:Cx} {o e value:Expr} {f:Str} {pos pos' tpos:Pos} {ta tv:TE}
theorem dM (he:PE X e ta) (hb:attributeBase e f X.env (eval e X.env)=eval e X.env):PE X (.Attribute e f pos) (adE X.K ta f):=by
 intro pins s σ H Q I h;refine Q6 hb (eX (he pins s σ H _ I h) fun u s1 ⟨x,H1,I1,rx,a,C,dx,fs,v,ex,ea,c,n,l,q⟩=>?_);subst ex;obtain rfl:u=Value.ref a:=rx;exact Dh I1 ea c n l fun u' s2 I2 ru=>⟨v,H1,I2,ru,q⟩
theorem pY (ha:PE X o ta) (hv:PE X value tv) (hs:swapsWith value (some (.Attribute o f pos')) pos.line X.env=pure false):PS X (.Assign [.Attribute o f pos'] value pos) (aii X.K ta tv f):=by
 intro pins s σ H D I h;refine plainObj_wpAny_Assign_Attribute (eX (hv pins s σ H _ I h) fun u s1 ⟨y,H1,I1,ry,q⟩=>eX (ha pins s1 σ H1 _ I1 q) fun ov s2 ⟨x,H2,I2,rx,a,C,dx,fs,ex,ea,c,n,l,q2⟩=>?_) hs;subst ex;obtain rfl:ov=Value.ref a:=rx;exact Di I2 ea c n l ry fun s3 I3=>⟨σ,_,I3,q2⟩
theorem TY {pl:Sem Bool} {m:Str} {apos:Pos} {args:List Expr} {pins:List (aB × Obj)} {s:aM} {σ:St} {H:Hp} {Q:aA->aM->Prop} {te:TE} (he:PE X e te) (I:Inv X pins σ H s) (h:te σ H fun x H1=>∃ a C dx fs g,x=.ref a/\H1 a=some (.ins C dx fs)/\Cls X.K C/\Meth X.K C m g/\fs.lookup m=none /\ ∀ s1,Inv X pins σ H1 s1->wpAny (model X.prog X.w) X.A (callWith pos (.ref g) [.ref a] (backTo pos (starEach args X.env)) (backToKw pos (keywordEach [] X.env))) Q X.xe s1) (ht:eval (.Call (.Attribute e m apos) args [] pos) X.env=(do
   let ov <- eval e X.env
   standAt apos.atName
   let (f,first) <- holding [ov] (getMethod ov m pl)
   callWith pos f first (backTo pos (starEach args X.env)) (backToKw pos (keywordEach [] X.env)))) :
  wpAny (model X.prog X.w) X.A (eval (.Call (.Attribute e m apos) args [] pos) X.env) Q X.xe s:=by
 refine methodCall_KW (pl:=pl) (eX (he pins s σ H _ I h) fun u s1 ⟨x,H1,I1,rx,a,C,dx,fs,g,ex,ea,c,k,l,q⟩=>?_) ht;subst ex;obtain rfl:u=Value.ref a:=rx;exact lO I1 ea c k l (q s1 I1)
end
section
variable {X:Cx} {pins:List (aB × Obj)} {σ:St} {H:Hp} {s:aM} {A:cW} {E:aA->aM->Prop} {Q:aA->aM->Prop} {c:aA} {b:Bool}
inductive pZ (K:Fg) (H:Hp):V->aA->Prop where
 | non:pZ K H .non (.type "NoneType")
 | bl (x:Bool):pZ K H (.bl x) (.type "bool")
 | int (i:Int):pZ K H (.int i) (.type "int")
 | str (x:Str):pZ K H (.str x) (.type "str")
 | flt (x:UInt64):pZ K H (.flt x) (.type "float")
 | lst {a:aB} {xs:List V} (e:H a=some (.lst xs)):pZ K H (.ref a) (.type "list")
 | z7 {a:aB} {o:Obj} {xs:List V} (e:H a=some (.z7 o (.lst xs))):pZ K H (.ref a) (.type "list")
 | tup {a:aB} {xs:List V} (e:H a=some (.tup xs)):pZ K H (.ref a) (.type "tuple")
 | dK {a:aB} {kvs:List (Key × V)} (e:H a=some (.dK kvs)):pZ K H (.ref a) (.type "dict")
 | dT {a:aB} {kvs:List (List Key × V)} (e:H a=some (.dT kvs)):pZ K H (.ref a) (.type "dict")
 | ins {a C dx:aB} {fs:List (Str × V)} (e:H a=some (.ins C dx fs)) (cl:Cls K C) (ha:findIn K (.ref C) "__class__"=some (some (.builtin "object.__class__"))) (hn:specialIn K (.builtin "object.__class__") "__get__"=some (some (.builtin "getset_descriptor.__get__"))) (htk:takesIn K (.builtin "object.__class__")=some true) (hm:mroIn K C (.type "object")=some true):pZ K H (.ref a) (.ref C)
theorem xq {x:V} {u t:aA} (I:Inv X pins σ H s) (rx:RelV x u) (ty:pZ X.K H x t) (e:kitOne X.K t c=some b) (h:∀ tk,Q (.bool b) { s with toks:=tk }) : wpAny (model X.prog X.w) A (call (.builtin "isinstance") [u,c]) Q E s:=by
 cases ty with
 | non=>cases (show u=Value.none from rx); exact kia_one PySem.W.kitx_none I.nj True.intro e (fun z=>nomatch z) h
 | bl y=>cases (show u=Value.bool y from rx); exact kia_one PySem.W.kitx_bool I.nj True.intro e (fun z=>nomatch z) h
 | int i=>obtain ⟨t,q⟩:=(show ∃ t,u=Value.int i t from rx); cases q; exact kia_one PySem.W.kitx_int I.nj True.intro e (fun z=>nomatch z) h
 | str y=>obtain ⟨t,q⟩:=(show ∃ t,u=Value.str y t from rx); cases q; exact kia_one PySem.W.kitx_str I.nj True.intro e (fun z=>nomatch z) h
 | flt y=>obtain ⟨t,q⟩:=(show ∃ t,u=Value.float y t from rx); cases q; exact kia_one PySem.W.kitx_float I.nj True.intro e (fun z=>nomatch z) h
 | @lst a xs ea =>
  cases (show u=Value.ref a from rx);obtain ⟨_,_,n,_,h1⟩:=(show eV X.prog X.w H s.heap a (.lst xs) from I.hok a _ ea);exact kia_one kitx_list I.nj ⟨_,h1,rfl⟩ e (fun z=>nomatch z) h
 | @z7 a ob xs ea =>
  cases (show u=Value.ref a from rx);obtain ⟨_,_,_,n,_,h1⟩:=(show eV X.prog X.w H s.heap a (.z7 ob (.lst xs)) from I.hok a _ ea);exact kia_one kitx_list I.nj ⟨_,h1,rfl⟩ e (fun z=>nomatch z) h
 | @tup a xs ea =>
  cases (show u=Value.ref a from rx);obtain ⟨_,_,_,p⟩:=(show eV X.prog X.w H s.heap a (.tup xs) from I.hok a _ ea);obtain ⟨o,h1,h2,_⟩:=p;exact kia_one PySem.W.kitx_tuple I.nj ⟨o,h1,h2⟩ e (fun z=>nomatch z) h
 | @dK a kvs ea =>
  cases (show u=Value.ref a from rx);obtain ⟨_,_,vs,_,p⟩:=(show eV X.prog X.w H s.heap a (.dK kvs) from I.hok a _ ea);obtain ⟨o,es,ep,h1,h2,_⟩:=p;exact kia_one kitx_dict I.nj ⟨o,h1,h2.1⟩ e (fun z=>nomatch z) h
 | @dT a kvs ea =>
  cases (show u=Value.ref a from rx);obtain ⟨_,_,xs,_,o,es,ep,h1,h2,_⟩:=(show eV X.prog X.w H s.heap a (.dT kvs) from I.hok a _ ea);exact kia_one kitx_dict I.nj ⟨o,h1,h2.1⟩ e (fun z=>nomatch z) h
 | @ins a C dx fs ea cl ha hn htk hm =>
  cases (show u=Value.ref a from rx);obtain ⟨mA,O,_⟩:=uw I.hok ea;obtain ⟨od,J,_⟩:=O.look;exact kia_one (PySem.W.kitx_own (cl.get _) cl.hd ha hn htk hm) I.nj J e (fun z=>nomatch z) h
end
structure eO (k:Nat) (A:cW):Prop where
 hd:A.handled=none
 dp:A.depth + 3 * k + 5 < recursionLimit
 un:A.units + 16 * k + 200 < cLine
theorem eO.mono {j k:Nat} {A:cW} (r:eO k A) (h:j<=k):eO j A:=⟨r.hd,by have:=r.dp; omega,by have:=r.un; omega⟩
theorem eO.deeper {k:Nat} {A:cW} (r:eO (k + 1) A) (env:Env):eO k (A.deeper env) := ⟨r.hd,by have:=r.dp; show A.depth + 1 + 3 * k + 5 < _; omega,by have:=r.un; show A.units + 3 + 16 * k + 200 < _; omega⟩
theorem Dj {A:cW} {C:aB} {us:List aA} {kw:List (Str × aA)}:(A.under (.builtin "type.__call__" ⟨.ref C::us,kw⟩)).depth=A.depth + 1:=by
 first | rfl | simp [Around.under,Code.weight,Code.isCreation,Code.isGuard,Code.isCaller,Code.frames,Code.isFrame,guardIds]
theorem Dk {A:cW} {C:aB} {us:List aA} {kw:List (Str × aA)}:(A.under (.builtin "type.__call__" ⟨.ref C::us,kw⟩)).units=A.units + 1:=by
 first | rfl | simp [Around.under,Code.cUnits,Code.frames,Code.isFrame]
theorem eO.make {k:Nat} {A:cW} (r:eO (k + 1) A) (C:aB) (us:List aA) (kw:List (Str × aA)):eO k (A.under (.builtin "type.__call__" ⟨.ref C::us,kw⟩)) := ⟨r.hd,by have:=r.dp; rw [Dj]; omega,by have:=r.un; rw [Dk]; omega⟩
theorem eO.depth {k:Nat} {A:cW} (r:eO k A):A.depth < recursionLimit:=by have:=r.dp; omega
theorem eO.units {k:Nat} {A:cW} (r:eO k A):A.units + 64 < cLine:=by have:=r.un; omega
def JT:TA:=fun _ H Q=>Q [] H
def Af (ta:TE) (tr:TA):TA:=fun σ H Q=>ta σ H fun x H1=>tr σ H1 fun xs H2=>Q (x::xs) H2
section
variable {X:Cx} {e:Expr} {es:List Expr} {te:TE} {t:TA} {pos:Pos}
theorem aD:PA X [] JT:=fun _ _ _ _ H Q I h=>Calls.spliced_nil ⟨[],H,I,.nil,h⟩
theorem ao (ha:PE X e te) (hr:PA X es t) (hs:autoParam (starEach (e::es) X.env=(false,eval e X.env)::starEach es X.env) zau0):PA X (e::es) (Af te t):=by
 intro pos pins s σ H Q I h;rw [hs]
 show wpAny _ _ (spliced ((false,eval e X.env)::backTo pos (starEach es X.env))) _ _ s
 refine Calls.spliced_cons (eX (ha pins s σ H _ I h) fun u s1 ⟨x,H1,I1,r1,q1⟩=>?_);exact eX (hr pos pins s1 σ H1 _ I1 q1) fun us s2 ⟨xs,H2,I2,r2,q2⟩=>⟨x::xs,H2,I2,.cons r1 r2,q2⟩
def aij (t:TA):TE:=fun σ H Q=>t σ H fun xs H1=>xs.length<=sizeLine/\∀ p,H1 p=none->Q (.ref p) (upd H1 p (.tup xs))
def aik (t:TA):TE:=fun σ H Q=>t σ H fun xs H1=>xs.length<=sizeLine/\∀ p,H1 p=none->Q (.ref p) (upd H1 p (.lst xs))
theorem gb {x1} (h:PA X es t):PE X (.Tuple es x1 pos) (aij t):=by
 intro pins s σ H Q I hq;refine wpAny_Tuple_spliced (eX (h pos pins s σ H _ I hq) fun us s1 ⟨xs,H1,I1,r,z,q⟩=>⟨by rw [<- r.length]; exact z,?_⟩);have hf:H1 s1.heap.objs.size=none:=I1.hok.fresh (aJ _);refine ⟨.ref s1.heap.objs.size,upd H1 s1.heap.objs.size (.tup xs),I1.laid (t':=s1.toks) (fun b u e=>au _ e) (aJ _) ?_,rfl,q _ hf⟩;exact ⟨z,us,r,⟨_,aC _ rfl,rfl,_,rfl⟩⟩
theorem fY (h:PA X es t):PE X (.List es pos) (aik t):=by
 intro pins s σ H Q I hq;refine wpAny_List_spliced (eX (h pos pins s σ H _ I hq) fun us s1 ⟨xs,H1,I1,r,z,q⟩=>⟨by rw [<- r.length]; exact z,?_⟩);have hf:H1 s1.heap.objs.size=none:=I1.hok.fresh (aJ _);refine ⟨.ref s1.heap.objs.size,upd H1 s1.heap.objs.size (.lst xs),I1.laid (t':=s1.toks) (fun b u e=>au _ e) (aJ _) ?_,rfl,q _ hf⟩;exact ⟨z,us,0,r,aC _ rfl⟩
end
abbrev Sp:=List V->Hp->VK->XK->Prop
abbrev Ag:=List Env->Hp->aM->XK->aA->aM->Prop
structure Dm (P:cg) (w:World) (K:Fg) (mg:Str->Option aA) (base:Heap) (A:cW) (outer:List Env) (s:aM) (H:Hp):Prop where
 frames:A.frames=some outer
 mod:Mod K mg base
 bs:∀ b o,base.get? b=some o->s.heap.get? b=some o/\H b=none
 N7:base.objs.size<=s.heap.objs.size
 rE:s.heap.FunFrames base outer
 YL:∀ b ∈ frs outer,H b=none
 hok:rB P w H s.heap
 bare:AllBare s.gens
def CE (outer:List Env) (P:cg) (w:World) (H:Hp) (s:aM) (Q:VK) (u:aA) (s':aM):Prop := ∃ v H',s'.os=s.os/\AllBare s'.gens/\Un (frs outer) [] H H' s.heap s'.heap/\rB P w H' s'.heap/\RelV v u/\Q v H'
noncomputable def CR (CX:Ag) (outer:List Env) (P:cg) (w:World) (H:Hp) (s:aM) (Q:VK) (E:XK) (r:Result) (s':aM):Prop := match r with
 | .ok (.ret u)=>CE outer P w H s Q u s'
 | .ok _=>False
 | .error e=>CX outer H s E e s'
structure cB (P:cg) (w:World) (K:Fg) (mg:Str->Option aA) (base:Heap) (CX:Ag) (k:Nat) (f:aB) (fd:d9) (ps:List Str) (sp:Sp):Prop where
 len:∀ vs H Q E,sp vs H Q E->vs.length=ps.length
 run:∀ (A:cW) (outer:List Env) (s:aM) (H:Hp) (args:Args) (us:List aA) (vs:List V) (Q:VK) (E:XK),eO k A->Dm P w K mg base A outer s H->BindsTo s fd args (ps.zip us)->Vals vs us->sp vs H Q E -> codeAny (model P w) A (.call (.ref f) args) (CR CX outer P w H s Q E) s
theorem cB.mono {P:cg} {w:World} {K:Fg} {mg:Str->Option aA} {base:Heap} {CX:Ag} {j k:Nat} {f:aB} {fd:d9} {ps:List Str} {sp:Sp} (F:cB P w K mg base CX j f fd ps sp) (h:j<=k) : cB P w K mg base CX k f fd ps sp:=⟨F.len,fun A outer s H args us vs Q E hr=>F.run A outer s H args us vs Q E (hr.mono h)⟩
theorem Dm.make {P:cg} {w:World} {K:Fg} {mg:Str->Option aA} {base:Heap} {A:cW} {outer:List Env} {s:aM} {H:Hp} (e:Dm P w K mg base A outer s H) (C:aB) (us:List aA) (kw:List (Str × aA)) : Dm P w K mg base (A.under (.builtin "type.__call__" ⟨.ref C::us,kw⟩)) outer s H:=⟨by first | exact e.frames | (simpa [Around.under,Code.envs,Code.isFrame,pushEnvs] using e.frames),e.mod,e.bs,e.N7,e.rE,e.YL,e.hok,e.bare⟩
section
variable {X:Cx} {pins:List (aB × Obj)} {σ:St} {H:Hp} {s s':aM}
theorem Inv.env0 (I:Inv X pins σ H s):Dm X.prog X.w X.K X.mg X.base X.A X.stack s H := ⟨I.ok.frames,I.ok.mod,I.bs,bw I.ok.N7 I.sz,I.stack,I.yI,I.hok,I.bare⟩
theorem Inv.after {Q:VK} {u:aA} (I:Inv X pins σ H s) (h:CE X.stack X.prog X.w H s Q u s'):EP X pins σ Q u s':=by
 obtain ⟨v,H',os,bare,un,hok,r,q⟩:=h;obtain ⟨hh,g,d,t,os'⟩:=s';obtain rfl:os'=s.os:=os;exact ⟨v,H',I.call (h':=hh) (g':=g) (d':=d) (t':=t) (ch:=[]) un hok bare (fun b z=>absurd z (by simp)),r,q⟩
end
def JV (sp:Sp) (uy:List V) (E:XK) (t:TA):TE:=fun σ H Q=>t σ H fun vs H1=>sp (vs++uy) H1 Q E
noncomputable def adF (C:aB) (m:Str) (sp:Sp) (uy:List V) (E:XK) (ta:TE) (t:TA):TE:=fun σ H Q=>ta σ H fun x H1=>∃ a dx fs,x=.ref a/\H1 a=some (.ins C dx fs)/\fs.lookup m=none /\ t σ H1 fun vs H2=>sp (x::(vs++uy)) H2 Q E
noncomputable def T3 (C:aB) (sp:Sp) (uy:List V) (E:XK) (t:TA):TE:=fun σ H Q=>t σ H fun vs H1=>∀ x dx,H1 x=none->H1 dx=none->dx≠x -> sp (.ref x::(vs++uy)) (upd (upd H1 dx (.own x)) x (.ins C dx [])) (fun v H2=>v=.non/\Q (.ref x) H2) E
def Binds (K:Fg) (fd:d9) (ps:List Str) (ds:List aA):Prop := ∀ (s:aM) (us:List aA),K.In s.heap->(us++ds).length=ps.length->BindsTo s fd ⟨us,[]⟩ (ps.zip (us++ds))
theorem Binds.all {K:Fg} {fd:d9} {ps:List Str} (h:∀ us:List aA,us.length=ps.length->bindArgs fd ⟨us,[]⟩=pure (ps.zip us)):Binds K fd ps []:=fun s us _ hl=>by
 rw [bZ] at hl ⊢;exact .of_eq (h us hl)
def Passes (CX:Ag) (X:Cx) (E:XK):Prop:=∀ (pins:List (aB × Obj)) (σ:St) (H:Hp) (s:aM) (e:aA) (s':aM),Inv X pins σ H s->CX X.stack H s E e s'->X.xe e s'
section
variable {X:Cx} {CX:Ag} {k:Nat} {f C:aB} {fd:d9} {ps:List Str} {sp:Sp} {uy:List V} {ds:List aA} {E:XK} {x m:Str} {p pos apos:Pos} {e o:Expr} {es:List Expr} {ta:TE} {t:TA}
theorem uX {pins:List (aB × Obj)} {σ:St} {H:Hp} {s:aM} {Q:VK} {us:List aA} {vs:List V} (F:cB X.prog X.w X.K X.mg X.base CX k f fd ps sp) (hr:eO k X.A) (hb:Binds X.K fd ps ds) (hd:Vals uy ds) (hx:Passes CX X E) (I:Inv X pins σ H s) (r:Vals vs us) (h:sp (vs++uy) H Q E):wpAny (model X.prog X.w) X.A (call (.ref f) us) (EP X pins σ Q) X.xe s:=by
 have r2:Vals (vs++uy) (us++ds):=r.append hd;have hl:(us++ds).length=ps.length:=by rw [<- r2.length]; exact F.len _ _ _ _ h
 refine wpAny_call (cH (F.run X.A X.stack s H ⟨us,[]⟩ (us++ds) (vs++uy) Q E hr I.env0 (hb s us I.nj hl) r2 h) fun r s' hq=>?_);cases r with
 | error e=>exact hx pins σ H s e s' I hq
 | ok fl =>
  cases fl with
  | ret u=>exact I.after hq
  | next=>exact False.elim hq
  | brk=>exact False.elim hq
  | cont=>exact False.elim hq
theorem yN (F:cB X.prog X.w X.K X.mg X.base CX k f fd ps sp) (hr:eO k X.A) (hg:Gl X x) (hm:X.mg x=some (.ref f)) (hk:keepIn X.K (.ref f)=true) (hb:Binds X.K fd ps ds) (hd:Vals uy ds) (hx:Passes CX X E) (ha:PA X (e::es) t) (hdb:autoParam ((x == ("__debug__":Str))=false) zau1) (he:autoParam (starEach (e::es) X.env=(false,eval e X.env)::starEach es X.env) zau0) (hpl:autoParam ((backTo pos (starEach es X.env)).any (·.1)=false) zau0) : PE X (.Call (.Name x p) (e::es) [] pos) (JV sp uy E t):=by
 intro pins s σ H Q I h;refine wpAny_Call_Name_kw (j5 I hg hm ?_ hdb);refine callWith_K (h₀:=X.base) I.ok.mod.Hz hk (eX (ha pos pins s σ H _ I h) fun us s1 ⟨vs,H1,I1,r,q⟩=>⟨I1.nj,?_⟩) he hpl;exact uX F hr hb hd hx I1 r q
theorem JW {pl:Sem Bool} (he:PE X o ta) (c:Cls X.K C) (hm:Meth X.K C m f) (F:cB X.prog X.w X.K X.mg X.base CX k f fd ps sp) (hr:eO k X.A) (hb:Binds X.K fd ps ds) (hd:Vals uy ds) (hx:Passes CX X E) (ht:autoParam (eval (.Call (.Attribute o m apos) [] [] pos) X.env=(do
   let ov <- eval o X.env
   standAt apos.atName
   let (f,first) <- holding [ov] (getMethod ov m pl)
   callWith pos f first (backTo pos (starEach [] X.env)) (backToKw pos (keywordEach [] X.env)))) zau0) :
  PE X (.Call (.Attribute o m apos) [] [] pos) (adF C m sp uy E ta JT):=by
 intro pins s σ H Q I h;refine methodCall_KW (pl:=pl) (eX (he pins s σ H _ I h) fun u s1 ⟨x,H1,I1,rx,a,dx,fs,ex,ea,l,q⟩=>?_) ht;subst ex;obtain rfl:u=Value.ref a:=rx;refine lO I1 ea c hm l ?_;exact callWith_K0 (first:=[.ref a]) I1.nj hm.kp (uX (us:=[.ref a]) (vs:=[.ref a]) F hr hb hd hx I1 (.cons rfl .nil) q)
structure Mk (K:Fg) (C f:aB):Prop where
 makes:makesIn K C=true
 init:findIn K (.ref C) "__init__"=some (some (.ref f))
 fn:isFn K (.ref f)=true
 kp:keepIn K (.ref C)=true
theorem JX {pins:List (aB × Obj)} {σ:St} {H:Hp} {s:aM} {Q:VK} {us:List aA} {vs:List V} (M:Mk X.K C f) (F:cB X.prog X.w X.K X.mg X.base CX k f fd ps sp) (hr:eO (k + 1) X.A) (hb:Binds X.K fd ps ds) (hd:Vals uy ds) (hx:Passes CX X E) (I:Inv X pins σ H s) (r:Vals vs us) (h:∀ x dx,H x=none->H dx=none->dx≠x->sp (.ref x::(vs++uy)) (upd (upd H dx (.own x)) x (.ins C dx [])) (fun v H2=>v=.non/\Q (.ref x) H2) E) : wpAny (model X.prog X.w) X.A (call (.ref C) us) (EP X pins σ Q) X.xe s:=by
 have hq:=h (s.heap.objs.size + 1) s.heap.objs.size (I.hok.fresh (Nat.le_succ _)) (I.hok.fresh (aJ _)) (Nat.ne_of_lt (Nat.lt_succ_self _));have I2:=Inv.made (C:=C) I;have r2:Vals (V.ref (s.heap.objs.size + 1)::(vs++uy)) (Value.ref (s.heap.objs.size + 1)::(us++ds)):=.cons rfl (r.append hd);have hl:(Value.ref (s.heap.objs.size + 1)::us++ds).length=ps.length:=by
  have e:=r2.length;rw [F.len _ _ _ _ hq] at e;exact e.symm
 refine wpAny_call (JR (f:=f) I.nj M.makes M.init (beq_iff_eq.mp M.fn) (cH (F.run _ X.stack _ _ ⟨Value.ref (s.heap.objs.size + 1)::us,[]⟩ (Value.ref (s.heap.objs.size + 1)::(us++ds)) _ _ E (hr.make C us []) (I2.env0.make C us []) (hb _ (Value.ref (s.heap.objs.size + 1)::us) I2.nj hl) r2 hq) fun r s' hq'=>?_));cases r with
 | error e=>exact hx pins σ _ _ e s' I2 hq'
 | ok fl =>
  cases fl with
  | ret u =>
   obtain ⟨v,H',I3,rv,ev,q3⟩:=I2.after hq';subst ev;exact ⟨rv,⟨V.ref (s.heap.objs.size + 1),H',I3,rfl,q3⟩⟩
  | next=>exact False.elim hq'
  | brk=>exact False.elim hq'
  | cont=>exact False.elim hq'
theorem Q7 (M:Mk X.K C f) (F:cB X.prog X.w X.K X.mg X.base CX k f fd ps sp) (hr:eO (k + 1) X.A) (hg:Gl X x) (hm:X.mg x=some (.ref C)) (hb:Binds X.K fd ps ds) (hd:Vals uy ds) (hx:Passes CX X E) (ha:PA X (e::es) t) (hdb:autoParam ((x == ("__debug__":Str))=false) zau1) (he:autoParam (starEach (e::es) X.env=(false,eval e X.env)::starEach es X.env) zau0) (hpl:autoParam ((backTo pos (starEach es X.env)).any (·.1)=false) zau0) : PE X (.Call (.Name x p) (e::es) [] pos) (T3 C sp uy E t):=by
 intro pins s σ H Q I h;refine wpAny_Call_Name_kw (j5 I hg hm ?_ hdb);refine callWith_K (h₀:=X.base) I.ok.mod.Hz M.kp (eX (ha pos pins s σ H _ I h) fun us s1 ⟨vs,H1,I1,r,q⟩=>⟨I1.nj,?_⟩) he hpl;exact JX M F hr hb hd hx I1 r q
end
section
variable {X:Cx} {CX:Ag} {k:Nat} {f C:aB} {fd:d9} {ps ks:List Str} {sp:Sp} {E:XK} {x m:Str} {p pos apos kpos:Pos} {e o:Expr} {es:List Expr} {kws:List Keyword} {te ta:TE} {t tk:TA} {nm:Option Str}
variable {g:List aA->List aA->List aA} {gV:List V->List V->List V}
end
structure bY (N P:List Str) (sc:Scope):Prop where
 kind:sc.kind=.function
 co:sc.isCoroutine=false
 gen:sc.isGenerator=false
 nd:N.Nodup
 pre:N.take P.length=P
 par:∀ x ∈ P,sc.names.lookup x=some .local\/sc.names.lookup x=some .cell
 Y8:∀ y ∈ sc.names,y.2≠.free
theorem dX {N P:List Str} {sc:Scope} (h:sc.kind=.function/\sc.isCoroutine=false/\sc.isGenerator=false/\N.Nodup/\N.take P.length=P/\(∀ x ∈ P,sc.names.lookup x=some .local\/sc.names.lookup x=some .cell)/\∀ y ∈ sc.names,y.2≠.free):bY N P sc:=⟨h.1,h.2.1,h.2.2.1,h.2.2.2.1,h.2.2.2.2.1,h.2.2.2.2.2.1,h.2.2.2.2.2.2⟩
theorem xr {kindOf:Str->Option NameKind} {x:Str}:∀ {binds:List (Str × aA)} {m:Str->Option aA},(∀ v,(x,v) ∉ binds)->bindL kindOf binds m x=m x
 | [],_,_=>rfl
 | (n,v)::r,m,h=>by
  unfold bindL;rw [xr fun w hw=>h w (mem_cons_of_mem _ hw)]
  split
  ·have:x≠n:=by rintro rfl; exact h v mem_cons_self
   simp [this]
  ·rfl
theorem xu {kindOf:Str->Option NameKind} {x:Str}:∀ {binds:List (Str × aA)} {m:Str->Option aA},(∀ v,(x,v) ∉ binds)->bindC kindOf binds m x=m x
 | [],_,_=>rfl
 | (n,v)::r,m,h=>by
  unfold bindC;rw [xu fun w hw=>h w (mem_cons_of_mem _ hw)]
  split
  ·rfl
  ·have:x≠n:=by rintro rfl; exact h v mem_cons_self
   simp [this]
theorem xG {kindOf:Str->Option NameKind} {x:Str} {v:aA}:∀ {P:List Str} {vs:List aA} {i:Nat} {m:Str->Option aA},P.Nodup->P[i]?=some x->vs[i]?=some v->kindOf x=some .local -> bindL kindOf (P.zip vs) m x=some v
 | [],_,_,_,_,h,_,_=>by simp at h
 | _::_,[],_,_,_,_,h,_=>by simp at h
 | p::P,w::vs,0,m,nd,h1,h2,hk=>by
  simp at h1 h2; subst h1; subst h2
  show bindL kindOf ((p,w)::P.zip vs) m p=_
  unfold bindL;rw [xr fun v hv=>(nodup_cons.mp nd).1 (of_mem_zip hv).1,if_pos hk];simp
 | p::P,w::vs,i + 1,m,nd,h1,h2,hk=>by
  show bindL kindOf ((p,w)::P.zip vs) m x=_
  unfold bindL;exact xG (i:=i) (nodup_cons.mp nd).2 (by simpa using h1) (by simpa using h2) hk
theorem xH {kindOf:Str->Option NameKind} {x:Str} {v:aA}:∀ {P:List Str} {vs:List aA} {i:Nat} {m:Str->Option aA},P.Nodup->P[i]?=some x->vs[i]?=some v->kindOf x≠some .local -> bindC kindOf (P.zip vs) m x=some v
 | [],_,_,_,_,h,_,_=>by simp at h
 | _::_,[],_,_,_,_,h,_=>by simp at h
 | p::P,w::vs,0,m,nd,h1,h2,hk=>by
  simp at h1 h2; subst h1; subst h2
  show bindC kindOf ((p,w)::P.zip vs) m p=_
  unfold bindC;rw [xu fun v hv=>(nodup_cons.mp nd).1 (of_mem_zip hv).1,if_neg hk];simp
 | p::P,w::vs,i + 1,m,nd,h1,h2,hk=>by
  show bindC kindOf ((p,w)::P.zip vs) m x=_
  unfold bindC;exact xH (i:=i) (nodup_cons.mp nd).2 (by simpa using h1) (by simpa using h2) hk
def start (N:List Str) (vs:List V):St:=vs.map some++List.replicate (N.length - vs.length) none
noncomputable def p7 (CX:Ag) (P:cg) (w:World) (K:Fg) (mg:Str->Option aA) (base:Heap) (N:List Str) (qual:Str) (scope:Scope) (f:aB) (cd:aA) (A:cW) (outer:List Env) (s:aM) (H:Hp) (E:XK):Cx where
 prog:=P
 w:=w
 K:=K
 mg:=mg
 base:=base
 A:=A.deeper (envOfC qual scope s.heap.objs.size f cd)
 N:=N
 s₀:=s
 H₀:=H
 env:=envOfC qual scope s.heap.objs.size f cd
 outer:=outer
 stack:=envOfC qual scope s.heap.objs.size f cd::outer
 ex:=[]
 calm:=true
 fn:=fun _=>true
 pn:=[]
 xe:=fun e s'=>wpAny (model P w) (A.deeper (envOfC qual scope s.heap.objs.size f cd)) (leaving (envOfC qual scope s.heap.objs.size f cd) e) (fun _ s''=>CX outer H s E e s'') (fun e' s''=>CX outer H s E e' s'') s'
theorem Ah {sc:Scope} {n:Nat} {x:Str} (h:sc.names.lookup x=some .cell):∃ c,(cellsFrom n sc.names []).lookup x=some c:=by
 have q:=PySem.W.cellsFrom_some sc.names n [] (.inl h);exact Option.isSome_iff_exists.mp q
theorem HX {CX:Ag} {P:cg} {w:World} {K:Fg} {mg:Str->Option aA} {base:Heap} {N ps:List Str} {qual:Str} {scope:Scope} {f:aB} {cd:aA} {A:cW} {outer:List Env} {s s1:aM} {H:Hp} {E:XK} {us:List aA} {vs:List V} (S:bY N ps scope) (hd:A.handled=none) (e0:Dm P w K mg base A outer s H) (hl:vs.length=ps.length) (r:Vals vs us) (x:InCallC s s.heap.objs.size (bindL (envOfC qual scope s.heap.objs.size f cd).kindOf (ps.zip us) fun _=>none) (cellsFrom (s.heap.objs.size + 1) scope.names []) (bindC (envOfC qual scope s.heap.objs.size f cd).kindOf (ps.zip us) fun _=>none) s1) : Inv (p7 CX P w K mg base N qual scope f cd A outer s H E) [] (start N vs) H s1:=by
 have hpl:ps.length<=N.length:=by have:=congrArg List.length S.pre; rw [length_take] at this; omega
 obtain ⟨h1,tk,rfl,hk⟩:=x.done;have noA:∀ b:aB,b ∉ (p7 CX P w K mg base N qual scope f cd A outer s H E).ex:=fun b z=>absurd (show b ∈ ([]:List aB) from z) (by simp)
 refine ⟨⟨e0.mod,S.kind,rfl,rfl,aJ _,fun y z c h1 h2=>?_,fun y hy=>?_,fun y c _ h=>?_,fun _=>hd,Around.frames_deeper e0.frames,.inr ⟨rfl,rfl⟩,fun b z=>absurd z (noA b),e0.bs,e0.N7,fun b _ _=>noA b,fun b z=>absurd z (noA b),e0.rE,e0.YL⟩,rfl,e0.bare,Un.kept hk,⟨_,x.toInCall.ns,fun i y v h1 h2 h3=>?_⟩,fun y c h=>⟨_,x.cell y c h⟩,e0.hok.fresh (aJ _),fun y c h=>?_,fun p hp=>absurd (show p ∈ ([]:List (aB × Obj)) from hp) (by simp),e0.hok.kept hk,?_⟩
 ·exact name_of_addr x.apart (PySem.mem_of_lookup h1) (PySem.mem_of_lookup h2)
 ·have hy:scope.names.lookup y=some .cell\/scope.names.lookup y=some .free:=hy;rcases hy with hy | hy
  ·exact Ah hy
  ·exact absurd rfl (S.Y8 _ (PySem.mem_of_lookup hy))
 ·exact Nat.le_of_lt (x.above y c (PySem.mem_of_lookup h))
 ·have hi:i < vs.length:=by
   unfold start at h2
   by_cases hi:i < vs.length
   ·exact hi
   ·rw [List.getElem?_append_right (by simpa using hi)] at h2;rw [List.getElem?_replicate] at h2
    split at h2 <;> cases h2
  have ha:vs[i]?=some v:=by
   unfold start at h2;rw [List.getElem?_append_left (by simpa using hi),aU] at h2;cases e:vs[i]? with
   | none=>rw [e] at h2; cases h2
   | some a=>rw [e] at h2; cases h2; rfl
  obtain ⟨u,hu,rv⟩:=r.get ha;have hp:ps[i]?=some y:=by
   rw [<- S.pre,List.getElem?_take_of_lt (by omega)]; exact h1
  have ndP:ps.Nodup:=by rw [<- S.pre]; exact S.nd.sublist (List.take_sublist _ _)
  refine ⟨u,rv,?_⟩;rcases S.par y (aW hp) with k | k
  ·exact .inl ⟨k,xG ndP hp hu k⟩
  ·obtain ⟨c,e⟩:=Ah (n:=s.heap.objs.size + 1) k;refine .inr ⟨.inl k,c,e,?_⟩;have q:=x.cell y c e;rw [xH ndP hp hu (by show scope.names.lookup y≠_; rw [k]; decide)] at q;exact q
 ·exact e0.hok.fresh (Nat.le_of_lt (x.above y c (PySem.mem_of_lookup h)))
 ·unfold start
  show _=N.length
  rw [aR,aq,length_replicate];omega
theorem T4 {CX:Ag} {P:cg} {w:World} {K:Fg} {mg:Str->Option aA} {base:Heap} {k:Nat} {f:aB} {name qual:Str} {params:Arguments} {body:List cV} {scope:Scope} {dV kV doc pm cdv ct oc:aA} {an od:Option aB} {osl:Array (Option aA)} {N ps:List Str} {sp:Sp} (lk:K.lookup f=some ⟨oc,od,.func (fnOf name qual params body scope dV kV doc pm an cdv ct),osl⟩) (hcd:codeIn K cdv qual=true) (S:bY N ps scope) (len:∀ vs H Q E,sp vs H Q E->vs.length=ps.length) (hbody:∀ (A:cW) (outer:List Env) (s:aM) (H:Hp) (vs:List V) (Q:VK) (E:XK),eO k (A.deeper (envOfC qual scope s.heap.objs.size f cdv))->sp vs H Q E -> ∃ t,z9 (p7 CX P w K mg base N qual scope f cdv A outer s H E) body t/\t { nx:=fun _ H'=>Q .non H',rt:=Q } (start N vs) H) : cB P w K mg base CX (k + 1) f (fnOf name qual params body scope dV kV doc pm an cdv ct) ps sp:=by
 refine ⟨len,fun A outer s H args us vs Q E hr e0 hb r hsp=>?_⟩;have hl:=len _ _ _ _ hsp;have KX:K.In s.heap:=e0.mod.Hz.keeps fun b o e=>(e0.bs b o e).1
 have lim:s.heap.NoLimit:=e0.mod.nolimit.keeps fun b o e=>(e0.bs b o e).1
 have hkind:∀ y ∈ ps.zip us,scope.names.lookup y.1=some .local\/(scope.names.lookup y.1=some .cell/\((cellsFrom (s.heap.objs.size + 1) scope.names []).lookup y.1).isSome=true):=fun ⟨n,v⟩ hy=>by
  rcases S.par n (of_mem_zip hy).1 with q | q
  ·exact .inl q
  ·exact .inr ⟨q,PySem.W.cellsFrom_some _ _ _ (.inl q)⟩
 refine codeAny_call_function hr.depth (KX _ _ lk) rfl S.co S.gen rfl (PySem.W.codeRec_of KX hcd) (hb _ _ _ _ ?_);refine wpAny_newFunctionEnv_cells S.kind hkind fun env he s1 x=>?_
 subst he;refine ⟨lim.keeps x.toInCall.keep,codeAny_func ?_⟩;obtain ⟨t,ht,hq⟩:=hbody A outer s H vs Q E (hr.deeper _) hsp;have I:Inv (p7 CX P w K mg base N qual scope f cdv A outer s H E) [] (start N vs) H s1:=HX S hr.hd e0 hl r x;refine cM (ht [] s1 (start N vs) H _ I hq) (fun fl s' hs=>?_) fun e s' hs=>hs
 have fin:∀ {σ':St} {H':Hp} {v:V} {u:aA},Inv (p7 CX P w K mg base N qual scope f cdv A outer s H E) [] σ' H' s'->RelV v u->Q v H'->CE outer P w H s Q u s' :=
  fun {σ' H' v u} J rv q=>⟨v,H',J.os,J.bare,J.base,J.hok,rv,q⟩
 cases fl with
 | ret u =>
  obtain ⟨v,σ',H',J,rv,q⟩:=hs;exact fin J rv q
 | next =>
  obtain ⟨σ',H',J,q⟩:=hs;exact fin (v:=V.non) (u:=Value.none) J rfl q
 | brk =>
  obtain ⟨_,_,_,q⟩:=hs;exact False.elim q
 | cont =>
  obtain ⟨_,_,_,q⟩:=hs;exact False.elim q
section
variable {X:Cx} {x:Str} {p pos:Pos} {e:Expr} {es:List Expr} {t:TA} {id T:String} {r:List V->Hp->VK->Prop}
def tCB (r:List V->Hp->VK->Prop) (t:TA):TE:=fun σ H Q=>t σ H fun vs H1=>r vs H1 Q
theorem uY (hc:gq X (.builtin id) r) (hg:Gl X x) (hm:X.mg x=none) (hv:bootBuiltins x=some (.builtin id)) (ha:PA X (e::es) t) (hn:autoParam (x≠"__name__") zau1) (hdb:autoParam ((x == ("__debug__":Str))=false) zau1) (he:autoParam (starEach (e::es) X.env=(false,eval e X.env)::starEach es X.env) zau0) (hpl:autoParam ((backTo pos (starEach es X.env)).any (·.1)=false) zau0):PE X (.Call (.Name x p) (e::es) [] pos) (tCB r t):=by
 intro pins s σ H Q I h;refine wpAny_Call_Name_kw (uR I hg hm hv ?_ hn hdb);exact callWith_builtin1 (eX (ha pos pins s σ H _ I h) fun us s1 ⟨vs,H1,I1,r1,q1⟩=>hc pins s1 σ H1 vs us Q I1 r1 q1) he hpl
theorem HY (hc:gq X (.type T) r) (hg:Gl X x) (hm:X.mg x=none) (hv:bootBuiltins x=some (.type T)) (ha:PA X (e::es) t) (hn:autoParam (x≠"__name__") zau1) (hdb:autoParam ((x == ("__debug__":Str))=false) zau1) (he:autoParam (starEach (e::es) X.env=(false,eval e X.env)::starEach es X.env) zau0) (hpl:autoParam ((backTo pos (starEach es X.env)).any (·.1)=false) zau0):PE X (.Call (.Name x p) (e::es) [] pos) (tCB r t):=by
 intro pins s σ H Q I h;refine wpAny_Call_Name_kw (uR I hg hm hv ?_ hn hdb);exact callWith_type1 (eX (ha pos pins s σ H _ I h) fun us s1 ⟨vs,H1,I1,r1,q1⟩=>hc pins s1 σ H1 vs us Q I1 r1 q1) he hpl
end
end L2
namespace HT
open PySem PyProof.Rows
section
open PySem.SeqAt
open PySem.AutoSeq1 (wpAny_loadPart')
open PySem.MeetsSeq PySem.MeetsSeq2 PySem.MeetsSeq3
end
section
variable {prog:cg} {w:World} {A:cW} {E:aA->aM->Prop} {s:aM}
def iW (n d:Nat):Option Int->Nat
 | none=>d
 | some v=>if v < 0 then (v + (n:Int)).toNat else min v.toNat n
theorem JZ (n d:Nat):iW n d none=d:=rfl
theorem Gm (n d k:Nat):iW n d (some (k:Int))=min k n:=by
 show (if (k:Int) < 0 then ((k:Int) + (n:Int)).toNat else min (k:Int).toNat n)=min k n
 rw [if_neg (by omega),cD]
theorem Y9 (n d:Nat) (hd:d<=n) (o:Option Int):iW n d o<=n:=by
 cases o with
 | none=>exact hd
 | some v =>
  show (if v < 0 then (v + (n:Int)).toNat else min v.toNat n)<=n
  by_cases hv:v < 0
  ·rw [if_pos hv]; omega
  ·rw [if_neg hv]; exact Nat.min_le_right _ _
theorem Gn (v:Int) (n d:Nat):(if v < 0 then max (v + (n:Int)) 0 else min v (n:Int))=((iW n d (some v):Nat):Int):=by
 show (if v < 0 then max (v + (n:Int)) 0 else min v (n:Int))=(((if v < 0 then (v + (n:Int)).toNat else min v.toNat n):Nat):Int)
 by_cases hv:v < 0
 ·simp only [if_pos hv]; omega
 ·simp only [if_neg hv]; omega
theorem Dn (lo hi:Option Int) (n:Nat):Builtin.Slice.sliceAdjust lo hi 1 (n:Int)=(((iW n 0 lo:Nat):Int),((iW n n hi:Nat):Int)):=by
 have h1:¬ ((1:Int) < 0):=by omega
 unfold Builtin.Slice.sliceAdjust;simp only [h1,if_false];refine Prod.ext ?_ ?_
 ·cases lo with
  | none=>rfl
  | some v=>exact Gn v n 0
 ·cases hi with
  | none=>rfl
  | some v=>exact Gn v n n
theorem Dp (i j:Nat):Builtin.Slice.slicePlaces (i:Int) (j:Int) 1=j - i:=by
 unfold Builtin.Slice.slicePlaces;have h1:(1:Int) > 0:=by omega
 simp only [h1,if_true,Int.ediv_one]
 split <;> omega
theorem uZ {v:aA} {o:Option Int} {Q:Option Int->aM->Prop} (p:IsPart v o) (h:Q o s):wpAny (model prog w) A (Builtin.Slice.slicePartIndex v) Q E s:=by
 cases p with
 | none=>exact slicePart_none h
 | int i t=>exact slicePart_int h
theorem rK {sl:aB} {vl vu:aA} {lo hi:Option Int} {n:Nat} {Q:Int × Int × Nat->aM->Prop} (hs:s.heap.IsSliceOf sl vl vu .none) (pl:IsPart vl lo) (pu:IsPart vu hi) (h:Q (((iW n 0 lo:Nat):Int),1,iW n n hi - iW n 0 lo) s):wpAny (model prog w) A (Builtin.Slice.sliceApplied (.ref sl) (pure (n:Int))) Q E s:=by
 obtain ⟨os,hos,hcs,hds⟩:=id hs;unfold Builtin.Slice.sliceApplied Builtin.Slice.sliceFields;refine aj (aj (wpAny_field hos hds (x:=vl) rfl (aj (wpAny_field hos hds (x:=vu) rfl (aj (wpAny_field hos hds (x:=.none) rfl (ak ?_)))))));refine aj (slicePart_none ?_)
 show wpAny _ _ (if ((1:Int) == 0)=true then _ else _) _ _ s
 rw [if_neg (by decide)];refine aj (uZ pl (aj (uZ pu (aj (ak ?_)))))
 show wpAny _ _ (match Builtin.Slice.sliceAdjust lo hi 1 (n:Int) with | (lo,hi)=>pure (lo,(1:Int),Builtin.Slice.slicePlaces lo hi 1)) _ _ s
 rw [Dn lo hi n]
 show wpAny _ _ (pure (((iW n 0 lo:Nat):Int),(1:Int),Builtin.Slice.slicePlaces ((iW n 0 lo:Nat):Int) ((iW n n hi:Nat):Int) 1)) _ _ s
 rw [Dp];exact ak h
theorem J0 (xs:Array aA) (i k:Nat):((List.range k).filterMap fun (m:Nat)=>xs[((i:Int) + (m:Int) * 1).toNat]?).toArray=((xs.toList.drop i).take k).toArray:=by
 have e:(fun (m:Nat)=>xs[((i:Int) + (m:Int) * 1).toNat]?)=fun m=>xs[i + m]?:=by
  funext m
  have:((i:Int) + (m:Int) * 1).toNat=i + m:=by omega
  rw [this]
 rw [e];have:=pick_run xs i k;rw [List.filterMap_map] at this;have e2:((fun x=>xs[x]?) ∘ fun x=>i + x)=fun m=>xs[i + m]?:=rfl
 rw [e2] at this;rw [this]
theorem qG {t sl:aB} {items:Array aA} {vl vu:aA} {lo hi:Option Int} {Q:aA->aM->Prop} (ht:IsTup s.heap t items) (hs:s.heap.IsSliceOf sl vl vu .none) (pl:IsPart vl lo) (pu:IsPart vu hi) (hw:¬ (iW items.size 0 lo=0/\iW items.size items.size hi=items.size)) (h:Q (.ref s.heap.objs.size) { s with heap:=s.heap.push { cls:=.type "tuple",data:=.seq ((items.toList.drop (iW items.size 0 lo)).take (iW items.size items.size hi - iW items.size 0 lo)).toArray } }) (hsz:items.size<=sizeLine):wpAny (model prog w) A (getItem (.ref t) (.ref sl)) Q E s:=by
 have Gp:sizeOk (.seq ((items.toList.drop (iW items.size 0 lo)).take (iW items.size items.size hi - iW items.size 0 lo)).toArray):=by
  show ((items.toList.drop (iW items.size 0 lo)).take (iW items.size items.size hi - iW items.size 0 lo)).toArray.size<=sizeLine
  rw [size_toArray,length_take,length_drop,Array.length_toList];omega
 have hj:iW items.size items.size hi<=items.size:=Y9 _ _ (aJ _) hi;obtain ⟨os,hos,hcs,hds⟩:=id hs;have hTs:s.TypeIs (.ref sl) "slice":=⟨os,hos,hcs⟩;unfold getItem
 try with_reducible refine wpAny_holding ?_
 first | refine aj (ak ?_) | skip
 refine aj (wpAny_sequenceKey ht.typeIs (by decide) ?_);refine aj (wpAny_callSpecial?_slot (name:=Str.ofString "__getitem__") ht.typeIs PyProof.Rows.slot_tuple_getitem (wpAny_call_entry PyProof.Rows.slot_tuple_getitem ht.typeIs entry_tuple_getitem ?_ (args_tuple_getitem _ _)))
 show wpAny _ _ (Builtin.Tuple.tupleItemsOf (.ref t) >>= _) _ _ s
 refine aj (tupleItemsOf_ ht ?_);refine aj (wpAny_typeOf hTs ?_);rw [if_pos (by decide)];refine aj (rK hs pl pu ?_);have hno:¬ ((((iW items.size 0 lo:Nat):Int) == 0 && (1:Int) == 1 && (iW items.size items.size hi - iW items.size 0 lo) == items.size)=true):=by
  intro q;rw [Bool.and_eq_true,Bool.and_eq_true] at q;have q1:((iW items.size 0 lo:Nat):Int)=0:=eq_of_beq q.1.1;have q2:iW items.size items.size hi - iW items.size 0 lo=items.size:=eq_of_beq q.2;exact hw ⟨by omega,by omega⟩
 show wpAny _ _ (if (((iW items.size 0 lo:Nat):Int) == 0 && (1:Int) == 1 && (iW items.size items.size hi - iW items.size 0 lo) == items.size)=true then _ else _) _ _ s
 rw [if_neg hno,J0]
 first
  | exact aj (m:=Builtin.Tuple.tupleExact _) (wpAny_newObj_type (ak ⟨_,rfl,ak h⟩) Gp)
  | exact aj (m:=Builtin.Tuple.tupleExact _) (wpAny_newObj_type (aj (ak (ak ⟨_,rfl,ak h⟩))) Gp)
  | exact aj (aj (m:=Builtin.Tuple.tupleExact _) (wpAny_newObj_type (ak (ak ⟨_,rfl,ak h⟩)) Gp))
  | exact aj (aj (m:=Builtin.Tuple.tupleExact _) (wpAny_newObj_type (ak ⟨_,rfl,ak h⟩) Gp))
end
end HT
namespace L2
open PySem PySem.Spec PyProof.Rows
abbrev TO:=St->Hp->(Option Int->Hp->Prop)->Prop
noncomputable def PO (X:Cx) (e:Option Expr) (t:TO):Prop := ∀ (pins:List (aB × Obj)) (s:aM) (σ:St) (H:Hp) (Q:Option Int->Hp->Prop),Inv X pins σ H s->t σ H Q -> wpAny (model X.prog X.w) X.A (evalPart e X.env) (fun u s'=>∃ o H',Inv X pins σ H' s'/\IsPart u o/\Q o H') X.xe s
def Q8:TO:=fun _ H Q=>Q none H
def adH (t:TE):TO:=fun σ H Q=>t σ H fun x H1=>∃ i,x=.int i/\Q (some i) H1
theorem intsAre_of {ns:List Int}:∀ {us:List aA},Vals (ns.map V.int) us->IntsAre us ns:=by
 induction ns with
 | nil=>intro us r; rw [map_nil] at r; cases r; exact .nil
 | cons n ns ih =>
  intro us r;rw [bO] at r;cases r with
  | cons r1 r2 =>
   obtain ⟨t,e⟩:=r1;subst e;exact .cons n t (ih r2)
section
variable {X:Cx} {e:Expr} {te:TE} {lo hi:Option Expr} {tl th:TO} {pos p2:Pos}
theorem lQ:PO X none Q8:=by
 intro pins s σ H Q I h;rw [evalPart_none];exact ak ⟨none,H,I,.none,h⟩
theorem lR (h:PE X e te):PO X (some e) (adH te):=by
 intro pins s σ H Q I hw;rw [evalPart_some];refine eX (h pins s σ H _ I hw) fun u s1 ⟨x,H1,I1,r1,q1⟩=>?_
 obtain ⟨i,rfl,q⟩:=q1;obtain ⟨t,rfl⟩:=r1;exact ⟨some i,H1,I1,.int i t,q⟩
noncomputable def SlR (X:Cx) (r:V->Option Int->Option Int->Hp->VK->Prop):Prop := ∀ (pins:List (aB × Obj)) (s:aM) (σ:St) (H:Hp) (x:V) (v vl vu:aA) (lo hi:Option Int) (sl:aB) (Q:VK),Inv X pins σ H s->RelV x v->s.heap.IsSliceOf sl vl vu .none->IsPart vl lo->IsPart vu hi->r x lo hi H Q -> ∃ T id,typeLookup (.type T) "__getitem__"=pure (some (.builtin id))/\s.TypeIs v T/\wpAny (model X.prog X.w) X.A (getItem v (.ref sl)) (EP X pins σ Q) X.xe s
def tSl (r:V->Option Int->Option Int->Hp->VK->Prop) (te:TE) (tl th:TO):TE:=fun σ H Q=>te σ H fun x H1=>tl σ H1 fun l H2=>th σ H2 fun u H3=>r x l u H3 Q
theorem jG {r:V->Option Int->Option Int->Hp->VK->Prop} (hr:SlR X r) (he:PE X e te) (hl:PO X lo tl) (hu:PO X hi th):PE X (.Subscript e (.Slice lo hi none p2) pos) (tSl r te tl th):=by
 intro pins s σ H Q I h;refine Subscript_ (eX (he pins s σ H _ I h) fun v s1 ⟨x,H1,I1,r1,q1⟩=>?_);refine wpAny_Slice (eX (hl pins s1 σ H1 _ I1 q1) fun vl s2 ⟨l,H2,I2,pl,q2⟩=>eX (hu pins s2 σ H2 _ I2 q2) fun vu s3 ⟨u,H3,I3,pu,q3⟩=>?_);rw [evalPart_none];refine ak ?_;have I4:Inv X pins σ H3 { s3 with heap:=s3.heap.push { cls:=.type "slice",data:=.fields #[vl,vu,.none] } }:=I3.kept (t':=s3.toks) fun b ob q=>au _ q
 obtain ⟨T,id,hT,ht,hg⟩:=hr pins { s3 with heap:=s3.heap.push { cls:=.type "slice",data:=.fields #[vl,vu,.none] } } σ H3 x v vl vu l u s3.heap.objs.size Q I4 r1 (Heap.IsSliceOf.new ..) pl pu q3
 show wpAny (model X.prog X.w) X.A (subscriptTail e (.Slice lo hi none p2) v (.ref s3.heap.objs.size)) (EP X pins σ Q) X.xe { s3 with heap:=s3.heap.push { cls:=.type "slice",data:=.fields #[vl,vu,.none] } }
 exact tail_any (ops:=[.ref s3.heap.objs.size,v]) ht hT hg (by with_unfolding_all rfl)
def m9 (xs:List V) (lo hi:Option Int):List V:=(xs.drop (HT.iW xs.length 0 lo)).take (HT.iW xs.length xs.length hi - HT.iW xs.length 0 lo)
theorem tW (xs:List V) (lo hi:Option Int):(m9 xs lo hi).length<=xs.length:=by
 unfold m9;rw [length_take,length_drop];omega
noncomputable def ail (K:Fg):V->Option Int->Option Int->Hp->VK->Prop:=fun x lo hi H Q=>∃ a xs,x=.ref a/\gY K H a xs /\ ¬ (HT.iW xs.length 0 lo=0/\HT.iW xs.length xs.length hi=xs.length)/\∀ p,H p=none->Q (.ref p) (upd H p (.tup (m9 xs lo hi)))
theorem Za:SlR X (ail X.K):=by
 intro pins s σ H x v vl vu lo hi sl Q I rx hs pl pu h;obtain ⟨a,xs,rfl,hx,hw,q⟩:=h;cases rx;obtain ⟨its,r,ht,hz⟩:=I.tuple hx;have hlen:its.toArray.size=xs.length:=by rw [size_toArray]; exact r.length.symm
 refine ⟨"tuple",_,PyProof.Rows.slot_tuple_getitem.lookup,ht.typeIs,?_⟩;refine HT.qG ht hs pl pu (by rw [hlen]; exact hw) ?_ (by rw [hlen]; exact hz);rw [hlen];refine ⟨.ref s.heap.objs.size,_,I.laid (t':=s.toks) (o:=.tup (m9 xs lo hi)) (fun b ob q=>au _ q) (aJ _) ?_,rfl,q _ (I.hok.fresh (aJ _))⟩;exact ⟨bw (tW xs lo hi) hz,_,(r.drop (HT.iW xs.length 0 lo)).take (HT.iW xs.length xs.length hi - HT.iW xs.length 0 lo),IsTup.new _ _⟩
end
def ixN (n:Nat) (i:Int):Option Nat:=if 0<=i then (if i < n then some i.toNat else none) else if -(n:Int)<=i then some (i + n).toNat else none
def Jv {α:Type} (xs:List α) (i:Int):Option α:=(ixN xs.length i).bind fun j=>xs[j]?
theorem Q9 {n:Nat} {i:Int} {j:Nat} (h:ixN n i=some j):seqIndex? i n=some j/\j < n/\-(n:Int)<=i/\i < n:=by
 unfold ixN at h
 by_cases h0:0<=i
 ·rw [if_pos h0] at h
  by_cases h1:i < n
  ·rw [if_pos h1] at h;have e:i.toNat=j:=bU h;exact ⟨by rw [seqIndex_of h0 h1,e],by omega,by omega,h1⟩
  ·rw [if_neg h1] at h; cases h
 ·rw [if_neg h0] at h
  by_cases h1:-(n:Int)<=i
  ·rw [if_pos h1] at h;have e:(i + n).toNat=j:=bU h;exact ⟨by rw [seqIndex_neg (by omega) h1,e],by omega,h1,by omega⟩
  ·rw [if_neg h1] at h; cases h
theorem yO {α:Type} {xs:List α} {i:Int} {v:α} (h:Jv xs i=some v):∃ j,seqIndex? i xs.length=some j/\xs[j]?=some v/\j < xs.length/\-(xs.length:Int)<=i/\i < xs.length:=by
 unfold Jv at h;cases e:ixN xs.length i with
 | none=>rw [e] at h; cases h
 | some j =>
  rw [e] at h;obtain ⟨h1,h2,h3,h4⟩:=Q9 e;exact ⟨j,h1,h,h2,h3,h4⟩
theorem dW {α:Type} {xs:List α} {j:Nat} {v:α} (h:xs[j]?=some v):Jv xs (j:Int)=some v:=by
 have hj:j < xs.length:=(aN.mp h).1;have e:ixN xs.length (j:Int)=some j:=by
  unfold ixN;rw [if_pos (by omega),if_pos (by omega)]; simp
 unfold Jv; rw [e]; exact h
def Ra (b:Expr):Prop:=∀ o i,subscripted b false o i=operate [o,i] (getItem o i)
noncomputable def IxR (X:Cx) (r:R2):Prop := ∀ (value slice:Expr) (pins:List (aB × Obj)) (s:aM) (σ:St) (H:Hp) (x y:V) (v u:aA) (Q:VK),Inv X pins σ H s->RelV x v->RelV y u->r x y H Q -> subscripted slice false v u=operate [v,u] (getItem v u)->wpAny (model X.prog X.w) X.A (subscriptTail value slice v u) (EP X pins σ Q) X.xe s
noncomputable def MtR (X:Cx) (id:String) (r:V->List V->Hp->VK->Prop):Prop := ∀ (pins:List (aB × Obj)) (s:aM) (σ:St) (H:Hp) (x:V) (xs:List V) (v:aA) (us:List aA) (Q:VK),Inv X pins σ H s->RelV x v->Vals xs us->r x xs H Q -> wpAny (model X.prog X.w) X.A (call (.builtin id) (v::us)) (EP X pins σ Q) X.xe s
section
variable {X:Cx} {a b:Expr} {ta tb:TE} {pos:Pos}
theorem cR {r:R2} (hr:IxR X r) (ha:PE X a ta) (hb:PE X b tb) (hs:Ra b):PE X (.Subscript a b pos) (tOp r ta tb):=by
 intro pins s σ H Q I h;exact Subscript_ (YZ ha hb I h fun v u s2 x y H2 I2 rx ry q=>hr a b pins s2 σ H2 x y v u Q I2 rx ry q (hs _ _))
def adI (K:Fg):R2:=fun x y H Q=>∃ p xs i v,x=.ref p/\y=.int i/\cU K H p xs/\Jv xs i=some v/\Q v H
def adJ (K:Fg):R2:=fun x y H Q=>∃ p xs i v,x=.ref p/\y=.int i/\gY K H p xs/\Jv xs i=some v/\Q v H
def ain:R2:=fun x y H Q=>∃ z i c,x=.str z/\y=.int i/\z.length<=sizeLine/\Jv z.cps.toList i=some c/\Q (.str ⟨#[c]⟩) H
theorem gO:IxR X (adI X.K):=by
 intro value slice pins s σ H x y v u Q I rx ry h hs;obtain ⟨p,xs,i,z,rfl,rfl,hq,he,q⟩:=h;cases rx;obtain ⟨t,rfl⟩:=ry;obtain ⟨its,r,pl,hz⟩:=I.list hq;obtain ⟨j,h1,h2,h3,h4,h5⟩:=yO he;obtain ⟨w,ew,qC⟩:=r.get h2;have hl:=r.length;have hn:=rH;have fin:EP X pins σ Q w s:=⟨z,H,I,qC,q⟩
 by_cases h0:0<=i
 ·have hj:i.toNat=j:=by
   rw [seqIndex_of h0 h5] at h1;exact bU h1
  exact item_listR pl.isList h0 (by omega) (by rw [hj]; simpa using ew) fin hs
 ·have hj:(i + (its.toArray.size:Int)).toNat=j:=by
   rw [seqIndex_neg (by omega) h4] at h1;rw [size_toArray,<- hl];exact bU h1
  exact subscriptTail_builtinR (x:=w) pl.isList.typeIs slot_list_getitem.lookup (wpAny_getItem_list_neg (Q:=fun r s'=>r=w/\EP X pins σ Q r s') pl.isList (by omega) (by rw [size_toArray] <;> omega) (by omega) (by rw [hj]; simpa using ew) ⟨rfl,fin⟩) hs
theorem dZ:IxR X (adJ X.K):=by
 intro value slice pins s σ H x y v u Q I rx ry h hs;obtain ⟨p,xs,i,z,rfl,rfl,hq,he,q⟩:=h;cases rx;obtain ⟨t,rfl⟩:=ry;obtain ⟨its,r,pl,hz⟩:=I.tuple hq;obtain ⟨j,h1,h2,h3,h4,h5⟩:=yO he;obtain ⟨w,ew,qC⟩:=r.get h2;have hl:=r.length;have hn:=rH;have fin:EP X pins σ Q w s:=⟨z,H,I,qC,q⟩;exact subscriptTail_builtinR (x:=w) pl.typeIs slot_tuple_getitem.lookup (getItem_tuple (j:=j) (Q:=fun r s'=>r=w/\EP X pins σ Q r s') pl (by omega) (by omega) (by rw [size_toArray,<- hl]; exact h1) (by simpa using ew) ⟨rfl,fin⟩) hs
theorem Zb:IxR X ain:=by
 intro value slice pins s σ H x y v u Q I rx ry h hs;obtain ⟨z,i,c,rfl,rfl,hz,he,q⟩:=h;obtain ⟨t,rfl⟩:=rx;obtain ⟨t',rfl⟩:=ry;obtain ⟨j,h1,h2,h3,h4,h5⟩:=yO he;have hl:z.cps.toList.length=z.length:=by simp [Str.length]
 rw [hl] at h1 h4 h5;have hn:=rH;exact tail_any (typeIs_str s z t) slot_str_getitem.lookup (getItem_str (c:=c) (by
  have e1:decide (i < -(2 ^ 63:Int))=false:=aH (by omega);have e2:decide (i >= 2 ^ 63)=false:=aH (by omega);rw [e1,e2,Bool.or_false]) (by rw [h1]; simpa using h2) ⟨.str ⟨#[c]⟩,H,I.tok _,⟨_,rfl⟩,q⟩) hs
theorem yP (lo hi:Option Int) (n:Nat):(sliceBounds lo hi none n).1=((HT.iW n 0 lo:Nat):Int)/\(sliceBounds lo hi none n).2.1=((HT.iW n n hi:Nat):Int)/\(sliceBounds lo hi none n).2.2=1:=by
 refine ⟨?_,?_,rfl⟩
 ·cases lo with
  | none=>simp [sliceBounds,HT.iW]
  | some i =>
   simp only [sliceBounds,HT.iW,Option.getD_none,show (1:Int) > 0 by decide,if_true]
   by_cases h:i < 0
   ·simp only [h,if_true] <;> omega
   ·simp only [h,if_false] <;> omega
 ·cases hi with
  | none=>simp [sliceBounds,HT.iW]
  | some i =>
   simp only [sliceBounds,HT.iW,Option.getD_none,show (1:Int) > 0 by decide,if_true]
   by_cases h:i < 0
   ·simp only [h,if_true] <;> omega
   ·simp only [h,if_false] <;> omega
theorem wN (its:List aA) (lo hi:Option Int):slicePick its.toArray lo hi none=((its.drop (HT.iW its.length 0 lo)).take (HT.iW its.length its.length hi - HT.iW its.length 0 lo)).toArray:=by
 obtain ⟨h1,h2,h3⟩:=yP lo hi its.toArray.size;unfold slicePick;rw [h1,h2,h3];simp only [sliceRange_one,pick_run,size_toArray] <;> rfl
def adK (K:Fg):V->Option Int->Option Int->Hp->VK->Prop:=fun x lo hi H Q=>∃ a xs,x=.ref a/\cU K H a xs/\∀ p,H p=none->Q (.ref p) (upd H p (.lst (m9 xs lo hi)))
theorem oO:SlR X (adK X.K):=by
 intro pins s σ H x v vl vu lo hi sl Q I rx hs pl pu h;obtain ⟨a,xs,rfl,hx,q⟩:=h;cases rx;obtain ⟨its,r,ht,hz⟩:=I.list hx;have hlen:=r.length;refine ⟨"list",_,slot_list_getitem.lookup,ht.isList.typeIs,?_⟩;refine wpAny_getItem_list_slice ht.isList hs pl pu .none (by simp) ?_ (by rw [size_toArray] <;> omega);rw [wN,<- hlen];refine ⟨.ref s.heap.objs.size,_,I.laid (t':=s.toks) (o:=.lst (m9 xs lo hi)) (fun b ob q=>au _ q) (aJ _) ?_,rfl,q _ (I.hok.fresh (aJ _))⟩;exact ⟨bw (tW xs lo hi) hz,_,0,(r.drop (HT.iW xs.length 0 lo)).take (HT.iW xs.length xs.length hi - HT.iW xs.length 0 lo),aC _ rfl⟩
def u0:V->Bool
 | .non=>true
 | .bl _=>true
 | .int _=>true
 | .str _=>true
 | _=>false
noncomputable def eqV:V->V->Bool
 | .non,.non=>true
 | .bl a,.bl b=>a == b
 | .bl a,.int b=>(if a then 1 else 0) == b
 | .int a,.bl b=>a == (if b then 1 else 0)
 | .int a,.int b=>a == b
 | .str a,.str b=>a == b
 | _,_=>false
theorem Zc {A:cW} {s:aM} {y x:V} {u v:aA} (ry:RelV y u) (rx:RelV x v) (fy:u0 y=true) (fx:u0 x=true):SeqAt.EqAt A s u v (eqV y x):=by
 cases y with
 | non =>
  cases ry;cases x with
  | non=>cases rx; exact SeqAt.EqAt.same _
  | bl b=>cases rx; exact SeqAt.EqAt.none_bool b
  | int b=>obtain ⟨t,rfl⟩:=rx; exact SeqAt.EqAt.none_int b t
  | str b=>obtain ⟨t,rfl⟩:=rx; exact SeqAt.EqAt.none_str b t
  | _=>exact absurd (show false=true from fx) Bool.false_ne_true
 | bl a =>
  cases ry;cases x with
  | non=>cases rx; exact SeqAt.EqAt.bool_none a
  | bl b=>cases rx; exact SeqAt.EqAt.bool_bool a b
  | int b=>obtain ⟨t,rfl⟩:=rx; exact SeqAt.EqAt.bool_int a b t
  | str b=>obtain ⟨t,rfl⟩:=rx; exact SeqAt.EqAt.bool_str a b t
  | _=>exact absurd (show false=true from fx) Bool.false_ne_true
 | int a =>
  obtain ⟨t',rfl⟩:=ry;cases x with
  | non=>cases rx; exact SeqAt.EqAt.int_none a t'
  | bl b=>cases rx; exact SeqAt.EqAt.int_bool a t' b
  | int b=>obtain ⟨t,rfl⟩:=rx; exact SeqAt.EqAt.int_int a t' b t
  | str b=>obtain ⟨t,rfl⟩:=rx; exact SeqAt.EqAt.int_str a t' b t
  | _=>exact absurd (show false=true from fx) Bool.false_ne_true
 | str a =>
  obtain ⟨t',rfl⟩:=ry;cases x with
  | non=>cases rx; exact SeqAt.EqAt.str_none a t'
  | bl b=>cases rx; exact SeqAt.EqAt.str_bool a t' b
  | int b=>obtain ⟨t,rfl⟩:=rx; exact SeqAt.EqAt.str_int a t' b t
  | str b=>obtain ⟨t,rfl⟩:=rx; exact SeqAt.EqAt.str_str a t' b t
  | _=>exact absurd (show false=true from fx) Bool.false_ne_true
 | _=>exact absurd (show false=true from fy) Bool.false_ne_true
theorem eU:gq X (.builtin "len") (fun xs H Q=>∃ p ys,xs=[.ref p]/\(cU X.K H p ys\/gY X.K H p ys)/\Q (.int ys.length) H):=by
 intro pins s σ H xs us Q I r h;obtain ⟨p,ys,rfl,hq,q⟩:=h;obtain ⟨u,rfl,rx⟩:=vals1 r;cases rx;have hn:=rH;rcases hq with hq | hq
 ·obtain ⟨its,r',pl,hz⟩:=I.list hq;have hlen:=r'.length;exact Calls.call_len_list pl.isList (by simp only [size_toArray] <;> omega) ⟨.int ys.length,H,I.tok _,⟨s.toks + 1,by rw [size_toArray,hlen]⟩,q⟩
 ·obtain ⟨its,r',pl,hz⟩:=I.tuple hq;have hlen:=r'.length;exact len_tuple pl (by simp only [size_toArray] <;> omega) ⟨.int ys.length,H,I.tok _,⟨s.toks + 1,by rw [size_toArray,hlen]⟩,q⟩
theorem jy:gq X (.builtin "len") (fun xs H Q=>∃ z,xs=[.str z]/\z.length<=sizeLine/\Q (.int z.length) H):=by
 intro pins s σ H xs us Q I r h;obtain ⟨z,rfl,hz,q⟩:=h;obtain ⟨u,rfl,t,rfl⟩:=vals1 r;have hn:=rH;exact len_str (by omega) ⟨.int z.length,H,I.tok _,⟨_,rfl⟩,q⟩
theorem yQ:gq X (.type "list") (fun xs H Q=>∃ p ys,xs=[.ref p]/\(cU X.K H p ys\/gY X.K H p ys)/\∀ l,H l=none->Q (.ref l) (upd H l (.lst ys))):=by
 intro pins s σ H xs us Q I r h;obtain ⟨p,ys,rfl,hq,q⟩:=h;obtain ⟨u,rfl,rx⟩:=vals1 r;cases rx;have fin:∀ (its:List aA),Vals ys its->ys.length<=sizeLine->∀ (h':Heap) (c':Nat),(∀ b o',s.heap.get? b=some o'->h'.get? b=some o') ->
   h'.get? s.heap.objs.size=some { cls:=.type "list",dict:=none,data:=.seq its.toArray c',slots:=#[] }->EP X pins σ Q (.ref s.heap.objs.size) { s with heap:=h' }:=fun its r' hz h' c' kp e =>
  ⟨.ref s.heap.objs.size,_,I.laid (t':=s.toks) kp (aJ _) (show eV X.prog X.w _ h' _ (.lst ys) from ⟨hz,its,c',r',e⟩),rfl,q _ (I.hok.fresh (aJ _))⟩
 rcases hq with hq | hq
 ·obtain ⟨its,r',pl,hz⟩:=I.list hq;have hlen:=r'.length;obtain ⟨o,ho,hc,n,hd⟩:=pl.isList;exact call_list_seq p (.inl rfl) ho hc hd (fun h' c' kp e=>fin its r' hz h' c' kp e) (by simp only [size_toArray] <;> omega)
 ·obtain ⟨its,r',pl,hz⟩:=I.tuple hq;have hlen:=r'.length;obtain ⟨o,ho,hc,n,hd⟩:=pl;exact call_list_seq p (.inr rfl) ho hc hd (fun h' c' kp e=>fin its r' hz h' c' kp e) (by simp only [size_toArray] <;> omega)
noncomputable def tyV (K:Fg) (T:String) (x:V) (H:Hp):Prop:=match x with
 | .str _=>T="str"
 | .int _=>T="int"
 | .ref p=>(T="list"/\∃ xs,cU K H p xs)\/(T="tuple"/\∃ o,K.lookup p=some o/\o.cls=.type "tuple"/\o.dict=none) \/ (T="dict"/\((∃ kvs,H p=some (.dK kvs))\/∃ kvs,H p=some (.dT kvs)))\/(T="set"/\∃ S n,H p=some (.set S n))
 | _=>False
theorem Zd {pins:List (aB × Obj)} {σ:St} {H:Hp} {s:aM} {T:String} {x:V} {v:aA} (I:Inv X pins σ H s) (r:RelV x v) (ty:tyV X.K T x H) : s.TypeIs v T/\∀ a,v=.ref a->∃ ob,s.heap.get? a=some ob/\ob.dict=none:=by
 cases x with
 | str z =>
  obtain ⟨t,rfl⟩:=r;cases (show T="str" from ty);exact ⟨typeIs_str s z t,fun _ e=>nomatch e⟩
 | int i =>
  obtain ⟨t,rfl⟩:=r;cases (show T="int" from ty);exact ⟨typeIs_int s i t,fun _ e=>nomatch e⟩
 | ref p =>
  cases r;rcases ty with ⟨rfl,xs,hq⟩ | ⟨rfl,o,hk,hc,hd⟩ | ⟨rfl,hk⟩ | ⟨rfl,S,n,hk⟩
  ·obtain ⟨its,_,pl,_⟩:=I.list hq;refine ⟨pl.isList.typeIs,fun a e=>?_⟩;cases e;obtain ⟨o,n,e,c,hd,_⟩:=pl;exact ⟨o,e,hd⟩
  ·refine ⟨⟨o,I.nj p o hk,hc⟩,fun a e=>?_⟩;cases e;exact ⟨o,I.nj _ o hk,hd⟩
  ·have z:∃ o,s.heap.get? p=some o/\o.ExactDict:=by
    rcases hk with ⟨kvs,hk⟩ | ⟨kvs,hk⟩
    ·obtain ⟨_,_,_,_,o,_,_,e,ex,_⟩:=I.hok p _ hk;exact ⟨o,e,ex⟩
    ·obtain ⟨_,_,_,_,o,_,_,e,ex,_⟩:=I.hok p _ hk;exact ⟨o,e,ex⟩
   obtain ⟨o,e,ex⟩:=z;refine ⟨⟨o,e,ex.1⟩,fun a e2=>?_⟩;cases e2;exact ⟨o,e,ex.2.1⟩
  ·obtain ⟨o,_,_,_,e,ex,_⟩:=I.hok p _ hk;refine ⟨⟨o,e,ex.1⟩,fun a e2=>?_⟩;cases e2;exact ⟨o,e,ex.2.1⟩
 | _=>exact False.elim ty
def tBM (K:Fg) (T:String) (r:V->List V->Hp->VK->Prop) (to:TE) (t:TA):TE:=fun σ H Q=>to σ H fun x H1=>tyV K T x H1/\t σ H1 fun xs H2=>r x xs H2 Q
variable {o e:Expr} {es:List Expr} {to:TE} {t:TA} {name:Str} {apos cpos:Pos} {T id:String} {r:V->List V->Hp->VK->Prop}
theorem gW (pa:PlainAttrs T) (slot:Slot T name id) (hty:typeOf (.builtin id)=pure (.type "method_descriptor")) (hm:MtR X id r) (ho:PE X o to) (ha:PA X (e::es) t) (hbase:autoParam (attributeBase o name X.env (eval o X.env)=eval o X.env) zau0) (hfew:autoParam (((backTo cpos (starEach (e::es) X.env)).all (fun x=>!x.1) && (backToKw cpos (keywordEach [] X.env)).all (fun x=>x.1.isSome) && decide ((e::es).length + ([]:List Keyword).length + (if ([]:List Keyword).isEmpty then 0 else 1) < 30))=true) zau0) (hline:autoParam ((apos.endLine == cpos.line)=true) zau0) (hs:autoParam (starEach (e::es) X.env=(false,eval e X.env)::starEach es X.env) zau0) (hplain:autoParam ((backTo cpos (starEach es X.env)).any (·.1)=false) zau0) : PE X (.Call (.Attribute o name apos) (e::es) [] cpos) (tBM X.K T r to t):=by
 intro pins s σ H Q I h;refine wpAny_Call_method_late hbase hfew hline rfl (eX (ho pins s σ H _ I h) fun v s1 ⟨x,H1,I1,r1,ty,q1⟩=>?_);obtain ⟨h1,h2⟩:=Zd I1 r1 ty;refine ⟨T,id,pa,slot,hty,h1,h2,?_⟩;have hA:=ha cpos pins s1 σ H1 _ I1 q1;rw [hs] at hA ⊢;refine Calls.callWith_builtin (by show (false || (backTo cpos (starEach es X.env)).any (·.1))=false; rw [hplain] <;> rfl) (Calls.evalArgs_plain ?_);exact eX hA fun us s2 ⟨vs,H2,I2,r2,q2⟩=>hm pins s2 σ H2 x vs v us Q I2 r1 r2 q2
end
noncomputable def MtM (X:Cx) (id:String) (r:V->List V->Hp->VK->Prop):Prop := ∀ (pins:List (aB × Obj)) (s:aM) (σ:St) (H:Hp) (x:V) (xs:List V) (v:aA) (us:List aA) (Q:VK),Inv X pins σ H s->RelV x v->Vals xs us->r x xs H Q -> wpAny (model X.prog X.w) X.A (call (.builtin id) (v::us)) (EP X pins σ Q) X.xe s
theorem Vals.one:∀ {x:V} {us:List aA},Vals [x] us->∃ u,us=[u]/\RelV x u
 | _,_,.cons r .nil=>⟨_,rfl,r⟩
theorem Vals.two:∀ {x y:V} {us:List aA},Vals [x,y] us->∃ u v,us=[u,v]/\RelV x u/\RelV y v
 | _,_,_,.cons r (.cons q .nil)=>⟨_,_,rfl,r,q⟩
theorem Vals.rep {xs:List V} {us:List aA} (h:Vals xs us):∀ k:Nat,Vals (List.replicate k xs).flatten (List.replicate k us).flatten
 | 0=>.nil
 | k + 1=>by
  rw [replicate_succ,replicate_succ,flatten_cons,flatten_cons];exact Vals.append h (Vals.rep h k)
theorem foldl_rep (its:List aA):∀ (k:Nat) (acc:List aA),List.foldl (fun x1 x2=>x1++x2) acc.toArray (List.replicate k its.toArray)=(acc++(List.replicate k its).flatten).toArray
 | 0,acc=>by simp
 | k + 1,acc=>by
  have e:acc.toArray++its.toArray=(acc++its).toArray:=by simp
  have e2:(acc++its)++(List.replicate k its).flatten=acc++(List.replicate (k + 1) its).flatten:=by
   rw [replicate_succ,flatten_cons,append_assoc]
  rw [<- e2,<- foldl_rep its k (acc++its),<- e,replicate_succ,List.foldl_cons]
section
variable {X:Cx} {pins:List (aB × Obj)} {σ:St} {H:Hp} {s:aM} {l b:aB} {xs ys zs:List V}
theorem Inv.adL {its its':List aA} {n:Nat} {f:Array aA->Array aA} {t':Nat} (I:Inv X pins σ H s) (hH:H l=some (.lst xs)) (e:s.heap.get? l=some { cls:=.type "list",data:=.seq its.toArray n }) (hf:f its.toArray=its'.toArray) (hv:Vals ys its') (hz:ys.length<=sizeLine) : Inv X pins σ (upd H l (.lst ys)) { s with heap:=s.heap.update l (Obj.mapSeq f),toks:=t' }:=by
 have q:=PySem.IsL.update e f;rw [hf] at q;refine I.write (x:=l) (e:=l) (by rw [hH]; exact trivial) (.inl rfl) (fun b' u hb hu=>(Heap.get?_update_other s.heap (Obj.mapSeq f) (Ne.symm hb)).trans hu) ⟨_,q⟩ ?_;exact ⟨hz,its',_,hv,q⟩
theorem Inv.adM {its:List aA} {t':Nat} (I:Inv X pins σ H s) (hv:Vals ys its) (hz:ys.length<=sizeLine) : Inv X pins σ (upd H s.heap.objs.size (.lst ys)) { s with heap:=s.heap.push { cls:=.type "list",data:=.seq its.toArray },toks:=t' } := I.laid (fun _ _ q=>au _ q) (aJ _) ⟨hz,its,0,hv,aC _ rfl⟩
theorem Inv.fresh (I:Inv X pins σ H s):H s.heap.objs.size=none:=I.hok.fresh (aJ _)
theorem Inv.Ia (I:Inv X pins σ H s) (hH:H l=some (.lst xs)):xs.length<=sizeLine/\∃ (its:List aA) (n:Nat),Vals xs its/\xs.length=its.length/\s.heap.get? l=some { cls:=.type "list",data:=.seq its.toArray n }:=by
 obtain ⟨z,its,n,r,e⟩:=I.hok l _ hH;exact ⟨z,its,n,r,r.length,e⟩
theorem Ai {n:Nat} (h:n<=sizeLine):Builtin.List.listTooLong n=false:=by
 unfold Builtin.List.listTooLong;exact aH (by omega)
end
section
variable {X:Cx}
def Rb:V->List V->Hp->VK->Prop:=fun x vs H Q=>∃ l xs y,x=.ref l/\vs=[y]/\H l=some (.lst xs)/\xs.length < sizeLine/\Q .non (upd H l (.lst (xs++[y])))
theorem gQ:MtM X "list.append" Rb:=by
 intro pins s σ H x vs v us Q I rx rv h;obtain ⟨l,xs,y,rfl,rfl,hH,hz,q⟩:=h;cases rx;obtain ⟨u,rfl,ru⟩:=rv.one;obtain ⟨z,its,n,r,hl,e⟩:=I.Ia hH;refine call_meets F.slot_list_append ⟨_,e,rfl⟩ F.entry_list_append (F.args_list_append_2 _ _) (PySem.list_append l its.toArray n u (by rw [size_toArray]; omega)) ⟨e,?_⟩;refine ⟨.non,_,I.adL (its':=its++[u]) hH e (by simp) (r.append (.cons ru .nil)) ?_,rfl,q⟩;rw [aR,List.length_singleton];omega
def Rc:V->List V->Hp->VK->Prop:=fun x vs H Q=>∃ l b xs zs,x=.ref l/\vs=[.ref b]/\H l=some (.lst xs)/\H b=some (.lst zs)/\xs.length + zs.length<=sizeLine/\Q .non (upd H l (.lst (xs++zs)))
theorem abM:MtM X "list.extend" Rc:=by
 intro pins s σ H x vs v us Q I rx rv h;obtain ⟨l,b,xs,zs,rfl,rfl,hH,hB,hz,q⟩:=h;cases rx;obtain ⟨u,rfl,ru⟩:=rv.one;cases ru;obtain ⟨z,its,n,r,hl,e⟩:=I.Ia hH;obtain ⟨z2,its2,n2,r2,hl2,e2⟩:=I.Ia hB;have hsz:its.toArray.size + its2.toArray.size<=sizeLine:=by rw [size_toArray,size_toArray]; omega
 have J1:¬ (!its.toArray.isEmpty && Builtin.List.listTooLong (its.toArray.size + its2.toArray.size))=true:=by
  rw [Ai hsz,Bool.and_false];exact Bool.false_ne_true
 refine call_meets F.slot_list_extend ⟨_,e,rfl⟩ F.entry_list_extend (F.args_list_extend_2 _ _) (AutoSeq1.list_extend_list_list_0 l its.toArray n b its2.toArray n2 J1 (by rw [size_toArray]; omega) (by omega)) ⟨e,e2,?_⟩;refine ⟨.non,_,I.adL (its':=its++its2) hH e (by simp) (r.append r2) ?_,rfl,q⟩;rw [aR];omega
def aio:R2:=fun x y H Q=>∃ l b xs zs,x=.ref l/\y=.ref b/\H l=some (.lst xs)/\H b=some (.lst zs)/\xs.length + zs.length<=sizeLine/\∀ p,H p=none->Q (.ref p) (upd H p (.lst (xs++zs)))
theorem lU:pD X (binaryOp .Add) aio:=by
 intro pins s σ H x y v u Q I rx ry h;obtain ⟨l,b,xs,zs,rfl,rfl,hH,hB,hz,q⟩:=h;cases rx;cases ry;obtain ⟨z,its,n,r,hl,e⟩:=I.Ia hH;obtain ⟨z2,its2,n2,r2,hl2,e2⟩:=I.Ia hB;refine PySem.P.add_list e e2 ?_ (by rw [size_toArray,size_toArray]; omega);have ea:its.toArray++its2.toArray=(its++its2).toArray:=by simp
 rw [ea];exact ⟨.ref _,_,I.adM (t':=s.toks) (r.append r2) (by rw [aR]; omega),rfl,q _ I.fresh⟩
noncomputable def aip:R2:=fun x y H Q=>∃ l k xs,x=.ref l/\y=.int k/\H l=some (.lst xs)/\-(2 ^ 63)<=k/\k < 2 ^ 63/\xs.length * k.toNat<=sizeLine /\ ∀ p,H p=none->Q (.ref p) (upd H p (.lst (List.replicate k.toNat xs).flatten))
theorem len_rep {α:Type} (xs:List α) (k:Nat):(List.replicate k xs).flatten.length=k * xs.length:=by
 induction k with
 | zero=>simp
 | succ k ih=>rw [replicate_succ,flatten_cons,aR,ih,Nat.succ_mul,Nat.add_comm]
theorem Ze:pD X (binaryOp .Mult) aip:=by
 intro pins s σ H x y v u Q I rx ry h;obtain ⟨l,k,xs,rfl,rfl,hH,h1,h2,hz,q⟩:=h;cases rx;obtain ⟨t,rfl⟩:=ry;obtain ⟨z,its,n,r,hl,e⟩:=I.Ia hH;have hlen:its.toArray.size * k.toNat<=sizeLine:=by rw [size_toArray,<- hl]; exact hz
 have hcap:¬ its.toArray.size * k.toNat > (2 ^ 63 - 1) / 8:=by
  have:(sizeLine:Nat)<=(2 ^ 63 - 1) / 8:=by decide
  omega
 have hfit:¬ (!Builtin.List.listFitsIndex k)=true:=by
  rw [fitsIndex_both h1 h2];exact Bool.false_ne_true
 have J1:¬ Builtin.List.listTooLong (its.toArray.size * k.toNat)=true:=by
  rw [Ai hlen];exact Bool.false_ne_true
 have hnew:List.foldl (fun x1 x2=>x1++x2) #[] (List.replicate (if its.toArray.isEmpty=true then 0 else k.toNat) its.toArray)=(List.replicate k.toNat its).flatten.toArray:=by
  have f0:∀ m:Nat,List.foldl (fun x1 x2=>x1++x2) #[] (List.replicate m its.toArray)=(List.replicate m its).flatten.toArray:=fun m=>by
   have:=foldl_rep its m [];rw [nil_append] at this;exact this
  rw [f0];cases its with
  | nil=>simp
  | cons a r'=>rw [if_neg (by simp)]
 refine wpAny_binaryOp_repeat_ref (T:="list") (U:="int") (by decide) ⟨_,e,rfl⟩ (fun s'=>typeIs_int s' k t) noFill_list_mul F.fills_int_mul F.slot_int_rmul repeat_list F.slot_int_index.lookup (call_meets F.slot_int_rmul (typeIs_int s k t) F.entry_int_rmul (F.args_int_rmul_2 _ _) (int___rmul___int_list k t l its.toArray n) ⟨e,rfl,⟨_,e,rfl⟩,call_meets F.slot_list_mul ⟨_,e,rfl⟩ F.entry_list_mul (F.args_list_mul_2 _ _) (AutoListH.list___mul___list_int_3 l its.toArray n k t hfit hcap J1) ⟨e,?_⟩⟩);rw [hnew];exact ⟨.ref _,_,I.adM (t':=s.toks) (r.rep k.toNat) (by rw [len_rep,Nat.mul_comm]; exact hz),rfl,q _ I.fresh⟩
end
section
variable {prog:cg} {w:World} {A:cW} {E:aA->aM->Prop} {s:aM}
set_option maxRecDepth 100000 in
end
section
variable {X:Cx}
end
end L2
namespace Att
open PySem PySem.W PySem.Calls PyProof.Rows
theorem uh {P:Params} {h:Heap}:∀ (ns:List Int) (vs:List aA),WellAll P h vs (ns.map WData.int)->IntsAre vs ns:=by
 intro ns
 induction ns with
 | nil =>
  intro vs w;rw [map_nil] at w;cases w;exact .nil
 | cons n ns ih =>
  intro vs w;rw [bO] at w;cases w with
  | cons a b =>
   cases a;exact .cons _ _ (ih _ b)
theorem Ib {l:OpenLaw} {n:Nat} (hn:l.most=some n) {P:Params} {h:Heap} {args:List WData} {vals:List aA} (hpre:l.row.toRowW.claim.pre args=true) (hwl:WellAll P h vals args) : ∃ a vs ns,vals=[Value.ref a]/\args=[WData.list (ns.map WData.int)]/\h.get? a=some { cls:=.type "list",data:=.seq vs.toArray }/\IntsAre vs ns/\ns.length<=n:=by
 have hsh:WShape.hasAll [] args [.list .int]=true:=(pre_splitW hpre).1;have hc:l.pre.holds [] { args:=args }=true:=(pre_splitW hpre).2;obtain ⟨d,r,rfl,h1,h2⟩:=hasAllW_cons hsh;obtain rfl:=hasAllW_nil h2;obtain ⟨xs,rfl,h3⟩:=hasW_list h1;obtain ⟨ns,rfl⟩:=items_int h3;have hlen:ns.length<=n:=by
  unfold OpenLaw.pre at hc;have h4:(WTm.not (.lt (.lit (.int (n:Int))) (.len (.arg 0)))).holds [] { args:=[.list (ns.map .int)] }=true:=by
   have h4:=(holds_andW hc).1;rw [hn] at h4;exact h4
  have h5:=condW_of h4 (w_not (w_lt w_lit (w_len_list (w_arg rfl))));rw [aq] at h5;refine Nat.le_of_not_lt fun q=>?_
  have q':(n:Int) < ((ns.length:Nat):Int):=by omega
  first
   | (rw [aK q'] at h5; exact absurd h5 (by decide))
   | (simp at h5; omega)
 cases hwl with
 | cons w1 w2 =>
  cases w2;cases w1 with
  | list ho hall=>exact ⟨_,_,ns,rfl,rfl,ho,uh ns _ hall,hlen⟩
theorem Ie (l:OpenLaw) (args:List WData):l.row.toRowW.claim.post args (.bool true) args=true := postW_of (r:=l.row.toRowW) (X:=(true == true)) (show WShape.has [] (.bool true) .bool=true by first | rfl | decide | simp [WShape.has,WShape.arms,WShape.armsAll]) (show (WTm.eq .res (.lit (.bool true))).value [] { args:=args,res:=some (.bool true),after:=args }=some (.bool (true == true)) from w_eq_bool (w_res rfl) w_lit) rfl
theorem Aj {l:OpenLaw} {n:Nat} {q:cg} {loose:List Str} {XP:(Str->Option aA)->Heap->Prop} {YP:World->Heap->Prop} {d:DefRec} (hn:l.most=some n) (hdf:d.params.defaults=[]) (call:∀ (w:World) (s₀ s₁:aM) (mg mb:Str->Option aA) (fa:aB) (o:Obj) (pm cd doc:aA) (a:aB) (vs:List aA) (ns:List Int),Ground q loose [] XP w s₀ mg mb s₁.heap->YP w s₁.heap -> s₁.heap.get? fa=some o->o.data=.func (docDef d.name d.params d.body d.scope pm cd doc)->s₁.heap.CodeRec cd d.name->mg d.name=some (.ref fa) -> s₁.heap.get? a=some { cls:=.type "list",data:=.seq vs.toArray }->IntsAre vs ns->ns.length<=n->s₁.gens=#[] -> codeAny (model l.prog w) callerA (.call (.ref fa) ⟨[.ref a],[]⟩) (fun r s'=>r=.ok (.ret (.bool true))/\OldK s₁.heap s'.heap/\s'.os=s₁.os/\AllBare s'.gens) s₁) : WalkO q loose XP YP l.row.toRowW d [] (fun f vs=>PySem.call f vs):=by
 intro w s₀ s₁ mg mb G Y fa o pm cd doc dV kV ho hd hcd hD hmg hg args vals as hpre hlay hrd hwl hlo;obtain rfl:dV=.none:=Dflts.none hD hdf;obtain rfl:kV=.none:=Dflts.noKw hD;obtain ⟨a,vs,ns,rfl,rfl,hobj,hints,hlen⟩:=Ib hn hpre hwl;refine enter_call (cH (call w s₀ s₁ mg mb fa o pm cd doc a vs ns G Y ho (fd_plain hd) hcd hmg hobj hints hlen hg) fun r s' hq=>?_);obtain ⟨rfl,h2,h3,h4⟩:=hq;exact ⟨.inl ⟨.bool true,.bool true,[],rfl,fun _=>rfl,.bool true,Ie l _,fun _=>⟨Pairwise.nil,fun _ hm=>(nomatch hm)⟩⟩,h2,h3,h4⟩
section
variable {prog:cg} {w:World} {A:cW} {E:aA->aM->Prop} {s:aM} {K:Frag}
end
end Att
namespace L2
open PySem PySem.Spec PyProof.Rows
theorem rM:∀ {vs:List aA} {ns:List Int},IntsAre vs ns->Vals (ns.map V.int) vs
 | _,_,.nil=>.nil
 | _,_,.cons n t h=>.cons ⟨t,rfl⟩ (rM h)
def Only (H:Hp):Prop:=∀ b,H b=none\/∃ o xs,H b=some (.z7 o (.lst xs))
theorem J6 {P:cg} {w:World} {K:Fg} {mg mb:Str->Option aA} {CX:Ag} {k:Nat} {fa a:aB} {fd:d9} {x:Str} {sp:Sp} {s₁:aM} {vs:List aA} {ns:List Int} (KX:K.In s₁.heap) (hns:s₁.heap.Ns mainGlobals mg) (hb:s₁.heap.Ns builtinsNs mb) (hbb:∀ x:Str,x≠"__name__"->mb x=bootBuiltins x) (hlim:s₁.heap.NoLimit) (hg:s₁.gens=#[]) (ha:s₁.heap.get? a=some { cls:=.type "list",data:=.seq vs.toArray }) (hi:IntsAre vs ns) (hl:ns.length<=sizeLine) (hr:eO k callerA) (F:∀ base:Heap,K.In base->base.Ns mainGlobals mg->cB P w K mg base CX k fa fd [x] sp) (hbind:∀ (s:aM) (u:aA),BindsTo s fd ⟨[u],[]⟩ [(x,u)]) (hsp:∀ H:Hp,Only H->cU K H a (ns.map V.int)->sp [.ref a] H (fun v _=>v=.bl true) fun _ _ _=>False) (hCX:∀ H e s',CX [] H s₁ (fun _ _ _=>False) e s'->False) : codeAny (model P w) callerA (.call (.ref fa) ⟨[.ref a],[]⟩) (fun r s'=>r=.ok (.ret (.bool true))/\OldK s₁.heap s'.heap/\s'.os=s₁.os/\AllBare s'.gens) s₁:=by
 have rv:=rM hi;have lenV:=hi.length;have core:∀ H:Hp,Only H->cU K H a (ns.map V.int)->rB P w H s₁.heap->(∀ b,H b≠none->b=a)->(H a≠none->K.lookup a=none) ->
   codeAny (model P w) callerA (.call (.ref fa) ⟨[.ref a],[]⟩) (fun r s'=>r=.ok (.ret (.bool true))/\OldK s₁.heap s'.heap/\s'.os=s₁.os/\AllBare s'.gens) s₁:=by
  intro H hO hS hok hA hK;have Gq:∀ {b:aB} {o:Obj},s₁.heap.get? b=some o->H b=none->(yH s₁.heap H).get? b=some o:=fun e n=>JB e n
  have noA:∀ {b:aB} {o:Obj} {es:Array DictEntry} {ep:Nat},s₁.heap.get? b=some o->o.data=.dict es ep->H b=none:=fun {b o es ep} e d=>by
   cases q:H b with
   | none=>rfl
   | some u =>
    have e':b=a:=hA b (by rw [q]; simp);subst e';rw [ha] at e; cases e;have d':Data.seq vs.toArray _=Data.dict es ep:=d;cases d'
  have nsK:∀ {b:aB} {m:Str->Option aA},s₁.heap.Ns b m->(yH s₁.heap H).Ns b m:=fun {b m} ⟨o,es,ep,e,d,r⟩=>⟨o,es,ep,Gq e (noA e d),d,r⟩
  have hKb:K.In (yH s₁.heap H):=fun b o e=>Gq (KX b o e) (by
   cases q:H b with
   | none=>rfl
   | some u =>
    have e':b=a:=hA b (by rw [q]; simp);subst e';rw [hK (by rw [q]; simp)] at e; cases e)
  have hM:Mod K mg (yH s₁.heap H):=⟨hKb,nsK hns,⟨mb,nsK hb,hbb⟩,let ⟨mc,h1,h2⟩:=hlim; ⟨mc,nsK h1,h2⟩⟩;have e0:Dm P w K mg (yH s₁.heap H) callerA [] s₁ H:=⟨rfl,hM,fun b o e=>QM e,Nat.le_of_eq (Hy _ _),trivial,fun b hb=>absurd (show b ∈ ([]:List aB) from hb) (by simp),hok,.of_eq hg⟩;refine cH ((F _ hKb (nsK hns)).run callerA [] s₁ H ⟨[.ref a],[]⟩ [.ref a] [.ref a] _ _ hr e0 (hbind s₁ (.ref a)) (.cons rfl .nil) (hsp H hO hS)) fun r s' h=>?_
  cases r with
  | error e=>exact (hCX H e s' h).elim
  | ok fl =>
   cases fl with
   | next=>exact False.elim h
   | brk=>exact False.elim h
   | cont=>exact False.elim h
   | ret u =>
    obtain ⟨v,H',os,bare,un,hok',r',q⟩:=h;have q':v=.bl true:=q;subst q';obtain rfl:u=Value.bool true:=r';refine ⟨rfl,OldK.of_keep fun b o e=>?_,os,bare⟩;cases q:H b with
    | none=>exact un.keep b o e q (by intro z; exact absurd (show b ∈ ([]:List aB) from z) (by simp)) (by simp)
    | some u =>
     rcases hO b with z | ⟨ob,xs,z⟩
     ·rw [q] at z; cases z
     ·have z2:=un.ug b ob _ z;obtain ⟨e1,_⟩:=hok b _ z;obtain ⟨e2,_⟩:=hok' b _ z2;rw [e] at e1; cases e1;exact e2
 cases hk:K.lookup a with
 | some o =>
  have e:=KX a o hk;rw [ha] at e;cases e;refine core (fun _=>none) (fun _=>.inl rfl) (.inr ⟨_,vs.toArray,_,hk,rfl,rfl,rfl,by rw [size_toArray,lenV]; exact hl,by simpa using rv⟩) (fun b u z=>by have z':(none:Option HO)=some u:=z; cases z') (fun b z=>absurd rfl z) fun z=>absurd rfl z
 | none =>
  refine core (fun b=>if b=a then some (.z7 { cls:=.type "list",data:=.seq vs.toArray } (.lst (ns.map V.int))) else none) (fun b=>?_) (.inl (.inr ⟨{ cls:=.type "list",data:=.seq vs.toArray },if_pos rfl⟩)) (fun b u z=>?_) (fun b z=>?_) fun _=>hk
  ·by_cases hb:b=a
   ·exact .inr ⟨_,_,if_pos hb⟩
   ·exact .inl (if_neg hb)
  ·by_cases hb:b=a
   ·have z':=(if_pos hb).symm.trans z;cases z';subst hb;exact ⟨ha,by rw [aq]; exact hl,vs,_,rv,ha⟩
   ·have z':=(if_neg hb).symm.trans z;cases z'
  ·by_cases hb:b=a
   ·exact hb
   ·exact absurd (if_neg hb) z
theorem Rf {l:PySem.W.OpenLaw} {n k:Nat} {q:cg} {loose:List Str} {XP:(Str->Option aA)->Heap->Prop} {YP:World->Heap->Prop} {d:DefRec} {K:Params->Fg} {CX:World->Ag} {sp:World->Sp} {x:Str} (hn:l.most=some n) (hn2:n<=sizeLine) (hdf:d.params.defaults=[]) (hr:eO k callerA) (hY:∀ (w:World) (h:Heap),YP w h->(K w.params).In h) (F:∀ (w:World) (mg:Str->Option aA) (fa:aB) (h:Heap),(K w.params).In h->h.Ns mainGlobals mg->mg d.name=some (.ref fa) -> ∃ fd:d9,(∀ (s:aM) (u:aA),BindsTo s fd ⟨[u],[]⟩ [(x,u)]) /\ ∀ base:Heap,(K w.params).In base->base.Ns mainGlobals mg->cB l.prog w (K w.params) mg base (CX w) k fa fd [x] (sp w)) (hsp:∀ (w:World) (H:Hp) (a:aB) (ns:List Int),ns.length<=n->Only H->cU (K w.params) H a (ns.map V.int)->sp w [.ref a] H (fun v _=>v=.bl true) fun _ _ _=>False) (hCX:∀ (w:World) (H:Hp) (s:aM) (e:aA) (s':aM),CX w [] H s (fun _ _ _=>False) e s'->False) : PySem.W.WalkO q loose XP YP l.row.toRowW d [] (fun f vs=>PySem.call f vs):=by
 refine Att.Aj hn hdf fun w s₀ s₁ mg mb fa o pm cd doc a vs ns G Y ho hd hcd hmg hobj hints hlen hg=>?_
 have KX:=hY w _ Y;obtain ⟨fd,hb,hF⟩:=F w mg fa _ KX G.T.g hmg;exact J6 KX G.T.g G.T.b G.T.builtins G.T.nolimit hg hobj hints (bw hlen hn2) hr hF hb (fun H hO hS=>hsp w H a ns hlen hO hS) fun H e s'=>hCX w H s₁ e s'
structure nJ (K:Fg) (x qual:Str) (st:cV) (f:aB) (fd:d9):Prop where
 ex:∃ (oc:aA) (od:Option aB) (kV doc pm:aA) (an:Option aB) (cdv ct:aA) (osl:Array (Option aA)),fd=fnOf x qual (jZ st) (gk st) (aY st) .none kV doc pm an cdv ct/\K.lookup f=some ⟨oc,od,.func fd,osl⟩/\codeIn K cdv qual=true
 kp:keepIn K (.ref f)=true
section
variable {P:cg} {w:World} {K:Fg} {mg:Str->Option aA} {base:Heap}
theorem nJ.binds {x qual:Str} {st:cV} {f:aB} {fd:d9} {ps:List Str} (F:nJ K x qual st f fd) (h:∀ (kV doc pm:aA) (an:Option aB) (cdv ct:aA) (us:List aA),us.length=ps.length->bindArgs (fnOf x qual (jZ st) (gk st) (aY st) .none kV doc pm an cdv ct) ⟨us,[]⟩=pure (ps.zip us)):Binds K fd ps []:=by
 obtain ⟨oc,od,kV,doc,pm,an,cdv,ct,osl,rfl,lk,hcd⟩:=F.ex;exact .all (h kV doc pm an cdv ct)
theorem gA {x qual:Str} {st:cV} {f:aB} {oc:aA} {od an:Option aB} {osl:Array (Option aA)} {kV doc pm cdv ct:aA} (l:K.lookup f=some ⟨oc,od,.func (fnOf x qual (jZ st) (gk st) (aY st) .none kV doc pm an cdv ct),osl⟩) (c:codeIn K cdv qual=true) (k:keepIn K (.ref f)=true):nJ K x qual st f (fnOf x qual (jZ st) (gk st) (aY st) .none kV doc pm an cdv ct):=⟨⟨oc,od,kV,doc,pm,an,cdv,ct,osl,rfl,l,c⟩,k⟩
end
section
variable {X:Cx}
theorem pv (i:Nat) {x:Str} {pos:Pos} (hN:autoParam (X.N[i]?=some x) zau0) (hv:Vis X.env.scope x:=by first | exact Or.inl rfl | exact Or.inr (Or.inl rfl) | exact Or.inr (Or.inr rfl)) (hd:autoParam ((x == ("__debug__":Str))=false) zau1) (hcd:autoParam ((x == ("__classdict__":Str))=false) zau1):PE X (.Name x pos) (adq i):=YM hN hv hd hcd
end
theorem dG {A B:Prop} (h:B):if false=true then A else B:=by
 rw [if_neg Bool.false_ne_true];exact h
theorem dH {A B:Prop} (h:A):if true=true then A else B:=by
 rw [if_pos rfl];exact h
theorem yR {c A B:Prop} [Decidable c] (h1:c->A) (h2:¬ c->B):if c then A else B:=by
 by_cases h:c
 ·rw [if_pos h];exact h1 h
 ·rw [if_neg h];exact h2 h
def Same (H H':Hp):Prop:=∀ b o,H b=some o->H' b=some o
theorem Same.refl (H:Hp):Same H H:=fun _ _ h=>h
theorem Same.trans {H H1 H2:Hp} (a:Same H H1) (b:Same H1 H2):Same H H2:=fun c o h=>b c o (a c o h)
theorem Same.free {H H':Hp} (e:Same H H') {l:aB} (h:H' l=Option.none):H l=Option.none:=by
 cases q:H l with
 | none=>rfl
 | some o =>
  rw [e l o q] at h;cases h
theorem Same.seq {K:Fg} {H H':Hp} {a:aB} {xs:List V} (e:Same H H') (h:cU K H a xs):cU K H' a xs:=by
 rcases h with (h | ⟨o,h⟩) | h
 ·exact .inl (.inl (e _ _ h))
 ·exact .inl (.inr ⟨o,e _ _ h⟩)
 ·exact .inr h
theorem vd (o:Obj) (f:Array aA->Array aA):(o.mapFields f).dict=o.dict:=by
 obtain ⟨c,d,dt,sl⟩:=o;cases dt <;> rfl
noncomputable def Exc (h:Heap) (e:aB) (cls:aA) (dx:Option aB) (T:Option aB):Prop := ∃ oe vs,h.get? e=some oe/\oe.cls=cls/\oe.dict=dx/\oe.data=.fields vs /\ match T with
 | none=>vs[1]?=some Value.none
 | some t=>vs[1]?=some (.ref t)/\t≠e/\∃ oT ts fl,h.get? t=some oT/\oT.data=.fields ts/\ts[3]?=some fl
theorem Exc.keeps {h h':Heap} {e:aB} {cls:aA} {dx T:Option aB} (x:Exc h e cls dx T) (k:∀ b o,(b=e\/T=some b)->h.get? b=some o->h'.get? b=some o):Exc h' e cls dx T:=by
 obtain ⟨oe,vs,he,hc,hx,hd,hT⟩:=x;refine ⟨oe,vs,k _ _ (.inl rfl) he,hc,hx,hd,?_⟩;cases T with
 | none=>exact hT
 | some t =>
  obtain ⟨h1,hne,oT,ts,fl,h2,h3,h4⟩:=hT;exact ⟨h1,hne,oT,ts,fl,k _ _ (.inr rfl) h2,h3,h4⟩
def Ak (head:aA) (L:aB) (pl:List aA):Obj := { cls:=.type "traceback",dict:=none,data:=.fields ([head,.ref L,.none,rawInt L,.none]++(if pl.isEmpty then List.replicate 6 Value.none else pl)).toArray }
theorem yS (head:aA) (L:aB) (pl:List aA):∃ ts,(Ak head L pl).data=.fields ts/\ts[3]?=some (rawInt L):=⟨_,rfl,by simp⟩
structure Al (fr:List aB) (e:aB) (T:Option aB) (h h':Heap):Prop where
 same:∀ b o,b ∉ fr->b≠e->T≠some b->h.get? b=some o->h'.get? b=some o
 upto:∀ b o,b≠e->T≠some b->h.get? b=some o->∃ sl,h'.get? b=some { o with slots:=sl }
abbrev lV (l:List Env):List aB:=l.filterMap (·.frame)
section
variable {M:Model} {A:cW} {E:aA->aM->Prop} {Q:Unit->aM->Prop}
variable {s:aM} {base:Heap} {env top:Env} {rest:List Env} {L e:aB} {cls:aA} {dx:Option aB}
theorem J7 {Qv:aA->aM->Prop} (st:A.frames=some (top::rest)) (Dq:s.heap.FunFrames base (top::rest)) (e0:top.frame=some L) (e1:env.frame=some L) (k:∀ h',Heap.SlotsOnly (lV (top::rest)) s.heap h'->Qv (.ref L) { s with heap:=h' }):wpAny M A (PySem.frameOf env) Qv E s:=by
 have swap:PySem.frameOf env=PySem.frameOf top:=by unfold PySem.frameOf; rw [e0,e1]
 rw [swap];exact wpAny_frameOf_fun st Dq e0 k
theorem xJ {oe:Obj} {vs:Array aA} {head:aA} {b₀:Bool} (st:A.frames=some (top::rest)) (Dq:s.heap.FunFrames base (top::rest)) (e0:top.frame=some L) (e1:env.frame=some L) (at_:s.heap.get? e=some oe) (lW:oe.data=.fields vs) (two:1 < vs.size) (k:∀ h' T,Al (lV (top::rest)) e none s.heap h'->s.heap.get? T=none->Exc h' e oe.cls oe.dict (some T)->Q () { s with heap:=h' }) : wpAny M A (PySem.frameOf env >>= fun a=>entryPlaceOf L b₀ >>= fun pl=>EntryCells.newEntry head a .none (rawInt L) .none pl >>= fun r=>setField (.ref e) 1 r) Q E s:=by
 refine aj (J7 st Dq e0 e1 fun g sg=>aj (wpAny_entryPlaceOf fun pl ok=>?_));have out:e ∉ lV (top::rest):=fun q=>(Dq.mem q).2.elim fun o z=>z.2 vs (by rw [at_] at z; rw [<- bU z.1]; exact lW)
 have g_e:g.get? e=some oe:=(sg.2.1 e out).trans at_;have apart:g.objs.size≠e:=Nat.ne_of_gt (Heap.lt_size g_e)
 let g1:=g.push (Ak head L pl)
 have adN:g1.get? e=some oe:=au (Ak head L pl) g_e;have air:g1.get? g.objs.size=some (Ak head L pl):=aC g rfl
 let turn:Obj->Obj:=Obj.mapFields fun xs=>xs.setIfInBounds 1 (Value.ref g.objs.size)
 have now:(turn oe).data=.fields (vs.setIfInBounds 1 (.ref g.objs.size)):=Obj.data_mapFields lW _;have self:(g1.update e turn).get? e=some (turn oe):=Heap.get?_update_self turn adN (Obj.isFreed_of_fields now);have others:∀ b,b≠e->(g1.update e turn).get? b=g1.get? b:=fun b nb=>Heap.get?_update_other g1 turn (Ne.symm nb)
 have up:∀ b o,b≠e->g.get? b=some o->(g1.update e turn).get? b=some o:=fun b o nb q=>(others b nb).trans (au (Ak head L pl) q)
 refine aj (wpAny_newObj_type ?_ (ok.sizeOk5 _ _ _ _ _));refine wpAny_setField (s:={ s with heap:=g1 }) adN lW two ?_;refine k (g1.update e turn) g.objs.size ⟨fun b o nf nb _ q=>up b o nb ((sg.2.1 b nf).trans q),fun b o nb _ q=>?_⟩ ?_ ?_
 ·obtain ⟨sl,z⟩:=sg.2.2 b o q;exact ⟨sl,up b _ nb z⟩
 ·exact Heap.get?_none_of_le (Nat.le_of_eq sg.1.symm)
 ·obtain ⟨ts,d,f⟩:=yS head L pl;exact ⟨turn oe,_,self,Obj.cls_mapFields _ _,vd _ _,now,by simp [two],apart,_,ts,_,(others _ apart).trans air,d,f⟩
theorem Al.weaken {fr:List aB} {T:Option aB} {h h':Heap} (n:Al fr e none h h'):Al fr e T h h':=⟨fun b o a c _ q=>n.same b o a c (fun z=>nomatch z) q,fun b o c _ q=>n.upto b o c (fun z=>nomatch z) q⟩
theorem Ka {T:Option aB} (st:A.frames=some (top::rest)) (Dq:s.heap.FunFrames base (top::rest)) (e0:top.frame=some L) (e1:env.frame=some L) (x:Exc s.heap e cls dx T) (k:∀ h' T',Al (lV (top::rest)) e T s.heap h'->(s.heap.get? T'=none\/T=some T')->Exc h' e cls dx (some T')->Q () { s with heap:=h' }):wpAny M A (noteFrame (.ref e) env) Q E s:=by
 obtain ⟨oe,vs,at_,rfl,rfl,lW,more⟩:=id x;unfold noteFrame;simp only [e1];cases T with
 | none =>
  have nil:vs[1]?=some Value.none:=more;refine aj (wpAny_field at_ lW nil ?_);rw [if_neg (show ¬ (Value.none != Value.none)=true by decide)];exact xJ st Dq e0 e1 at_ lW (Array.getElem?_eq_some_iff.mp nil).1 fun h' T' n new y=>k h' T' n (.inl new) y
 | some t =>
  obtain ⟨one,apart,oT,ts,fl,tAt,tF,three⟩:=more;have lt1:=(Array.getElem?_eq_some_iff.mp one).1;have lt3:=(Array.getElem?_eq_some_iff.mp three).1;refine aj (wpAny_field at_ lW (x:=.ref t) one ?_);have has:(Value.ref t != Value.none)=true:=rfl;simp only [has,if_true];refine aj (wpAny_field tAt tF three ?_)
  by_cases here:(fl == rawInt L)=true
  ·simp only [here,if_true];exact ak (k s.heap t ⟨fun _ _ _ _ _ q=>q,fun _ o _ _ q=>⟨o.slots,q⟩⟩ (.inr rfl) x)
  ·rw [if_neg here]
   let off:Obj->Obj:=Obj.mapFields fun xs=>xs.setIfInBounds 3 Value.none
   have else_:∀ b,b≠t->(s.heap.update t off).get? b=s.heap.get? b:=fun b nb=>Heap.get?_update_other s.heap off (Ne.symm nb)
   have frames':(s.heap.update t off).FunFrames base (top::rest):=Dq.of_keeps fun b o q nf=>⟨o,(else_ b fun z=>nf ts (by rw [z,tAt] at q; rw [<- bU q]; exact tF)).trans q,rfl⟩
   refine aj (wpAny_setField tAt tF lt3 (xJ (s:={ s with heap:=s.heap.update t off }) st frames' e0 e1 ((else_ e (Ne.symm apart)).trans at_) lW lt1 fun h' T' n new y=>k h' T' ?_ ?_ y))
   ·exact ⟨fun b o a c d q=>n.same b o a c (fun z=>nomatch z) ((else_ b fun z=>d (congrArg some z.symm)).trans q),fun b o c d q=>n.upto b o c (fun z=>nomatch z) ((else_ b fun z=>d (congrArg some z.symm)).trans q)⟩
   ·by_cases z:T'=t
    ·exact .inr (congrArg some z.symm)
    ·exact .inl ((else_ T' z).symm.trans new)
theorem Dr {t:aB} {fr:Option aB} (x:Exc s.heap e cls dx (some t)) (k:∀ h',(∀ b o,b≠t->s.heap.get? b=some o->h'.get? b=some o)->Exc h' e cls dx (some t)->Q () { s with heap:=h' }) : wpAny M A (setFlight (.ref e) fr) Q E s:=by
 obtain ⟨oe,vs,at_,rfl,rfl,lW,one,apart,oT,ts,fl,tAt,tF,three⟩:=x;have lt3:=(Array.getElem?_eq_some_iff.mp three).1;have has:(Value.ref t != Value.none)=true:=rfl;unfold setFlight;refine aj (wpAny_field at_ lW one ?_);simp only [has,if_true]
 let mark:aA:=fr.elim Value.none fun f=>rawInt f
 have tF':(oT.mapFields fun xs=>xs.setIfInBounds 3 mark).data=.fields (ts.setIfInBounds 3 mark):=Obj.data_mapFields tF _;refine wpAny_setField tAt tF lt3 (k _ (fun b o nb q=>(Heap.get?_update_other s.heap _ (Ne.symm nb)).trans q) ?_);exact ⟨oe,vs,(Heap.get?_update_other s.heap _ apart).trans at_,rfl,rfl,lW,one,apart,_,_,mark,Heap.get?_update_self _ tAt (Obj.isFreed_of_fields tF'),tF',by simp [lt3]⟩
end
theorem eV.there {P:cg} {w:World} {H:Hp} {h:Heap} {a:aB} {o:HO} (x:eV P w H h a o):∃ ob,h.get? a=some ob:=by
 cases o with
 | lst xs=>obtain ⟨_,_,_,_,e⟩:=x; exact ⟨_,e⟩
 | tup xs=>obtain ⟨_,_,_,ob,e,_⟩:=x; exact ⟨_,e⟩
 | dK kvs=>obtain ⟨_,_,_,_,o,_,_,e,_⟩:=x; exact ⟨_,e⟩
 | dT kvs=>obtain ⟨_,_,_,_,o,_,_,e,_⟩:=x; exact ⟨_,e⟩
 | set S n=>obtain ⟨o,_,_,_,e,_⟩:=x; exact ⟨_,e⟩
 | ins C dx fs=>obtain ⟨_,_,_,e,_⟩:=x; exact ⟨_,e⟩
 | own y=>exact x
 | xd fs=>obtain ⟨_,⟨_,_,_,e,_⟩,_⟩:=x; exact ⟨_,e⟩
 | rng lo hi=>obtain ⟨_,_,_,e⟩:=x; exact ⟨_,e⟩
 | z7 ob u=>obtain ⟨e,_⟩:=x; exact ⟨_,e⟩
 | Tt ps=>exact ⟨_,(show h.get? a=some _ from x)⟩
 | met f y=>exact ⟨_,(show h.get? a=some _ from x)⟩
 | ext φ=>obtain ⟨_,e,_⟩:=x; exact e
theorem rB.none_of {P:cg} {w:World} {H:Hp} {h:Heap} {b:aB} (x:rB P w H h) (hb:h.get? b=none):H b=none:=by
 cases q:H b with
 | none=>rfl
 | some o =>
  obtain ⟨ob,e⟩:=(x b o q).there;rw [hb] at e; cases e
def Loose (X:Cx) (pins:List (aB × Obj)) (H:Hp) (b:aB):Prop := H b=none/\b≠X.env.locals/\b ∉ X.fs/\(b ∉ X.ex->X.s₀.heap.get? b=none)/\(∀ x c,X.env.cells.lookup x=some c->c≠b)/\∀ p ∈ X.pn++pins,p.1≠b
section
variable {X:Cx} {pins:List (aB × Obj)} {σ:St} {H:Hp} {s:aM} {b:aB}
theorem Inv.jH (I:Inv X pins σ H s) (hb:s.heap.get? b=none):Loose X pins H b:=by
 refine ⟨I.hok.none_of hb,fun z=>?_,fun z=>?_,fun z=>?_,fun x c e z=>?_,fun p hp z=>?_⟩
 ·obtain ⟨m,⟨o,_,_,ho,_⟩,_⟩:=I.loc;rw [<- z,hb] at ho; cases ho
 ·obtain ⟨_,o,ho,_⟩:=I.rE.mem z;rw [hb] at ho; cases ho
 ·cases q:X.s₀.heap.get? b with
  | none=>rfl
  | some o =>
   obtain ⟨o',e⟩:=I.base.there b o q z;rw [hb] at e; cases e
 ·obtain ⟨v,o,ho,_⟩:=I.cell x c e;rw [z,hb] at ho; cases ho
 ·have e:=(I.pin p hp).1;rw [z,hb] at e; cases e
theorem Inv.nM {h':Heap} {t':Nat} {ch:List aB} (I:Inv X pins σ H s) (hch:∀ b ∈ ch,Loose X pins H b) (keep:∀ b o,b ∉ frs X.stack->b ∉ ch->s.heap.get? b=some o->h'.get? b=some o) (slot:∀ b o,b ∉ ch->s.heap.get? b=some o->∃ sl,h'.get? b=some { o with slots:=sl }):Inv X pins σ H { s with heap:=h',toks:=t' }:=by
 have Tz:∀ b o,X.s₀.heap.get? b=some o->b≠X.env.locals:=fun b o e=>Nat.ne_of_lt (aZ (Heap.lt_size e) I.ok.above)
 have TF:∀ b o,X.s₀.heap.get? b=some o->b ∉ X.ex->b ∉ ch:=fun b o e hx hb=>by
  have:=(hch b hb).2.2.2.1 hx;rw [e] at this; cases this
 have stk:∀ b,b≠X.env.locals->b ∉ X.fs->b ∉ frs X.stack:=fun b h1 h2 hb=>(aQ.mp (I.rG b hb)).elim h1 h2
 have cellK:∀ x c,X.env.cells.lookup x=some c->∀ v,s.heap.IsCell c v->h'.IsCell c v:=fun x c e v ⟨o,ho,hd⟩=>by
  obtain ⟨sl,q⟩:=slot c o (fun z=>(hch c z).2.2.2.2.1 x c e rfl) ho;exact ⟨_,q,hd⟩
 refine ⟨I.ok,I.os,I.bare,⟨fun b o e n hb hx=>?_,fun b o e n hb hx=>?_,I.base.free,fun b o e hx=>?_,I.base.tups,I.base.ug,I.base.uP⟩,?_,fun x c e=>?_,I.free,I.jf,fun p hp=>?_,fun a u e=>?_,I.len⟩
 ·exact keep b o (stk b (Tz b o e) hb) (TF b o e hx) (I.base.keep b o e n hb hx)
 ·obtain ⟨sl,e1⟩:=I.base.slot b o e n hb hx;obtain ⟨sl',e2⟩:=slot b _ (TF b o e hx) e1;exact ⟨sl',e2⟩
 ·obtain ⟨o',e1⟩:=I.base.there b o e hx;obtain ⟨sl',e2⟩:=slot b _ (TF b o e hx) e1;exact ⟨_,e2⟩
 ·obtain ⟨m,⟨o,es,ep,ho,r⟩,hl⟩:=I.loc;obtain ⟨sl,e⟩:=slot _ o (fun z=>(hch _ z).2.1 rfl) ho;refine ⟨m,⟨_,es,ep,e,r⟩,fun i x v e1 e2 e3=>?_⟩;obtain ⟨u,ru,l⟩:=hl i x v e1 e2 e3;refine ⟨u,ru,?_⟩;rcases l with l | ⟨k,c,e,z⟩
  ·exact .inl l
  ·exact .inr ⟨k,c,e,cellK x c e _ z⟩
 ·obtain ⟨v,z⟩:=I.cell x c e;exact ⟨v,cellK x c e v z⟩
 ·obtain ⟨e,n,ne,nf,d⟩:=I.pin p hp;exact ⟨keep p.1 p.2 (stk _ ne nf) (fun z=>(hch _ z).2.2.2.2.2 p hp rfl) e,n,ne,nf,d⟩
 ·refine (I.hok a u e).stay (fun c v hc q=>?_) (fun _ q=>q) fun _ _ q=>q
  have ht:∃ z,H c=some z:=by
   rcases hc with z | z
   ·exact ⟨u,by rw [z]; exact e⟩
   ·exact ⟨_,z⟩
  obtain ⟨z,hz⟩:=ht;refine keep c v (fun y=>?_) (fun y=>?_) q
  ·have:=I.yI c y;rw [hz] at this; cases this
  ·have:=(hch c y).1;rw [hz] at this; cases this
end
def Fly (X:Cx) (pins:List (aB × Obj)) (H:Hp) (s:aM) (e:aB) (cls:aA) (dx:Option aB):Prop := ∃ T,Exc s.heap e cls dx T/\Loose X pins H e/\∀ t,T=some t->Loose X pins H t
def Kc (X:Cx) (pins:List (aB × Obj)) (H:Hp) (s:aM) (e:aB) (cls:aA) (dx:Option aB):Prop := ∃ t,Exc s.heap e cls dx (some t)/\Loose X pins H e/\Loose X pins H t
theorem Kc.fly {X:Cx} {pins:List (aB × Obj)} {H:Hp} {s:aM} {e:aB} {cls:aA} {dx:Option aB} (f:Kc X pins H s e cls dx):Fly X pins H s e cls dx:=by
 obtain ⟨t,x,l1,l2⟩:=f;exact ⟨some t,x,l1,fun y z=>by cases z; exact l2⟩
def qH (X:Cx) (L:aB):Prop:=∃ env₀ outer,X.stack=env₀::outer/\env₀.frame=some L/\X.env.frame=some L
section
variable {X:Cx} {pins:List (aB × Obj)} {σ:St} {H:Hp} {s:aM} {e L:aB} {cls:aA} {dx:Option aB} {M:Model} {A:cW} {E:aA->aM->Prop} {Q:Unit->aM->Prop}
theorem Ds (I:Inv X pins σ H s) (hA:A.frames=some X.stack) (F:qH X L) (f:Fly X pins H s e cls dx) (h:∀ s',Inv X pins σ H s'->Kc X pins H s' e cls dx->Q () s') : wpAny M A (noteFrame (.ref e) X.env) Q E s:=by
 obtain ⟨T,x,le,lt⟩:=f;obtain ⟨env₀,outer,es,hf₀,hf⟩:=F;refine Ka (base:=X.base) (by rw [hA,es]) (by rw [<- es]; exact I.stack) hf₀ hf x fun h' T' nt k3 x'=>?_
 have hch:∀ b ∈ e::T.toList,Loose X pins H b:=fun b hb=>by
  rcases aQ.mp hb with z | z
  ·rw [z]; exact le
  ·exact lt b (by simpa using z)
 have I':Inv X pins σ H { s with heap:=h',toks:=s.toks }:=I.nM (ch:=e::T.toList) hch
  (fun b o hb hc q=>nt.same b o (by unfold frs at hb; rw [es] at hb; exact hb) (fun z=>hc (by rw [z]; exact mem_cons_self)) (fun z=>hc (mem_cons_of_mem _ (by simp [z]))) q)
  (fun b o hc q=>nt.upto b o (fun z=>hc (by rw [z]; exact mem_cons_self)) (fun z=>hc (mem_cons_of_mem _ (by simp [z]))) q)
 refine h _ I' ⟨T',x',le,?_⟩;rcases k3 with z | z
 ·exact I.jH z
 ·exact lt T' z
theorem qI {fr:Option aB} (I:Inv X pins σ H s) (f:Kc X pins H s e cls dx) (h:∀ s',Inv X pins σ H s'->Kc X pins H s' e cls dx->Q () s') : wpAny M A (setFlight (.ref e) fr) Q E s:=by
 obtain ⟨t,x,le,lt⟩:=f;refine Dr x fun h' k x'=>?_
 have I':Inv X pins σ H { s with heap:=h',toks:=s.toks }:=I.nM (ch:=[t]) (fun b hb=>by rw [aO.mp hb]; exact lt)
  (fun b o _ hc q=>k b o (fun z=>hc (by rw [z]; exact mem_cons_self)) q) (fun b o hc q=>⟨o.slots,k b o (fun z=>hc (by rw [z]; exact mem_cons_self)) q⟩)
 exact h _ I' ⟨t,x',le,lt⟩
end
noncomputable def fK (P:cg) (w:World):Ag:=fun outer H s E ev s'=>∃ e cls dx H' t,ev=.ref e/\s'.os=s.os/\AllBare s'.gens/\Un (frs outer) [] H H' s.heap s'.heap/\rB P w H' s'.heap /\ Exc s'.heap e cls dx (some t)/\H' e=none/\H' t=none/\s.heap.get? e=none/\s.heap.get? t=none/\E cls dx H'
def rN (X:Cx) (E:XK):Prop:=∀ pins σ H s e cls dx,Inv X pins σ H s->Fly X pins H s e cls dx->E cls dx H->X.xe (.ref e) s
theorem cC {X:Cx} {E:XK} (acc:rN X E):Passes (fK X.prog X.w) X E:=by
 intro pins σ H s ev s' I h;obtain ⟨e,cls,dx,H',t,rfl,os,bare,un,hok,x,ne,nt,fe,ft,q⟩:=h;have I':Inv X pins σ H' s':=I.call' (ch:=[]) os un hok bare (fun b z=>nomatch z);refine acc pins σ H' s' e cls dx I' ⟨some t,x,⟨ne,(I.jH fe).2⟩,fun y z=>?_⟩ q;cases z;exact ⟨nt,(I.jH ft).2⟩
theorem bx {X:Cx} {P:cg} {w:World}:Passes (fK P w) X (fun _ _ _=>False):=by
 intro pins σ H s ev s' I h;obtain ⟨_,_,_,_,_,_,_,_,_,_,_,_,_,_,_,q⟩:=h;exact q.elim
theorem bF {P:cg} {w:World} {K:Fg} {mg:Str->Option aA} {base:Heap} {N:List Str} {qual:Str} {scope:Scope} {f:aB} {cd:aA} {A:cW} {outer:List Env} {s:aM} {H:Hp} {E:XK} : rN (p7 (fK P w) P w K mg base N qual scope f cd A outer s H E) E:=by
 intro pins σ H' s' e cls dx I fl q
 show wpAny (model P w) _ (leaving _ (.ref e)) _ _ s'
 unfold leaving;refine aj (Ds I I.ok.frames ⟨_,_,rfl,rfl,rfl⟩ fl fun s1 I1 f1=>?_);refine qI I1 f1 fun s2 I2 f2=>?_
 obtain ⟨t,x2,le,lt⟩:=f2;exact ⟨e,cls,dx,H',t,rfl,I2.os,I2.bare,I2.base,I2.hok,x2,le.1,lt.1,le.2.2.2.1 (fun z=>nomatch z),lt.2.2.2.1 (fun z=>nomatch z),q⟩
theorem gB {P:cg} {w:World} {K:Fg} {mg:Str->Option aA} {base:Heap} {N:List Str} {qual:Str} {scope:Scope} {f:aB} {cd:aA} {A:cW} {outer:List Env} {s:aM} {H:Hp} {E:XK} {CX:Ag} : PassesOwn (model P w) (p7 CX P w K mg base N qual scope f cd A outer s H E).A (p7 CX P w K mg base N qual scope f cd A outer s H E).env (p7 CX P w K mg base N qual scope f cd A outer s H E).xe:=PassesOwn.leaving
theorem Am {K:Fg} {C:aB} {base:List aA} {new:String} (q:excIn K C base new=true) : ∃ dd cd up a b c d f,K.lookup C=some ⟨.type "type",dd,.cls cd,#[a,b,c,d,some (.builtin new),f]⟩/\cd.mro=.ref C::up/\cd.hasDel=false/\tailIn K base up=true/\nsOkIn K cd.ns=true/\nsIn K cd.ns "__init__"=some none:=by
 unfold excIn at q
 split at q
 ·rename_i dd cd sl look
  split at q
  ·rename_i C' up a b c d adO f mro slots
   have q':((((C'=C/\adO=new)/\cd.hasDel=false)/\tailIn K base up=true)/\nsOkIn K cd.ns=true)/\nsIn K cd.ns "__init__"=some none:=by simpa using q
   obtain ⟨⟨⟨⟨⟨i1,i2⟩,i3⟩,i4⟩,i5⟩,i6⟩:=q';subst i1; subst i2;have as_array:sl=#[a,b,c,d,some (.builtin adO),f]:=Array.toList_inj.mp slots;exact ⟨dd,cd,up,a,b,c,d,f,as_array ▸ look,mro,i3,i4,i5,i6⟩
  ·exact absurd q Bool.false_ne_true
 ·exact absurd q Bool.false_ne_true
theorem Zf {K:Fg} {h:Heap} {mg:Str->Option aA} {x:Str} {C:aB} {base:List aA} {new:String} (k:K.In h) (named:mg x=some (.ref C)) (q:excIn K C base new=true):OwnCls x C base new mg h:=by
 obtain ⟨dd,cd,up,a,b,c,d,f,look,mro,del,tl,ok,ini⟩:=Am q;obtain ⟨nm,bs,amR,ns,qn,hd,sn,sub,ab,col,amS⟩:=cd;cases mro; cases del;exact ⟨named,up,ns,nm,qn,bs,hd,sn,sub,ab,col,dd,a,b,c,d,f,_,k C _ look,Heap.Ns.of_isNs (isNs_of_in k ok),PySem.W.nsMap_none_of_in k ok ini,tail_of_in k tl⟩
def Zg (C:aB) (E:XK) (ta:TA):TS:=fun _ σ H=>ta σ H fun vs H1=>vs.length<=sizeLine/\E (.ref C) none H1
section
variable {X:Cx} {E:XK} {x:Str} {C:aB} {bmB:List aA} {B newId initId:String} {np cpos pos:Pos} {e₀:Expr} {rest:List Expr} {ta:TA}
theorem gD (acc:rN X E) (hc:X.calm=true) (hg:Gl X x) (hm:X.mg x=some (.ref C)) (q:excIn X.K C bmB newId=true) (FB:ExcBaseFacts B newId initId bmB) (ha:PA X (e₀::rest) ta) (he:autoParam (starEach (e₀::rest) X.env=(false,eval e₀ X.env)::starEach rest X.env) zau0) (hpl:autoParam ((backTo cpos (starEach rest X.env)).any (·.1)=false) zau0) (hdb:autoParam ((x == ("__debug__":Str))=false) zau1) : PS X (.Raise (some (.Call (.Name x np) (e₀::rest) [] cpos)) none pos) (Zg C E ta):=by
 intro pins s σ H D I h;obtain ⟨tl,N,nm,qn,bs,hdct,sn,sub,ab,col,dd,k0,k1,k2,k3,k5,mN,hC,hN,hni,T⟩:=(Zf (mg:=X.mg) I.mod.Hz hm q).obj;refine wpAny_Raise_call_subT (C:=C) (nm:=nm) (q:=qn) (N:=N) (bs:=bs) (bm:=tl) (hdct:=hdct) (sn:=sn) (sub:=sub) (ab:=ab) (col:=col) (dd:=dd) (k0:=k0) (k1:=k1) (k2:=k2) (k3:=k3) (k5:=k5) FB (mN:=mN) (T.hasType FB.hasBase) (I.ok.hd hc) (by rw [he]; show (false || (backTo cpos (starEach rest X.env)).any (·.1))=false; rw [hpl]; rfl) hni (j5 I hg hm ⟨rfl,?_⟩ hdb);have hA:=ha cpos pins s σ H _ I h;rw [he] at hA ⊢;refine Calls.evalArgs_plain (eX hA fun us s2 h2=>?_);obtain ⟨vs,H1,I1,rv,hz,hE⟩:=h2;refine ⟨rfl,by rw [<- rv.length]; exact hz,I1.bk _ _ hC,hN.keeps I1.bk,T.keeps I1.bk,fun h' e hm'=>?_⟩;have I2:Inv X pins σ H1 { s2 with heap:=h' }:=I1.kept (t':=s2.toks) hm'.keeps;obtain ⟨t,hte,_,_⟩:=hm'.there;refine acc pins σ H1 _ e (.ref C) none I2 ⟨none,⟨_,_,hte,rfl,rfl,rfl,rfl⟩,I1.jH hm'.new,fun _ z=>nomatch z⟩ hE
end
def Rg (e:aB) (cls:aA) (dx:Option aB):HO:=.ext fun h=>∃ oe vs,h.get? e=some oe/\oe.cls=cls/\oe.dict=dx/\oe.data=.fields vs
def blank (n:Nat):St:=List.replicate n none
theorem Ao {n i:Nat} {v:V}:¬ (blank n)[i]?=some (some v):=by
 unfold blank;rw [List.getElem?_replicate]
 split <;> intro h <;> cases h
section
variable {X:Cx} {pins:List (aB × Obj)} {σ:St} {H:Hp} {s:aM}
theorem Inv.adopt {b:aB} {o:HO} (I:Inv X pins σ H s) (l:Loose X pins H b) (hx:b ∉ X.ex) (new:eV X.prog X.w (upd H b o) s.heap b o):Inv X pins σ (upd H b o) s:=by
 have h0:=l.2.2.2.1 hx;have ne:∀ c u,H c=some u->c≠b:=fun c u e z=>by rw [z,l.1] at e; cases e
 refine ⟨I.ok,I.os,I.bare,⟨I.base.keep,I.base.slot,fun c u e n hxc=>?_,I.base.there,fun c xs e=>?_,fun c u xs e=>?_,fun c ps e=>?_⟩,I.loc,I.cell,?_,fun x c e=>?_,fun p hp=>?_,fun c u e=>?_,I.len⟩
 ·rw [bA (fun z=>by rw [z,h0] at e; cases e)];exact I.base.free c u e n hxc
 ·have q:=I.base.tups c xs e;rw [bA (ne _ _ q)]; exact q
 ·have q:=I.base.ug c u xs e;rw [bA (ne _ _ q)]; exact q
 ·obtain ⟨m,q⟩:=I.base.uP c ps e;exact ⟨m,by rw [bA (ne _ _ q)]; exact q⟩
 ·rw [bA (Ne.symm l.2.1)]; exact I.free
 ·rw [bA (l.2.2.2.2.1 x c e)]; exact I.jf x c e
 ·obtain ⟨e,n,r⟩:=I.pin p hp;exact ⟨e,by rw [bA (l.2.2.2.2.2 p hp)]; exact n,r⟩
 ·by_cases z:c=b
  ·subst z;rw [aF] at e; cases e; exact new
  ·rw [bA z] at e;exact (I.hok c u e).stay (fun _ _ _ q=>q) (fun d q=>by rw [bA (ne _ _ q)]; exact q) fun d xs q=>by rw [bA (ne _ _ q)]; exact q
theorem Inv.Ke {h':Heap} {t':Nat} {m':Str->Option aA} (I:Inv X pins σ H s) (hn:h'.Ns X.env.locals m') (sb:Heap.SameBut X.env.locals s.heap h'):Inv X pins (blank X.N.length) H { s with heap:=h',toks:=t' }:=by
 obtain ⟨m,⟨oL,_,_,hoL,_⟩,_⟩:=id I.loc;have Tz:∀ b o,X.s₀.heap.get? b=some o->b≠X.env.locals:=fun b o e=>Nat.ne_of_lt (aZ (Heap.lt_size e) I.ok.above)
 have k:∀ b o,b≠X.env.locals->s.heap.get? b=some o->h'.get? b=some o:=fun b o ne e=>(sb.2 b ne).trans e
 refine ⟨I.ok,I.os,I.bare,⟨fun b o e n hb hx=>?_,fun b o e n hb hx=>?_,I.base.free,fun b o e hx=>?_,I.base.tups,I.base.ug,I.base.uP⟩,⟨m',hn,fun i x v _ e2 _=>absurd e2 Ao⟩,fun x c e=>?_,I.free,I.jf,fun p hp=>?_,fun a u e=>?_,by simp [blank]⟩
 ·exact k b o (Tz b o e) (I.base.keep b o e n hb hx)
 ·obtain ⟨sl,e1⟩:=I.base.slot b o e n hb hx;exact ⟨sl,k b _ (Tz b o e) e1⟩
 ·obtain ⟨o',e1⟩:=I.base.there b o e hx;exact ⟨o',k b _ (Tz b o e) e1⟩
 ·obtain ⟨v,o,ho,hd⟩:=I.cell x c e;exact ⟨v,o,k c o (I.Tv x c e) ho,hd⟩
 ·obtain ⟨e,n,ne,nf,d⟩:=I.pin p hp;exact ⟨k p.1 p.2 ne e,n,ne,nf,d⟩
 ·refine (I.hok a u e).stay (fun c v hc q=>k c v (fun z=>?_) q) (fun _ q=>q) fun _ _ q=>q
  have hf:=I.free;rw [<- z] at hf;rcases hc with y | y
  ·rw [y,e] at hf; cases hf
  ·rw [y] at hf; cases hf
end
abbrev Cx.wO (X:Cx) (E':aA->aM->Prop) (pG:List (aB × Obj)):Cx:={ X with xe:=E',pn:=pG }
abbrev Cx.hand (X:Cx) (e:aB):Cx:={ X with A:=X.A.mark (some (.ref e)),calm:=false,xe:=fun _ _=>False }
section
variable {X:Cx} {pins pG:List (aB × Obj)} {σ:St} {H:Hp} {s:aM} {E':aA->aM->Prop}
theorem Inv.wO (I:Inv X pins σ H s) (E':aA->aM->Prop):Inv (X.wO E' (X.pn++pins)) [] σ H s := ⟨⟨I.ok.mod,I.ok.kind,I.ok.glob,I.ok.blt,I.ok.above,I.ok.inj,I.ok.has,I.ok.cab,I.ok.hd,I.ok.frames,I.ok.stk,I.ok.exf,I.ok.bs,I.ok.N7,I.ok.JC,I.ok.QS,I.ok.rE,I.ok.YL⟩,I.os,I.bare,I.base,I.loc,I.cell,I.free,I.jf,fun p hp=>I.pin p (by simpa using hp),I.hok,I.len⟩
theorem Inv.yU {mV:List (aB × Obj)} (ok:X.Ok) (I:Inv (X.wO E' (X.pn++pins)) mV σ H s):Inv X pins σ H s := ⟨ok,I.os,I.bare,I.base,I.loc,I.cell,I.free,I.jf,fun p hp=>I.pin p (mem_append_left _ hp),I.hok,I.len⟩
theorem Inv.hand (I:Inv X pins σ H s) (e:aB):Inv (X.hand e) pins σ H s := ⟨⟨I.ok.mod,I.ok.kind,I.ok.glob,I.ok.blt,I.ok.above,I.ok.inj,I.ok.has,I.ok.cab,(fun z=>nomatch z),I.ok.frames,I.ok.stk,I.ok.exf,I.ok.bs,I.ok.N7,I.ok.JC,I.ok.QS,I.ok.rE,I.ok.YL⟩,I.os,I.bare,I.base,I.loc,I.cell,I.free,I.jf,I.pin,I.hok,I.len⟩
theorem Inv.Zh {e:aB} (ok:X.Ok) (I:Inv (X.hand e) pins σ H s):Inv X pins σ H s := ⟨ok,I.os,I.bare,I.base,I.loc,I.cell,I.free,I.jf,I.pin,I.hok,I.len⟩
end
noncomputable def Zi (N i:Nat) (hit:aA->Prop) (tb:XK->TS) (ts:TS):TS:=fun D σ H =>
 tb (fun cls dx H'=>hit cls/\∀ e,H' e=none->ts { nx:=fun _ H2=>D.nx (blank N) H2,rt:=D.rt } ((blank N).set i (some (.ref e))) (upd H' e (Rg e cls dx))) D σ H
section
variable {X:Cx} {x n:Str} {c:aA} {i:Nat} {np hpos pos:Pos} {body suite:List cV} {b₀:cV} {tb:XK->TS} {ts:TS} {L:aB} {hit:aA->Prop}
theorem Aq (hex:X.ex=[]) (F:qH X L) (hN:X.N.Nodup) (hi:X.N[i]?=some n) (hln:X.env.scope.names.lookup n=some .local) (hg:Gl X x) (hm:X.mg x=some c) (aiw:∀ cls,hit cls->exmOne X.K cls c=some true) (hb:∀ (E':aA->aM->Prop) (pG:List (aB × Obj)) (Eb:XK),rN (X.wO E' pG) Eb->z9 (X.wO E' pG) body (tb Eb)) (hs:∀ e,z9 (X.hand e) (b₀::suite) ts) (hdb:autoParam ((x == ("__debug__":Str))=false) zau1) : PS X (.Try body [.ExceptHandler (some (.Name x np)) (some n) (b₀::suite) hpos] [] [] pos) (Zi X.N.length i hit tb ts):=by
 intro pins s σ H D I h;have hcls:(X.env.scope.kind == .class || (X.env.scope.kind == .module && X.env.locals != X.env.globals))=false:=by rw [I.ok.kind]; rfl
 refine wpAny_Try_except ?_
 let Eb:XK:=fun cls dx H'=>hit cls/\∀ e,H' e=none->ts { nx:=fun _ H2=>D.nx (blank X.N.length) H2,rt:=D.rt } ((blank X.N.length).set i (some (.ref e))) (upd H' e (Rg e cls dx))
 let E':aA->aM->Prop:=fun ev s₁=>wpAny (model X.prog X.w) X.A (noteFrame ev X.env) (fun _ s₂=>wpAny (model X.prog X.w) X.A (setFlight ev none) (fun _ s₃ =>
   wpAny (model X.prog X.w) X.A (handleBy ev X.env [.ExceptHandler (some (.Name x np)) (some n) (b₀::suite) hpos]) (SP X pins D) X.xe s₃) X.xe s₂) X.xe s₁
 suffices acc:rN (X.wO E' (X.pn++pins)) Eb by
  refine cM (hb E' (X.pn++pins) Eb acc [] s σ H D (I.wO E') h) (fun f s1 h1=>?_) fun ev s1 h1=>h1
  have un:∀ {σ':St} {H':Hp},Inv (X.wO E' (X.pn++pins)) [] σ' H' s1->Inv X pins σ' H' s1:=fun J=>J.yU I.ok
  cases f with
  | next=>obtain ⟨σ',H',J,q⟩:=h1; exact wpAny_execs_nil ⟨σ',H',un J,q⟩
  | brk=>obtain ⟨σ',H',J,q⟩:=h1; exact ⟨σ',H',un J,q⟩
  | cont=>obtain ⟨σ',H',J,q⟩:=h1; exact ⟨σ',H',un J,q⟩
  | ret u=>obtain ⟨v,σ',H',J,r,q⟩:=h1; exact ⟨v,σ',H',un J,r,q⟩
 ·intro mV σ' H' s' e cls dx I' fl q;obtain ⟨hh,q⟩:=q;refine Ds (X:=X.wO E' (X.pn++pins)) I' I'.ok.frames F fl fun s1 I1 f1=>?_
  refine qI I1 f1 fun s2 I2 f2=>?_
  obtain ⟨t2,x2,le2,lt2⟩:=f2;have J2:Inv X pins σ' H' s2:=I2.yU I.ok;have J2h:=J2.hand e;refine wpAny_handleBy_cons (codeAny_handlers_test ?_) (by intro z; cases z);refine j5 (X:=X.hand e) J2h hg hm ?_ hdb;obtain ⟨oe,vs,he,hc,hd,hv,_⟩:=id x2;have ty:Looks (model X.prog X.w) s2.heap (typeOf (.ref e)) cls:=hc ▸ (Looks.ld he).andThen .now;refine (PySem.W.exm_one J2.nj ty (aiw cls hh)).here ?_;refine codeAny_handlers_suite_as (qI I2 ⟨t2,x2,le2,lt2⟩ fun s3 I3 f3=>?_);obtain ⟨t3,x3,Zj,lt3⟩:=f3;obtain ⟨oe3,Rh,he3,hc3,hd3,T5,_⟩:=id x3;have J3:Inv X pins σ' H' s3:=I3.yU I.ok;have lX:Loose X pins H' e:=⟨Zj.1,Zj.2.1,Zj.2.2.1,Zj.2.2.2.1,Zj.2.2.2.2.1,fun p hp=>Zj.2.2.2.2.2 p (mem_append_left _ hp)⟩;have J4:Inv X pins σ' (upd H' e (Rg e cls dx)) s3:=J3.adopt lX (by rw [hex]; exact fun z=>nomatch z) (by
   refine ⟨⟨oe3,Rh,he3,hc3,hd3,T5⟩,⟨oe3,he3⟩,fun h1 h2 p k=>?_⟩;obtain ⟨o,v,a,b⟩:=p;exact ⟨o,v,k o a,b⟩)
  have J5:Inv X pins (blank X.N.length) (upd H' e (Rg e cls dx)) s3:=J4.weak (by simp [blank,J4.len]) fun i v z=>absurd z Ao
  refine uQ (X:=X.hand e) (J5.hand e) hN hi (.inl hln) (show RelV (.ref e) (.ref e) from rfl) (fun s4 I4=>?_) (.inr hln);refine cM (hs e pins s4 _ _ _ I4 (q e Zj.1)) (fun f s5 h5=>?_) fun _ _ z=>z.elim
  have gone:∀ {σ5:St} {H5:Hp} (Q:aM->Prop),Inv (X.hand e) pins σ5 H5 s5->(∀ s6,Inv X pins (blank X.N.length) H5 s6->Q s6) ->
    wpAny (model X.prog X.w) X.A (do bindName X.env n .none; unbindBehindTheSuite X.env n hpos) (fun _ s6=>Q s6) X.xe s5:=fun {σ5 H5} Q I5 k=>by
   obtain ⟨m,hn,_⟩:=I5.loc;exact wpAny_nameGoes hln hn hcls fun h' m' hn' sb=>k _ (Inv.Ke (I5.Zh I.ok) hn' sb)
  cases f with
  | next =>
   obtain ⟨σ5,H5,I5,q5⟩:=h5;exact gone (fun s6=>SP X pins D .next s6) I5 fun s6 I6=>⟨_,H5,I6,q5⟩
  | ret u =>
   obtain ⟨v,σ5,H5,I5,r5,q5⟩:=h5;exact gone (fun s6=>SP X pins D (.ret u) s6) I5 fun s6 I6=>⟨v,_,H5,I6,r5,q5⟩
  | brk=>obtain ⟨_,_,_,z⟩:=h5; exact z.elim
  | cont=>obtain ⟨_,_,_,z⟩:=h5; exact z.elim
end
def j7 (cap:List (Option Nat)) (σ:St):St:=cap.map fun o=>o.bind fun j=>(σ[j]?).join
noncomputable abbrev gG (X:Cx) (scope:Scope) (cl:List (Str × aB)) (N':List Str) (s₀:aM) (H₀:Hp) (fp:List aB) (pG:List (aB × Obj)) (E':aA->aM->Prop):Cx := { X with N:=N',s₀:=s₀,H₀:=H₀,env:=compEnvC scope cl s₀.heap.objs.size X.env,outer:=X.stack,ex:=fp,fn:=fun _=>false,pn:=pG,xe:=E' }
structure fG (X:Cx) (scope:Scope) (cl:List (Str × aB)) (N':List Str) (cap:List (Option Nat)):Prop where
 kind:scope.kind=.function
 Dt:∀ y ∈ scope.names,y.2≠.cell
 names:∀ y ∈ scope.names,y.2=.local->scope.names.lookup y.1=some .local
 clos:closureFor scope X.env=pure cl
 sub:∀ n c,cl.lookup n=some c->X.env.cells.lookup n=some c
 has:∀ n,((relabel scope X.env).names.lookup n=some .cell\/(relabel scope X.env).names.lookup n=some .free)->∃ c,cl.lookup n=some c
 len:cap.length=N'.length
 aix:∀ (i j:Nat) (x:Str),cap[i]?=some (some j)->N'[i]?=some x->X.N[j]?=some x/\X.env.scope.names.lookup x=some .cell/\(relabel scope X.env).names.lookup x=some .cell
theorem fG.plain {X:Cx} {scope:Scope} {N':List Str} (kind:scope.kind=.function) (names:∀ y ∈ scope.names,y.2=.local\/y.2=.globalImplicit) (look:∀ y ∈ scope.names,y.2=.local->scope.names.lookup y.1=some .local) : fG X scope [] N' (List.replicate N'.length none):=by
 have nf:∀ y ∈ scope.names,y.2≠.free:=fun y hy z=>by rcases names y hy with q | q <;> rw [q] at z <;> cases z
 have same:(relabel scope X.env).names=scope.names:=by
  unfold relabel;refine map_eq_self fun y hy=>?_
  obtain ⟨n,k⟩:=y;have:(k == NameKind.free)=false:=by simpa using nf _ hy
  simp [this]
 refine ⟨kind,fun y hy z=>?_,look,closureFor_none nf,fun n c h=>?_,fun n h=>?_,by simp,fun i j x h=>?_⟩
 ·rcases names y hy with q | q <;> rw [q] at z <;> cases z
 ·simp at h
 ·rw [same] at h;rcases h with h | h
  ·have:=names _ (PySem.mem_of_lookup h);simp at this
  ·have:=names _ (PySem.mem_of_lookup h);simp at this
 ·rw [List.getElem?_replicate] at h
  split at h <;> simp at h
section
variable {X:Cx} {pins pG:List (aB × Obj)} {σ:St} {H:Hp} {s:aM} {scope:Scope} {cl:List (Str × aB)} {N':List Str} {cap:List (Option Nat)} {fp:List aB} {E':aA->aM->Prop}
theorem Ri (I:Inv X pins σ H s) (O:fG X scope cl N' cap) (hf:∀ b ∈ fp,pC X pins H b) (hlt:∀ b ∈ fp,b < s.heap.objs.size):(gG X scope cl N' s H fp pG E').Ok:=by
 refine ⟨I.ok.mod,O.kind,I.ok.glob,I.ok.blt,aJ _,fun x y c h1 h2=>I.ok.inj x y c (O.sub _ _ h1) (O.sub _ _ h2),fun x hx=>O.has x hx,(fun x c h=>nomatch h),I.ok.hd,I.ok.frames,.inl rfl,fun b hb=>⟨Nat.ne_of_lt (hlt b hb),fun x c e=>(hf b hb).2.2.2.2.1 x c (O.sub _ _ e)⟩,I.bs,bw I.ok.N7 I.sz,fun b o e hb=>?_,fun b hb z=>?_,I.stack,I.yI⟩
 ·rcases (hf b hb).2.2.2.1 with z | z
  ·exact I.ok.JC b o e z
  ·exact absurd (aZ (Heap.lt_size e) (bw I.ok.N7 z)) (cX _)
 ·exact (aQ.mp (I.rG b z)).elim (fun y=>(hf b hb).2.1 y) fun y=>(hf b hb).2.2.1 y
theorem Kf {h':Heap} {t':Nat} {m':Str->Option aA} (I:Inv X pins σ H s) (O:fG X scope cl N' cap) (hf:∀ b ∈ fp,pC X pins H b) (hlt:∀ b ∈ fp,b < s.heap.objs.size) (hn:h'.Ns s.heap.objs.size m') (hk:∀ b o,s.heap.get? b=some o->h'.get? b=some o) : Inv (gG X scope cl N' s H fp (X.pn++pins) E') [] (j7 cap σ) H { s with heap:=h',toks:=t' }:=by
 refine ⟨Ri I O hf hlt,rfl,I.bare,Un.kept hk,⟨m',hn,fun i x v e1 e2 e3=>?_⟩,fun x c e=>?_,I.hok.fresh (aJ _),fun x c e=>I.jf x c (O.sub _ _ e),fun p hp=>?_,I.hok.kept hk,?_⟩
 ·unfold j7 at e2;rw [aU] at e2;cases q:cap[i]? with
  | none=>rw [q] at e2; cases e2
  | some o =>
   rw [q] at e2;cases o with
   | none=>cases e2
   | some j =>
    have e2':(σ[j]?).join=some v:=by simpa using e2
    have e4:σ[j]?=some (some v):=by
     cases z:σ[j]? with
     | none=>rw [z] at e2'; cases e2'
     | some y=>rw [z] at e2'; simp at e2'; rw [e2']
    obtain ⟨h1,h2,h3⟩:=O.aix i j x q e1;obtain ⟨m,_,hl⟩:=I.loc;obtain ⟨u,ru,l⟩:=hl j x v h1 e4 (.inr (.inl h2));rcases l with ⟨l,_⟩ | ⟨_,c,l,z⟩
    ·have l':X.env.scope.names.lookup x=some .local:=l;rw [h2] at l'; cases l'
    ·obtain ⟨c',hc'⟩:=O.has x (.inl h3);have:=O.sub _ _ hc';rw [l] at this; cases this;exact ⟨u,ru,.inr ⟨.inl h3,c,hc',z.keeps hk⟩⟩
 ·obtain ⟨v,z⟩:=I.cell x c (O.sub _ _ e);exact ⟨v,z.keeps hk⟩
 ·obtain ⟨e,n,ne,nf,d⟩:=I.pin p (by simpa using hp);refine ⟨hk _ _ e,n,Nat.ne_of_lt (Heap.lt_size e),fun z=>?_,d⟩;exact (aQ.mp (I.rG _ z)).elim ne nf
 ·simp [j7,O.len]
theorem comp_back {mV:List (aB × Obj)} {σ':St} {H':Hp} {s':aM} (I:Inv X pins σ H s) (hf:∀ b ∈ fp,pC X pins H b) (J:Inv (gG X scope cl N' s H fp pG E') mV σ' H' s'):Inv X pins σ H' s' := I.call' (ch:=fp) J.os J.base J.hok J.bare fun b hb=>⟨(hf b hb).2.2.2.1,(hf b hb).2.1,(hf b hb).2.2.2.2.1,(hf b hb).2.2.2.2.2⟩
end
abbrev Ar (ifs:List Expr) (env:Env):Sem Bool := forIn ifs true fun c r=>if r=true then do let ok <- isTrue c env (eval c env); pure (ForInStep.yield ok) else pure (ForInStep.yield r)
section
variable {prog:cg} {w:World} {A:cW} {s:aM} {R:Result->aM->Prop} {elt target iter:Expr} {ifs:List Expr} {scope:Scope} {pos:Pos} {it acc:aA} {env:Env}
abbrev p8 (prog:cg) (w:World) (A:cW) (env:Env) (R:Result->aM->Prop):aA->aM->Prop:=notedBy (model prog w) A env fun x s'=>R (.error x) s'
noncomputable abbrev turnOf (prog:cg) (w:World) (A:cW) (env:Env) (R:Result->aM->Prop) (target elt:Expr) (ifs:List Expr) (it acc:aA) (J:Nat->aM->Prop) (n:Nat):Option aA->aM->Prop
 | none,s₁=>R (.ok .next) s₁
 | some v,s₁=>wpAny (model prog w) A (letOwnedTupleGo target it v) (fun _ a=>wpAny (model prog w) A (assign target env v) (fun _ b=>wpAny (model prog w) A (Ar ifs env) (fun ok c =>
  if ok=true then wpAny (model prog w) A (eval elt env) (fun y d=>wpAny (model prog w) A (call (.builtin "list.append") [acc,y]) (fun _ z=>∃ m,m < n/\J m z) (p8 prog w A env R) d) (p8 prog w A env R) c
  else ∃ m,m < n/\J m c) (p8 prog w A env R) b) (p8 prog w A env R) a) (p8 prog w A env R) s₁
theorem yV (J:Nat->aM->Prop) (go:∀ n s,J n s->wpAny (model prog w) A (pyNext it) (turnOf prog w A env R target elt ifs it acc J n) (p8 prog w A env R) s) (n:Nat) (h:J n s) : codeAny (model prog w) A (.compLoop (.ListComp elt [⟨target,iter,ifs,0⟩] scope pos) 0 it acc env) R s := codeAny_loop rfl J (fun m a ha=>wpAny_noted (by
 rw [compTurn_list];refine aj (wpAny_standAt (aj (eX (go m a ha) fun r b hb=>?_)))
 match r,hb with
 | none,hb=>exact ak hb
 | some v,hb =>
  refine aj (eX hb fun _ c hc=>aj (eX hc fun _ d hd=>aj (eX hd fun ok f hf=>?_)))
  match ok,hf with
  | false,hf=>exact ak ⟨rfl,hf⟩
  | true,hf=>exact aj (aj (eX hf fun y g hg=>aj (eX hg fun _ z hz=>ak (ak ⟨rfl,hz⟩)))))) n h
end
noncomputable def PTs (X:Cx) (ifs:List Expr) (t:TT):Prop := ∀ (pins:List (aB × Obj)) (s:aM) (σ:St) (H:Hp) (Q:Bool->Hp->Prop),Inv X pins σ H s->t σ H Q -> wpAny (model X.prog X.w) X.A (Ar ifs X.env) (TP X pins σ Q) X.xe s
def Ig:TT:=fun _ H Q=>Q true H
theorem fL {X:Cx}:PTs X [] Ig:=fun _ _ _ H _ I h=>wpAny_tests_nil ⟨H,I,h⟩
theorem uz {X:Cx} {c:Expr} {t:TT} (h:PT X c t):PTs X [c] t:=fun pins s σ H Q I hw=>wpAny_tests_one (h pins s σ H Q I hw)
def lu (σ0 σ2:St):Prop:=∀ (j:Nat) v,σ0[j]?=some (some v)->σ2[j]?=some (some v)
theorem Av {n j:Nat} {σ:St} {v:V}:¬ (j7 (List.replicate n none) σ)[j]?=some (some v):=by
 unfold j7;rw [aU,List.getElem?_replicate]
 split <;> intro h <;> simp at h
theorem fX {n:Nat} {σ σ2:St}:lu (j7 (List.replicate n none) σ) σ2:=fun _ _ h=>absurd h Av
noncomputable def pL (D:aB) (J:It) (σ0:St) (g:TG) (tc:TT) (te:TE) (Qe:Hp->Prop) (W:Nat->Nat->List V->Hp->Prop):Prop := ∀ i m acc H',W i m acc H'->H' D=some (.lst acc)/\((J.stop i H'/\Qe H')\/(J.go i H'/\acc.length < sizeLine /\ ∀ x CQ,J.Ju i H' x CQ->g x σ0 CQ fun σ2 H2=>lu σ0 σ2/\tc σ2 H2 fun b H3=>if b=true then te σ2 H3 fun y H4=>H4 D=some (.lst acc)/\∃ m',m' < m/\W (i + 1) m' (acc++[y]) (upd H4 D (.lst (acc++[y])))
 else ∃ m',m' < m/\W (i + 1) m' acc H3))
noncomputable def T6 (cap:List (Option Nat)) (wi:TI) (g:TG) (tc:TT) (te:TE):TE:=fun σ H Q=>wi σ H fun J H1=>∀ D,H1 D=none -> ∃ W:Nat->Nat->List V->Hp->Prop,(∃ m,W 0 m [] (upd H1 D (.lst [])))/\pL D J (j7 cap σ) g tc te (Q (.ref D)) W
section
variable {X:Cx} {scope:Scope} {cl:List (Str × aB)} {N':List Str} {cap:List (Option Nat)} {target iter elt:Expr} {ifs:List Expr} {pos:Pos} {wi:TI} {g:TG} {tc:TT} {te:TE} {E:XK} {L:aB}
theorem vf {pins:List (aB × Obj)} {σ:St} {H2:Hp} {s2:aM} {it:aB} {fp:List aB} {tn:Nat->Heap->Prop} {J:It} {Qe:aB->Hp->Prop} {E₀:aA->aM->Prop} {RR:aA->aB->Result->aM->Prop} (acc:rN X E) (hc:X.calm=true) (F:qH X L) (O:fG X scope cl N' cap) (hg:∀ s₀ H₀ fp pG E',PG (gG X scope cl N' s₀ H₀ fp pG E') target g) (ht:∀ s₀ H₀ fp pG E',PTs (gG X scope cl N' s₀ H₀ fp pG E') ifs tc) (he:∀ s₀ H₀ fp pG E',rN (gG X scope cl N' s₀ H₀ fp pG E') E->PE (gG X scope cl N' s₀ H₀ fp pG E') elt te) (I2:Inv X pins σ H2 s2) (T:Turn X.prog X.w X.K target J fp it tn) (st2:tn 0 s2.heap) (f2:∀ b ∈ fp,pC X pins H2 b) (hq:∀ D,H2 D=none->∃ W:Nat->Nat->List V->Hp->Prop,(∃ m,W 0 m [] (upd H2 D (.lst [])))/\pL D J (j7 cap σ) g tc te (Qe D) W) (hok:∀ D C s',(∃ m,s'.heap.Ns C m)->Loose X pins (fun _=>none) C->(∃ H',Inv X pins σ H' s'/\H' C=none/\Qe D H')->RR (.ref D) C (.ok .next) s') (aiy:∀ D C x s',(∃ m,s'.heap.Ns C m)->(∀ h',Heap.SameBut C s'.heap h'->∀ cenv:Env,cenv.locals=C->wpAny (model X.prog X.w) X.A (passOn "comprehension.variables-let-go" x cenv:Sem aA) (fun _ _=>False) X.xe { s' with heap:=h' })->RR (.ref D) C (.error x) s') :
  wpAny (model X.prog X.w) X.A (newList []) (fun Ih s₃=>wpAny (model X.prog X.w) X.A (newFunctionEnv scope X.env.globals cl [] X.env.qual none .none (some X.env)) (fun cenv s₄ =>
   codeAny (model X.prog X.w) X.A (.compStart (.ListComp elt [⟨target,iter,ifs,0⟩] scope pos) 0 (.ref it) Ih { cenv with scope:=relabel scope X.env }) (RR Ih cenv.locals) s₄) E₀ s₃) E₀ s2:=by
 refine wpAny_newObj_type ?_;obtain ⟨W,⟨m0,w0⟩,turn⟩:=hq s2.heap.objs.size (I2.hok.fresh (aJ _));have I3:Inv X pins σ (upd H2 s2.heap.objs.size (.lst [])) { s2 with heap:=s2.heap.push { cls:=.type "list",dict:=none,data:=.seq ([]:List aA).toArray } } :=
  I2.laid (t':=s2.toks) (fun b u e=>au _ e) (aJ _) ⟨dR _,[],_,.nil,aC _ rfl⟩
 have hfD:∀ b ∈ fp,b≠s2.heap.objs.size:=fun b hb z=>by
  obtain ⟨o,e,_⟩:=T.obj 0 _ st2 b hb;exact absurd (Heap.lt_size e) (by rw [z]; exact cX _)
 generalize hs3:({ s2 with heap:=s2.heap.push { cls:=.type "list",dict:=none,data:=.seq ([]:List aA).toArray } }:aM)=s3 at I3 ⊢;have k23:∀ b o,s2.heap.get? b=some o->s3.heap.get? b=some o:=fun b o e=>by rw [<- hs3]; exact au _ e
 have f3:∀ b ∈ fp,pC X pins (upd H2 s2.heap.objs.size (.lst [])) b:=fun b hb=>⟨by rw [bA (hfD b hb)]; exact (f2 b hb).1,(f2 b hb).2⟩
 have hlt:∀ b ∈ fp,b < s3.heap.objs.size:=fun b hb=>by
  obtain ⟨o,e,_⟩:=T.obj 0 _ st2 b hb;exact Heap.lt_size (k23 b o e)
 have st3:tn 0 s3.heap:=T.keep 0 _ _ st2 fun b _ o e=>k23 b o e
 refine wpAny_newFunctionEnv O.Dt (fun x hx=>nomatch hx) (fun h' hns hsb=>?_) O.kind;have k34:∀ b o,s3.heap.get? b=some o->h'.get? b=some o:=fun b o e=>(hsb.2 b (Nat.ne_of_lt (Heap.lt_size e))).trans (au _ e)
 have lC:Loose X pins (upd H2 s2.heap.objs.size (.lst [])) s3.heap.objs.size:=I3.jH (Heap.get?_none_of_le (aJ _));have lC0:Loose X pins (fun _=>none) s3.heap.objs.size:=⟨rfl,lC.2⟩
 let NE:aA->aM->Prop:=p8 X.prog X.w X.A (compEnvC scope cl s3.heap.objs.size X.env) (RR (.ref s2.heap.objs.size) s3.heap.objs.size)
 let Y0:Cx:=gG X scope cl N' s3 (upd H2 s2.heap.objs.size (.lst [])) fp (X.pn++pins) NE
 have I4:∀ t',Inv Y0 [] (j7 cap σ) (upd H2 s2.heap.objs.size (.lst [])) { s3 with heap:=h',toks:=t' }:=fun t'=>Kf I3 O f3 hlt hns k34
 have loop:∀ s4:aM,Inv Y0 [] (j7 cap σ) (upd H2 s2.heap.objs.size (.lst [])) s4->tn 0 s4.heap ->
   codeAny (model X.prog X.w) X.A (.compLoop (.ListComp elt [⟨target,iter,ifs,0⟩] scope pos) 0 (.ref it) (.ref s2.heap.objs.size) (compEnvC scope cl s3.heap.objs.size X.env)) (RR (.ref s2.heap.objs.size) s3.heap.objs.size) s4:=by
  intro s4 I4 st4;have stat:∀ {H':Hp},(∀ b ∈ fp,H' b=none)->∀ b ∈ fp,pC Y0 [] H' b:=fun {H'} hn b hb =>
   ⟨hn b hb,Nat.ne_of_lt (hlt b hb),fun z=>(aQ.mp (I3.rG b z)).elim (fun y=>(f3 b hb).2.1 y) fun y=>(f3 b hb).2.2.1 y,.inl hb,fun x c e=>(f3 b hb).2.2.2.2.1 x c (O.sub _ _ e),fun p hp=>(f3 b hb).2.2.2.2.2 p (by have q:p ∈ (X.pn++pins)++[]:=hp; simpa using q)⟩
  refine yV (fun n s'=>∃ i ac H',Inv Y0 [] (j7 cap σ) H' s'/\tn i s'.heap/\(∀ b ∈ fp,H' b=none)/\W i n ac H') ?_ m0 ⟨0,[],_,I4,st4,fun b hb=>(f3 b hb).1,w0⟩;rintro n s5 ⟨i,ac,H5,I5,st5,fr5,w5⟩;obtain ⟨hD5,alt⟩:=turn i n ac H5 w5;rcases alt with ⟨stop,qe⟩ | ⟨go,hsz,step⟩
  ·refine eX (T.done Y0 rfl rfl rfl hc i [] s5 _ H5 NE I5 (stat fr5) st5 stop) fun r s6 ⟨hr,I6⟩=>?_
   subst hr;obtain ⟨m,hn,_⟩:=I6.loc;exact hok _ _ s6 ⟨m,hn⟩ lC0 ⟨H5,comp_back I3 f3 I6,I6.free,qe⟩
  ·refine eX (T.item Y0 rfl rfl rfl hc i [] s5 _ H5 NE I5 (stat fr5) st5 go) fun r s6 ⟨u,hr,h6⟩=>?_
   subst hr;refine eX h6 fun _ s7 ⟨x,H7,I7,r7,y7,st7,fr7⟩=>?_
   have I7p:=I7.pinned (stat fr7) (T.obj _ _ st7);have I7t:=I7p.wO NE
   let Y1:Cx:=gG X scope cl N' s3 (upd H2 s2.heap.objs.size (.lst [])) fp ((X.pn++pins)++([]++nu fp s7.heap)) NE
   have I7y:Inv Y1 [] (j7 cap σ) H7 s7:=I7t;have ac1:rN Y1 E:=by
    intro mV σ' H' s' e cls dx I' fl q;have nfp:e ∉ fp/\∀ t,Loose Y1 mV H' t->t ∉ fp:=by
     have nn:∀ t,Loose Y1 mV H' t->t ∉ fp:=fun t l hb=>by
      obtain ⟨o,eo,_⟩:=T.obj _ _ st7 t hb;exact l.2.2.2.2.2 (t,o) (mem_append_left _ (mem_append_right _ (mem_append_right _ (lK hb eo)))) rfl
     obtain ⟨_,_,l,_⟩:=fl;exact ⟨nn e l,nn⟩
    show wpAny (model X.prog X.w) X.A (noteFrame (.ref e) _) _ _ s'
    obtain ⟨env₀,outer,es,hf₀,hf⟩:=F;refine Ds (X:=Y1) I' I'.ok.frames ⟨env₀,outer,es,hf₀,hf⟩ fl fun s8 I8 f8=>?_
    obtain ⟨t8,x8,le8,lt8⟩:=f8;obtain ⟨m,hn8,_⟩:=id I8.loc;refine aiy _ _ _ s8 ⟨m,hn8⟩ fun h' sb cenv hcl=>?_
    have J8:Inv X pins σ H' s8:=comp_back I3 f3 I8;have lX:∀ b,Loose Y1 mV H' b->Loose X pins H' b:=fun b l=>⟨l.1,(I3.jH (l.2.2.2.1 (nfp.2 b l))).2⟩
    have nC:∀ b,Loose Y1 mV H' b->b≠s3.heap.objs.size:=fun b l=>l.2.1
    have J9:Inv X pins σ H' { s8 with heap:=h' }:=J8.nM (t':=s8.toks) (ch:=[s3.heap.objs.size]) (fun b hb=>by rw [aO.mp hb]; exact ⟨I8.free,lC.2⟩)
     (fun b o _ hc' z=>(sb.2 b fun y=>hc' (by rw [y]; exact mem_cons_self)).trans z) (fun b o hc' z=>⟨o.slots,(sb.2 b fun y=>hc' (by rw [y]; exact mem_cons_self)).trans z⟩)
    have x9:Exc h' e cls dx (some t8):=x8.keeps fun b o hb z=>(sb.2 b (by
     rcases hb with y | y
     ·rw [y]; exact nC e le8
     ·cases y; exact nC _ lt8)).trans z
    unfold PySem.passOn;obtain ⟨oe,vs,he9,hc9,hd9,hv9,h19,_⟩:=id x9;refine aj (wpAny_field he9 hv9 h19 ?_);rw [if_neg (by simp)];refine aj (qI (X:=X) J9 ⟨t8,x9,lX _ le8,lX _ lt8⟩ fun wL I10 f10=>?_);exact wpAny_throw (acc pins σ H' wL e cls dx I10 f10.fly q)
   refine eX (hg s3 _ fp _ NE [] s7 _ H7 x u _ I7y r7 (step x H7 y7)) fun _ s8 ⟨σ8,H8,I8,kp8,q8⟩=>?_
   refine eX (ht s3 _ fp _ NE [] s8 σ8 H8 _ I8 q8) fun ok s9 ⟨H9,I9,q9⟩=>?_
   have again:∀ {H':Hp} {s':aM} {ac':List V},Inv Y1 [] σ8 H' s'->(∃ m',m' < n/\W (i + 1) m' ac' H') ->
     ∃ m,m < n/\∃ i ac H',Inv Y0 [] (j7 cap σ) H' s'/\tn i s'.heap/\(∀ b ∈ fp,H' b=none)/\W i m ac H':=fun {H' s' ac'} I' ⟨m',hm,w'⟩=>by
    have I0:Inv Y0 ([]++nu fp s7.heap) σ8 H' s':=Inv.yU (X:=Y0) (pins:=[]++nu fp s7.heap) I5.ok I';have adQ:∀ b ∈ fp,∀ o,s7.heap.get? b=some o->s'.heap.get? b=some o/\H' b=none:=fun b hb o e=>by
     have z:=I0.pin (b,o) (mem_append_right _ (mem_append_right _ (lK hb e)));exact ⟨z.1,z.2.1⟩
    refine ⟨m',hm,i + 1,ac',H',(Inv.qF (pins:=[]) (pl:=nu fp s7.heap) I0).weak (by rw [I0.len]; show _=N'.length; simp [j7,O.len]) kp8,T.keep _ _ _ st7 fun b hb o e=>(adQ b hb o e).1,fun b hb=>?_,w'⟩;obtain ⟨o,e,_⟩:=T.obj _ _ st7 b hb;exact (adQ b hb o e).2
   cases ok with
   | false =>
    rw [if_neg Bool.false_ne_true] at q9 ⊢;exact again I9 q9
   | true =>
    rw [if_pos rfl] at q9 ⊢;refine eX (he s3 _ fp _ NE ac1 [] s9 σ8 H9 _ I9 q9) fun yv wL ⟨y,H10,I10,r10,aiB,q10⟩=>?_
    refine eX (gQ (X:=Y1) [] wL σ8 H10 (.ref s2.heap.objs.size) [y] (.ref s2.heap.objs.size) [yv] (fun _ H'=>H'=upd H10 s2.heap.objs.size (.lst (ac++[y]))) I10 rfl (.cons r10 .nil) ⟨_,ac,y,rfl,rfl,aiB,hsz,rfl⟩) fun _ Aw ⟨_,H11,I11,_,e11⟩=>?_
    subst e11;exact again I11 q10
 have Zk:tn 0 h':=T.keep 0 _ _ st3 fun b _ o e=>k34 b o e
 exact codeAny_compStart_list (loop _ (I4 _) Zk) (T.self _ 0 _ _ _ Zk (loop _ (I4 _) Zk))
theorem gw (acc:rN X E) (hc:X.calm=true) (F:qH X L) (O:fG X scope cl N' cap) (hi:PI X target iter wi) (hg:∀ s₀ H₀ fp pG E',PG (gG X scope cl N' s₀ H₀ fp pG E') target g) (ht:∀ s₀ H₀ fp pG E',PTs (gG X scope cl N' s₀ H₀ fp pG E') ifs tc) (he:∀ s₀ H₀ fp pG E',rN (gG X scope cl N' s₀ H₀ fp pG E') E->PE (gG X scope cl N' s₀ H₀ fp pG E') elt te) (hs:autoParam (∀ x,foldedSetIterable iter X.env x=pure x) zau3):PE X (.ListComp elt [⟨target,iter,ifs,0⟩] scope pos) (T6 cap wi g tc te):=by
 intro pins s σ H Q I h;rw [eval_ListComp];refine wpAny_comprehension_free (use:=none) rfl hs O.clos O.kind O.names (eX (hi pins s σ H _ I h) fun xv s₁ h₁=>eX h₁ fun itv s₂ h₂=>?_);obtain ⟨it,fp,tn,J,H2,e,I2,T,st2,f2,q⟩:=h₂;subst e;refine vf (RR:=fun Ih C=>compPost (model X.prog X.w) X.A X.xe none (EP X pins σ Q) Ih C) (Qe:=fun D=>Q (.ref D)) acc hc F O hg ht he I2 T st2 f2 q ?_ ?_
 ·rintro D C s' ⟨m,hn⟩ lC ⟨H',I',hC,q'⟩;refine ⟨m,hn,fun h' sb=>⟨.ref D,H',I'.nM (t':=s'.toks) (ch:=[C]) (fun b hb=>by rw [aO.mp hb]; exact ⟨hC,lC.2⟩) (fun b o _ hc' z=>(sb.2 b fun y=>hc' (by rw [y]; exact mem_cons_self)).trans z) (fun b o hc' z=>⟨o.slots,(sb.2 b fun y=>hc' (by rw [y]; exact mem_cons_self)).trans z⟩),rfl,q'⟩⟩
 ·rintro D C x s' ⟨m,hn⟩ k;exact ⟨m,hn,k⟩
theorem lY {i:Nat} {y:Str} {py spos:Pos} (hN:X.N.Nodup) (hi':X.N[i]?=some y) (hx:Loc X.env.scope y) (acc:rN X E) (hc:X.calm=true) (F:qH X L) (O:fG X scope cl N' cap) (hi:PI X target iter wi) (hg:∀ s₀ H₀ fp pG E',PG (gG X scope cl N' s₀ H₀ fp pG E') target g) (ht:∀ s₀ H₀ fp pG E',PTs (gG X scope cl N' s₀ H₀ fp pG E') ifs tc) (he:∀ s₀ H₀ fp pG E',rN (gG X scope cl N' s₀ H₀ fp pG E') E->PE (gG X scope cl N' s₀ H₀ fp pG E') elt te) (hsw:autoParam (swapsWith (.ListComp elt [⟨target,iter,ifs,0⟩] scope pos) (some (.Name y py)) spos.line X.env=pure true) zau0) (hs:autoParam (∀ x,foldedSetIterable iter X.env x=pure x) zau3) (hf:autoParam (X.fn y=true\/X.env.scope.names.lookup y=some .local) zau2) : PS X (.Assign [.Name y py] (.ListComp elt [⟨target,iter,ifs,0⟩] scope pos) spos) (YT (T6 cap wi g tc te) (Gg i)):=by
 intro pins s σ H D I h;rw [exec_Assign_Name_used y py _ spos hsw];refine aj (wpAny_standAt ?_);refine aj ?_
 show wpAny _ X.A (do let _ <- comprehension (.ListComp elt [⟨target,iter,ifs,0⟩] scope pos) scope X.env _ (newList []) false (eval iter X.env) (some (assign (.Name y py) X.env))) _ _ s
 refine aj (cM (wpAny_comprehension_free (use:=some (assign (.Name y py) X.env)) (Q:=fun _ s'=>SP X pins D .next s') rfl hs O.clos O.kind O.names (eX (hi pins s σ H _ I h) fun xv s₁ h₁=>eX h₁ fun itv s₂ h₂=>?_)) (fun _ s' hq=>ak (ak hq)) fun _ _ e=>e);obtain ⟨it,fp,tn,J,H2,e,I2,T,st2,f2,q⟩:=h₂;subst e;refine vf (RR:=fun Ih C=>compPost (model X.prog X.w) X.A X.xe (some (assign (.Name y py) X.env)) (fun _ s'=>SP X pins D .next s') Ih C) (Qe:=fun Dl H1=>D.nx (σ.set i (some (.ref Dl))) H1) acc hc F O hg ht he I2 T st2 f2 q ?_ ?_
 ·rintro Dl C s' ⟨m,hn⟩ lC ⟨H',I',hC,q'⟩
  show wpAny _ X.A (assign (.Name y py) X.env (.ref Dl)) _ _ s'
  refine wpAny_assign_Name (wY I' hN hi' hx (show RelV (.ref Dl) (.ref Dl) from rfl) (fun s'' I'' hsb=>?_) hf);obtain ⟨a,sba,ha⟩:=hsb;have nCa:C≠a:=by
   rcases ha with z | z
   ·rw [z]; exact lC.2.1
   ·exact Ne.symm (lC.2.2.2.2.1 _ _ z)
  refine ⟨m,hn.sameBut sba nCa,fun h' sb=>⟨_,H',I''.nM (t':=s''.toks) (ch:=[C]) (fun b hb=>by rw [aO.mp hb]; exact ⟨hC,lC.2⟩) (fun b o _ hc' z=>(sb.2 b fun y=>hc' (by rw [y]; exact mem_cons_self)).trans z) (fun b o hc' z=>⟨o.slots,(sb.2 b fun y=>hc' (by rw [y]; exact mem_cons_self)).trans z⟩),q'⟩⟩
 ·rintro D C x s' ⟨m,hn⟩ k;exact ⟨m,hn,k⟩
end
section
variable {X:Cx} {CX:Ag} {k:Nat} {f:aB} {fd:d9} {ps:List Str} {sp:Sp} {uy:List V} {ds:List aA} {E:XK} {x:Str} {p pos:Pos} {e:Expr} {es:List Expr} {t:TA}
end
def iG:List Str->List Str
 | []=>[]
 | x::l=>x::(iG l).filter fun y=>decide (y≠x)
theorem vg {y:Str}:∀ {l:List Str},y ∈ iG l ↔ y ∈ l
 | []=>Iff.rfl
 | x::l=>by
  by_cases e:y=x
  ·simp [iG,e]
  ·simp [iG,e,vg (l:=l)]
theorem yW:∀ l:List Str,(iG l).length<=l.length
 | []=>aJ _
 | _::l=>Nat.succ_le_succ (bw (length_filter_le _ _) (yW l))
theorem xK (v:Str):∀ l:List Str,iG (l++[v])=if v ∈ l then iG l else iG l++[v]
 | []=>by simp [iG]
 | x::l=>by
  have ih:=xK v l
  by_cases e:v=x
  ·subst e
   by_cases m:v ∈ l <;> simp [iG,ih,m,cu]
  ·by_cases m:v ∈ l <;> simp [iG,ih,m,e,cu]
theorem Gr:∀ l:List Str,(iG l).length=l.length ↔ l.Nodup
 | []=>by simp [iG]
 | x::l=>by
  have le1:=length_filter_le (fun y=>decide (y≠x)) (iG l);have le2:=yW l;have ih:=Gr l;have all:((iG l).filter fun y=>decide (y≠x)).length=(iG l).length ↔ ¬ x ∈ l:=by
   rw [List.length_filter_eq_length_iff];constructor
   ·intro h m;simpa using h x (vg.mpr m)
   ·intro h y hy;simpa using fun z:y=x=>h (z ▸ vg.mp hy)
  simp only [iG,length_cons,nodup_cons];constructor
  ·intro h;exact ⟨all.mp (by omega),ih.mp (by omega)⟩
  ·rintro ⟨h1,h2⟩;have:=all.mpr h1;have:=ih.mpr h2;omega
section
variable {prog:cg} {w:World} {A:cW} {E:aA->aM->Prop} {Q:aA->aM->Prop} {s:aM}
theorem qJ {T newId initId:String} {args:List aA} (ft:TypeCalled T newId initId) (ok:checkTypeCall T ⟨args,[]⟩=pure ()) (mk:codeAny (model prog w) A.in1 (.call (.builtin newId) ⟨.type T::args,[]⟩) (wants (fun obj a=>a.TypeIs obj T/\codeAny (model prog w) A.in1 (.call (.builtin initId) ⟨obj::args,[]⟩) (wants (fun r b=>r=.none/\Q obj b) E) a) E) s):wpAny (model prog w) A (call (.type T) args) Q E s:=by
 obtain ⟨c,tl,mro⟩:=ft.mro;have made:=ft.made; have sub:=ft.sub; have n1:=ft.notType; have n2:=ft.canCreate;have look:=ft.init.lookup;refine wpAny_call (codeAny_of_tree (show wpAny _ _ (callAny (.type T) _) _ _ _ from ak ⟨Code.quiet_builtin _ (by decide +kernel),codeAny_builtin PySem.F.entry_type_call ?_⟩));have plain:=Around.under_plain (A:=A) (weight_type_call_type T args []) (units_type_call_type T args []);rw [plain]
 repeat any_goals first | assumption | wp_step
 refine cH mk fun r a ha=>?_
 match r,ha with
 | .error _,ha=>exact ha
 | .ok (.ret obj),ha =>
  obtain ⟨ty,ini⟩:=ha;have bnd:=ft.init.bind obj
  repeat any_goals first | assumption | wp_step
  refine cH ini fun r b hb=>?_
  match r,hb with
  | .error _,hb=>exact hb
  | .ok (.ret v),hb =>
   obtain ⟨rfl,q⟩:=hb
   repeat any_goals first | assumption | wp_step
theorem Rj {S:aB} {done:List Str} {x:Str} {t:Tok} {Qu:Bool->aM->Prop} (small:(iG done).length + 1 < scanBound) (at_:s.heap.SetOf (strKind prog w) S (fun k=>decide (k ∈ done)) (iG done).length) (k:∀ h' tk b,Heap.SameBut S s.heap h'->h'.SetOf (strKind prog w) S (fun k=>decide (k ∈ done++[x])) (iG (done++[x])).length->Qu b { s with heap:=h',toks:=tk }):wpAny (model prog w) A (setAdd S (.str x t)) Qu E s:=by
 have is:(strKind prog w).is x (.str x t)=true:=by show Value.isStrOf x (.str x t)=true; simp [Value.isStrOf]
 unfold setAdd;refine wpAny_holding (aj ((strKind prog w).pyHash (k:=x) is (wpAny_setAddHashed_of (knd:=strKind prog w) (s:={ s with toks:=s.toks + 1 }) is rfl at_ small fun h' sb set=>k h' _ _ sb ?_)));refine SetOf_congr set (fun y=>?_) ?_
 ·simp [bQ,Bool.decide_or]
 ·rw [xK]
  by_cases m:x ∈ done <;> simp [m]
theorem Ax {S I l:aB} {its:List aA} {ls:List Str} (calm:A.handled=none) (SI:S≠I) (Sl:S≠l) (lI:l≠I) (txt:Paired (fun x v=>∃ t,v=Value.str x t) ls its) (small:ls.length + 1 < scanBound) {R:Result->aM->Prop} : ∀ (todo done:List Str) (s:aM),ls=done++todo->s.heap.IsListIter I l done.length->s.heap.IsList l its.toArray->s.heap.SetOf (strKind prog w) S (fun k=>decide (k ∈ done)) (iG done).length -> (∀ h' tk,(∀ b o,b≠S->b≠I->s.heap.get? b=some o->h'.get? b=some o)->h'.SetOf (strKind prog w) S (fun k=>decide (k ∈ ls)) (iG ls).length->R (.ok (.ret .none)) { s with heap:=h',toks:=tk }) -> codeAny (model prog w) A (.builtin "set.update.loop" ⟨[.ref S,.ref I],[]⟩) R s
 | [],done,s,e,it,li,at_,k=>by
  have e':ls=done:=by simpa using e
  have len:=txt.length;refine codeAny_builtin PyProof.Rows.F.entry_set_update_loop ?_;rw [Around.under_plainId PyProof.Rows.F.plain_set_update_loop _];refine aj (m:=pyNext (.ref I)) (wpAny_pyNext_list_end (by simpa using calm) it li (by rw [<- e']; simp [len]) fun h' ext=>?_);obtain ⟨o,es,ep,t,ho,more⟩:=at_;subst e';exact ak (k h' s.toks (fun b o _ nI q=>ext b o nI q) ⟨o,es,ep,t,ext S o SI ho,more⟩)
 | x::todo,done,s,e,it,li,at_,k=>by
  have aiC:done.length < ls.length:=by rw [e,aR,length_cons]; omega
  have item:∃ t,its[done.length]?=some (Value.str x t):=by
   have at1:ls[done.length]?=some x:=by rw [e]; simp
   clear e it li at_ k aiC small
   induction txt generalizing done with
   | nil=>simp at at1
   | @cons a b l₁ l₂ r rr ih =>
    cases done with
    | nil=>simp at at1; subst at1; obtain ⟨t,q⟩:=r; exact ⟨t,by simp [q]⟩
    | cons y ys=>exact ih ys (by simpa using at1)
  obtain ⟨t,item⟩:=item;have room:(iG done).length + 1 < scanBound:=by have:=yW done; omega
  refine codeAny_builtin PyProof.Rows.F.entry_set_update_loop ?_;rw [Around.under_plainId PyProof.Rows.F.plain_set_update_loop _];refine aj (m:=pyNext (.ref I)) (wpAny_pyNext_list_item it li (x:=Value.str x t) (by simpa using item) fun h' it' sb=>?_);obtain ⟨o,es,ep,tb,ho,more⟩:=at_;refine aj (wpAny_holding (Rj (s:={ s with heap:=h' }) room ⟨o,es,ep,tb,(sb.2 S SI).trans ho,more⟩ fun g tk b sg set=>?_));refine ak ⟨plainId_quiet PyProof.Rows.F.plain_set_update_loop _,Ax calm SI Sl lI txt small todo (done++[x]) _ (by simp [e]) ?_ ?_ set fun g' tk' keep fin=>?_⟩
  ·rw [aR];exact it'.at fun o q=>(sg.2 I (Ne.symm SI)).trans q
  ·exact (li.at fun o q=>(sb.2 l lI).trans q).at fun o q=>(sg.2 l (Ne.symm Sl)).trans q
  ·exact k g' tk' (fun b o nS nI q=>keep b o nS nI ((sg.2 b nS).trans ((sb.2 b nI).trans q))) fin
theorem wQ {l:aB} {its:List aA} {ls:List Str} (calm:A.handled=none) (li:s.heap.IsList l its.toArray) (txt:Paired (fun x v=>∃ t,v=Value.str x t) ls its) (small:ls.length + 1 < scanBound) (k:∀ h' tk,h'.SetOf (strKind prog w) s.heap.objs.size (fun y=>decide (y ∈ ls)) (iG ls).length->(∀ b o,s.heap.get? b=some o->h'.get? b=some o)->Q (.ref s.heap.objs.size) { s with heap:=h',toks:=tk }) : wpAny (model prog w) A (call (Value.type "set") [Value.ref l]) Q E s:=by
 refine qJ PySem.F.called_set (PySem.F.typeCall_set_1 _) (code_set_new_1 (.ref l) fun led=>?_)
 let o₀:Obj:={ cls:=.type "set",dict:=none,data:=.set #[] 0 (.fresh 0 0 led) }
 have there:(s.heap.push o₀).get? s.heap.objs.size=some o₀:=aC s.heap rfl;have ty:Shared.TypeIs { s with heap:=s.heap.push o₀ } (.ref s.heap.objs.size) "set":=⟨o₀,there,rfl⟩;refine ⟨ty,codeAny_call_builtin PySem.F.called_set.init.plain PySem.F.entry_set_init (check_set_init_1 ty ?_)⟩;have lt:l < s.heap.objs.size:=by obtain ⟨o,q,_⟩:=li; exact Heap.lt_size q
 have Zm:(s.heap.push o₀).IsList l its.toArray:=li.push o₀;obtain ⟨⟨c,d,dt,sl⟩,get,rfl,n,rfl⟩:=id Zm;have Zn:=PySem.F.sub_list_set; have Ii:=PySem.F.sub_list_frozenset;have notDict:(Value.type "list" == Value.type "dict")=false:=by decide
 unfold Builtin.«set.__init__»;unfold noKeywords;unfold Builtin.Frozenset.updateFrom;generalize vh:pyIter=PI
 wp_walk
 subst vh;refine wpAny_pyIter_list Zm (aj (wpAny_runValue ?_))
 let it₀:Obj:={ cls:=.type "list_iterator",data:=.fields #[.ref l,.int 0 0] }
 have vm:(s.heap.push o₀).objs.size=s.heap.objs.size + 1:=Heap.size_push _ _;refine Ax (its:=its) (ls:=ls) (by simpa using calm) (by rw [vm]; exact Nat.ne_of_lt (Nat.lt_succ_self _)) (Nat.ne_of_gt lt) (by rw [vm]; exact Nat.ne_of_lt (Nat.lt_succ_of_lt lt)) txt small ls [] _ rfl ⟨it₀,aC _ rfl,rfl,rfl⟩ (Zm.push it₀) ?_ fun h' tk keep fin=>?_
 ·exact SetOf_congr ((setObjOf_fresh (knd:=strKind prog w) led).setOf (au it₀ there) (by unfold scanBound; omega)) (fun y=>by simp) (by simp [iG])
 ·refine ak (show wpAny _ _ (ret Value.none) _ _ _ from ak ⟨rfl,k h' tk fin fun b o q=>?_⟩);have below:=Heap.lt_size q;exact keep b o (Nat.ne_of_lt below) (by rw [vm]; exact Nat.ne_of_lt (Nat.lt_succ_of_lt below)) (au it₀ (au o₀ q))
end
def vo (P:cg) (w:World) (a:aB) (n:Nat):HO:=.ext fun h=>∃ S,h.SetOf (strKind P w) a S n
theorem Ay:∀ {ls:List Str} {us:List aA},Vals (ls.map V.str) us->Paired (fun x v=>∃ t,v=Value.str x t) ls us
 | [],_,r=>by cases r; exact .nil
 | x::ls,_,r=>by cases r with | cons r rr=>exact .cons r (Ay rr)
section
variable {X:Cx}
theorem Ij (hc:X.calm=true):gq X (.type "set") (fun xs H Q=>∃ p ls,xs=[.ref p]/\cU X.K H p (ls.map V.str)/\ls.length + 1 < scanBound/\∀ l,H l=none->Q (.ref l) (upd H l (vo X.prog X.w l (iG ls).length))):=by
 intro pins s σ H xs us Q I r h;obtain ⟨p,ls,rfl,hq,hb,q⟩:=h;obtain ⟨u,rfl,rx⟩:=Vals.one r;cases rx;obtain ⟨its,rv,pl,hz⟩:=I.list hq;refine wQ (I.ok.hd hc) pl.isList (Ay rv) hb fun h' tk hS hk=>?_
 refine ⟨.ref s.heap.objs.size,_,I.laid (a:=s.heap.objs.size) (o:=vo X.prog X.w s.heap.objs.size (iG ls).length) hk (aJ _) ?_,rfl,q _ (I.hok.fresh (aJ _))⟩;obtain ⟨o,es,ep,t,ho,rest⟩:=id hS;refine ⟨⟨_,hS⟩,⟨o,ho⟩,fun h1 h2 p k=>?_⟩;obtain ⟨S,o,es,ep,t,ho,rest⟩:=p;exact ⟨S,o,es,ep,t,k o ho,rest⟩
theorem Ik:gq X (.builtin "len") (fun xs H Q=>∃ p n,xs=[.ref p]/\H p=some (vo X.prog X.w p n)/\Q (.int n) H):=by
 intro pins s σ H xs us Q I r h;obtain ⟨p,n,rfl,e,q⟩:=h;obtain ⟨u,rfl,rx⟩:=Vals.one r;cases rx;obtain ⟨⟨S,o,es,ep,t,ho,hex,hd,hel,hm,hb,hf,hn⟩,_⟩:=(show eV X.prog X.w H s.heap p (vo X.prog X.w p n) from I.hok p _ e);subst hn;refine call_len_set ho hex hd hf (by unfold scanBound at hb; omega) ⟨.int es.size,H,I.tok _,⟨_,rfl⟩,q⟩
end
def adS (fp:List aB) (P:Heap->Prop):Prop:=∀ h h',P h->(∀ b ∈ fp,∀ o,h.get? b=some o->h'.get? b=some o)->P h'
def Kg (h:Heap) (e:aB):Prop:=∃ o,h.get? e=some o/\o.cls=.type "StopIteration"
noncomputable def Draws (prog:cg) (w:World) (A:cW) (it:aB) (P:Heap->Prop) (x:aA) (P':Heap->Prop):Prop := ∀ (s:aM) (Q:aA->aM->Prop) (E:aA->aM->Prop),P s.heap->(∀ h',P' h'->Heap.SameBut it s.heap h'->Q x { s with heap:=h' })->wpAny (model prog w) A (Builtin.SmallTypes.nextOf (.ref it)) Q E s
noncomputable def adT (prog:cg) (w:World) (A:cW) (it:aB) (P:Heap->Prop):Prop := ∀ (s:aM) (Q:aA->aM->Prop) (E:aA->aM->Prop),P s.heap->(∀ h' e,Heap.ExtBut it s.heap h'->Kg h' e->E (.ref e) { s with heap:=h' })->wpAny (model prog w) A (Builtin.SmallTypes.nextOf (.ref it)) Q E s
inductive Over (h:Heap) (it l:aB) (xs:Array aA) (k:Nat):Bool->Prop
 | lst (a:h.IsListIter it l k) (b:h.IsList l xs):Over h it l xs k false
 | tup (a:h.IsTupleIter it l k) (b:h.IsTuple l xs):Over h it l xs k true
section
variable {prog:cg} {w:World} {A:cW} {it l:aB} {xs:Array aA} {k:Nat} {tu:Bool}
theorem Du:adS [it,l] (fun h=>Over h it l xs k tu):=fun h h' o keep=>by
 have k1:=keep it (by simp);have k2:=keep l (by simp);cases o with
 | lst a b=>exact .lst (a.at k1) (b.at k2)
 | tup a b =>
  obtain ⟨o1,q1,r1⟩:=a;obtain ⟨o2,q2,r2⟩:=b;exact .tup ⟨o1,k1 o1 q1,r1⟩ ⟨o2,k2 o2 q2,r2⟩
theorem Over.Kh {h:Heap} (o:Over h it l xs k tu):∃ ob,h.get? it=some ob:=by
 cases o with
 | lst a _=>obtain ⟨ob,q,_⟩:=a; exact ⟨ob,q⟩
 | tup a _=>obtain ⟨ob,q,_⟩:=a; exact ⟨ob,q⟩
theorem lA {s:aM} {Q:aA->aM->Prop} {E:aA->aM->Prop} {o:Obj} (at_:s.heap.get? it=some o) (c:o.cls=.type "tuple_iterator") (lW:o.data=.fields #[.ref l,.int k 0]) {ol:Obj} {n:Nat} (sq:s.heap.get? l=some ol) (its:ol.data=.seq xs n) : (∀ x,xs[k]?=some x->(∀ h',h'.IsTupleIter it l (k + 1)->Heap.SameBut it s.heap h'->Q x { s with heap:=h' })->wpAny (model prog w) A (Builtin.SmallTypes.nextOf (.ref it)) Q E s) /\ (xs[k]?=none->A.handled=none->(∀ h' e,Heap.ExtBut it s.heap h'->Kg h' e->E (.ref e) { s with heap:=h' })->wpAny (model prog w) A (Builtin.SmallTypes.nextOf (.ref it)) Q E s):=by
 have ty:s.TypeIs (.ref it) "tuple_iterator":=⟨o,at_,c⟩;have Az:¬ (Value.ref l == Value.none)=true:=Bool.false_ne_true;constructor
 ·intro x hx q;have T7:=Obj.data_mapFields lW fun v=>v.setIfInBounds 1 (rawInt ((k:Int) + 1))
  refine aj (wpAny_callSpecial?_slot (name:=Str.ofString "__next__") ty PySem.F.slot_tuple_iterator_next (wpAny_call_entry PySem.F.slot_tuple_iterator_next ty PySem.F.entry_tuple_iterator_next ?_ (PySem.F.args_tuple_iterator_next_1 _)));refine aj (m:=field (.ref it) 0) (wpAny_field at_ lW (x:=.ref l) rfl ?_);rw [if_neg Az];refine aj (m:=field (.ref it) 1) (wpAny_field at_ lW (x:=.int k 0) rfl (aj (m:=seqItems? (.ref l)) (wpAny_seqItems sq its ?_)));simp only [show ((k:Int)).toNat=k from cD k,hx];refine aj (wpAny_setField at_ lW (by simp) (ak ⟨x,rfl,ak (q _ ⟨_,Heap.get?_update_self _ at_ (Obj.isFreed_of_fields T7),(Obj.cls_mapFields ..).trans c,?_⟩ (Heap.SameBut.update ..))⟩));rw [T7]; simp [rawInt]
 ·intro hx calm q;refine aj (wpAny_callSpecial?_slot (name:=Str.ofString "__next__") ty PySem.F.slot_tuple_iterator_next (wpAny_call_entry PySem.F.slot_tuple_iterator_next ty PySem.F.entry_tuple_iterator_next ?_ (PySem.F.args_tuple_iterator_next_1 _)));refine aj (m:=field (.ref it) 0) (wpAny_field at_ lW (x:=.ref l) rfl ?_);rw [if_neg Az];refine aj (m:=field (.ref it) 1) (wpAny_field at_ lW (x:=.int k 0) rfl (aj (m:=seqItems? (.ref l)) (wpAny_seqItems sq its ?_)));simp only [show ((k:Int)).toNat=k from cD k,hx];refine aj (wpAny_rule (aj (wpAny_setField at_ lW (by simp) (aj (m:=newExc (.type "StopIteration") []) ?_))));simp only [newExc,newTuple];refine aj (wpAny_newObj_type (aj (m:=firstArgMember _ _) (wpAny_of_eq (a:=Value.none) (by first | rfl | (simp only [firstArgMember]; rfl)) (wpAny_newObj_type ?_ (by size_fits)))) (by size_fits));exact wpAny_raiseNew_none (show A.in1.handled=none from calm) (q _ _ (((Heap.SameBut.update ..).extBut.push _).push _) ⟨_,aC _ rfl,rfl⟩)
theorem Dv {x:aA} (ne:l≠it) (hx:xs[k]?=some x):Draws prog w A it (fun h=>Over h it l xs k tu) x (fun h=>Over h it l xs (k + 1) tu):=by
 intro s Q E o q;cases o with
 | lst a b=>exact wpAny_nextOf_list_item a b hx fun h' a' sb=>q h' (.lst a' (b.at fun _ z=>(sb.2 l ne).trans z)) sb
 | tup a b =>
  obtain ⟨ob,z,c,d⟩:=a;obtain ⟨ol,y,r,n,its⟩:=b;exact (lA z c d y its).1 x hx fun h' a' sb=>q h' (.tup a' ⟨ol,(sb.2 l ne).trans y,r,n,its⟩) sb
theorem xM (hx:xs[k]?=none) (calm:A.handled=none):adT prog w A it (fun h=>Over h it l xs k tu):=by
 intro s Q E o q;cases o with
 | lst a b=>exact wpAny_nextOf_list_end calm a b hx q
 | tup a b =>
  obtain ⟨ob,z,c,d⟩:=a;obtain ⟨ol,y,_,n,its⟩:=b;exact (lA z c d y its).2 hx calm q
end
section
variable {prog:cg} {w:World} {A:cW} {E:aA->aM->Prop} {s:aM} {z ti to a b l m:aB} {xs ys:Array aA} {i j:Nat} {u v:aA} {t1 t2:Bool}
def zip2 (m:aB):Obj:={ cls:=.type "list_iterator",data:=.fields #[.ref m,.int 0 0] }
end
section
variable {X:Cx} {pins:List (aB × Obj)} {σ:St} {H:Hp} {s:aM}
theorem Inv.drawn {h':Heap} {t':Nat} {T:aB} {o:HO} {ch:List aB} (I:Inv X pins σ H s) (hch:∀ b ∈ ch,pC X pins H b) (keep:∀ b ob,b ∉ ch->s.heap.get? b=some ob->h'.get? b=some ob) (fr:s.heap.get? T=none) (new:eV X.prog X.w (upd H T o) h' T o):Inv X pins σ (upd H T o) { s with heap:=h',toks:=t' }:=by
 have hT:H T=none:=I.hok.none_of fr;have nT:∀ b u,H b=some u->b≠T:=fun b u e z=>by rw [z,hT] at e; cases e
 have JD:∀ b u,H b=some u->b ∉ ch:=fun b u e z=>by rw [(hch b z).1] at e; cases e
 refine I.call (ch:=ch) (g':=s.gens) (d':=s.drawn) ⟨fun b ob e _ _ hx=>keep b ob hx e,fun b ob e _ _ hx=>⟨ob.slots,keep b ob hx e⟩,fun b ob e n hx=>?_,fun b ob e hx=>⟨ob,keep b ob hx e⟩,fun b xs e=>?_,fun b ob xs e=>?_,fun b ps e=>⟨#[],?_⟩⟩ (fun c u e=>?_) I.bare fun b hb=>⟨(hch b hb).2.2.2.1,(hch b hb).2.1,(hch b hb).2.2.2.2.1,(hch b hb).2.2.2.2.2⟩
 ·rw [bA (fun z=>by rw [z,fr] at e; cases e)]; exact n
 ·rw [bA (nT _ _ e)]; exact e
 ·rw [bA (nT _ _ e)]; exact e
 ·rw [bA (nT _ _ e),e]; simp
 ·by_cases z:c=T
  ·subst z; rw [aF] at e; cases e; exact new
  ·rw [bA z] at e;refine (I.hok c u e).stay (fun d v hd q=>keep d v ?_ q) (fun d q=>by rw [bA (nT _ _ q)]; exact q) fun d xs q=>by rw [bA (nT _ _ q)]; exact q
   rcases hd with y | y
   ·rw [y]; exact JD c u e
   ·exact JD d _ y
theorem Inv.turns {h':Heap} {t':Nat} {ch:List aB} (I:Inv X pins σ H s) (hch:∀ b ∈ ch,pC X pins H b) (keep:∀ b ob,b ∉ ch->s.heap.get? b=some ob->h'.get? b=some ob):Inv X pins σ H { s with heap:=h',toks:=t' }:=by
 have JD:∀ b u,H b=some u->b ∉ ch:=fun b u e z=>by rw [(hch b z).1] at e; cases e
 refine I.call (ch:=ch) (g':=s.gens) (d':=s.drawn) ⟨fun b ob e _ _ hx=>keep b ob hx e,fun b ob e _ _ hx=>⟨ob.slots,keep b ob hx e⟩,fun b ob e n hx=>n,fun b ob e hx=>⟨ob,keep b ob hx e⟩,fun b xs e=>e,fun b ob xs e=>e,fun b ps e=>⟨#[],by rw [e]; simp⟩⟩ (fun c u e=>?_) I.bare fun b hb=>⟨(hch b hb).2.2.2.1,(hch b hb).2.1,(hch b hb).2.2.2.2.1,(hch b hb).2.2.2.2.2⟩
 refine (I.hok c u e).stay (fun d v hd q=>keep d v ?_ q) (fun d q=>q) fun d xs q=>q
 rcases hd with y | y
 ·rw [y]; exact JD c u e
 ·exact JD d _ y
end
theorem Rk:2<=sizeLine:=by decide
section
variable {X:Cx}
theorem Kl {bs:List Bool} {us:List aA} (r:Vals (bs.map V.bl) us) {i:Nat} {v:aA} (h:us[i]?=some v):∃ b,bs[i]?=some b/\v=.bool b:=by
 cases q:bs[i]? with
 | none =>
  have z:=r.none_of (i:=i) (by rw [aU,q]; rfl);rw [h] at z; cases z
 | some b =>
  obtain ⟨u,hu,ru⟩:=r.get (i:=i) (x:=.bl b) (by rw [aU,q]; rfl);rw [h] at hu; cases hu;exact ⟨b,rfl,ru⟩
theorem all_range:∀ bs:List Bool,((List.range bs.length).all fun i=>(bs[i]?).getD true)=bs.all id
 | []=>rfl
 | b::bs=>by
  have ih:=all_range bs;simp only [length_cons,List.range_succ_eq_map,List.all_cons,all_map,List.getElem?_cons_zero,Option.getD_some];exact congrArg (b && ·) ih
theorem rO (hc:X.calm=true):gq X (.builtin "all") (fun xs H Q=>∃ (p:aB) (bs:List Bool),xs=[.ref p]/\cU X.K H p (bs.map V.bl)/\Q (.bl (bs.all id)) H):=by
 intro pins s σ H xs us Q I r h;obtain ⟨p,bs,rfl,sq,q⟩:=h;obtain ⟨u,rfl,rx⟩:=Vals.one r;cases rx;obtain ⟨its,rv,pl,_⟩:=I.list sq;have lt:p < s.heap.objs.size:=by obtain ⟨o,e,_⟩:=pl.isList; exact Heap.lt_size e
 have len:its.length=bs.length:=by have:=rv.length; simpa using this.symm
 refine call_all_walk (wpAny_pyIter_list pl.isList ⟨_,[s.heap.objs.size,p],[s.heap.objs.size],its.toArray.size,_,_,fun i=>(bs[i]?).getD true,rfl,Walks.list (A:=X.A.in1) (I.ok.hd hc) _ p (Nat.ne_of_lt lt) its.toArray,⟨⟨_,aC _ rfl,rfl,rfl⟩,pl.isList.push _⟩,fun i v s' Q' E' hv hq=>?_,fun h' tk keep=>?_⟩)
 ·obtain ⟨b,hb,rfl⟩:=Kl rv (i:=i) (v:=v) (by simpa using hv);have hq:Q' ((bs[i]?).getD true) s':=hq;rw [hb] at hq;exact wpAny_truthy_bool hq
 ·rw [size_toArray,len,all_range];refine ⟨.bl _,H,I.kept (h':=h') (t':=tk) fun b o e=>keep b o ?_ (au _ e),rfl,q⟩;rw [aO];exact Nat.ne_of_lt (Heap.lt_size e)
theorem Ba:gq X (.builtin "isinstance") (fun xs H Q=>∃ x c cv t b,xs=[x,c]/\(c=.ref cv/\kitOne X.K t (.ref cv)=some b)/\pZ X.K H x t/\Q (.bl b) H):=by
 intro pins s σ H xs us Q I r h;obtain ⟨x,c,cv,t,b,rfl,⟨rfl,e⟩,ty,q⟩:=h;obtain ⟨u,v,rfl,rx,rc⟩:=Vals.two r;cases rc;exact xq I rx ty e fun tk=>⟨.bl b,H,I.tok tk,rfl,q⟩
theorem yX:gq X (.builtin "isinstance") (fun xs H Q=>∃ x T t b,xs=[x,.ty T]/\kitOne X.K t (.type T)=some b/\pZ X.K H x t/\Q (.bl b) H):=by
 intro pins s σ H xs us Q I r h;obtain ⟨x,T,t,b,rfl,e,ty,q⟩:=h;obtain ⟨u,v,rfl,rx,rc⟩:=Vals.two r;cases rc;exact xq I rx ty e fun tk=>⟨.bl b,H,I.tok tk,rfl,q⟩
end
section
variable {X:Cx}
end
section
variable {P:cg} {w:World} {K:Fg} {mg:Str->Option aA} {base:Heap} {x qual:Str} {st:cV} {f:aB} {fd:d9} {N ps:List Str} {k:Nat} {sp:Sp}
theorem nJ.mX (F:nJ K x qual st f fd) (S:bY N ps (aY st)) (len:∀ vs H Q E,sp vs H Q E->vs.length=ps.length) (body:∀ (cdv:aA) (A:cW) (outer:List Env) (s:aM) (H:Hp) (vs:List V) (Q:VK) (E:XK),eO k (A.deeper (envOfC qual (aY st) s.heap.objs.size f cdv))->sp vs H Q E -> ∃ t,z9 (p7 (fK P w) P w K mg base N qual (aY st) f cdv A outer s H E) (gk st) t/\t { nx:=fun _ H'=>Q .non H',rt:=Q } (start N vs) H):cB P w K mg base (fK P w) (k + 1) f fd ps sp:=by
 obtain ⟨oc,od,kV,doc,pm,an,cdv,ct,osl,rfl,lk,hcd⟩:=F.ex;exact T4 lk hcd S len fun A outer s H vs Q E hr h=>body cdv A outer s H vs Q E hr h
end
theorem Rm {X:Cx} {x:Str} {T:String} {pos:Pos} (hg:Gl X x) (hm:X.mg x=none) (hv:bootBuiltins x=some (.type T)) (hn:autoParam (x≠"__name__") zau1) (hd:autoParam ((x == ("__debug__":Str))=false) zau1):PE X (.Name x pos) (tC (.ty T)) := QT hg hm hv rfl hn hd
def Its (x:Str):It:=⟨fun i _=>i < x.cps.size,fun i H v H'=>H'=H/\∃ c,x.cps[i]?=some c/\v=.str ⟨#[c]⟩,fun i _=>i=x.cps.size⟩
theorem Bb {P:cg} {w:World} {K:Fg} {n ty:Str} {np:Pos} {k:String} (x:Str) (t:Tok) (it:aB) (W:∀ A:cW,A.handled=none->Walks P w A it [it] [it] x.cps.size (SignAt x) (fun i h=>h.IsStrIter it k x t i)) (self:∀ (A:cW) (i:Nat) (s:aM) (Q:aA->aM->Prop) (E:aA->aM->Prop),s.heap.IsStrIter it k x t i->Q (.ref it) s->wpAny (model P w) A (pyIter (.ref it)) Q E s) : Turn P w K (.Name n np) (Its x) [it] it (fun i h=>h.IsStrIter it k x t i) where
 mem:=by simp
 obj:=fun i h st b hb=>by
  obtain ⟨o,e,c,d⟩:=st;rw [aO.mp hb];exact ⟨o,e,fun v z=>by rw [d] at z; cases z⟩
 keep:=fun i h h' st kp=>by
  obtain ⟨o,e,r⟩:=st;exact ⟨o,kp it (by simp) o e,r⟩
 item:=by
  intro X hP hw hK hc i pins s σ H E I hf st go;subst hP hw hK;obtain ⟨f0,f1,f2,f3,f4,f5⟩:=hf it (by simp);refine (W X.A (I.ok.hd hc)).item i s _ _ go st fun v h' tk sg st' kk=>?_
  obtain ⟨c,u,hx,rfl⟩:=sg;have I1:Inv X pins σ H { s with heap:=h',toks:=tk }:=I.turned (fun b o hb e=>kk b o (by simpa using hb) e) f0 f1 f3 f4 f5;exact ⟨_,rfl,ak ⟨.str ⟨#[c]⟩,H,I1,⟨u,rfl⟩,⟨rfl,c,hx,rfl⟩,st',fun b hb=>(hf b hb).1⟩⟩
 done:=by
  intro X hP hw hK hc i pins s σ H E I hf st stop;subst hP hw hK;have e:i=x.cps.size:=stop;subst e;obtain ⟨f0,f1,f2,f3,f4,f5⟩:=hf it (by simp);exact (W X.A (I.ok.hd hc)).done s _ _ st fun h' tk kk=>⟨rfl,I.turned (fun b o hb e=>kk b o (by simpa using hb) e) f0 f1 f3 f4 f5⟩
 self:=fun A i s Q E st h=>self A i s Q E st h
section
variable {X:Cx}
def aiD (tl:TE):TI:=fun σ H R=>tl σ H fun v H1=>∃ x,v=.str x/\R (Its x) H1
theorem Km {n:Str} {np:Pos} {l:Expr} {tl:TE} (hl:PE X l tl):PI X (.Name n np) l (aiD tl):=by
 intro pins s σ H R I h;refine eX (hl pins s σ H _ I h) fun v a ⟨y,H1,I1,r1,x,e,q⟩=>?_
 subst e;obtain ⟨t,rfl⟩:=r1;have I2:∀ o,Inv X pins σ H1 { a with heap:=a.heap.push o }:=fun o=>I1.kept (t':=a.toks) fun b ob e=>au _ e
 have fp:∀ b ∈ [a.heap.objs.size],pC X pins H1 b:=fun b hb=>by
  rw [aO.mp hb];exact I1.QX (aJ _) (I1.hok.fresh (aJ _))
 cases ha:x.cps.all (· < 128) with
 | false=>exact wpAny_pyIter_wide ha ⟨_,[a.heap.objs.size],_,_,H1,rfl,I2 _,Bb (ty:=n) x t _ (fun A hA=>Walks.strWide hA _ x t) (fun A i s Q E st q=>wpAny_pyIter_striter_wide st q),⟨_,aC _ rfl,rfl,rfl⟩,fp,q⟩
 | true=>exact wpAny_pyIter_ascii ha ⟨_,[a.heap.objs.size],_,_,H1,rfl,I2 _,Bb (ty:=n) x t _ (fun A hA=>Walks.strAscii hA _ x t) (fun A i s Q E st q=>wpAny_pyIter_striter_ascii st q),⟨_,aC _ rfl,rfl,rfl⟩,fp,q⟩
theorem oR:pD X (compareOp .LtE) (fun x y H Q=>∃ i j,x=.str i/\y=.str j/\Q (.bl (!decide (j.cps.toList < i.cps.toList))) H):=by
 intro pins s σ H x y v u Q I rx ry h;obtain ⟨i,j,rfl,rfl,q⟩:=h;obtain ⟨t,rfl⟩:=rx;obtain ⟨t',rfl⟩:=ry;exact PySem.P.le_str ⟨.bl _,H,I,rfl,q⟩
end
section
variable {prog:cg} {w:World} {A:cW} {E:aA->aM->Prop} {s:aM} {K:Fg} {e C:aB} {oe:Obj} {od:Option Obj}
end
section
variable {X:Cx}
end
inductive z6 (K:Fg) (H:Hp):Nat->V->V->Bool->Prop where
 | flat {n:Nat} {x y:V} (fx:u0 x=true) (fy:u0 y=true):z6 K H n x y (eqV x y)
 | self {n:Nat} {a:aB}:z6 K H n (.ref a) (.ref a) true
 | tup {n:Nat} {a b:aB} {xs ys:List V} {e:Nat->Bool} (ne:a≠b) (ha:gY K H a xs) (hb:gY K H b ys) (h:∀ (j:Nat) x y,xs[j]?=some x->ys[j]?=some y->z6 K H n x y (e j)) : z6 K H (n + 1) (.ref a) (.ref b) ((List.range (min xs.length ys.length)).all e && xs.length == ys.length)
 | lst {n:Nat} {a b:aB} {xs ys:List V} {e:Nat->Bool} (ne:a≠b) (ha:cU K H a xs) (hb:cU K H b ys) (len:xs.length=ys.length) (h:∀ (j:Nat) x y,xs[j]?=some x->ys[j]?=some y->z6 K H n x y (e j)) : z6 K H (n + 1) (.ref a) (.ref b) ((List.range xs.length).all e)
 | aiE {n:Nat} {a b:aB} {xs ys:List V} (ne:a≠b) (ha:cU K H a xs) (hb:cU K H b ys) (len:xs.length≠ys.length):z6 K H (n + 1) (.ref a) (.ref b) false
theorem Vals.item {xs:List V} {us:List aA} (r:Vals xs us) {j:Nat} (h:j < us.toArray.size):∃ x,xs[j]?=some x/\RelV x us.toArray[j]:=by
 have h':j < us.length:=by simpa using h
 have hx:j < xs.length:=by rw [r.length]; exact h'
 obtain ⟨u,e1,e2⟩:=r.get (aP hx);refine ⟨_,aP hx,?_⟩;rw [aP h'] at e1;cases e1;simpa using e2
theorem z6.at_ {X:Cx} {pins:List (aB × Obj)} {σ:St} {H:Hp} {s:aM} (I:Inv X pins σ H s) {n:Nat} {x y:V} {b:Bool} (d:z6 X.K H n x y b) : ∀ (A:cW) (u v:aA),A.units + n < cLine->RelV x u->RelV y v->SeqAt.EqAt A s u v b:=by
 induction d with
 | flat fx fy=>exact fun A u v _ ru rv=>Zc ru rv fx fy
 | self =>
  intro A u v _ ru rv;cases ru;cases rv;exact SeqAt.EqAt.same _
 | tup ne ha hb _ ih =>
  intro A u v hu ru rv;cases ru;cases rv;obtain ⟨us,r1,p1,_⟩:=I.tuple ha;obtain ⟨vs,r2,p2,_⟩:=I.tuple hb;have w:=SeqAt.RcAt.tuples (A:=A) p1 p2 (by omega) fun j h1 h2=>by
   obtain ⟨x,ex,rx⟩:=r1.item h1;obtain ⟨y,ey,ry⟩:=r2.item h2;exact ih j x y ex ey A.in1 _ _ (by rw [show ∀ A:cW,A.in1.units=A.units + 1 from fun _=>rfl]; omega) rx ry
  rw [size_toArray,size_toArray,<- r1.length,<- r2.length] at w;exact SeqAt.EqAt.of_refs ne w
 | lst ne ha hb len _ ih =>
  intro A u v hu ru rv;cases ru;cases rv;obtain ⟨us,r1,p1,_⟩:=I.list ha;obtain ⟨vs,r2,p2,_⟩:=I.list hb;have w:=SeqAt.RcAt.lists (A:=A) p1.isList p2.isList (by rw [size_toArray,size_toArray,<- r1.length,<- r2.length,len]) (by omega) fun j h1 h2=>by
   obtain ⟨x,ex,rx⟩:=r1.item h1;obtain ⟨y,ey,ry⟩:=r2.item h2;exact ih j x y ex ey A.in1 _ _ (by rw [show ∀ A:cW,A.in1.units=A.units + 1 from fun _=>rfl]; omega) rx ry
  rw [size_toArray,<- r1.length] at w;exact SeqAt.EqAt.of_refs ne w
 | aiE ne ha hb len =>
  intro A u v hu ru rv;cases ru;cases rv;obtain ⟨us,r1,p1,_⟩:=I.list ha;obtain ⟨vs,r2,p2,_⟩:=I.list hb;refine SeqAt.EqAt.of_refs ne (SeqAt.RcAt.lists_lengths p1.isList p2.isList ?_ (by omega));rw [size_toArray,size_toArray,<- r1.length,<- r2.length];simpa using len
section
variable {X:Cx}
noncomputable def aiF (K:Fg) (neg:Bool):R2:=fun x y H Q=>∃ a b xs ys n e,x=.ref a/\y=.ref b/\gY K H a xs/\gY K H b ys/\n<=50/\(∀ (j:Nat) x y,xs[j]?=some x->ys[j]?=some y->z6 K H n x y (e j)) /\ Q (.bl (neg ^^ ((List.range (min xs.length ys.length)).all e && xs.length == ys.length))) H
theorem Zo (hu:X.A.units + 64 < cLine):pD X (compareOp .Eq) (aiF X.K false):=by
 intro pins s σ H x y v u Q I rx ry h;obtain ⟨a,b,xs,ys,n,e,rfl,rfl,ha,hb,hn,d,q⟩:=h;cases rx;cases ry;obtain ⟨us,r1,p1,_⟩:=I.tuple ha;obtain ⟨vs,r2,p2,_⟩:=I.tuple hb;have w:=SeqAt.RcAt.tuples (A:=X.A) (e:=e) p1 p2 (by omega) fun j h1 h2=>by
  obtain ⟨x,ex,rx⟩:=r1.item h1;obtain ⟨y,ey,ry⟩:=r2.item h2;exact (d j x y ex ey).at_ I X.A.in1 _ _ (by rw [show ∀ A:cW,A.in1.units=A.units + 1 from fun _=>rfl]; omega) rx ry
 rw [size_toArray,size_toArray,<- r1.length,<- r2.length] at w;rw [Bool.false_xor] at q;exact w X.prog X.w X.xe _ ⟨.bl _,H,I,rfl,q⟩
noncomputable def Ko (K:Fg) (neg:Bool):R2:=fun x y H Q=>∃ a b xs ys n e,x=.ref a/\y=.ref b/\cU K H a xs/\cU K H b ys/\n<=50/\(xs.length=ys.length->∀ (j:Nat) x y,xs[j]?=some x->ys[j]?=some y->z6 K H n x y (e j)) /\ (xs.length=ys.length->Q (.bl (neg ^^ (List.range xs.length).all e)) H)/\(xs.length≠ys.length->Q (.bl neg) H)
theorem Zq (hu:X.A.units + 64 < cLine):pD X (compareOp .Eq) (Ko X.K false):=by
 intro pins s σ H x y v u Q I rx ry h;obtain ⟨a,b,xs,ys,n,e,rfl,rfl,ha,hb,hn,d,q1,q2⟩:=h;cases rx;cases ry;obtain ⟨us,r1,p1,_⟩:=I.list ha;obtain ⟨vs,r2,p2,_⟩:=I.list hb
 by_cases len:xs.length=ys.length
 ·have w:=SeqAt.RcAt.lists (A:=X.A) (e:=e) p1.isList p2.isList (by rw [size_toArray,size_toArray,<- r1.length,<- r2.length,len]) (by omega) fun j h1 h2=>by
   obtain ⟨x,ex,rx⟩:=r1.item h1;obtain ⟨y,ey,ry⟩:=r2.item h2;exact (d len j x y ex ey).at_ I X.A.in1 _ _ (by rw [show ∀ A:cW,A.in1.units=A.units + 1 from fun _=>rfl]; omega) rx ry
  rw [size_toArray,<- r1.length] at w;have q:=q1 len;rw [Bool.false_xor] at q;exact w X.prog X.w X.xe _ ⟨.bl _,H,I,rfl,q⟩
 ·have w:=SeqAt.RcAt.lists_lengths (A:=X.A) p1.isList p2.isList (by rw [size_toArray,size_toArray,<- r1.length,<- r2.length]; simpa using len) (by omega);exact w X.prog X.w X.xe _ ⟨.bl _,H,I,rfl,q2 len⟩
theorem yZ (hu:X.A.units + 64 < cLine):pD X (compareOp .NotEq) (Ko X.K true):=by
 intro pins s σ H x y v u Q I rx ry h;obtain ⟨a,b,xs,ys,n,e,rfl,rfl,ha,hb,hn,d,q1,q2⟩:=h;cases rx;cases ry;obtain ⟨us,r1,p1,_⟩:=I.list ha;obtain ⟨vs,r2,p2,_⟩:=I.list hb
 by_cases len:xs.length=ys.length
 ·have w:=SeqAt.RcNeAt.lists (A:=X.A) (e:=e) p1.isList p2.isList (by rw [size_toArray,size_toArray,<- r1.length,<- r2.length,len]) (by omega) fun j h1 h2=>by
   obtain ⟨x,ex,rx⟩:=r1.item h1;obtain ⟨y,ey,ry⟩:=r2.item h2;exact (d len j x y ex ey).at_ I X.A.in1 _ _ (by rw [show ∀ A:cW,A.in1.units=A.units + 1 from fun _=>rfl]; omega) rx ry
  rw [size_toArray,<- r1.length] at w;have q:=q1 len;rw [Bool.true_xor] at q;exact w X.prog X.w X.xe _ ⟨.bl _,H,I,rfl,q⟩
 ·have w:=SeqAt.RcNeAt.lists_lengths (A:=X.A) p1.isList p2.isList (by rw [size_toArray,size_toArray,<- r1.length,<- r2.length]; simpa using len) (by omega);exact w X.prog X.w X.xe _ ⟨.bl _,H,I,rfl,q2 len⟩
end
end L2
namespace Tw
open PySem L2
inductive Kd where
 | non | bl | int | str | lst | tup | ins (C:aB)
def Kd.ty:Kd->aA
 | .non=>.type "NoneType"
 | .bl=>.type "bool"
 | .int=>.type "int"
 | .str=>.type "str"
 | .lst=>.type "list"
 | .tup=>.type "tuple"
 | .ins C=>.ref C
inductive BT where
 | bool | int | str | list | tuple
def BT.nm:BT->String
 | .bool=>"bool" | .int=>"int" | .str=>"str" | .list=>"list" | .tuple=>"tuple"
def bi:Kd->BT->Bool
 | .bl,.bool=>true
 | .bl,.int=>true
 | .int,.int=>true
 | .str,.str=>true
 | .lst,.list=>true
 | .tup,.tuple=>true
 | _,_=>false
structure Bc (K:Fg) (C:aB):Prop where
 cl:Cls K C
 ha:findIn K (.ref C) "__class__"=some (some (.builtin "object.__class__"))
 hn:specialIn K (.builtin "object.__class__") "__get__"=some (some (.builtin "getset_descriptor.__get__"))
 htk:takesIn K (.builtin "object.__class__")=some true
 hm:mroIn K C (.type "object")=some true
 no:∀ b:BT,kitOne K (.ref C) (.type b.nm)=some false
noncomputable def fM (K:Fg) (H:Hp) (v:V):Kd->Prop
 | .non=>v=.non
 | .bl=>∃ b,v=.bl b
 | .int=>∃ i,v=.int i
 | .str=>∃ x,v=.str x
 | .lst=>∃ a xs,v=.ref a/\(H a=some (.lst xs)\/∃ o,H a=some (.z7 o (.lst xs)))
 | .tup=>∃ a xs,v=.ref a/\H a=some (.tup xs)
 | .ins C=>∃ a dx fs,v=.ref a/\H a=some (.ins C dx fs)/\Bc K C
theorem fM.tyOf {K:Fg} {H:Hp} {v:V} {k:Kd} (h:fM K H v k):pZ K H v k.ty:=by
 cases k with
 | non=>cases h; exact .non
 | bl=>obtain ⟨b,rfl⟩:=h; exact .bl b
 | int=>obtain ⟨i,rfl⟩:=h; exact .int i
 | str=>obtain ⟨x,rfl⟩:=h; exact .str x
 | lst =>
  obtain ⟨a,xs,rfl,e | ⟨o,e⟩⟩:=h
  ·exact .lst e
  ·exact .z7 e
 | tup=>obtain ⟨a,xs,rfl,e⟩:=h; exact .tup e
 | ins C=>obtain ⟨a,dx,fs,rfl,e,t⟩:=h; exact .ins e t.cl t.ha t.hn t.htk t.hm
theorem fM.bi {K:Fg} {H:Hp} {v:V} {k:Kd} (h:fM K H v k) (b:BT):kitOne K k.ty (.type b.nm)=some (bi k b):=by
 cases k with
 | ins C=>obtain ⟨a,dx,fs,rfl,e,t⟩:=h; cases b <;> exact t.no _
 | _=>cases b <;> rfl
theorem fM.same {K:Fg} {H H':Hp} {v:V} {k:Kd} (h:fM K H v k) (s:Same H H'):fM K H' v k:=by
 cases k with
 | lst =>
  obtain ⟨a,xs,rfl,e | ⟨o,e⟩⟩:=h
  ·exact ⟨a,xs,rfl,.inl (s _ _ e)⟩
  ·exact ⟨a,xs,rfl,.inr ⟨o,s _ _ e⟩⟩
 | tup=>obtain ⟨a,xs,rfl,e⟩:=h; exact ⟨a,xs,rfl,s _ _ e⟩
 | ins C=>obtain ⟨a,dx,fs,rfl,e,t⟩:=h; exact ⟨a,dx,fs,rfl,s _ _ e,t⟩
 | _=>exact h
section
variable {X:Cx} {e:Expr} {te:TE} {p pos p2:Pos}
theorem Kp (b:BT):gq X (.builtin "isinstance") (fun xs H Q=>∃ v k,xs=[v,.ty b.nm]/\fM X.K H v k/\Q (.bl (bi k b)) H):=by
 intro pins s σ H xs us Q I r h;obtain ⟨v,k,rfl,hk,q⟩:=h;exact yX pins s σ H _ us Q I r ⟨v,b.nm,k.ty,bi k b,rfl,hk.bi b,hk.tyOf,q⟩
theorem Bd:gq X (.builtin "isinstance") (fun xs H Q=>∃ v k C b,xs=[v,.ref C]/\fM X.K H v k/\kitOne X.K k.ty (.ref C)=some b/\Q (.bl b) H):=by
 intro pins s σ H xs us Q I r h;obtain ⟨v,k,C,b,rfl,hk,e,q⟩:=h;exact Ba pins s σ H _ us Q I r ⟨v,.ref C,C,k.ty,b,rfl,⟨rfl,e⟩,hk.tyOf,q⟩
theorem vq {x:Str} (b:BT) (hi:X.mg "isinstance"=none) (hx:X.mg x=none) (he:PE X e te) (hg:autoParam (Gl X "isinstance") zau0) (hgx:autoParam (Gl X x) zau0) (hv:autoParam (bootBuiltins x=some (.type b.nm)) zau4) (hn:autoParam (x≠"__name__") zau1) (hd:autoParam ((x == ("__debug__":Str))=false) zau1) (h1:autoParam (starEach [e,.Name x p2] X.env=(false,eval e X.env)::starEach [.Name x p2] X.env) zau0) (h2:autoParam ((backTo pos (starEach [.Name x p2] X.env)).any (·.1)=false) zau0) (h3:autoParam (starEach [.Name x p2] X.env=(false,eval (.Name x p2) X.env)::starEach [] X.env) zau0) : PE X (.Call (.Name "isinstance" p) [e,.Name x p2] [] pos) (tCB (fun xs H Q=>∃ v k,xs=[v,.ty b.nm]/\fM X.K H v k/\Q (.bl (bi k b)) H) (Af te (Af (tC (.ty b.nm)) JT))) := uY (X:=X) (p:=p) (pos:=pos) (Kp b) hg hi boot_isinstance (ao he (ao (Rm (T:=b.nm) (pos:=p2) hgx hx hv hn hd) aD h3) h1) (by decide) (by decide) h1 h2
theorem Zr {x:Str} {C:aB} (hi:X.mg "isinstance"=none) (hx:X.mg x=some (.ref C)) (he:PE X e te) (hg:autoParam (Gl X "isinstance") zau0) (hgx:autoParam (Gl X x) zau0) (hd:autoParam ((x == ("__debug__":Str))=false) zau1) (h1:autoParam (starEach [e,.Name x p2] X.env=(false,eval e X.env)::starEach [.Name x p2] X.env) zau0) (h2:autoParam ((backTo pos (starEach [.Name x p2] X.env)).any (·.1)=false) zau0) (h3:autoParam (starEach [.Name x p2] X.env=(false,eval (.Name x p2) X.env)::starEach [] X.env) zau0) : PE X (.Call (.Name "isinstance" p) [e,.Name x p2] [] pos) (tCB (fun xs H Q=>∃ v k C b,xs=[v,.ref C]/\fM X.K H v k/\kitOne X.K k.ty (.ref C)=some b/\Q (.bl b) H) (Af te (Af (tC (.ref C)) JT))) := uY (X:=X) (p:=p) (pos:=pos) Bd hg hi boot_isinstance (ao he (ao (Gf (v:=.ref C) (pos:=p2) hgx hx rfl hd) aD h3) h1) (by decide) (by decide) h1 h2
theorem Gs {D:aB} {J:It} {σ0:St} {g:TG} {te:TE} {Qe:Hp->Prop} {H1:Hp} (n:Nat) (hn:n<=sizeLine) (y:Nat->V) (Pv:Nat->Hp->Prop) (start:Pv 0 (upd H1 D (.lst []))) (at_:∀ i H,i<=n->Pv i H->H D=some (.lst ((List.range i).map y))) (stop:∀ H,Pv n H->J.stop n H/\Qe H) (go:∀ i H,i < n->Pv i H->J.go i H/\∀ x H',J.Ju i H x H'->∀ Qc:VK,(∀ H3,H3 D=some (.lst ((List.range i).map y))->Pv (i + 1) (upd H3 D (.lst ((List.range (i + 1)).map y)))->Qc (y i) H3)->g x σ0 H' fun σ2 H2=>lu σ0 σ2/\te σ2 H2 Qc) : ∃ W:Nat->Nat->List V->Hp->Prop,(∃ m,W 0 m [] (upd H1 D (.lst [])))/\pL D J σ0 g Ig te Qe W:=by
 refine ⟨fun i m ac H=>i<=n/\m=n - i/\ac=(List.range i).map y/\Pv i H,⟨n,dR _,rfl,rfl,start⟩,?_⟩;rintro i m ac H ⟨le,rfl,rfl,p⟩;refine ⟨at_ i H le p,?_⟩
 by_cases lt:i < n
 ·obtain ⟨g1,step⟩:=go i H lt p;refine .inr ⟨g1,by rw [aq,length_range]; exact aZ lt hn,fun x H' yl=>?_⟩;simp only [Ig,if_true];refine step x H' yl _ fun H3 hD nx=>?_
  have e:(List.range i).map y++[y i]=(List.range (i + 1)).map y:=by rw [range_succ,aX]; rfl
  exact ⟨hD,n - (i + 1),by omega,lt,rfl,e,by rw [e]; exact nx⟩
 ·have e:i=n:=by omega
  subst e;exact .inl (stop H p)
theorem bh {H:Hp} {D:aB} {o:HO} (h:H D=none):Same H (upd H D o):=fun b u e=>by rw [bA (dz e h)]; exact e
theorem gR {x:Str} {id:String} {r:List V->Hp->VK->Prop} {es:List Expr} {t:TA} (hc:gq X (.builtin id) r) (hm:X.mg x=none) (hv:bootBuiltins x=some (.builtin id)) (ha:PA X (e::es) t) (hg:autoParam (Gl X x) zau0) (hn:autoParam (x≠"__name__") zau1) (hdb:autoParam ((x == ("__debug__":Str))=false) zau1) (he:autoParam (starEach (e::es) X.env=(false,eval e X.env)::starEach es X.env) zau0) (hpl:autoParam ((backTo pos (starEach es X.env)).any (·.1)=false) zau0):PE X (.Call (.Name x p) (e::es) [] pos) (tCB r t):=uY hc hg hm hv ha hn hdb he hpl
theorem vA {x:Str} {u:aA} (v:V) (hm:X.mg x=some u) (r:RelV v u) (hg:autoParam (Gl X x) zau0) (hd:autoParam ((x == ("__debug__":Str))=false) zau1):PE X (.Name x pos) (tC v):=Gf hg hm r hd
theorem cZ (i:Nat) {x:Str} (hN:X.N.Nodup) (hi:autoParam (X.N[i]?=some x) zau0) (hx:Loc X.env.scope x:=by exact Or.inl rfl) (hf:X.fn x=true\/X.env.scope.names.lookup x=some .local:=by first | exact .inl rfl | exact .inr rfl):PG X (.Name x pos) (Gg i):=QW hN hi hx hf
end
structure adU (K:Fg) (C:aB) (m:Str) (f:aB):Prop where
 rd:readsIn K C (.type "type")=true
 ga:specialIn K (.ref C) "__getattribute__"=some (some (.builtin "type.__getattribute__"))
 at_:findCls K (.ref C) (.type "type") m=some (.val (.ref f))
 kp:keepIn K (.ref f)=true
section
variable {X:Cx} {CX:Ag} {k:Nat} {f C:aB} {fd:d9} {ps:List Str} {sp:Sp} {uy:List V} {ds:List aA} {E:XK} {x m:Str} {p pos apos:Pos} {e o:Expr} {es:List Expr} {ta:TE} {t:TA}
theorem cG (F:cB X.prog X.w X.K X.mg X.base CX k f fd ps sp) (hr:eO k X.A) (hm:X.mg x=some (.ref f)) (hk:keepIn X.K (.ref f)=true) (hb:Binds X.K fd ps []) (hx:Passes CX X E) (ha:PA X (e::es) t) (hg:autoParam (Gl X x) zau0) (hdb:autoParam ((x == ("__debug__":Str))=false) zau1) (he:autoParam (starEach (e::es) X.env=(false,eval e X.env)::starEach es X.env) zau0) (hpl:autoParam ((backTo pos (starEach es X.env)).any (·.1)=false) zau0) : PE X (.Call (.Name x p) (e::es) [] pos) (JV sp [] E t):=yN F hr hg hm hk hb .nil hx ha hdb he hpl
theorem qK (M:Mk X.K C f) (F:cB X.prog X.w X.K X.mg X.base CX k f fd ps sp) (hr:eO (k + 1) X.A) (hm:X.mg x=some (.ref C)) (hb:Binds X.K fd ps []) (hx:Passes CX X E) (ha:PA X (e::es) t) (hg:autoParam (Gl X x) zau0) (hdb:autoParam ((x == ("__debug__":Str))=false) zau1) (he:autoParam (starEach (e::es) X.env=(false,eval e X.env)::starEach es X.env) zau0) (hpl:autoParam ((backTo pos (starEach es X.env)).any (·.1)=false) zau0) : PE X (.Call (.Name x p) (e::es) [] pos) (T3 C sp [] E t):=Q7 M F hr hg hm hb .nil hx ha hdb he hpl
theorem Rn {pl:Sem Bool} (hx:X.mg x=some (.ref C)) (hm:adU X.K C m f) (F:cB X.prog X.w X.K X.mg X.base CX k f fd ps sp) (hr:eO k X.A) (hb:Binds X.K fd ps []) (hp:Passes CX X E) (ha:PA X (e::es) t) (hg:autoParam (Gl X x) zau0) (hdb:autoParam ((x == ("__debug__":Str))=false) zau1) (hst:autoParam (starEach (e::es) X.env=(false,eval e X.env)::starEach es X.env) zau0) (hpl:autoParam ((backTo pos (starEach es X.env)).any (·.1)=false) zau0) (ht:autoParam (eval (.Call (.Attribute (.Name x p) m apos) (e::es) [] pos) X.env=(do
   let ov <- eval (.Name x p) X.env
   standAt apos.atName
   let (f,first) <- holding [ov] (getMethod ov m pl)
   callWith pos f first (backTo pos (starEach (e::es) X.env)) (backToKw pos (keywordEach [] X.env)))) zau0) :
  PE X (.Call (.Attribute (.Name x p) m apos) (e::es) [] pos) (JV sp [] E t):=by
 intro pins s σ H Q I h;refine methodCall_KW (pl:=pl) (j5 I hg hx ?_ hdb) ht;refine method_cls I.nj hm.ga (cls_value I.nj hm.rd hm.at_ rfl ?_);have I1:=I.tok (s.toks + 1);refine callWith_K (h₀:=X.base) I.ok.mod.Hz hm.kp (eX (ha pos pins _ σ H _ I1 h) fun us s2 ⟨vs,H2,I2,r,q2⟩=>⟨I2.nj,?_⟩) hst hpl;exact uX F hr hb .nil hp I2 r q2
noncomputable def Kq (Cs:aB->Prop) (m:Str) (sp:aB->Sp) (E:XK) (ta:TE) (t:TA):TE:=fun σ H Q=>ta σ H fun x H1=>∃ a C dx fs,x=.ref a/\H1 a=some (.ins C dx fs)/\Cs C/\fs.lookup m=none/\t σ H1 fun vs H2=>sp C (x::vs) H2 Q E
theorem Bf {pl:Sem Bool} {sp:aB->Sp} {Cs:aB->Prop} (he:PE X o ta) (hr:eO k X.A) (hC:∀ C,Cs C->∃ f fd,Cls X.K C/\Meth X.K C m f/\cB X.prog X.w X.K X.mg X.base CX k f fd ps (sp C)/\Binds X.K fd ps []) (hx:Passes CX X E) (ha:PA X (e::es) t) (hst:autoParam (starEach (e::es) X.env=(false,eval e X.env)::starEach es X.env) zau0) (hpl:autoParam ((backTo pos (starEach es X.env)).any (·.1)=false) zau0) (ht:autoParam (eval (.Call (.Attribute o m apos) (e::es) [] pos) X.env=(do
   let ov <- eval o X.env
   standAt apos.atName
   let (f,first) <- holding [ov] (getMethod ov m pl)
   callWith pos f first (backTo pos (starEach (e::es) X.env)) (backToKw pos (keywordEach [] X.env)))) zau0) :
  PE X (.Call (.Attribute o m apos) (e::es) [] pos) (Kq Cs m sp E ta t):=by
 intro pins s σ H Q I h;refine methodCall_KW (pl:=pl) (eX (he pins s σ H _ I h) fun u s1 ⟨x,H1,I1,rx,a,C,dx,fs,ex,ea,cs,l,q⟩=>?_) ht;subst ex;obtain rfl:u=Value.ref a:=rx;obtain ⟨f,fd,c,hm,F,hb⟩:=hC C cs;refine lO I1 ea c hm l ?_;refine callWith_K (first:=[.ref a]) (h₀:=X.base) I.ok.mod.Hz hm.kp (eX (ha pos pins s1 σ H1 _ I1 q) fun us s2 ⟨vs,H2,I2,r,q2⟩=>⟨I2.nj,?_⟩) hst hpl;have:=uX (us:=.ref a::us) (vs:=.ref a::vs) (uy:=[]) (ds:=[]) (Q:=Q) F hr hb .nil hx I2 (.cons rfl r) (by rw [bZ]; exact q2);exact this
theorem xO (K:Fg) {fl:Str} (he:PE X o ta) (hK:autoParam (X.K=K) zau0) (hb:autoParam (attributeBase o fl X.env (eval o X.env)=eval o X.env) zau0):PE X (.Attribute o fl pos) (adE K ta fl):=by
 subst hK;exact dM he hb
end
theorem vB {D:aB} {J:It} {σ0:St} {g:TG} {te:TE} {Qe:Hp->Prop} {H1:Hp} (n:Nat) (hn:n<=sizeLine) (Pv:Nat->List V->Hp->Prop) (start:Pv 0 [] (upd H1 D (.lst []))) (at_:∀ i acc H,i<=n->Pv i acc H->acc.length=i/\H D=some (.lst acc)) (stop:∀ acc H,Pv n acc H->J.stop n H/\Qe H) (go:∀ i acc H,i < n->Pv i acc H->J.go i H/\∀ x H',J.Ju i H x H'->∀ Qc:VK,(∀ v H3,H3 D=some (.lst acc)->Pv (i + 1) (acc++[v]) (upd H3 D (.lst (acc++[v])))->Qc v H3)->g x σ0 H' fun σ2 H2=>lu σ0 σ2/\te σ2 H2 Qc) : ∃ W:Nat->Nat->List V->Hp->Prop,(∃ m,W 0 m [] (upd H1 D (.lst [])))/\pL D J σ0 g Ig te Qe W:=by
 refine ⟨fun i m ac H=>i<=n/\m=n - i/\Pv i ac H,⟨n,dR _,rfl,start⟩,?_⟩;rintro i m ac H ⟨le,rfl,p⟩;obtain ⟨la,hD⟩:=at_ i ac H le p;refine ⟨hD,?_⟩
 by_cases lt:i < n
 ·obtain ⟨g1,step⟩:=go i ac H lt p;refine .inr ⟨g1,by rw [la]; exact aZ lt hn,fun x H' yl=>?_⟩;simp only [Ig,if_true];refine step x H' yl _ fun v H3 hD nx=>?_
  exact ⟨hD,n - (i + 1),by omega,lt,rfl,nx⟩
 ·have e:i=n:=by omega
  subst e;exact .inl (stop ac H p)
theorem za {D:aB} {J:It} {σ0:St} {g:TG} {tc:TT} {te:TE} {Qe:Hp->Prop} {H1:Hp} (n:Nat) (hn:n<=sizeLine) (Pv:Nat->List V->Hp->Prop) (start:Pv 0 [] (upd H1 D (.lst []))) (at_:∀ i acc H,i<=n->Pv i acc H->acc.length<=i/\H D=some (.lst acc)) (stop:∀ acc H,Pv n acc H->J.stop n H/\Qe H) (go:∀ i acc H,i < n->Pv i acc H->J.go i H/\∀ x H',J.Ju i H x H'->∀ (Qc:VK) (Qn:Hp->Prop),(∀ v H3,H3 D=some (.lst acc)->Pv (i + 1) (acc++[v]) (upd H3 D (.lst (acc++[v])))->Qc v H3)->(∀ H3,Pv (i + 1) acc H3->Qn H3) -> g x σ0 H' fun σ2 H2=>lu σ0 σ2/\tc σ2 H2 fun b H3=>if b=true then te σ2 H3 Qc else Qn H3) : ∃ W:Nat->Nat->List V->Hp->Prop,(∃ m,W 0 m [] (upd H1 D (.lst [])))/\pL D J σ0 g tc te Qe W:=by
 refine ⟨fun i m ac H=>i<=n/\m=n - i/\Pv i ac H,⟨n,dR _,rfl,start⟩,?_⟩;rintro i m ac H ⟨le,rfl,p⟩;obtain ⟨la,hD⟩:=at_ i ac H le p;refine ⟨hD,?_⟩
 by_cases lt:i < n
 ·obtain ⟨g1,step⟩:=go i ac H lt p;refine .inr ⟨g1,Nat.lt_of_le_of_lt la (aZ lt hn),fun x H' yl=>?_⟩;exact step x H' yl _ _ (fun v H3 hD nx=>⟨hD,n - (i + 1),by omega,lt,rfl,nx⟩) (fun H3 nx=>⟨n - (i + 1),by omega,lt,rfl,nx⟩)
 ·have e:i=n:=by omega
  subst e;exact .inl (stop ac H p)
theorem iY {X:Cx} {scope:Scope} {cl:List (Str × aB)} {N':List Str} (cap:List (Option Nat)) (N:List Str) (sn rn:List (Str × NameKind)) (ks:List Str) (kind:scope.kind=.function) (Dt:∀ y ∈ scope.names,y.2≠.cell) (names:∀ y ∈ scope.names,y.2=.local->scope.names.lookup y.1=some .local) (clos:closureFor scope X.env=pure cl) (sub:∀ p ∈ cl,X.env.cells.lookup p.1=some p.2) (hN:X.N=N) (hs:X.env.scope.names=sn) (rel:(relabel scope X.env).names=rn) (hk:cl.map (·.1)=ks) (has:∀ y ∈ rn,(y.2=.cell\/y.2=.free)->y.1 ∈ ks) (len:cap.length=N'.length) (cp:∀ p ∈ cap.zip N',∀ j,p.1=some j->N[j]?=some p.2/\sn.lookup p.2=some .cell/\rn.lookup p.2=some .cell):fG X scope cl N' cap:=by
 refine ⟨kind,Dt,names,clos,fun n c h=>?_,fun n h=>?_,len,fun i j x h1 h2=>?_⟩
 ·exact sub (n,c) (PySem.mem_of_lookup h)
 ·rw [rel] at h;have hm:n ∈ cl.map (·.1):=by
   rw [hk];rcases h with h | h
   ·exact has _ (PySem.mem_of_lookup h) (.inl rfl)
   ·exact has _ (PySem.mem_of_lookup h) (.inr rfl)
  obtain ⟨p,hp,rfl⟩:=bf.mp hm;cases e:cl.lookup p.1 with
  | some c=>exact ⟨c,rfl⟩
  | none =>
   rw [List.lookup_eq_none_iff] at e;exact absurd (beq_self_eq_true p.1) (by have:=e p hp; simpa using this)
 ·rw [hN,hs,rel];refine cp (some j,x) ?_ j rfl;rw [List.mem_iff_getElem?];exact ⟨i,by rw [List.getElem?_zip_eq_some]; exact ⟨h1,h2⟩⟩
theorem gH {r:St} {x:Option V}:lu (none::r) ((none::r).set 0 x):=by
 intro j v h;cases j with
 | zero=>simp at h
 | succ j=>exact h
theorem eG {α β:Type} {R:α->β->Prop}:∀ {xs:List α} {ys:List β} {i:Nat} {x:α},Paired R xs ys->xs[i]?=some x->∃ y,ys[i]?=some y/\R x y
 | _,_,_,_,.nil,e=>by simp at e
 | _,_,0,_,.cons r _,e=>by simp at e; subst e; exact ⟨_,rfl,r⟩
 | _,_,i + 1,_,.cons _ t,e=>eG (i:=i) t (by simpa using e)
theorem take_snoc {α:Type} {xs:List α} {i:Nat} {x:α} (h:xs[i]?=some x):xs.take (i + 1)=xs.take i++[x]:=by
 rw [List.take_add_one,h]; rfl
theorem Kr {x:V} (h:u0 x=true):eqV x x=true:=by
 cases x <;> first | rfl | (simp [eqV]; done) | exact absurd h (by simp [u0])
end Tw
namespace L2
open PySem PySem.Spec PyProof.Rows
section
variable {X:Cx} {pos:Pos}
end
noncomputable def Zt:Expr->Option V
 | .Constant (.int n) _ _=>some (V.int n)
 | .Constant (.str z) _ _=>some (V.str z)
 | .Constant (.bool b) _ _=>some (.bl b)
 | .Constant .none _ _=>some .non
 | .UnaryOp .USub (.Constant (.int n) _ _) _=>some (V.int (-n))
 | _=>none
def T8:List Expr->Option (List V)
 | []=>some []
 | e::es=>(Zt e).bind fun v=>(T8 es).map fun vs=>v::vs
section
variable {X:Cx}
theorem Zu {e:Expr} {es:List Expr} {v:V} (h:Zt e=some v):PE X e (tC v)/\starEach (e::es) X.env=(false,eval e X.env)::starEach es X.env:=by
 unfold Zt at h
 split at h
 ·cases h; exact ⟨aL,rfl⟩
 ·cases h; exact ⟨cj,rfl⟩
 ·cases h; exact ⟨j4,rfl⟩
 ·cases h; exact ⟨YQ,rfl⟩
 ·cases h;refine ⟨fun pins s σ H Q I q=>?_,rfl⟩;exact Gh yM aL pins s σ H Q I ⟨_,rfl,q⟩
 ·cases h
def adV (vs:List V):TA:=fun _ H Q=>Q vs H
theorem d7 (vs:List V) {es:List Expr} (h:T8 es=some vs):PA X es (adV vs):=by
 induction es generalizing vs with
 | nil =>
  cases h;exact fun pos pins s σ H Q I q=>aD pos pins s σ H Q I q
 | cons e es ih =>
  obtain ⟨v,hv,h⟩:=Option.bind_eq_some_iff.mp h;obtain ⟨ws,hw,rfl⟩:=bH.mp h;obtain ⟨p,st⟩:=Zu (X:=X) (es:=es) hv;exact fun pos pins s σ H Q I q=>ao p (ih ws hw) st pos pins s σ H Q I q
end
section
variable {prog:cg} {w:World} {A:cW} {E:aA->aM->Prop} {s:aM} {J l:aB} {its:Array aA}
end
section
variable {X:Cx} {e:Expr} {te:TE} {p p2 pos pos2:Pos}
def adW:R2:=fun x y H Q=>∃ c n,x=.str ⟨#[c]⟩/\y=.int n/\0<=n/\n<=1000/\Q (.str ⟨(List.replicate n.toNat c).toArray⟩) H
theorem Bg (c:Nat) (n:Int):Txt.mul ⟨#[c]⟩ n=⟨(List.replicate n.toNat c).toArray⟩:=by
 have h:=PyProof.Rows.mul_one_list c n;generalize Txt.mul ⟨#[c]⟩ n=z at h ⊢;obtain ⟨a⟩:=z;have h':a.toList=List.replicate n.toNat c:=h;rw [<- h']
theorem uD:pD X (binaryOp .Mult) adW:=by
 intro pins s σ H x y v u Q I rx ry h;obtain ⟨c,n,rfl,rfl,h0,h1,q⟩:=h;obtain ⟨t,rfl⟩:=rx;obtain ⟨t',rfl⟩:=ry;have l1:Str.length ⟨#[c]⟩=1:=rfl;rw [<- Bg] at q;have big:1000<=sizeLine:=by decide
 refine P.mul_str (by rw [aH (by omega),aH (by omega)]; rfl) (fun h2 _=>?_) (fun h2 _=>?_) ?_
 ·rw [l1];have:(1:Int)<=(2 ^ 63 - 1) / n:=by
   rw [Int.le_ediv_iff_mul_le (by omega)];omega
  omega
 ·rw [l1];exact aH (by omega)
 ·have ml:=Bg c n;unfold Txt.mul at q ml
  by_cases c1:n < 1
  ·rw [if_pos c1] at q ⊢;exact ⟨by decide,.str _,H,I.tok _,⟨_,rfl⟩,q⟩
  ·rw [if_neg c1] at q ml ⊢
   by_cases c2:(n == 1 || Str.length ⟨#[c]⟩ == 0)=true
   ·rw [if_pos c2] at q ⊢;exact ⟨.str _,H,I,⟨_,rfl⟩,q⟩
   ·rw [if_neg c2] at q ml ⊢;refine ⟨?_,.str _,H,I.tok _,⟨_,rfl⟩,q⟩;rw [ml]
    show (List.replicate n.toNat c).toArray.size<=sizeLine
    simp only [size_toArray,length_replicate];omega
end
end L2
namespace Tw
open PySem L2
abbrev Rep (α:Type):=Hp->V->α->Prop
structure zc {α:Type} [DecidableEq α] (K:Fg) (n:Nat) (R:Rep α):Prop where
 same:∀ {H H':Hp} {v:V} {x:α},R H v x->Same H H'->R H' v x
 one:∀ {H:Hp} {v:V} {x y:α},R H v x->R H v y->x=y
 eq:∀ {H:Hp} {v w:V} {x y:α},R H v x->R H w y->z6 K H n v w (decide (x=y))
def wR:Rep Int:=fun _ v i=>v=.int i
def vC:Rep Str:=fun _ v x=>v=.str x
def gJ {α:Type} (R:Rep α):Rep (List α):=fun H v xs=>∃ t vs,v=.ref t/\H t=some (.lst vs)/\Paired (R H) vs xs
def Ks {α β γ:Type} (R:Rep α) (S:Rep β) (T:Rep γ):Rep (α × β × γ):=fun H v c=>∃ t u w z,v=.ref t/\H t=some (.tup [u,w,z])/\R H u c.1/\S H w c.2.1/\T H z c.2.2
section
variable {K:Fg} {α β γ:Type} [DecidableEq α] [DecidableEq β] [DecidableEq γ] {n:Nat} {R:Rep α} {S:Rep β} {T:Rep γ}
theorem eq_int:zc K n wR:=⟨fun h _=>h,fun h h'=>by cases h; cases h'; rfl,fun {H v w x y} h h'=>by
 cases h; cases h';have:=z6.flat (K:=K) (H:=H) (n:=n) (x:=.int x) (y:=.int y) rfl rfl;have e:eqV (.int x) (.int y)=decide (x=y):=by
  show (x == y)=_
  by_cases z:x=y <;> simp [z]
 rw [e] at this;exact this⟩
theorem eq_str:zc K n vC:=⟨fun h _=>h,fun h h'=>by cases h; cases h'; rfl,fun {H v w x y} h h'=>by
 cases h; cases h';have:=z6.flat (K:=K) (H:=H) (n:=n) (x:=.str x) (y:=.str y) rfl rfl;have e:eqV (.str x) (.str y)=decide (x=y):=by
  show (x == y)=_
  by_cases z:x=y <;> simp [z]
 rw [e] at this;exact this⟩
theorem vD:∀ (xs ys:List α),((List.range (min xs.length ys.length)).all (fun j=>decide (xs[j]?=ys[j]?)) && xs.length == ys.length)=decide (xs=ys)
 | [],[]=>rfl
 | [],y::ys=>by simp
 | x::xs,[]=>by simp
 | x::xs,y::ys=>by
  have ih:=vD xs ys;have e:min (x::xs).length (y::ys).length=min xs.length ys.length + 1:=by simp only [length_cons]; omega
  rw [e,List.range_succ_eq_map,List.all_cons,all_map];have e2:((fun j=>decide ((x::xs)[j]?=(y::ys)[j]?)) ∘ Nat.succ)=fun j=>decide (xs[j]?=ys[j]?):=by
   funext j
   simp
  rw [e2];have e3:((x::xs).length == (y::ys).length)=(xs.length == ys.length):=by simp
  rw [e3,Bool.and_assoc,ih]
  by_cases z:x=y <;> by_cases z':xs=ys <;> simp [z,z']
theorem xP {H:Hp} (h:zc K n R) {vs ws:List V} {xs ys:List α} (p:Paired (R H) vs xs) (q:Paired (R H) ws ys):∀ (j:Nat) x y,vs[j]?=some x->ws[j]?=some y->z6 K H n x y (decide (xs[j]?=ys[j]?)):=by
 intro j v w hv hw;obtain ⟨x,hx,rx⟩:=eG p hv;obtain ⟨y,hy,ry⟩:=eG q hw;rw [hx,hy];have:=h.eq rx ry;have e:decide (some x=some y)=decide (x=y):=by by_cases z:x=y <;> simp [z]
 rw [e];exact this
theorem Ro (h:zc K n R) (g:zc K n S) (f:zc K n T):zc K (n + 1) (Ks R S T):=by
 refine ⟨fun {H H' v xs} r s=>?_,fun {H v c c'} r r'=>?_,fun {H v w c c'} r r'=>?_⟩
 ·obtain ⟨t,u,w,z,e,ht,p,q,y⟩:=r;exact ⟨t,u,w,z,e,s _ _ ht,h.same p s,g.same q s,f.same y s⟩
 ·obtain ⟨t,u,w,z,rfl,ht,p,q,y⟩:=r;obtain ⟨t',u',w',z',e,ht',p',q',y'⟩:=r';cases e;rw [ht] at ht';cases ht';exact Prod.ext (h.one p p') (Prod.ext (g.one q q') (f.one y y'))
 ·obtain ⟨t,u,w,z,rfl,ht,p,q,y⟩:=r;obtain ⟨t',u',w',z',rfl,ht',p',q',y'⟩:=r'
  by_cases e:t=t'
  ·subst e;rw [ht] at ht';cases ht';rw [aK (Prod.ext (h.one p p') (Prod.ext (g.one q q') (f.one y y')))];exact .self
  ·have:=z6.tup (n:=n) (e:=fun j=>if j=0 then decide (c.1=c'.1) else if j=1 then decide (c.2.1=c'.2.1) else decide (c.2.2=c'.2.2)) e (gY.of (K:=K) ht) (gY.of (K:=K) ht') fun j x y hx hy=>by
    rcases j with _ | _ | _ | j
    ·cases hx; cases hy; exact h.eq p p'
    ·cases hx; cases hy; exact g.eq q q'
    ·cases hx; cases hy; exact f.eq y y'
    ·cases hx
   have ee:((List.range (min [u,w,z].length [u',w',z'].length)).all (fun j=>if j=0 then decide (c.1=c'.1) else if j=1 then decide (c.2.1=c'.2.1) else decide (c.2.2=c'.2.2)) && [u,w,z].length == [u',w',z'].length)=decide (c=c'):=by
    show ((decide (c.1=c'.1) && (decide (c.2.1=c'.2.1) && (decide (c.2.2=c'.2.2) && true))) && true)=_
    obtain ⟨c1,c2,c3⟩:=c;obtain ⟨d1,d2,d3⟩:=c'
    by_cases z:c1=d1 <;> by_cases z':c2=d2 <;> by_cases z'':c3=d3 <;> simp [z,z',z'']
   rw [ee] at this;exact this
theorem Zv {H:Hp} {Q:VK} {v w:V} {xs ys:List α} (h:zc K n R) (hn:n<=50) (r:gJ R H v xs) (r':gJ R H w ys) (q:Q (.bl (decide (xs=ys))) H):Ko K false v w H Q:=by
 obtain ⟨t,vs,rfl,ht,p⟩:=r;obtain ⟨t',vs',rfl,ht',p'⟩:=r';have l1:=Paired.length p;have l2:=Paired.length p';refine ⟨t,t',vs,vs',n,_,rfl,rfl,cU.of ht,cU.of ht',hn,fun _=>xP h p p',fun len=>?_,fun len=>?_⟩
 ·have ea:=vD xs ys;have len':xs.length=ys.length:=by omega
  rw [len',Nat.min_self,beq_self_eq_true,Bool.and_true] at ea;rw [Bool.false_xor,l1,len',ea];exact q
 ·rw [aH (fun z=>len (by rw [l1,l2,z]))] at q;exact q
theorem zf {H:Hp} {Q:VK} {v w:V} {xs ys:List α} (h:zc K n R) (hn:n<=50) (r:gJ R H v xs) (r':gJ R H w ys) (q:Q (.bl (!decide (xs=ys))) H):Ko K true v w H Q:=by
 obtain ⟨t,vs,rfl,ht,p⟩:=r;obtain ⟨t',vs',rfl,ht',p'⟩:=r';have l1:=Paired.length p;have l2:=Paired.length p';refine ⟨t,t',vs,vs',n,_,rfl,rfl,cU.of ht,cU.of ht',hn,fun _=>xP h p p',fun len=>?_,fun len=>?_⟩
 ·have ea:=vD xs ys;have len':xs.length=ys.length:=by omega
  rw [len',Nat.min_self,beq_self_eq_true,Bool.and_true] at ea;rw [Bool.true_xor,l1,len',ea];exact q
 ·rw [aH (fun z=>len (by rw [l1,l2,z]))] at q;exact q
end
end Tw
namespace L2
open PySem PySem.Spec PyProof.Rows
section
variable {X:Cx}
end
def um (n b:Int):Bool:=decide (Builtin.bitAnd (n / 2 ^ b.toNat) 1=1)
theorem Ku (n b:Nat):um (n:Int) (b:Int)=n.testBit b:=by
 unfold um;have e:(n:Int) / 2 ^ ((b:Nat):Int).toNat=((n / 2 ^ b:Nat):Int):=by
  rw [cD];simp
 rw [e,bitAnd_pp (Int.natCast_nonneg _) (by decide)];have e2:((n / 2 ^ b:Nat):Int).toNat &&& (1:Int).toNat=n / 2 ^ b % 2:=by
  rw [cD];exact Nat.and_one_is_mod _
 rw [e2,Nat.testBit_eq_decide_div_mod_eq]
 by_cases z:n / 2 ^ b % 2=1
 ·simp [z]
 ·have:n / 2 ^ b % 2=0:=by omega
  simp [this]
end L2
namespace Tw
open PySem L2
theorem oU {H H':Hp} {D:aB} {o:HO} (s:Same H H') (h:H D=none):Same H (L2.upd H' D o):=fun b u e=>by rw [bA (dz e h)]; exact s b u e
structure Dw {α:Type} (R:Rep α):Prop where
 same:∀ {H H':Hp} {v:V} {x:α},R H v x->Same H H'->R H' v x
 upd:∀ {H:Hp} {v:V} {x:α} {D:aB} {zs:List V} {o:HO},R H v x->H D=some (.lst zs)->R (L2.upd H D o) v x
section
variable {K:Fg} {α β γ:Type} {R:Rep α} {S:Rep β} {T:Rep γ}
theorem jd:Dw wR:=⟨fun h _=>h,fun h _=>h⟩
theorem iH:Dw vC:=⟨fun h _=>h,fun h _=>h⟩
theorem Kv (s:Dw R) (s':Dw S) (s'':Dw T):Dw (Ks R S T):=by
 refine ⟨fun {H H' v x} h q=>?_,fun {H v x D zs o} h q=>?_⟩
 ·obtain ⟨t,u,w,z,e,ht,p,p',p''⟩:=h;exact ⟨t,u,w,z,e,q _ _ ht,s.same p q,s'.same p' q,s''.same p'' q⟩
 ·obtain ⟨t,u,w,z,e,ht,p,p',p''⟩:=h;exact ⟨t,u,w,z,e,by rw [bA (Jz ht q (by intro z; cases z))]; exact ht,s.upd p q,s'.upd p' q,s''.upd p'' q⟩
theorem gJ.same (s:Dw R) {H H':Hp} {v:V} {xs:List α} (h:gJ R H v xs) (q:Same H H'):gJ R H' v xs:=by
 obtain ⟨t,vs,e,ht,p⟩:=h;exact ⟨t,vs,e,q _ _ ht,Paired.jx p fun _ _ z=>s.same z q⟩
theorem iz {H:Hp} {vs:List V} {xs:List α} (p:Paired (R H) vs xs) {i:Nat} {x:α} (h:xs[i]?=some x):∃ v,vs[i]?=some v/\R H v x:=by
 have lt:i < vs.length:=by rw [Paired.length p]; exact (aN.mp h).1
 obtain ⟨y,hy,r⟩:=eG p (aP lt);rw [h] at hy;cases hy;exact ⟨_,aP lt,r⟩
theorem vG (sR:Dw R) (sS:Dw S) {l D:aB} {H:Hp} {xs:List α} {σ0:St} {g:TG} {te:TE} {Qe:Hp->Prop} (f:α->β) (hl:gJ R H (.ref l) xs) (hz:xs.length<=sizeLine) (hD:H D=none) (body:∀ (i:Nat) x v H2,xs[i]?=some x->R H2 v x->Same H H2->∀ Qc:VK,(∀ u H3,Same H2 H3->S H3 u (f x)->Qc u H3)->g v σ0 H2 fun σ2 H'=>lu σ0 σ2/\te σ2 H' Qc) (q:∀ H',Same H H'->gJ S H' (.ref D) (xs.map f)->Qe H') : ∃ W:Nat->Nat->List V->Hp->Prop,(∃ m,W 0 m [] (L2.upd H D (.lst [])))/\pL D (N8 K l) σ0 g Ig te Qe W:=by
 obtain ⟨l',vs,el,hv,pv⟩:=hl;cases el;have ln:=Paired.length pv;refine vB xs.length hz (fun i acc H'=>Same H H'/\H' D=some (.lst acc)/\Paired (S H') acc ((xs.take i).map f)) ⟨bh hD,aF,.nil⟩ (fun i acc H' le ⟨_,e,p⟩=>⟨?_,e⟩) ?_ ?_
 ·rw [Paired.length p,aq,length_take]; omega
 ·rintro acc H' ⟨s',e,p⟩;rw [bV] at p;exact ⟨⟨vs,cU.of (s' _ _ hv),by omega⟩,q H' s' ⟨D,acc,rfl,e,p⟩⟩
 ·rintro i acc H' lt ⟨s',e,p⟩;have hx:xs[i]?=some xs[i]:=aP lt;obtain ⟨v,Il,rv⟩:=iz pv hx;have sq:cU K H' l vs:=cU.of (s' _ _ hv);refine ⟨⟨vs,v,sq,Il⟩,?_⟩;rintro y CQ ⟨rfl,hy⟩ Qc k;have ey:=hy vs sq;rw [Il] at ey;cases ey;refine body i xs[i] v CQ hx (sR.same rv s') s' Qc fun u H3 s3 ru=>?_
  have e3:=s3 _ _ e;refine k u H3 e3 ⟨oU (s'.trans s3) hD,aF,?_⟩;rw [take_snoc hx,aX];exact Paired.snoc (Paired.jx p fun _ _ z=>sS.upd (sS.same z s3) e3) (sS.upd ru e3)
theorem Dy (sR:Dw R) (sS:Dw S) {l D:aB} {H:Hp} {xs:List α} {σ0:St} {g:TG} {tc:TT} {te:TE} {Qe:Hp->Prop} (pr:α->Bool) (f:α->β) (hl:gJ R H (.ref l) xs) (hz:xs.length<=sizeLine) (hD:H D=none) (body:∀ (i:Nat) x v H2,xs[i]?=some x->R H2 v x->Same H H2->∀ (Qc:VK) (Qn:Hp->Prop),(pr x=true->∀ u H3,Same H2 H3->S H3 u (f x)->Qc u H3)->(pr x=false->∀ H3,Same H2 H3->Qn H3) -> g v σ0 H2 fun σ2 H'=>lu σ0 σ2/\tc σ2 H' fun b H3=>if b=true then te σ2 H3 Qc else Qn H3) (q:∀ H',Same H H'->gJ S H' (.ref D) ((xs.filter pr).map f)->Qe H') : ∃ W:Nat->Nat->List V->Hp->Prop,(∃ m,W 0 m [] (L2.upd H D (.lst [])))/\pL D (N8 K l) σ0 g tc te Qe W:=by
 obtain ⟨l',vs,el,hv,pv⟩:=hl;cases el;have ln:=Paired.length pv;refine za xs.length hz (fun i acc H'=>Same H H'/\H' D=some (.lst acc)/\Paired (S H') acc (((xs.take i).filter pr).map f)) ⟨bh hD,aF,.nil⟩ (fun i acc H' le ⟨_,e,p⟩=>⟨?_,e⟩) ?_ ?_
 ·rw [Paired.length p,aq];exact bw (length_filter_le _ _) (by rw [length_take]; omega)
 ·rintro acc H' ⟨s',e,p⟩;rw [bV] at p;exact ⟨⟨vs,cU.of (s' _ _ hv),by omega⟩,q H' s' ⟨D,acc,rfl,e,p⟩⟩
 ·rintro i acc H' lt ⟨s',e,p⟩;have hx:xs[i]?=some xs[i]:=aP lt;obtain ⟨v,Il,rv⟩:=iz pv hx;have sq:cU K H' l vs:=cU.of (s' _ _ hv);refine ⟨⟨vs,v,sq,Il⟩,?_⟩;rintro y CQ ⟨rfl,hy⟩ Qc Qn k kn;have ey:=hy vs sq;rw [Il] at ey;cases ey;refine body i xs[i] v CQ hx (sR.same rv s') s' Qc Qn (fun ep u H3 s3 ru=>?_) (fun ep H3 s3=>?_)
  ·have e3:=s3 _ _ e;refine k u H3 e3 ⟨oU (s'.trans s3) hD,aF,?_⟩;rw [take_snoc hx,cu,aX];have ef:[xs[i]].filter pr=[xs[i]]:=by simp [ep]
   rw [ef];exact Paired.snoc (Paired.jx p fun _ _ z=>sS.upd (sS.same z s3) e3) (sS.upd ru e3)
  ·refine kn H3 ⟨s'.trans s3,s3 _ _ e,?_⟩;rw [take_snoc hx,cu];have ef:[xs[i]].filter pr=[]:=by simp [ep]
   rw [ef,bZ];exact Paired.jx p fun _ _ z=>sS.same z s3
end
end Tw
namespace L2
open PySem PySem.Spec PyProof.Rows
section
variable {X:Cx}
end
section
variable {X:Cx}
end
section
variable {X:Cx}
theorem xQ:∀ {ns:List Int} {us:List aA},Vals (ns.map V.int) us->numsOf us=ns/\∀ v ∈ us,∃ a t,v=Value.int a t
 | [],_,.nil=>⟨rfl,fun v hv=>by cases hv⟩
 | n::ns,_,.cons r t=>by
  obtain ⟨h1,h2⟩:=xQ (ns:=ns) t;obtain ⟨tk,rfl⟩:=r;refine ⟨by show n::numsOf _=_; rw [h1],fun v hv=>?_⟩;rcases aQ.mp hv with rfl | hm
  ·exact ⟨_,_,rfl⟩
  ·exact h2 v hm
theorem jh (K:Fg) (hK:autoParam (X.K=K) zau0):IxR X (adI K):=by
 subst hK;exact gO
theorem uE (K:Fg) (hK:autoParam (X.K=K) zau0):IxR X (adJ K):=by
 subst hK;exact dZ
end
section
variable {X:Cx} {pins:List (aB × Obj)} {σ:St} {H:Hp} {s:aM}
end
section
variable {X:Cx} {pins:List (aB × Obj)} {σ:St} {E:aA->aM->Prop} {Q:VK} {l I S f c':aB} {params:Arguments} {body:Expr} {scope:Scope} {cl:List (Str × aB)} {qual x:Str} {ctv pm:aA} {N':List Str} {cap:List (Option Nat)} {tb:TE}
variable {vs:List V} {kf:Nat->Int} {J:Nat->Hp->Prop}
end
section
variable {X:Cx} {e:Expr} {params:Arguments} {body:Expr} {scope:Scope} {cl:List (Str × aB)} {qual x:Str} {N':List Str} {cap:List (Option Nat)} {ta:TA} {tb:TE} {p pos aiH kp kp2 dp:Pos} {kd:Nat} {c P:aB}
end
section
variable {P:cg} {w:World} {K:Fg} {mg:Str->Option aA} {base:Heap} {x qual:Str} {st:cV} {f:aB} {fd:d9} {N ps:List Str} {k:Nat} {sp:Sp}
end
end L2
namespace Tw
open PySem L2
section
variable {K:Fg} {β:Type} {S:Rep β}
end
end Tw
namespace L2
open PySem
end L2
namespace Tw
open PySem L2
section
variable {α β γ:Type} {R:Rep α} {S:Rep β} {T:Rep γ}
end
end Tw
namespace L2
open PySem
section
variable (prog:cg) (w:World)
end
section
variable {prog:cg} {w:World} {A:cW} {E:aA->aM->Prop} {s:aM}
end
section
variable {prog:cg} {w:World} {A:cW} {E:aA->aM->Prop}
section
variable {h:Heap} {g:Array GenState} {d:Drawn} {t:Nat} {os:OsState} {a:aB} {its:Array aA} {n:Nat} {sl:Array (Option aA)}
end
section
variable {s:aM}
end
end
section
variable {prog:cg} {w:World} {A:cW} {E:aA->aM->Prop} {s:aM}
end
end L2
namespace L2
open PySem PySem.Spec PyProof.Rows
section
variable {X:Cx} {pins:List (aB × Obj)} {σ:St} {H:Hp} {s:aM}
end
section
variable {X:Cx} {pins:List (aB × Obj)} {σ:St} {H:Hp} {s:aM}
theorem Inv.Im (I:Inv X pins σ H s):sysModules < s.heap.objs.size:=Nat.lt_trans (by decide) (show mainGlobals < s.heap.objs.size from (I.mod.glob.keeps I.bk).lt)
end
end L2
namespace L2
open PySem
end L2
namespace L2
open PySem PySem.Spec PyProof.Rows
section
variable {X:Cx} {params:Arguments} {body:Expr} {scope:Scope} {cl:List (Str × aB)} {qual x:Str} {aiH:Pos} {c P:aB}
end
section
variable {X:Cx} {CX:Ag} {k:Nat} {f:aB} {fd:d9} {ps:List Str} {E:XK} {x:Str} {p pos:Pos} {e:Expr} {es:List Expr} {t:TA}
end
section
variable {X:Cx}
theorem Io (hc:X.calm=true):gq X (.builtin "sum") (fun xs H Q=>∃ (p:aB) (ns:List Int),xs=[.ref p]/\cU X.K H p (ns.map V.int)/\Q (.int ns.sum) H):=by
 intro pins s σ H xs us Q I r h;obtain ⟨p,ns,rfl,sq,q⟩:=h;obtain ⟨u,rfl,rx⟩:=Vals.one r;cases rx;obtain ⟨its,rv,pl,_⟩:=I.list sq;obtain ⟨e1,e2⟩:=xQ rv;obtain ⟨ys,ey⟩:=AllInts.items (vs:=its.toArray) fun v hv=>e2 v (by simpa using hv)
 have en:ys.toList.map (·.1)=ns:=by
  rw [<- nums_intItems,<- ey,<- e1]
 refine sum_intListG (I.ok.hd hc) (by rw [<- ey]; exact pl.isList) fun h' tk t' hk=>?_
 refine ⟨.int _,H,I.kept (h':=h') (t':=tk) hk,⟨t',rfl⟩,?_⟩;rw [preSum_eq,take_of_length_le (by simp),en];exact q
end
section
variable {X:Cx} {CX:Ag} {k:Nat} {ps:List Str} {E:XK} {m:Str} {pos apos:Pos} {o:Expr} {ta:TE}
def Rp (Cs:aB->Prop) (m:Str) (sp:aB->Sp) (E:XK) (ta:TE):TE:=fun σ H Q=>ta σ H fun x H1=>∃ a C dx fs,x=.ref a/\H1 a=some (.ins C dx fs)/\Cs C/\fs.lookup m=none/\sp C [x] H1 Q E
theorem xR {pl:Sem Bool} {sp:aB->Sp} {Cs:aB->Prop} (he:PE X o ta) (hr:eO k X.A) (hC:∀ C,Cs C->∃ f fd,Cls X.K C/\Meth X.K C m f/\cB X.prog X.w X.K X.mg X.base CX k f fd ps (sp C)/\Binds X.K fd ps []) (hx:Passes CX X E) (ht:autoParam (eval (.Call (.Attribute o m apos) [] [] pos) X.env=(do
   let ov <- eval o X.env
   standAt apos.atName
   let (f,first) <- holding [ov] (getMethod ov m pl)
   callWith pos f first (backTo pos (starEach [] X.env)) (backToKw pos (keywordEach [] X.env)))) zau0) :
  PE X (.Call (.Attribute o m apos) [] [] pos) (Rp Cs m sp E ta):=by
 intro pins s σ H Q I h;refine methodCall_KW (pl:=pl) (eX (he pins s σ H _ I h) fun u s1 ⟨x,H1,I1,rx,a,C,dx,fs,ex,ea,cs,l,q⟩=>?_) ht;subst ex;obtain rfl:u=Value.ref a:=rx;obtain ⟨f,fd,c,hm,F,hb⟩:=hC C cs;refine lO I1 ea c hm l ?_;exact callWith_K0 (first:=[.ref a]) I1.nj hm.kp (uX (us:=[.ref a]) (vs:=[.ref a]) (uy:=[]) F hr hb .nil hx I1 (.cons rfl .nil) q)
end
end L2
namespace Tw
open PySem PySem.Spec PyProof.Rows L2
section
variable {α:Type} [DecidableEq α] {R:Rep α}
open Classical in
open Classical in
end
section
variable {X:Cx} {α:Type} [DecidableEq α] {R:Rep α} {n:Nat}
end
end Tw
namespace L2
open PySem PySem.Spec PyProof.Rows
section
variable {pg:cg} {w:World} {A:cW} {E:aA->aM->Prop} {h:Heap} {g:Array GenState} {d:Drawn} {os:OsState} {t:Nat}
variable {q nm:Str} {N C:aB} {bmB bm bs:List aA} {hdct:Bool} {sn:List Str} {sub:List aA} {ab:Bool} {col:Option Bool} {dd:Option aB} {k0 k1 k2 k3 k5:Option aA} {B newId initId:String}
theorem wU (F:ExcBaseFacts B newId initId bmB) (T:OwnTail h bmB bm) {mN:Str->Option aA} {xs:List aA} {fI:aB} {oI:Obj} {Q:Fin->aM->Prop} (hcl:h.get? C=some (excClassObj nm q C N bs bm hdct sn sub ab col dd k0 k1 k2 k3 k5 newId)) (hn:h.Ns N mN) (hi:mN "__init__"=some (.ref fI)) (hfI:h.get? fI=some oI) (hfc:oI.cls=.type "function") (hq:∀ h' e,Heap.MadeExcOf h h' e (.ref C) xs->wpAny (model pg w) A (call (.ref fI) (.ref e::xs)) (fun r s'=>r=.none/\Q (.done (.ret (.ref e))) s') E ⟨h',g,d,t,os⟩) (hxs:xs.length<=sizeLine) : wpAny (model pg w) A (Builtin.«type.__call__» ⟨.ref C::xs,[]⟩) Q E ⟨h,g,d,t,os⟩:=by
 repeat (first | with_reducible refine wpAny_loadPart_at hcl ?_ | with_reducible refine wpAny_madeBy_exc hcl ?_ | wp_step)
 refine codeAny_call_builtin_code (Code.quiet_builtin _ F.quiet) (wpAny_check_new_subT F T hcl (codeAny_exc_new_subT F T hcl ?_ hxs))
 show wpAny _ _ _ _ _ _
 let tu:Obj:={ cls:=.type "tuple",data:=.seq xs.toArray }
 let ob:Obj:={ cls:=.ref C,data:=.fields #[.ref h.objs.size,.none,.none,.none,.bool false,.none] }
 have up:∀ b o,h.get? b=some o->((h.push tu).push ob).get? b=some o:=fun b o e=>au ob (au tu e)
 have hC1:=up _ _ hcl;have hf1:=up _ _ hfI;have hn1:((h.push tu).push ob).Ns N mN:=hn.keeps up;have T1:=T.keeps up;have at1:((h.push tu).push ob).get? (h.objs.size + 1)=some ob:=by heap_get
 have own:(Value.ref C::bm).contains (.ref C)=true:=by simp
 unfold isInstance
 repeat (first | with_reducible refine wpAny_loadPart_at at1 ?_ | (with_reducible refine wpAny_isSubtype_exc hC1 ?_; rw [own]) | wp_step)
 change wpAny _ _ (typeLookup (.ref C) _) _ _ _; refine wpAny_typeLookup_tail hC1 hn1 T1 F.mroIs F.init.lookup ?_
 rw [hi];refine wpAny_holding (aj ?_); unfold bindSpecial;refine aj (wpAny_typeOf (T:="function") ⟨_,hf1,hfc⟩ ?_);rw [if_pos (by decide)];refine ak (aj (cM (hq _ (h.objs.size + 1) ⟨up,Heap.get?_none_of_le (Nat.le_succ _),h.objs.size,at1,Heap.get?_none_of_le (aJ _),?_⟩) (fun r s' hr=>?_) fun _ _ x=>x))
 ·exact au ob (Heap.get?_push_at rfl rfl)
 ·obtain ⟨rfl,hQ⟩:=hr
  wp_walk
  exact hQ
theorem Kw (F:ExcBaseFacts B newId initId bmB) (T:OwnTail h bmB bm) {mN:Str->Option aA} {xs:List aA} {fI:aB} {oI:Obj} {Q:aA->aM->Prop} (hcl:h.get? C=some (excClassObj nm q C N bs bm hdct sn sub ab col dd k0 k1 k2 k3 k5 newId)) (hn:h.Ns N mN) (hi:mN "__init__"=some (.ref fI)) (hfI:h.get? fI=some oI) (hfc:oI.cls=.type "function") (hq:∀ h' e,Heap.MadeExcOf h h' e (.ref C) xs->wpAny (model pg w) (A.under (.builtin "type.__call__" ⟨.ref C::xs,[]⟩)) (call (.ref fI) (.ref e::xs)) (fun r s'=>r=.none/\Q (.ref e) s') E ⟨h',g,d,t,os⟩) (hxs:xs.length<=sizeLine) : wpAny (model pg w) A (call (.ref C) xs) Q E ⟨h,g,d,t,os⟩:=by
 have f1:=tc_lookup;have f2:=tc_bind (.ref C);have isT:(⟨h,g,d,t,os⟩:aM).TypeIs (.ref C) "type":=⟨_,hcl,rfl⟩;refine wpAny_call (codeAny_of_tree ?_); change wpAny _ _ (callAny (.ref C) _) _ _ _
 repeat (any_goals (first | assumption | with_reducible refine wpAny_loadPart_at hcl ?_ | wp_step))
 refine ⟨rfl,?_⟩;exact codeAny_call_builtin_at (Code.quiet_builtin _ (by decide +kernel)) entry_typeCall (wpAny_check_type_call_sub hcl (wU F T hcl hn hi hfI hfc (fun h' e hm=>hq h' e hm) hxs))
theorem Ip {M:Model} {s:aM} {env:Env} {x:Sem aA} {Q:Flow->aM->Prop} (hbase:bm.contains (.type "BaseException")=true) (hh:A.handled=none) (hx:wpAny M A x (fun v s₁=>∃ e a0 dx sl,v=.ref e/\s₁.heap.get? C=some (excClassObj nm q C N bs bm hdct sn sub ab col dd k0 k1 k2 k3 k5 newId) /\ s₁.heap.get? e=some { cls:=.ref C,dict:=dx,data:=.fields #[a0,.none,.none,.none,.bool false,.none],slots:=sl }/\E (.ref e) s₁) E s) : wpAny M A (raiseStmt env (some x) none) Q E s:=by
 have isB:(Value.ref C::bm).contains (.type "BaseException")=true:=by rw [List.contains_cons,hbase,Bool.or_true]
 unfold raiseStmt;refine aj (cM hx (fun v s₁ h₁=>?_) fun _ _ x=>x);obtain ⟨e,a0,dx,sl,rfl,hcl,he,hE⟩:=h₁;obtain ⟨hp,g1,d1,tk,o1⟩:=s₁
 repeat (first | with_reducible refine wpAny_loadPart_at he ?_ | with_reducible refine wpAny_loadPart_at hcl ?_ | (with_reducible refine wpAny_isSubtype_exc hcl ?_; rw [isB]) | wp_step)
 exact wpAny_raiseNew_none (E:=E) hh hE
end
def del (H:Hp) (e:aB):Hp:=fun b=>if b=e then none else H b
theorem nO {H:Hp} {e b:aB} (h:b≠e):del H e b=H b:=by unfold del; rw [if_neg h]
theorem Bh {H:Hp} {e:aB}:del H e e=none:=by unfold del; rw [if_pos rfl]
def jX (e C:aB) (dx:Option aB):HO:=.ext fun h=>∃ a0 sl,h.get? e=some { cls:=.ref C,dict:=dx,data:=.fields #[a0,.none,.none,.none,.bool false,.none],slots:=sl }
theorem zj {P:cg} {w:World} {H:Hp} {h:Heap} {e C:aB} {dx:Option aB} {a0:aA} {sl:Array (Option aA)} (he:h.get? e=some { cls:=.ref C,dict:=dx,data:=.fields #[a0,.none,.none,.none,.bool false,.none],slots:=sl }):eV P w H h e (jX e C dx) := ⟨⟨a0,sl,he⟩,⟨_,he⟩,fun _ _ ⟨a,l,y⟩ k=>⟨a,l,k _ y⟩⟩
section
variable {X:Cx} {pins:List (aB × Obj)} {σ:St} {H:Hp} {s:aM}
theorem Inv.Rq {e C:aB} {dx:Option aB} (I:Inv X pins σ H s) (he:H e=some (jX e C dx)):Inv X pins σ (del H e) s:=by
 have ne:∀ b u,H b=some u->(∀ φ,u≠.ext φ)->b≠e:=fun b u q n z=>by
  rw [z,he] at q;cases q;exact n _ rfl
 have:=I.un (t':=s.toks) (H':=del H e) (h':=s.heap) ⟨fun _ _ q _ _ _=>q,fun _ o q _ _ _=>⟨o.slots,q⟩,fun b _ _ n _=>by unfold del; split; rfl; exact n,fun b o q _=>⟨o,q⟩,fun b xs q=>by rw [nO (ne b _ q fun _ z=>by cases z)]; exact q,
  fun b o u q=>by rw [nO (ne b _ q fun _ z=>by cases z)]; exact q,fun b ps q=>⟨#[],by rw [nO (ne b _ q fun _ z=>by cases z),q]; simp⟩⟩ fun b u q=>by
   have hb:b≠e:=fun z=>by rw [z,Bh] at q; cases q
   rw [nO hb] at q;exact (I.hok b u q).stay (fun _ _ _ k=>k) (fun c k=>by rw [nO (ne c _ k fun _ z=>by cases z)]; exact k) fun c xs k=>by rw [nO (ne c _ k fun _ z=>by cases z)]; exact k
 exact this
end
theorem adY {K:Fg} {h:Heap} {N:aB} {m:Str->Option aA} {n:Str} {v:aA} (X:K.In h) (G:h.Ns N m) (e:nsIn K N n=some (some v)):m n=some v:=by
 obtain ⟨ob,es,ep,at_,dat,_,find⟩:=G;unfold nsIn at e
 split at e
 ·rename_i c dd es' k sl look
  have same:=(X _ _ look).symm.trans at_;cases same;cases dat
  split at e
  ·rename_i en got
   cases e;have z:=find n;unfold nsFind findBy at z;rw [<- Array.find?_toList,got] at z;exact z.symm
  ·split at e <;> cases e
 ·cases e
theorem Zw {K:Fg} {h:Heap} {f:aB} (X:K.In h) (e:typeIn K (.ref f)=some (.type "function")):∃ o,h.get? f=some o/\o.cls=.type "function":=by
 unfold typeIn at e;obtain ⟨o,ho,hc⟩:=bH.mp e;exact ⟨o,X _ _ ho,hc⟩
structure Zx (K:Fg) (C fI:aB) (bmB:List aA) (newId:String):Prop where
 ex:∃ dd nm bs up ns qn hd sn sub ab col a b c d f,K.lookup C=some ⟨.type "type",dd,.cls ⟨nm,bs,.ref C::up,ns,qn,hd,sn,sub,ab,col,false⟩,#[a,b,c,d,some (.builtin newId),f]⟩/\tailIn K bmB up=true/\nsOkIn K ns=true/\nsIn K ns "__init__"=some (some (.ref fI))
noncomputable def Rr (C:aB) (E:XK) (sp:Sp) (ta:TA):TS:=fun _ σ H=>ta σ H fun vs H1=>vs.length<=sizeLine/\∀ e,H1 e=none->sp (.ref e::vs) (upd H1 e (jX e C none)) (fun v H2=>v=.non/\∃ dx,H2 e=some (jX e C dx)/\E (.ref C) dx (del H2 e)) fun _ _ _=>False
section
variable {X:Cx} {E:XK} {x:Str} {C fI:aB} {fd:d9} {k:Nat} {ps:List Str} {sp:Sp} {bmB:List aA} {B newId initId:String} {np cpos pos:Pos} {e₀:Expr} {rest:List Expr} {ta:TA}
theorem oV (acc:rN X E) (hc:X.calm=true) (hg:Gl X x) (hm:X.mg x=some (.ref C)) (q:Zx X.K C fI bmB newId) (hfn:isFn X.K (.ref fI)=true) (FB:ExcBaseFacts B newId initId bmB) (F:cB X.prog X.w X.K X.mg X.base (fK X.prog X.w) k fI fd ps sp) (hr:eO (k + 1) X.A) (hb:Binds X.K fd ps []) (ha:PA X (e₀::rest) ta) (ex0:autoParam (X.ex=[]) zau0) (he:autoParam (starEach (e₀::rest) X.env=(false,eval e₀ X.env)::starEach rest X.env) zau0) (hpl:autoParam ((backTo cpos (starEach rest X.env)).any (·.1)=false) zau0) (hdb:autoParam ((x == ("__debug__":Str))=false) zau1) : PS X (.Raise (some (.Call (.Name x np) (e₀::rest) [] cpos)) none pos) (Rr C E sp ta):=by
 intro pins s σ H D I h;obtain ⟨dd,nm,bs,up,N,qn,hd,sn,sub,ab,col,a,b,c,d,f,look,tl,ok,ini⟩:=q.ex;have hC:=I.mod.Hz C _ look;have hN:=Heap.Ns.of_isNs (isNs_of_in I.mod.Hz ok);have T:=tail_of_in I.mod.Hz tl;have hty:typeIn X.K (.ref fI)=some (.type "function"):=beq_iff_eq.mp hfn;have hin:X.base.nsMap N "__init__"=some (.ref fI):=adY I.mod.Hz hN ini;rw [arm_exec_Raise];refine aj (wpAny_standAt (Ip (C:=C) (nm:=nm) (q:=qn) (N:=N) (bs:=bs) (bm:=up) (hdct:=hd) (sn:=sn) (sub:=sub) (ab:=ab) (col:=col) (dd:=dd) (k0:=a) (k1:=b) (k2:=c) (k3:=d) (k5:=f) (newId:=newId) (T.hasType FB.hasBase) (I.ok.hd hc) ?_));refine aj (cM (wpAny_Call_ofName (j5 I hg hm ?_ hdb)) (fun v s₃ h₃=>aj (wpAny_standAt (ak h₃))) fun _ _ z=>z);have hA:=ha cpos pins s σ H _ I h;rw [he] at hA ⊢;unfold callWith;refine aj (wpAny_holding (Calls.evalArgs_plain (eX hA fun us s2 h2=>aj (wpAny_standAt ?_))));obtain ⟨vs,H1,I1,rv,hz,hE⟩:=h2;have hall:((backTo cpos ((false,eval e₀ X.env)::starEach rest X.env)).any (·.1) || (backToKw cpos (keywordEach [] X.env)).any (·.1.isNone))=false:=by
  show ((false || (backTo cpos (starEach rest X.env)).any (·.1)) || false)=false
  rw [hpl];rfl
 obtain ⟨hp,g0,d0,tk,o0⟩:=s2;have hC1:=I1.bk _ _ hC;obtain ⟨oI,hfI,hfc⟩:=Zw I1.nj hty;simp only [hall];refine aj (wpAny_keeperOf_exc hC1 ?_);refine aj (Kw FB (T.keeps I1.bk) hC1 (hN.keeps I1.bk) hin hfI hfc (fun h' e hm'=>?_) (by show us.length<=sizeLine; rw [<- rv.length]; exact hz));have I2:Inv X pins σ H1 ⟨h',g0,d0,tk,o0⟩:=I1.kept (t':=tk) hm'.keeps;obtain ⟨t,hte,_,_⟩:=hm'.there;have lo:=I1.jH hm'.new;have hex:e ∉ X.ex:=by rw [ex0]; simp
 have I3:=I2.adopt (b:=e) (o:=jX e C none) lo hex (zj hte);have r2:Vals (V.ref e::vs) (Value.ref e::us):=.cons rfl rv;have hq:=hE e lo.1;have hl:(Value.ref e::us).length=ps.length:=by
  have z:=r2.length;rw [F.len _ _ _ _ hq] at z;exact z.symm
 have hbs:=hb ⟨h',g0,d0,tk,o0⟩ (Value.ref e::us) I3.nj (by rw [bZ]; exact hl);rw [bZ] at hbs;refine wpAny_call (cH (F.run _ X.stack _ _ ⟨Value.ref e::us,[]⟩ (Value.ref e::us) _ _ _ (hr.make C us []) (I3.env0.make C us []) hbs r2 hq) fun r s' hq'=>?_);cases r with
 | error ev =>
  obtain ⟨_,_,_,_,_,_,_,_,_,_,_,_,_,_,_,z⟩:=hq';exact z.elim
 | ok fl =>
  cases fl with
  | ret u =>
   obtain ⟨v,H',I4,rv',ev,dx,hx,hE'⟩:=I3.after hq';subst ev;obtain ⟨a0,sl,hoe⟩:=(show eV X.prog X.w H' s'.heap e (jX e C dx) from I4.hok e _ hx).1;refine ⟨rv',aj (wpAny_holding (wpAny_point (ak ⟨e,a0,dx,sl,rfl,I4.bk _ _ hC,hoe,?_⟩)))⟩;exact acc pins σ (del H' e) s' e (.ref C) dx (I4.Rq hx) ⟨none,⟨_,_,hoe,rfl,rfl,rfl,rfl⟩,⟨Bh,lo.2⟩,fun _ z=>nomatch z⟩ hE'
  | next=>exact False.elim hq'
  | brk=>exact False.elim hq'
  | cont=>exact False.elim hq'
end
section
variable {pg:cg} {w:World} {A:cW} {E:aA->aM->Prop} {h:Heap} {g:Array GenState} {d:Drawn} {os:OsState} {t:Nat}
variable {q nm:Str} {N C:aB} {bmB bm bs:List aA} {hdct:Bool} {sn:List Str} {sub:List aA} {ab:Bool} {col:Option Bool} {dd:Option aB} {k0 k1 k2 k3 k5:Option aA} {B newId initId:String}
theorem Ir (F:ExcBaseFacts B newId initId bmB) (T:OwnTail h bmB bm) {e:aB} {a0 v:aA} {dx:Option aB} {sl:Array (Option aA)} {Q:aA->aM->Prop} (hcl:h.get? C=some (excClassObj nm q C N bs bm hdct sn sub ab col dd k0 k1 k2 k3 k5 newId)) (he:h.get? e=some { cls:=.ref C,dict:=dx,data:=.fields #[a0,.none,.none,.none,.bool false,.none],slots:=sl }) (hq:∀ h' a1,(∀ b o,b≠e->h.get? b=some o->h'.get? b=some o)->h'.get? e=some { cls:=.ref C,dict:=dx,data:=.fields #[a1,.none,.none,.none,.bool false,.none],slots:=sl }->Q .none ⟨h',g,d,t,os⟩) : wpAny (model pg w) A (call (.builtin initId) [.ref e,v]) Q E ⟨h,g,d,t,os⟩:=by
 refine wpAny_call (codeAny_call_builtin F.init.plain F.initEntry (wpAny_check_init_subT F T hcl he rfl ?_))
 wp_walk
 have up:=he;cases a0 <;> first | refine wpAny_letGo (ak ?_) | refine ak (ak ?_)
 all_goals
  refine hq _ (.ref h.objs.size) (fun b o nb k=>?_) ?_
  ·rw [Heap.get?_update_other _ _ (Ne.symm nb)];exact au _ k
  ·rw [Heap.get?_update_self _ (au _ he) rfl];rfl
end
def Ky:List aA->Bool
 | [.type a,.type b,.type c,.type d]=>a == "ValueError" && b == "Exception" && c == "BaseException" && d == "object"
 | .ref _::r=>Ky r
 | _=>false
def zp (K:Fg) (C:aB):Bool:=(clsIn K C).any fun cd=>Ky cd.mro
theorem Gu:∀ {l:List aA},Ky l=true->l.contains (.type "object")=true/\∀ self,refuseLoop self "__setattr__" l=pure ()
 | [.type a,.type b,.type c,.type d],e=>by
  simp only [Ky,Bool.and_eq_true,beq_iff_eq] at e;obtain ⟨⟨⟨rfl,rfl⟩,rfl⟩,rfl⟩:=e;exact ⟨PySem.F.store_ValueError.hasOwner,PySem.F.store_ValueError.passes⟩
 | .ref c::r,e=>by
  have ih:=Gu (l:=r) (by simpa only [Ky] using e);exact ⟨by rw [List.contains_cons,ih.1,Bool.or_true],fun self=>by rw [refuseLoop_ref]; exact ih.2 self⟩
theorem Zy {prog:cg} {w:World} {A:cW} {s:aM} {K:Fg} {x C:aB} {v:aA} {R:Result->aM->Prop} {ox:Obj} {name:Str} {tk:Tok} (X:K.In s.heap) (I:InstAt s.heap x ox C none) (hp:zp K C=true) (ht:takerIn K C name=some none) (h:∀ b,wpAny (model prog w) A.in1 (Builtin.ObjectAttr.storeInOwnDict (.ref x) (.ref C) (.str name tk) name v b) (fun fin s'=>match fin with | .done g=>R (.ok g) s' | .again c'=>c'.quiet=true/\codeAny (model prog w) A c' R s') (fun e s'=>R (.error e) s') s):codeAny (model prog w) A (.call (.builtin "object.__setattr__") ⟨[.ref x,.str name tk,v],[]⟩) R s:=by
 have F0:=PySem.F.store_object;obtain ⟨cd,hc,ho⟩:=any_some hp;obtain ⟨has,pass⟩:=Gu ho;have full:cd.mro.isEmpty=false:=by
  cases q:cd.mro with
  | nil=>rw [q] at has; cases has
  | cons _ _=>rfl
 have isObj:mroIn K C (.type "object")=some true:=by
  show (clsIn K C).bind _=_
  rw [hc,Option.bind_some,if_neg (by rw [full]; decide),has]
 have sub:Looks (model prog w) s.heap (isInstance (.ref x) (.type "object")) true:=I.type.andThen (PySem.W.looks_mroIn X isObj);refine codeAny_call_builtin F0.slot.plain F0.entry (@PySem.W.check_slot (model prog w) _ _ s "object.__setattr__" "object" "__setattr__" (.ref x) [.str name tk,v] [] _ F0.kind F0.split sub (F0.args (.ref x) (.str name tk) v) (?_));obtain ⟨attr,ha,hq⟩:=Option.bind_eq_some_iff.mp ht;have mro:Looks (model prog w) s.heap (mroOf (.ref C)) cd.mro:=(looks_clsIn X hc).andThen .now;have taker:Looks (model prog w) s.heap (Builtin.ObjectAttr.storeTaker? attr) none:=by
  cases attr with
  | none=>exact .now
  | some a =>
   obtain ⟨b,hb,eb⟩:=bH.mp hq;refine (PySem.W.looks_takesIn X hb).andThen ?_;cases b with
   | true=>cases eb
   | false=>exact .now
 rw [PySem.W.osa_eq,refuse_eq];refine aj (aj (I.type.here (aj (mro.here (by
  rw [pass];exact ak (aj (I.type.here (aj ((looks_findIn X ha).here (aj (taker.here (h _))))))))))))
section
variable {prog:cg} {w:World} {A:cW} {E:aA->aM->Prop} {s:aM} {K:Fg} {e C:aB} {name:Str} {v:aA}
theorem Rt {a0:aA} {sl:Array (Option aA)} {Q:Unit->aM->Prop} (X:K.In s.heap) (he:s.heap.get? e=some { cls:=.ref C,dict:=none,data:=.fields #[a0,.none,.none,.none,.bool false,.none],slots:=sl }) (hs:findIn K (.ref C) "__setattr__"=some (some (.builtin "object.__setattr__"))) (hp:zp K C=true) (ht:takerIn K C name=some none) (hh:hasDictIn K C=true) (h:∀ h' tk,(∀ b o,b≠e->s.heap.get? b=some o->h'.get? b=some o)->h'.get? e=some { cls:=.ref C,dict:=some s.heap.objs.size,data:=.fields #[a0,.none,.none,.none,.bool false,.none],slots:=sl } -> h'.Ns1 s.heap.objs.size (fun y=>if y=name then some v else none)->Q () { s with heap:=h',toks:=tk }) : wpAny (model prog w) A (setAttr (.ref e) name v) Q E s:=by
 have J:InstAt s.heap e { cls:=.ref C,dict:=none,data:=.fields #[a0,.none,.none,.none,.bool false,.none],slots:=sl } C none:=⟨he,rfl,rfl,trivial⟩;refine set_plain X J hs (Zy (s:={ s with toks:=s.toks + 1 }) X J hp ht fun b=>?_);obtain ⟨cd,hc,hd'⟩:=any_some hh;refine aj (ak (aj (aj (wpAny_loadPart he (aj (Looks.here (s:={ s with toks:=s.toks + 1 }) (looks_clsIn X hc) ?_))))));rw [hd'];have he1:(s.heap.push { cls:=.type "dict",data:=.dict #[] }).get? e=some { cls:=.ref C,dict:=none,data:=.fields #[a0,.none,.none,.none,.bool false,.none],slots:=sl }:=au _ he;have hes:e≠s.heap.objs.size:=Nat.ne_of_lt (Heap.lt_size he);obtain ⟨h0,g0,d0,t0,o0⟩:=s;refine aj (wpAny_alloc' (aj (wpAny_update' he1 (ak ?_))))
 let hU:Heap:=(h0.push { cls:=.type "dict",data:=.dict #[] }).update e fun o=>{ cls:=o.cls,dict:=some h0.objs.size,data:=o.data,slots:=o.slots }
 have hgd:hU.get? h0.objs.size=some { cls:=.type "dict",data:=.dict #[] }:=(Heap.get?_update_ne _ _ _ _ hes.symm).trans (Heap.get?_push_at rfl rfl);have hnd:hU.Ns h0.objs.size (fun _=>none):=⟨_,#[],_,hgd,rfl,fun e he=>absurd he (by simp),fun _=>rfl⟩;have hue:hU.get? e=some { cls:=.ref C,dict:=some h0.objs.size,data:=.fields #[a0,.none,.none,.none,.bool false,.none],slots:=sl }:=Heap.get?_update_self _ he1 rfl;refine aj (ak (aj (wpAny_nsSet1 (s:=⟨hU,g0,d0,t0 + 1,o0⟩) (Heap.Ns1.of_empty hnd) fun h' hn' hs'=>?_)));obtain ⟨ob,es,ep,hob,hdat,aiI⟩:=hn'.count (Within.cons name v Within.nil);refine aj (wpAny_lookBehind hob (by rw [hdat]; exact pastItsLine_dict (bw aiI (by rw [length_cons,length_nil,sizeLine_eq]; omega))) ?_);refine ak (h h' _ (fun b o nb k=>?_) ((hs'.2 e hes).trans hue) hn');exact (hs'.2 b (Nat.ne_of_lt (Heap.lt_size k))).trans ((Heap.get?_update_ne _ _ _ _ nb).trans (au _ k))
end
theorem Inv.Ru {X:Cx} {pins:List (aB × Obj)} {σ:St} {H:Hp} {s:aM} {e C:aB} {dx:Option aB} {h':Heap} {t':Nat} {a1:aA} {sl:Array (Option aA)} (I:Inv X pins σ H s) (he:H e=some (jX e C dx)) (k:∀ b o,b≠e->s.heap.get? b=some o->h'.get? b=some o) (new:h'.get? e=some { cls:=.ref C,dict:=dx,data:=.fields #[a1,.none,.none,.none,.bool false,.none],slots:=sl }):Inv X pins σ H { s with heap:=h',toks:=t' }:=by
 have ne:∀ b,H b=none->b≠e:=fun b n z=>by rw [z,he] at n; cases n
 refine I.un (t':=t') (H':=H) ⟨fun b o q n _ _=>k b o (ne b n) q,fun b o q n _ _=>⟨o.slots,k b o (ne b n) q⟩,fun _ _ _ n _=>n,fun b o q _=>?_,fun _ _ q=>q,fun _ _ _ q=>q,fun _ ps q=>⟨#[],by rw [q]; simp⟩⟩ fun b u q=>?_
 ·by_cases z:b=e
  ·rw [z]; exact ⟨_,new⟩
  ·exact ⟨o,k b o z q⟩
 ·by_cases z:b=e
  ·subst z;rw [he] at q;cases q;exact zj new
  ·refine (I.hok b u q).stay (fun c o hc r=>k c o ?_ r) (fun _ r=>r) fun _ _ r=>r
   rcases hc with rfl | hc
   ·exact z
   ·intro y;rw [y,he] at hc;cases hc
structure adZ (K:Fg) (G:aB) (id:String):Prop where
 rd:readsIn K G (.type "type")=true
 ga:specialIn K (.ref G) "__getattribute__"=some (some (.builtin "type.__getattribute__"))
 at_:findCls K (.ref G) (.type "type") "__init__"=some (.val (.builtin id))
 hd:handedIn (.builtin id)=true
def Zz (C:aB) (ta:TA):TE:=fun σ H Q=>ta σ H fun vs H1=>∃ e v dx,vs=[.ref e,v]/\H1 e=some (jX e C dx)/\Q .non H1
section
variable {X:Cx} {x:Str} {G C fI:aB} {bmB:List aA} {B newId initId:String} {p pos apos:Pos} {e:Expr} {es:List Expr} {t:TA}
theorem Kz {pl:Sem Bool} (hx:X.mg x=some (.ref G)) (hm:adZ X.K G initId) (q:Zx X.K C fI bmB newId) (FB:ExcBaseFacts B newId initId bmB) (ha:PA X (e::es) t) (hg:autoParam (Gl X x) zau0) (hdb:autoParam ((x == ("__debug__":Str))=false) zau1) (hst:autoParam (starEach (e::es) X.env=(false,eval e X.env)::starEach es X.env) zau0) (hpl:autoParam ((backTo pos (starEach es X.env)).any (·.1)=false) zau0) (ht:autoParam (eval (.Call (.Attribute (.Name x p) "__init__" apos) (e::es) [] pos) X.env=(do
   let ov <- eval (.Name x p) X.env
   standAt apos.atName
   let (f,first) <- holding [ov] (getMethod ov "__init__" pl)
   callWith pos f first (backTo pos (starEach (e::es) X.env)) (backToKw pos (keywordEach [] X.env)))) zau0) :
  PE X (.Call (.Attribute (.Name x p) "__init__" apos) (e::es) [] pos) (Zz C t):=by
 intro pins s σ H Q I h;refine methodCall_KW (pl:=pl) (j5 I hg hx ?_ hdb) ht;refine method_cls I.nj hm.ga (cls_value I.nj hm.rd hm.at_ hm.hd ?_);have I1:=I.tok (s.toks + 1);refine callWith_builtin1 (eX (ha pos pins _ σ H _ I1 h) fun us s2 ⟨vs,H2,I2,r,e',v,dx,ev,he,q2⟩=>?_) hst hpl;subst ev;obtain ⟨u1,u2,rfl,r1,r2⟩:=Vals.two r;obtain rfl:u1=Value.ref e':=r1;obtain ⟨dd,nm,bs,up,N,qn,hd,sn,sub,ab,col,a,b,c,d,f,look,tl,ok,ini⟩:=q.ex;obtain ⟨a0,sl,hoe⟩:=(show eV X.prog X.w H2 s2.heap e' (jX e' C dx) from I2.hok e' _ he).1;obtain ⟨hp,g0,d0,tk,o0⟩:=s2;refine Ir FB ((tail_of_in I2.mod.Hz tl).keeps I2.bk) (I2.bk _ _ (I2.mod.Hz C _ look)) hoe fun h' a1 k new=>?_
 exact ⟨.non,H2,I2.Ru (t':=tk) he k new,rfl,q2⟩
end
def ad0 (te:TE):TE:=fun σ H Q=>te σ H fun x H1=>∃ i,x=.int i/\i.natAbs.log2 < 100/\∀ z,Q (.str z) H1
theorem Rv {X:Cx} {a b:Str} {k1 k3:Nat} {p1 p2 p3 pos:Pos} {e:Expr} {te:TE} (he:PE X e te) (la:autoParam (a.length<=1000) zau4) (lb:autoParam (b.length<=1000) zau4) : PE X (.JoinedStr [.Constant (.str a) k1 p1,.FormattedValue e (-1) none p2,.Constant (.str b) k3 p3] pos) (ad0 te):=by
 intro pins s σ H Q I h;have big:10000<=sizeLine:=by decide
 have l0:(Str.empty++a).length=a.length:=by rw [strLen_append]; exact Nat.zero_add _
 refine JoinedStr_many (joinParts_cons (Calls.Constant_str ⟨by rw [l0]; omega,joinParts_cons (FormattedValue_plain (eX (he pins _ σ H _ (I.tok _) h) fun u s1 ⟨x,H1,I1,r,i,ex,li,q⟩=>?_))⟩));subst ex;obtain ⟨tk,rfl⟩:=r;have lt:(Str.ofString (toString i)).length<=101:=by
  have:=int_text_length_le (a:=i) (k:=100) (by decide) li;rw [PySem.ofString_length];exact this
 refine formatField_int_small (by omega) ⟨by rw [strLen_append,l0]; show a.length + (Str.ofString (toString i)).length<=sizeLine; omega,joinParts_cons (Calls.Constant_str ⟨by rw [strLen_append,strLen_append,l0]; show a.length + (Str.ofString (toString i)).length + b.length<=sizeLine; omega,joinParts_nil ?_ (by rw [strLen_append,strLen_append,l0]; show a.length + (Str.ofString (toString i)).length + b.length<=sizeLine; omega)⟩)⟩;exact ⟨.str _,H1,I1.tok _,⟨_,rfl⟩,q _⟩
structure ad1 (K:Fg) (C:aB) (f:Str):Prop where
 hs:findIn K (.ref C) "__setattr__"=some (some (.builtin "object.__setattr__"))
 hp:zp K C=true
 ht:takerIn K C f=some none
 hh:hasDictIn K C=true
noncomputable def aiJ (K:Fg) (ta tv:TE) (f:Str):TS:=fun D σ H=>tv σ H fun y H1=>ta σ H1 fun x H2=>∃ e C,x=.ref e/\H2 e=some (jX e C none)/\ad1 K C f/\∀ dx,H2 dx=none->D.nx σ (upd (upd H2 dx (.xd [(f,y)])) e (jX e C (some dx)))
theorem ZC {X:Cx} {o value:Expr} {f:Str} {ta tv:TE} {pos pos':Pos} (ha:PE X o ta) (hv:PE X value tv) (hs:swapsWith value (some (.Attribute o f pos')) pos.line X.env=pure false):PS X (.Assign [.Attribute o f pos'] value pos) (aiJ X.K ta tv f):=by
 intro pins s σ H D I h;refine plainObj_wpAny_Assign_Attribute (eX (hv pins s σ H _ I h) fun u s1 ⟨y,H1,I1,ry,q⟩=>eX (ha pins s1 σ H1 _ I1 q) fun ov s2 ⟨x,H2,I2,rx,e,C,ex,he,ca,q2⟩=>?_) hs;subst ex;obtain rfl:ov=Value.ref e:=rx;obtain ⟨a0,sl,hoe⟩:=(show eV X.prog X.w H2 s2.heap e (jX e C none) from I2.hok e _ he).1;refine Rt I2.nj hoe ca.hs ca.hp ca.ht ca.hh fun h' tk k new nd=>?_
 have hn:H2 s2.heap.objs.size=none:=I2.hok.fresh (aJ _);have nde:s2.heap.objs.size≠e:=fun z=>by rw [z,he] at hn; cases hn
 have ne1:∀ b,H2 b=none->b≠e:=fun b n z=>by rw [z,he] at n; cases n
 have ned:∀ b u,H2 b=some u->b≠s2.heap.objs.size:=fun b u q z=>by rw [z,hn] at q; cases q
 have nee:∀ b u,H2 b=some u->(∀ φ,u≠.ext φ)->b≠e:=fun b u q n z=>by
  rw [z,he] at q;cases q;exact n _ rfl
 have I3:=I2.un (t':=tk) (H':=upd (upd H2 s2.heap.objs.size (.xd [(f,y)])) e (jX e C (some s2.heap.objs.size))) ⟨fun b o q n _ _=>k b o (ne1 b n) q,fun b o q n _ _=>⟨o.slots,k b o (ne1 b n) q⟩,
  fun b o q n _=>by rw [bA (ne1 b n),bA (Nat.ne_of_lt (Heap.lt_size q))]; exact n,fun b o q _=>by
   by_cases z:b=e
   ·rw [z]; exact ⟨_,new⟩
   ·exact ⟨o,k b o z q⟩,
  fun b xs q=>by rw [bA (nee b _ q fun _ z=>by cases z),bA (ned b _ q)]; exact q,fun b o u q=>by rw [bA (nee b _ q fun _ z=>by cases z),bA (ned b _ q)]; exact q,
  fun b ps q=>⟨#[],by rw [bA (nee b _ q fun _ z=>by cases z),bA (ned b _ q),q]; simp⟩⟩ fun b u q=>by
   by_cases z:b=e
   ·subst z;rw [aF] at q;cases q;exact zj new
   ·rw [bA z] at q
    by_cases z2:b=s2.heap.objs.size
    ·subst z2;rw [aF] at q;cases q;refine ⟨_,nd,fun f'=>?_⟩
     by_cases ef:f'=f
     ·subst ef;have:([(f',y)]:List (Str × V)).lookup f'=some y:=by simp [List.lookup]
      rw [this,if_pos rfl];exact ry
     ·have:([(f,y)]:List (Str × V)).lookup f'=none:=by
       have z:(f' == f)=false:=by simpa using ef
       simp [List.lookup,z]
      rw [this,if_neg ef];trivial
    ·rw [bA z2] at q;refine (I2.hok b u q).stay (fun c o hc r=>k c o ?_ r) (fun c r=>by rw [bA (nee c _ r fun _ z=>by cases z),bA (ned c _ r)]; exact r) fun c xs r=>by rw [bA (nee c _ r fun _ z=>by cases z),bA (ned c _ r)]; exact r
     rcases hc with rfl | hc
     ·exact z
     ·exact nee c _ hc fun _ z=>by cases z
 exact ⟨σ,_,I3,q2 _ hn⟩
section
variable {prog:cg} {w:World} {A:cW} {E:aA->aM->Prop} {s:aM} {K:Fg} {e C:aB} {oe od:Obj} {name:Str} {v:aA}
end
section
variable {X:Cx} {pins:List (aB × Obj)} {σ:St} {H:Hp} {s:aM}
end
section
variable {X:Cx}
end
theorem Iu {prog:cg} {w:World} {A:cW} {it l:aB} {xs:Array aA} {tu:Bool} (f:Nat) (hh:A.handled=none) (ne:l≠it) : PySem.Draws prog w A it [it,l] (f + xs.size) (fun j v=>xs[j - f]?=some v) (fun j h=>f<=j/\Over h it l xs (j - f) tu) where
 live:=fun _ _ st=>st.2.Kh
 frame:=fun _ _ _ st hk=>⟨st.1,Du _ _ st.2 hk⟩
 item:=fun j s Q E lt0 st hQ=>by
  have lt:j - f < xs.size:=by omega
  refine Dv ne (Array.getElem?_eq_getElem lt) s Q E st.2 fun h' o' sb=>hQ _ h' s.toks (Array.getElem?_eq_getElem lt) ⟨by omega,?_⟩ sb
  rw [show j + 1 - f=j - f + 1 by omega];exact o'
 done:=fun s Q E st hE=>xM (k:=f + xs.size - f) (by rw [Nat.add_sub_cancel_left]; simp) hh s Q E st.2 fun h' e x y=>hE h' e x y
def SqB (K:Fg) (tu:Bool) (H:Hp) (l:aB) (xs:List V):Prop:=match tu with
 | false=>cU K H l xs
 | true=>gY K H l xs
def Bj (tu:Bool) (h:Heap) (it l:aB) (i:Nat):Prop:=match tu with
 | false=>h.IsListIter it l i
 | true=>h.IsTupleIter it l i
noncomputable def Itx (K:Fg) (tu:Bool) (f:Nat) (l:aB):It := ⟨fun i H=>∃ xs x,SqB K tu H l xs/\xs[i]?=some x,fun i H v H'=>∃ T,H T=none/\v=.ref T/\∀ xs x,SqB K tu H l xs->xs[i]?=some x->H'=upd H T (.tup [.int (f + i:Nat),x]),fun i H=>∃ xs,SqB K tu H l xs/\xs.length<=i⟩
structure Bk (tu:Bool) (f:Nat) (e it l:aB) (i:Nat) (h:Heap):Prop where
 cell:∃ old,IsEnum h e it ((f + i:Nat):Int) old
 one:Bj tu h it l i
theorem Bj.obj {tu:Bool} {h:Heap} {it l:aB} {i:Nat} (o:Bj tu h it l i):∃ ob vs,h.get? it=some ob/\ob.data=.fields vs:=by
 cases tu with
 | false=>obtain ⟨ob,q,_,d⟩:=o; exact ⟨ob,_,q,d⟩
 | true=>obtain ⟨ob,q,_,d⟩:=o; exact ⟨ob,_,q,d⟩
theorem Bj.stays {tu:Bool} {h h':Heap} {it l:aB} {i:Nat} (o:Bj tu h it l i) (k:∀ ob,h.get? it=some ob->h'.get? it=some ob):Bj tu h' it l i:=by
 cases tu with
 | false=>obtain ⟨ob,q,r⟩:=o; exact ⟨ob,k ob q,r⟩
 | true=>obtain ⟨ob,q,r⟩:=o; exact ⟨ob,k ob q,r⟩
theorem over_of {X:Cx} {pins:List (aB × Obj)} {σ:St} {H:Hp} {s:aM} {tu:Bool} {l it:aB} {xs:List V} {i:Nat} (I:Inv X pins σ H s) (sx:SqB X.K tu H l xs) (o:Bj tu s.heap it l i):∃ its:List aA,Vals xs its/\Over s.heap it l its.toArray i tu/\l≠it:=by
 cases tu with
 | false =>
  obtain ⟨its,v,p,_⟩:=I.list sx;refine ⟨its,v,.lst o p.isList,fun z=>?_⟩;obtain ⟨o1,q1,c1,_⟩:=o;obtain ⟨o2,q2,c2,_⟩:=p.isList;rw [z,q1] at q2;cases q2;rw [c1] at c2;exact absurd (Value.type.inj c2) (by decide)
 | true =>
  obtain ⟨its,v,p,_⟩:=I.tuple sx;refine ⟨its,v,.tup o p,fun z=>?_⟩;obtain ⟨o1,q1,c1,_⟩:=o;obtain ⟨o2,q2,c2,_⟩:=p;rw [z,q1] at q2;cases q2;rw [c1] at c2;exact absurd (Value.type.inj c2) (by decide)
theorem Over.on {h:Heap} {it l:aB} {xs:Array aA} {k:Nat} {tu:Bool} (o:Over h it l xs k tu):Bj tu h it l k:=by
 cases o with
 | lst a _=>exact a
 | tup a _=>exact a
theorem Rw {X:Cx} {pins:List (aB × Obj)} {σ:St} {H:Hp} {s:aM} {tu:Bool} {l:aB} {xs ys:List V} (I:Inv X pins σ H s) (h:SqB X.K tu H l xs) (h':SqB X.K tu H l ys):xs=ys:=by
 cases tu with
 | false=>exact I.Ab h h'
 | true=>exact I.HB h h'
theorem Dz {P:cg} {w:World} {K:Fg} {elts:List Expr} {k:Nat} {pos:Pos} {e it l:aB} {tu:Bool} {f:Nat} (ne:e≠it) (nl:e≠l):Turn P w K (.Tuple elts k pos) (Itx K tu f l) [e,it] e (Bk tu f e it l) where
 mem:=by simp
 obj:=fun i h R c hc=>by
  obtain ⟨old,q0⟩:=R.cell;obtain ⟨o1,vs,q1,d1⟩:=R.one.obj;simp only [aQ,not_mem_nil,or_false] at hc;rcases hc with rfl | rfl
  ·exact ⟨_,q0,fun v q=>by cases q⟩
  ·exact ⟨o1,q1,fun v q=>by rw [d1] at q; cases q⟩
 keep:=fun i h h' R kp=>by
  obtain ⟨old,q0⟩:=R.cell;exact ⟨⟨old,kp e (by simp) _ q0⟩,R.one.stays (kp it (by simp))⟩
 item:=by
  intro X hP hw hK hc i pins s σ H E I hf R go;subst hP hw hK;obtain ⟨xs,x,sx,hx⟩:=go;obtain ⟨its,v1,ov,lne⟩:=over_of I sx R.one;obtain ⟨ux,gx,rx⟩:=v1.get hx;obtain ⟨old,q0⟩:=R.cell;have fr:s.heap.get? s.heap.objs.size=none:=Heap.get?_none_of_le (aJ _);have there:∀ c ∈ [e,it],∃ o,s.heap.get? c=some o:=fun c hc=>by
   obtain ⟨o1,_,q1,_⟩:=R.one.obj;simp only [aQ,not_mem_nil,or_false] at hc;rcases hc with z | z <;> rw [z]
   ·exact ⟨_,q0⟩
   ·exact ⟨_,q1⟩
  have elt:s.heap.objs.size≠e:=Nat.ne_of_gt (Heap.lt_size q0);have li:i < its.toArray.size:=by
   rw [size_toArray];exact (aN.mp gx).1
  refine wpAny_pyNext_enum_itemD (Iu f (I.ok.hd hc) lne) (i:=f + i) q0 ⟨Nat.le_add_right _ _,by rw [Nat.add_sub_cancel_left]; exact ov⟩ (by omega) ne (by simp [ne,nl]) fun x' h1 tk hx1 c1 st1 pr _ past=>⟨.ref s.heap.objs.size,rfl,wpAny_letOwnedTupleGo_enum (s:={ s with heap:=h1,toks:=tk + 1 }) c1 fun h2 c2 sb=>?_⟩
  have ex:x'=ux:=by
   rw [Nat.add_sub_cancel_left] at hx1;have:its[i]?=some x':=by simpa using hx1
   rw [gx] at this;exact Eq.symm (bU this)
  subst ex;have pr2:=sb.extBut _ _ elt pr;refine ⟨.ref s.heap.objs.size,upd H s.heap.objs.size (.tup [.int (f + i:Nat),x]),Inv.drawn (h':=h2) (t':=tk + 1) (ch:=[e,it]) (s:=s) I hf (fun c o out q=>?_) fr ⟨Rk,[.int (f + i:Nat) tk,x'],.cons ⟨_,rfl⟩ (.cons rx .nil),⟨_,pr2,rfl,_,rfl⟩⟩,rfl,⟨_,I.hok.none_of fr,rfl,fun xs' x2 sx' hx'=>?_⟩,⟨⟨x',c2⟩,?_⟩,fun c hc=>?_⟩
  ·simp only [aQ,not_mem_nil,or_false,not_or] at out;exact sb.extBut c o out.1 (past c o out.1 out.2 q)
  ·have e1:=Rw I sx' sx;subst e1;rw [hx] at hx';cases hx'; rfl
  ·have o2:=st1.2;rw [show f + i + 1 - f=i + 1 by omega] at o2;exact o2.on.stays fun ob q=>sb.extBut _ _ (Ne.symm ne) q
  ·obtain ⟨o,q⟩:=there c hc;rw [bA (fun z=>by rw [z,fr] at q; cases q)];exact (hf c hc).1
 done:=by
  intro X hP hw hK hc i pins s σ H E I hf R stop;subst hP hw hK;obtain ⟨xs,sx,le⟩:=stop;obtain ⟨its,v1,ov,lne⟩:=over_of I sx R.one;obtain ⟨old,q0⟩:=R.cell;have l1:=v1.length;have none_:its.toArray[i]?=none:=by simp; omega
  have hT:s.TypeIs (.ref e) "enumerate":=⟨_,q0,rfl⟩;refine aj (wpAny_attempt (wpAny_callSpecial?_slot (name:=Str.ofString "__next__") hT PySem.F.slot_enumerate_next (wpAny_call_entry PySem.F.slot_enumerate_next hT PySem.F.entry_enumerate_next ?_ (PySem.F.args_enumerate_next_1 _))));refine aj (m:=field (.ref e) 2) (wpAny_field q0 rfl (x:=.ref it) rfl (aj (xM none_ (show X.A.in1.handled=none from I.ok.hd hc) _ _ _ ov fun h' x past hx=>?_)));obtain ⟨o,ho,ho2⟩:=hx;refine aj (wpAny_isInstance (T:="StopIteration") (b:=true) ⟨o,ho,ho2⟩ isSubtype_stop (ak ⟨rfl,I.turns (t':=s.toks) (ch:=[e,it]) hf fun c o' out q=>?_⟩));simp only [aQ,not_mem_nil,or_false,not_or] at out;exact past c o' out.2 q
 self:=fun _ _ _ _ _ R q=>by
  obtain ⟨old,q0⟩:=R.cell;exact wpAny_pyIter_enum q0 q
theorem Rx {T newId:String} {o a u:aA} {k:Str} (hl:typeLookup (.type T) "__init__"=pure (some (.builtin "object.__init__"))) (hm:Bind.madeBy (.type T)=pure (some newId)) (hne:(some newId != some "object.__new__")=true) : Meets (Builtin.«object.__init__» ⟨[o,a],[(k,u)]⟩) (fun _ R s=>s.TypeIs o T/\R (.ok (.ret .none)) s) := .of_wp fun prog w A R s hs=>by
 obtain ⟨ty,q⟩:=hs
 repeat any_goals first | assumption | wp_step
 exact ⟨_,rfl,q⟩
def uF (it:aB) (f:Nat):Obj:={ cls:=.type "enumerate",data:=.fields #[.none,.bool false,.ref it,rawInt f,.none,.none] }
theorem KC (a u:aA):checkTypeCall "enumerate" ⟨[a],[(Str.ofString "start",u)]⟩=pure ():=by kernel_rfl
theorem KD (a u:aA):checkBuiltinCall "enumerate.__new__" ⟨[.type "enumerate",a],[(Str.ofString "start",u)]⟩=pure ():=by kernel_rfl
theorem KJ (o a u:aA):argsOk "object.__init__" ⟨[o,a],[(Str.ofString "start",u)]⟩:=by
 unfold argsOk; rw [signature?_of (id:="object.__init__") (n:=['_','_','t','i','n','i','_','_']) (o:=['t','c','e','j','b','o']) (by kernel_rfl) PySem.F.owner_object]; kernel_rfl
section
variable {prog:cg} {w:World} {A:cW} {E:aA->aM->Prop} {s:aM}
theorem KN {T newId:String} {Bn:Builtin} {a u:aA} {k:Str} {S:PySem.Spec} {Q:aA->aM->Prop} (ft:TypeCalled T newId "object.__init__") (hne:(some newId != some "object.__new__")=true) (hct:checkTypeCall T ⟨[a],[(k,u)]⟩=pure ()) (hcn:checkBuiltinCall newId ⟨[.type T,a],[(k,u)]⟩=pure ()) (hok:∀ o,argsOk "object.__init__" ⟨[o,a],[(k,u)]⟩) (entryN:entryFor table newId=some Bn) (g:Meets (Bn ⟨[.type T,a],[(k,u)]⟩) S) (h:S A.in1 (wants (fun o s₁=>s₁.TypeIs o T/\Q o s₁) E) s):wpAny (model prog w) A (call (.type T) [a] [(k,u)]) Q E s:=by
 obtain ⟨cl,tl,hmro⟩:=ft.mro;have hmade:=ft.made;have hsub:=ft.sub;refine wpAny_call (codeAny_of_tree ?_); change wpAny _ _ (callAny (.type T) _) _ _ _;refine ak (And.intro (Code.quiet_builtin _ (by decide +kernel)) (codeAny_builtin PySem.F.entry_type_call ?_));rw [Around.under_plain (weight_type_call_type T [a] [(k,u)]) (units_type_call_type T [a] [(k,u)])];have h1:=ft.notType;have h2:=ft.canCreate;have w1:=g prog w A.in1 _ s h
 repeat any_goals first | assumption | wp_step
 refine cH (codeAny_call_builtin ft.plain entryN (wpAny_of_eq hcn w1)) fun r s₁ hr=>?_
 rcases r with e | fl
 ·exact hr
 cases fl with
 | ret o =>
  have hli:=ft.init.lookup;have hbi:=ft.init.bind o;have w2:=Rx (o:=o) (a:=a) (u:=u) (k:=k) ft.init.lookup ft.made hne prog w A.in1 (wants (fun r s₂=>r=.none/\Q o s₂) E) s₁ ⟨hr.1,rfl,hr.2⟩;have hT:=hr.1
  repeat any_goals first | assumption | wp_step
  refine cH (codeAny_call_builtin ft.init.plain PySem.F.entry_object_init (ft.init.check _ _ _ _ _ _ _ _ hT (hok o) w2)) fun r₂ s₂ hr₂=>?_
  rcases r₂ with e | fl₂
  ·exact hr₂
  cases fl₂ with
  | ret r =>
   obtain ⟨rfl,hq⟩:=hr₂
   repeat any_goals first | assumption | wp_step
  | _=>exact hr₂.elim
 | _=>exact hr.elim
end
theorem Iv (l:aB) (xs:Array aA) (f:Nat) (t:Tok) (hf:Builtin.SmallTypes.fitsIndex (f:Int)=true):Meets (Builtin.«enumerate.__new__» ⟨[.type "enumerate",.ref l],[(Str.ofString "start",.int (f:Int) t)]⟩) (fun _ R s=>s.heap.IsList l xs/\R (.ok (.ret (.ref (s.heap.objs.size + 1)))) { s with heap:=(s.heap.push (zip2 l)).push (uF s.heap.objs.size f) }) := .of_wp fun prog w A R s h=>by
 obtain ⟨hp,gs,dr,tk,oss⟩:=s; obtain ⟨q1,r⟩:=h;have sub:=sub_enumerate;have q1':Heap.IsList (Shared.heap ⟨hp,gs,dr,tk,oss⟩) l xs:=q1
 wp_walk using wpAny_pyIter_list q1'
 refine wpAny_stack_any fun _=>ak ?_
 have e1:(hp.push { cls:=.type "list_iterator",data:=.fields #[.ref l,.int 0 0] }).objs.size=hp.objs.size + 1:=Heap.size_push _ _;generalize (Builtin.SmallTypes.fitsIndex:Int->Bool)=fits at hf ⊢
 split
 ·rename_i cl _ _ _ _ _
  cases (cl == Value.type "enumerate") <;> (wp_walk using wpAny_pyIter_list q1'; refine ⟨_,rfl,?_⟩; rw [e1]; exact r)
 ·wp_walk using wpAny_pyIter_list q1'
  refine ⟨_,rfl,?_⟩;rw [e1];exact r
section
variable {prog:cg} {w:World} {A:cW} {E:aA->aM->Prop} {s:aM}
theorem Ry {h:Heap} {o:Obj} {f:Nat} (hf:o.isFreed=false):((h.push o).push (uF h.objs.size f)).get? (h.objs.size + 1)=some (uF h.objs.size f)/\((h.push o).push (uF h.objs.size f)).get? h.objs.size=some o:=by
 have z:(h.push o).objs.size=h.objs.size + 1:=Heap.size_push _ _;refine ⟨?_,au _ (aC _ hf)⟩;rw [<- z];exact aC _ rfl
theorem DG {l:aB} {xs:Array aA} {f:Nat} {t:Tok} {Q:aA->aM->Prop} (hf:Builtin.SmallTypes.fitsIndex (f:Int)=true) (hl:s.heap.IsList l xs) (q:∀ h',Bk false f (s.heap.objs.size + 1) s.heap.objs.size l 0 h'->(∀ b o,s.heap.get? b=some o->h'.get? b=some o)->Q (.ref (s.heap.objs.size + 1)) { s with heap:=h' }) : wpAny (model prog w) A (call (.type "enumerate") [.ref l] [(Str.ofString "start",.int (f:Int) t)]) Q E s:=by
 have at_:=Ry (h:=s.heap) (o:=zip2 l) (f:=f) rfl;refine KN PySem.F.called_enumerate (by decide) (KC _ _) (KD _ _) (fun _=>KJ _ _ _) PySem.F.entry_enumerate_new (Iv l xs f t hf) ⟨hl,⟨_,at_.1,rfl⟩,q _ ⟨⟨_,at_.1⟩,⟨_,at_.2,rfl,rfl⟩⟩ fun b o e=>au _ (au _ e)⟩
theorem vH {M:Model} {env:Env} {pos:Pos} {T:String} {e:Expr} {kws:List Keyword} {Q:aA->aM->Prop} (h:wpAny M A (spliced (backTo pos (starEach [e] env))) (fun vs s₁=>wpAny M A (evalAll ((backToKw pos (keywordEach kws env)).map (·.2))) (fun kvs s₂=>wpAny M A (call (.type T) vs (((backToKw pos (keywordEach kws env)).filterMap (·.1)).zip kvs)) Q E s₂) E s₁) E s) (he:starEach [e] env=[(false,eval e env)]) (hall:(backToKw pos (keywordEach kws env)).all (·.1.isSome)=true) (hkw:(backToKw pos (keywordEach kws env)).any (·.1.isNone)=false) : wpAny M A (callWith pos (.type T) [] (backTo pos (starEach [e] env)) (backToKw pos (keywordEach kws env))) Q E s:=by
 have e2:backTo pos (starEach [e] env)=(false,eval e env)::[]:=by rw [he]; rfl
 rw [e2] at h ⊢;unfold callWith;refine aj (wpAny_holding (cM (evalArgs_kwB (Q:=fun a s₂=>wpAny M A (call (.type T) a.pos a.kw) Q E s₂) hall h) (fun a s₁ h₁=>aj (wpAny_standAt ?_)) fun _ _ x=>x));have pl:[(false,eval e env)].any (·.1)=false:=rfl;simp only [pl,hkw,Bool.or_false];exact aj (ak (aj (cM h₁ (fun r s₂ hr=>aj (wpAny_holding (wpAny_point (ak hr)))) fun _ _ x=>x)))
end
section
variable {X:Cx}
def ZD (K:Fg) (ta:TA) (tf:TE):TI:=fun σ H R=>ta σ H fun vs H1=>tf σ H1 fun u H2=>∃ (l:aB) (xs:List V) (f:Nat),vs=[.ref l]/\u=.int (f:Nat)/\f < 2 ^ 62/\cU K H2 l xs/\R (Itx K false f l) H2
theorem Rz {X:Cx} {pins:List (aB × Obj)} {σ:St} {H:Hp} {s:aM} (I:Inv X pins σ H s):∀ b ∈ [s.heap.objs.size + 1,s.heap.objs.size],pC X pins H b:=fun b hb=>by
 have le:s.heap.objs.size<=b:=by
  simp only [aQ,or_false,not_mem_nil] at hb;omega
 exact I.QX (H':=H) le (I.hok.fresh le)
theorem Bl {e1 e2:Expr} {elts:List Expr} {k:Nat} {tp p pos kp:Pos} {ta:TA} {tf:TE} (hg:Gl X "enumerate") (hm:X.mg "enumerate"=none) (ha:PA X [e1] ta) (hf:PE X e2 tf) (st1:autoParam (starEach [e1] X.env=[(false,eval e1 X.env)]) zau0) : PI X (.Tuple elts k tp) (.Call (.Name "enumerate" p) [e1] [⟨some "start",e2,kp⟩] pos) (ZD X.K ta tf):=by
 intro pins s σ H R I h;refine wpAny_Call_Name_kw (uR I hg hm boot_enumerate (vH (eX (ha pos pins s σ H _ I h) fun us a ⟨vs,H1,I1,r,q⟩=>kws_cons (eX (hf pins a σ H1 _ I1 q) fun u2 a2 ⟨v2,H2,I2,r2,l,xs,f,e,e2,le,sx,q2⟩=>kws_nil ?_)) st1 (by rfl) (by rfl)));subst e e2;obtain ⟨u1,e,r1⟩:=vals1 r;subst e;cases r1;obtain ⟨tk,rfl⟩:=r2;obtain ⟨its,v1,p1,_⟩:=I2.list sx;have lt:l < a2.heap.objs.size:=by obtain ⟨o,ho,_⟩:=p1.isList; exact Heap.lt_size ho
 refine DG (f:=f) ?_ p1.isList fun h' c1 old=>?_
 ·unfold Builtin.SmallTypes.fitsIndex;simp only [decide_eq_true_eq,Bool.and_eq_true];omega
 have I3:Inv X pins σ H2 { a2 with heap:=h' }:=I2.kept (t':=a2.toks) old;obtain ⟨ov,c0⟩:=c1.cell;exact wpAny_pyIter_enum (s:={ a2 with heap:=h' }) c0 ⟨_,[a2.heap.objs.size + 1,a2.heap.objs.size],_,_,H2,rfl,I3,Dz (tu:=false) (f:=f) (Nat.succ_ne_self _) (Nat.ne_of_gt (Nat.lt_succ_of_lt lt)),c1,Rz I2,q2⟩
end
section
variable {prog:cg} {w:World} {A:cW} {E:aA->aM->Prop} {s:aM} {z ti to a b l m:aB} {xs ys:Array aA} {i j:Nat} {u v:aA} {t1 t2:Bool}
end
section
variable {X:Cx}
end
end L2
namespace Tw
open PySem L2
section
variable {K:Fg} {α β:Type} {S:Rep β}
theorem iB (R:Rep α) (sS:Dw S) {J:It} {D:aB} {H:Hp} {xs:List α} {σ0:St} {g:TG} {tc:TT} {te:TE} {Qe:Hp->Prop} (pr:α->Bool) (f:α->β) (ok:α->Prop) (hz:xs.length<=sizeLine) (hD:H D=none) (go:∀ i H',i < xs.length->Same H H'->J.go i H') (stop:∀ H',Same H H'->J.stop xs.length H') (yl:∀ i x v H' H2,xs[i]?=some x->Same H H'->J.Ju i H' v H2->Same H' H2/\R H2 v x) (body:∀ (i:Nat) x v H2,xs[i]?=some x->R H2 v x->Same H H2->∀ (Qc:VK) (Qn:Hp->Prop),(pr x=true->ok x->∀ u H3,Same H2 H3->S H3 u (f x)->Qc u H3)->(pr x=false->∀ H3,Same H2 H3->Qn H3) -> g v σ0 H2 fun σ2 H'=>lu σ0 σ2/\tc σ2 H' fun b H3=>if b=true then te σ2 H3 Qc else Qn H3) (q:∀ H',Same H H'->(∀ x ∈ xs,pr x=true->ok x)->gJ S H' (.ref D) ((xs.filter pr).map f)->Qe H') : ∃ W:Nat->Nat->List V->Hp->Prop,(∃ m,W 0 m [] (L2.upd H D (.lst [])))/\pL D J σ0 g tc te Qe W:=by
 refine za xs.length hz (fun i acc H'=>Same H H'/\H' D=some (.lst acc)/\(∀ x ∈ xs.take i,pr x=true->ok x)/\Paired (S H') acc (((xs.take i).filter pr).map f)) ⟨bh hD,aF,fun x hx=>by rw [List.take_zero] at hx; exact absurd hx (by simp),.nil⟩ (fun i acc H' le ⟨_,e,_,p⟩=>⟨?_,e⟩) ?_ ?_
 ·rw [Paired.length p,aq];exact bw (length_filter_le _ _) (by rw [length_take]; omega)
 ·rintro acc H' ⟨s',e,al,p⟩;rw [bV] at p al;exact ⟨stop H' s',q H' s' al ⟨D,acc,rfl,e,p⟩⟩
 ·rintro i acc H' lt ⟨s',e,al,p⟩;have hx:xs[i]?=some xs[i]:=aP lt;refine ⟨go i H' lt s',?_⟩;intro y CQ hy Qc Qn k kn;obtain ⟨s2,rv⟩:=yl i xs[i] y H' CQ hx s' hy;refine body i xs[i] y CQ hx rv (s'.trans s2) Qc Qn (fun ep eo u H3 s3 ru=>?_) (fun ep H3 s3=>?_)
  ·have e3:=s3 _ _ (s2 _ _ e);refine k u H3 e3 ⟨oU ((s'.trans s2).trans s3) hD,aF,fun x hx' hp=>?_,?_⟩
   ·rw [take_snoc hx] at hx';rcases bQ.mp hx' with z | z
    ·exact al x z hp
    ·rw [aO.mp z]; exact eo
   ·rw [take_snoc hx,cu,aX];have ef:[xs[i]].filter pr=[xs[i]]:=by simp [ep]
    rw [ef];exact Paired.snoc (Paired.jx p fun _ _ z=>sS.upd (sS.same z (s2.trans s3)) e3) (sS.upd ru e3)
  ·refine kn H3 ⟨(s'.trans s2).trans s3,s3 _ _ (s2 _ _ e),fun x hx' hp=>?_,?_⟩
   ·rw [take_snoc hx] at hx';rcases bQ.mp hx' with z | z
    ·exact al x z hp
    ·rw [aO.mp z,ep] at hp; cases hp
   ·rw [take_snoc hx,cu];have ef:[xs[i]].filter pr=[]:=by simp [ep]
    rw [ef,bZ];exact Paired.jx p fun _ _ z=>sS.same z (s2.trans s3)
end
end Tw
namespace L2
open PySem PySem.Spec PyProof.Rows
section
variable {X:Cx} {σ:St} {E:XK} {k:Nat} {f:aB} {fd:d9} {ps:List Str} {sp:Sp} {uy:List V} {ds:List aA} {x:Str} {p pos:Pos} {e:Expr} {es:List Expr} {t:TA}
end
section
variable {X:Cx} {x n:Str} {c:aA} {i:Nat} {np hpos pos:Pos} {body suite:List cV} {b₀:cV} {tb:XK->TS} {ts:TS} {L:aB} {hit:aA->Prop}
theorem wV (K:Fg) (hK:autoParam (X.K=K) zau0):gq X (.type "list") (fun xs H Q=>∃ p ys,xs=[.ref p]/\(cU K H p ys\/gY K H p ys)/\∀ l,H l=none->Q (.ref l) (upd H l (.lst ys))):=by
 subst hK;exact yQ
end
end L2
namespace Tw
open PySem L2
section
variable {K:Fg} {α β:Type}
theorem oW (R:Rep α) {S:Rep β} {J:It} {D:aB} {H:Hp} {xs:List α} {σ0:St} {g:TG} {tc:TT} {te:TE} {Qe:Hp->Prop} (sS:∀ {H1 H2:Hp} {v:V} {x:β},S H1 v x->Same H1 H2->S H2 v x) (sU:∀ {H1:Hp} {v:V} {x:β} {o:HO},S H1 v x->S (L2.upd H1 D o) v x) (pr:α->Bool) (f:α->β) (ok:α->Prop) (hz:xs.length<=sizeLine) (hD:H D=none) (go:∀ i H',i < xs.length->Same H H'->J.go i H') (stop:∀ H',Same H H'->J.stop xs.length H') (yl:∀ i x v H' H2,xs[i]?=some x->Same H H'->J.Ju i H' v H2->Same H' H2/\R H2 v x) (body:∀ (i:Nat) x v H2,xs[i]?=some x->R H2 v x->Same H H2->(∃ acc,H2 D=some (.lst acc))->∀ (Qc:VK) (Qn:Hp->Prop),(pr x=true->ok x->∀ u H3,Same H2 H3->S H3 u (f x)->Qc u H3)->(pr x=false->∀ H3,Same H2 H3->Qn H3) -> g v σ0 H2 fun σ2 H'=>lu σ0 σ2/\tc σ2 H' fun b H3=>if b=true then te σ2 H3 Qc else Qn H3) (q:∀ H',Same H H'->(∀ x ∈ xs,pr x=true->ok x)->gJ S H' (.ref D) ((xs.filter pr).map f)->Qe H') : ∃ W:Nat->Nat->List V->Hp->Prop,(∃ m,W 0 m [] (L2.upd H D (.lst [])))/\pL D J σ0 g tc te Qe W:=by
 refine za xs.length hz (fun i acc H'=>Same H H'/\H' D=some (.lst acc)/\(∀ x ∈ xs.take i,pr x=true->ok x)/\Paired (S H') acc (((xs.take i).filter pr).map f)) ⟨bh hD,aF,fun x hx=>by rw [List.take_zero] at hx; exact absurd hx (by simp),.nil⟩ (fun i acc H' le ⟨_,e,_,p⟩=>⟨?_,e⟩) ?_ ?_
 ·rw [Paired.length p,aq];exact bw (length_filter_le _ _) (by rw [length_take]; omega)
 ·rintro acc H' ⟨s',e,al,p⟩;rw [bV] at p al;exact ⟨stop H' s',q H' s' al ⟨D,acc,rfl,e,p⟩⟩
 ·rintro i acc H' lt ⟨s',e,al,p⟩;have hx:xs[i]?=some xs[i]:=aP lt;refine ⟨go i H' lt s',?_⟩;intro y CQ hy Qc Qn k kn;obtain ⟨s2,rv⟩:=yl i xs[i] y H' CQ hx s' hy;refine body i xs[i] y CQ hx rv (s'.trans s2) ⟨acc,s2 _ _ e⟩ Qc Qn (fun ep eo u H3 s3 ru=>?_) (fun ep H3 s3=>?_)
  ·refine k u H3 (s3 _ _ (s2 _ _ e)) ⟨oU ((s'.trans s2).trans s3) hD,aF,fun x hx' hp=>?_,?_⟩
   ·rw [take_snoc hx] at hx';rcases bQ.mp hx' with z | z
    ·exact al x z hp
    ·rw [aO.mp z]; exact eo
   ·rw [take_snoc hx,cu,aX];have ef:[xs[i]].filter pr=[xs[i]]:=by simp [ep]
    rw [ef];exact Paired.snoc (Paired.jx p fun _ _ z=>sU (sS z (s2.trans s3))) (sU ru)
  ·refine kn H3 ⟨(s'.trans s2).trans s3,s3 _ _ (s2 _ _ e),fun x hx' hp=>?_,?_⟩
   ·rw [take_snoc hx] at hx';rcases bQ.mp hx' with z | z
    ·exact al x z hp
    ·rw [aO.mp z,ep] at hp; cases hp
   ·rw [take_snoc hx,cu];have ef:[xs[i]].filter pr=[]:=by simp [ep]
    rw [ef,bZ];exact Paired.jx p fun _ _ z=>sS z (s2.trans s3)
theorem Gv {R:Rep α} (sR:∀ {H1 H2:Hp} {v:V} {x:α},R H1 v x->Same H1 H2->R H2 v x) {H:Hp} {l:aB} {f:Nat} {xs:List α} (hl:gJ R H (.ref l) xs):(∀ i H',i < xs.length->Same H H'->(Itx K false f l).go i H')/\(∀ H',Same H H'->(Itx K false f l).stop xs.length H') /\ ∀ i x v H' H2,xs[i]?=some x->Same H H'->(Itx K false f l).Ju i H' v H2->Same H' H2/\∃ t u,v=.ref t/\H2 t=some (.tup [.int (f + i:Nat),u])/\R H2 u x:=by
 obtain ⟨l',vs,el,hv,pv⟩:=hl;cases el;have ln:=Paired.length pv;refine ⟨fun i H' lt s'=>?_,fun H' s'=>⟨vs,cU.of (s' _ _ hv),by omega⟩,fun i x v H' H2 hx s' hy=>?_⟩
 ·obtain ⟨v,Il,_⟩:=iz pv (aP lt);exact ⟨vs,v,cU.of (s' _ _ hv),Il⟩
 ·obtain ⟨T,hT,rfl,hy⟩:=hy;obtain ⟨v',Il,rv⟩:=iz pv hx;rw [hy vs v' (cU.of (s' _ _ hv)) Il];have n:=bh (o:=.tup [V.int (f + i:Nat),v']) hT;exact ⟨n,T,v',rfl,aF,sR rv (s'.trans n)⟩
theorem jz {R:Rep α} (sR:∀ {H1 H2:Hp} {v:V} {x:α},R H1 v x->Same H1 H2->R H2 v x) {H:Hp} {l:aB} {xs:List α} (hl:gJ R H (.ref l) xs):(∀ i H',i < xs.length->Same H H'->(N8 K l).go i H')/\(∀ H',Same H H'->(N8 K l).stop xs.length H') /\ ∀ i x v H' H2,xs[i]?=some x->Same H H'->(N8 K l).Ju i H' v H2->Same H' H2/\R H2 v x:=by
 obtain ⟨l',vs,el,hv,pv⟩:=hl;cases el;have ln:=Paired.length pv;refine ⟨fun i H' lt s'=>?_,fun H' s'=>⟨vs,cU.of (s' _ _ hv),by omega⟩,fun i x v H' H2 hx s' hy=>?_⟩
 ·obtain ⟨v,Il,_⟩:=iz pv (aP lt);exact ⟨vs,v,cU.of (s' _ _ hv),Il⟩
 ·obtain ⟨e,hy⟩:=hy;subst e;obtain ⟨v',Il,rv⟩:=iz pv hx;have ey:=hy vs (cU.of (s' _ _ hv));rw [Il] at ey;cases ey;exact ⟨Same.refl _,sR rv s'⟩
end
end Tw
namespace L2
open PySem
section
variable {prog:cg} {w:World} {A:cW} {E:aA->aM->Prop} {s:aM}
end
section
variable {X:Cx}
end
end L2
namespace L2
open PySem PySem.Spec PyProof.Rows Builtin Builtin.Str
section
variable {X:Cx}
theorem xT:∀ {zs:List Str} {us:List aA},Vals (zs.map V.str) us->∃ l:List (Str × Tok),us=strValues l/\l.map (·.1)=zs
 | [],us,h=>by
  cases h;exact ⟨[],rfl,rfl⟩
 | z::zs,us,h=>by
  cases h with
  | cons h1 h2 =>
   obtain ⟨t,rfl⟩:=h1;obtain ⟨l,rfl,e⟩:=xT h2;exact ⟨(z,t)::l,rfl,by rw [bO,e]⟩
theorem xU:∀ (l:List (Str × Tok)),Vals ((l.map (·.1)).map V.str) (strValues l)
 | []=>.nil
 | (_,t)::l=>.cons ⟨t,rfl⟩ (xU l)
def ZF:V->List V->Hp->VK->Prop:=fun v ws H Q=>∃ x y,v=.str x/\ws=[.str y]/\(y.length == 0)=false/\x.length + 2<=sizeLine/\∀ p,H p=none->Q (.ref p) (upd H p (.lst ((Txt.split x y).map V.str)))
theorem qL:MtR X "str.split" ZF:=by
 intro pins s σ H v ws u us Q I rv qC h;obtain ⟨x,y,rfl,rfl,hy,hx2,q⟩:=h;have hx:x.length<=sizeLine:=by omega
 have hn:sizeLine >= (partsBetween x (occurrences x y 0 x.length (x.length + 1)) y.length).length:=by
  have few:=StrLaws.occ_length_le x y 0 x.length (x.length + 1);rw [PyProof.Rows.len_partsBetween];omega
 obtain ⟨t,rfl⟩:=rv;obtain ⟨u2,rfl,r2⟩:=Vals.one qC;obtain ⟨t2,rfl⟩:=r2;have fin:∀ (l:List (Str × Tok)) (k:Nat),l.map (·.1)=Txt.split x y->l.length<=sizeLine->EP X pins σ Q (.ref s.heap.objs.size) { s with toks:=k,heap:=s.heap.push { cls:=.type "list",data:=.seq (strValues l).toArray } }:=fun l k e hz =>
  ⟨.ref s.heap.objs.size,_,I.laid (a:=s.heap.objs.size) (o:=.lst ((Txt.split x y).map V.str)) (t':=k) (fun _ _ z=>au _ z) (aJ _) (show eV X.prog X.w _ _ _ (.lst _) from ⟨by rw [<- e,aq,aq]; exact hz,strValues l,0,by rw [<- e]; exact xU l,aC _ rfl⟩),rfl,q _ (I.hok.fresh (aJ _))⟩
 have one:1<=sizeLine:=by decide
 cases h1:(decide (x.length < y.length) || decide (strKind x < strKind y)) with
 | false =>
  cases hf:(occurrences x y 0 x.length (x.length + 1)).isEmpty with
  | false =>
   refine call_meets F.slot_str_split (typeIs_str _ _ _) F.entry_str_split (F.args_str_split_2 _ _) (meets_str_split_sep x y t t2 h1 hy hf hx hn) (?_)
   show wants (EP X pins σ Q) X.xe _ { s with toks:=_,heap:=s.heap.push { cls:=.type "list",data:=.seq (strsFrom s.toks (partsBetween x (occurrences x y 0 x.length (x.length + 1)) y.length)).toArray } }
   rw [strsFrom_eq];have e:(numbered s.toks (partsBetween x (occurrences x y 0 x.length (x.length + 1)) y.length)).map (·.1)=partsBetween x (occurrences x y 0 x.length (x.length + 1)) y.length:=numbered_texts _ _;exact fin _ _ (e.trans ((if_neg (ne_true_of_eq_false h1)).trans (if_neg (ne_true_of_eq_false hf))).symm) (by rw [<- aq (f:=fun p:Str × Tok=>p.1),e]; exact hn)
  | true=>exact call_meets F.slot_str_split (typeIs_str _ _ _) F.entry_str_split (F.args_str_split_2 _ _) (meets_str_split_not_found x y t t2 h1 hy hf) (fin [(x,t)] s.toks ((if_neg (ne_true_of_eq_false h1)).trans (if_pos hf)).symm one)
 | true=>exact call_meets F.slot_str_split (typeIs_str _ _ _) F.entry_str_split (F.args_str_split_2 _ _) (meets_str_split_cannot_occur x y t t2 h1) (fin [(x,t)] s.toks (if_pos h1).symm one)
def rJoin (K:Fg):V->List V->Hp->VK->Prop:=fun v ws H Q=>∃ x p zs,v=.str x/\ws=[.ref p]/\cU K H p (zs.map V.str)/\JoinOk x zs=true/\Q (.str (Txt.join x zs)) H
theorem je (K:Fg) (hK:autoParam (X.K=K) zau0):MtR X "str.join" (rJoin K):=by
 subst hK;intro pins s σ H v ws u us Q I rv qC h;obtain ⟨x,p,zs,rfl,rfl,hp,hj,q⟩:=h;obtain ⟨t,rfl⟩:=rv;obtain ⟨u2,rfl,r2⟩:=Vals.one qC;cases r2;obtain ⟨its,r,pl,hz⟩:=I.list hp;obtain ⟨l,rfl,e⟩:=xT r;exact SC.join pl.isList e hj fun t' k=>⟨.str _,H,I.tok _,⟨t',rfl⟩,q⟩
def RB:V->List V->Hp->VK->Prop:=fun v ws H Q=>∃ x y,v=.str x/\ws=[.str y]/\Q (.bl (Txt.startswith x y)) H
theorem Iw:MtR X "str.startswith" RB:=by
 intro pins s σ H v ws u us Q I rv qC h;obtain ⟨x,y,rfl,rfl,q⟩:=h;obtain ⟨t,rfl⟩:=rv;obtain ⟨u2,rfl,r2⟩:=Vals.one qC;obtain ⟨t2,rfl⟩:=r2;exact SC.startswith ⟨.bl _,H,I,rfl,q⟩
def ZG:V->List V->Hp->VK->Prop:=fun v ws H Q=>∃ x i,v=.str x/\ws=[.int i]/\PadOk i=true/\Q (.str (Txt.rjust x i)) H
theorem KQ:MtR X "str.rjust" ZG:=by
 intro pins s σ H v ws u us Q I rv qC h;obtain ⟨x,i,rfl,rfl,hi,q⟩:=h;obtain ⟨t,rfl⟩:=rv;obtain ⟨u2,rfl,r2⟩:=Vals.one qC;obtain ⟨t2,rfl⟩:=r2;exact SC.rjust hi fun t' k=>⟨.str _,H,I.tok _,⟨t',rfl⟩,q⟩
def cY (n:Int):Str:=Str.ofString (toString n)
theorem fH:gq X (.type "str") (fun xs H Q=>∃ n,xs=[.int n]/\n.natAbs.log2 < 1920/\Q (.str (cY n)) H):=by
 intro pins s σ H xs us Q I r h;obtain ⟨n,rfl,hn,q⟩:=h;obtain ⟨u,rfl,rx⟩:=Vals.one r;obtain ⟨t,rfl⟩:=rx;exact PySem.P.str_of_int hn ⟨.str _,H,I.tok _,⟨_,rfl⟩,q⟩
theorem Iz:gq X (.type "int") (fun xs H Q=>∃ x n,xs=[.str x]/\PySem.intText? x=some n/\x.length<=640/\Q (.int n) H):=by
 intro pins s σ H xs us Q I r h;obtain ⟨x,n,rfl,hn,hl,q⟩:=h;obtain ⟨u,rfl,rx⟩:=Vals.one r;obtain ⟨t,rfl⟩:=rx;exact PySem.W.KIN.call_text hn hl ⟨.int _,H,I.tok _,⟨_,rfl⟩,q⟩
theorem zq (K:Fg) {T:String} {name:Str} {id:String} {r:V->List V->Hp->VK->Prop} {o e:Expr} {es:List Expr} {to:TE} {t:TA} {apos cpos:Pos} (pa:PlainAttrs T) (slot:Slot T name id) (hty:typeOf (.builtin id)=pure (.type "method_descriptor")) (hm:MtR X id r) (ho:PE X o to) (ha:PA X (e::es) t) (hK:autoParam (X.K=K) zau0) (hbase:autoParam (attributeBase o name X.env (eval o X.env)=eval o X.env) zau0) (hfew:autoParam (((backTo cpos (starEach (e::es) X.env)).all (fun x=>!x.1) && (backToKw cpos (keywordEach [] X.env)).all (fun x=>x.1.isSome) && decide ((e::es).length + ([]:List Keyword).length + (if ([]:List Keyword).isEmpty then 0 else 1) < 30))=true) zau0) (hline:autoParam ((apos.endLine == cpos.line)=true) zau0) (hs:autoParam (starEach (e::es) X.env=(false,eval e X.env)::starEach es X.env) zau0) (hplain:autoParam ((backTo cpos (starEach es X.env)).any (·.1)=false) zau0) : PE X (.Call (.Attribute o name apos) (e::es) [] cpos) (tBM K T r to t):=by
 subst hK;exact gW pa slot hty hm ho ha hbase hfew hline hs hplain
theorem Bm {pos:Pos} (K:Fg) {es:List Expr} {k:Nat} {t:TJ} {n:Nat} (hc:X.calm=true) (h:PGs X es t) (hK:autoParam (X.K=K) zau0) (hn:autoParam ((assignEach es X.env).length=n) zau0) (hst:autoParam ((assignEach es X.env).findIdx? (·.1)=none) zau0):PG X (.Tuple es k pos) (adz K n t):=by
 subst hK;exact yJ hc h hn hst
theorem IK (K:Fg) {e:Expr} {te:TE} (ha:PE X e te) (he:∀ whole,isTrue e X.env whole=(do let v <- whole; standAt e.pos; holding [v] (truthy v))) (hK:autoParam (X.K=K) zau0):PT X e (fun σ H Q=>te σ H fun x H'=>∃ k,Y6 K x H' k/\Q k H'):=by
 subst hK;exact Ae ha he
end
end L2
namespace Tw
open PySem L2
section
variable {K:Fg} {α β:Type} {S:Rep β}
theorem vI (sS:Dw S) {D:aB} {H:Hp} {n m:Nat} {σ0:St} {g:TG} {tc:TT} {te:TE} {Qe:Hp->Prop} (pr:Nat->Bool) (f:Nat->β) (em:m=n) (hz:n<=sizeLine) (hD:H D=none) (body:∀ (i:Nat) H2,i < n->Same H H2->∀ (Qc:VK) (Qn:Hp->Prop),(pr i=true->∀ u H3,Same H2 H3->S H3 u (f i)->Qc u H3)->(pr i=false->∀ H3,Same H2 H3->Qn H3) -> g (.int ((i:Nat):Int)) σ0 H2 fun σ2 H'=>lu σ0 σ2/\tc σ2 H' fun b H3=>if b=true then te σ2 H3 Qc else Qn H3) (q:∀ H',Same H H'->gJ S H' (.ref D) (((List.range n).filter pr).map f)->Qe H') : ∃ W:Nat->Nat->List V->Hp->Prop,(∃ m,W 0 m [] (L2.upd H D (.lst [])))/\pL D (YX 0 m) σ0 g tc te Qe W:=by
 subst em;have lr:(List.range m).length=m:=length_range;refine iB (R:=fun _ v (k:Nat)=>v=.int ((k:Nat):Int)) sS (xs:=List.range m) pr f (fun _=>True) (by rw [lr]; exact hz) hD (fun i H' lt _=>by rw [lr] at lt; exact lt) (fun H' _=>by rw [lr]; exact aJ _) ?_ ?_ (fun H' s' _ r=>q H' s' r)
 ·rintro i x v H' H2 hx s' ⟨rfl,rfl⟩;obtain ⟨h1,h2⟩:=aN.mp hx;rw [List.getElem_range] at h2;subst h2;exact ⟨Same.refl _,by rw [Int.zero_add]⟩
 ·intro i x v H2 hx rv s2 Qc Qn k kn;obtain ⟨h1,h2⟩:=aN.mp hx;rw [List.getElem_range] at h2;rw [lr] at h1;subst h2;subst rv;exact body i H2 h1 s2 Qc Qn (fun e=>k e trivial) kn
def DK:Rep (List Str):=fun H v ws=>∃ l,v=.ref l/\H l=some (.lst (ws.map V.str))
def pH (D:aB):Rep (List Str):=fun H v ws=>∃ l,v=.ref l/\l≠D/\H l=some (.lst (ws.map V.str))
theorem DK.same {H H':Hp} {v:V} {c:List Str} (h:DK H v c) (s:Same H H'):DK H' v c:=by
 obtain ⟨l,e,h1⟩:=h;exact ⟨l,e,s _ _ h1⟩
theorem pH.same {D:aB} {H H':Hp} {v:V} {c:List Str} (h:pH D H v c) (s:Same H H'):pH D H' v c:=by
 obtain ⟨l,e,n,h1⟩:=h;exact ⟨l,e,n,s _ _ h1⟩
theorem pH.upd {D:aB} {H:Hp} {v:V} {c:List Str} {o:HO} (h:pH D H v c):pH D (L2.upd H D o) v c:=by
 obtain ⟨l,e,n,h1⟩:=h;exact ⟨l,e,n,by rw [bA n]; exact h1⟩
theorem pH.to {D:aB} {H:Hp} {v:V} {c:List Str} (h:pH D H v c):DK H v c:=by
 obtain ⟨l,e,n,h1⟩:=h;exact ⟨l,e,h1⟩
end
end Tw
namespace L2
open PySem PySem.Spec PyProof.Rows
theorem vJ {xs:Array Nat} {j:Nat} (up:xs.toList.Pairwise (· < ·)):∀ (fuel lo hi:Nat),hi - lo<=fuel->lo<=hi->hi<=xs.size -> (∀ i a,i < lo->xs[i]?=some a->a < j)->(∀ i a,hi<=i->xs[i]?=some a->j<=a) -> (∀ i a,i < SetTable.below.go xs j fuel lo hi->xs[i]?=some a->a < j)/\(∀ i a,SetTable.below.go xs j fuel lo hi<=i->xs[i]?=some a->j<=a)/\SetTable.below.go xs j fuel lo hi<=xs.size
 | 0,lo,hi,f,l,z,p,q=>by
  have:hi=lo:=by omega
  subst this;exact ⟨p,q,z⟩
 | fuel + 1,lo,hi,f,l,z,p,q=>by
  unfold SetTable.below.go;have lt:∀ {i k a b:Nat},i<=k->xs[i]?=some a->xs[k]?=some b->a<=b:=by
   intro i k a b ik ha hb;rw [<- Array.getElem?_toList] at ha hb;obtain ⟨h1,e1⟩:=aN.mp ha;obtain ⟨h2,e2⟩:=aN.mp hb;rcases Nat.lt_or_eq_of_le ik with c | c
   ·have:=List.pairwise_iff_getElem.mp up i k h1 h2 c;rw [e1,e2] at this;omega
   ·subst c;rw [e1] at e2;omega
  by_cases c:lo < hi
  ·rw [if_pos c];have m1:(lo + hi) / 2 < xs.size:=by omega
   have em:xs[(lo + hi) / 2]?=some (xs.getD ((lo + hi) / 2) j):=by
    rw [Array.getElem?_eq_getElem m1];simp [Array.getD,m1]
   dsimp only
   by_cases d:xs.getD ((lo + hi) / 2) j < j
   ·rw [if_pos d];refine vJ up fuel _ hi (by omega) (by omega) z (fun i a hi' e=>?_) q;have:=lt (show i<=(lo + hi) / 2 by omega) e em;omega
   ·rw [if_neg d];refine vJ up fuel lo _ (by omega) (by omega) (by omega) p fun i a hi' e=>?_
    have:=lt hi' em e;omega
  ·rw [if_neg c];have:hi=lo:=by omega
   subst this;exact ⟨p,q,z⟩
theorem below_at {xs:Array Nat} (up:xs.toList.Pairwise (· < ·)) (j:Nat):(∀ i a,i < SetTable.below xs j->xs[i]?=some a->a < j)/\(∀ i a,SetTable.below xs j<=i->xs[i]?=some a->j<=a)/\SetTable.below xs j<=xs.size := vJ up xs.size 0 xs.size (by omega) (dR _) (aJ _) (fun _ _ h=>nomatch h) fun i a h e=>by
 rw [Array.getElem?_eq_none h] at e;cases e
structure iQ (b:Bool) (t:SetTable):Prop where
 led:t.led=b
 dum:t.dummies=#[]
 up:t.place.toList.Pairwise (· < ·)
theorem iQ.fresh (b:Bool):iQ b (.fresh 0 0 b):=⟨rfl,rfl,.nil⟩
theorem iQ.stand {b:Bool} {t:SetTable} (T:iQ b t) (n:Nat):iQ b (t.standIn n):=by
 refine ⟨T.led,rfl,?_⟩
 show (Array.range n).toList.Pairwise (· < ·)
 rw [Array.toList_range];exact List.pairwise_lt_range
theorem iQ.RD {b:Bool} {t:SetTable} (T:iQ b t) (n:Nat):iQ b (t.orStandIn n):=by
 unfold SetTable.orStandIn
 split
 ·exact T
 ·exact T.stand n
theorem iQ.Gw {b:Bool} {t:SetTable} (T:iQ b t) (j:Nat):SetTable.has t.dummies j=false:=by
 rw [T.dum]; rfl
theorem iQ.probe {b:Bool} {t:SetTable} (T:iQ b t) {f:Nat->Int} {h:Int}:∀ (fuel:Nat) (p:SetTable.Probe) {j:Nat} {d:Option Nat},p.dummy=none->SetTable.probe.go t f h fuel p=some (.empty j d)->d=none/\t.slot j=.empty
 | 0,_,_,_,_,e=>by simp [SetTable.probe.go] at e
 | fuel + 1,p,j,d,hp,e=>by
  unfold SetTable.probe.go at e;cases c:t.slot p.j with
  | empty =>
   rw [c] at e;simp only [Option.some.injEq,SetTable.Met.empty.injEq] at e;obtain ⟨e1,e2⟩:=e;subst e1;exact ⟨by rw [<- e2,hp],c⟩
  | dummy =>
   exfalso
   unfold SetTable.slot at c;dsimp only at c
   split at c
   ·cases c
   ·rw [T.Gw] at c;simp at c
  | live i =>
   rw [c] at e;dsimp only at e
   split at e
   ·simp at e
   ·refine T.probe fuel _ ?_ e;unfold SetTable.advance
    split
    ·exact hp
    ·exact hp
theorem iQ.free {b:Bool} {t:SetTable} (T:iQ b t) {h:Int} {j:Nat} {d:Bool} (e:t.freeSlot h=some (j,d)):t.slot j=.empty:=by
 unfold SetTable.freeSlot at e
 split at e
 ·rename_i k dm q
  obtain ⟨rfl,s⟩:=T.probe _ (t.probeStart h) rfl q;simp only [Prod.mk.injEq,Option.some.injEq] at e;rw [<- e.1];exact s
 ·cases e
theorem iQ.put {b:Bool} {t:SetTable} (T:iQ b t) {j:Nat} (s:t.slot j=.empty):iQ b (t.put j).1:=by
 refine ⟨T.led,?_,?_⟩
 ·show (if SetTable.has t.dummies j then _ else t.dummies)=_
  rw [T.Gw];exact T.dum
 ·show (SetTable.insertAt t.place (SetTable.below t.place j) j).toList.Pairwise (· < ·)
  obtain ⟨a1,a2,a3⟩:=below_at T.up j;have no:∀ i:Nat,t.place[i]?≠some j:=by
   intro i e;have i1:¬ i < SetTable.below t.place j:=fun z=>cX _ (a1 i j z e)
   have e0:t.place[SetTable.below t.place j]?=some j:=by
    obtain ⟨v,ev⟩:∃ v,t.place[SetTable.below t.place j]?=some v:=by
     have:i < t.place.size:=by
      rcases Nat.lt_or_ge i t.place.size with z | z
      ·exact z
      ·rw [Array.getElem?_eq_none z] at e; cases e
     exact ⟨_,Array.getElem?_eq_getElem (by omega)⟩
    have v1:=a2 _ v (aJ _) ev;have v2:v<=j:=by
     rcases Nat.lt_or_eq_of_le (Nat.le_of_not_lt i1) with z | z
     ·rw [<- Array.getElem?_toList] at ev e;obtain ⟨h1,e1⟩:=aN.mp ev;obtain ⟨h2,e2⟩:=aN.mp e;have:=List.pairwise_iff_getElem.mp T.up _ _ h1 h2 z;omega
     ·rw [z] at ev;rw [e] at ev;cases ev;omega
    rw [ev,show v=j by omega]
   unfold SetTable.slot at s;dsimp only at s;rw [e0] at s;simp at s
  rw [SetTable.toList_insertAt,List.pairwise_append];have hd:∀ x ∈ t.place.toList.take (SetTable.below t.place j),x < j:=by
   intro x hx;obtain ⟨i,hi,e⟩:=List.mem_take_iff_getElem.mp hx;refine a1 i x (by omega) ?_;rw [<- Array.getElem?_toList];exact aN.mpr ⟨by omega,e⟩
  have tl:∀ x ∈ t.place.toList.drop (SetTable.below t.place j),j < x:=by
   intro x hx;obtain ⟨i,hi,e⟩:=List.mem_drop_iff_getElem.mp hx;have q:t.place[i + SetTable.below t.place j]?=some x:=by
    rw [<- Array.getElem?_toList];exact aN.mpr ⟨by omega,by rw [<- e]; congr 1; omega⟩
   have:=a2 _ x (by omega) q;rcases Nat.lt_or_eq_of_le this with z | z
   ·exact z
   ·rw [<- z] at q;exact absurd q (no _)
  refine ⟨T.up.sublist (List.take_sublist _ _),List.pairwise_cons.mpr ⟨tl,T.up.sublist (List.drop_sublist _ _)⟩,fun x hx y hy=>?_⟩;rcases aQ.mp hy with rfl | hz
  ·exact hd x hx
  ·exact Nat.lt_trans (hd x hx) (tl y hz)
theorem iQ.lay {b:Bool} {t:SetTable} (T:iQ b t) (es:Array (Int × aA)) (h:Int) (x:aA):iQ b (layNew t es h x).2.1:=by
 unfold layNew
 split
 ·rename_i j d e
  exact (T.put (T.free e)).RD _
 ·exact T.stand _
theorem iQ.ad4 {b:Bool} {t:SetTable} (T:iQ b t) (es:Array (Int × aA)) (n:Nat):iQ b (relayAll t es n).2.1:=by
 unfold relayAll
 split
 ·rename_i t' o e
  dsimp only
  split
  ·unfold SetTable.relaid SetTable.laid at e;cases c:SetTable.layClean (SetTable.sizeAbove n - 1) (es.map (·.1)) with
   | none=>rw [c] at e; cases e
   | some ow =>
    rw [c] at e;have e':=bU e;rw [<- (Prod.mk.inj e').1];refine ⟨T.led,rfl,?_⟩
    show (List.map _ _).Pairwise (· < ·)
    rw [List.pairwise_map,List.pairwise_filterMap];refine Pairwise.imp ?_ List.pairwise_lt_range;intro p q pq u hu v hv;obtain ⟨_,_,rfl⟩:=bH.mp hu;obtain ⟨_,_,rfl⟩:=bH.mp hv;exact pq
  ·exact T.stand _
 ·exact T.stand _
noncomputable def pI (P:cg) (w:World) (h:Heap) (a:aB) (ns:List Int):Prop := ∃ es ep t,h.get? a=some { cls:=.type "set",data:=.set es ep t }/\t.fits es.size=true/\iQ (!w.params.followText "set-order") t/\ElemsOf (intKind P w) es.toList/\∃ ms,IntsAre (es.toList.map (·.2)) ms/\ms.Perm ns
theorem IntsAre.has {k:Int}:∀ {es:List (Int × aA)} {ms:List Int},IntsAre (es.map (·.2)) ms->((es.findIdx? fun e=>Value.isInt k e.2).isSome=true ↔ k ∈ ms)
 | [],_,r=>by cases r; simp
 | (_,v)::es,_,r=>by
  cases r with
  | cons n t r =>
   have ih:=IntsAre.has (k:=k) r
   by_cases c:k=n
   ·subst c;simp [List.findIdx?_cons,Value.isInt]
   ·have c':¬ n=k:=fun z=>c z.symm
    have e0:Value.isInt k (.int n t)=false:=by simp [Value.isInt,c']
    show ((List.findIdx? _ (_::es)).isSome=true ↔ _)
    rw [List.findIdx?_cons];dsimp only;rw [e0];simp only [Bool.false_eq_true,if_false,Option.isSome_map,aQ,c,false_or];exact ih
theorem IntsAre.perm:∀ {l l':List aA},l.Perm l'->∀ {ms:List Int},IntsAre l' ms->∃ ns,IntsAre l ns/\ns.Perm ms:=by
 intro l l' p
 induction p with
 | nil=>intro ms r; exact ⟨ms,r,.refl _⟩
 | cons x p ih =>
  intro ms r;cases r with
  | cons n t r =>
   obtain ⟨ns,a,b⟩:=ih r;exact ⟨n::ns,.cons n t a,b.cons n⟩
 | swap x y l =>
  intro ms r;cases r with
  | cons n t r =>
   cases r with
   | cons m u r=>exact ⟨m::n::_,.cons m u (.cons n t r),.swap n m _⟩
 | trans p q ih1 ih2 =>
  intro ms r;obtain ⟨ns,a,b⟩:=ih2 r;obtain ⟨ns',a',b'⟩:=ih1 a;exact ⟨ns',a',b'.trans b⟩
theorem IntsAre.snoc {k:Int} {t:Tok}:∀ {l:List aA} {ms:List Int},IntsAre l ms->IntsAre (l++[.int k t]) (ms++[k])
 | _,_,.nil=>.cons k t .nil
 | _,_,.cons n u r=>.cons n u (IntsAre.snoc r)
section
variable {prog:cg} {w:World} {A:cW} {E:aA->aM->Prop} {s:aM}
theorem pI.stored {h:Heap} {a:aB} {es es':Array (Int × aA)} {ep:Nat} {t t':SetTable} {ns ms:List Int} (at_:h.get? a=some { cls:=.type "set",data:=.set es ep t }) (f:t'.fits es'.size=true) (T:iQ (!w.params.followText "set-order") t') (el:ElemsOf (intKind prog w) es'.toList) (r:IntsAre (es'.toList.map (·.2)) ms) (p:ms.Perm ns) : (h.update a (Obj.putSet es' t')).get? a=some { cls:=.type "set",data:=.set es' (ep + 1) t' }/\pI prog w (h.update a (Obj.putSet es' t')) a ns:=by
 have g:(h.update a (Obj.putSet es' t')).get? a=some { cls:=.type "set",data:=.set es' (ep + 1) t' }:=Heap.get?_update_self (Obj.putSet es' t') at_ rfl;exact ⟨g,es',ep + 1,t',g,f,T,el,ms,r,p⟩
theorem KR {S:aB} {ns:List Int} {x:Int} {t₀:Tok} {Qu:Bool->aM->Prop} (small:ns.length + 1 < scanBound) (at_:pI prog w s.heap S ns) (k:∀ h' tk b,Heap.SameBut S s.heap h'->pI prog w h' S (if x ∈ ns then ns else ns++[x])->Qu b { s with heap:=h',toks:=tk }):wpAny (model prog w) A (setAdd S (.int x t₀)) Qu E s:=by
 have is:(intKind prog w).is x (.int x t₀)=true:=by show Value.isInt x (.int x t₀)=true; simp [Value.isInt]
 obtain ⟨es,ep,t,ho,hf,T,hel,ms,r,p⟩:=at_;have len:es.size=ns.length:=by
  have:=IntsAre.length r;rw [aq,Array.length_toList] at this;rw [this,p.length_eq]
 unfold setAdd;refine wpAny_holding (aj ((intKind prog w).pyHash (k:=x) is ?_));unfold setAddHashed;unfold setAddHashedIn;refine wpAny_holding (aj (wpAny_setState_of (s:={ s with toks:=s.toks + 1 }) ho rfl hf ?_));dsimp only;have sc:byScan (.int x t₀) es=true:=byScan_of (knd:=intKind prog w) rfl (by omega) hel;rw [sc];simp only [↓reduceIte];unfold setAddByScan;refine aj (aj (wpAny_rule (aj (wpAny_setScan_of is ho rfl hf hel ?_))));have has:(es.toList.findIdx? fun e=>(intKind prog w).is x e.2).isSome=true ↔ x ∈ ms:=IntsAre.has r;cases c:es.toList.findIdx? (fun e=>(intKind prog w).is x e.2) with
 | some j =>
  rw [c] at has;have mem:x ∈ ns:=p.mem_iff.mp (has.mp rfl);refine ak (ak (k s.heap _ _ (Heap.SameBut.refl S s.heap) ?_));rw [if_pos mem];exact ⟨es,ep,t,ho,hf,T,hel,ms,r,p⟩
 | none =>
  rw [c] at has;have mem:¬ x ∈ ns:=fun z=>by have:=has.mpr (p.mem_iff.mpr z); cases this
  have q1:=layNew_perm t es ((intKind prog w).hash x) (.int x t₀);have q2:=layNew_fits t es ((intKind prog w).hash x) (.int x t₀);have q3:=T.lay es ((intKind prog w).hash x) (.int x t₀);rw [if_neg mem] at k;dsimp only;generalize layNew t es ((intKind prog w).hash x) (.int x t₀)=L at q1 q2 q3 ⊢;obtain ⟨es1,t1,dm,gv⟩:=L;dsimp only at q1 q2 q3 ⊢;rw [Array.toList_push] at q1;have el1:ElemsOf (intKind prog w) es1.toList:=(hel.push is rfl).perm q1;obtain ⟨ms1,r1,p1⟩:∃ ms1,IntsAre (es1.toList.map (·.2)) ms1/\ms1.Perm (ns++[x]):=by
   have pm:=q1.map (·.2);rw [aX] at pm;obtain ⟨m1,a1,a2⟩:=IntsAre.perm pm (IntsAre.snoc (k:=x) (t:=t₀) r);exact ⟨m1,a1,a2.trans (p.append_right _)⟩
  have sz1:es1.size < scanBound:=by
   have:=q1.length_eq;rw [aR,Array.length_toList,Array.length_toList] at this;simp at this;omega
  have quiet:∀ (b:Bool) (s₁:aM) (Q':Unit->aM->Prop),Q' () s₁->wpAny (model prog w) A (match b with | true=>rule "set.scan.the-table-gave-way" | false=>pure ()) Q' E s₁:=by
   intro b s₁ Q' z;cases b
   ·exact ak z
   ·exact wpAny_rule z
  refine aj (quiet _ _ _ ?_);have tail:∀ t2,t2.fits es1.size=true->iQ (!w.params.followText "set-order") t2->wpAny (model prog w) A (do
    storeSet S es1 t2
    if (
      !dm && t2.tooFull)=true then do
      (match (relayAll t2 es1 (SetTable.grown es1.size)).2.2 with | true=>rule "set.scan.the-table-gave-way" | false=>pure ())
      storeSet S (relayAll t2 es1 (SetTable.grown es1.size)).1 (relayAll t2 es1 (SetTable.grown es1.size)).2.1
      pure (some true)
     else pure (some true)) (fun a s'=>wpAny (model prog w) A (match a with | some added=>pure added | none=>setAddHashedIn S (.int x t₀) ((intKind prog w).hash x) 99999) Qu E s') E { s with toks:=s.toks + 1 }:=by
   intro t2 f2 T2;refine aj (wpAny_storeSet_of ho rfl ?_ (fits_of_scanBound sz1));obtain ⟨g1,S1⟩:=pI.stored (prog:=prog) ho f2 T2 el1 r1 p1;have sb1:=Heap.SameBut.update s.heap S (Obj.putSet es1 t2)
   split
   ·have q1:=relayAll_perm t2 es1 (SetTable.grown es1.size);have q2:=relayAll_fits t2 es1 (SetTable.grown es1.size);have q3:=T2.ad4 es1 (SetTable.grown es1.size);generalize relayAll t2 es1 (SetTable.grown es1.size)=L at q1 q2 q3 ⊢;obtain ⟨es2,t3,gv2⟩:=L;dsimp only at q1 q2 q3 ⊢;have sz2:es2.size < scanBound:=by
     have:=q1.length_eq;rw [Array.length_toList,Array.length_toList] at this;omega
    obtain ⟨ms2,r2,p2⟩:=IntsAre.perm (q1.map (·.2)) r1;refine aj (quiet _ _ _ (aj (wpAny_storeSet_of g1 rfl ?_ (fits_of_scanBound sz2))));exact ak (ak (k _ _ _ (sb1.trans (Heap.SameBut.update _ S _)) (pI.stored (prog:=prog) g1 q2 q3 (el1.perm q1) r2 (p2.trans p1)).2))
   ·exact ak (ak (k _ _ _ sb1 S1))
  split
  ·exact aj (ak (tail t1 q2 q3))
  ·exact aj (ak (tail t1 q2 q3))
def iI:List Int->List Int->List Int
 | done,[]=>done
 | done,x::l=>iI (if x ∈ done then done else done++[x]) l
theorem Bo {k:Int}:∀ {l done:List Int},k ∈ iI done l ↔ k ∈ done\/k ∈ l
 | [],done=>by simp [iI]
 | x::l,done=>by
  rw [iI,Bo]
  by_cases c:x ∈ done
  ·rw [if_pos c,aQ];constructor
   ·rintro (h | h)
    ·exact .inl h
    ·exact .inr (.inr h)
   ·rintro (h | h | h)
    ·exact .inl h
    ·exact .inl (h ▸ c)
    ·exact .inr h
  ·rw [if_neg c];simp [or_assoc]
theorem vK:∀ {l done:List Int},done.Nodup->(iI done l).Nodup
 | [],_,h=>h
 | x::l,done,h=>by
  rw [iI];refine vK ?_
  split
  ·exact h
  ·rename_i c
   rw [List.nodup_append];refine ⟨h,by simp,fun a ha b hb=>?_⟩;rw [aO.mp hb];exact fun z=>c (z ▸ ha)
theorem Bp:∀ {l done:List Int},(iI done l).length<=done.length + l.length
 | [],_=>by simp [iI]
 | x::l,done=>by
  rw [iI];refine bw Bp ?_
  split
  ·rw [length_cons]; omega
  ·simp only [length_cons,aR,length_nil]; omega
theorem pI.at {h h':Heap} {a:aB} {ns:List Int} (x:pI prog w h a ns) (k:∀ o,h.get? a=some o->h'.get? a=some o):pI prog w h' a ns:=by
 obtain ⟨es,ep,t,ho,r⟩:=x;exact ⟨es,ep,t,k _ ho,r⟩
theorem xV {S I l:aB} {its:List aA} (calm:A.handled=none) (SI:S≠I) (Sl:S≠l) (lI:l≠I) {R:Result->aM->Prop} : ∀ (todo:List Int) (us:List aA) (i:Nat) (done:List Int) (s:aM),IntsAre us todo->its.drop i=us->done.length + todo.length + 1 < scanBound->s.heap.IsListIter I l i->s.heap.IsList l its.toArray->pI prog w s.heap S done -> (∀ h' tk,(∀ b o,b≠S->b≠I->s.heap.get? b=some o->h'.get? b=some o)->pI prog w h' S (iI done todo)->R (.ok (.ret .none)) { s with heap:=h',toks:=tk }) -> codeAny (model prog w) A (.builtin "set.update.loop" ⟨[.ref S,.ref I],[]⟩) R s
 | _,_,i,done,s,.nil,e,small,it,li,at_,k=>by
  refine codeAny_builtin PyProof.Rows.F.entry_set_update_loop ?_;rw [Around.under_plainId PyProof.Rows.F.plain_set_update_loop _];have le:its.length<=i:=by rw [<- List.drop_eq_nil_iff]; exact e
  refine aj (m:=pyNext (.ref I)) (wpAny_pyNext_list_end (by simpa using calm) it li (by simp [le]) fun h' ext=>?_);exact ak (k h' s.toks (fun b o _ nI q=>ext b o nI q) (at_.at fun o q=>ext S o SI q))
 | _,_,i,done,s,.cons x t (vs:=vs) (ns:=ns) r,e,small,it,li,at_,k=>by
  have item:its[i]?=some (Value.int x t):=by
   have:=List.getElem?_drop (xs:=its) (i:=i) (j:=0);rw [e] at this;simpa using this.symm
  have rest:its.drop (i + 1)=vs:=by
   rw [<- List.drop_drop,e];rfl
  refine codeAny_builtin PyProof.Rows.F.entry_set_update_loop ?_;rw [Around.under_plainId PyProof.Rows.F.plain_set_update_loop _];refine aj (m:=pyNext (.ref I)) (wpAny_pyNext_list_item it li (x:=Value.int x t) (by simpa using item) fun h' it' sb=>?_);rw [length_cons] at small;refine aj (wpAny_holding (KR (s:={ s with heap:=h' }) (by omega) (at_.at fun o q=>(sb.2 S SI).trans q) fun g tk b sg set=>?_));refine ak ⟨plainId_quiet PyProof.Rows.F.plain_set_update_loop _,xV calm SI Sl lI ns vs (i + 1) _ _ r rest ?_ ?_ ?_ set fun g' tk' keep fin=>?_⟩
  ·split
   ·omega
   ·simp only [aR,List.length_singleton]; omega
  ·exact it'.at fun o q=>(sg.2 I (Ne.symm SI)).trans q
  ·exact (li.at fun o q=>(sb.2 l lI).trans q).at fun o q=>(sg.2 l (Ne.symm Sl)).trans q
  ·exact k g' tk' (fun b o nS nI q=>keep b o nS nI ((sg.2 b nS).trans ((sb.2 b nI).trans q))) fin
theorem zu (a:aA) {Q₁:aA->aM->Prop} (h:Q₁ (.ref s.heap.objs.size) { s with heap:=s.heap.push { cls:=.type "set",data:=.set #[] 0 (.fresh 0 0 (!w.params.followText "set-order")) } }) : codeAny (model prog w) A (.call (.builtin "set.__new__") ⟨[Value.type "set",a],[]⟩) (wants Q₁ E) s:=by
 refine codeAny_of_tree (show wpAny _ A.in1 (checkBuiltinCall "set.__new__" ⟨[.type "set",a],[]⟩ >>= fun _=>again (.builtin "set.__new__" ⟨[.type "set",a],[]⟩)) _ _ s from ?_);refine aj (wpAny_of_eq (PySem.F.newCall_set_1 a) (ak ⟨plainId_quiet PySem.F.plain_set_new _,codeAny_builtin PySem.F.entry_set_new ?_⟩));rw [Around.under_plainId PySem.F.plain_set_new];unfold Builtin.«set.__new__»;unfold Builtin.Frozenset.newClass;have sub:=sub_set_self;obtain ⟨hp,gs,d,tk,os⟩:=s;dsimp only
 wp_walk
 refine (wpAny_askSetting (ak ?_));dsimp only;simp only [newObj];exact aj (wpAny_alloc (ak (ak h)))
theorem wW {Q:aA->aM->Prop} {l:aB} {its:List aA} {ns:List Int} (calm:A.handled=none) (li:s.heap.IsList l its.toArray) (r:IntsAre its ns) (small:ns.length + 1 < scanBound) (k:∀ h' tk,pI prog w h' s.heap.objs.size (iI [] ns)->(∀ b o,s.heap.get? b=some o->h'.get? b=some o)->Q (.ref s.heap.objs.size) { s with heap:=h',toks:=tk }) : wpAny (model prog w) A (call (Value.type "set") [Value.ref l]) Q E s:=by
 refine qJ PySem.F.called_set (PySem.F.typeCall_set_1 _) (zu (.ref l) ?_)
 let o₀:Obj:={ cls:=.type "set",data:=.set #[] 0 (.fresh 0 0 (!w.params.followText "set-order")) }
 have there:(s.heap.push o₀).get? s.heap.objs.size=some o₀:=aC s.heap rfl;have ty:Shared.TypeIs { s with heap:=s.heap.push o₀ } (.ref s.heap.objs.size) "set":=⟨o₀,there,rfl⟩;refine ⟨ty,codeAny_call_builtin PySem.F.called_set.init.plain PySem.F.entry_set_init (check_set_init_1 ty ?_)⟩;have lt:l < s.heap.objs.size:=by obtain ⟨o,q,_⟩:=li; exact Heap.lt_size q
 have Zm:(s.heap.push o₀).IsList l its.toArray:=li.push o₀;obtain ⟨⟨c,d,dt,sl⟩,get,rfl,n,rfl⟩:=id Zm;have Zn:=PySem.F.sub_list_set; have Ii:=PySem.F.sub_list_frozenset;have notDict:(Value.type "list" == Value.type "dict")=false:=by decide
 unfold Builtin.«set.__init__»;unfold noKeywords;unfold Builtin.Frozenset.updateFrom;generalize vh:pyIter=PI
 wp_walk
 subst vh;refine wpAny_pyIter_list Zm (aj (wpAny_runValue ?_))
 let it₀:Obj:={ cls:=.type "list_iterator",data:=.fields #[.ref l,.int 0 0] }
 have vm:(s.heap.push o₀).objs.size=s.heap.objs.size + 1:=Heap.size_push _ _;refine xV (its:=its) (by simpa using calm) (by rw [vm]; exact Nat.ne_of_lt (Nat.lt_succ_self _)) (Nat.ne_of_gt lt) (by rw [vm]; exact Nat.ne_of_lt (Nat.lt_succ_of_lt lt)) ns its 0 [] _ r rfl (by simpa using small) ⟨it₀,aC _ rfl,rfl,rfl⟩ (Zm.push it₀) ?_ fun h' tk keep fin=>?_
 ·exact ⟨#[],0,_,au it₀ there,rfl,.fresh _,fun e he=>by simp at he,[],.nil,.nil⟩
 ·refine ak (show wpAny _ _ (ret Value.none) _ _ _ from ak ⟨rfl,k h' tk fin fun b o q=>?_⟩);have below:=Heap.lt_size q;exact keep b o (Nat.ne_of_lt below) (by rw [vm]; exact Nat.ne_of_lt (Nat.lt_succ_of_lt below)) (au it₀ (au o₀ q))
end
theorem Bq {α:Type} {l:List α} {i:Nat} (h:i < l.length):(l[i]::l.eraseIdx i).Perm l:=by
 rw [List.eraseIdx_eq_take_drop_succ];refine List.perm_middle.symm.trans ?_;rw [<- List.drop_eq_getElem_cons h,List.take_append_drop]
theorem xW {α:Type} (next:Nat->Nat):∀ (fuel k:Nat) (left:List α) (out:Array α),left.length=fuel->(pickOrder.go next fuel k left out).toList.Perm (out.toList++left)
 | 0,_,[],out,_=>by unfold pickOrder.go; simp
 | fuel + 1,k,left,out,e=>by
  have lt:next k % left.length < left.length:=Nat.mod_lt _ (by omega);unfold pickOrder.go;rw [aP lt];dsimp only;refine (xW next fuel (k + 1) _ _ (by rw [List.length_eraseIdx_of_lt lt]; omega)).trans ?_;rw [Array.toList_push,append_assoc];exact Perm.append_left _ (Bq lt)
section
variable {prog:cg} {w:World} {A:cW} {E:aA->aM->Prop} {s:aM}
theorem DN {M:Model} {src:Source} {n:Nat} {Q:Nat->aM->Prop} (hn:0 < n) (h:∀ i d,i < n->Q i { s with drawn:=d }):wpAny M A (choose src n) Q E s := fun _ _ _=>⟨Nat.ne_of_gt hn,h _ _ (Nat.mod_lt _ hn)⟩
theorem Gx {M:Model} {α:Type} {Q:List α->aM->Prop}:∀ (n:Nat) (xs:List α) (s:aM),xs.length=n->(∀ ys d,ys.Perm xs->Q ys { s with drawn:=d })->wpAny M A (drawOrder n xs) Q E s
 | 0,xs,s,e,q=>by
  cases xs with
  | nil=>unfold drawOrder; exact ak (q [] s.drawn (.refl _))
  | cons=>cases e
 | n + 1,xs,s,e,q=>by
  obtain ⟨x,xs',rfl⟩:∃ x l,xs=x::l:=by
   cases xs with
   | nil=>cases e
   | cons x l=>exact ⟨x,l,rfl⟩
  unfold drawOrder;refine aj (DN (by rw [e]; omega) fun i d hi=>?_);rw [aP hi];dsimp only;refine aj (Gx n _ _ (by rw [List.length_eraseIdx_of_lt hi]; omega) fun ys d' p=>?_);exact ak (q _ d' ((Perm.cons _ p).trans (Bq hi)))
noncomputable def Way (prog:cg) (w:World) (a:aB) (oS:Obj) (ep:Nat) (f:Nat->Nat) (vs:List aA):Prop := ∀ (A:cW) (E:aA->aM->Prop) (s:aM) (Q:Option (aA × Nat)->aM->Prop) (i:Nat),s.heap.get? a=some oS->i<=vs.length->Q ((vs[i]?).map fun v=>(v,f (i + 1))) s->wpAny (model prog w) A (setNext a (f i) i ep) Q E s
theorem KY {a:aB} {es:Array (Int × aA)} {ep:Nat} {t:SetTable} (hf:t.fits es.size=true) (hT:w.params.followText "set-order"=true) : Way prog w a { cls:=.type "set",data:=.set es ep t } ep (fun _=>0) ((pickOrder (w.params.setOrder a ep) es).toList.map (·.2)):=by
 intro A E s Q i ho hi q;unfold setNext setsByText;refine aj (wpAny_setState_of ho rfl hf (aj (aj (wpAny_askSetting (ak ?_)))))
 show wpAny _ _ (if w.params.followText "set-order"=true then _ else _) _ _ _
 rw [if_pos hT];simp only [↓reduceIte,bne_self_eq_false,Bool.false_eq_true];refine aj ?_;unfold setWalk setsByText;refine aj (wpAny_setState_of ho rfl hf (aj (aj (wpAny_askSetting (ak ?_)))))
 show wpAny _ _ (if w.params.followText "set-order"=true then _ else _) _ _ _
 rw [if_pos hT];refine aj (wpAny_askSetting (ak (ak ?_)));have e:((pickOrder (w.params.setOrder a ep) es)[i]?).map (fun e=>(e.2,0))=(((pickOrder (w.params.setOrder a ep) es).toList.map (·.2))[i]?).map fun v=>(v,0):=by
  rw [aU,Array.getElem?_toList,Option.map_map];rfl
 exact e ▸ q
def slotAt (t:SetTable):Nat->Nat
 | 0=>0
 | i + 1=>t.place.getD i 0 + 1
theorem DP {b:Bool} {t:SetTable} (T:iQ b t):∀ i,i<=t.place.size->SetTable.below t.place (slotAt t i)=i:=by
 intro i hi;obtain ⟨a1,a2,a3⟩:=below_at T.up (slotAt t i);cases i with
 | zero =>
  rcases Nat.eq_zero_or_pos (SetTable.below t.place (slotAt t 0)) with z | z
  ·exact z
  ·have lt:0 < t.place.size:=by omega
   have:=a1 0 _ z (Array.getElem?_eq_getElem lt);exact absurd this (Nat.not_lt_zero _)
 | succ m =>
  have em:t.place[m]?=some (t.place.getD m 0):=by
   rw [Array.getElem?_eq_getElem hi];simp [Array.getD,show m < t.place.size from hi]
  have m1:m < SetTable.below t.place (slotAt t (m + 1)):=by
   apply Nat.lt_of_not_le;intro z;have:=a2 m _ z em;simp only [slotAt] at this;omega
  have m2:¬ m + 1 < SetTable.below t.place (slotAt t (m + 1)):=by
   intro z;have lt:m + 1 < t.place.size:=by omega
   have en:t.place[m + 1]?=some (t.place[m + 1]):=Array.getElem?_eq_getElem lt;have l1:=a1 (m + 1) _ z en;rw [<- Array.getElem?_toList] at em en;obtain ⟨h1,e1⟩:=aN.mp em;obtain ⟨h2,e2⟩:=aN.mp en;have:=List.pairwise_iff_getElem.mp T.up m (m + 1) h1 h2 (Nat.lt_succ_self _);simp only [slotAt] at l1;omega
  omega
theorem IV {a:aB} {es:Array (Int × aA)} {ep:Nat} {t:SetTable} (hf:t.fits es.size=true) (hF:w.params.followText "set-order"=false) (T:iQ true t) (nd:(!t.plain && decide (es.size > 1))=false) : Way prog w a { cls:=.type "set",data:=.set es ep t } ep (slotAt t) (es.toList.map (·.2)):=by
 intro A E s Q i ho hi q;rw [aq,Array.length_toList] at hi;have sz:t.place.size=es.size:=by
  simp only [SetTable.fits,Bool.and_eq_true,beq_iff_eq] at hf;exact hf.1
 unfold setNext setsByText;refine aj (wpAny_setState_of ho rfl hf (aj (aj (wpAny_askSetting (ak ?_)))))
 show wpAny _ _ (if w.params.followText "set-order"=true then _ else _) _ _ _
 rw [if_neg (by rw [hF]; exact Bool.false_ne_true)]
 split
 ·rename_i c
  exact absurd (show (!t.plain && decide (es.size > 1))=true from c) (by rw [nd]; exact Bool.false_ne_true)
 ·refine aj (show wpAny _ _ (if (!t.led && !es.isEmpty)=true then unsupported "set:maker-not-led" else pure ()) _ _ _ from ?_);rw [T.led,if_neg (by simp)];refine ak ?_;rw [DP T i (by omega)];dsimp only;rw [aU,Array.getElem?_toList] at q;rcases Nat.lt_or_eq_of_le hi with c | c
  ·have e1:es[i]?=some es[i]:=Array.getElem?_eq_getElem c;have e2:t.place[i]?=some (t.place.getD i 0):=by
    rw [Array.getElem?_eq_getElem (by omega)];simp [Array.getD,show i < t.place.size by omega]
   rw [e1] at q ⊢;rw [e2];exact ak q
  ·rw [Array.getElem?_eq_none (by omega)] at q ⊢;exact ak q
theorem eN:Slot "set_iterator" "__next__" "set_iterator.__next__" := .of (owner:="set_iterator") (n:="__next__") (by rw [typeLookup_type]; rw [builtinLookup_eq_fast]; kernel_rfl) (by decide +kernel) (by decide +kernel) (by decide +kernel) (by first | exact .inr (by decide +kernel) | exact .inl (by decide +kernel)) (by rw [isSubtype_type]; kernel_rfl)
theorem lB:entryFor table "set_iterator.__next__"=some Builtin.«set_iterator.__next__»:=entryFor_of_fast (by kernel_rfl)
theorem mY (a:aA):argsOk "set_iterator.__next__" ⟨[a],[]⟩:=by unfold argsOk; kernel_rfl
theorem vL:entryFor table "set.__iter__"=some Builtin.«frozenset.__iter__» := entryFor_alias (id':="frozenset.__iter__") (by kernel_rfl) rfl (by decide +kernel) (by kernel_rfl)
def jA (h:Heap) (it a:aB) (x:aA) (i n ep:Nat):Prop:=∃ o,h.get? it=some o/\o.cls=.type "set_iterator"/\o.data=.fields #[x,.int i 0,.ref a,.int n 0,.int ep 0]
theorem DQ {it a:aB} {es:Array (Int × aA)} {ep i:Nat} {t:SetTable} {f:Nat->Nat} {vs:List aA} {Q:Option aA->aM->Prop} (calm:A.handled=none) (W:Way prog w a { cls:=.type "set",data:=.set es ep t } ep f vs) (hf:t.fits es.size=true) (ne:a≠it) (hn:vs.length=es.size) (I:jA s.heap it a (.int (f i) 0) i es.size ep) (ho:s.heap.get? a=some { cls:=.type "set",data:=.set es ep t }) (hi:i<=vs.length) (item:∀ v h',vs[i]?=some v->jA h' it a (.int (f (i + 1)) 0) (i + 1) es.size ep->Heap.SameBut it s.heap h'->Q (some v) { s with heap:=h' }) (stop:vs[i]?=none->∀ h',Heap.ExtBut it s.heap h'->Q none { s with heap:=h' }):wpAny (model prog w) A (pyNext (.ref it)) Q E s:=by
 obtain ⟨o,hit,hc,hd⟩:=I;have ty:s.TypeIs (.ref it) "set_iterator":=⟨o,hit,hc⟩;unfold pyNext;refine aj (wpAny_attempt (wpAny_callSpecial?_slot (name:=Str.ofString "__next__") ty eN (wpAny_call_entry eN ty lB ?_ (mY _))));unfold Builtin.«set_iterator.__next__»;refine aj (wpAny_of_eq (a:=(Value.ref it,[])) rfl (aj (wpAny_fieldsOf hit hd ?_)));dsimp only;refine aj (wpAny_setEntries_of ho rfl hf ?_);rw [if_neg (by simp)];refine aj (show wpAny _ _ (setNext a ((f i:Nat):Int).toNat ((i:Nat):Int).toNat ((ep:Nat):Int).toNat) _ _ _ from ?_);simp only [cD];refine W _ _ s _ i ho hi ?_;cases c:vs[i]? with
 | none =>
  dsimp only [Option.map];refine aj (wpAny_setField hit hd (by simp) (aj (m:=newExc (.type "StopIteration") []) ?_));simp only [newExc,newTuple];refine aj (wpAny_newObj_type (aj (m:=firstArgMember _ _) (wpAny_of_eq (a:=Value.none) (by first | rfl | (simp only [firstArgMember]; rfl)) (wpAny_newObj_type ?_ (by size_fits)))) (by size_fits));refine wpAny_raiseNew_none (show A.in1.handled=none from calm) (aj (wpAny_isInstance (T:="StopIteration") (b:=true) ⟨_,aC _ rfl,rfl⟩ isSubtype_stop ?_));exact ak (stop c _ (((Heap.SameBut.update ..).extBut.push _).push _))
 | some v =>
  dsimp only [Option.map];have d1:=Obj.data_mapFields hd fun v=>v.setIfInBounds 0 (rawInt (f (i + 1)))
  have g1:=Heap.get?_update_self (Obj.mapFields fun v=>v.setIfInBounds 0 (rawInt (f (i + 1)))) hit (Obj.isFreed_of_fields d1);refine aj (wpAny_setField hit hd (by simp) ?_);have d2:=Obj.data_mapFields d1 fun v=>v.setIfInBounds 1 (rawInt ((i:Int) + 1))
  have g2:=Heap.get?_update_self (Obj.mapFields fun v=>v.setIfInBounds 1 (rawInt ((i:Int) + 1))) g1 (Obj.isFreed_of_fields d2);refine aj (wpAny_setField g1 d1 (by simp) (ak ⟨v,rfl,ak (item v _ c ⟨_,g2,(Obj.cls_mapFields ..).trans ((Obj.cls_mapFields ..).trans hc),?_⟩ ((Heap.SameBut.update ..).trans (Heap.SameBut.update ..)))⟩));rw [d2];simp [rawInt]
theorem Br {it a tp:aB} {es:Array (Int × aA)} {ep i m:Nat} {t:SetTable} {ps:List Nat} {ot:Obj} {Q:Option aA->aM->Prop} (calm:A.handled=none) (hf:t.fits es.size=true) (hn:ps.length=es.size) (lt:∀ j ∈ ps,j < es.size) (I:jA s.heap it a (.ref tp) i es.size ep) (ho:s.heap.get? a=some { cls:=.type "set",data:=.set es ep t }) (ht:s.heap.get? tp=some ot) (hdt:ot.data=.seq (ps.map fun j:Nat=>rawInt j).toArray m) (hi:i<=ps.length) (item:∀ v h',(ps.map fun j=>(es.getD j (0,.none)).2)[i]?=some v->jA h' it a (.ref tp) (i + 1) es.size ep->Heap.SameBut it s.heap h'->Q (some v) { s with heap:=h' }) (stop:(ps.map fun j=>(es.getD j (0,.none)).2)[i]?=none->∀ h',Heap.ExtBut it s.heap h'->Q none { s with heap:=h' }):wpAny (model prog w) A (pyNext (.ref it)) Q E s:=by
 obtain ⟨o,hit,hc,hd⟩:=I;have ty:s.TypeIs (.ref it) "set_iterator":=⟨o,hit,hc⟩;unfold pyNext;refine aj (wpAny_attempt (wpAny_callSpecial?_slot (name:=Str.ofString "__next__") ty eN (wpAny_call_entry eN ty lB ?_ (mY _))));unfold Builtin.«set_iterator.__next__»;refine aj (wpAny_of_eq (a:=(Value.ref it,[])) rfl (aj (wpAny_fieldsOf hit hd ?_)));dsimp only;refine aj (wpAny_setEntries_of ho rfl hf ?_);rw [if_neg (by simp)];refine aj (wpAny_seqItems ht hdt ?_);dsimp only;simp only [cD,List.getElem?_toArray,aU];cases c:ps[i]? with
 | none =>
  have d1:=Obj.data_mapFields hd fun v=>v.setIfInBounds 0 (rawInt 0)
  have g1:=Heap.get?_update_self (Obj.mapFields fun v=>v.setIfInBounds 0 (rawInt 0)) hit (Obj.isFreed_of_fields d1);dsimp only [Option.map];refine aj (wpAny_setField hit hd (by simp) (aj (wpAny_setField g1 d1 (by simp) (aj (m:=newExc (.type "StopIteration") []) ?_))));simp only [newExc,newTuple];refine aj (wpAny_newObj_type (aj (m:=firstArgMember _ _) (wpAny_of_eq (a:=Value.none) (by first | rfl | (simp only [firstArgMember]; rfl)) (wpAny_newObj_type ?_ (by size_fits)))) (by size_fits));refine wpAny_raiseNew_none (show A.in1.handled=none from calm) (aj (wpAny_isInstance (T:="StopIteration") (b:=true) ⟨_,aC _ rfl,rfl⟩ isSubtype_stop ?_));exact ak (stop (by rw [aU,c]; rfl) _ ((((Heap.SameBut.update ..).trans (Heap.SameBut.update ..)).extBut.push _).push _))
 | some j =>
  have lj:j < es.size:=lt j (aW c);dsimp only [Option.map,rawInt];unfold setNextDrawn;refine aj (aj (wpAny_setState_of ho rfl hf ?_));simp only [cD,bne_self_eq_false,Bool.false_eq_true,↓reduceIte];have ej:es[j]?=some (es.getD j (0,.none)):=by
   rw [Array.getElem?_eq_getElem lj];simp [Array.getD,lj]
  rw [ej];refine ak ?_;have d1:=Obj.data_mapFields hd fun v=>v.setIfInBounds 1 (rawInt ((i:Int) + 1))
  have g1:=Heap.get?_update_self (Obj.mapFields fun v=>v.setIfInBounds 1 (rawInt ((i:Int) + 1))) hit (Obj.isFreed_of_fields d1);refine aj (wpAny_setField hit hd (by simp) (ak ⟨(es.getD j (0,.none)).2,rfl,ak (item _ _ (by rw [aU,c]; rfl) ⟨_,g1,(Obj.cls_mapFields ..).trans hc,?_⟩ (Heap.SameBut.update ..))⟩));rw [d1];simp [rawInt]
theorem mZ:Slot "set_iterator" "__iter__" "set_iterator.__iter__" := .of (owner:="set_iterator") (n:="__iter__") (by rw [typeLookup_type]; rw [builtinLookup_eq_fast]; kernel_rfl) (by decide +kernel) (by decide +kernel) (by decide +kernel) (by first | exact .inr (by decide +kernel) | exact .inl (by decide +kernel)) (by rw [isSubtype_type]; kernel_rfl)
theorem rP:entryFor table "set_iterator.__iter__"=some Builtin.«dict_keyiterator.__iter__» := entryFor_alias (id':="dict_keyiterator.__iter__") (by kernel_rfl) (by rfl) (by decide +kernel) (by kernel_rfl)
theorem uo (a:aA):argsOk "set_iterator.__iter__" ⟨[a],[]⟩:=by unfold argsOk; kernel_rfl
theorem tX {it a:aB} {X:Nat->aA} {n ep:Nat} {vs:List aA} {fp:List aB} {keep:Heap->Prop} (out:it ∉ fp) (kf:∀ h h',keep h->(∀ b ∈ fp,∀ o,h.get? b=some o->h'.get? b=some o)->keep h') (hv:vs.length=n) (nxt:∀ i (s:aM) (Q:Option aA->aM->Prop) (E:aA->aM->Prop),keep s.heap->jA s.heap it a (X i) i n ep->i<=n -> (∀ v h',vs[i]?=some v->jA h' it a (X (i + 1)) (i + 1) n ep->Heap.SameBut it s.heap h'->Q (some v) { s with heap:=h' })->(vs[i]?=none->∀ h',Heap.ExtBut it s.heap h'->Q none { s with heap:=h' })->wpAny (model prog w) A (pyNext (.ref it)) Q E s) : WalksS prog w A it (it::fp) [it] (fun a b=>b=a) n (fun i v=>vs[i]?=some v) (fun i s=>jA s.heap it a (X i) i n ep/\keep s.heap) where
 sub:=fun b hb=>by rw [aO.mp hb]; exact mem_cons_self
 grefl:=fun _=>rfl
 gtrans:=fun _ _ _ p q=>q.trans p
 frame:=fun i s h' _ st _ hk=>by
  obtain ⟨⟨o,h1,h2⟩,k⟩:=st;exact ⟨⟨o,hk it mem_cons_self o h1,h2⟩,kf _ _ k fun b hb=>hk b (mem_cons_of_mem _ hb)⟩
 item:=fun i s Q E hi st q=>nxt i s Q E st.2 st.1 (Nat.le_of_lt hi) (fun v h' e I sb=>q v _ e ⟨I,kf _ _ st.2 fun b hb o z=>(sb.2 b fun y=>out (y ▸ hb)).trans z⟩ ⟨fun b o hb z=>(sb.2 b fun y=>hb (by simp [y])).trans z,rfl,rfl,rfl,aJ _⟩) fun z=>by rw [aP (by omega)] at z; cases z
 done:=fun s Q E st q=>nxt n s Q E st.2 st.1 (aJ _) (fun v h' e I sb=>by rw [List.getElem?_eq_none (by omega)] at e; cases e) fun _ h' ext=>q _ ⟨fun b o hb z=>ext b o (fun y=>hb (by simp [y])) z,rfl,rfl,rfl,aJ _⟩
 self:=fun i s Q E st q=>by
  obtain ⟨⟨o,h1,h2,_⟩,_⟩:=st;have ty:s.TypeIs (.ref it) "set_iterator":=⟨o,h1,h2⟩;exact wpAny_pyIter_slot ty mZ (wpAny_call_entry mZ ty rP (show wpAny _ _ (slotArgs "__iter__" 0 ⟨[.ref it],[]⟩ >>= fun p=>ret p.1) _ _ _ from aj (wpAny_of_eq (a:=(Value.ref it,[])) rfl (ak ⟨_,rfl,_,_,ty,eN.lookup,q⟩))) (uo _))
theorem IW {a:aB} {ns:List Int} {Q:aA->aM->Prop} (calm:A.handled=none) (small:ns.length < scanBound) (S:pI prog w s.heap a ns) (k:∀ (it:aB) (h':Heap) (d:Drawn) (n:Nat) (vs:List aA) (fp:List aB) (St:Nat->aM->Prop) (ms:List Int),WalksS prog w A it fp [it] (fun a b=>b=a) n (fun i v=>vs[i]?=some v) St->St 0 { s with heap:=h',drawn:=d }->vs.length=n->IntsAre vs ms->ms.Perm ns -> (∀ b ∈ fp,b=a\/s.heap.objs.size<=b)->s.heap.objs.size<=it->(∀ b o,s.heap.get? b=some o->h'.get? b=some o)->Q (.ref it) { s with heap:=h',drawn:=d }):wpAny (model prog w) A (pyIter (.ref a)) Q E s:=by
 obtain ⟨es,ep,t,ho,hf,T,hel,ms,r,p⟩:=S;have ty:s.TypeIs (.ref a) "set":=⟨_,ho,rfl⟩;have la:=Heap.lt_size ho;have len:es.size=ms.length:=by
  have:=IntsAre.length r;rw [aq,Array.length_toList] at this;exact this
 have big:∀ {h h':Heap},(∀ b ∈ [a],∀ o,h.get? b=some o->h'.get? b=some o)->∀ o,h.get? a=some o->h'.get? a=some o:=fun z=>z a (by simp)
 refine wpAny_pyIter_slot ty PySem.F.slot_set_iter (wpAny_call_entry PySem.F.slot_set_iter ty vL ?_ (PySem.F.args_set_iter_1 _));unfold Builtin.«frozenset.__iter__» Builtin.Frozenset.slot0 Builtin.Frozenset.sizeOf setDrawn;refine aj (aj (wpAny_of_eq (a:=(Value.ref a,[])) rfl (ak ?_)));refine aj (aj (wpAny_setEntries_of ho rfl hf (ak ?_)));refine aj (aj (wpAny_setState_of ho rfl hf (aj (aj (wpAny_askSetting (ak (ak ?_)))))))
 show wpAny _ _ (if (!w.params.followText "set-order" && (!t.plain && decide (es.size > 1)))=true then _ else _) _ _ _
 have push:∀ (h:Heap) (x:aA),(∀ b o,s.heap.get? b=some o->h.get? b=some o)->jA (h.push { cls:=.type "set_iterator",data:=.fields #[x,.int 0 0,.ref a,.int es.size 0,.int ep 0] }) h.objs.size a x 0 es.size ep:=fun h x _=>⟨_,aC _ rfl,rfl,rfl⟩
 split
 ·rename_i c
  refine aj (Gx es.size (List.range es.size) s (by simp) fun ps d pp=>?_);have pl:ps.length=es.size:=by rw [pp.length_eq,length_range]
  have lt:∀ j ∈ ps,j < es.size:=fun j hj=>mem_range.mp (pp.mem_iff.mp hj)
  refine aj (wpAny_newTuple ?_ (by rw [aq,pl,len,p.length_eq]; exact fits_of_scanBound small));have ho1:(s.heap.push (seqObj "tuple" (ps.map fun j:Nat=>rawInt j).toArray 0)).get? a=some { cls:=.type "set",data:=.set es ep t }:=au _ ho;refine aj (wpAny_setEpoch_of ho1 rfl hf (aj (wpAny_newObj_type (ak ⟨_,rfl,"set_iterator",_,⟨_,aC _ rfl,rfl⟩,eN.lookup,?_⟩))));have pv:(ps.map fun j=>(es.getD j (0,.none)).2).Perm (es.toList.map (·.2)):=by
   refine (pp.map _).trans (Perm.of_eq ?_);apply ext_getElem?;intro j;rw [aU,aU,Array.getElem?_toList (xs:=es)];rcases Nat.lt_or_ge j es.size with z | z
   ·rw [List.getElem?_range z,Array.getElem?_eq_getElem z];simp [Array.getD,z]
   ·rw [Array.getElem?_eq_none z,List.getElem?_eq_none (by simpa using z)];rfl
  obtain ⟨ms',r',p'⟩:=IntsAre.perm pv r;have hv:(ps.map fun j=>(es.getD j (0,.none)).2).length=es.size:=by rw [aq,pl]
  have z1:(s.heap.push (seqObj "tuple" (ps.map fun j:Nat=>rawInt j).toArray 0)).objs.size=s.heap.objs.size + 1:=Heap.size_push _ _
  let otp:Obj:=seqObj "tuple" (ps.map fun j:Nat=>rawInt j).toArray 0
  refine show Q (.ref (s.heap.push otp).objs.size) { s with heap:=(s.heap.push otp).push { cls:=.type "set_iterator",data:=.fields #[.ref s.heap.objs.size,.int 0 0,.ref a,.int es.size 0,.int ep 0] },drawn:=d } from ?_;rw [show (s.heap.push otp).objs.size=s.heap.objs.size + 1 from z1];refine k (s.heap.objs.size + 1) _ d es.size _ [s.heap.objs.size + 1,a,s.heap.objs.size] _ ms' (tX (a:=a) (ep:=ep) (X:=fun _=>.ref s.heap.objs.size) (keep:=fun h=>h.get? a=some { cls:=.type "set",data:=.set es ep t }/\h.get? s.heap.objs.size=some otp) (fun z=>(aQ.mp z).elim (Nat.ne_of_gt (Nat.lt_succ_of_lt la)) fun z=>Nat.ne_of_gt (Nat.lt_succ_self _) (aO.mp z)) (fun h h' z q=>⟨q a (by simp) _ z.1,q s.heap.objs.size (by simp) _ z.2⟩) hv fun i s' Q E kp I hi item stop=>?_) ⟨?_,?_,?_⟩ hv r' (p'.trans p) (fun b hb=>?_) (Nat.le_succ _) (fun b o q=>au _ (au _ q))
  ·exact Br calm hf pl lt I kp.1 kp.2 rfl (by rw [pl]; exact hi) item stop
  ·exact ⟨_,by rw [<- z1]; exact aC _ rfl,rfl,rfl⟩
  ·exact au _ ho1
  ·exact au _ (aC s.heap rfl)
  ·rcases aQ.mp hb with z | z
   ·rw [z]; exact .inr (Nat.le_succ _)
   rcases aQ.mp z with z | z
   ·exact .inl z
   ·rw [aO.mp z]; exact .inr (aJ _)
 ·rename_i c
  refine aj (ak (aj (wpAny_setEpoch_of ho rfl hf (aj (wpAny_newObj_type (ak ⟨_,rfl,"set_iterator",_,⟨_,aC _ rfl,rfl⟩,eN.lookup,?_⟩))))));have all:∀ (f:Nat->Nat) (vs:List aA),f 0=0->Way prog w a { cls:=.type "set",data:=.set es ep t } ep f vs->vs.Perm (es.toList.map (·.2))->Q (.ref s.heap.objs.size) { s with heap:=s.heap.push { cls:=.type "set_iterator",data:=.fields #[.int 0 0,.int 0 0,.ref a,.int es.size 0,.int ep 0] } }:=by
   intro f vs f0 W pv;obtain ⟨ms',r',p'⟩:=IntsAre.perm pv r;have hv:vs.length=es.size:=by rw [pv.length_eq,aq,Array.length_toList]
   have ne:a≠s.heap.objs.size:=Nat.ne_of_lt la;refine k s.heap.objs.size _ s.drawn es.size vs [s.heap.objs.size,a] _ ms' (tX (a:=a) (ep:=ep) (X:=fun i=>.int (f i) 0) (vs:=vs) (keep:=fun h=>h.get? a=some { cls:=.type "set",data:=.set es ep t }) (by simpa using fun z=>ne z.symm) (fun h h' z q=>q a (by simp) _ z) hv fun i s Q E kp I hi item stop=>?_) ⟨?_,?_⟩ hv r' (p'.trans p) (fun b hb=>?_) (aJ _) (fun b o=>au _)
   ·exact DQ calm W hf ne hv I kp (by rw [hv]; exact hi) item stop
   ·show jA _ _ _ (.int (f 0) 0) 0 _ _
    rw [f0];exact ⟨_,aC _ rfl,rfl,rfl⟩
   ·exact au _ ho
   ·rcases aQ.mp hb with z | z
    ·rw [z]; exact .inr (aJ _)
    ·exact .inl (aO.mp z)
  cases hT:w.params.followText "set-order" with
  | true =>
   refine all _ _ rfl (KY hf hT) ?_;have:=xW (w.params.setOrder a ep) es.size 0 es.toList #[] (by simp);simp only [nil_append] at this;exact (show (pickOrder (w.params.setOrder a ep) es).toList.Perm es.toList from this).map _
  | false =>
   rw [hT] at T c;exact all _ _ rfl (IV hf hT T (by simpa using c)) (.refl _)
end
section
variable {prog:cg} {w:World} {A:cW} {E:aA->aM->Prop} {s:aM}
theorem wX:∀ {vs:List aA} {ms:List Int} {acc:Array aA},IntsAre vs ms->ItemsOf (fun i v=>vs[i]?=some v) acc vs.length->acc.toList=vs:=by
 intro vs ms acc r h;apply ext_getElem?;intro i;rw [Array.getElem?_toList];rcases Nat.lt_or_ge i acc.size with z | z
 ·have e:=Array.getElem?_eq_getElem z;rw [h.2 i _ e,e]
 ·rw [Array.getElem?_eq_none z,List.getElem?_eq_none (by rw [<- h.1]; exact z)]
theorem Gy {M:Model} {α:Type} {c:Prop} [Decidable c] {a b:Sem α} {Q:α->aM->Prop} (h:c) (k:wpAny M A a Q E s):wpAny M A (if c then a else b) Q E s:=by
 rw [if_pos h];exact k
theorem zx {a:aB} {ns:List Int} {Q:List aA->aM->Prop} (calm:A.handled=none) (small:ns.length < scanBound) (S:pI prog w s.heap a ns) (k:∀ vs ms s',IntsAre vs ms->ms.Perm ns->(∀ b o,s.heap.get? b=some o->s'.heap.get? b=some o)->s'.gens=s.gens->s'.os=s.os->s.heap.objs.size<=s'.heap.objs.size->Q vs s'):wpAny (model prog w) A (collect (.ref a)) Q E s:=by
 obtain ⟨es,ep,t,ho,_⟩:=id S;have la:=Heap.lt_size ho;have neA:s.heap.objs.size≠a:=Nat.ne_of_gt la
 let l₀:Obj:={ cls:=.type "list",data:=.seq ([]:List aA).toArray }
 have ho1:(s.heap.push l₀).get? a=some { cls:=.type "set",data:=.set es ep t }:=au _ ho;have ty:({ s with heap:=s.heap.push l₀ }:aM).TypeIs (.ref a) "set":=⟨_,ho1,rfl⟩;have ad6:A.in1.handled=none:=calm;unfold collect;refine aj (wpAny_runValue (codeAny_builtin PySem.F.entry_proto_collect ?_));rw [Around.under_plainId PySem.F.plain_proto_collect];refine show wpAny _ A.in1 (newList [] >>= fun l=>again (.builtin "list.__iadd__" ⟨[l,.ref a],[]⟩)) _ _ s from aj (wpAny_newObj_type (ak ⟨plainId_quiet PySem.F.plain_list_iadd _,codeAny_builtin PySem.F.entry_list_iadd ?_⟩));rw [Around.under_plainId PySem.F.plain_list_iadd];refine show wpAny _ A.in1 (Builtin.List.listExtendWith (.ref s.heap.objs.size) (.ref a) (.ref s.heap.objs.size)) _ _ { s with heap:=s.heap.push l₀ } from ?_;unfold Builtin.List.listExtendWith; refine aj (wpAny_typeOf ty ?_);have n1:Builtin.List.listSameRef (.ref s.heap.objs.size) (.ref a)=false:=by simp [Builtin.List.listSameRef,neA]
 have n2:(Value.type "set" == Value.type "list")=false:=by decide
 have n3:(Value.type "set" == Value.type "tuple")=false:=by decide
 simp only [n1,n2,n3,Bool.or_false,Bool.false_eq_true,if_false];refine aj (IW ad6 small (S.at fun o=>au _) fun it h' d n vs fp St ms W st hv r p lt le keep=>?_);have T9:=keep s.heap.objs.size _ (aC _ rfl);have zl:(s.heap.push l₀).objs.size=s.heap.objs.size + 1:=Heap.size_push _ _;have ty':({ s with heap:=h',drawn:=d }:aM).TypeIs (.ref a) "set":=⟨_,keep a _ ho1,rfl⟩;refine aj (wpAny_holding (?_));unfold Builtin.List.listLengthHint; refine aj (wpAny_specialOf ty' PySem.F.slot_set_len.lookup ?_);have sp:splitId "set.__len__"=some ("set","__len__"):=by decide +kernel
 dsimp only;rw [sp];dsimp only;refine aj (wpAny_isInstance ty' sub_set_self ?_);simp only [Bool.false_eq_true,Bool.not_true,if_false];refine Gy (by decide +kernel) (aj (wpAny_typeOf ty' (ak (Gy (by decide +kernel) ?_))));have sf:s.heap.objs.size ∉ fp:=fun z=>by
  rcases lt _ z with z | z
  ·exact neA z
  ·rw [zl] at z;exact cX _ z
 let g:Heap:=(h'.update s.heap.objs.size (Obj.mapSeq (·.push Value.none))).update s.heap.objs.size (Obj.mapSeq (·.pop))
 refine aj (wpAny_rule (aj ?_));refine show wpAny _ A.in1 (updateSeq s.heap.objs.size (·.push .none) >>= fun _=>updateSeq s.heap.objs.size (·.pop)) _ _ _ from aj (wpAny_updateSeq T9 rfl ?_);have e2:=Heap.get?_update_self (Obj.mapSeq (·.push Value.none)) T9 rfl;refine wpAny_updateSeq e2 rfl ?_;have e3:=Heap.get?_update_self (Obj.mapSeq (·.pop)) e2 rfl;have oth:∀ b o,b≠s.heap.objs.size->h'.get? b=some o->g.get? b=some o:=fun b o hb e=>(Heap.get?_update_other _ _ (Ne.symm hb)).trans ((Heap.get?_update_other _ _ (Ne.symm hb)).trans e)
 have nl:n<=sizeLine:=by
  have:=IntsAre.length r;have:=p.length_eq;exact bw (by omega) (fits_of_scanBound small)
 refine ak ⟨plainId_quiet PySem.F.plain_extend_loop _,codeAny_extend_loopS W nl _ sf _ n 0 _ _ _ rfl (dR _) (W.frame 0 ({ s with heap:=h',drawn:=d }:aM) _ s.toks st (aJ _) fun b hb o e=>oth b o (fun z=>sf (z ▸ hb)) e) e3 (ItemsOf.nil _) fun s' acc c' hm hS' hacc=>?_⟩;refine show wpAny _ A (load s.heap.objs.size >>= _) _ _ s' from aj (wpAny_load hS' (ak ?_));rw [wX r (by rw [hv]; exact hacc)];refine k vs ms s' r p (fun b o q=>?_) hm.gens hm.os (Nat.le_of_lt (Heap.lt_size hS'));have lb:=Heap.lt_size q;refine hm.heap b o ?_ (oth b o (Nat.ne_of_lt lb) (keep b o (au _ q)));intro z;rcases aQ.mp z with z | z
 ·exact absurd z (Nat.ne_of_lt lb)
 ·rw [aO.mp z] at lb;rw [zl] at le;exact absurd (aZ lb (Nat.le_of_succ_le le)) (cX _)
theorem Bs {a:aB} {ns:List Int} {Q:aA->aM->Prop} (calm:A.handled=none) (small:ns.length < 64) (S:pI prog w s.heap a ns) (k:∀ (l:aB) (out:List aA) (ms:List Int) (e:Nat) (s':aM),IntsAre out ms->ms.Perm ns->ms.Pairwise (·<=·)->s.heap.objs.size<=l->s'.heap.get? l=some (seqObj "list" out.toArray e)->(∀ b o,s.heap.get? b=some o->s'.heap.get? b=some o)->s'.gens=s.gens->s'.os=s.os->Q (.ref l) s') : wpAny (model prog w) A (call (.builtin "sorted") [.ref a]) Q E s:=by
 obtain ⟨es,ep,t,ho,_⟩:=id S;refine Calls.call_function_entry kind_sorted plain_sorted entry_sorted (args_sorted1 (.ref a)) ?_;unfold Builtin.«sorted»;refine aj (m:=checkCount "sorted" 1 1 _) (ak (aj (zx (show A.in1.handled=none from calm) (by unfold scanBound; omega) S fun vs ms s' r p keep hg ho' grow=>?_)));have lv:vs.length < 64:=by have:=IntsAre.length r; have:=p.length_eq; omega
 refine aj (wpAny_newList ?_ (by have:=sizeLine_eq; omega));have at_:(s'.heap.push (seqObj "list" vs.toArray 0)).get? s'.heap.objs.size=some (seqObj "list" vs.toArray 0):=aC _ rfl;refine aj (wpAny_holding (wpAny_call_entry slot_list_sort ⟨_,at_,rfl⟩ entry_list_sort (list_sort_tree at_ r lv fun out ms' a1 a2 a3=>⟨_,rfl,?_⟩) (args_list_sort _)));obtain ⟨e,fin⟩:=sortedHeap_at (vs:=vs) (out:=out) at_;refine ak ⟨_,rfl,k s'.heap.objs.size out.toList ms' e _ a1 (a2.trans p) a3 grow (by simpa using fin) (fun b o q=>?_) hg ho'⟩;have q1:=keep b o q;have lb:=Heap.lt_size q1
 show (sortedHeap _ _ _ _).get? b=some o
 rw [sortedHeap_old (Nat.ne_of_lt lb) (by rw [Heap.size_push]; exact Nat.lt_succ_of_lt lb)];exact au _ q1
end
def zy (P:cg) (w:World) (a:aB) (ns:List Int):HO:=.ext fun h=>pI P w h a ns
section
variable {X:Cx}
theorem Ja (hc:X.calm=true):gq X (.type "set") (fun xs H Q=>∃ p ns,xs=[.ref p]/\cU X.K H p (ns.map V.int)/\ns.length + 1 < scanBound/\∀ l,H l=none->Q (.ref l) (upd H l (zy X.prog X.w l (iI [] ns)))):=by
 intro pins s σ H xs us Q I r h;obtain ⟨p,ns,rfl,hq,hb,q⟩:=h;obtain ⟨u,rfl,rx⟩:=Vals.one r;cases rx;obtain ⟨its,rv,pl,hz⟩:=I.list hq;refine wW (I.ok.hd hc) pl.isList (intsAre_of rv) hb fun h' tk hS hk=>?_
 refine ⟨.ref s.heap.objs.size,_,I.laid (a:=s.heap.objs.size) (o:=zy X.prog X.w s.heap.objs.size (iI [] ns)) hk (aJ _) ?_,rfl,q _ (I.hok.fresh (aJ _))⟩;obtain ⟨es,ep,t,ho,rest⟩:=id hS;exact ⟨hS,⟨_,ho⟩,fun h1 h2 p k=>p.at k⟩
theorem Inv.dr {pins:List (aB × Obj)} {σ:List (Option V)} {H:Hp} {s:aM} {d:Drawn} (I:Inv X pins σ H s):Inv X pins σ H { s with drawn:=d }:=⟨I.ok,I.os,I.bare,I.base,I.loc,I.cell,I.free,I.jf,I.pin,I.hok,I.len⟩
theorem DR (hc:X.calm=true):gq X (.builtin "sorted") (fun xs H Q=>∃ p ns,xs=[.ref p]/\H p=some (zy X.prog X.w p ns)/\ns.length < 64/\∀ l (out:List Int),H l=none->out.Perm ns->out.Pairwise (·<=·)->Q (.ref l) (upd H l (.lst (out.map V.int)))):=by
 intro pins s σ H xs us Q I r h;obtain ⟨p,ns,rfl,e,hb,q⟩:=h;obtain ⟨u,rfl,rx⟩:=Vals.one r;cases rx;obtain ⟨hS,_⟩:=(show eV X.prog X.w H s.heap p (zy X.prog X.w p ns) from I.hok p _ e);refine Bs (I.ok.hd hc) hb hS fun l out ms e s' r p up le at_ keep hg ho=>?_
 obtain ⟨h',g',d',t',o'⟩:=s';dsimp only at hg ho;subst hg; subst ho;have J:=(Inv.dr (d:=d') I).laid (a:=l) (o:=.lst (ms.map V.int)) (h':=h') (t':=t') keep le ⟨?_,out,e,rM r,at_⟩
 ·exact ⟨.ref l,_,J,rfl,q l ms (I.hok.fresh le) p up⟩
 ·rw [aq,p.length_eq,sizeLine_eq];omega
end
theorem Bt {xs out:List Int} (p:out.Perm (iI [] xs)) (up:out.Pairwise (·<=·)):xs=out ↔ xs.Pairwise (· < ·):=by
 have nd:out.Nodup:=p.nodup_iff.mpr (vK .nil);have up':out.Pairwise (· < ·):=by
  have:=up.and nd;exact this.imp fun h=>by have:=h.1; have:=h.2; omega
 constructor
 ·rintro rfl;exact up'
 ·intro h;have n2:xs.Nodup:=h.imp fun h=>by omega
  refine PySem.W.ksm_same ((List.perm_ext_iff_of_nodup n2 nd).mpr fun a=>?_) (h.imp fun h=>by omega) up;rw [p.mem_iff,Bo];simp
theorem DW:∀ {kvs:List (Key × V)} {vs:List (Key × aA)} {k:Key},KV kvs vs->(∀ p ∈ kvs,p.1≠k)->∀ q ∈ vs,q.1≠k
 | _,_,_,.nil,_=>fun q hq=>nomatch hq
 | _,_,_,.cons h t,n=>fun q hq=>by
  rcases aQ.mp hq with z | z
  ·rw [z,<- h.1];exact n _ (by simp)
  ·exact DW t (fun p hp=>n p (by simp [hp])) q z
section
variable {X:Cx}
theorem KZ {pos:Pos}:PE X (.Dict [] [] pos) (fun _ H Q=>∀ p,H p=none->Q (.ref p) (upd H p (.dK []))):=by
 intro pins s σ H Q I h;refine wpAny_Dict_empty ⟨.ref s.heap.objs.size,_,I.laid (a:=s.heap.objs.size) (o:=.dK []) (t':=s.toks) (fun _ _ q=>au _ q) (aJ _) ?_,rfl,h _ (I.hok.fresh (aJ _))⟩;exact ⟨dR _,beq_eq_false_iff_ne.mpr (Ne.symm (Nat.ne_of_lt I.Im)),[],.nil,Heap.DictOf.new _⟩
def aiL:R2:=fun x y H Q=>∃ (D:aB) (kvs:List (Key × V)) (n:Str),x=.str n/\y=.ref D/\H D=some (.dK kvs)/\(∀ p ∈ kvs,p.1≠Sum.inr n)/\Q (.bl false) H
theorem ZJ:pD X (compareOp .In) aiL:=by
 intro pins s σ H x y v u Q I rx ry h;obtain ⟨D,kvs,n,rfl,rfl,hD,nk,q⟩:=h;obtain ⟨t,rfl⟩:=(show ∃ t,v=Value.str n t from rx);cases ry;obtain ⟨z,hd,vs,rel,dd⟩:=(show eV X.prog X.w H s.heap D (.dK kvs) from I.hok D _ hD);refine wpAny_in_of (tR X.prog X.w n t) hd dd.mapOf ?_;have e:valueAt vs (Sum.inr n)=none:=by
  unfold valueAt;rw [List.find?_eq_none.mpr fun q hq=>by simpa using DW rel nk q hq];rfl
 rw [e];exact ⟨.bl _,H,I.tok _,rfl,q⟩
def ad7:QV:=fun o i v H Q=>∃ (D:aB) (kvs:List (Key × V)) (n:Str),o=.ref D/\i=.str n/\H D=some (.dK kvs)/\(∀ p ∈ kvs,p.1≠Sum.inr n)/\kvs.length < sizeLine/\Q (upd H D (.dK (kvs++[(Sum.inr n,v)])))
theorem Jb:adx X ad7:=by
 intro pins s σ H o i v ov iv u Q I ro ri rv h;obtain ⟨D,kvs,n,rfl,rfl,hD,nk,lz,q⟩:=h;cases ro;obtain ⟨t,rfl⟩:=(show ∃ t,iv=Value.str n t from ri);obtain ⟨z,hd,vs,rel,dd⟩:=(show eV X.prog X.w H s.heap D (.dK kvs) from I.hok D _ hD);have lv:kvs.length=vs.length:=Paired.length rel;refine wpAny_setItem_pairs (hsz:=by omega) (tR X.prog X.w n t) dd fun h' dd' hs=>?_
 have st:stored vs (Sum.inr n) u=vs++[(Sum.inr n,u)]:=by
  unfold stored;rw [if_neg];intro y;obtain ⟨q',hq',eq'⟩:=List.any_eq_true.mp y;exact DW rel nk q' hq' (of_decide_eq_true eq')
 rw [st] at dd';have he:∃ q,h'.get? D=some q:=let ⟨q,_,_,hq,_⟩:=dd'; ⟨q,hq⟩;refine ⟨_,I.write (x:=D) (e:=D) (o:=.dK (kvs++[(Sum.inr n,v)])) (by rw [hD]; trivial) (.inl rfl) (fun b z nb e=>(hs.2 b nb).trans e) he ?_,q⟩;exact ⟨by rw [aR]; exact lz,hd,_,Paired.snoc rel ⟨rfl,rv⟩,dd'⟩
theorem pN (K:Fg) (hK:autoParam (X.K=K) zau0):gq X (.builtin "len") (fun xs H Q=>∃ p ys,xs=[.ref p]/\(cU K H p ys\/gY K H p ys)/\Q (.int ys.length) H):=by
 subst hK;exact eU
end
end L2
namespace Tw
open PySem L2
abbrev Ln:=List Nat
def iw (c:Nat):Ln->List Ln
 | []=>[[]]
 | x::xs=>if x=c then []::iw c xs else match iw c xs with
  | []=>[[x]]
  | p::ps=>(x::p)::ps
def iC (s:Ln):List Ln->Ln
 | []=>[]
 | [p]=>p
 | p::q::ps=>p++s++iC s (q::ps)
theorem j8 {c:Nat}:∀ {w:Ln},c ∉ w->∀ l,iw c (w++c::l)=w::iw c l
 | [],_,l=>by
  show iw c (c::l)=_
  rw [iw,if_pos rfl]
 | x::w,h,l=>by
  have hx:¬ x=c:=fun z=>h (by rw [z]; simp)
  have ih:=j8 (c:=c) (w:=w) (fun z=>h (mem_cons_of_mem _ z)) l
  show iw c (x::(w++c::l))=_
  rw [iw,if_neg hx,ih]
theorem rQ {c:Nat}:∀ {w:Ln},c ∉ w->iw c w=[w]
 | [],_=>rfl
 | x::w,h=>by
  have hx:¬ x=c:=fun z=>h (by rw [z]; simp)
  rw [iw,if_neg hx,rQ (c:=c) (w:=w) (fun z=>h (mem_cons_of_mem _ z))]
theorem qb {c:Nat}:∀ {ps:List Ln},ps≠[]->(∀ p ∈ ps,c ∉ p)->iw c (iC [c] ps)=ps
 | [],h,_=>absurd rfl h
 | [p],_,f=>rQ (f p (by simp))
 | p::q::ps,_,f=>by
  show iw c (p++[c]++iC [c] (q::ps))=_
  rw [append_assoc,show [c]++iC [c] (q::ps)=c::iC [c] (q::ps) from rfl,j8 (f p (by simp)),qb (ps:=q::ps) (by simp) fun r hr=>f r (by simp [hr])]
abbrev Lo (x:Str):Ln:=x.cps.toList
theorem nQ (x y:Str):Lo (x++y)=Lo x++Lo y:=Array.toList_append
theorem DX {x y:Str} (h:Lo x=Lo y):x=y:=by
 cases x with
 | mk a =>
  cases y with
  | mk b =>
   have:a=b:=Array.toList_inj.mp h;rw [this]
theorem zA (s:Str):∀ zs:List Str,Lo (Str.join s zs)=iC (Lo s) (zs.map Lo)
 | []=>rfl
 | [z]=>rfl
 | z::y::zs=>by
  show Lo (z++s++Str.join s (y::zs))=Lo z++Lo s++iC (Lo s) ((y::zs).map Lo)
  rw [nQ,nQ,zA s (y::zs)]
theorem qM (s:Str) (zs:List Str):Lo (Txt.join s zs)=iC (Lo s) (zs.map Lo):=by
 show Lo (Builtin.Str.glued s zs)=_
 rw [StrLaws.glued_eq_join,zA]
theorem xX (x:Str) (c:Nat):(Txt.split x ⟨#[c]⟩).map Lo=iw c (Lo x):=by
 have e:=StrLaws.join_split x ⟨#[c]⟩;have e2:Lo x=iC [c] ((Txt.split x ⟨#[c]⟩).map Lo):=by
  rw [<- zA ⟨#[c]⟩,e]
 rw [e2,qb]
 ·intro h;have:=split_pos x ⟨#[c]⟩;rw [List.map_eq_nil_iff] at h;rw [h] at this;exact absurd this (by decide)
 ·intro p hp;obtain ⟨q,hq,rfl⟩:=bf.mp hp;exact StrLaws.split_free x c q hq
def gh (l:Ln):List Ln:=(iw 32 l).filter fun w=>!w.isEmpty
theorem Bu (l:Ln):gh (32::l)=gh l:=by
 unfold gh;rw [iw,if_pos rfl];rfl
theorem lZ (a:Nat) (l:Ln):gh (List.replicate a 32++l)=gh l:=by
 induction a with
 | zero=>rfl
 | succ a ih =>
  rw [replicate_succ,cons_append,Bu,ih]
theorem vM (b:Nat):gh (List.replicate b 32)=[]:=by
 have:=lZ b [];rw [bZ] at this;exact this
theorem Jc {w:Ln} (ne:w≠[]) (f:32 ∉ w) (b:Nat):gh (w++List.replicate b 32)=[w]:=by
 have e:(!w.isEmpty)=true:=by cases w with | nil=>exact absurd rfl ne | cons _ _=>rfl
 cases b with
 | zero =>
  rw [List.replicate_zero,bZ];unfold gh;rw [rQ f,filter_cons,if_pos e];rfl
 | succ b =>
  rw [replicate_succ];unfold gh;rw [j8 f,filter_cons,if_pos e];exact congrArg _ (vM b)
theorem DY {w:Ln} (ne:w≠[]) (f:32 ∉ w) (l:Ln):gh (w++32::l)=w::gh l:=by
 have e:(!w.isEmpty)=true:=by cases w with | nil=>exact absurd rfl ne | cons _ _=>rfl
 unfold gh;rw [j8 f,filter_cons,if_pos e]
theorem vN {g b:Nat} (hg:1<=g):∀ {ws:List Ln},(∀ w ∈ ws,w≠[]/\32 ∉ w)->gh (iC (List.replicate g 32) ws++List.replicate b 32)=ws
 | [],_=>vM b
 | [w],f=>Jc (f w (by simp)).1 (f w (by simp)).2 b
 | w::v::ws,f=>by
  obtain ⟨g',rfl⟩:∃ g',g=g' + 1:=⟨g - 1,by omega⟩
  show gh (w++List.replicate (g' + 1) 32++iC (List.replicate (g' + 1) 32) (v::ws)++List.replicate b 32)=_
  rw [append_assoc,append_assoc,replicate_succ,cons_append,DY (f w (by simp)).1 (f w (by simp)).2,lZ];rw [<- replicate_succ];exact congrArg _ (vN hg fun u hu=>f u (by simp [hu]))
theorem Bv {a g b:Nat} (hg:1<=g) {ws:List Ln} (f:∀ w ∈ ws,w≠[]/\32 ∉ w):gh (List.replicate a 32++iC (List.replicate g 32) ws++List.replicate b 32)=ws:=by
 rw [append_assoc,lZ];exact vN hg f
def jB:Ln->Option Nat
 | [a]=>if 48<=a/\a<=57 then some (a - 48) else none
 | [a,b]=>if (48 < a/\a<=57)/\(48<=b/\b<=57) then some ((a - 48) * 10 + (b - 48)) else none
 | _=>none
def pO (n:Nat):Ln:=if n < 10 then [48 + n] else [48 + n / 10,48 + n % 10]
theorem K1 {n:Nat} (h:n < 100):jB (pO n)=some n:=by
 unfold pO
 split
 ·rename_i h1
  show (if 48<=48 + n/\48 + n<=57 then some (48 + n - 48) else none)=_
  rw [if_pos (by omega),Nat.add_sub_cancel_left]
 ·rename_i h1
  show (if (48 < 48 + n / 10/\48 + n / 10<=57)/\(48<=48 + n % 10/\48 + n % 10<=57) then some ((48 + n / 10 - 48) * 10 + (48 + n % 10 - 48)) else none)=_
  rw [if_pos (by omega)]
  congr 1
  omega
theorem vO:∀ n:Nat,n < 100->Lo (cY (n:Int))=pO n:=by
 have:∀ n:Fin 100,Lo (cY ((n:Nat):Int))=pO n:=by decide +kernel
 exact fun n h=>this ⟨n,h⟩
theorem RG:∀ a:Nat,a < 10->PySem.intText? ⟨#[48 + a]⟩=some (a:Int):=by
 have:∀ a:Fin 10,PySem.intText? ⟨#[48 + (a:Nat)]⟩=some ((a:Nat):Int):=by decide +kernel
 exact fun a h=>this ⟨a,h⟩
theorem RJ:∀ a b:Nat,a < 10->b < 10->PySem.intText? ⟨#[48 + a,48 + b]⟩=some ((a * 10 + b:Nat):Int):=by
 have:∀ a b:Fin 10,PySem.intText? ⟨#[48 + (a:Nat),48 + (b:Nat)]⟩=some (((a:Nat) * 10 + (b:Nat):Nat):Int):=by decide +kernel
 exact fun a b h h'=>this ⟨a,h⟩ ⟨b,h'⟩
theorem Gz {x:Str} {n:Nat} (h:jB (Lo x)=some n):PySem.intText? x=some (n:Int)/\1<=x.length/\x.length<=2:=by
 obtain ⟨a⟩:=x;have e:a=a.toList.toArray:=by simp
 have hl:a.size=a.toList.length:=by simp
 show PySem.intText? ⟨a⟩=_/\1<=a.size/\a.size<=2
 change jB a.toList=some n at h
 rw [e,hl];generalize a.toList=l at h ⊢
 match l,h with
 | [],h=>cases h
 | [c],h =>
  change (if 48<=c/\c<=57 then some (c - 48) else none)=some n at h
  split at h
  ·rename_i hc
   cases h;have:=RG (c - 48) (by omega);rw [show 48 + (c - 48)=c by omega] at this;refine ⟨this,?_,?_⟩ <;> simp
  ·cases h
 | [c,d],h =>
  change (if (48 < c/\c<=57)/\(48<=d/\d<=57) then some ((c - 48) * 10 + (d - 48)) else none)=some n at h
  split at h
  ·rename_i hc
   cases h;have:=RJ (c - 48) (d - 48) (by omega) (by omega);rw [show 48 + (c - 48)=c by omega,show 48 + (d - 48)=d by omega] at this;refine ⟨this,?_,?_⟩ <;> simp
  ·cases h
 | _::_::_::_,h=>cases h
theorem xY {n c:Nat} (h:n < 100) (hc:c < 48\/57 < c):c ∉ pO n:=by
 unfold pO
 split
 ·intro z;rw [aO] at z;omega
 ·intro z;simp at z;omega
theorem RK (n:Nat):pO n≠[]:=by
 unfold pO
 split <;> simp
def oX:Ln:=[103,97,114,100,101,110]
def qN (ws:List Ln):Option (List Nat):=if ws.all (fun x=>(jB x).isSome) then some (ws.map fun x=>(jB x).getD 0) else none
theorem Jd {ws:List Ln} {x:Ln} (m:x ∈ ws) (h:jB x=none):qN ws=none:=by
 unfold qN;rw [if_neg];intro z;have:=all_eq_true.mp z x m;rw [h] at this;cases this
theorem xZ {ws:List Ln} (h:∀ x ∈ ws,jB x≠none):qN ws=some (ws.map fun x=>(jB x).getD 0):=by
 unfold qN;rw [if_pos];rw [all_eq_true];intro x m;exact Option.isSome_iff_ne_none.mpr (h x m)
theorem ZK {x:Ln}:(jB x).getD 0 < 100:=by
 unfold jB
 split
 ·split <;> simp <;> omega
 ·split <;> simp <;> omega
 ·simp
def GC:List Ln->Option (Nat × Nat × List Nat)
 | []=>none
 | w0::ws=>match qN ws with
  | some (c::k::cl)=>if w0=oX/\cl.Pairwise (· < ·)/\∀ d ∈ cl,d < k then some (c,k,cl) else none
  | _=>none
def lD (cl:List Nat):Nat:=(cl.map (2 ^ ·)).sum
theorem Bw {s m:Nat}:∀ (zs:List Str) (n:Nat),(∀ z ∈ zs,z.length<=m)->zs.foldl (fun c z=>c + z.length + s) n<=n + zs.length * (m + s)
 | [],n,_=>by simp
 | z::zs,n,h=>by
  have h1:=Bw (s:=s) (m:=m) zs (n + z.length + s) fun y hy=>h y (by simp [hy])
  have h2:=h z (by simp);rw [List.foldl_cons,length_cons,Nat.succ_mul];omega
theorem qO {s:Str} {zs:List Str} {m:Nat} (h:∀ z ∈ zs,z.length<=m) (hb:zs.length * (m + s.length)<=100000):JoinOk s zs=true:=by
 have h1:=Bw (s:=s.length) zs 0 h;have h2:zs.toArray.foldl (fun c z=>c + z.length + s.length) 0=zs.foldl (fun c z=>c + z.length + s.length) 0:=by simp
 have h3:¬ zs.toArray.foldl (fun c z=>c + z.length + s.length) 0 > sizeLine:=by
  have:100000<=sizeLine:=by decide
  rw [h2];omega
 show (!decide (zs.toArray.foldl (fun c z=>c + z.length + s.length) 0 > sizeLine))=true
 rw [aH h3];rfl
theorem vP {s:Ln} {m:Nat}:∀ (zs:List Ln),(∀ z ∈ zs,z.length<=m)->(iC s zs).length<=zs.length * (m + s.length)
 | [],_=>by simp [iC]
 | [z],h=>by
  have:=h z (by simp)
  show z.length<=(0 + 1) * (m + s.length)
  omega
 | z::y::zs,h=>by
  have h1:=vP (s:=s) (m:=m) (y::zs) fun u hu=>h u (by simp [hu])
  have h2:=h z (by simp)
  show (z++s++iC s (y::zs)).length<=_
  rw [aR,aR,length_cons,Nat.succ_mul];omega
theorem jJ (x:Str):(Lo x).length=x.length:=Array.length_toList
theorem vQ {s:Str} {zs:List Str} {m:Nat} (h:∀ z ∈ zs,z.length<=m):(Txt.join s zs).length<=zs.length * (m + s.length):=by
 rw [<- jJ,qM];have:=vP (s:=Lo s) (m:=m) (zs.map Lo) fun u hu=>by
  obtain ⟨z,hz,rfl⟩:=bf.mp hu;rw [jJ];exact h z hz
 rw [aq,jJ] at this;exact this
theorem yc {s:Ln} {c:Nat}:∀ (zs:List Ln),c ∈ iC s zs->c ∈ s\/∃ z ∈ zs,c ∈ z
 | [],h=>nomatch h
 | [z],h=>.inr ⟨z,by simp,h⟩
 | z::y::zs,h=>by
  have h':c ∈ z++s++iC s (y::zs):=h;rw [bQ,bQ] at h';rcases h' with (h' | h') | h'
  ·exact .inr ⟨z,by simp,h'⟩
  ·exact .inl h'
  ·rcases yc (y::zs) h' with e | ⟨u,hu,e⟩
   ·exact .inl e
   ·exact .inr ⟨u,by simp [hu],e⟩
theorem qd:∀ {xs ys:List Str},xs.map Lo=ys.map Lo->xs=ys
 | [],[],_=>rfl
 | x::xs,y::ys,h=>by
  rw [bO,bO] at h;injection h with h1 h2;rw [DX h1,qd h2]
 | [],_::_,h=>by cases h
 | _::_,[],h=>by cases h
theorem mj {c:Nat} {zs:List Str} (ne:zs≠[]) (h:∀ z ∈ zs,c ∉ Lo z):Txt.split (Txt.join ⟨#[c]⟩ zs) ⟨#[c]⟩=zs:=by
 apply qd;rw [xX,qM];refine qb (fun z=>ne (List.map_eq_nil_iff.mp z)) fun p hp=>?_
 obtain ⟨z,hz,rfl⟩:=bf.mp hp;exact h z hz
theorem K3 (xs ys:List Nat):lD (xs++ys)=lD xs + lD ys:=by
 unfold lD;rw [aX,List.sum_append]
theorem yd (n:Nat):∀ k:Nat,lD ((List.range k).filter fun d=>n.testBit d)=n % 2 ^ k
 | 0=>by simp [lD,Nat.mod_one]
 | k + 1=>by
  have hb:n.testBit k=decide (n / 2 ^ k % 2=1):=Nat.testBit_eq_decide_div_mod_eq;rw [range_succ,cu,K3,yd n k,Nat.mod_pow_succ]
  congr 1
  have:n / 2 ^ k % 2=0\/n / 2 ^ k % 2=1:=by omega
  rcases this with e | e
  ·rw [e] at hb;simp [lD,hb,e]
  ·rw [e] at hb;simp [lD,hb,e]
abbrev rR:cV:=top 2
abbrev oY:cV:=top 13
structure K4 (mg:Str->Option aA):Prop where
 isinstance:mg "isinstance"=none
 bool:mg "bool"=none
 int:mg "int"=none
 str:mg "str"=none
 list:mg "list"=none
 tuple:mg "tuple"=none
 len:mg "len"=none
 all:mg "all"=none
 set:mg "set"=none
 zip:mg "zip"=none
 reversed:mg "reversed"=none
 range:mg "range"=none
section
variable {P:cg} {w:World} {K:Fg} {mg:Str->Option aA} {base:Heap}
def dN (v:V) (l m:Int):Bool:=match v with
 | .int i=>decide (l<=i) && decide (i<=m)
 | _=>false
def GD (K:Fg):Sp:=fun vs H Q _=>∃ v l m k,vs=[v,.int l,.int m]/\fM K H v k/\Q (.bl (dN v l m)) H
theorem RL:bY ["value","least","most"] ["value","least","most"] (aY rR):=dX (by decide +kernel)
theorem K5 {f:aB} {fd:d9} (F:nJ K "is_whole" "is_whole" rR f fd) (B:K4 mg):cB P w K mg base (fK P w) 1 f fd ["value","least","most"] (GD K):=by
 refine F.mX RL (fun vs H Q E h=>?_) (fun cdv A outer s H vs Q E hr h=>?_)
 ·obtain ⟨v,l,m,k,rfl,_⟩:=h;rfl
 ·obtain ⟨v,l,m,k,rfl,hk,q⟩:=h;refine ⟨_,aG (dU (pw_or (eZ (vq .bool B.isinstance B.bool (pv 0))) (pw_or1 (fu (eZ (vq .int B.isinstance B.int (pv 0)))))).pt (aV (cJ j4)) cA) (aV (cJ (uV xg xg (pv 1) (pv 0) (pv 2)))),?_⟩;refine ⟨_,rfl,v,k,rfl,hk,_,rfl,?_⟩;have no:(∀ i,v≠.int i)->dN v l m=false:=fun h=>by
   cases v with
   | int i=>exact absurd rfl (h i)
   | _=>rfl
  cases k with
  | bl=>obtain ⟨b,rfl⟩:=hk; exact dH (dH q)
  | int =>
   obtain ⟨z,rfl⟩:=hk;refine dG ⟨_,rfl,_,.int,rfl,⟨z,rfl⟩,_,rfl,?_⟩;refine dG ⟨_,rfl,_,rfl,_,_,rfl,rfl,_,rfl,?_⟩;have e:dN (.int z) l m=(decide (l<=z) && decide (z<=m)):=rfl;rw [e] at q
   by_cases h1:l<=z
   ·rw [aK h1] at q ⊢;exact dH ⟨_,rfl,_,_,rfl,rfl,q⟩
   ·rw [aH h1] at q ⊢;exact dG q
  | non=>cases hk; exact dG ⟨_,rfl,_,.non,rfl,rfl,_,rfl,dH q⟩
  | str=>obtain ⟨x,rfl⟩:=hk; exact dG ⟨_,rfl,_,.str,rfl,⟨x,rfl⟩,_,rfl,dH q⟩
  | lst=>obtain ⟨a,xs,rfl,e⟩:=hk; exact dG ⟨_,rfl,_,.lst,rfl,⟨a,xs,rfl,e⟩,_,rfl,dH q⟩
  | tup=>obtain ⟨a,xs,rfl,e⟩:=hk; exact dG ⟨_,rfl,_,.tup,rfl,⟨a,xs,rfl,e⟩,_,rfl,dH q⟩
  | ins C=>obtain ⟨a,dx,fs,rfl,e⟩:=hk; exact dG ⟨_,rfl,_,.ins C,rfl,⟨a,dx,fs,rfl,e⟩,_,rfl,dH q⟩
def letter (c:Nat):Bool:=!decide ([c] < [97]) && !decide ([122] < [c])
def nameV (v:V):Bool:=match v with
 | .str x=>decide (1<=x.length) && decide (x.length<=12) && x.cps.toList.all letter
 | _=>false
theorem Je (a:Array Nat):((List.range a.size).map fun i=>letter (a.getD i 0)).all id=a.toList.all letter:=by
 have e:a.toList=(List.range a.size).map fun i=>a.getD i 0:=by
  apply ext_getElem?;intro i
  by_cases h:i < a.size
  ·simp [h]
  ·simp [h]
 rw [e,all_map,all_map];rfl
def K6 (K:Fg):Sp:=fun vs H Q _=>∃ v k,vs=[v]/\fM K H v k/\(∀ x,v=.str x->x.length<=sizeLine)/\∀ H',Same H H'->Q (.bl (nameV v)) H'
theorem ZL:bY ["value"] ["value"] (aY oY):=dX (by decide +kernel)
theorem RM {f:aB} {fd:d9} {t:Tok} (F:nJ K "is_name" "is_name" oY f fd) (B:K4 mg) (hl:mg "LONGEST_NAME"=some (.int 12 t)):cB P w K mg base (fK P w) 1 f fd ["value"] (K6 K):=by
 refine F.mX ZL (fun vs H Q E h=>?_) (fun cdv A outer s H vs Q E hr h=>?_)
 ·obtain ⟨v,k,rfl,_⟩:=h;rfl
 ·obtain ⟨v,k,rfl,hk,hz,q⟩:=h;refine ⟨_,aG (dU (pw_or (fu (eZ (vq .str B.isinstance B.str (pv 0)))) (pw_or1 (fu (Ad xg xg aL (gR jy B.len PySem.boot_len (ao (pv 0) aD)) (vA (.int 12) hl ⟨t,rfl⟩))))).pt (aV (cJ j4)) cA) (aV (cJ (gR (rO rfl) B.all boot_all (ao (gw bF rfl ⟨_,_,rfl,rfl,rfl⟩ (fG.plain (N':=["sign"]) rfl (by decide +kernel) (by decide +kernel)) (Km (pv 0)) (fun _ _ _ _ _=>cZ 0 (show [("sign":Str)].Nodup by decide +kernel)) (fun _ _ _ _ _=>fL) (fun _ _ _ _ _ _=>uV oR oR cj (pv 0) cj)) aD)))),?_⟩;refine ⟨_,rfl,v,k,rfl,hk,_,rfl,?_⟩;cases k with
  | str =>
   obtain ⟨x,rfl⟩:=hk;refine dG ⟨_,rfl,x,rfl,hz x rfl,_,_,rfl,rfl,_,rfl,?_⟩;have en:nameV (.str x)=(decide (1<=x.length) && decide (x.length<=12) && x.cps.toList.all letter):=rfl
   by_cases h1:1<=x.length
   ·have h1':(1:Int)<=(x.length:Int):=by omega
    rw [aK h1'];refine dH ⟨_,_,rfl,rfl,_,rfl,?_⟩
    by_cases h2:x.length<=12
    ·have h2':(x.length:Int)<=12:=by omega
     rw [aK h2'];refine dG ⟨_,rfl,x,rfl,fun D hD=>?_⟩;rw [aK h1,aK h2] at en;have hD1:Same H (upd H D (.lst ((List.range x.cps.size).map fun i=>V.bl (letter (x.cps.getD i 0))))):=bh hD;refine Gs x.cps.size (hz x rfl) (fun i=>.bl (letter (x.cps.getD i 0))) (fun i H'=>H'=upd H D (.lst ((List.range i).map fun i=>V.bl (letter (x.cps.getD i 0))))) rfl (fun i H' _ e=>by rw [e,aF]) (fun H' e=>⟨rfl,?_⟩) (fun i H' lt e=>⟨lt,?_⟩)
     ·subst e;refine ⟨D,(List.range x.cps.size).map fun i=>letter (x.cps.getD i 0),rfl,cU.of (by rw [aF,bT]; rfl),?_⟩;rw [Je];have q':=q _ hD1;rw [en] at q';exact q'
     ·rintro v CQ ⟨rfl,c,hc,rfl⟩ Qc k;subst e;refine ⟨fX,_,rfl,_,_,rfl,rfl,_,rfl,?_⟩;have k':=k _ aF (by rw [oN]);have ec:x.cps.getD i 0=c:=by simp [hc]
      have el:letter c=(!decide ([c] < [97]) && !decide ([122] < [c])):=rfl;rw [ec,el] at k'
      change if (!decide ([c] < [97]))=true then _ else _
      cases h3:!decide ([c] < [97]) with
      | false =>
       rw [h3] at k';exact dG k'
      | true =>
       rw [h3] at k';exact dH ⟨_,_,rfl,rfl,k'⟩
    ·have h2':¬ (x.length:Int)<=12:=by omega
     rw [aH h2'];have q':=q H (Same.refl _);rw [en,aK h1,aH h2] at q';exact dH q'
   ·have h1':¬ (1:Int)<=(x.length:Int):=by omega
    rw [aH h1'];have q':=q H (Same.refl _);rw [en,aH h1] at q';exact dG ⟨_,rfl,dH q'⟩
  | non=>cases hk; exact dH (dH (q H (Same.refl _)))
  | bl=>obtain ⟨x,rfl⟩:=hk; exact dH (dH (q H (Same.refl _)))
  | int=>obtain ⟨x,rfl⟩:=hk; exact dH (dH (q H (Same.refl _)))
  | lst=>obtain ⟨a,xs,rfl,e⟩:=hk; exact dH (dH (q H (Same.refl _)))
  | tup=>obtain ⟨a,xs,rfl,e⟩:=hk; exact dH (dH (q H (Same.refl _)))
  | ins C=>obtain ⟨a,dx,fs,rfl,e⟩:=hk; exact dH (dH (q H (Same.refl _)))
end
abbrev nR:cV:=inClass (top 14) 0
abbrev qP:cV:=inClass (top 14) 3
abbrev nU:cV:=inClass (top 15) 0
abbrev qQ:cV:=inClass (top 15) 3
abbrev K7:List aA:=[.type "ValueError",.type "Exception",.type "BaseException",.type "object"]
structure Fn (K:Fg) (x qual:Str) (st:cV) (ps:List Str) (f:aB) (fd:d9):Prop where
 F:nJ K x qual st f fd
 b:Binds K fd ps []
structure gU where
 (pot cactus garden dB tooMany agT alM Bx fQ aiN:aB)
 (Ea fName K8 RN RP RQ BJ BK BL Oa K9 alN alO anq alP alQ aiO anr ant anu:aB)
 (La dName dPI dPG dCI dCG ad8 ad9 aea dGI Ua alV alW anv alX alY aiP anw anx anz:d9)
structure Exn (K:Fg) (mg:Str->Option aA) (x:Str) (C:aB):Prop where
 m:mg x=some (.ref C)
 q:excIn K C K7 "ValueError.__new__"=true
structure jY (K:Fg) (mg:Str->Option aA) (a:gU):Prop where
 B:K4 mg
 longest:∃ t,mg "LONGEST_NAME"=some (.int 12 t)
 RT:∃ t,mg "MOST_GAP"=some (.int 60 t)
 dB:Exn K mg "BadPot" a.dB
 wh:Fn K "is_whole" "is_whole" rR ["value","least","most"] a.Ea a.La
 mwh:mg "is_whole"=some (.ref a.Ea)
 nm:Fn K "is_name" "is_name" oY ["value"] a.fName a.dName
 mnm:mg "is_name"=some (.ref a.fName)
 Lb:mg "Pot"=some (.ref a.pot)
 RV:mg "Cactus"=some (.ref a.cactus)
 tP:Bc K a.pot
 tC:Bc K a.cactus
 nP:∀ f ∈ (["name","gap","rest"]:List Str),iV K a.pot f
 nC:∀ f ∈ (["name","gap","rest"]:List Str),iV K a.cactus f
 PI:Fn K "__init__" "Pot.__init__" nR ["self","name","gap"] a.K8 a.dPI
 PG:Fn K "with_gap" "Pot.with_gap" qP ["self","gap"] a.RN a.dPG
 CI:Fn K "__init__" "Cactus.__init__" nU ["self","name","gap","rest"] a.RP a.dCI
 CG:Fn K "with_gap" "Cactus.with_gap" qQ ["self","gap"] a.RQ a.dCG
 kP:Mk K a.pot a.K8
 kC:Mk K a.cactus a.RP
 gP:Meth K a.pot "with_gap" a.RN
 gC:Meth K a.cactus "with_gap" a.RQ
 cI:adU K a.pot "__init__" a.K8
 ne:a.pot≠a.cactus
section
variable {P:cg} {w:World} {K:Fg} {mg:Str->Option aA} {base:Heap} {a:gU}
theorem aed:¬ (("name":Str)="gap"):=by decide +kernel
theorem aee:¬ (("name":Str)="rest"):=by decide +kernel
theorem aef:¬ (("gap":Str)="rest"):=by decide +kernel
theorem RW (u v:V):gM "gap" v [(("name":Str),u)]=([("name",u),("gap",v)]:List (Str × V)):=by
 show (if ("name":Str)="gap" then _ else _)=_
 rw [if_neg aed]; rfl
theorem Ld (u v x:V):gM "rest" x ([("name",u),("gap",v)]:List (Str × V))=([("name",u),("gap",v),("rest",x)]:List (Str × V)):=by
 show (if ("name":Str)="rest" then _ else (("name":Str),u)::(if ("gap":Str)="rest" then _ else (("gap":Str),v)::gM "rest" x []))=_
 rw [if_neg aee,if_neg aef]; rfl
def But (p:aB) (H H':Hp):Prop:=∀ b o,b≠p->H b=some o->H' b=some o
def iD (n g:V):Bool:=nameV n && dN g 1 60
def vR (v:V):Prop:=∀ x,v=.str x->x.length<=sizeLine
noncomputable def yg (K:Fg) (a:gU):Sp:=fun vs H Q E=>∃ p dx C n g kn kg,vs=[.ref p,n,g]/\H p=some (.ins C dx [])/\(C=a.pot\/C=a.cactus)/\fM K H n kn/\vR n/\fM K H g kg /\ (iD n g=false->∀ H',Same H H'->E (.ref a.dB) none H')/\(iD n g=true->∀ H',But p H H'->H' p=some (.ins C dx [("name",n),("gap",g)])->Q .non H')
theorem aiQ:bY ["self","name","gap"] ["self","name","gap"] (aY nR):=dX (by decide +kernel)
theorem jY.cls (T:jY K mg a) {C:aB} (h:C=a.pot\/C=a.cactus):Bc K C/\∀ f ∈ (["name","gap","rest"]:List Str),iV K C f:=by
 rcases h with rfl | rfl
 ·exact ⟨T.tP,T.nP⟩
 ·exact ⟨T.tC,T.nC⟩
theorem jY.okW (T:jY K mg a):cB P w K mg base (fK P w) 1 a.Ea a.La ["value","least","most"] (GD K):=K5 T.wh.F T.B
theorem jY.okN (T:jY K mg a):cB P w K mg base (fK P w) 1 a.fName a.dName ["value"] (K6 K):=by
 obtain ⟨t,e⟩:=T.longest;exact RM T.nm.F T.B e
theorem mq (T:jY K mg a):cB P w K mg base (fK P w) 2 a.K8 a.dPI ["self","name","gap"] (yg K a):=by
 refine T.PI.F.mX aiQ (fun vs H Q E h=>?_) (fun cdv A outer s H vs Q E hr h=>?_)
 ·obtain ⟨p,dx,C,n,g,kn,kg,rfl,_⟩:=h;rfl
 ·obtain ⟨p,dx,C,n,g,kn,kg,rfl,hp,hC,hn,sn,hg,bad,good⟩:=h;obtain ⟨t,mG⟩:=T.RT;obtain ⟨tC,nA⟩:=T.cls hC;refine ⟨_,aG (dU (fu (eZ (cG T.okN hr T.mnm T.nm.F.kp T.nm.b bx (ao (pv 1) aD)))) (aV (gD bF rfl (by rfl) T.dB.m T.dB.q PySem.F.excBase_ValueError (ao cj aD))) cA) (aG (dU (fu (eZ (cG T.okW hr T.mwh T.wh.F.kp T.wh.b bx (ao (pv 2) (ao aL (ao (vA (.int 60) mG ⟨t,rfl⟩) aD)))))) (aV (gD bF rfl (by rfl) T.dB.m T.dB.q PySem.F.excBase_ValueError (ao cj aD))) cA) (aG (pY (pv 0) (pv 1) rfl) (aV (pY (pv 0) (pv 2) rfl)))),?_⟩;refine ⟨_,rfl,n,kn,rfl,hn,sn,fun H1 s1=>⟨_,rfl,?_⟩⟩;cases en:nameV n with
  | false=>exact dH ⟨by show 1<=sizeLine; decide,bad (by simp [iD,en]) H1 s1⟩
  | true =>
   refine dG ⟨_,rfl,g,1,60,kg,rfl,hg.same s1,_,rfl,?_⟩;cases eg:dN g 1 60 with
   | false=>exact dH ⟨by show 1<=sizeLine; decide,bad (by simp [iD,en,eg]) H1 s1⟩
   | true =>
    refine dG ⟨_,rfl,_,rfl,p,C,dx,_,rfl,s1 _ _ hp,tC.cl,nA _ (by simp),by show 0 < 1000; decide,?_⟩;refine ⟨_,rfl,_,rfl,p,C,dx,_,rfl,aF,tC.cl,nA _ (by simp),by show 1 < 1000; decide,?_⟩;refine good (by simp [iD,en,eg]) _ (fun b o hb e=>?_) ?_
    ·rw [bA hb,bA hb]; exact s1 _ _ e
    ·rw [aF];exact congrArg (fun l=>some (HO.ins C dx l)) (RW n g)
structure bJ where
 nm:Str
 gap:Int
 rest:Option Int
def bJ.fs (p:bJ):List (Str × V):=match p.rest with
 | none=>[("name",.str p.nm),("gap",.int p.gap)]
 | some r=>[("name",.str p.nm),("gap",.int p.gap),("rest",.int r)]
def bJ.cls (a:gU) (p:bJ):aB:=match p.rest with
 | none=>a.pot
 | some _=>a.cactus
def eY (a:gU) (H:Hp) (x:aB) (p:bJ):Prop:=∃ dx,H x=some (.ins (p.cls a) dx p.fs)
structure bJ.Ok (p:bJ):Prop where
 nm:nameV (.str p.nm)=true
 gap:1<=p.gap/\p.gap<=60
 rest:∀ r,p.rest=some r->0<=r/\r < p.gap
theorem eY.same {H H':Hp} {x:aB} {p:bJ} (h:eY a H x p) (s:Same H H'):eY a H' x p:=h.imp fun _ e=>s _ _ e
theorem bJ.jk (p:bJ):p.cls a=a.pot\/p.cls a=a.cactus:=by
 unfold bJ.cls;cases p.rest
 ·exact .inl rfl
 ·exact .inr rfl
theorem bJ.nW (p:bJ):p.fs.lookup ("name":Str)=some (.str p.nm):=by
 unfold bJ.fs;cases p.rest <;> rfl
theorem iU {k k':Str} {v:V} {l:List (Str × V)} (h:(k == k')=false):((k',v)::l).lookup k=l.lookup k:=by simp only [List.lookup,h]
theorem yh {k:Str} {v:V} {l:List (Str × V)}:((k,v)::l).lookup k=some v:=by simp only [List.lookup,beq_self_eq_true]
theorem gn:(("gap":Str) == "name")=false:=by decide +kernel
theorem rn:(("rest":Str) == "name")=false:=by decide +kernel
theorem rg:(("rest":Str) == "gap")=false:=by decide +kernel
theorem Le (u v:V) (l:List (Str × V)):((("name",u)::("gap",v)::l:List (Str × V))).lookup ("gap":Str)=some v:=by rw [iU gn,yh]
theorem bJ.BP (p:bJ):p.fs.lookup ("gap":Str)=some (.int p.gap):=by
 unfold bJ.fs;cases p.rest with
 | none=>exact Le _ _ []
 | some r=>exact Le _ _ [("rest",.int r)]
theorem uG (u v x:V):([("name",u),("gap",v),("rest",x)]:List (Str × V)).lookup ("rest":Str)=some x:=by rw [iU rn,iU rg,yh]
theorem bJ.RX (p:bJ) {m:Str} (h1:(m == "name")=false) (h2:(m == "gap")=false) (h3:(m == "rest")=false):p.fs.lookup m=none:=by
 unfold bJ.fs;cases p.rest with
 | none=>exact (iU h1).trans (iU h2)
 | some r=>exact (iU h1).trans ((iU h2).trans (iU h3))
theorem iZ {x:Str} (h:nameV (.str x)=true):vR (.str x):=by
 intro y e;cases e;have e:nameV (.str x)=(decide (1<=x.length) && decide (x.length<=12) && x.cps.toList.all letter):=rfl;rw [e] at h;simp only [Bool.and_eq_true,decide_eq_true_eq] at h;exact bw h.1.2 (by decide)
theorem But.made {H H':Hp} {x dx C:aB} (nx:H x=none) (ndx:H dx=none) (h:But x (upd (upd H dx (.own x)) x (.ins C dx [])) H'):Same H H':=fun b o e=>by
 have n1:=dz e nx;have n2:=dz e ndx;exact h b o n1 (by rw [bA n1,bA n2]; exact e)
theorem rT {H:Hp} {x dx C:aB} (nx:H x=none) (ndx:H dx=none):Same H (upd (upd H dx (.own x)) x (.ins C dx [])):=fun b o e=>by
 rw [bA (dz e nx),bA (dz e ndx)]; exact e
theorem Ec {H:Hp} {Q:aB->Hp->Prop} {E:XK} {n g:V} {kn kg:Kd} (hn:fM K H n kn) (sn:vR n) (hg:fM K H g kg) (bad:iD n g=false->∀ H',Same H H'->E (.ref a.dB) none H') (good:iD n g=true->∀ H' x,H x=none->Same H H'->(∃ dx,H' x=some (.ins a.pot dx [("name",n),("gap",g)]))->Q x H') : ∀ x dx,H x=none->H dx=none->dx≠x->yg K a [.ref x,n,g] (upd (upd H dx (.own x)) x (.ins a.pot dx [])) (fun v H2=>v=.non/\Q x H2) E:=by
 intro x dx nx ndx ne;have s0:=rT (C:=a.pot) nx ndx;exact ⟨x,dx,a.pot,n,g,kn,kg,rfl,aF,.inl rfl,hn.same s0,sn,hg.same s0,fun e H' s'=>bad e H' (s0.trans s'),fun e H' b' hp=>⟨rfl,good e H' x nx (b'.made nx ndx) ⟨dx,hp⟩⟩⟩
def tY (p:bJ) (g:V):Bool:=match p.rest with
 | none=>dN g 1 60
 | some r=>dN g 1 60 && match g with
  | .int i=>dN (.int r) 0 (i - 1)
  | _=>false
noncomputable def GF (K:Fg) (a:gU) (C:aB):Sp:=fun vs H Q E=>∃ x p g kg,vs=[.ref x,g]/\p.cls a=C/\eY a H x p/\p.Ok/\fM K H g kg /\ (tY p g=false->∀ H',Same H H'->E (.ref a.dB) none H')/\(tY p g=true->∀ i H' y,g=.int i->H y=none->Same H H'->eY a H' y { p with gap:=i }->Q (.ref y) H')
theorem aiR:bY ["self","gap"] ["self","gap"] (aY qP):=dX (by decide +kernel)
theorem jD {g:V} {l m:Int} (h:dN g l m=true):∃ i,g=.int i/\l<=i/\i<=m:=by
 cases g with
 | int i=>exact ⟨i,rfl,by simpa [dN] using h⟩
 | _=>exact absurd h (by simp [dN])
theorem Jf (T:jY K mg a):cB P w K mg base (fK P w) 4 a.RN a.dPG ["self","gap"] (GF K a a.pot):=by
 refine T.PG.F.mX aiR (fun vs H Q E h=>?_) (fun cdv A outer s H vs Q E hr h=>?_)
 ·obtain ⟨x,p,g,kg,rfl,_⟩:=h;rfl
 ·obtain ⟨x,p,g,kg,rfl,hc,⟨dx,hx⟩,ok,hg,bad,good⟩:=h;refine ⟨_,aV (cJ (qK T.kP (mq T) hr T.Lb T.PI.b (cC bF) (ao (dM (pv 0) rfl) (ao (pv 1) aD)))),?_⟩;rw [hc] at hx;have hr0:p.rest=none:=by
   cases e:p.rest with
   | none=>rfl
   | some r=>rw [bJ.cls,e] at hc; exact absurd hc.symm T.ne
  refine ⟨_,rfl,x,a.pot,dx,_,_,rfl,hx,T.tP.cl,T.nP _ (by simp),p.nW,_,rfl,?_⟩;refine Ec (kn:=.str) ⟨_,rfl⟩ (iZ ok.nm) hg (fun e=>bad (by simpa [tY,hr0,iD,ok.nm] using e)) (fun e H' y hy s' hy'=>?_);have eg:dN g 1 60=true:=by simpa [iD,ok.nm] using e
  obtain ⟨i,rfl,_⟩:=jD eg;obtain ⟨dy,hy'⟩:=hy';refine good (by simpa [tY,hr0] using eg) i H' y rfl hy s' ⟨dy,?_⟩;rw [hy'];simp only [bJ.cls,bJ.fs,hr0]
end
section
variable {P:cg} {w:World} {K:Fg} {mg:Str->Option aA} {base:Heap} {a:gU}
def restOk (g r:V):Bool:=match g with
 | .int i=>dN r 0 (i - 1)
 | _=>false
noncomputable def yj (K:Fg) (a:gU):Sp:=fun vs H Q E=>∃ p dx n g r kn kg kr,vs=[.ref p,n,g,r]/\H p=some (.ins a.cactus dx [])/\fM K H n kn/\vR n/\fM K H g kg/\fM K H r kr/\(∀ q,r=.ref q->q≠p) /\ ((iD n g && restOk g r)=false->∀ H',But p H H'->E (.ref a.dB) none H')/\((iD n g && restOk g r)=true->∀ H',But p H H'->H' p=some (.ins a.cactus dx [("name",n),("gap",g),("rest",r)])->Q .non H')
theorem aiS:bY ["self","name","gap","rest"] ["self","name","gap","rest"] (aY nU):=dX (by decide +kernel)
theorem fM.but {H H':Hp} {p:aB} {v:V} {k:Kd} (h:fM K H v k) (b:But p H H') (ne:∀ q,v=.ref q->q≠p):fM K H' v k:=by
 cases k with
 | lst =>
  obtain ⟨a,xs,rfl,e | ⟨o,e⟩⟩:=h
  ·exact ⟨a,xs,rfl,.inl (b _ _ (ne _ rfl) e)⟩
  ·exact ⟨a,xs,rfl,.inr ⟨o,b _ _ (ne _ rfl) e⟩⟩
 | tup=>obtain ⟨a,xs,rfl,e⟩:=h; exact ⟨a,xs,rfl,b _ _ (ne _ rfl) e⟩
 | ins C=>obtain ⟨a,dx,fs,rfl,e,t⟩:=h; exact ⟨a,dx,fs,rfl,b _ _ (ne _ rfl) e,t⟩
 | _=>exact h
theorem Same.but {H H':Hp} {p:aB} (s:Same H H'):But p H H':=fun b o _ e=>s b o e
theorem But.trans {H H1 H2:Hp} {p:aB} (s:But p H H1) (t:But p H1 H2):But p H H2:=fun b o n e=>t b o n (s b o n e)
theorem RZ {H:Hp} {p:aB} {o:HO}:But p H (upd H p o):=fun b u n e=>by rw [bA n]; exact e
theorem qg (T:jY K mg a):cB P w K mg base (fK P w) 3 a.RP a.dCI ["self","name","gap","rest"] (yj K a):=by
 refine T.CI.F.mX aiS (fun vs H Q E h=>?_) (fun cdv A outer s H vs Q E hr h=>?_)
 ·obtain ⟨p,dx,n,g,r,kn,kg,kr,rfl,_⟩:=h;rfl
 ·obtain ⟨p,dx,n,g,r,kn,kg,kr,rfl,hp,hn,sn,hg,hkr,nr,bad,good⟩:=h;refine ⟨_,aG (gZ (Rn T.Lb T.cI (mq T) hr T.PI.b (cC bF) (ao (pv 0) (ao (pv 1) (ao (pv 2) aD))))) (aG (dU (fu (eZ (cG T.okW (hr.mono (by decide)) T.mwh T.wh.F.kp T.wh.b bx (ao (pv 3) (ao aL (ao (bB Dd (pv 2) aL) aD)))))) (aV (gD bF rfl (by rfl) T.dB.m T.dB.q PySem.F.excBase_ValueError (ao cj aD))) cA) (aV (pY (pv 0) (pv 3) rfl))),?_⟩;refine ⟨_,rfl,_,rfl,_,rfl,p,dx,a.cactus,n,g,kn,kg,rfl,hp,.inr rfl,hn,sn,hg,fun e H' s'=>bad (by simp [e]) H' (Same.but s'),fun e H1 b1 hp1=>?_⟩;have eg:dN g 1 60=true:=by
   rw [iD,Bool.and_eq_true] at e;exact e.2
  obtain ⟨i,rfl,_⟩:=jD eg;refine ⟨_,rfl,_,rfl,_,_,rfl,rfl,r,0,i - 1,kr,rfl,hkr.but b1 nr,_,rfl,?_⟩;cases er:dN r 0 (i - 1) with
  | false=>exact dH ⟨by show 1<=sizeLine; decide,bad (by simp [restOk,er]) H1 b1⟩
  | true =>
   refine dG ⟨_,rfl,_,rfl,p,a.cactus,dx,_,rfl,hp1,T.tC.cl,T.nC _ (by simp),by show 2 < 1000; decide,?_⟩;refine good (by simp [e,restOk,er]) _ (b1.trans RZ) ?_;rw [aF];exact congrArg (fun l=>some (HO.ins a.cactus dx l)) (Ld n (.int i) r)
theorem Ed {H:Hp} {Q:aB->Hp->Prop} {E:XK} {n g r:V} {kn kg kr:Kd} (hn:fM K H n kn) (sn:vR n) (hg:fM K H g kg) (hr:fM K H r kr) (bad:(iD n g && restOk g r)=false->∀ H',Same H H'->E (.ref a.dB) none H') (good:(iD n g && restOk g r)=true->∀ H' x,H x=none->Same H H'->(∃ dx,H' x=some (.ins a.cactus dx [("name",n),("gap",g),("rest",r)]))->Q x H') : ∀ x dx,H x=none->H dx=none->dx≠x->yj K a [.ref x,n,g,r] (upd (upd H dx (.own x)) x (.ins a.cactus dx [])) (fun v H2=>v=.non/\Q x H2) E:=by
 intro x dx nx ndx ne;have s0:=rT (C:=a.cactus) nx ndx;refine ⟨x,dx,n,g,r,kn,kg,kr,rfl,aF,hn.same s0,sn,hg.same s0,hr.same s0,fun q e z=>?_,fun e H' s'=>bad e H' (s'.made nx ndx),fun e H' b' hp=>⟨rfl,good e H' x nx (b'.made nx ndx) ⟨dx,hp⟩⟩⟩;subst e z;cases kr with
 | lst =>
  obtain ⟨_,_,e,h | ⟨_,h⟩⟩:=hr
  ·cases e; rw [nx] at h; cases h
  ·cases e; rw [nx] at h; cases h
 | tup=>obtain ⟨_,_,e,h⟩:=hr; cases e; rw [nx] at h; cases h
 | ins C=>obtain ⟨_,_,_,e,h,_⟩:=hr; cases e; rw [nx] at h; cases h
 | non=>cases hr
 | bl=>obtain ⟨_,e⟩:=hr; cases e
 | int=>obtain ⟨_,e⟩:=hr; cases e
 | str=>obtain ⟨_,e⟩:=hr; cases e
theorem aiT:bY ["self","gap"] ["self","gap"] (aY qQ):=dX (by decide +kernel)
theorem Jg (T:jY K mg a):cB P w K mg base (fK P w) 5 a.RQ a.dCG ["self","gap"] (GF K a a.cactus):=by
 refine T.CG.F.mX aiT (fun vs H Q E h=>?_) (fun cdv A outer s H vs Q E hr h=>?_)
 ·obtain ⟨x,p,g,kg,rfl,_⟩:=h;rfl
 ·obtain ⟨x,p,g,kg,rfl,hc,⟨dx,hx⟩,ok,hg,bad,good⟩:=h;refine ⟨_,aV (cJ (qK T.kC (qg T) hr T.RV T.CI.b (cC bF) (ao (dM (pv 0) rfl) (ao (pv 1) (ao (dM (pv 0) rfl) aD))))),?_⟩;rw [hc] at hx;obtain ⟨r,hr0⟩:∃ r,p.rest=some r:=by
   cases e:p.rest with
   | none=>rw [bJ.cls,e] at hc; exact absurd hc T.ne
   | some r=>exact ⟨r,rfl⟩
  have lr:p.fs.lookup ("rest":Str)=some (.int r):=by simp only [bJ.fs,hr0]; exact uG _ _ _
  refine ⟨_,rfl,x,a.cactus,dx,_,_,rfl,hx,T.tC.cl,T.nC _ (by simp),p.nW,_,rfl,_,rfl,x,a.cactus,dx,_,_,rfl,hx,T.tC.cl,T.nC _ (by simp),lr,?_⟩;have e0:(iD (.str p.nm) g && restOk g (.int r))=tY p g:=by
   rw [iD,ok.nm,Bool.true_and,tY,hr0];rfl
  refine Ed (kn:=.str) (kr:=.int) ⟨_,rfl⟩ (iZ ok.nm) hg ⟨_,rfl⟩ (fun e=>bad (by rw [<- e0]; exact e)) (fun e H' y hy s' hy'=>?_);obtain ⟨i,rfl,_⟩:∃ i,g=.int i/\True:=by
   cases g with
   | int i=>exact ⟨i,rfl,trivial⟩
   | _=>exact absurd e (by simp [restOk])
  obtain ⟨dy,hy'⟩:=hy';refine good (by rw [<- e0]; exact e) i H' y rfl hy s' ⟨dy,?_⟩;rw [hy'];simp only [bJ.cls,bJ.fs,hr0]
theorem jY.gap (T:jY K mg a):∀ C,(C=a.pot\/C=a.cactus)->∃ f fd,Cls K C/\Meth K C "with_gap" f/\cB P w K mg base (fK P w) 5 f fd ["self","gap"] (GF K a C)/\Binds K fd ["self","gap"] []:=by
 intro C h;rcases h with rfl | rfl
 ·exact ⟨_,_,T.tP.cl,T.gP,(Jf T).mono (by decide),T.PG.b⟩
 ·exact ⟨_,_,T.tC.cl,T.gC,Jg T,T.CG.b⟩
theorem ZM {X:Cx} {pl:Sem Bool} {o e:Expr} {es:List Expr} {ta:TE} {t:TA} {apos pos:Pos} {E:XK} (he:PE X o ta) (ha:PA X (e::es) t) (T:jY K mg a) (hr:eO 5 X.A) (hx:Passes (fK X.prog X.w) X E) (hK:autoParam (X.K=K) zau0) (hm:autoParam (X.mg=mg) zau0) (hst:autoParam (starEach (e::es) X.env=(false,eval e X.env)::starEach es X.env) zau0) (hpl:autoParam ((backTo pos (starEach es X.env)).any (·.1)=false) zau0) (ht:autoParam (eval (.Call (.Attribute o "with_gap" apos) (e::es) [] pos) X.env=(do
   let ov <- eval o X.env
   standAt apos.atName
   let (f,first) <- holding [ov] (getMethod ov "with_gap" pl)
   callWith pos f first (backTo pos (starEach (e::es) X.env)) (backToKw pos (keywordEach [] X.env)))) zau0) :
  PE X (.Call (.Attribute o "with_gap" apos) (e::es) [] pos) (Kq (fun C=>C=a.pot\/C=a.cactus) "with_gap" (GF K a) E ta t):=by
 subst hK hm;exact Bf he hr T.gap hx ha hst hpl ht
end
abbrev Lf:cV:=top 21
abbrev Lg:cV:=top 22
abbrev Lh:cV:=top 23
structure Ef (K:Fg) (mg:Str->Option aA) (a:gU):Prop where
 T:jY K mg a
 kpp:kitOne K (.ref a.pot) (.ref a.pot)=some true
 kcp:kitOne K (.ref a.cactus) (.ref a.pot)=some true
 kb:∀ k:Kd,(∀ C,k≠.ins C)->kitOne K k.ty (.ref a.pot)=some false
 own:Fn K "own_pots" "own_pots" Lf ["pots"] a.BJ a.ad8
 ZP:mg "own_pots"=some (.ref a.BJ)
 cnt:Fn K "refuse_bad_counts" "refuse_bad_counts" Lg ["pots","cans","week","closed"] a.BK a.ad9
 ZQ:mg "refuse_bad_counts"=some (.ref a.BK)
 twc:Fn K "refuse_name_twice" "refuse_name_twice" Lh ["pots"] a.BL a.aea
 ZR:mg "refuse_name_twice"=some (.ref a.BL)
 tooMany:Exn K mg "TooMany" a.tooMany
 Li:∃ t,mg "MOST_POTS"=some (.int 8 t)
 Lj:∃ t,mg "MOST_CANS"=some (.int 8 t)
 Lk:∃ t,mg "MOST_WEEK"=some (.int 14 t)
 Eh:∃ t,mg "MOST_STATES"=some (.int 20000 t)
section
variable {P:cg} {w:World} {K:Fg} {mg:Str->Option aA} {base:Heap} {a:gU}
def Ob (a:gU):Kd->Bool
 | .ins C=>decide (C=a.pot\/C=a.cactus)
 | _=>false
def PK (a:gU) (k:Kd):Prop:=∀ C,k=.ins C->C=a.pot\/C=a.cactus
theorem Ef.Ob (G:Ef K mg a) {k:Kd} (h:PK a k):kitOne K k.ty (.ref a.pot)=some (Tw.Ob a k):=by
 cases k with
 | ins C =>
  have e:Tw.Ob a (.ins C)=true:=aK (h C rfl);rw [e];rcases h C rfl with rfl | rfl
  ·exact G.kpp
  ·exact G.kcp
 | _=>exact G.kb _ (fun C z=>nomatch z)
theorem eY.upd {H:Hp} {b D:aB} {p:bJ} {xs:List V} {o:HO} (h:eY a H b p) (hD:H D=some (.lst xs)):eY a (L2.upd H D o) b p:=by
 obtain ⟨dx,e⟩:=h;exact ⟨dx,by rw [bA (Jz e hD (by intro z; cases z))]; exact e⟩
theorem bJ.ZS {p:bJ} (h:p.Ok):tY p (.int p.gap)=true:=by
 have h1:dN (.int p.gap) 1 60=true:=by simp [dN,h.gap.1,h.gap.2]
 unfold tY;cases e:p.rest with
 | none=>exact h1
 | some r =>
  obtain ⟨r0,r1⟩:=h.rest r e;have r1':r<=p.gap - 1:=by omega
  rw [h1]
  show (true && dN (.int r) 0 (p.gap - 1))=true
  simp [dN,r0,r1']
theorem iJ {H H':Hp} {D:aB} {o:HO} (s:Same H H') (h:H D=none):Same H (L2.upd H' D o):=fun b u e=>by rw [bA (dz e h)]; exact s b u e
def iR (a:gU) (H:Hp) (as:List aB) (ps:List bJ):Prop:=Paired (eY a H) as ps
theorem iR.same {H H':Hp} {as:List aB} {ps:List bJ} (h:iR a H as ps) (s:Same H H'):iR a H' as ps:=Paired.jx h fun _ _ e=>e.same s
theorem iR.upd {H:Hp} {as:List aB} {ps:List bJ} {D:aB} {xs:List V} {o:HO} (h:iR a H as ps) (hD:H D=some (.lst xs)):iR a (L2.upd H D o) as ps:=Paired.jx h fun _ _ e=>e.upd hD
noncomputable def Ub (K:Fg) (a:gU):Sp:=fun vs H Q E=>∃ v k,vs=[v]/\fM K H v k/\(bi k .list=false->∀ H',Same H H'->E (.ref a.dB) none H') /\ (bi k .list=true->∃ l xs ks,v=.ref l/\cU K H l xs/\xs.length<=1000/\Paired (fM K H) xs ks/\(∀ k ∈ ks,PK a k)/\(ks.all (Ob a)=false->∀ H',Same H H'->E (.ref a.dB) none H') /\ (ks.all (Ob a)=true->∃ as ps,xs=as.map V.ref/\iR a H as ps/\(∀ p ∈ ps,p.Ok)/\∀ H' l' bs,Same H H'->H l'=none->H' l'=some (.lst (bs.map V.ref))->iR a H' bs ps->Q (.ref l') H'))
theorem Uc:bY ["pots","pot"] ["pots"] (aY Lf):=dX (by decide +kernel)
theorem ZV (G:Ef K mg a):cB P w K mg base (fK P w) 6 a.BJ a.ad8 ["pots"] (Ub K a):=by
 refine G.own.F.mX Uc (fun vs H Q E h=>?_) (fun cdv A outer s H vs Q E hr h=>?_)
 ·obtain ⟨v,k,rfl,_⟩:=h;rfl
 ·obtain ⟨v,k,rfl,hk,no,yes⟩:=h;have T:=G.T;refine ⟨_,aG (dU (fu (eZ (vq .list T.B.isinstance T.B.list (pv 0)))) (aV (gD bF rfl (by rfl) T.dB.m T.dB.q PySem.F.excBase_ValueError (ao cj aD))) cA) (aG (jE gB rfl (eE (pv 0)) (cZ 1 Uc.nd) (aV (dU (fu (eZ (Zr T.B.isinstance T.Lb (pv 1)))) (aV (gD bF rfl (by rfl) T.dB.m T.dB.q PySem.F.excBase_ValueError (ao cj aD))) cA))) (aV (cJ (gw bF rfl ⟨_,_,rfl,rfl,rfl⟩ (fG.plain (N':=["pot"]) rfl (by decide +kernel) (by decide +kernel)) (eE (pv 0)) (fun _ _ _ _ _=>cZ 0 (show [("pot":Str)].Nodup by decide +kernel)) (fun _ _ _ _ _=>fL) (fun _ _ _ _ _ acc=>ZM (pv 0) (ao (xO K (pv 0)) aD) T hr (cC acc)))))),?_⟩;refine ⟨_,rfl,v,k,rfl,hk,_,rfl,?_⟩;cases ek:bi k .list with
  | false=>exact dH ⟨by show 1<=sizeLine; decide,no ek H (Same.refl _)⟩
  | true =>
   obtain ⟨l,xs,ks,rfl,hl,hlen,ZW,pks,bad,good⟩:=yes ek;refine dG ⟨_,rfl,l,rfl,⟨_,hl⟩,nH (K:=K) (a:=l) (xs:=xs) (fun i σ H'=>∃ u,σ=[some (.ref l),u]/\H=H'/\(ks.take i).all (Ob a)=true) ⟨none,rfl,rfl,rfl⟩ (fun i σ H' _ ⟨_,_,e,_⟩=>e ▸ hl) ?_ ?_⟩
   ·rintro i x σ H' hi ⟨u,rfl,rfl,al⟩;obtain ⟨kx,hkx,kd⟩:=eG ZW hi;refine ⟨_,rfl,x,kx,a.pot,_,rfl,kd,G.Ob (pks kx (aW hkx)),_,rfl,?_⟩;cases e:Ob a kx with
    | false =>
     refine dH ⟨by show 1<=sizeLine; decide,bad ?_ _ (Same.refl _)⟩;rw [Bool.eq_false_iff];intro z;rw [all_eq_true] at z;rw [z kx (aW hkx)] at e;cases e
    | true=>exact dG ⟨_,rfl,rfl,by rw [take_snoc hkx,List.all_append,al]; simp [e]⟩
   ·rintro σ H' ⟨u,rfl,rfl,al⟩;have lk:xs.length=ks.length:=Paired.length ZW;rw [lk,bV] at al;obtain ⟨as,ps,rfl,pots,rA,q⟩:=good al;refine ⟨_,rfl,l,rfl,⟨_,hl⟩,fun D hD=>?_⟩;have sD:=bh (o:=.lst []) hD;have lp:as.length=ps.length:=Paired.length pots;refine vB as.length (by rw [aq] at hlen; exact bw hlen (by decide)) (fun i acc H'=>∃ bs:List aB,acc=bs.map V.ref/\bs.length=i/\H' D=some (.lst acc)/\Same H H'/\iR a H' bs (ps.take i)) ⟨[],rfl,rfl,aF,sD,.nil⟩ (fun i acc H' _ ⟨bs,e,lb,hd,_⟩=>⟨by rw [e,aq,lb],hd⟩) ?_ ?_
    ·rintro acc H' ⟨bs,rfl,lb,hd,s',pt⟩;refine ⟨⟨_,s'.seq hl,by rw [aq]; exact aJ _⟩,?_⟩;rw [lp,bV] at pt;exact q H' D bs s' hD hd pt
    ·rintro i acc H' lt ⟨bs,rfl,lb,hd,s',pt⟩;have hl':=s'.seq hl;obtain ⟨b,hb⟩:∃ b,as[i]?=some b:=⟨as[i],aP lt⟩;obtain ⟨p,hp,pb⟩:=eG pots hb;have hx:(as.map V.ref)[i]?=some (.ref b):=by rw [aU,hb]; rfl
     refine ⟨⟨_,_,hl',hx⟩,?_⟩;rintro x CQ ⟨rfl,hx'⟩ Qc k;have ex:=hx' _ hl';rw [hx] at ex;cases ex;obtain ⟨dx,hb'⟩:=pb.same s';have BW:=rA p (aW hp);have cT:=T.cls p.jk;refine ⟨fX,_,rfl,b,p.cls a,dx,_,rfl,hb',p.jk,p.RX (by decide +kernel) (by decide +kernel) (by decide +kernel),_,rfl,b,p.cls a,dx,_,_,rfl,hb',cT.1.cl,cT.2 _ (by simp),p.BP,?_⟩;refine ⟨b,p,.int p.gap,.int,rfl,rfl,⟨dx,hb'⟩,BW,⟨_,rfl⟩,fun z=>(by rw [bJ.ZS BW] at z; cases z),fun _ j H3 y ej hy s3 py=>?_⟩;cases ej;refine k (.ref y) H3 (s3 _ _ hd) ⟨bs++[y],by rw [aX]; rfl,by rw [aR,lb]; rfl,aF,iJ (s'.trans s3) hD,?_⟩
     ·rw [take_snoc hp];exact Paired.snoc ((pt.same s3).upd (s3 _ _ hd)) (eY.upd py (s3 _ _ hd))
end
section
variable {X:Cx} {e:Expr} {p pos:Pos}
theorem jj {x:Str} {T:String} {r:List V->Hp->VK->Prop} {es:List Expr} {t:TA} (hc:gq X (.type T) r) (hm:X.mg x=none) (hv:bootBuiltins x=some (.type T)) (ha:PA X (e::es) t) (hg:autoParam (Gl X x) zau0) (hn:autoParam (x≠"__name__") zau1) (hdb:autoParam ((x == ("__debug__":Str))=false) zau1) (he:autoParam (starEach (e::es) X.env=(false,eval e X.env)::starEach es X.env) zau0) (hpl:autoParam ((backTo pos (starEach es X.env)).any (·.1)=false) zau0):PE X (.Call (.Name x p) (e::es) [] pos) (tCB r t):=HY hc hg hm hv ha hn hdb he hpl
end
section
variable {P:cg} {w:World} {K:Fg} {mg:Str->Option aA} {base:Heap} {a:gU}
def qR (w c:V):Bool:=match w with
 | .int i=>dN c 0 (1 * 2 ^ i.toNat - 1)
 | _=>false
def tZ (n:Nat) (c w cl:V):Bool:=decide (1<=n) && decide (n<=8) && dN c 0 8 && dN w 1 14 && qR w cl
noncomputable def aei (K:Fg) (a:gU):Sp:=fun vs H Q E=>∃ l xs c w cl kc kw kl,vs=[.ref l,c,w,cl]/\cU K H l xs/\fM K H c kc/\fM K H w kw/\fM K H cl kl /\ (tZ xs.length c w cl=false->E (.ref a.tooMany) none H)/\(tZ xs.length c w cl=true->Q .non H)
theorem aej:bY ["pots","cans","week","closed"] ["pots","cans","week","closed"] (aY Lg):=dX (by decide +kernel)
theorem ZX (G:Ef K mg a):cB P w K mg base (fK P w) 2 a.BK a.ad9 ["pots","cans","week","closed"] (aei K a):=by
 refine G.cnt.F.mX aej (fun vs H Q E h=>?_) (fun cdv A outer s H vs Q E hr h=>?_)
 ·obtain ⟨l,xs,c,wk,cl,kc,kw,kl,rfl,_⟩:=h;rfl
 ·obtain ⟨l,xs,c,wk,cl,kc,kw,kl,rfl,hl,hc,hw,hcl,bad,good⟩:=h;have T:=G.T;obtain ⟨t1,m1⟩:=G.Li;obtain ⟨t2,m2⟩:=G.Lj;obtain ⟨t3,m3⟩:=G.Lk;refine ⟨_,aG (dU (fu (Ad xg xg aL (gR eU T.B.len PySem.boot_len (ao (pv 0) aD)) (vA (.int 8) m1 ⟨t1,rfl⟩))) (aV (gD bF rfl (by rfl) G.tooMany.m G.tooMany.q PySem.F.excBase_ValueError (ao cj aD))) cA) (aG (dU (fu (eZ (cG T.okW hr T.mwh T.wh.F.kp T.wh.b bx (ao (pv 1) (ao aL (ao (vA (.int 8) m2 ⟨t2,rfl⟩) aD)))))) (aV (gD bF rfl (by rfl) G.tooMany.m G.tooMany.q PySem.F.excBase_ValueError (ao cj aD))) cA) (aG (dU (fu (eZ (cG T.okW hr T.mwh T.wh.F.kp T.wh.b bx (ao (pv 2) (ao aL (ao (vA (.int 14) m3 ⟨t3,rfl⟩) aD)))))) (aV (gD bF rfl (by rfl) G.tooMany.m G.tooMany.q PySem.F.excBase_ValueError (ao cj aD))) cA) (aV (dU (fu (eZ (cG T.okW hr T.mwh T.wh.F.kp T.wh.b bx (ao (pv 3) (ao aL (ao (bB Dd (bB yL aL (pv 2)) aL) aD)))))) (aV (gD bF rfl (by rfl) G.tooMany.m G.tooMany.q PySem.F.excBase_ValueError (ao cj aD))) cA)))),?_⟩;refine ⟨_,rfl,l,xs,rfl,.inl hl,_,_,rfl,rfl,_,rfl,?_⟩;unfold tZ at bad good
  by_cases h1:1<=xs.length
  ·have h1':(1:Int)<=(xs.length:Int):=by omega
   rw [aK h1'];refine dH ⟨_,_,rfl,rfl,_,rfl,?_⟩
   by_cases h2:xs.length<=8
   ·have h2':(xs.length:Int)<=8:=by omega
    rw [aK h2'];rw [aK h1,aK h2] at bad good;refine dG ⟨_,rfl,c,0,8,kc,rfl,hc,_,rfl,?_⟩;cases ec:dN c 0 8 with
    | false=>exact dH ⟨by show 1<=sizeLine; decide,bad (by rw [ec]; rfl)⟩
    | true =>
     refine dG ⟨_,rfl,wk,1,14,kw,rfl,hw,_,rfl,?_⟩;cases ew:dN wk 1 14 with
     | false=>exact dH ⟨by show 1<=sizeLine; decide,bad (by rw [ec,ew]; rfl)⟩
     | true =>
      obtain ⟨i,rfl,i1,i2⟩:=jD ew;refine dG ⟨_,rfl,_,rfl,_,_,rfl,rfl,⟨by omega,by omega,by decide⟩,_,_,rfl,rfl,cl,0,_,kl,rfl,hcl,_,rfl,?_⟩;rw [ec,ew] at bad good;cases el:dN cl 0 (1 * 2 ^ i.toNat - 1) with
      | false=>exact dH ⟨by show 1<=sizeLine; decide,bad (by rw [qR,el]; rfl)⟩
      | true=>exact dG (good (by rw [qR,el]; rfl))
   ·have h2':¬ (xs.length:Int)<=8:=by omega
    rw [aH h2'];exact dH ⟨by show 1<=sizeLine; decide,bad (by rw [aH h2]; simp)⟩
  ·have h1':¬ (1:Int)<=(xs.length:Int):=by omega
   rw [aH h1'];exact dG ⟨_,rfl,dH ⟨by show 1<=sizeLine; decide,bad (by rw [aH h1]; simp)⟩⟩
noncomputable def aek (K:Fg) (a:gU):Sp:=fun vs H Q E=>∃ l as ps,vs=[.ref l]/\cU K H l (as.map V.ref)/\iR a H as ps/\as.length<=8 /\ (¬ (ps.map bJ.nm).Nodup->∀ H',Same H H'->E (.ref a.dB) none H')/\((ps.map bJ.nm).Nodup->∀ H',Same H H'->Q .non H')
theorem ael:bY ["pots"] ["pots"] (aY Lh):=dX (by decide +kernel)
theorem Z0 (G:Ef K mg a):cB P w K mg base (fK P w) 2 a.BL a.aea ["pots"] (aek K a):=by
 refine G.twc.F.mX ael (fun vs H Q E h=>?_) (fun cdv A outer s H vs Q E hr h=>?_)
 ·obtain ⟨l,as,ps,rfl,_⟩:=h;rfl
 ·obtain ⟨l,as,ps,rfl,hl,pots,h8,bad,good⟩:=h;have T:=G.T;refine ⟨_,aV (dU (cN uU (gR Ik T.B.len PySem.boot_len (ao (jj (Ij rfl) T.B.set boot_set (ao (gw bF rfl ⟨_,_,rfl,rfl,rfl⟩ (fG.plain (N':=["pot"]) rfl (by decide +kernel) (by decide +kernel)) (eE (pv 0)) (fun _ _ _ _ _=>cZ 0 (show [("pot":Str)].Nodup by decide +kernel)) (fun _ _ _ _ _=>fL) (fun _ _ _ _ _ _=>xO K (pv 0))) aD)) aD)) (gR eU T.B.len PySem.boot_len (ao (pv 0) aD)) (cQ _)) (aV (gD bF rfl (by rfl) T.dB.m T.dB.q PySem.F.excBase_ValueError (ao cj aD))) cA),?_⟩;refine ⟨_,rfl,l,rfl,⟨_,hl⟩,fun D hD=>?_⟩;have lp:as.length=ps.length:=Paired.length pots;refine vB as.length (bw h8 (by decide)) (fun i acc H'=>acc=((ps.take i).map bJ.nm).map V.str/\upd H D (.lst acc)=H') ⟨rfl,rfl⟩ (fun i acc H' le ⟨e,eh⟩=>⟨?_,by rw [<- eh,aF]⟩) ?_ ?_
  ·rw [e,aq,aq,length_take,<- lp]; omega
  ·rintro acc H' ⟨rfl,rfl⟩;have sD:=bh (o:=.lst (((ps.take as.length).map bJ.nm).map V.str)) hD;rw [lp,bV] at sD ⊢;refine ⟨⟨_,sD.seq hl,by rw [aq,lp]; exact aJ _⟩,D,ps.map bJ.nm,rfl,cU.of aF,?_,fun S hS=>?_⟩
   ·rw [aq,<- lp]; exact Nat.lt_of_le_of_lt (Nat.succ_le_succ h8) (by decide)
   ·have sS:=sD.trans (bh (o:=vo P w S (iG (ps.map bJ.nm)).length) hS);refine ⟨S,_,rfl,aF,_,rfl,l,_,rfl,.inl (sS.seq hl),rfl,_,rfl,?_⟩;have e1:(V.int ((iG (ps.map bJ.nm)).length:Int)=V.int ((as.map V.ref).length:Int)) ↔ (ps.map bJ.nm).Nodup:=by
     rw [<- Gr,aq,aq,<- lp];constructor
     ·intro z; injection z with z; exact Int.ofNat.inj z
     ·intro z; rw [z]
    by_cases nd:(ps.map bJ.nm).Nodup
    ·rw [aK (e1.mpr nd)];exact dG (good nd _ sS)
    ·rw [aH (fun z=>nd (e1.mp z))];exact dH ⟨by show 1<=sizeLine; decide,bad nd _ sS⟩
  ·rintro i acc H' lt ⟨rfl,rfl⟩;have sD:=bh (o:=.lst (((ps.take i).map bJ.nm).map V.str)) hD;have hl':=sD.seq hl;obtain ⟨b,hb⟩:∃ b,as[i]?=some b:=⟨as[i],aP lt⟩;obtain ⟨q,hq,pb⟩:=eG pots hb;have hx:(as.map V.ref)[i]?=some (.ref b):=by rw [aU,hb]; rfl
   refine ⟨⟨_,_,hl',hx⟩,?_⟩;rintro x CQ ⟨rfl,hx'⟩ Qc k;have ex:=hx' _ hl';rw [hx] at ex;cases ex;obtain ⟨dx,hb'⟩:=pb.same sD;have cT:=T.cls q.jk;refine ⟨fX,_,rfl,b,q.cls a,dx,_,_,rfl,hb',cT.1.cl,cT.2 _ (by simp),q.nW,?_⟩;refine k _ _ aF ⟨?_,by rw [oN]⟩;rw [take_snoc hq,aX,aX];rfl
end
abbrev R0:cV:=inClass (top 26) 0
abbrev BX:cV:=inClass (top 26) 1
structure Ei (K:Fg) (x qual:Str) (st:cV) (dV:aA) (f:aB) (fd:d9):Prop where
 ex:∃ (oc:aA) (od:Option aB) (kV doc pm:aA) (an:Option aB) (cdv ct:aA) (osl:Array (Option aA)),fd=fnOf x qual (jZ st) (gk st) (aY st) dV kV doc pm an cdv ct/\K.lookup f=some ⟨oc,od,.func fd,osl⟩/\codeIn K cdv qual=true
 kp:keepIn K (.ref f)=true
theorem Ei.mX {P:cg} {w:World} {K:Fg} {mg:Str->Option aA} {base:Heap} {x qual:Str} {st:cV} {dV:aA} {f:aB} {fd:d9} {N ps:List Str} {k:Nat} {sp:Sp} (F:Ei K x qual st dV f fd) (S:bY N ps (aY st)) (len:∀ vs H Q E,sp vs H Q E->vs.length=ps.length) (body:∀ (cdv:aA) (A:cW) (outer:List Env) (s:aM) (H:Hp) (vs:List V) (Q:VK) (E:XK),eO k (A.deeper (PyProof.Rows.envOfC qual (aY st) s.heap.objs.size f cdv))->sp vs H Q E -> ∃ t,z9 (p7 (fK P w) P w K mg base N qual (aY st) f cdv A outer s H E) (gk st) t/\t { nx:=fun _ H'=>Q .non H',rt:=Q } (start N vs) H):cB P w K mg base (fK P w) (k + 1) f fd ps sp:=by
 obtain ⟨oc,od,kV,doc,pm,an,cdv,ct,osl,rfl,lk,hcd⟩:=F.ex;exact T4 lk hcd S len fun A outer s H vs Q E hr h=>body cdv A outer s H vs Q E hr h
structure Ej (K:Fg) (mg:Str->Option aA) (a:gU) (dV:aA):Prop where
 G:Ef K mg a
 tG:Bc K a.garden
 Z1:mg "Garden"=some (.ref a.garden)
 nG:∀ f ∈ (["pots","cans","week","closed"]:List Str),iV K a.garden f
 gi:Ei K "__init__" "Garden.__init__" R0 dV a.Oa a.dGI
 b4:Binds K a.dGI ["self","pots","cans","week","closed"] []
 b1:∃ t1 t2 t3,Binds K a.dGI ["self","pots","cans","week","closed"] [.int 1 t1,.int 1 t2,.int 0 t3]
 b2:∃ t2 t3,Binds K a.dGI ["self","pots","cans","week","closed"] [.int 1 t2,.int 0 t3]
 kG:Mk K a.garden a.Oa
 size:Fn K "size" "Garden.size" BX ["self"] a.K9 a.Ua
 aem:Meth K a.garden "size" a.K9
section
variable {P:cg} {w:World} {K:Fg} {mg:Str->Option aA} {base:Heap} {a:gU} {dV:aA}
structure iT where
 pots:List bJ
 cans:Int
 week:Int
 closed:Int
def Lp (l:aB) (c w cl:V):List (Str × V):=[("pots",.ref l),("cans",c),("week",w),("closed",cl)]
theorem rW (l:aB) (c w cl:V):(Lp l c w cl).lookup ("pots":Str)=some (.ref l):=yh
theorem zB (l:aB) (c w cl:V):(Lp l c w cl).lookup ("cans":Str)=some c:=(iU (by decide +kernel)).trans yh
theorem vU (l:aB) (c w cl:V):(Lp l c w cl).lookup ("week":Str)=some w:=(iU (by decide +kernel)).trans ((iU (by decide +kernel)).trans yh)
theorem vV (l:aB) (c w cl:V):(Lp l c w cl).lookup ("closed":Str)=some cl:=(iU (by decide +kernel)).trans ((iU (by decide +kernel)).trans ((iU (by decide +kernel)).trans yh))
theorem aiV (l:aB) (c w cl:V) {m:Str} (h1:(m == "pots")=false) (h2:(m == "cans")=false) (h3:(m == "week")=false) (h4:(m == "closed")=false):(Lp l c w cl).lookup m=none := (iU h1).trans ((iU h2).trans ((iU h3).trans (iU h4)))
theorem mz {f g:Str} {v x:V} {r:List (Str × V)} (h:¬ g=f):gM f v ((g,x)::r)=(g,x)::gM f v r:=by
 show (if g=f then _ else _)=_
 rw [if_neg h]
theorem aen (l:aB) (c w cl:V):gM "closed" cl (gM "week" w (gM "cans" c (gM "pots" (.ref l) [])))=Lp l c w cl:=by
 have e1:gM "pots" (V.ref l) []=[(("pots":Str),V.ref l)]:=rfl;have e2:gM "cans" c [(("pots":Str),V.ref l)]=([("pots",V.ref l),("cans",c)]:List (Str × V)):=by rw [mz (by decide +kernel)]; rfl
 have e3:gM "week" w ([("pots",V.ref l),("cans",c)]:List (Str × V))=([("pots",V.ref l),("cans",c),("week",w)]:List (Str × V)):=by rw [mz (by decide +kernel),mz (by decide +kernel)]; rfl
 have e4:gM "closed" cl ([("pots",V.ref l),("cans",c),("week",w)]:List (Str × V))=([("pots",V.ref l),("cans",c),("week",w),("closed",cl)]:List (Str × V)):=by rw [mz (by decide +kernel),mz (by decide +kernel),mz (by decide +kernel)]; rfl
 rw [e1,e2,e3,e4];rfl
def sizeOf (wk:Int) (ps:List bJ):Int:=ps.foldl (fun s p=>s * p.gap) wk
def j9 (a:gU) (H:Hp) (x:aB) (g:iT):Prop:=∃ dx l as,H x=some (.ins a.garden dx (Lp l (.int g.cans) (.int g.week) (.int g.closed)))/\H l=some (.lst (as.map V.ref))/\iR a H as g.pots
theorem j9.same {H H':Hp} {x:aB} {g:iT} (h:j9 a H x g) (s:Same H H'):j9 a H' x g:=by
 obtain ⟨dx,l,as,h1,h2,h3⟩:=h;exact ⟨dx,l,as,s _ _ h1,s _ _ h2,h3.same s⟩
noncomputable def Z2 (K:Fg) (a:gU):Sp:=fun vs H Q _=>∃ x dx l as ps c wk cl,vs=[.ref x]/\H x=some (.ins a.garden dx (Lp l c (.int wk) cl))/\cU K H l (as.map V.ref)/\iR a H as ps/\(∀ p ∈ ps,p.Ok)/\Q (.int (sizeOf wk ps)) H
theorem zE:bY ["self","states","pot"] ["self"] (aY BX):=dX (by decide +kernel)
theorem R3 (Z:Ej K mg a dV):cB P w K mg base (fK P w) 1 a.K9 a.Ua ["self"] (Z2 K a):=by
 refine Z.size.F.mX zE (fun vs H Q E h=>?_) (fun cdv A outer s H vs Q E hr h=>?_)
 ·obtain ⟨x,dx,l,as,ps,c,wk,cl,rfl,_⟩:=h;rfl
 ·obtain ⟨x,dx,l,as,ps,c,wk,cl,rfl,hx,hl,pots,rA,q⟩:=h;have T:=Z.G.T;refine ⟨_,aG (bK (i:=1) zE.nd rfl (Or.inl rfl) (dM (pv 0) rfl)) (aG (jE gB rfl (eE (dM (pv 0) rfl)) (cZ 2 zE.nd) (aV (bK (i:=1) zE.nd rfl (Or.inl rfl) (bB yK (pv 1) (dM (pv 2) rfl))))) (aV (cJ (pv 1)))),?_⟩;refine ⟨_,rfl,x,a.garden,dx,_,_,rfl,hx,Z.tG.cl,Z.nG _ (by simp),vU ..,_,rfl,x,a.garden,dx,_,_,rfl,hx,Z.tG.cl,Z.nG _ (by simp),rW ..,l,rfl,⟨_,hl⟩,nH (K:=K) (a:=l) (xs:=as.map V.ref) (fun i σ H'=>∃ u,σ=[some (.ref x),some (.int (sizeOf wk (ps.take i))),u]/\H=H') ⟨none,rfl,rfl⟩ (fun i σ H' _ ⟨_,_,e⟩=>e ▸ hl) ?_ ?_⟩
  ·rintro i y σ H' hi ⟨u,rfl,rfl⟩;rw [aU] at hi;obtain ⟨b,hb,rfl⟩:=bH.mp hi;obtain ⟨p,hp,dy,hb'⟩:=eG pots hb;have BW:=rA p (aW hp);have cT:=T.cls p.jk;refine ⟨_,rfl,_,rfl,b,p.cls a,dy,_,_,rfl,hb',cT.1.cl,cT.2 _ (by simp),p.BP,_,_,rfl,rfl,.inr ⟨by have:=BW.gap; omega,by have:=BW.gap; omega⟩,?_⟩;have e:sizeOf wk (ps.take (i + 1))=sizeOf wk (ps.take i) * p.gap:=by
    rw [take_snoc hp,sizeOf,sizeOf,List.foldl_append];rfl
   refine ⟨some (.ref b),?_,rfl⟩;rw [e];rfl
  ·rintro σ H' ⟨u,rfl,rfl⟩;refine ⟨_,rfl,?_⟩;have lp:as.length=ps.length:=Paired.length pots;rw [aq,lp,bV];exact q
theorem Lq {σ:St} {H:Hp} {R:List V->Hp->Prop} (h:R [] H):JT σ H R:=h
inductive aeo where
 | bad | many | ok
 deriving DecidableEq
noncomputable def vW (ps:List bJ) (c w cl:V):aeo := if tZ ps.length c w cl=false then .many else if ¬ (ps.map bJ.nm).Nodup then .bad else
 match w with
 | .int wk=>if 20000 < sizeOf wk ps then .many else .ok
 | _=>.many
def zF (o:Option (List bJ)) (c w cl:V):aeo:=match o with
 | none=>.bad
 | some ps=>vW ps c w cl
inductive uq (K:Fg) (a:gU) (H:Hp):V->Option (List bJ)->Prop where
 | no {v:V} {k:Kd} (hk:fM K H v k) (h:bi k .list=false):uq K a H v none
 | mix {l:aB} {xs:List V} {ks:List Kd} (hk:fM K H (.ref l) .lst) (hl:cU K H l xs) (len:xs.length<=1000) (ZW:Paired (fM K H) xs ks) (pk:∀ k ∈ ks,PK a k) (h:ks.all (Ob a)=false):uq K a H (.ref l) none
 | pots {l:aB} {as:List aB} {ps:List bJ} (hk:fM K H (.ref l) .lst) (hl:cU K H l (as.map V.ref)) (len:as.length<=1000) (pots:iR a H as ps) (rA:∀ p ∈ ps,p.Ok):uq K a H (.ref l) (some ps)
theorem Lr (T:jY K mg a) {H:Hp} {as:List aB} {ps:List bJ} (h:iR a H as ps):Paired (fM K H) (as.map V.ref) (ps.map fun p=>Kd.ins (p.cls a)):=by
 induction h with
 | nil=>exact .nil
 | cons r _ ih =>
  obtain ⟨dx,e⟩:=r;exact .cons ⟨_,dx,_,rfl,e,(T.cls (bJ.jk _)).1⟩ ih
theorem Ls {ps:List bJ}:(ps.map fun p=>Kd.ins (p.cls a)).all (Ob a)=true:=by
 rw [all_map,all_eq_true];intro p _;exact aK p.jk
theorem Z4 (T:jY K mg a) {H:Hp} {Q:VK} {E:XK} {v:V} {o:Option (List bJ)} (g:uq K a H v o) (bad:o=none->∀ H',Same H H'->E (.ref a.dB) none H') (good:∀ ps,o=some ps->(∀ p ∈ ps,p.Ok)->∀ H' l' bs,Same H H'->H l'=none->H' l'=some (.lst (bs.map V.ref))->iR a H' bs ps->Q (.ref l') H'):Ub K a [v] H Q E:=by
 cases g with
 | no hk h=>exact ⟨v,_,rfl,hk,fun _=>bad rfl,fun z=>by rw [h] at z; cases z⟩
 | mix hk hl len ZW pk h=>exact ⟨_,_,rfl,hk,(fun z=>nomatch z),fun _=>⟨_,_,_,rfl,hl,len,ZW,pk,fun _=>bad rfl,fun z=>by rw [h] at z; cases z⟩⟩
 | pots hk hl len pots rA =>
  refine ⟨_,_,rfl,hk,(fun z=>nomatch z),fun _=>⟨_,_,_,rfl,hl,by rw [aq]; exact len,Lr T pots,?_,fun z=>?_,fun _=>⟨_,_,rfl,pots,rA,good _ rfl rA⟩⟩⟩
  ·intro k hk C e;obtain ⟨p,_,rfl⟩:=bf.mp hk;cases e;exact p.jk
  ·rw [Ls] at z;cases z
def mK (a:gU) (H H':Hp) (x:aB) (g:iT):Prop:=∃ dx l as,H' x=some (.ins a.garden dx (Lp l (.int g.cans) (.int g.week) (.int g.closed)))/\H' l=some (.lst (as.map V.ref))/\iR a H' as g.pots/\H l=none
theorem mK.at {H H':Hp} {x:aB} {g:iT} (h:mK a H H' x g):j9 a H' x g:=by
 obtain ⟨dx,l,as,h1,h2,h3,_⟩:=h;exact ⟨dx,l,as,h1,h2,h3⟩
theorem mK.from {H0 H H':Hp} {x:aB} {g:iT} (h:mK a H H' x g) (s:Same H0 H):mK a H0 H' x g:=by
 obtain ⟨dx,l,as,h1,h2,h3,h4⟩:=h;exact ⟨dx,l,as,h1,h2,h3,s.free h4⟩
noncomputable def aep (K:Fg) (a:gU):Sp:=fun vs H Q E=>∃ x dx v c w cl o kc kw kl,vs=[.ref x,v,c,w,cl]/\H x=some (.ins a.garden dx [])/\uq K a H v o/\fM K H c kc/\fM K H w kw/\fM K H cl kl /\ (zF o c w cl=.bad->∀ H',But x H H'->E (.ref a.dB) none H')/\(zF o c w cl=.many->∀ H',But x H H'->E (.ref a.tooMany) none H') /\ (zF o c w cl=.ok->∀ ps ci wi li H',o=some ps->c=.int ci->w=.int wi->cl=.int li->But x H H'->mK a H H' x ⟨ps,ci,wi,li⟩->Q .non H')
theorem aer:bY ["self","pots","cans","week","closed","copies"] ["self","pots","cans","week","closed"] (aY R0):=dX (by decide +kernel)
theorem Lw (Z:Ej K mg a dV):cB P w K mg base (fK P w) 7 a.Oa a.dGI ["self","pots","cans","week","closed"] (aep K a):=by
 refine Z.gi.mX aer (fun vs H Q E h=>?_) (fun cdv A outer s H vs Q E hr h=>?_)
 ·obtain ⟨x,dx,v,c,wk,cl,o,kc,kw,kl,rfl,_⟩:=h;rfl
 ·obtain ⟨x,dx,v,c,wk,cl,o,kc,kw,kl,rfl,hx,ga,hc,hw,hcl,bad,many,good⟩:=h;have G:=Z.G;have T:=G.T;obtain ⟨t1,m1⟩:=G.Eh;have hr2:eO 2 _:=hr.mono (by decide);refine ⟨_,aG (bK (i:=5) aer.nd rfl (Or.inl rfl) (cG (ZV G) hr G.ZP G.own.F.kp G.own.b (cC bF) (ao (pv 1) aD))) (aG (gZ (cG (ZX G) hr2 G.ZQ G.cnt.F.kp G.cnt.b (cC bF) (ao (pv 5) (ao (pv 2) (ao (pv 3) (ao (pv 4) aD)))))) (aG (gZ (cG (Z0 G) hr2 G.ZR G.twc.F.kp G.twc.b (cC bF) (ao (pv 5) aD))) (aG (pY (pv 0) (pv 5) rfl) (aG (pY (pv 0) (pv 2) rfl) (aG (pY (pv 0) (pv 3) rfl) (aG (pY (pv 0) (pv 4) rfl) (aV (dU (cN JM (JW (pv 0) Z.tG.cl Z.aem (R3 Z) (hr.mono (by decide)) Z.size.b .nil bx) (vA (.int 20000) m1 ⟨t1,rfl⟩) (cQ _)) (aV (gD bF rfl (by rfl) G.tooMany.m G.tooMany.q PySem.F.excBase_ValueError (ao cj aD))) cA)))))))),?_⟩;refine ⟨_,rfl,Lq (Z4 T ga (fun e H' s'=>bad (by rw [e]; rfl) H' (Same.but s')) (fun ps eo rA H1 l bs s1 fl hl1 pt1=>?_))⟩;subst eo;have lb:bs.length=ps.length:=Paired.length pt1;have hl1':cU K H1 l (bs.map V.ref):=cU.of hl1;refine ⟨_,rfl,_,rfl,_,rfl,_,rfl,l,_,c,wk,cl,kc,kw,kl,rfl,hl1',hc.same s1,hw.same s1,hcl.same s1,fun e=>many ?_ H1 (Same.but s1),fun e=>?_⟩
  ·rw [aq,lb] at e
   show vW _ _ _ _=_
   unfold vW;rw [if_pos e]
  ·rw [aq,lb] at e;have e':¬ tZ ps.length c wk cl=false:=by rw [e]; exact Bool.noConfusion
   have h8:ps.length<=8/\(∃ ci,c=.int ci)/\(∃ wi,wk=.int wi)/\∃ li,cl=.int li:=by
    unfold tZ at e;simp only [Bool.and_eq_true,decide_eq_true_eq] at e;obtain ⟨⟨⟨⟨e1,e2⟩,e3⟩,e4⟩,e5⟩:=e;obtain ⟨ci,rfl,_⟩:=jD e3;obtain ⟨wi,rfl,_⟩:=jD e4;obtain ⟨li,rfl,_⟩:=jD e5;exact ⟨e2,⟨_,rfl⟩,⟨_,rfl⟩,⟨_,rfl⟩⟩
   obtain ⟨h8,⟨ci,rfl⟩,⟨wi,rfl⟩,⟨li,rfl⟩⟩:=h8;refine ⟨_,rfl,l,bs,ps,rfl,hl1',pt1,by rw [lb]; exact h8,fun nd H2 s2=>bad ?_ H2 (Same.but (s1.trans s2)),fun nd H2 s2=>?_⟩
   ·show vW _ _ _ _=_
    unfold vW;rw [if_neg e',if_pos nd]
   ·have nxl:x≠l:=dz hx fl;have s12:=s1.trans s2;have hx2:=s12 _ _ hx;refine ⟨_,rfl,_,rfl,x,a.garden,dx,_,rfl,hx2,Z.tG.cl,Z.nG _ (by simp),by show 0 < 1000; decide,?_⟩;refine ⟨_,rfl,_,rfl,x,a.garden,dx,_,rfl,aF,Z.tG.cl,Z.nG _ (by simp),by show 1 < 1000; decide,?_⟩;refine ⟨_,rfl,_,rfl,x,a.garden,dx,_,rfl,aF,Z.tG.cl,Z.nG _ (by simp),(by rw [show gM "cans" (V.int ci) (gM "pots" (V.ref l) [])=[(("pots":Str),V.ref l),(("cans":Str),V.int ci)] from mz (by decide +kernel)]; show 2 < 1000; decide),?_⟩;refine ⟨_,rfl,_,rfl,x,a.garden,dx,_,rfl,aF,Z.tG.cl,Z.nG _ (by simp),?_,?_⟩
    ·have:=jg "week" (V.int wi) (gM "cans" (V.int ci) (gM "pots" (V.ref l) []));have:=jg "cans" (V.int ci) (gM "pots" (V.ref l) []);have:=jg "pots" (V.ref l) [];simp at this;omega
    ·rw [oN,oN,oN,aen];generalize eH:upd H2 x (.ins a.garden dx (Lp l (.int ci) (.int wi) (.int li)))=H3;have hx3:H3 x=some (.ins a.garden dx (Lp l (.int ci) (.int wi) (.int li))):=by rw [<- eH,aF]
     have b3:But x H H3:=fun b o n e=>by rw [<- eH,bA n]; exact s12 _ _ e
     have hl3:H3 l=some (.lst (bs.map V.ref)):=by rw [<- eH,bA nxl.symm]; exact s2 _ _ hl1
     have pt3:iR a H3 bs ps:=by
      refine Paired.jx (pt1.same s2) fun b p e=>?_
      obtain ⟨dy,e⟩:=e;refine ⟨dy,?_⟩;rw [<- eH,bA ?_]
      ·exact e
      ·intro z;subst z;rw [e] at hx2;have:=(bU hx2);injection this with _ _ e3;unfold bJ.fs at e3
       split at e3 <;> cases e3
     refine ⟨_,rfl,x,dx,_,rfl,hx3,aiV _ _ _ _ (by decide +kernel) (by decide +kernel) (by decide +kernel) (by decide +kernel),x,dx,l,bs,ps,_,wi,_,rfl,hx3,cU.of hl3,pt3,rA,_,_,rfl,rfl,_,rfl,?_⟩
     by_cases big:20000 < sizeOf wi ps
     ·rw [aK big];refine dH ⟨by show 1<=sizeLine; decide,many ?_ _ b3⟩
      show vW _ _ _ _=_
      unfold vW;rw [if_neg e',if_neg (fun z=>z nd)];exact if_pos big
     ·rw [aH big];refine dG (good ?_ ps ci wi li _ rfl rfl rfl rfl b3 ⟨dx,l,bs,hx3,hl3,pt3,fl⟩)
      show vW _ _ _ _=_
      unfold vW;rw [if_neg e',if_neg (fun z=>z nd)];exact if_neg big
end
section
variable {P:cg} {w:World} {K:Fg} {mg:Str->Option aA} {base:Heap} {a:gU} {dV:aA}
theorem uq.same {H H':Hp} {v:V} {o:Option (List bJ)} (g:uq K a H v o) (s:Same H H'):uq K a H' v o:=by
 cases g with
 | no hk h=>exact .no (hk.same s) h
 | mix hk hl len ZW pk h=>exact .mix (hk.same s) (s.seq hl) len (Paired.jx ZW fun _ _ e=>e.same s) pk h
 | pots hk hl len pots rA=>exact .pots (hk.same s) (s.seq hl) len (pots.same s) rA
structure yp (a:gU) (H:Hp) (Q:aB->Hp->Prop) (E:XK) (o:Option (List bJ)) (c w cl:V):Prop where
 bad:zF o c w cl=.bad->∀ H',Same H H'->E (.ref a.dB) none H'
 many:zF o c w cl=.many->∀ H',Same H H'->E (.ref a.tooMany) none H'
 ok:zF o c w cl=.ok->∀ ps ci wi li H' x,o=some ps->c=.int ci->w=.int wi->cl=.int li->H x=none->Same H H'->mK a H H' x ⟨ps,ci,wi,li⟩->Q x H'
theorem yp.from {H H1:Hp} {Q:aB->Hp->Prop} {E:XK} {o:Option (List bJ)} {c w cl:V} (p:yp a H Q E o c w cl) (s:Same H H1):yp a H1 Q E o c w cl := ⟨fun e H' s'=>p.bad e H' (s.trans s'),fun e H' s'=>p.many e H' (s.trans s'),fun e ps ci wi li H' x h1 h2 h3 h4 hx s' g=>p.ok e ps ci wi li H' x h1 h2 h3 h4 (s.free hx) (s.trans s') (g.from s)⟩
theorem Ek {H:Hp} {Q:aB->Hp->Prop} {E:XK} {v c w cl:V} {o:Option (List bJ)} {kc kw kl:Kd} (ga:uq K a H v o) (hc:fM K H c kc) (hw:fM K H w kw) (hcl:fM K H cl kl) (p:yp a H Q E o c w cl) : ∀ x dx,H x=none->H dx=none->dx≠x->aep K a [.ref x,v,c,w,cl] (upd (upd H dx (.own x)) x (.ins a.garden dx [])) (fun v H2=>v=.non/\Q x H2) E:=by
 intro x dx nx ndx ne;have s0:=rT (C:=a.garden) nx ndx;exact ⟨x,dx,v,c,w,cl,o,kc,kw,kl,rfl,aF,ga.same s0,hc.same s0,hw.same s0,hcl.same s0,fun e H' b=>p.bad e H' (b.made nx ndx),fun e H' b=>p.many e H' (b.made nx ndx),fun e ps ci wi li H' h1 h2 h3 h4 b g=>⟨rfl,p.ok e ps ci wi li H' x h1 h2 h3 h4 nx (b.made nx ndx) (g.from s0)⟩⟩
theorem j9.arg {H:Hp} {x l dx:aB} {as:List aB} {ps:List bJ} (hl:H l=some (.lst (as.map V.ref))) (h8:as.length<=1000) (pt:iR a H as ps) (rA:∀ p ∈ ps,p.Ok):uq K a H (.ref l) (some ps) := .pots ⟨l,_,rfl,.inl hl⟩ (cU.of hl) h8 pt rA
theorem eqT {x y:Int} {A B:Prop} (e:x=y) (h:A):if decide (V.int x=V.int y)=true then A else B:=by
 rw [aK (by rw [e])]; exact dH h
theorem Lx {H:Hp} {Q:aB->Hp->Prop} {E:XK} {ps:List bJ} {c w cl:Int} (h:zF (some ps) (.int c) (.int w) (.int cl)=.ok) (k:∀ H' x,H x=none->Same H H'->mK a H H' x ⟨ps,c,w,cl⟩->Q x H'):yp a H Q E (some ps) (.int c) (.int w) (.int cl) := ⟨fun e=>(by rw [h] at e; cases e),fun e=>(by rw [h] at e; cases e),fun _ ps' ci wi li H' x e1 e2 e3 e4 hx s' g=>by cases e1; cases e2; cases e3; cases e4; exact k H' x hx s' g⟩
theorem Ly {H:Hp} {n:Nat} {x:V} (h:u0 x=true):z6 K H n x x true:=by
 have:=z6.flat (K:=K) (H:=H) (n:=n) h h;rw [Kr h] at this;exact this
end
abbrev GJ:cV:=top 40
abbrev GK:cV:=top 41
section
variable {P:cg} {w:World} {K:Fg} {mg:Str->Option aA} {base:Heap} {a:gU} {dV:aA}
def vX (K:Fg):Sp:=fun vs H Q _=>∃ (s:aB) (ns:List Int) (k:Nat),vs=[.ref s,.int k]/\cU K H s (ns.map V.int)/\Q (.int (ns.getD k 0)) H
theorem Z5:bY ["_law_script","_law_k"] ["_law_script","_law_k"] (aY GJ):=dX (by decide +kernel)
theorem uH {f:aB} {fd:d9} (F:nJ K "_law_cell_at" "_law_cell_at" GJ f fd) (B:K4 mg):cB P w K mg base (fK P w) 1 f fd ["_law_script","_law_k"] (vX K):=by
 refine F.mX Z5 (fun vs H Q E h=>?_) (fun cdv A outer s H vs Q E hr h=>?_)
 ·obtain ⟨x,ns,k,rfl,_⟩:=h;rfl
 ·obtain ⟨x,ns,k,rfl,hs,q⟩:=h;refine ⟨_,aG (dU (cN Ac (pv 1) (gR eU B.len PySem.boot_len (ao (pv 0) aD)) (cQ _)) (aV (cJ (cR gO (pv 0) (pv 1) (fun _ _=>rfl)))) cA) (aV (cJ aL)),?_⟩;refine ⟨_,rfl,_,rfl,x,_,rfl,.inl hs,_,_,rfl,rfl,_,rfl,?_⟩
  by_cases lt:k < ns.length
  ·rw [aK (by rw [aq]; omega)];have e:(ns.map V.int)[k]?=some (.int (ns.getD k 0)):=by simp [lt]
   exact dH ⟨_,rfl,_,rfl,x,_,_,_,rfl,rfl,hs,dW e,q⟩
  ·rw [aH (by rw [aq]; omega)];have e:ns.getD k 0=0:=by simp [List.getD,List.getElem?_eq_none (by omega:ns.length<=k)]
   rw [e] at q;exact dG q
def zG:List Int:=[1000003,1000033,1000037,1000039,1000081,1000099,1000117,1000121]
def uI (k:Int):Int:=zG.getD (k % 8).toNat 1
def m8 (c k m:Int):Int:=(c * 48271 + k * 69621 + c / 1000003 % 1000003 * 40692) % uI k % m
theorem ig (c k:Int) {m:Int} (h:0 < m):0<=m8 c k m:=Int.emod_nonneg _ (by omega)
theorem iu (c k:Int) {m:Int} (h:0 < m):m8 c k m < m:=Int.emod_lt_of_pos _ h
theorem Lz (k:Int):Jv (zG.map V.int) (k % 8)=some (.int (uI k))/\0 < uI k:=by
 have h0:0<=k % 8:=Int.emod_nonneg _ (by decide);have h1:k % 8 < 8:=Int.emod_lt_of_pos _ (by decide);unfold uI;have h:k % 8=0\/k % 8=1\/k % 8=2\/k % 8=3\/k % 8=4\/k % 8=5\/k % 8=6\/k % 8=7:=by omega
 rcases h with e | e | e | e | e | e | e | e <;> rw [e] <;> exact ⟨rfl,by decide⟩
def zH:Sp:=fun vs H Q _=>∃ c k m:Int,vs=[.int c,.int k,.int m]/\0 < m/\∀ H',Same H H'->Q (.int (m8 c k m)) H'
theorem El:bY ["_law_cell","_law_k","_law_many","_law_primes","_law_blend"] ["_law_cell","_law_k","_law_many"] (aY GK):=dX (by decide +kernel)
theorem zJ {f:aB} {fd:d9} (F:nJ K "_law_draw" "_law_draw" GK f fd):cB P w K mg base (fK P w) 1 f fd ["_law_cell","_law_k","_law_many"] zH:=by
 refine F.mX El (fun vs H Q E h=>?_) (fun cdv A outer s H vs Q E hr h=>?_)
 ·obtain ⟨c,k,m,rfl,_⟩:=h;rfl
 ·obtain ⟨c,k,m,rfl,m0,q⟩:=h;refine ⟨_,aG (bK (i:=3) El.nd rfl (Or.inl rfl) (gb (d7 [.int 1000003,.int 1000033,.int 1000037,.int 1000039,.int 1000081,.int 1000099,.int 1000117,.int 1000121] rfl))) (aG (bK (i:=4) El.nd rfl (Or.inl rfl) (bB dY (bB dY (bB yK (pv 0) aL) (bB yK (pv 1) aL)) (bB yK (bB fC (bB gK (pv 0) aL) aL) aL))) (aV (cJ (bB fC (bB fC (pv 4) (cR dZ (pv 3) (bB fC (pv 1) aL) (fun _ _=>rfl))) (pv 2))))),?_⟩;refine ⟨by show 8<=sizeLine; decide,fun t ht=>?_⟩;have st:=bh (o:=.tup (zG.map V.int)) ht;refine ⟨_,rfl,_,_,rfl,rfl,.inr ⟨by decide,by decide⟩,_,rfl,_,_,rfl,rfl,.inr ⟨by decide,by decide⟩,_,_,rfl,rfl,_,rfl,_,_,rfl,rfl,⟨by decide,by decide⟩,_,_,rfl,rfl,(by show (0:Int) < 1000003; decide),_,_,rfl,rfl,.inr ⟨by decide,by decide⟩,_,_,rfl,rfl,?_⟩;obtain ⟨pa,p0⟩:=Lz k;refine ⟨_,rfl,_,rfl,_,rfl,_,_,rfl,rfl,(by show (0:Int) < 8; decide),t,_,_,_,rfl,rfl,gY.of aF,pa,_,_,rfl,rfl,p0,_,rfl,_,_,rfl,rfl,m0,?_⟩;exact q _ st
end
abbrev zK:cV:=top 3
abbrev uJ:cV:=inClass (top 14) 1
abbrev uK:cV:=inClass (top 15) 1
abbrev oZ:cV:=inClass (top 14) 2
abbrev o7:cV:=inClass (top 15) 2
structure Em (K:Fg) (mg:Str->Option aA) (a:gU) (dV:aA):Prop where
 Z:Ej K mg a dV
 aiY:∃ f fd,Fn K "is_set" "is_set" zK ["number","bit"] f fd/\mg "is_set"=some (.ref f)
 aiZ:∃ f fd,Fn K "may" "Pot.may" uJ ["self","since"] f fd/\Meth K a.pot "may" f
 ai0:∃ f fd,Fn K "may" "Cactus.may" uK ["self","since"] f fd/\Meth K a.cactus "may" f
 wP:∃ f fd,Fn K "words" "Pot.words" oZ ["self"] f fd/\Meth K a.pot "words" f
 wC:∃ f fd,Fn K "words" "Cactus.words" o7 ["self"] f fd/\Meth K a.cactus "words" f
section
variable {P:cg} {w:World} {K:Fg} {mg:Str->Option aA} {base:Heap} {a:gU} {dV:aA}
def GP:Sp:=fun vs H Q _=>∃ n b:Int,vs=[.int n,.int b]/\0<=b/\Q (.bl (um n b)) H
theorem R4:bY ["number","bit"] ["number","bit"] (aY zK):=dX (by decide +kernel)
theorem aes {i j:Int}:decide (V.int i=V.int j)=decide (i=j):=by
 by_cases h:i=j
 ·rw [aK h,aK (by rw [h])]
 ·rw [aH h,aH (fun z=>h (by injection z))]
theorem LC {f:aB} {fd:d9} (F:nJ K "is_set" "is_set" zK f fd):cB P w K mg base (fK P w) 1 f fd ["number","bit"] GP:=by
 refine F.mX R4 (fun vs H Q E h=>?_) (fun cdv A outer s H vs Q E hr h=>?_)
 ·obtain ⟨n,b,rfl,_⟩:=h;rfl
 ·obtain ⟨n,b,rfl,b0,q⟩:=h;refine ⟨_,aV (cJ (lM jt (bB JK (bB JH (pv 0) (pv 1)) aL) aL (cQ _))),?_⟩;refine ⟨_,rfl,_,rfl,_,_,rfl,rfl,b0,_,_,rfl,rfl,rfl,?_⟩;rw [aes];exact q
def En (p:bJ) (s:Int):Bool:=match p.rest with
 | none=>true
 | some r=>decide (r<=s)
def GQ (a:gU) (C:aB):Sp:=fun vs H Q _=>∃ x p s,vs=[.ref x,.int s]/\p.cls a=C/\eY a H x p/\Q (.bl (En p s)) H
theorem ai1:bY ["self","since"] ["self","since"] (aY uJ):=dX (by decide +kernel)
theorem ai2:bY ["self","since"] ["self","since"] (aY uK):=dX (by decide +kernel)
theorem Jh {f:aB} {fd:d9} (F:nJ K "may" "Pot.may" uJ f fd) (T:jY K mg a):cB P w K mg base (fK P w) 1 f fd ["self","since"] (GQ a a.pot):=by
 refine F.mX ai1 (fun vs H Q E h=>?_) (fun cdv A outer s H vs Q E hr h=>?_)
 ·obtain ⟨x,p,n,rfl,_⟩:=h;rfl
 ·obtain ⟨x,p,n,rfl,hc,px,q⟩:=h;refine ⟨_,aV (cJ j4),?_⟩;have e:En p n=true:=by
   unfold En;cases e:p.rest with
   | none=>rfl
   | some r=>rw [bJ.cls,e] at hc; exact absurd hc.symm T.ne
  rw [e] at q;exact q
theorem Ji {f:aB} {fd:d9} (F:nJ K "may" "Cactus.may" uK f fd) (T:jY K mg a):cB P w K mg base (fK P w) 1 f fd ["self","since"] (GQ a a.cactus):=by
 refine F.mX ai2 (fun vs H Q E h=>?_) (fun cdv A outer s H vs Q E hr h=>?_)
 ·obtain ⟨x,p,n,rfl,_⟩:=h;rfl
 ·obtain ⟨x,p,n,rfl,hc,⟨dx,hx⟩,q⟩:=h;refine ⟨_,aV (cJ (lM TV (pv 1) (dM (pv 0) rfl) (cQ _))),?_⟩;obtain ⟨r,er⟩:∃ r,p.rest=some r:=by
   cases e:p.rest with
   | none=>rw [bJ.cls,e] at hc; exact absurd hc T.ne
   | some r=>exact ⟨r,rfl⟩
  have lr:p.fs.lookup ("rest":Str)=some (.int r):=by simp only [bJ.fs,er]; exact uG _ _ _
  rw [hc] at hx;have e:En p n=decide (r<=n):=by unfold En; rw [er]
  rw [e] at q;exact ⟨_,rfl,_,rfl,x,a.cactus,dx,_,_,rfl,hx,T.tC.cl,T.nC _ (by simp),lr,_,_,rfl,rfl,q⟩
theorem Em.may (W:Em K mg a dV):∀ C,(C=a.pot\/C=a.cactus)->∃ f fd,Cls K C/\Meth K C "may" f/\cB P w K mg base (fK P w) 1 f fd ["self","since"] (GQ a C)/\Binds K fd ["self","since"] []:=by
 intro C h;have T:=W.Z.G.T;rcases h with rfl | rfl
 ·obtain ⟨f,fd,F,m⟩:=W.aiZ;exact ⟨f,fd,T.tP.cl,m,Jh F.F T,F.b⟩
 ·obtain ⟨f,fd,F,m⟩:=W.ai0;exact ⟨f,fd,T.tC.cl,m,Ji F.F T,F.b⟩
theorem Eo {n:Int} (h0:0<=n) (h:n<=100000):n.natAbs.log2 < 100:=by
 obtain ⟨k,rfl⟩:=Int.eq_ofNat_of_zero_le h0
 show ((k:Nat):Int).natAbs.log2 < 100
 rw [Int.natAbs_natCast]
 by_cases z:k=0
 ·subst z; decide
 ·rw [Nat.log2_lt z];exact Nat.lt_of_le_of_lt (show k<=100000 by omega) (by decide)
theorem jm {n:Int} (h0:0<=n) (h:n<=100000):n.natAbs.log2 < 1920:=Nat.lt_trans (Eo h0 h) (by decide)
def bJ.nums (p:bJ):List Int:=match p.rest with
 | none=>[p.gap]
 | some r=>[p.gap,r]
def bJ.ws (p:bJ):List Str:=match p.rest with
 | none=>["pot",p.nm,cY p.gap]
 | some r=>["cactus",p.nm,cY p.gap,cY r]
def qT (a:gU) (C:aB):Sp:=fun vs H Q _=>∃ x p,vs=[.ref x]/\p.cls a=C/\eY a H x p/\p.Ok/\∀ H' l,Same H H'->H l=none->H' l=some (.lst (p.ws.map V.str))->Q (.ref l) H'
theorem ai3:bY ["self"] ["self"] (aY oZ):=dX (by decide +kernel)
theorem ai4:bY ["self"] ["self"] (aY o7):=dX (by decide +kernel)
theorem BZ {f:aB} {fd:d9} (F:nJ K "words" "Pot.words" oZ f fd) (T:jY K mg a):cB P w K mg base (fK P w) 1 f fd ["self"] (qT a a.pot):=by
 refine F.mX ai3 (fun vs H Q E h=>?_) (fun cdv A outer s H vs Q E hr h=>?_)
 ·obtain ⟨x,p,rfl,_⟩:=h;rfl
 ·obtain ⟨x,p,rfl,hc,⟨dx,hx⟩,ok,q⟩:=h;refine ⟨_,aV (cJ (fY (ao cj (ao (dM (pv 0) rfl) (ao (jj fH T.B.str boot_str (ao (dM (pv 0) rfl) aD)) aD))))),?_⟩;have er:p.rest=none:=by
   cases e:p.rest with
   | none=>rfl
   | some r=>rw [bJ.cls,e] at hc; exact absurd hc.symm T.ne
  have ew:p.ws.map V.str=[V.str "pot",.str p.nm,.str (cY p.gap)]:=by unfold bJ.ws; rw [er]; rfl
  have g:=ok.gap;rw [hc] at hx;refine ⟨_,rfl,x,a.pot,dx,_,_,rfl,hx,T.tP.cl,T.nP _ (by simp),p.nW,_,rfl,x,a.pot,dx,_,_,rfl,hx,T.tP.cl,T.nP _ (by simp),p.BP,_,rfl,jm (by omega) (by omega),by show 3<=sizeLine; decide,fun l hl=>?_⟩;exact q _ l (bh hl) hl (by rw [aF,ew])
theorem Ca {f:aB} {fd:d9} (F:nJ K "words" "Cactus.words" o7 f fd) (T:jY K mg a):cB P w K mg base (fK P w) 1 f fd ["self"] (qT a a.cactus):=by
 refine F.mX ai4 (fun vs H Q E h=>?_) (fun cdv A outer s H vs Q E hr h=>?_)
 ·obtain ⟨x,p,rfl,_⟩:=h;rfl
 ·obtain ⟨x,p,rfl,hc,⟨dx,hx⟩,ok,q⟩:=h;refine ⟨_,aV (cJ (fY (ao cj (ao (dM (pv 0) rfl) (ao (jj fH T.B.str boot_str (ao (dM (pv 0) rfl) aD)) (ao (jj fH T.B.str boot_str (ao (dM (pv 0) rfl) aD)) aD)))))),?_⟩;obtain ⟨r,er⟩:∃ r,p.rest=some r:=by
   cases e:p.rest with
   | none=>rw [bJ.cls,e] at hc; exact absurd hc T.ne
   | some r=>exact ⟨r,rfl⟩
  have lr:p.fs.lookup ("rest":Str)=some (.int r):=by simp only [bJ.fs,er]; exact uG _ _ _
  have ew:p.ws.map V.str=[V.str "cactus",.str p.nm,.str (cY p.gap),.str (cY r)]:=by unfold bJ.ws; rw [er]; rfl
  have g:=ok.gap;have gr:=ok.rest r er;rw [hc] at hx;refine ⟨_,rfl,x,a.cactus,dx,_,_,rfl,hx,T.tC.cl,T.nC _ (by simp),p.nW,_,rfl,x,a.cactus,dx,_,_,rfl,hx,T.tC.cl,T.nC _ (by simp),p.BP,_,rfl,jm (by omega) (by omega),_,rfl,x,a.cactus,dx,_,_,rfl,hx,T.tC.cl,T.nC _ (by simp),lr,_,rfl,jm (by omega) (by omega),by show 4<=sizeLine; decide,fun l hl=>?_⟩;exact q _ l (bh hl) hl (by rw [aF,ew])
theorem Em.words (W:Em K mg a dV):∀ C,(C=a.pot\/C=a.cactus)->∃ f fd,Cls K C/\Meth K C "words" f/\cB P w K mg base (fK P w) 1 f fd ["self"] (qT a C)/\Binds K fd ["self"] []:=by
 intro C h;have T:=W.Z.G.T;rcases h with rfl | rfl
 ·obtain ⟨f,fd,F,m⟩:=W.wP;exact ⟨f,fd,T.tP.cl,m,BZ F.F T,F.b⟩
 ·obtain ⟨f,fd,F,m⟩:=W.wC;exact ⟨f,fd,T.tC.cl,m,Ca F.F T,F.b⟩
end
abbrev LK:cV:=inClass (top 7) 0
abbrev zL:cV:=top 30
structure GR (K:Fg) (mg:Str->Option aA) (a:gU):Prop where
 gE:mg "GardenError"=some (.ref a.Bx)
 cb:adZ K a.Bx "ValueError.__init__"
 br:∃ f fd,Fn K "__init__" "BadRow.__init__" LK ["self","row"] f fd/\Zx K a.fQ f K7 "ValueError.__new__"/\isFn K (.ref f)=true
 ea:ad1 K a.fQ "row"
 m:mg "BadRow"=some (.ref a.fQ)
section
variable {P:cg} {w:World} {K:Fg} {mg:Str->Option aA} {base:Heap} {a:gU} {dV:aA}
def GX (a:gU):Sp:=fun vs H Q _=>∃ e d,vs=[.ref e,.int d]/\H e=some (jX e a.fQ none)/\d.natAbs.log2 < 100/\∀ dx,H dx=none->Q .non (upd (upd H dx (.xd [("row",.int d)])) e (jX e a.fQ (some dx)))
theorem aeu:bY ["self","row"] ["self","row"] (aY LK):=dX (by decide +kernel)
theorem LQ {f:aB} {fd:d9} (F:nJ K "__init__" "BadRow.__init__" LK f fd) (X:GR K mg a):cB P w K mg base (fK P w) 1 f fd ["self","row"] (GX a):=by
 refine F.mX aeu (fun vs H Q E h=>?_) (fun cdv A outer s H vs Q E hr h=>?_)
 ·obtain ⟨e,d,rfl,_⟩:=h;rfl
 ·obtain ⟨e,d,rfl,he,ld,q⟩:=h;obtain ⟨f',fd',_,q',_⟩:=X.br;refine ⟨_,aG (gZ (Kz X.gE X.cb q' PySem.F.excBase_ValueError (ao (pv 0) (ao (Rv (pv 1)) aD)))) (aV (ZC (pv 0) (pv 1) rfl)),?_⟩;refine ⟨_,rfl,_,rfl,d,rfl,ld,fun z=>⟨e,_,none,rfl,he,?_⟩⟩;exact ⟨_,rfl,_,rfl,e,_,rfl,he,X.ea,fun dx hdx=>q dx hdx⟩
theorem R5 {H:Hp} {e dx C:aB} {o:HO} (he:H e=none) (hdx:upd H e (jX e C none) dx=none):Same H (del (upd (upd (upd H e (jX e C none)) dx o) e (jX e C (some dx))) e)/\del (upd (upd (upd H e (jX e C none)) dx o) e (jX e C (some dx))) e dx=some o:=by
 have ne:dx≠e:=fun z=>by rw [z,aF] at hdx; cases hdx
 have h0:H dx=none:=by rw [bA ne] at hdx; exact hdx
 refine ⟨fun b u hb=>?_,?_⟩
 ·have be:b≠e:=dz hb he;have bd:b≠dx:=dz hb h0;rw [nO be,bA be,bA bd,bA be];exact hb
 ·rw [nO ne,bA ne,aF]
theorem nY {H:Hp} {E:XK} {d:Int} (ld:d.natAbs.log2 < 100) (q:∀ H' dx,Same H H'->H' dx=some (.xd [("row",.int d)])->E (.ref a.fQ) (some dx) H') : 1<=sizeLine/\∀ e,H e=none->GX a [.ref e,.int d] (upd H e (jX e a.fQ none)) (fun v H2=>v=.non/\∃ dx,H2 e=some (jX e a.fQ dx)/\E (.ref a.fQ) dx (del H2 e)) fun _ _ _=>False:=by
 refine ⟨by decide,fun e he=>⟨e,d,rfl,aF,ld,fun dx hdx=>⟨rfl,some dx,aF,?_⟩⟩⟩;have z:=R5 (o:=.xd [("row",.int d)]) he hdx;exact q _ dx z.1 z.2
def vY (c:Nat):Bool:=!decide ([c] < [48]) && !decide ([57] < [c])
theorem Ep (c:Nat):vY c=decide (48<=c/\c<=57):=by
 have e1:decide ([c] < [48])=decide (c < 48):=decide_eq_decide.mpr (show ([c] < [48]) ↔ c < 48 by rw [cons_lt_cons_iff]; simp);have e2:decide ([57] < [c])=decide (57 < c):=decide_eq_decide.mpr (show ([57] < [c]) ↔ 57 < c by rw [cons_lt_cons_iff]; simp);unfold vY;rw [e1,e2]
 by_cases h1:c < 48 <;> by_cases h2:57 < c <;> simp [h1,h2] <;> omega
theorem LR (a:Array Nat):((List.range a.size).map fun i=>vY (a.getD i 0)).all id=a.toList.all vY:=by
 have e:a.toList=(List.range a.size).map fun i=>a.getD i 0:=by
  apply ext_getElem?;intro i
  by_cases h:i < a.size
  ·simp [h]
  ·simp [h]
 rw [e,all_map,all_map];rfl
theorem Z6 {l:Ln} (ne:l≠[]):jB l=none ↔ (2 < l.length\/l.all vY=false)\/(l.length=2/\l[0]?=some 48):=by
 match l,ne with
 | [],ne=>exact absurd rfl ne
 | [c],_ =>
  show (if 48<=c/\c<=57 then some (c - 48) else none)=none ↔ _
  have:=Ep c
  by_cases h:48<=c/\c<=57
  ·rw [aK h] at this;rw [if_pos h];simp [this]
  ·rw [aH h] at this;rw [if_neg h];simp [this]
 | [c,d],_ =>
  show (if (48 < c/\c<=57)/\(48<=d/\d<=57) then some ((c - 48) * 10 + (d - 48)) else none)=none ↔ _
  have h1:=Ep c;have h2:=Ep d
  by_cases h:(48 < c/\c<=57)/\(48<=d/\d<=57)
  ·rw [if_pos h];rw [aK (by omega)] at h1;rw [aK (by omega)] at h2;simp [h1,h2];omega
  ·rw [if_neg h];refine ⟨fun _=>?_,fun _=>rfl⟩
   by_cases hc:48<=c/\c<=57
   ·by_cases hd:48<=d/\d<=57
    ·right
     have:c=48:=by omega
     simp [this]
    ·rw [aH hd] at h2;simp [h2]
   ·rw [aH hc] at h1;simp [h1]
 | _::_::_::_,_=>simp [jB]
def Cd (a:gU) (H:Hp) (E:XK) (n:Int):Prop:=∀ H' dx,Same H H'->H' dx=some (.xd [("row",.int n)])->E (.ref a.fQ) (some dx) H'
theorem Cd.from {H H1:Hp} {E:XK} {n:Int} (h:Cd a H E n) (s:Same H H1):Cd a H1 E n:=fun H' dx s'=>h H' dx (s.trans s')
def zM (a:gU):Sp:=fun vs H Q E=>∃ x n,vs=[.str x,.int n]/\x.length<=sizeLine/\Lo x≠[]/\n.natAbs.log2 < 100/\(jB (Lo x)=none->Cd a H E n)/\∀ k H',jB (Lo x)=some k->Same H H'->Q (.int (k:Nat)) H'
theorem R6:bY ["word","row"] ["word","row"] (aY zL):=dX (by decide +kernel)
theorem Ce {f:aB} {fd:d9} (F:nJ K "number_in" "number_in" zL f fd) (B:K4 mg) (X:GR K mg a):cB P w K mg base (fK P w) 3 f fd ["word","row"] (zM a):=by
 refine F.mX R6 (fun vs H Q E h=>?_) (fun cdv A outer s H vs Q E hr h=>?_)
 ·obtain ⟨x,n,rfl,_⟩:=h;rfl
 ·obtain ⟨x,n,rfl,hz,ne,ln,bad,good⟩:=h;obtain ⟨fi,di,iF,xi,fni⟩:=X.br;have Z7:cB P w K mg base (fK P w) 1 fi di ["self","row"] (GX a):=LQ iF.F X;refine ⟨_,aG (dU (pw_or (cN JM (gR jy B.len PySem.boot_len (ao (pv 0) aD)) aL (cQ _)) (pw_or1 (fu (eZ (gR (rO rfl) B.all boot_all (ao (gw bF rfl ⟨_,_,rfl,rfl,rfl⟩ (fG.plain (N':=["sign"]) rfl (by decide +kernel) (by decide +kernel)) (Km (pv 0)) (fun _ _ _ _ _=>cZ 0 (show [("sign":Str)].Nodup by decide +kernel)) (fun _ _ _ _ _=>fL) (fun _ _ _ _ _ _=>uV oR oR cj (pv 0) cj)) aD)))))).pt (aV (oV bF rfl (by rfl) X.m xi fni PySem.F.excBase_ValueError Z7 hr iF.b (ao (pv 1) aD))) cA) (aG (dU (pw_and (cN jt (gR jy B.len PySem.boot_len (ao (pv 0) aD)) aL (cQ _)) (pw_and1 (cN jt (cR Zb (pv 0) aL (fun _ _=>rfl)) cj (cQ _)))).pt (aV (oV bF rfl (by rfl) X.m xi fni PySem.F.excBase_ValueError Z7 hr iF.b (ao (pv 1) aD))) cA) (aV (cJ (jj Iz B.int boot_int (ao (pv 0) aD))))),?_⟩;have lo:(Lo x).length=x.length:=Array.length_toList;have nn:=Z6 ne;have z0:(Str.ofString "0":Str)=⟨#[48]⟩:=by decide +kernel
  refine ⟨_,rfl,x,rfl,hz,_,_,rfl,rfl,_,rfl,?_⟩
  by_cases h1:2 < x.length
  ·rw [aK (show (2:Int) < (x.length:Int) by omega)];exact dH (dH ⟨_,rfl,nY ln (bad (nn.mpr (.inl (.inl (by omega)))))⟩)
  rw [aH (show ¬ (2:Int) < (x.length:Int) by omega)];refine dG ⟨_,rfl,x,rfl,fun D hD=>?_⟩;have hD1:Same H (upd H D (.lst ((List.range x.cps.size).map fun i=>V.bl (vY (x.cps.getD i 0))))):=bh hD;refine Gs x.cps.size hz (fun i=>.bl (vY (x.cps.getD i 0))) (fun i H'=>H'=upd H D (.lst ((List.range i).map fun i=>V.bl (vY (x.cps.getD i 0))))) rfl (fun i H' _ e=>by rw [e,aF]) (fun H' e=>⟨rfl,?_⟩) (fun i H' lt e=>⟨lt,?_⟩)
  ·subst e;refine ⟨D,(List.range x.cps.size).map fun i=>vY (x.cps.getD i 0),rfl,cU.of (by rw [aF,bT]; rfl),_,rfl,?_⟩;rw [LR];cases ha:x.cps.toList.all vY with
   | false=>exact dH ⟨_,rfl,nY ln ((bad (nn.mpr (.inl (.inr ha)))).from hD1)⟩
   | true =>
    refine dG ⟨_,rfl,x,rfl,hz,rfl,_,rfl,?_⟩;have fin:¬ (x.length=2/\(Lo x)[0]?=some 48)->∀ H',Same H H'->(∃ x' n,[V.str x]=[V.str x']/\intText? x'=some n/\x'.length<=640/\Q (V.int n) H'):=fun no H' s'=>by
     cases en:jB (Lo x) with
     | none =>
      rcases nn.mp en with (h | h) | h
      ·omega
      ·rw [ha] at h; cases h
      ·exact absurd ⟨by omega,h.2⟩ no
     | some k =>
      obtain ⟨e1,e2,e3⟩:=Gz en;exact ⟨x,_,rfl,e1,by omega,good k H' en s'⟩
    by_cases h2:x.length=2
    ·rw [h2];obtain ⟨c,hc⟩:∃ c,x.cps[0]?=some c:=⟨x.cps[0]'(by show 0 < x.length; omega),Array.getElem?_eq_getElem _⟩;refine dH ⟨_,rfl,x,0,c,rfl,rfl,hz,dW (j:=0) (by simpa using hc),rfl,_,rfl,?_⟩;rw [z0]
     by_cases h3:c=48
     ·subst h3;rw [aK rfl];exact dH ⟨_,rfl,nY ln ((bad (nn.mpr (.inr ⟨by omega,by simpa using hc⟩))).from hD1)⟩
     ·rw [aH (fun z=>h3 (by injection z with z; injection z with z; simpa using z))];exact dG ⟨_,rfl,fin (fun z=>h3 (by have:=z.2; simp at this; rw [this] at hc; simpa using hc.symm)) _ hD1⟩
    ·rw [aH (fun z=>h2 (by injection z with z; omega))];exact dG (dG ⟨_,rfl,fin (fun z=>h2 z.1) _ hD1⟩)
  ·rintro v CQ ⟨rfl,c,hc,rfl⟩ Qc k;subst e;refine ⟨fX,_,rfl,_,_,rfl,rfl,_,rfl,?_⟩;have k':=k _ aF (by rw [oN]);have ec:x.cps.getD i 0=c:=by simp [hc]
   have el:vY c=(!decide ([c] < [48]) && !decide ([57] < [c])):=rfl;rw [ec,el] at k'
   change if (!decide ([c] < [48]))=true then _ else _
   cases h3:!decide ([c] < [48]) with
   | false =>
    rw [h3] at k';exact dG k'
   | true =>
    rw [h3] at k';exact dH ⟨_,_,rfl,rfl,k'⟩
end
abbrev nZ:cV:=top 33
abbrev qU:cV:=top 34
def jo (x:Str):List Str:=(Txt.split x ⟨#[32]⟩).filter fun z=>!decide (V.str z=V.str "")
theorem fZ:(Str.ofString " ":Str)=⟨#[32]⟩:=by decide +kernel
theorem rY:(Str.ofString "\n":Str)=⟨#[10]⟩:=by decide +kernel
theorem Z8:(Str.ofString "#":Str)=⟨#[35]⟩:=by decide +kernel
theorem R7:(Str.ofString "":Str)=⟨#[]⟩:=by decide +kernel
theorem Jj (z:Str):decide (V.str z=V.str "")=(Lo z).isEmpty:=by
 obtain ⟨a⟩:=z;rw [show (Str.ofString "":Str)=⟨#[]⟩ from R7]
 by_cases h:a=#[]
 ·subst h;rfl
 ·rw [aH (fun y=>h (by injection y with y; injection y))];cases e:a.toList with
  | nil=>exact absurd (Array.toList_eq_nil_iff.mp e) h
  | cons _ _=>rw [show Lo ⟨a⟩=a.toList from rfl,e]; rfl
theorem Cg (x:Str):(jo x).map Lo=gh (Lo x):=by
 unfold jo gh;rw [<- xX,List.filter_map]
 congr 1
 apply List.filter_congr;intro z _;rw [Jj];rfl
theorem jK {H:Hp}:∀ gs:List Str,Paired (vC H) (gs.map V.str) gs
 | []=>.nil
 | _::gs=>.cons rfl (jK gs)
theorem jL {H:Hp}:∀ {vs:List V} {bs:List Str},Paired (vC H) vs bs->vs=bs.map V.str
 | [],[],_=>rfl
 | _::_,_::_,.cons h t=>by rw [jL t,bO]; cases h; rfl
abbrev NR:=Nat × List Str
def vZ:List Ln->Bool
 | (c::_)::_=>decide (c=35)
 | _=>false
def kh (ws:List Ln):Bool:=!ws.isEmpty && !vZ ws
def allR (lines:List Str):List NR:=lines.zipIdx.map fun q=>(q.2 + 1,jo q.1)
def GZ (lines:List Str):List NR:=(allR lines).filter fun c=>kh (c.2.map Lo)
theorem Ci (z:Str):Txt.startswith z ⟨#[35]⟩=vZ [Lo z]:=by
 obtain ⟨a⟩:=z;have e:a=a.toList.toArray:=by simp
 rw [e];cases a.toList with
 | nil=>rfl
 | cons c l =>
  by_cases h:c=35
  ·subst h;simp [Txt.startswith,Builtin.Str.subAt,vZ,Str.length]
  ·simp [Txt.startswith,Builtin.Str.subAt,vZ,Str.length,h]
section
variable {P:cg} {w:World} {K:Fg} {mg:Str->Option aA} {base:Heap} {a:gU} {dV:aA}
def yq:Sp:=fun vs H Q _=>∃ x,vs=[.str x]/\x.length + 2<=sizeLine/\∀ H' l,Same H H'->H l=none->H' l=some (.lst ((jo x).map V.str))->Q (.ref l) H'
theorem Jk:bY ["line"] ["line"] (aY nZ):=dX (by decide +kernel)
theorem Er {f:aB} {fd:d9} (F:nJ K "words_in" "words_in" nZ f fd):cB P w K mg base (fK P w) 1 f fd ["line"] yq:=by
 refine F.mX Jk (fun vs H Q E h=>?_) (fun cdv A outer s H vs Q E hr h=>?_)
 ·obtain ⟨x,rfl,_⟩:=h;rfl
 ·obtain ⟨x,rfl,hz,q⟩:=h;refine ⟨_,aV (cJ (gw bF rfl ⟨_,_,rfl,rfl,rfl⟩ (fG.plain (N':=["word"]) rfl (by decide +kernel) (by decide +kernel)) (eE (gW PySem.F.plainAttrs_str PySem.F.slot_str_split PySem.F.type_str_split qL (pv 0) (ao cj aD))) (fun _ _ _ _ _=>cZ 0 (show [("word":Str)].Nodup by decide +kernel)) (fun _ _ _ _ _=>uz (cN uU (pv 0) cj (cQ _))) (fun _ _ _ _ _ _=>pv 0))),?_⟩;have l1:=split_le x ⟨#[32]⟩;refine ⟨_,rfl,rfl,x,_,rfl,rfl,rfl,hz,fun p hp=>?_⟩;rw [show (Str.ofString " ":Str)=⟨#[32]⟩ from fZ];have s1:=bh (o:=.lst ((Txt.split x ⟨#[32]⟩).map V.str)) hp;refine ⟨p,rfl,⟨_,cU.of aF⟩,fun D hD=>?_⟩;have rl:gJ vC (upd H p (.lst ((Txt.split x ⟨#[32]⟩).map V.str))) (.ref p) (Txt.split x ⟨#[32]⟩):=⟨p,_,rfl,aF,jK _⟩;refine Dy iH iH (fun z=>!decide (V.str z=V.str "")) (fun z=>z) rl (by omega) hD ?_ ?_
  ·intro j z v5 H5 hj rv s5 Qc Qn k kn;cases rv;refine ⟨fX,_,rfl,rfl,_,rfl,?_⟩;cases e:!decide (V.str z=V.str "") with
   | true=>exact dH ⟨_,rfl,k e _ _ (Same.refl _) rfl⟩
   | false=>exact dG (kn e _ (Same.refl _))
  ·intro H5 s5 r5;obtain ⟨D',rvs,eD,hr5,p5⟩:=r5;cases eD;have e5:=jL p5;rw [map_id' _] at e5;subst e5;have fD:H D=none:=by
    cases e:H D with
    | none=>rfl
    | some o=>rw [s1 _ _ e] at hD; cases hD
   exact q H5 D (s1.trans s5) fD hr5
theorem v9 {r:St} {x y:Option V}:lu (none::none::r) (((none::none::r).set 0 x).set 1 y):=by
 intro j v h
 match j,h with
 | 0,h=>simp at h
 | 1,h=>simp at h
 | j + 2,h=>exact h
def Ma:Rep NR:=fun H v c=>∃ t l,v=.ref t/\H t=some (.tup [.int ((c.1:Nat):Int),.ref l])/\H l=some (.lst (c.2.map V.str))
def pJ (D:aB):Rep NR:=fun H v c=>∃ t l,v=.ref t/\t≠D/\l≠D/\H t=some (.tup [.int ((c.1:Nat):Int),.ref l])/\H l=some (.lst (c.2.map V.str))
theorem Ma.same {H H':Hp} {v:V} {c:NR} (h:Ma H v c) (s:Same H H'):Ma H' v c:=by
 obtain ⟨t,l,e,h1,h2⟩:=h;exact ⟨t,l,e,s _ _ h1,s _ _ h2⟩
theorem pJ.same {D:aB} {H H':Hp} {v:V} {c:NR} (h:pJ D H v c) (s:Same H H'):pJ D H' v c:=by
 obtain ⟨t,l,e,n1,n2,h1,h2⟩:=h;exact ⟨t,l,e,n1,n2,s _ _ h1,s _ _ h2⟩
theorem pJ.upd {D:aB} {H:Hp} {v:V} {c:NR} {o:HO} (h:pJ D H v c):pJ D (L2.upd H D o) v c:=by
 obtain ⟨t,l,e,n1,n2,h1,h2⟩:=h;exact ⟨t,l,e,n1,n2,by rw [bA n1]; exact h1,by rw [bA n2]; exact h2⟩
theorem pJ.to {D:aB} {H:Hp} {v:V} {c:NR} (h:pJ D H v c):Ma H v c:=by
 obtain ⟨t,l,e,n1,n2,h1,h2⟩:=h;exact ⟨t,l,e,h1,h2⟩
def yr:Sp:=fun vs H Q _=>∃ p lines,vs=[.ref p]/\H p=some (.lst (lines.map V.str))/\lines.length<=1000/\(∀ x ∈ lines,x.length<=100000)/\∀ H' q,Same H H'->gJ Ma H' (.ref q) (GZ lines)->Q (.ref q) H'
theorem yt:bY ["lines","rows"] ["lines"] (aY qU):=dX (by decide +kernel)
theorem Es {f fw:aB} {fd dw:d9} (F:nJ K "numbered_rows" "numbered_rows" qU f fd) (en:mg "enumerate"=none) (wF:Fn K "words_in" "words_in" nZ ["line"] fw dw) (mW:mg "words_in"=some (.ref fw)):cB P w K mg base (fK P w) 2 f fd ["lines"] yr:=by
 refine F.mX yt (fun vs H Q E h=>?_) (fun cdv A outer s H vs Q E hr h=>?_)
 ·obtain ⟨p,lines,rfl,_⟩:=h;rfl
 ·obtain ⟨p,lines,rfl,hp,ln,lx,q⟩:=h;have okw:cB P w K mg base (fK P w) 1 fw dw ["line"] yq:=Er wF.F;have kW:=wF.F.kp;have bW:=wF.b;have nd2:[("row":Str),"line"].Nodup:=by decide +kernel
  have aex:[("row":Str),"words"].Nodup:=by decide +kernel
  refine ⟨_,aG (lY (i:=1) yt.nd rfl (Or.inl rfl) bF rfl ⟨_,_,rfl,rfl,rfl⟩ (fG.plain (N':=["row","line"]) rfl (by decide +kernel) (by decide +kernel)) (Bl (by rfl) en (ao (pv 0) aD) aL) (fun _ _ _ _ _=>Bm K (n:=2) rfl (dD (cZ 0 nd2) (dD (cZ 1 nd2) j6))) (fun _ _ _ _ _=>fL) (fun _ _ _ _ _ _=>gb (ao (pv 0) (ao (cG okw hr mW kW bW bx (ao (pv 1) aD)) aD)))) (aV (cJ (gw bF rfl ⟨_,_,rfl,rfl,rfl⟩ (fG.plain (N':=["row","words"]) rfl (by decide +kernel) (by decide +kernel)) (eE (pv 1)) (fun _ _ _ _ _=>Bm K (n:=2) rfl (dD (cZ 0 aex) (dD (cZ 1 aex) j6))) (fun _ _ _ _ _=>uz (PW.pt (pw_and (IK K (pv 1) (fun _=>rfl)) (pw_and1 (fu (eZ (zq K PySem.F.plainAttrs_str PySem.F.slot_str_startswith PySem.F.type_str_startswith Iw (cR (jh K) (pv 1) aL (fun _ _=>rfl)) (ao cj aD)))))))) (fun _ _ _ _ _ _=>gb (ao (pv 0) (ao (pv 1) aD)))))),?_⟩;have big:1000000<=sizeLine:=by decide
  refine ⟨_,rfl,p,_,1,rfl,rfl,(by decide),cU.of hp,fun D hD=>?_⟩;obtain ⟨go,stop,yl⟩:=Gv (K:=K) (R:=vC) (fun h s=>iH.same h s) (H:=H) (l:=p) (f:=1) (xs:=lines) ⟨p,_,rfl,hp,jK lines⟩;have ll:lines.zipIdx.length=lines.length:=List.length_zipIdx;refine oW (R:=fun H2 v q=>∃ T,v=.ref T/\H2 T=some (.tup [.int ((q.2 + 1:Nat):Int),.str q.1])) (S:=pJ D) pJ.same pJ.upd (xs:=lines.zipIdx) (fun _=>true) (fun q=>(q.2 + 1,jo q.1)) (fun _=>True) (by omega) hD (fun i H' lt s'=>go i H' (by omega) s') (fun H' s'=>by rw [ll]; exact stop H' s') ?_ ?_ ?_
  ·intro i q v H' H2 hq s' hy;rw [List.getElem?_zipIdx] at hq;obtain ⟨z,hz,rfl⟩:=bH.mp hq;obtain ⟨s2,T,u,e1,e2,e3⟩:=yl i z v H' H2 hz s' hy;cases e3;exact ⟨s2,T,e1,by rw [e2,Nat.add_comm 1 i]; simp⟩
  ·rintro i ⟨z,j⟩ v H2 hq ⟨T,rfl,hT⟩ s2 ⟨acc,hacc⟩ Qc Qn k kn;have zm:z ∈ lines:=by
    rw [List.getElem?_zipIdx] at hq;obtain ⟨z',hz,e⟩:=bH.mp hq;cases e;exact aW hz
   have lz:=lx z zm;refine ⟨T,_,rfl,gY.of hT,rfl,_,_,rfl,_,_,rfl,rfl,v9,?_⟩
   show if true=true then _ else Qn H2
   rw [if_pos rfl];refine ⟨_,rfl,_,rfl,z,rfl,by omega,fun H3 l s3 fl hl=>⟨by show 2<=sizeLine; decide,fun t ht=>?_⟩⟩;have w3:=bh (o:=.tup [V.int ((j + 1:Nat):Int),.ref l]) ht;have nl:l≠D:=fun y=>by rw [y,hacc] at fl; cases fl
   have nt:t≠D:=fun y=>by rw [y,s3 _ _ hacc] at ht; cases ht
   exact k rfl trivial _ _ (s3.trans w3) ⟨t,l,rfl,nt,nl,aF,w3 _ _ hl⟩
  intro H1 s1 _ r1;rw [filter_eq_self.mpr fun _ _=>rfl] at r1;obtain ⟨_,vs1,e1,hv1,p1⟩:=r1;cases e1;have r1':gJ (fun _ v c=>Ma H1 v c) H1 (.ref D) (allR lines):=⟨D,vs1,rfl,hv1,Paired.jx p1 fun _ _ z=>pJ.to z⟩;have la:(allR lines).length=lines.length:=by unfold allR; rw [aq,ll]
  refine ⟨_,rfl,D,rfl,⟨_,cU.of hv1⟩,fun D2 hD2=>?_⟩;obtain ⟨go,stop,yl⟩:=jz (K:=K) (R:=fun _ v c=>Ma H1 v c) (fun h _=>h) r1';refine oW (R:=fun _ v c=>Ma H1 v c) (S:=pJ D2) pJ.same pJ.upd (xs:=allR lines) (fun c=>kh (c.2.map Lo)) (fun c=>c) (fun _=>True) (by omega) hD2 go stop yl ?_ ?_
  ·rintro i ⟨n,ws⟩ v H2 hq ⟨t,l,rfl,ht,hl⟩ s2 ⟨acc,hacc⟩ Qc Qn k kn;have nl:l≠D2:=fun y=>by rw [y,hD2] at hl; cases hl
   have hl2:=s2 _ _ hl;refine ⟨t,_,rfl,gY.of (s2 _ _ ht),rfl,_,_,rfl,_,_,rfl,rfl,v9,_,rfl,!(ws.map V.str).isEmpty,.inl ⟨_,cU.of hl2,rfl⟩,?_⟩;cases ws with
   | nil=>exact dG (dG (kn rfl _ (Same.refl _)))
   | cons z zs =>
    refine dH ⟨_,rfl,l,_,0,.str z,rfl,rfl,cU.of hl2,dW (j:=0) rfl,rfl,z,_,rfl,rfl,_,rfl,?_⟩;rw [show (Str.ofString "#":Str)=⟨#[35]⟩ from Z8,Ci];have eg:kh ((n,z::zs).2.map Lo)=!vZ [Lo z]:=by
     show (!false && !vZ (Lo z::zs.map Lo))=_
     cases Lo z <;> rfl
    cases eh:vZ [Lo z] with
    | true =>
     rw [eh] at eg;exact dG (kn eg _ (Same.refl _))
    | false =>
     rw [eh] at eg;refine dH ⟨_,rfl,_,rfl,by show 2<=sizeLine; decide,fun t2 Mf=>?_⟩;have w2:=bh (o:=.tup [V.int ((n:Nat):Int),.ref l]) Mf;have nt:t2≠D2:=fun y=>by rw [y,hacc] at Mf; cases Mf
     exact k eg trivial _ _ w2 ⟨t2,l,rfl,nt,nl,aF,w2 _ _ hl2⟩
  ·intro H2 s2 _ r2;rw [map_id' _] at r2;obtain ⟨_,vs2,e2,hv2,p2⟩:=r2;cases e2;exact q H2 D2 (s1.trans s2) ⟨D2,vs2,rfl,hv2,Paired.jx p2 fun _ _ z=>pJ.to z⟩
end
abbrev o8:cV:=top 31
abbrev Mg:List Str:=["words","row","numbers","week","closed"]
structure Mh (K:Fg) (mg:Str->Option aA) (a:gU):Prop where
 B:K4 mg
 R:GR K mg a
 sum:mg "sum"=none
 sorted:mg "sorted"=none
 num:∃ f fd,Fn K "number_in" "number_in" zL ["word","row"] f fd/\mg "number_in"=some (.ref f)
theorem Mi:(Str.ofString "garden":Str)=⟨#[103,97,114,100,101,110]⟩:=by decide +kernel
theorem Z9 (z:Str) (l:Ln):decide (V.str z=V.str ⟨l.toArray⟩)=decide (Lo z=l):=by
 obtain ⟨a⟩:=z;apply decide_eq_decide.mpr;constructor
 ·intro h;injection h with h;injection h with h
  show a.toList=l
  rw [h]
 ·intro h;have:a=l.toArray:=by rw [<- h]
  rw [this]
theorem n6 {xs:List V} (n:Nat):m9 xs (some (n:Int)) none=xs.drop n:=by
 unfold m9;rw [HT.Gm,HT.JZ];rcases Nat.le_total n xs.length with z | z
 ·rw [Nat.min_eq_left z];exact take_of_length_le (by rw [length_drop]; exact aJ _)
 ·rw [Nat.min_eq_right z,List.drop_of_length_le (aJ _),List.drop_of_length_le z,List.take_nil]
theorem oh {H:Hp}:∀ {vs:List V} {ds:List Int},Paired (wR H) vs ds->vs=ds.map V.int
 | _,_,.nil=>rfl
 | _,_,.cons h r=>by rw [bO,<- oh r]; cases h; rfl
theorem wg {H:Hp}:∀ ds:List Int,Paired (wR H) (ds.map V.int) ds
 | []=>.nil
 | _::ds=>.cons rfl (wg ds)
theorem Cj:∀ cl:List Nat,((cl.map fun k:Nat=>(k:Int)).map fun d=>1 * 2 ^ d.toNat).sum=((lD cl:Nat):Int)
 | []=>rfl
 | d::cl=>by
  have ih:=Cj cl;unfold lD at ih ⊢;simp only [bO,List.sum_cons,cD,Int.one_mul] at ih ⊢;rw [ih,Int.natCast_add,Int.natCast_pow];rfl
def RBl:Rep Bool:=fun _ v b=>v=.bl b
theorem aac:Dw RBl:=⟨fun h _=>h,fun h _=>h⟩
theorem G3 {H:Hp}:∀ {vs:List V} {bs:List Bool},Paired (RBl H) vs bs->vs=bs.map V.bl
 | _,_,.nil=>rfl
 | _,_,.cons h r=>by rw [bO,<- G3 r]; cases h; rfl
section
variable {P:cg} {w:World} {K:Fg} {mg:Str->Option aA} {base:Heap} {a:gU} {dV:aA}
noncomputable def Ck (a:gU):Sp:=fun vs H Q E=>∃ l ws n,vs=[.ref l,.int n]/\H l=some (.lst (ws.map V.str))/\ws≠[]/\ws.length<=60/\(∀ x ∈ ws,Lo x≠[]/\x.length<=100000)/\n.natAbs.log2 < 100/\(GC (ws.map Lo)=none->Cd a H E n) /\ ∀ c k cl H' t,GC (ws.map Lo)=some (c,k,cl)->Same H H'->H' t=some (.tup [.int (c:Nat),.int (k:Nat),.int (lD cl:Nat)])->Q (.ref t) H'
theorem qW:bY Mg ["words","row"] (aY o8):=dX (by decide +kernel)
theorem Jl {f:aB} {fd:d9} (F:nJ K "head_in" "head_in" o8 f fd) (T:Mh K mg a):cB P w K mg base (fK P w) 4 f fd ["words","row"] (Ck a):=by
 refine F.mX qW (fun vs H Q E h=>?_) (fun cdv A outer s H vs Q E hr h=>?_)
 ·obtain ⟨l,ws,n,rfl,_⟩:=h;rfl
 ·obtain ⟨l,ws,n,rfl,hl,ne,l60,wk,ln,bad,good⟩:=h;have B:=T.B;have X:=T.R;obtain ⟨fi,di,iF,xi,fni⟩:=X.br;obtain ⟨fn,dn,nF,mN⟩:=T.num;have Z7:cB P w K mg base (fK P w) 1 fi di ["self","row"] (GX a):=LQ iF.F X;have okn:cB P w K mg base (fK P w) 3 fn dn ["word","row"] (zM a):=Ce nF.F B X;have kN:=nF.F.kp;have bN:=nF.b;have hr1:eO 2 _:=hr.mono (by decide);have ndW:[("word":Str),"row"].Nodup:=by decide +kernel
  have ndD:[("day":Str),"week"].Nodup:=by decide +kernel
  refine ⟨_,aG (lY (i:=2) qW.nd rfl (Or.inl rfl) bF rfl ⟨_,_,rfl,rfl,rfl⟩ (iY (N':=["word","row"]) (cl:=[("row",s.heap.objs.size + 1)]) [none,some 1] Mg (aY o8).names [(".0",.local),("word",.local),("number_in",.globalImplicit),("row",.cell)] ["row"] rfl (by decide +kernel) (by decide +kernel) rfl (fun p hp=>by rw [aO.mp hp]; rfl) rfl rfl rfl rfl (by decide +kernel) rfl (by decide +kernel)) (eE (jG oO (pv 0) (lR aL) lQ)) (fun _ _ _ _ _=>cZ 0 ndW) (fun _ _ _ _ _=>fL) (fun _ _ _ _ _ acc=>cG okn hr mN kN bN (cC acc) (ao (pv 0) (ao (pv 1) aD)))) (aG (dU (pw_or (cN uU (cR gO (pv 0) aL (fun _ _=>rfl)) cj (cQ _)) (pw_or1 (cN Ac (gR eU B.len PySem.boot_len (ao (pv 2) aD)) aL (cQ _)))).pt (aV (oV bF rfl (by rfl) X.m xi fni PySem.F.excBase_ValueError Z7 hr1 iF.b (ao (pv 1) aD))) cA) (aG (bK (i:=3) qW.nd rfl (Or.inr rfl) (cR gO (pv 2) aL (fun _ _=>rfl))) (aG (bK (i:=4) qW.nd rfl (Or.inl rfl) (jG oO (pv 2) (lR aL) lQ)) (aG (dU (pw_or (cN (yZ hr.units) (pv 4) (gR (DR rfl) T.sorted PyProof.Rows.boot_sorted (ao (jj (Ja rfl) B.set boot_set (ao (pv 4) aD)) aD)) (cQ _)) (pw_or1 (fu (eZ (gR (rO rfl) B.all boot_all (ao (gw bF rfl ⟨_,_,rfl,rfl,rfl⟩ (iY (N':=["day","week"]) (cl:=[("week",s.heap.objs.size + 2)]) [none,some 3] Mg (aY o8).names [(".0",.local),("day",.local),("week",.cell)] ["week"] rfl (by decide +kernel) (by decide +kernel) rfl (fun p hp=>by rw [aO.mp hp]; rfl) rfl rfl rfl rfl (by decide +kernel) rfl (by decide +kernel)) (eE (pv 4)) (fun _ _ _ _ _=>cZ 0 ndD) (fun _ _ _ _ _=>fL) (fun _ _ _ _ _ _=>lM Ac (pv 0) (pv 1) (cQ _))) aD)))))).pt (aV (oV bF rfl (by rfl) X.m xi fni PySem.F.excBase_ValueError Z7 hr1 iF.b (ao (pv 1) aD))) cA) (aV (cJ (gb (ao (cR gO (pv 2) aL (fun _ _=>rfl)) (ao (pv 3) (ao (gR (Io rfl) T.sum boot_sum (ao (gw bF rfl ⟨_,_,rfl,rfl,rfl⟩ (fG.plain (N':=["day"]) rfl (by decide +kernel) (by decide +kernel)) (eE (pv 4)) (fun _ _ _ _ _=>cZ 0 (show [("day":Str)].Nodup by decide +kernel)) (fun _ _ _ _ _=>fL) (fun _ _ _ _ _ _=>bB yL aL (pv 0))) aD)) aD)))))))))),?_⟩
  match ws,ne,hl,l60,wk,bad,good with
  | [],ne,_,_,_,_,_=>exact absurd rfl ne
  | w0::wt,ne,hl,l60,wk,bad,good=>?_
  rw [length_cons] at l60;have big:1000<=sizeLine:=by decide
  refine ⟨_,rfl,1,rfl,l,_,rfl,cU.of hl,fun p hp=>?_⟩;rw [show m9 ((w0::wt).map V.str) (some 1) none=wt.map V.str from n6 1];have s0:=bh (o:=.lst (wt.map V.str)) hp;have hp0:upd H p (.lst (wt.map V.str)) p=some (.lst (wt.map V.str)):=aF;generalize upd H p (.lst (wt.map V.str))=H0 at s0 hp0 ⊢;refine ⟨p,rfl,⟨_,cU.of hp0⟩,fun D hD=>?_⟩;obtain ⟨go,stop,yl⟩:=jz (K:=K) (R:=vC) (fun h s=>iH.same h s) (H:=H0) (l:=p) (xs:=wt) ⟨p,_,rfl,hp0,jK wt⟩;refine iB (R:=vC) jd (xs:=wt) (fun _=>true) (fun x=>(((jB (Lo x)).getD 0:Nat):Int)) (fun x=>jB (Lo x)≠none) (by omega) hD go stop yl ?_ ?_
  ·intro i x v H2 hx rv s2 Qc Qn k kn;cases rv;have mx:=aW hx;obtain ⟨x1,x2⟩:=wk x (mem_cons_of_mem _ mx);refine ⟨gH,?_⟩
   show if true=true then _ else Qn H2
   rw [if_pos rfl];refine ⟨_,rfl,_,rfl,x,n,rfl,bw x2 (by decide),x1,ln,fun e=>(bad ?_).from (s0.trans s2),fun m H3 e s3=>k rfl (by rw [e]; simp) _ _ s3 (by rw [e]; rfl)⟩
   show (match qN (wt.map Lo) with | some (c::k::cl)=>_ | _=>none)=none
   rw [Jd (List.mem_map_of_mem mx) e]
  intro H1 s1 al r1;rw [filter_eq_self.mpr fun _ _=>rfl] at r1;have al':∀ x ∈ wt.map Lo,jB x≠none:=fun x hx=>by
   obtain ⟨z,hz,rfl⟩:=bf.mp hx;exact al z hz rfl
  have en:=xZ al';obtain ⟨_,vs,el,hv,uc⟩:=id r1;cases el;rw [oh uc] at hv;generalize hns:(wt.map Lo).map (fun x=>(jB x).getD 0)=ns at en;have hv':H1 D=some (.lst (ns.map fun k:Nat=>V.int (k:Int))):=by
   rw [hv,<- hns,bT,bT,bT];rfl
  have small:∀ k ∈ ns,k < 100:=fun k hk=>by
   rw [<- hns] at hk;obtain ⟨y,_,rfl⟩:=bf.mp hk;exact ZK
  have lns:ns.length=wt.length:=by rw [<- hns,aq,aq]
  have sA:=s0.trans s1;have hd:GC ((w0::wt).map Lo)=match some ns with | some (c::k::cl)=>if Lo w0=oX/\cl.Pairwise (· < ·)/\∀ d ∈ cl,d < k then some (c,k,cl) else none | _=>none:=by
   show (match qN (wt.map Lo) with | some (c::k::cl)=>_ | _=>none)=_
   rw [en]
  refine ⟨_,rfl,l,_,0,.str w0,rfl,rfl,cU.of (sA _ _ hl),dW (j:=0) rfl,rfl,_,rfl,?_⟩;rw [show (Str.ofString "garden":Str)=⟨oX.toArray⟩ from Mi,Z9]
  by_cases g0:Lo w0=oX
  rotate_left
  ·rw [aH g0];refine dH (dH ⟨_,rfl,nY ln ((bad ?_).from sA)⟩);rw [hd]
   split
   ·rw [if_neg fun z=>g0 z.1]
   ·rfl
  rw [aK g0];refine dG ⟨_,rfl,D,_,rfl,.inl (cU.of hv'),_,_,rfl,rfl,_,rfl,?_⟩;rw [aq]
  match ns,hd,hv',small,lns with
  | [],hd,_,_,_=>exact dH ⟨_,rfl,nY ln ((bad hd).from sA)⟩
  | [_],hd,_,_,_=>exact dH ⟨_,rfl,nY ln ((bad hd).from sA)⟩
  | c::k::cl,hd,hv',small,lns=>?_
  rw [aH (by simp only [length_cons]; omega)];simp only [length_cons] at lns;refine dG ⟨_,rfl,D,_,1,_,rfl,rfl,cU.of hv',dW (j:=1) rfl,_,rfl,2,rfl,D,_,rfl,cU.of hv',fun C hC=>?_⟩;rw [show m9 ((c::k::cl).map fun k:Nat=>V.int (k:Int)) (some 2) none=cl.map fun k:Nat=>V.int (k:Int) from n6 2];have s2:=bh (o:=.lst (cl.map fun k:Nat=>V.int (k:Int))) hC;have hC0:upd H1 C (.lst (cl.map fun k:Nat=>V.int (k:Int))) C=some (.lst (cl.map fun k:Nat=>V.int (k:Int))):=aF;generalize upd H1 C (.lst (cl.map fun k:Nat=>V.int (k:Int)))=H2 at s2 hC0 ⊢;have sB:=sA.trans s2;have cli:(cl.map fun k:Nat=>V.int (k:Int))=(cl.map fun k:Nat=>(k:Int)).map V.int:=by rw [bT]; rfl
  refine ⟨_,rfl,_,rfl,C,cl.map fun k:Nat=>(k:Int),rfl,cU.of (by rw [hC0,cli]),by rw [aq]; unfold scanBound; omega,fun Z hZ=>⟨Z,_,rfl,aF,?_,fun O out hO po up=>?_⟩⟩
  ·have:=Bp (done:=[]) (l:=cl.map fun k:Nat=>(k:Int));rw [aq,length_nil] at this;omega
  have s3:=bh (o:=zy P w Z (iI [] (cl.map fun k:Nat=>(k:Int)))) hZ;have s4:=bh (o:=.lst (out.map V.int)) hO;have hO0:upd (upd H2 Z (zy P w Z (iI [] (cl.map fun k:Nat=>(k:Int))))) O (.lst (out.map V.int)) O=some (.lst (out.map V.int)):=aF;have s34:Same H2 (upd (upd H2 Z (zy P w Z (iI [] (cl.map fun k:Nat=>(k:Int))))) O (.lst (out.map V.int))):=s3.trans s4;have sC:=sB.trans s34;have hC3:=s34 _ _ hC0;have hD3:=(s2.trans s34) _ _ hv';clear s3 s4 s34
  show Ko K true (.ref C) (.ref O) (upd (upd H2 Z (zy P w Z (iI [] (cl.map fun k:Nat=>(k:Int))))) O (.lst (out.map V.int))) _
  generalize upd (upd H2 Z (zy P w Z (iI [] (cl.map fun k:Nat=>(k:Int))))) O (.lst (out.map V.int))=H3 at sC hC3 hD3 hO0 ⊢;refine zf (n:=0) eq_int (by decide) (xs:=cl.map fun k:Nat=>(k:Int)) (ys:=out) ⟨C,_,rfl,hC3,by rw [cli]; exact wg _⟩ ⟨O,_,rfl,hO0,wg _⟩ ⟨_,rfl,?_⟩;have eso:=Bt po up;have eup:(cl.map fun k:Nat=>(k:Int)).Pairwise (· < ·) ↔ cl.Pairwise (· < ·):=by
   rw [List.pairwise_map];exact ⟨fun h=>h.imp fun z=>by omega,fun h=>h.imp fun z=>by omega⟩
  by_cases rise:cl.Pairwise (· < ·)
  rotate_left
  ·rw [aH fun z=>rise (eup.mp (eso.mp z))];refine dH (dH ⟨_,rfl,nY ln ((bad ?_).from sC)⟩);rw [hd]
   show (if _ then _ else _)=_
   rw [if_neg fun z=>rise z.2.1]
  rw [aK (eso.mpr (eup.mpr rise))];refine dG ⟨_,rfl,C,rfl,⟨_,cU.of hC3⟩,fun L hL=>?_⟩;have rC:gJ wR H3 (.ref C) (cl.map fun k:Nat=>(k:Int)):=⟨C,_,rfl,hC3,by rw [cli]; exact wg _⟩;refine vG (K:=K) jd aac (fun d=>decide (d < (k:Int))) rC (by rw [aq]; omega) hL ?_ ?_
  ·intro i x v H4 hx rv s5 Qc kk;cases rv;exact ⟨gH,_,rfl,_,rfl,_,_,rfl,rfl,kk _ _ (Same.refl _) rfl⟩
  intro H4 s5 r4;obtain ⟨_,vs4,el4,hv4,pv4⟩:=id r4;cases el4;rw [G3 pv4] at hv4;refine ⟨L,_,rfl,cU.of hv4,_,rfl,?_⟩;have ea:(((cl.map fun k:Nat=>(k:Int)).map fun d=>decide (d < (k:Int))).all id=true) ↔ ∀ d ∈ cl,d < k:=by
   rw [bT,all_map,all_eq_true];exact ⟨fun h d hd=>by have:=h d hd; simp at this; exact this,fun h d hd=>by simp; exact h d hd⟩
  have sD:=sC.trans s5
  by_cases under:∀ d ∈ cl,d < k
  rotate_left
  ·rw [Bool.eq_false_iff.mpr fun z=>under (ea.mp z)];refine dH ⟨_,rfl,nY ln ((bad ?_).from sD)⟩;rw [hd]
   show (if _ then _ else _)=_
   rw [if_neg fun z=>under z.2.2]
  rw [ea.mpr under];have hC4:=s5 _ _ hC3;have rC4:gJ wR H4 (.ref C) (cl.map fun k:Nat=>(k:Int)):=⟨C,_,rfl,hC4,by rw [cli]; exact wg _⟩;refine dG ⟨_,rfl,D,_,0,_,rfl,rfl,cU.of (s5 _ _ hD3),dW (j:=0) rfl,_,rfl,_,rfl,C,rfl,⟨_,cU.of hC4⟩,fun M hM=>?_⟩;refine vG (K:=K) jd jd (fun d=>1 * 2 ^ d.toNat) rC4 (by rw [aq]; omega) hM ?_ ?_
  ·intro i x v H5 hx rv s6 Qc kk;cases rv;have mx:=aW hx;obtain ⟨y,hy,rfl⟩:=bf.mp mx;have:=small y (mem_cons_of_mem _ (mem_cons_of_mem _ hy));exact ⟨gH,_,rfl,_,_,rfl,rfl,⟨by omega,by omega,by decide⟩,kk _ _ (Same.refl _) rfl⟩
  intro H5 s6 r5;obtain ⟨_,vs5,el5,hv5,pv5⟩:=id r5;cases el5;rw [oh pv5] at hv5;refine ⟨M,_,rfl,cU.of hv5,by show 3<=sizeLine; decide,fun t ht=>?_⟩;rw [Cj];have v5:=bh (o:=.tup [V.int (c:Nat),.int (k:Nat),.int (lD cl:Nat)]) ht;exact good c k cl _ t (by rw [hd]; show (if _ then _ else _)=_; rw [if_pos ⟨g0,rise,under⟩]) (sD.trans (s6.trans v5)) aF
end
abbrev rZ:cV:=top 32
abbrev Mj:List Str:=["words","row","numbers","e"]
theorem qX {m:Int} (h0:0<=m) (h1:m < 100):jB (Lo (cY m))=some m.toNat:=by
 obtain ⟨k,rfl⟩:=Int.eq_ofNat_of_zero_le h0;rw [vO k (by omega),K1 (by omega)];rfl
theorem bJ.R8 (p:bJ):(p.ws.map V.str).drop 2=(p.nums.map cY).map V.str:=by
 unfold bJ.ws bJ.nums;cases p.rest <;> rfl
theorem bJ.G4 {p:bJ} (h:p.Ok):∀ m ∈ p.nums,0<=m/\m < 100:=by
 intro m hm;have g:=h.gap;unfold bJ.nums at hm;cases e:p.rest with
 | none =>
  rw [e] at hm;simp at hm;omega
 | some r =>
  have:=h.rest r e;rw [e] at hm;simp at hm;omega
structure Ml (K:Fg) (mg:Str->Option aA) (a:gU):Prop where
 T:jY K mg a
 H:Mh K mg a
section
variable {P:cg} {w:World} {K:Fg} {mg:Str->Option aA} {base:Heap} {a:gU} {dV:aA}
def G5 (a:gU):Sp:=fun vs H Q _=>∃ l p n,vs=[.ref l,.int n]/\H l=some (.lst (p.ws.map V.str))/\p.Ok/\n.natAbs.log2 < 100/\∀ H' y,Same H H'->H y=none->eY a H' y p->Q (.ref y) H'
theorem zN:bY Mj ["words","row"] (aY rZ):=dX (by decide +kernel)
theorem Mp {f:aB} {fd:d9} (F:nJ K "pot_in" "pot_in" rZ f fd) (O:Ml K mg a):cB P w K mg base (fK P w) 5 f fd ["words","row"] (G5 a):=by
 refine F.mX zN (fun vs H Q E h=>?_) (fun cdv A outer s H vs Q E hr h=>?_)
 ·obtain ⟨l,p,n,rfl,_⟩:=h;rfl
 ·obtain ⟨l,p,n,rfl,hl,ok,ln,q⟩:=h;have T:=O.T;have B:=T.B;have X:=O.H.R;obtain ⟨fn,dn,nF,mN⟩:=O.H.num;have okn:cB P w K mg base (fK P w) 3 fn dn ["word","row"] (zM a):=Ce nF.F B X;have kN:=nF.F.kp;have bN:=nF.b;have hr3:eO 3 _:=hr.mono (by decide);have hr4:eO 4 _:=hr.mono (by decide);have ndW:[("word":Str),"row"].Nodup:=by decide +kernel
  refine ⟨_,aG (lY (i:=2) zN.nd rfl (Or.inl rfl) bF rfl ⟨_,_,rfl,rfl,rfl⟩ (iY (N':=["word","row"]) (cl:=[("row",s.heap.objs.size + 1)]) [none,some 1] Mj (aY rZ).names [(".0",.local),("word",.local),("number_in",.globalImplicit),("row",.cell)] ["row"] rfl (by decide +kernel) (by decide +kernel) rfl (fun p hp=>by rw [aO.mp hp]; rfl) rfl rfl rfl rfl (by decide +kernel) rfl (by decide +kernel)) (eE (jG oO (pv 0) (lR aL) lQ)) (fun _ _ _ _ _=>cZ 0 ndW) (fun _ _ _ _ _=>fL) (fun _ _ _ _ _ acc=>cG okn hr3 mN kN bN (cC acc) (ao (pv 0) (ao (pv 1) aD)))) (aG (Aq (hit:=fun cls=>exmOne K cls (.ref a.dB)=some true) rfl ⟨_,_,rfl,rfl,rfl⟩ zN.nd (i:=3) rfl rfl (by rfl) T.dB.m (fun _ h=>h) (fun E' pG Eb acc=>aG (dU (PW.pt (pw_and (cN jt (cR (jh K) (pv 0) aL (fun _ _=>rfl)) cj (cQ _)) (pw_and1 (cN jt (gR (pN K) B.len PySem.boot_len (ao (pv 0) aD)) aL (cQ _))))) (aV (cJ (qK T.kP (mq T) hr3 T.Lb T.PI.b (cC acc) (ao (cR (jh K) (pv 0) aL (fun _ _=>rfl)) (ao (cR (jh K) (pv 2) aL (fun _ _=>rfl)) aD))))) cA) (aV (dU (PW.pt (pw_and (cN jt (cR (jh K) (pv 0) aL (fun _ _=>rfl)) cj (cQ _)) (pw_and1 (cN jt (gR (pN K) B.len PySem.boot_len (ao (pv 0) aD)) aL (cQ _))))) (aV (cJ (qK T.kC (qg T) hr4 T.RV T.CI.b (cC acc) (ao (cR (jh K) (pv 0) aL (fun _ _=>rfl)) (ao (cR (jh K) (pv 2) aL (fun _ _=>rfl)) (ao (cR (jh K) (pv 2) aL (fun _ _=>rfl)) aD)))))) cA))) (fun e=>wZ)) (aV uT)),?_⟩;have big:1000<=sizeLine:=by decide
  refine ⟨_,rfl,2,rfl,l,_,rfl,cU.of hl,fun c hc=>?_⟩;rw [show m9 (p.ws.map V.str) (some 2) none=(p.nums.map cY).map V.str from (n6 2).trans p.R8];have s0:=bh (o:=.lst ((p.nums.map cY).map V.str)) hc;have hc0:upd H c (.lst ((p.nums.map cY).map V.str)) c=some (.lst ((p.nums.map cY).map V.str)):=aF;generalize upd H c (.lst ((p.nums.map cY).map V.str))=H0 at s0 hc0 ⊢;refine ⟨c,rfl,⟨_,cU.of hc0⟩,fun D hD=>?_⟩;obtain ⟨go,stop,yl⟩:=jz (K:=K) (R:=vC) (fun h s=>iH.same h s) (H:=H0) (l:=c) (xs:=p.nums.map cY) ⟨c,_,rfl,hc0,jK _⟩;have n2:(p.nums.map cY).length<=2:=by
   rw [aq];unfold bJ.nums;cases p.rest <;> simp
  refine iB (R:=vC) jd (xs:=p.nums.map cY) (fun _=>true) (fun x=>(((jB (Lo x)).getD 0:Nat):Int)) (fun _=>True) (by omega) hD go stop yl ?_ ?_
  ·intro i x v H2 hx rv s2 Qc Qn k kn;cases rv;obtain ⟨m,hm,rfl⟩:=bf.mp (aW hx);obtain ⟨m0,m1⟩:=bJ.G4 ok m hm;have en:=qX m0 m1;obtain ⟨_,x1,x2⟩:=Gz en;refine ⟨gH,?_⟩
   show if true=true then _ else Qn H2
   rw [if_pos rfl];refine ⟨_,rfl,_,rfl,cY m,n,rfl,by omega,fun z=>?_,ln,fun e=>?_,fun m' H3 e s3=>k rfl trivial _ _ s3 (by rw [e]; rfl)⟩
   ·have:(Lo (cY m)).length=(cY m).length:=Array.length_toList;rw [z] at this;simp at this;omega
   ·rw [en] at e; cases e
  intro H1 s1 _ r1;rw [filter_eq_self.mpr fun _ _=>rfl] at r1;obtain ⟨_,vs,el,hv,uc⟩:=id r1;cases el;rw [oh uc] at hv;have en:((p.nums.map cY).map fun x=>(((jB (Lo x)).getD 0:Nat):Int))=p.nums:=by
   rw [bT];refine (map_congr_left fun m hm=>?_).trans (map_id _);obtain ⟨m0,m1⟩:=bJ.G4 ok m hm
   show (((jB (Lo (cY m))).getD 0:Nat):Int)=m
   rw [qX m0 m1]
   show ((m.toNat:Nat):Int)=m
   omega
  rw [en] at hv;have sA:=s0.trans s1;have hl1:=sA _ _ hl;have hg:=ok.gap;obtain ⟨nm,g,rs⟩:=p;have hnm:nameV (.str nm)=true:=ok.nm;have g1:1<=g:=hg.1;have g2:g<=60:=hg.2;have a1:iD (.str nm) (.int g)=true:=by simp [iD,hnm,dN,g1,g2]
  cases rs with
  | none =>
   refine ⟨_,rfl,l,_,0,_,rfl,rfl,cU.of hl1,dW (j:=0) rfl,rfl,_,rfl,?_⟩;rw [aK rfl];refine dH ⟨_,rfl,l,_,rfl,.inl (cU.of hl1),rfl,_,rfl,eqT rfl ?_⟩;refine ⟨_,rfl,l,_,1,_,rfl,rfl,cU.of hl1,dW (j:=1) rfl,_,rfl,D,_,0,_,rfl,rfl,cU.of hv,dW (j:=0) rfl,Lq ?_⟩;refine Ec (kn:=.str) (kg:=.int) ⟨_,rfl⟩ (iZ hnm) ⟨_,rfl⟩ (fun e=>absurd e ?_) (fun _ H3 y hy s3 py=>q H3 y (sA.trans s3) (sA.free hy) ?_)
   ·rw [a1]; decide
   ·exact py
  | some r =>
   obtain ⟨r0,r1⟩:=ok.rest r rfl;have r1':r < g:=r1;have r3:r<=g - 1:=by omega
   have a2:restOk (.int g) (.int r)=true:=by simp [restOk,dN,r0,r3]
   refine ⟨_,rfl,l,_,0,_,rfl,rfl,cU.of hl1,dW (j:=0) rfl,rfl,_,rfl,?_⟩;rw [show decide (V.str ("cactus":Str)=V.str ("pot":Str))=false by decide +kernel];refine dG (dG ⟨_,rfl,l,_,0,_,rfl,rfl,cU.of hl1,dW (j:=0) rfl,rfl,_,rfl,?_⟩);rw [aK rfl];refine dH ⟨_,rfl,l,_,rfl,.inl (cU.of hl1),rfl,_,rfl,eqT rfl ?_⟩;refine ⟨_,rfl,l,_,1,_,rfl,rfl,cU.of hl1,dW (j:=1) rfl,_,rfl,D,_,0,_,rfl,rfl,cU.of hv,dW (j:=0) rfl,_,rfl,D,_,1,_,rfl,rfl,cU.of hv,dW (j:=1) rfl,Lq ?_⟩;refine Ed (kn:=.str) (kg:=.int) (kr:=.int) ⟨_,rfl⟩ (iZ hnm) ⟨_,rfl⟩ ⟨_,rfl⟩ (fun e=>absurd e ?_) (fun _ H3 y hy s3 py=>q H3 y (sA.trans s3) (sA.free hy) ?_)
   ·rw [a1,a2]; decide
   ·exact py
end
abbrev uL:cV:=top 35
abbrev R9:List Str:=["rows","pots","names","row","words","pot"]
section
variable {P:cg} {w:World} {K:Fg} {mg:Str->Option aA} {base:Heap} {a:gU} {dV:aA}
theorem eY.aeA {H:Hp} {b D:aB} {p:bJ} {kvs:List (Key × V)} {o:HO} (h:eY a H b p) (hD:H D=some (.dK kvs)):eY a (L2.upd H D o) b p:=by
 obtain ⟨dx,e⟩:=h;exact ⟨dx,by rw [bA (Jz e hD (by intro z; cases z))]; exact e⟩
noncomputable def Cm (a:gU):Sp:=fun vs H Q _=>∃ l rows ps,vs=[.ref l]/\gJ Ma H (.ref l) rows/\rows.map (·.2)=ps.map bJ.ws/\(∀ c ∈ rows,c.1<=1000)/\(∀ p ∈ ps,p.Ok)/\(ps.map bJ.nm).Nodup/\ps.length<=8 /\ ∀ H' m as,Same H H'->H' m=some (.lst (as.map V.ref))->iR a H' as ps->Q (.ref m) H'
theorem lE:bY R9 ["rows"] (aY uL):=dX (by decide +kernel)
theorem Jm {f fp:aB} {fd dp:d9} (F:nJ K "pots_in" "pots_in" uL f fd) (O:Ml K mg a) (pF:Fn K "pot_in" "pot_in" rZ ["words","row"] fp dp) (mP:mg "pot_in"=some (.ref fp)):cB P w K mg base (fK P w) 6 f fd ["rows"] (Cm a):=by
 refine F.mX lE (fun vs H Q E h=>?_) (fun cdv A outer s H vs Q E hr h=>?_)
 ·obtain ⟨l,rows,ps,rfl,_⟩:=h;rfl
 ·obtain ⟨l,rows,ps,rfl,rl,ew,small,rA,nd,n8,q⟩:=h;have T:=O.T;have BW:cB P w K mg base (fK P w) 5 fp dp ["words","row"] (G5 a):=Mp pF.F O;have kP:=pF.F.kp;have bP:=pF.b;refine ⟨_,aG (bK (i:=1) lE.nd rfl (Or.inl rfl) (fY aD)) (aG (bK (i:=2) lE.nd rfl (Or.inl rfl) KZ) (aG (jE gB rfl (eE (pv 0)) (yJ rfl (dD (cZ 3 lE.nd) (dD (cZ 4 lE.nd) j6))) (aG (bK (i:=5) lE.nd rfl (Or.inl rfl) (cG BW hr mP kP bP (cC bF) (ao (pv 4) (ao (pv 3) aD)))) (aG (dU (cN ZJ (dM (pv 5) rfl) (pv 2) rfl) (aV uT) cA) (aG (YW j4 (YS (pv 2) (dM (pv 5) rfl) Jb)) (aV (gZ (gW PySem.F.plainAttrs_list PySem.F.slot_list_append PySem.F.type_list_append gQ (pv 1) (ao (pv 5) aD)))))))) (aV (cJ (pv 1))))),?_⟩;refine ⟨by show 0<=sizeLine; decide,fun lp hlp dn hdn=>?_⟩;have v1:=bh (o:=.lst []) hlp;have v2:=bh (o:=.dK []) hdn;have ajb:=v1.free hdn;have ndl:lp≠dn:=fun z=>by rw [<- z,aF] at hdn; cases hdn
  obtain ⟨_,vs,el,hv,uc⟩:=id rl;cases el;have lv:vs.length=rows.length:=Paired.length uc;have lr:rows.length=ps.length:=by have:=congrArg List.length ew; rwa [aq,aq] at this
  have big:1000<=sizeLine:=by decide
  have s12:=v1.trans v2;refine ⟨_,rfl,l,rfl,⟨_,cU.of (s12 _ _ hv)⟩,?_⟩;refine nH (K:=K) (a:=l) (xs:=vs) (fun i σ H'=>∃ u3 u4 u5 bs kvs,σ=[some (.ref l),some (.ref lp),some (.ref dn),u3,u4,u5]/\bs.length=i/\H' lp=some (.lst (bs.map V.ref))/\iR a H' bs (ps.take i)/\H' dn=some (.dK kvs)/\kvs.map (·.1)=(ps.take i).map (fun p=>(Sum.inr p.nm:Key))/\Same H H') ⟨none,none,none,[],[],rfl,rfl,v2 _ _ aF,.nil,aF,rfl,s12⟩ (fun i σ H' _ ⟨_,_,_,_,_,_,_,_,_,_,_,s'⟩=>cU.of (s' _ _ hv)) ?_ ?_
  ·rintro i x σ H2 hi ⟨u3,u4,u5,bs,kvs,rfl,lb,hp2,Sd,hd2,ek,s2⟩;obtain ⟨c,hc,rc⟩:=eG uc hi;have li:i < rows.length:=(aN.mp hc).1;obtain ⟨p,hp⟩:∃ p,ps[i]?=some p:=⟨ps[i]'(by omega),aP _⟩;have ec:c.2=p.ws:=by
    have:=congrArg (fun l=>l[i]?) ew;simp only [aU,hc,hp,Option.map_some] at this;exact bU this
   have cs:=small c (aW hc);obtain ⟨t,m,rfl,ht,hm⟩:=Ma.same rc s2;rw [ec] at hm;refine ⟨t,_,rfl,gY.of ht,rfl,_,_,rfl,_,_,rfl,rfl,?_⟩;refine ⟨_,rfl,_,rfl,m,p,_,rfl,hm,rA p (aW hp),Eo (by omega) (by omega),fun H3 y s3 hy py=>?_⟩;have aeB:∀ z ∈ kvs,z.1≠(Sum.inr p.nm:Key):=fun z hz e=>by
    have:(Sum.inr p.nm:Key) ∈ kvs.map (·.1):=bf.mpr ⟨z,hz,e⟩;rw [ek] at this;obtain ⟨p',hp',e'⟩:=bf.mp this;injection e' with e';obtain ⟨j,hj⟩:=List.mem_iff_getElem?.mp hp';have jl:j < i:=by
     have:=(aN.mp hj).1;rw [length_take] at this;omega
    rw [List.getElem?_take_of_lt jl] at hj;have h1:(ps.map bJ.nm)[j]?=some p.nm:=by rw [aU,hj]; exact congrArg some e'
    have h2:(ps.map bJ.nm)[i]?=some p.nm:=by rw [aU,hp]; rfl
    have:=(List.getElem?_inj (by rw [aq]; omega) nd).mp (h1.trans h2.symm);omega
   have hd3:=s3 _ _ hd2;have hp3:=s3 _ _ hp2;have lk:kvs.length=i:=by
    have:=congrArg List.length ek;rw [aq,aq,length_take] at this;omega
   obtain ⟨dy,hy3⟩:=id py;have cT:=T.cls p.jk;refine ⟨_,rfl,y,p.cls a,dy,_,_,rfl,hy3,cT.1.cl,cT.2 _ (by simp),p.nW,_,rfl,dn,kvs,p.nm,rfl,rfl,hd3,aeB,_,rfl,dG ?_⟩;refine ⟨_,rfl,_,rfl,y,p.cls a,dy,_,_,rfl,hy3,cT.1.cl,cT.2 _ (by simp),p.nW,dn,kvs,p.nm,rfl,rfl,hd3,aeB,by omega,?_⟩;have hp4:upd H3 dn (.dK (kvs++[(Sum.inr p.nm,V.bl true)])) lp=some (.lst (bs.map V.ref)):=by rw [bA ndl]; exact hp3
   have s4:Same H (upd H3 dn (.dK (kvs++[(Sum.inr p.nm,V.bl true)]))):=iJ (s2.trans s3) ajb;have py4:eY a (upd H3 dn (.dK (kvs++[(Sum.inr p.nm,V.bl true)]))) y p:=eY.aeA py hd3;have pt4:iR a (upd H3 dn (.dK (kvs++[(Sum.inr p.nm,V.bl true)]))) bs (ps.take i):=Paired.jx (Sd.same s3) fun _ _ z=>eY.aeA z hd3
   have hd4:upd H3 dn (.dK (kvs++[(Sum.inr p.nm,V.bl true)])) dn=some (.dK (kvs++[(Sum.inr p.nm,V.bl true)])):=aF;generalize upd H3 dn (.dK (kvs++[(Sum.inr p.nm,V.bl true)]))=H4 at hp4 s4 py4 pt4 hd4 ⊢;refine ⟨_,rfl,.inl ⟨rfl,_,cU.of hp4⟩,_,rfl,lp,_,_,rfl,rfl,hp4,by rw [aq]; omega,?_⟩;refine ⟨_,_,_,bs++[y],_,rfl,by rw [aR,lb]; rfl,by rw [aF,aX]; rfl,?_,by rw [bA ndl.symm]; exact hd4,?_,iJ s4 hlp⟩
   ·rw [take_snoc hp];exact Paired.snoc (pt4.upd hp4) (eY.upd py4 hp4)
   ·rw [take_snoc hp,aX,aX,ek];rfl
  ·rintro σ H2 ⟨u3,u4,u5,bs,kvs,rfl,lb,hp2,Sd,hd2,ek,s2⟩;rw [lv,lr,bV] at Sd;exact ⟨_,rfl,q H2 lp bs s2 hp2 Sd⟩
end
abbrev G6:cV:=top 36
abbrev aeD:List Str:=["text","lines","rows","beyond","head","pots","e"]
def ju (g:iT):List Nat:=(List.range g.week.toNat).filter fun d:Nat=>um g.closed (d:Int)
def iT.hns (g:iT):List Int:=g.cans::g.week::(ju g).map fun d:Nat=>(d:Int)
def iT.hws (g:iT):List Str:="garden"::g.hns.map cY
def iT.rws (g:iT):List (List Str):=g.hws::g.pots.map bJ.ws
structure ud (g:iT):Prop where
 rA:∀ p ∈ g.pots,p.Ok
 n8:g.pots.length<=8
 nd:(g.pots.map bJ.nm).Nodup
 c1:0<=g.cans
 c2:g.cans<=8
 w1:1<=g.week
 w2:g.week<=14
 l1:0<=g.closed
 l2:g.closed < 2 ^ g.week.toNat
 out:zF (some g.pots) (.int g.cans) (.int g.week) (.int g.closed)=.ok
def Sg (z:Str):Prop:=z.length<=12/\Lo z≠[]/\32 ∉ Lo z/\10 ∉ Lo z
theorem uM {m:Int} (h0:0<=m) (h1:m < 100):Sg (cY m):=by
 obtain ⟨k,rfl⟩:=Int.eq_ofNat_of_zero_le h0;have e:=vO k (by omega);refine ⟨?_,?_,?_,?_⟩
 ·rw [<- jJ,e];unfold pO
  split <;> simp
 ·rw [e]; exact RK k
 ·rw [e]; exact xY (by omega) (by omega)
 ·rw [e]; exact xY (by omega) (by omega)
theorem Jo (c:Nat):letter c=decide (97<=c/\c<=122):=by
 have e1:decide ([c] < [97])=decide (c < 97):=decide_eq_decide.mpr (show ([c] < [97]) ↔ c < 97 by rw [cons_lt_cons_iff]; simp);have e2:decide ([122] < [c])=decide (122 < c):=decide_eq_decide.mpr (show ([122] < [c]) ↔ 122 < c by rw [cons_lt_cons_iff]; simp);unfold letter;rw [e1,e2]
 by_cases h1:c < 97 <;> by_cases h2:122 < c <;> simp [h1,h2] <;> omega
theorem wj {x:Str} (h:nameV (.str x)=true):Sg x:=by
 have e:nameV (.str x)=(decide (1<=x.length) && decide (x.length<=12) && x.cps.toList.all letter):=rfl;rw [e] at h;simp only [Bool.and_eq_true,decide_eq_true_eq,all_eq_true] at h;obtain ⟨⟨h1,h2⟩,h3⟩:=h;have no:∀ c,¬ (97<=c/\c<=122)->c ∉ Lo x:=fun c hc m=>hc (by have:=h3 c m; rw [Jo] at this; exact of_decide_eq_true this)
 refine ⟨h2,fun z=>?_,no 32 (by omega),no 10 (by omega)⟩;have:=jJ x;rw [z] at this;simp at this;omega
theorem Et:Sg "garden":=by unfold Sg; decide +kernel
theorem Sh:Sg "pot":=by unfold Sg; decide +kernel
theorem Eu:Sg "cactus":=by unfold Sg; decide +kernel
def RowW (ws:List Str):Prop:=kh (ws.map Lo)=true/\ws.length<=17/\∀ z ∈ ws,Sg z
theorem G7 {p:bJ} (h:p.Ok):RowW p.ws:=by
 have n1:=wj h.nm;have g:=h.gap;unfold bJ.ws;cases e:p.rest with
 | none =>
  refine ⟨?_,by simp,fun z hz=>?_⟩
  ·have ep:Lo ("pot":Str)=[112,111,116]:=by decide +kernel
   show kh (Lo ("pot":Str)::_)=true
   rw [ep];rfl
  ·simp only [aQ,not_mem_nil,or_false] at hz;rcases hz with rfl | rfl | rfl
   ·exact Sh
   ·exact n1
   ·exact uM (by omega) (by omega)
 | some r =>
  have gr:=h.rest r e;refine ⟨?_,by simp,fun z hz=>?_⟩
  ·have ep:Lo ("cactus":Str)=[99,97,99,116,117,115]:=by decide +kernel
   show kh (Lo ("cactus":Str)::_)=true
   rw [ep];rfl
  ·simp only [aQ,not_mem_nil,or_false] at hz;rcases hz with rfl | rfl | rfl | rfl
   ·exact Eu
   ·exact n1
   ·exact uM (by omega) (by omega)
   ·exact uM (by omega) (by omega)
theorem wu (g:iT):(ju g).length<=g.week.toNat:=by
 unfold ju;exact bw (length_filter_le _ _) (by rw [length_range]; exact aJ _)
theorem G8 {g:iT} {d:Nat} (h:d ∈ ju g):d < g.week.toNat:=mem_range.mp (mem_filter.mp h).1
theorem qj {g:iT} (h:ud g):∀ m ∈ g.hns,0<=m/\m < 100:=by
 have:=h.c1;have:=h.c2;have:=h.w1;have:=h.w2;intro m hm;unfold iT.hns at hm;rcases aQ.mp hm with ee | hm
 ·rw [ee]; omega
 rcases aQ.mp hm with ee | hm
 ·rw [ee]; omega
 obtain ⟨d,hd,rfl⟩:=bf.mp hm;have:=G8 hd;omega
theorem Ew {g:iT} (h:ud g):RowW g.hws:=by
 refine ⟨?_,?_,fun z hz=>?_⟩
 ·have ep:Lo ("garden":Str)=[103,97,114,100,101,110]:=by decide +kernel
  show kh (Lo ("garden":Str)::_)=true
  rw [ep];rfl
 ·have:=wu g;have:=h.w2;unfold iT.hws iT.hns;simp only [length_cons,aq];omega
 ·rcases aQ.mp hz with rfl | hz
  ·exact Et
  ·obtain ⟨m,hm,rfl⟩:=bf.mp hz;exact uM (qj h m hm).1 (qj h m hm).2
theorem ql {g:iT} (h:ud g):∀ ws ∈ g.rws,RowW ws:=by
 intro ws hw;rcases aQ.mp hw with rfl | hw
 ·exact Ew h
 ·obtain ⟨p,hp,rfl⟩:=bf.mp hw;exact G7 (h.rA p hp)
def iK (lines:List Str):List (List Str):=(lines.map jo).filter fun ws=>kh (ws.map Lo)
theorem uf:∀ (lines:List Str) (n:Nat),(((lines.zipIdx n).map fun q=>((q.2 + 1,jo q.1):NR)).filter fun c=>kh (c.2.map Lo)).map (·.2)=iK lines
 | [],_=>rfl
 | x::xs,n=>by
  have ih:=uf xs (n + 1);unfold iK at ih ⊢;rw [List.zipIdx_cons,bO,filter_cons,bO,filter_cons]
  show List.map (fun c:NR=>c.2) (if kh ((jo x).map Lo)=true then _ else _)=if kh ((jo x).map Lo)=true then _ else _
  by_cases h:kh ((jo x).map Lo)=true
  ·rw [if_pos h,if_pos h,bO,ih]
  ·rw [if_neg h,if_neg h,ih]
theorem Ey (lines:List Str):(GZ lines).map (·.2)=iK lines:=uf lines 0
theorem Ez {lines:List Str}:∀ c ∈ GZ lines,c.1<=lines.length:=by
 intro c hc;obtain ⟨q,hq,rfl⟩:=bf.mp (mem_filter.mp hc).1;obtain ⟨i,hi⟩:=List.mem_iff_getElem?.mp hq;rw [List.getElem?_zipIdx] at hi;obtain ⟨z,hz,rfl⟩:=bH.mp hi;have:=(aN.mp hz).1
 show 0 + i + 1<=_
 omega
structure zO (x:Str) (wss:List (List Str)):Prop where
 len:x.length<=100000
 few:(Txt.split x ⟨#[10]⟩).length<=999
 short:∀ z ∈ Txt.split x ⟨#[10]⟩,z.length<=100000
 rows:iK (Txt.split x ⟨#[10]⟩)=wss
theorem Sq (g:iT):(ju g).Pairwise (· < ·):=Pairwise.filter _ List.pairwise_lt_range
theorem G9 {g:iT} (h:ud g):GC (g.hws.map Lo)=some (g.cans.toNat,g.week.toNat,ju g):=by
 have en:qN ((g.hns.map cY).map Lo)=some (g.cans.toNat::g.week.toNat::ju g):=by
  rw [xZ]
  ·rw [bT,bT]
   congr 1
   refine (map_congr_left (g:=Int.toNat) fun m hm=>?_).trans ?_
   ·show (jB (Lo (cY m))).getD 0=_
    rw [qX (qj h m hm).1 (qj h m hm).2];rfl
   ·unfold iT.hns;rw [bO,bO,bT]
    congr 2
    refine (map_congr_left fun d _=>?_).trans (map_id _);rfl
  ·intro y hy;obtain ⟨z,hz,rfl⟩:=bf.mp hy;obtain ⟨m,hm,rfl⟩:=bf.mp hz;rw [qX (qj h m hm).1 (qj h m hm).2];exact Option.some_ne_none _
 have ep:Lo ("garden":Str)=oX:=by decide +kernel
 show (match qN ((g.hns.map cY).map Lo) with | some (c::k::cl)=>if Lo ("garden":Str)=oX/\cl.Pairwise (· < ·)/\∀ d ∈ cl,d < k then some (c,k,cl) else none | _=>none)=_
 rw [en]
 show (if _ then _ else _)=_
 rw [if_pos ⟨ep,Sq g,fun d hd=>G8 hd⟩]
theorem Ss {g:iT} (h:ud g):((lD (ju g):Nat):Int)=g.closed:=by
 obtain ⟨c,hc⟩:=Int.eq_ofNat_of_zero_le h.l1;have l2:=h.l2;have e:ju g=(List.range g.week.toNat).filter fun d=>c.testBit d:=by
  unfold ju
  congr 1
  funext d
  rw [hc];exact Ku c d
 rw [e,yd,hc]
 congr 1
 apply Nat.mod_eq_of_lt;rw [hc] at l2
 exact_mod_cast l2
structure Mq (K:Fg) (mg:Str->Option aA) (a:gU) (dV:aA):Prop where
 O:Ml K mg a
 Z:Ej K mg a dV
 en:mg "enumerate"=none
 wi:∃ f fd,Fn K "words_in" "words_in" nZ ["line"] f fd/\mg "words_in"=some (.ref f)
 nr:∃ f fd,Fn K "numbered_rows" "numbered_rows" qU ["lines"] f fd/\mg "numbered_rows"=some (.ref f)
 hi:∃ f fd,Fn K "head_in" "head_in" o8 ["words","row"] f fd/\mg "head_in"=some (.ref f)
 pi:∃ f fd,Fn K "pot_in" "pot_in" rZ ["words","row"] f fd/\mg "pot_in"=some (.ref f)
 ps:∃ f fd,Fn K "pots_in" "pots_in" uL ["rows"] f fd/\mg "pots_in"=some (.ref f)
section
variable {P:cg} {w:World} {K:Fg} {mg:Str->Option aA} {base:Heap} {a:gU} {dV:aA}
def Mr (a:gU):Sp:=fun vs H Q _=>∃ x g,vs=[.str x]/\ud g/\zO x g.rws/\∀ H' y,Same H H'->j9 a H' y g->Q (.ref y) H'
theorem qm:bY aeD ["text"] (aY G6):=dX (by decide +kernel)
theorem Sv {f:aB} {fd:d9} (F:nJ K "read" "read" G6 f fd) (R:Mq K mg a dV):cB P w K mg base (fK P w) 9 f fd ["text"] (Mr a):=by
 refine F.mX qm (fun vs H Q E h=>?_) (fun cdv A outer s H vs Q E hr h=>?_)
 ·obtain ⟨x,g,rfl,_⟩:=h;rfl
 ·obtain ⟨x,g,rfl,pK,lt,q⟩:=h;have Z:=R.Z;have B:=Z.G.T.B;obtain ⟨fw,dw,wF,mW⟩:=R.wi;obtain ⟨fr,dr,rF,mR⟩:=R.nr;obtain ⟨fh,dh,hF,mH⟩:=R.hi;obtain ⟨fp,dp,pF,mP⟩:=R.pi;obtain ⟨fs,ds,sF,mS⟩:=R.ps;have okr:cB P w K mg base (fK P w) 2 fr dr ["lines"] yr:=Es rF.F R.en wF mW;have okh:cB P w K mg base (fK P w) 4 fh dh ["words","row"] (Ck a):=Jl hF.F R.O.H;have rA:cB P w K mg base (fK P w) 6 fs ds ["rows"] (Cm a):=Jm sF.F R.O pF mP;have hr2:eO 2 _:=hr.mono (by decide);have hr4:eO 4 _:=hr.mono (by decide);have hr6:eO 6 _:=hr.mono (by decide);refine ⟨_,aG (bK (i:=1) qm.nd rfl (Or.inl rfl) (gW PySem.F.plainAttrs_str PySem.F.slot_str_split PySem.F.type_str_split qL (pv 0) (ao cj aD))) (aG (bK (i:=2) qm.nd rfl (Or.inl rfl) (cG okr hr2 mR rF.F.kp rF.b bx (ao (pv 1) aD))) (aG (bK (i:=3) qm.nd rfl (Or.inl rfl) (bB dY (gR eU B.len PySem.boot_len (ao (pv 1) aD)) aL)) (aG (dU (fu (Ae (pv 2) (fun _=>rfl))) (aV uT) cA) (aG (bK (i:=4) qm.nd rfl (Or.inl rfl) (cG okh hr4 mH hF.F.kp hF.b (cC bF) (ao (cR dZ (cR gO (pv 2) aL (fun _ _=>rfl)) aL (fun _ _=>rfl)) (ao (cR dZ (cR gO (pv 2) aL (fun _ _=>rfl)) aL (fun _ _=>rfl)) aD)))) (aG (bK (i:=5) qm.nd rfl (Or.inl rfl) (cG rA hr6 mS sF.F.kp sF.b (cC bF) (ao (jG oO (pv 2) (lR aL) lQ) aD))) (aV (Aq (hit:=fun cls=>exmOne K cls (.ref a.tooMany)=some true) rfl ⟨_,_,rfl,rfl,rfl⟩ qm.nd (i:=6) rfl rfl (by rfl) Z.G.tooMany.m (fun _ h=>h) (fun E' pG Eb acc=>aV (cJ (qK Z.kG (Lw Z) hr Z.Z1 Z.b4 (cC acc) (ao (pv 5) (ao (cR (uE K) (pv 4) aL (fun _ _=>rfl)) (ao (cR (uE K) (pv 4) aL (fun _ _=>rfl)) (ao (cR (uE K) (pv 4) aL (fun _ _=>rfl)) aD))))))) (fun e=>wZ)))))))),?_⟩;obtain ⟨x1,x2,x3,x4⟩:=lt;have big:1000000<=sizeLine:=by decide
  refine ⟨_,rfl,rfl,x,_,rfl,rfl,rfl,by omega,fun p hp=>?_⟩;rw [show (Str.ofString "\n":Str)=⟨#[10]⟩ from rY];generalize Txt.split x ⟨#[10]⟩=lines at x2 x3 x4 ⊢;have s1:=bh (o:=.lst (lines.map V.str)) hp;have hp1:upd H p (.lst (lines.map V.str)) p=some (.lst (lines.map V.str)):=aF;generalize upd H p (.lst (lines.map V.str))=H1 at s1 hp1 ⊢;refine ⟨_,rfl,p,lines,rfl,hp1,by omega,x3,fun H2 q2 s2 r2=>?_⟩;refine ⟨_,rfl,p,_,rfl,.inl (cU.of (s2 _ _ hp1)),_,_,rfl,rfl,?_⟩;have ew:=Ey lines;have sm:=Ez (lines:=lines);rw [x4] at ew;cases er:GZ lines with
  | nil=>rw [er] at ew; cases ew
  | cons c0 cs =>
   rw [er] at ew r2 sm;rw [bO] at ew;injection ew with e0 e1;obtain ⟨_,vs,el,hv,uc⟩:=id r2;cases el;cases uc with
   | @cons v0 _ vt _ r0 rt =>
    obtain ⟨t0,l0,rfl,ht0,hl0⟩:=r0;rw [e0] at hl0;have c0s:=sm c0 (by simp);refine ⟨_,rfl,true,.inl ⟨_,cU.of hv,rfl⟩,dG ?_⟩;refine ⟨_,rfl,q2,_,0,_,rfl,rfl,cU.of hv,dW (j:=0) rfl,t0,_,1,_,rfl,rfl,gY.of ht0,rfl,_,rfl,q2,_,0,_,rfl,rfl,cU.of hv,dW (j:=0) rfl,t0,_,0,_,rfl,rfl,gY.of ht0,rfl,?_⟩;have hw:=Ew pK;refine ⟨l0,g.hws,_,rfl,hl0,(fun z=>nomatch z),by have:=hw.2.1; omega,fun z hz=>⟨(hw.2.2 z hz).2.1,by have:=(hw.2.2 z hz).1; omega⟩,Eo (by omega) (by omega),(fun e=>by rw [G9 pK] at e; cases e),fun c k cl H3 t e s3 ht=>?_⟩;rw [G9 pK] at e;cases e;rw [Ss pK,Int.toNat_of_nonneg pK.c1,Int.toNat_of_nonneg (show 0<=g.week by have:=pK.w1; omega)] at ht;refine ⟨_,rfl,1,rfl,q2,_,rfl,cU.of (s3 _ _ hv),fun sl hsl=>?_⟩;rw [show m9 (V.ref t0::vt) (some 1) none=vt from n6 1];have s4:=bh (o:=.lst vt) hsl;have n8:=pK.n8;refine ⟨sl,cs,g.pots,rfl,⟨sl,vt,rfl,aF,Paired.jx rt fun _ _ z=>Ma.same z (s3.trans s4)⟩,e1,fun c hc=>by have:=sm c (by simp [hc]); omega,pK.rA,pK.nd,n8,fun H5 m as s5 hm pt=>?_⟩;have ht5:=(s4.trans s5) _ _ ht;have la:as.length=g.pots.length:=Paired.length pt;refine ⟨_,rfl,_,rfl,t,_,0,.int g.cans,rfl,rfl,gY.of ht5,rfl,_,rfl,t,_,1,.int g.week,rfl,rfl,gY.of ht5,rfl,_,rfl,t,_,2,.int g.closed,rfl,rfl,gY.of ht5,rfl,?_⟩;exact Ek (kc:=.int) (kw:=.int) (kl:=.int) (uq.pots (as:=as) (ps:=g.pots) ⟨m,_,rfl,.inl hm⟩ (cU.of hm) (by omega) pt pK.rA) ⟨_,rfl⟩ ⟨_,rfl⟩ ⟨_,rfl⟩ (Lx pK.out (fun H6 y hy s6 gn=>q H6 y ((s1.trans s2).trans ((s3.trans s4).trans (s5.trans s6))) (mK.at gn)))
end
abbrev ou:cV:=top 29
abbrev aeF:List Str:=["garden","closed","head","rows"]
def gj (ws:List Str):Str:=Txt.join ⟨#[32]⟩ ws
def Ms (wss:List (List Str)):Str:=Txt.join ⟨#[10]⟩ (wss.map gj)
theorem zP {ws:List Str} (h:RowW ws):JoinOk ⟨#[32]⟩ ws=true:=qO (m:=12) (fun z hz=>(h.2.2 z hz).1) (by
 have:=h.2.1;have:ws.length * (12 + 1)<=17 * (12 + 1):=Nat.mul_le_mul_right _ this
 show ws.length * (12 + 1)<=_
 omega)
theorem zQ {ws:List Str} (h:RowW ws):(gj ws).length<=221:=by
 have h1:=vQ (s:=⟨#[32]⟩) (m:=12) fun z hz=>(h.2.2 z hz).1
 have:=h.2.1;have:ws.length * (12 + 1)<=17 * (12 + 1):=Nat.mul_le_mul_right _ this
 change (gj ws).length<=ws.length * (12 + 1) at h1
 omega
theorem EY {wss:List (List Str)} (h:∀ ws ∈ wss,RowW ws) (n9:wss.length<=9):JoinOk ⟨#[10]⟩ (wss.map gj)=true:=qO (m:=221) (fun z hz=>by
 obtain ⟨ws,hw,rfl⟩:=bf.mp hz;exact zQ (h ws hw)) (by
 rw [aq];have:wss.length * (221 + 1)<=9 * (221 + 1):=Nat.mul_le_mul_right _ n9
 show wss.length * (221 + 1)<=_
 omega)
section
variable {P:cg} {w:World} {K:Fg} {mg:Str->Option aA} {base:Heap} {a:gU} {dV:aA}
theorem yu {H0:Hp} {as:List aB} {ps:List bJ} (h:iR a H0 as ps):Paired (fun v (p:bJ)=>∃ b,v=V.ref b/\eY a H0 b p) (as.map V.ref) ps:=by
 induction h with
 | nil=>exact .nil
 | cons r _ ih=>exact .cons ⟨_,rfl,r⟩ ih
def Ud (a:gU):Sp:=fun vs H Q _=>∃ x g,vs=[.ref x]/\j9 a H x g/\ud g/\∀ H',Same H H'->Q (.str (Ms g.rws)) H'
theorem Hf:bY aeF ["garden"] (aY ou):=dX (by decide +kernel)
theorem aae {f:aB} {fd:d9} (F:nJ K "written" "written" ou f fd) (W:Em K mg a dV):cB P w K mg base (fK P w) 2 f fd ["garden"] (Ud a):=by
 refine F.mX Hf (fun vs H Q E h=>?_) (fun cdv A outer s H vs Q E hr h=>?_)
 ·obtain ⟨x,g,rfl,_⟩:=h;rfl
 ·obtain ⟨x,g,rfl,gx,pK,q⟩:=h;have Z:=W.Z;have T:=Z.G.T;have B:=T.B;obtain ⟨fi,di,iF,mI⟩:=W.aiY;have Z7:cB P w K mg base (fK P w) 1 fi di ["number","bit"] GP:=LC iF.F;have kI:=iF.F.kp;have bI:=iF.b;have ndD:[("day":Str),"garden"].Nodup:=by decide +kernel
  refine ⟨_,aG (lY (i:=1) Hf.nd rfl (Or.inl rfl) bF rfl ⟨_,_,rfl,rfl,rfl⟩ (iY (N':=["day","garden"]) (cl:=[("garden",s.heap.objs.size + 1)]) [none,some 0] aeF (aY ou).names [(".0",.local),("day",.local),("is_set",.globalImplicit),("garden",.cell)] ["garden"] rfl (by decide +kernel) (by decide +kernel) rfl (fun p hp=>by rw [aO.mp hp]; rfl) rfl rfl rfl rfl (by decide +kernel) rfl (by decide +kernel)) (iy rfl B.range (ao (dM (pv 0) rfl) aD)) (fun _ _ _ _ _=>cZ 0 ndD) (fun _ _ _ _ _=>uz (eZ (cG Z7 hr mI kI bI bx (ao (xO K (pv 1)) (ao (pv 0) aD))))) (fun _ _ _ _ _ _=>pv 0)) (aG (bK (i:=2) Hf.nd rfl (Or.inl rfl) (bB lU (fY (ao cj aD)) (gw bF rfl ⟨_,_,rfl,rfl,rfl⟩ (fG.plain (N':=["number"]) rfl (by decide +kernel) (by decide +kernel)) (eE (bB lU (fY (ao (dM (pv 0) rfl) (ao (dM (pv 0) rfl) aD))) (pv 1))) (fun _ _ _ _ _=>cZ 0 (show [("number":Str)].Nodup by decide +kernel)) (fun _ _ _ _ _=>fL) (fun _ _ _ _ _ _=>jj fH B.str boot_str (ao (pv 0) aD))))) (aG (bK (i:=3) Hf.nd rfl (Or.inl rfl) (bB lU (fY (ao (pv 2) aD)) (gw bF rfl ⟨_,_,rfl,rfl,rfl⟩ (fG.plain (N':=["pot"]) rfl (by decide +kernel) (by decide +kernel)) (eE (dM (pv 0) rfl)) (fun _ _ _ _ _=>cZ 0 (show [("pot":Str)].Nodup by decide +kernel)) (fun _ _ _ _ _=>fL) (fun _ _ _ _ _ _=>xR (Cs:=fun C=>C=a.pot\/C=a.cactus) (sp:=qT a) (pv 0) hr W.words bx)))) (aV (cJ (gW PySem.F.plainAttrs_str PySem.F.slot_str_join PySem.F.type_str_join (je K) cj (ao (gw bF rfl ⟨_,_,rfl,rfl,rfl⟩ (fG.plain (N':=["words"]) rfl (by decide +kernel) (by decide +kernel)) (eE (pv 3)) (fun _ _ _ _ _=>cZ 0 (show [("words":Str)].Nodup by decide +kernel)) (fun _ _ _ _ _=>fL) (fun _ _ _ _ _ _=>zq K PySem.F.plainAttrs_str PySem.F.slot_str_join PySem.F.type_str_join (je K) cj (ao (pv 0) aD))) aD)))))),?_⟩;obtain ⟨dx,l,as,hx,hl,pt⟩:=id gx;have la:as.length=g.pots.length:=Paired.length pt;have n8:=pK.n8;have w1:=pK.w1;have w2:=pK.w2;have big:1000<=sizeLine:=by decide
  refine ⟨_,rfl,x,a.garden,dx,_,_,rfl,hx,Z.tG.cl,Z.nG _ (by simp),vU ..,_,rfl,by omega,by omega,fun D hD=>?_⟩;refine vI jd (fun d=>um g.closed (d:Int)) (fun d:Nat=>(d:Int)) rfl (by omega) hD ?_ ?_
  ·intro i H2 lt s2 Qc Qn k kn;refine ⟨gH,?_⟩;refine ⟨_,rfl,x,a.garden,dx,_,_,rfl,s2 _ _ hx,Z.tG.cl,Z.nG _ (by simp),vV ..,_,rfl,_,_,rfl,by omega,_,rfl,?_⟩;cases e:um g.closed (i:Int) with
   | true=>exact dH ⟨_,rfl,k e _ _ (Same.refl _) rfl⟩
   | false=>exact dG (kn e _ (Same.refl _))
  intro H1 s1 r1;obtain ⟨_,vs1,el1,hv1,pv1⟩:=id r1;cases el1;rw [oh pv1] at hv1;have ld:=wu g;have ld':(((List.range g.week.toNat).filter fun d:Nat=>um g.closed (d:Int)).map fun d:Nat=>(d:Int))=(ju g).map fun d:Nat=>(d:Int):=rfl
  rw [ld'] at hv1;have hx1:=s1 _ _ hx;refine ⟨by show 1<=sizeLine; decide,fun c1 hc1=>?_⟩;have t1:=bh (o:=.lst [V.str "garden"]) hc1;have hx2:=t1 _ _ hx1;refine ⟨_,rfl,x,a.garden,dx,_,_,rfl,hx2,Z.tG.cl,Z.nG _ (by simp),zB ..,_,rfl,x,a.garden,dx,_,_,rfl,hx2,Z.tG.cl,Z.nG _ (by simp),vU ..,by show 2<=sizeLine; decide,fun c2 hc2=>?_⟩;have t2:=bh (o:=.lst [V.int g.cans,.int g.week]) hc2;refine ⟨_,rfl,c2,D,_,_,rfl,rfl,aF,(t1.trans t2) _ _ hv1,?_,fun c3 hc3=>?_⟩
  ·simp only [aq,length_cons,length_nil];omega
  have t3:=bh (o:=.lst ([V.int g.cans,.int g.week]++((ju g).map fun d:Nat=>(d:Int)).map V.int)) hc3;have Sw:upd (upd (upd H1 c1 (.lst [V.str "garden"])) c2 (.lst [V.int g.cans,.int g.week])) c3 (.lst ([V.int g.cans,.int g.week]++((ju g).map fun d:Nat=>(d:Int)).map V.int)) c3=some (.lst (g.hns.map V.int)):=aF;have aaf:=(t2.trans t3) _ _ (aF (H:=H1) (a:=c1) (o:=.lst [V.str "garden"]));have s3:Same H (upd (upd (upd H1 c1 (.lst [V.str "garden"])) c2 (.lst [V.int g.cans,.int g.week])) c3 (.lst ([V.int g.cans,.int g.week]++((ju g).map fun d:Nat=>(d:Int)).map V.int))):=s1.trans (t1.trans (t2.trans t3));clear t1 t2 t3 hx2;generalize upd (upd (upd H1 c1 (.lst [V.str "garden"])) c2 (.lst [V.int g.cans,.int g.week])) c3 (.lst ([V.int g.cans,.int g.week]++((ju g).map fun d:Nat=>(d:Int)).map V.int))=H3 at Sw aaf s3 ⊢;refine ⟨c3,rfl,⟨_,cU.of Sw⟩,fun E1 hE1=>?_⟩;have lh:g.hns.length<=16:=by
   unfold iT.hns;simp only [aq,length_cons];omega
  refine vG (K:=K) jd iH cY (xs:=g.hns) ⟨c3,_,rfl,Sw,wg _⟩ (by omega) hE1 ?_ ?_
  ·intro i m v H4 hi rv s4 Qc kk;cases rv;have:=qj pK m (aW hi);exact ⟨gH,_,rfl,_,rfl,jm (by omega) (by omega),kk _ _ (Same.refl _) rfl⟩
  intro H4 s4 r4;obtain ⟨_,vs4,el4,hv4,pv4⟩:=id r4;cases el4;rw [jL pv4] at hv4;refine ⟨c1,E1,_,_,rfl,rfl,s4 _ _ aaf,hv4,?_,fun hd hhd=>?_⟩
  ·simp only [aq,length_cons,length_nil];omega
  have t5:=bh (o:=.lst ([V.str "garden"]++(g.hns.map cY).map V.str)) hhd;have hh5:upd H4 hd (.lst ([V.str "garden"]++(g.hns.map cY).map V.str)) hd=some (.lst (g.hws.map V.str)):=aF;have s5:Same H (upd H4 hd (.lst ([V.str "garden"]++(g.hns.map cY).map V.str))):=s3.trans (s4.trans t5);generalize upd H4 hd (.lst ([V.str "garden"]++(g.hns.map cY).map V.str))=H5 at hh5 s5 ⊢;clear t5 hv4 r4 pv4 s4 hE1 Sw aaf s3;refine ⟨_,rfl,by show 1<=sizeLine; decide,fun b1 hb1=>?_⟩;have t6:=bh (o:=.lst [V.ref hd]) hb1;have s6:=s5.trans t6;have hx6:=s6 _ _ hx;have hl6:=s6 _ _ hl;refine ⟨_,rfl,x,a.garden,dx,_,_,rfl,hx6,Z.tG.cl,Z.nG _ (by simp),rW ..,l,rfl,⟨_,cU.of hl6⟩,fun E2 hE2=>?_⟩;have pt6:=pt.same s6;have rp:gJ (fun _ v (p:bJ)=>∃ b,v=.ref b/\eY a (upd H5 b1 (.lst [V.ref hd])) b p) (upd H5 b1 (.lst [V.ref hd])) (.ref l) g.pots:=⟨l,_,rfl,hl6,yu pt6⟩;obtain ⟨go,stop,yl⟩:=jz (K:=K) (R:=fun _ v (p:bJ)=>∃ b,v=.ref b/\eY a (upd H5 b1 (.lst [V.ref hd])) b p) (fun h _=>h) rp;refine oW (R:=fun _ v (p:bJ)=>∃ b,v=.ref b/\eY a (upd H5 b1 (.lst [V.ref hd])) b p) (S:=pH E2) pH.same pH.upd (xs:=g.pots) (fun _=>true) bJ.ws (fun _=>True) (by omega) hE2 go stop yl ?_ ?_
  ·rintro i p v H7 hi ⟨b,rfl,pb⟩ s7 ⟨acc,hacc⟩ Qc Qn k kn;obtain ⟨db,hb⟩:=pb.same s7;have pok:=pK.rA p (aW hi);refine ⟨fX,?_⟩
   show if true=true then _ else Qn H7
   rw [if_pos rfl];refine ⟨_,rfl,b,p.cls a,db,_,rfl,hb,p.jk,p.RX (by decide +kernel) (by decide +kernel) (by decide +kernel),b,p,rfl,rfl,⟨db,hb⟩,pok,fun H8 m s8 fm hm=>k rfl trivial _ _ s8 ⟨m,rfl,fun z=>?_,hm⟩⟩;rw [z,hacc] at fm;cases fm
  intro H7 s7 _ r7;rw [filter_eq_self.mpr fun _ _=>rfl] at r7;obtain ⟨_,vs7,el7,hv7,pv7⟩:=id r7;cases el7;have l7:vs7.length=g.pots.length:=by rw [Paired.length pv7,aq]
  refine ⟨b1,E2,_,_,rfl,rfl,s7 _ _ aF,hv7,by rw [l7]; show 1 + _<=_; omega,fun rs hrs=>?_⟩;have t8:=bh (o:=.lst ([V.ref hd]++vs7)) hrs;have s8:=(s6.trans s7).trans t8;have hh8:=(t6.trans (s7.trans t8)) _ _ hh5;have aah:upd H7 rs (.lst ([V.ref hd]++vs7)) rs=some (.lst ([V.ref hd]++vs7)):=aF;have pv8:Paired (DK (upd H7 rs (.lst ([V.ref hd]++vs7)))) ([V.ref hd]++vs7) g.rws:=.cons ⟨hd,rfl,hh8⟩ (Paired.jx pv7 fun _ _ z=>(pH.to z).same t8);generalize upd H7 rs (.lst ([V.ref hd]++vs7))=H8 at s8 aah pv8 ⊢;refine ⟨rfl,_,rfl,rs,rfl,⟨_,cU.of aah⟩,fun E3 hE3=>?_⟩;have r8:gJ (fun _ v c=>DK H8 v c) H8 (.ref rs) g.rws:=⟨rs,_,rfl,aah,pv8⟩;obtain ⟨go,stop,yl⟩:=jz (K:=K) (R:=fun _ v c=>DK H8 v c) (fun h _=>h) r8;have l9:g.rws.length<=9:=by
   unfold iT.rws;rw [length_cons,aq];omega
  refine iB (R:=fun _ v c=>DK H8 v c) iH (xs:=g.rws) (fun _=>true) gj (fun _=>True) (by omega) hE3 go stop yl ?_ ?_
  ·rintro i ws v H9 hi ⟨m,rfl,hm⟩ s9 Qc Qn k kn;have qC:=ql pK ws (aW hi);refine ⟨fX,?_⟩
   show if true=true then _ else Qn H9
   rw [if_pos rfl];refine ⟨rfl,_,rfl,_,m,ws,rfl,rfl,cU.of (s9 _ _ hm),?_,k rfl trivial _ _ (Same.refl _) ?_⟩
   ·rw [show (Str.ofString " ":Str)=⟨#[32]⟩ from fZ];exact zP qC
   ·rw [show (Str.ofString " ":Str)=⟨#[32]⟩ from fZ];rfl
  intro H9 s9 _ r9;rw [filter_eq_self.mpr fun _ _=>rfl] at r9;obtain ⟨_,vs9,el9,hv9,pv9⟩:=id r9;cases el9;rw [jL pv9] at hv9;refine ⟨_,E3,g.rws.map gj,rfl,rfl,cU.of hv9,?_,?_⟩
  ·rw [show (Str.ofString "\n":Str)=⟨#[10]⟩ from rY];exact EY (ql pK) l9
  ·rw [show (Str.ofString "\n":Str)=⟨#[10]⟩ from rY];exact q H9 (s8.trans s9)
end
abbrev mO:cV:=top 38
abbrev yw:cV:=top 27
def jM (days:List (List Str)) (wd:Int):List Str:=days.zipIdx.map fun q=>gj (Txt.rjust (cY ((q.2 + 1:Nat):Int)) wd::q.1)
theorem aai {wd:Int} (h0:0<=wd) (h5:wd<=5):PadOk wd=true:=by
 have:wd=0\/wd=1\/wd=2\/wd=3\/wd=4\/wd=5:=by omega
 rcases this with rfl | rfl | rfl | rfl | rfl | rfl <;> decide +kernel
theorem Mt {x:Str} {wd:Int} (h5:wd<=5) (hx:x.length<=5):(Txt.rjust x wd).length<=5:=by
 unfold Txt.rjust
 split
 ·exact hx
 ·show (Array.replicate _ 32++x.cps++Array.replicate 0 32).size<=5
  rw [Array.size_append,Array.size_append,Array.size_replicate,Array.size_replicate];have:x.cps.size=x.length:=rfl;omega
theorem aeG (x:Str) (wd:Int):Txt.rjust x wd=⟨(List.replicate (if wd - x.length > 0 then wd - x.length else 0).toNat 32).toArray⟩++x:=by
 apply DX;rw [nQ];unfold Txt.rjust
 split
 ·rename_i h
  rw [if_neg (by omega)];rfl
 ·rename_i h
  rw [if_pos (by omega)]
  show (Array.replicate (wd.toNat - x.length) 32++x.cps++Array.replicate 0 32).toList=_
  rw [Array.toList_append,Array.toList_append,Array.toList_replicate,Array.toList_replicate,List.replicate_zero,bZ]
  congr 2
  omega
theorem Cp {n:Nat} (h:n < 100):(cY (n:Int)).length<=2:=by
 rw [<- jJ,vO n h];unfold pO
 split <;> simp
section
variable {P:cg} {w:World} {K:Fg} {mg:Str->Option aA} {base:Heap} {a:gU} {dV:aA}
def Mu (days:List (List Str)):Prop:=days.length<=12/\∀ ws ∈ days,ws.length<=3/\∀ z ∈ ws,z.length<=12
theorem Mv {ws:List Str} {x:Str} (h:ws.length<=3/\∀ z ∈ ws,z.length<=12) (hx:x.length<=12):JoinOk ⟨#[32]⟩ (x::ws)=true:=qO (m:=12) (fun z hz=>by
 rcases aQ.mp hz with e | hz
 ·rw [e]; exact hx
 ·exact h.2 z hz) (by
 have:(x::ws).length * (12 + 1)<=4 * (12 + 1):=Nat.mul_le_mul_right _ (by rw [length_cons]; omega)
 show (x::ws).length * (12 + 1)<=_
 omega)
def uN:Sp:=fun vs H Q _=>∃ l wd days,vs=[.ref l,.int wd]/\gJ DK H (.ref l) days/\0<=wd/\wd<=5/\Mu days/\∀ H' m,Same H H'->H' m=some (.lst ((jM days wd).map V.str))->Q (.ref m) H'
theorem Sx:bY ["rows","width"] ["rows","width"] (aY mO):=dX (by decide +kernel)
theorem Mw {f:aB} {fd:d9} {dv:aA} (F:Ei K "sheet" "sheet" mO dv f fd) (B:K4 mg) (en:mg "enumerate"=none):cB P w K mg base (fK P w) 1 f fd ["rows","width"] uN:=by
 refine F.mX Sx (fun vs H Q E h=>?_) (fun cdv A outer s H vs Q E hr h=>?_)
 ·obtain ⟨l,wd,days,rfl,_⟩:=h;rfl
 ·obtain ⟨l,wd,days,rfl,rl,w0,w5,CT,q⟩:=h;have Oc:[("day":Str),"names","width"].Nodup:=by decide +kernel
  refine ⟨_,aV (cJ (gw bF rfl ⟨_,_,rfl,rfl,rfl⟩ (iY (N':=["day","names","width"]) (cl:=[("width",s.heap.objs.size + 1)]) [none,none,some 1] ["rows","width"] (aY mO).names [(".0",.local),("day",.local),("names",.local),("str",.globalImplicit),("list",.globalImplicit),("width",.cell)] ["width"] rfl (by decide +kernel) (by decide +kernel) rfl (fun p hp=>by rw [aO.mp hp]; rfl) rfl rfl rfl rfl (by decide +kernel) rfl (by decide +kernel)) (Bl (by rfl) en (ao (pv 0) aD) aL) (fun _ _ _ _ _=>Bm K (n:=2) rfl (dD (cZ 0 Oc) (dD (cZ 1 Oc) j6))) (fun _ _ _ _ _=>fL) (fun _ _ _ _ _ _=>zq K PySem.F.plainAttrs_str PySem.F.slot_str_join PySem.F.type_str_join (je K) cj (ao (bB lU (fY (ao (zq K PySem.F.plainAttrs_str PySem.F.slot_str_rjust PySem.F.type_str_rjust KQ (jj fH B.str boot_str (ao (pv 0) aD)) (ao (pv 2) aD)) aD)) (jj (wV K) B.list boot_list (ao (pv 1) aD))) aD)))),?_⟩;obtain ⟨_,vs,el,hv,uc⟩:=id rl;cases el;have n12:=CT.1;have big:1000<=sizeLine:=by decide
  have lz:days.zipIdx.length=days.length:=List.length_zipIdx;refine ⟨_,rfl,l,_,1,rfl,rfl,(by decide),cU.of hv,fun D hD=>?_⟩;obtain ⟨go,stop,yl⟩:=Gv (K:=K) (R:=DK) (fun h s=>DK.same h s) (H:=H) (l:=l) (f:=1) (xs:=days) rl;refine iB (R:=fun H2 v (q:List Str × Nat)=>∃ T u,v=.ref T/\H2 T=some (.tup [.int ((q.2 + 1:Nat):Int),u])/\DK H2 u q.1) iH (xs:=days.zipIdx) (fun _=>true) (fun q=>gj (Txt.rjust (cY ((q.2 + 1:Nat):Int)) wd::q.1)) (fun _=>True) (by omega) hD (fun i H' lt s'=>go i H' (by omega) s') (fun H' s'=>by rw [lz]; exact stop H' s') ?_ ?_ ?_
  ·intro i q v H' H2 hq s' hy;rw [List.getElem?_zipIdx] at hq;obtain ⟨z,hz,rfl⟩:=bH.mp hq;obtain ⟨s2,T,u,e1,e2,e3⟩:=yl i z v H' H2 hz s' hy;exact ⟨s2,T,u,e1,by rw [e2,Nat.add_comm 1 i]; simp,e3⟩
  ·rintro i ⟨ws,j⟩ v H2 hq ⟨T,u,rfl,hT,⟨m,rfl,hm⟩⟩ s2 Qc Qn k kn;obtain ⟨jw,ji⟩:ws ∈ days/\j < 12:=by
    rw [List.getElem?_zipIdx] at hq;obtain ⟨z,hz,e⟩:=bH.mp hq;cases e;have:=(aN.mp hz).1;exact ⟨aW hz,by omega⟩
   have dw:=CT.2 ws jw;refine ⟨T,_,rfl,gY.of hT,rfl,_,_,rfl,_,_,rfl,rfl,v9,?_⟩
   show if true=true then _ else Qn H2
   rw [if_pos rfl];refine ⟨rfl,_,rfl,_,rfl,jm (by omega) (by omega),rfl,_,rfl,_,_,rfl,rfl,aai w0 w5,by show 1<=sizeLine; decide,fun c1 hc1=>?_⟩;have t1:=bh (o:=.lst [V.str (Txt.rjust (cY ((j + 1:Nat):Int)) wd)]) hc1;refine ⟨_,rfl,m,_,rfl,.inl (cU.of (t1 _ _ hm)),fun c2 hc2=>?_⟩;have t2:=bh (o:=.lst (ws.map V.str)) hc2;refine ⟨c1,c2,_,_,rfl,rfl,t2 _ _ aF,aF,by rw [aq]; show 1 + ws.length<=sizeLine; omega,fun c3 hc3=>?_⟩;have t3:=bh (o:=.lst ([V.str (Txt.rjust (cY ((j + 1:Nat):Int)) wd)]++ws.map V.str)) hc3;refine ⟨_,c3,Txt.rjust (cY ((j + 1:Nat):Int)) wd::ws,rfl,rfl,cU.of aF,?_,?_⟩
   ·rw [show (Str.ofString " ":Str)=⟨#[32]⟩ from fZ];exact Mv dw (bw (Mt w5 (bw (Cp (by omega)) (by decide))) (by decide))
   ·rw [show (Str.ofString " ":Str)=⟨#[32]⟩ from fZ];exact k rfl trivial _ _ (t1.trans (t2.trans t3)) rfl
  intro H1 s1 _ r1;rw [filter_eq_self.mpr fun _ _=>rfl] at r1;obtain ⟨_,vs1,e1,hv1,p1⟩:=r1;cases e1;rw [jL p1] at hv1;exact q H1 D s1 hv1
noncomputable def Mx (K:Fg) (a:gU):Sp:=fun vs H Q E=>∃ x y g h,vs=[.ref x,.ref y]/\j9 a H x g/\j9 a H y h/\(∀ p ∈ g.pots++h.pots,p.Ok)/\g.pots.length<=8/\h.pots.length<=8/\yp a H (fun x=>Q (.ref x)) E (some (g.pots++h.pots)) (.int (g.cans + h.cans)) (.int g.week) (.int g.closed)
theorem aaj:bY ["one","other"] ["one","other"] (aY yw):=dX (by decide +kernel)
theorem iR.app {H:Hp} {as bs:List aB} {ps qs:List bJ} (h:iR a H as ps) (h':iR a H bs qs):iR a H (as++bs) (ps++qs):=by
 induction h with
 | nil=>exact h'
 | cons r _ ih=>exact .cons r ih
theorem Sy {f:aB} {fd:d9} (F:nJ K "joined" "joined" yw f fd) (Z:Ej K mg a dV):cB P w K mg base (fK P w) 9 f fd ["one","other"] (Mx K a):=by
 refine F.mX aaj (fun vs H Q E h=>?_) (fun cdv A outer s H vs Q E hr h=>?_)
 ·obtain ⟨x,y,g,h,rfl,_⟩:=h;rfl
 ·obtain ⟨x,y,g,h,rfl,⟨dx,l,as,hx,hl,pt⟩,⟨dy,m,bs,hy,hm,pu⟩,rA,g8,h8,post⟩:=h;refine ⟨_,aV (cJ (qK Z.kG (Lw Z) hr Z.Z1 Z.b4 (cC bF) (ao (bB lU (dM (pv 0) rfl) (dM (pv 1) rfl)) (ao (bB dY (dM (pv 0) rfl) (dM (pv 1) rfl)) (ao (dM (pv 0) rfl) (ao (dM (pv 0) rfl) aD)))))),?_⟩;have la:as.length=g.pots.length:=Paired.length pt;have lb:bs.length=h.pots.length:=Paired.length pu;refine ⟨_,rfl,x,a.garden,dx,_,_,rfl,hx,Z.tG.cl,Z.nG _ (by simp),rW ..,_,rfl,y,a.garden,dy,_,_,rfl,hy,Z.tG.cl,Z.nG _ (by simp),rW ..,l,m,_,_,rfl,rfl,hl,hm,(by rw [aq,aq,la,lb]; exact bw (Nat.add_le_add g8 h8) (by decide)),fun D hD=>?_⟩;have sD:=bh (o:=.lst (as.map V.ref++bs.map V.ref)) hD;refine ⟨_,rfl,x,a.garden,dx,_,_,rfl,sD _ _ hx,Z.tG.cl,Z.nG _ (by simp),zB ..,_,rfl,y,a.garden,dy,_,_,rfl,sD _ _ hy,Z.tG.cl,Z.nG _ (by simp),zB ..,_,_,rfl,rfl,?_⟩;refine ⟨_,rfl,x,a.garden,dx,_,_,rfl,sD _ _ hx,Z.tG.cl,Z.nG _ (by simp),vU ..,_,rfl,x,a.garden,dx,_,_,rfl,sD _ _ hx,Z.tG.cl,Z.nG _ (by simp),vV ..,?_⟩;exact Ek (kc:=.int) (kw:=.int) (kl:=.int) (j9.arg (as:=as++bs) (x:=x) (dx:=dx) (by rw [aF,aX]) (by rw [aR]; omega) ((pt.same sD).app (pu.same sD)) rA) ⟨_,rfl⟩ ⟨_,rfl⟩ ⟨_,rfl⟩ (post.from sD)
end
abbrev pP:cV:=top 42
theorem qp {α β:Type} {R:α->β->Prop}:∀ {xs:List α} {ys:List β} {us:List α} {ws:List β},Paired R xs ys->Paired R us ws->Paired R (xs++us) (ys++ws)
 | [],[],_,_,_,q=>q
 | _::_,_::_,_,_,.cons h t,q=>.cons h (qp t q)
structure kj where
 pots:List (Str × Int × Int)
 cans:Int
 week:Int
 closed:Int
abbrev su:Rep (Str × Int × Int):=Ks vC wR wR
theorem eF:Dw su:=Kv iH jd jd
def kE:Rep kj:=fun H v sp=>∃ t l,v=.ref t/\H t=some (.tup [.ref l,.int sp.cans,.int sp.week,.int sp.closed])/\gJ su H (.ref l) sp.pots
theorem kE.same {H H':Hp} {v:V} {sp:kj} (h:kE H v sp) (s:Same H H'):kE H' v sp:=by
 obtain ⟨t,l,e,ht,r⟩:=h;exact ⟨t,l,e,s _ _ ht,r.same eF s⟩
structure qY (q:Str × Int × Int):Prop where
 nm:nameV (.str q.1)=true
 g1:1<=q.2.1
 g2:q.2.1<=60
 r1:-1<=q.2.2
 r2:q.2.2 < q.2.1
def dI (q:Str × Int × Int):bJ:=⟨q.1,q.2.1,if q.2.2 < 0 then none else some q.2.2⟩
def cL (qs:List (Str × Int × Int)):List bJ:=qs.map dI
structure fV (sp:kj):Prop where
 n1:1<=sp.pots.length
 n8:sp.pots.length<=8
 nd:(sp.pots.map fun q=>q.1).Nodup
 row:∀ q ∈ sp.pots,qY q
 c1:0<=sp.cans
 c2:sp.cans<=8
 w1:1<=sp.week
 w2:sp.week<=14
 l1:0<=sp.closed
 l2:sp.closed < 2 ^ sp.week.toNat
 sz:sizeOf sp.week (cL sp.pots)<=20000
def Cq:List Str:=[("ivy":Str),"iv","fern","fernz","a"]
structure yx (sp:kj):Prop where
 nms:∀ q ∈ sp.pots,q.1 ∈ Cq
 n3:sp.pots.length<=3
 c3:sp.cans<=3
 gp:sizeOf 1 (cL sp.pots)<=27
structure Fb (K:Fg) (mg:Str->Option aA):Prop where
 B:K4 mg
 ce:∃ f fd,Fn K "_law_cell_at" "_law_cell_at" GJ ["_law_script","_law_k"] f fd/\mg "_law_cell_at"=some (.ref f)
 dr:∃ f fd,Fn K "_law_draw" "_law_draw" GK ["_law_cell","_law_k","_law_many"] f fd/\mg "_law_draw"=some (.ref f)
theorem size_le {m:Int} (hm:0<=m):∀ (ps:List bJ) (wk:Int),0<=wk->(∀ p ∈ ps,0<=p.gap/\p.gap<=m)->0<=sizeOf wk ps/\sizeOf wk ps<=wk * m ^ ps.length
 | [],wk,h0,_=>by
  show 0<=wk/\wk<=wk * m ^ 0
  rw [Int.pow_zero,Int.mul_one];exact ⟨h0,Int.le_refl _⟩
 | p::ps,wk,h0,h=>by
  obtain ⟨g0,g1⟩:=h p (by simp);have h1:0<=wk * p.gap:=Int.mul_nonneg h0 g0;obtain ⟨i1,i2⟩:=size_le hm ps (wk * p.gap) h1 fun q hq=>h q (by simp [hq])
  refine ⟨i1,Int.le_trans i2 ?_⟩;rw [length_cons,Int.pow_succ,Int.mul_comm (m ^ ps.length) m,<- Int.mul_assoc];have p0:0<=m ^ ps.length:=Int.pow_nonneg hm;exact Int.mul_le_mul_of_nonneg_right (Int.mul_le_mul_of_nonneg_left g1 h0) p0
theorem Mz {m:Int} (hm:1<=m):∀ {i n:Nat},i<=n->m ^ i<=m ^ n
 | i,0,h=>by
  have:i=0:=by omega
  rw [this];exact Int.le_refl _
 | i,n + 1,h=>by
  by_cases e:i=n + 1
  ·rw [e];exact Int.le_refl _
  ·have ih:=Mz hm (i:=i) (n:=n) (by omega);have p0:0<=m ^ n:=Int.pow_nonneg (by omega);rw [Int.pow_succ];have:=Int.mul_le_mul_of_nonneg_left hm p0;omega
theorem lG:∀ (ps:List bJ) (wk:Int),sizeOf wk ps=wk * sizeOf 1 ps
 | [],wk=>(Int.mul_one wk).symm
 | p::ps,wk=>by
  show sizeOf (wk * p.gap) ps=wk * sizeOf (1 * p.gap) ps
  rw [lG ps (wk * p.gap),lG ps (1 * p.gap),Int.one_mul,Int.mul_assoc]
theorem Cr:∀ (ps qs:List bJ) (wk:Int),sizeOf wk (ps++qs)=sizeOf (sizeOf wk ps) qs
 | [],_,_=>rfl
 | p::ps,qs,wk=>Cr ps qs (wk * p.gap)
theorem Hg {qs:List (Str × Int × Int)} {m:Int} {n:Nat} (hm:1<=m) (hl:qs.length<=n) (h:∀ q ∈ qs,qY q/\q.2.1<=m) (hb:m ^ n<=27):0<=sizeOf 1 (cL qs)/\sizeOf 1 (cL qs)<=27:=by
 have h1:=size_le (m:=m) (by omega) (cL qs) 1 (by omega) fun p hp=>by
  obtain ⟨q,hq,rfl⟩:=bf.mp hp;have:=(h q hq).1.g1;exact ⟨by show 0<=q.2.1; omega,(h q hq).2⟩
 rw [cL,aq,Int.one_mul] at h1;have p1:m ^ qs.length<=m ^ n:=Mz (by omega) hl;exact ⟨h1.1,Int.le_trans h1.2 (Int.le_trans p1 hb)⟩
def Jw (j:Int):Str:=([("ivy":Str),"iv","fern","fernz","a"]).getD j.toNat "a"
theorem aeH (z:Int):z % 5=0\/z % 5=1\/z % 5=2\/z % 5=3\/z % 5=4:=by omega
theorem aak (z:Int):Jv [V.str "ivy",.str "iv",.str "fern",.str "fernz",.str "a"] (z % 5)=some (.str (Jw (z % 5)))/\nameV (.str (Jw (z % 5)))=true/\Jw (z % 5) ∈ Cq:=by
 rcases aeH z with e | e | e | e | e <;> rw [e] <;> exact ⟨rfl,by decide +kernel,by decide +kernel⟩
theorem aal (z:Int) {n:Nat} (h:n<=3):((List.range n).map fun k:Nat=>Jw ((z + k) % 5)).Nodup:=by
 have e:(fun k:Nat=>Jw ((z + k) % 5))=fun k:Nat=>Jw ((z % 5 + k) % 5):=by
  funext k
  congr 1
  omega
 rw [e];have hn:n=0\/n=1\/n=2\/n=3:=by omega
 rcases aeH z with e | e | e | e | e <;> rw [e] <;> rcases hn with rfl | rfl | rfl | rfl <;> decide +kernel
theorem SJ (z:Int):∃ c,Jv [V.int 1,.int 2,.int 1,.int 0,.int 3,.int 1] (z % 6)=some (.int c)/\0<=c/\c<=3:=by
 have h:z % 6=0\/z % 6=1\/z % 6=2\/z % 6=3\/z % 6=4\/z % 6=5:=by omega
 rcases h with e | e | e | e | e | e <;> rw [e] <;> exact ⟨_,rfl,by decide,by decide⟩
section
variable {P:cg} {w:World} {K:Fg} {mg:Str->Option aA} {base:Heap} {a:gU} {dV:aA}
abbrev MF:List Str:=["_law_script","_law_first","_law_cell","_law_other","_law_third","_law_count","_law_most","_law_names","_law_pots","_law_k","_law_gap","_law_rest","_law_week","_law_closed"]
def Fd (K:Fg):Sp:=fun vs H Q _=>∃ (s:aB) (ns:List Int) (k:Nat),vs=[.ref s,.int k]/\cU K H s (ns.map V.int)/\∀ H' v sp,Same H H'->kE H' v sp->fV sp->yx sp->Q v H'
theorem fW:bY MF ["_law_script","_law_first"] (aY pP):=dX (by decide +kernel)
theorem aeI (T:Fb K mg) {f:aB} {cdv:aA} {A:cW} {outer:List Env} {s:aM} {H₀:Hp} {E:XK} (hr:eO 1 (A.deeper (PyProof.Rows.envOfC "_law_spec" (aY pP) s.heap.objs.size f cdv))) : ∃ t,z9 (p7 (fK P w) P w K mg base MF "_law_spec" (aY pP) f cdv A outer s H₀ E) ((gk pP).drop 13) t/\∀ (D:Ends) (H:Hp) (l:aB) (qs:List (Str × Int × Int)) (third wk:Int) (s0 s1 s2 s3 s5 s6 s7 s9 wL Aw CV:Option V),gJ su H (.ref l) qs->1<=wk->wk<=14->(∀ H' t c cl,Same H H'->kE H' (.ref t) ⟨qs,c,wk,cl⟩->0<=c->c<=3->0<=cl->cl < 2 ^ wk.toNat->D.rt (.ref t) H') -> t D [s0,s1,s2,s3,some (.int third),s5,s6,s7,some (.ref l),s9,wL,Aw,some (.int wk),CV] H:=by
 refine ⟨_,aG (bK (i:=13) fW.nd rfl (Or.inl rfl) aL) (aG (dU (cN jt (bB fC (bB gK (pv 4) aL) aL) aL (cQ _)) (aV (bK (i:=13) fW.nd rfl (Or.inl rfl) (bB fC (bB gK (pv 4) aL) (bB yL aL (pv 12))))) cA) (aV (cJ (gb (ao (pv 8) (ao (cR dZ (gb (d7 [.int 1,.int 2,.int 1,.int 0,.int 3,.int 1] rfl)) (bB fC (bB gK (pv 4) aL) aL) (fun _ _=>rfl)) (ao (pv 12) (ao (pv 13) aD)))))))),?_⟩;intro D H l qs third wk s0 s1 s2 s3 s5 s6 s7 s9 wL Aw CV rl w1 w2 q;have p0:(0:Int) < 2 ^ wk.toNat:=Int.pow_pos (by decide);refine ⟨_,rfl,_,_,rfl,rfl,⟨by decide,by decide⟩,_,_,rfl,rfl,(by show (0:Int) < 3; decide),rfl,_,rfl,?_⟩;obtain ⟨c,ca,c1,c2⟩:=SJ (third / 5);have fin:∀ cl:Int,0<=cl->cl < 2 ^ wk.toNat->∀ t1:aB,H t1=none->∀ t2:aB,(upd H t1 (.tup [V.int 1,.int 2,.int 1,.int 0,.int 3,.int 1])) t2=none->D.rt (.ref t2) (upd (upd H t1 (.tup [V.int 1,.int 2,.int 1,.int 0,.int 3,.int 1])) t2 (.tup [.ref l,.int c,.int wk,.int cl])):=by
  intro cl h0 h1 t1 h2 t2 h3;have v1:=bh (o:=.tup [V.int 1,.int 2,.int 1,.int 0,.int 3,.int 1]) h2;have v2:=bh (o:=.tup [V.ref l,.int c,.int wk,.int cl]) h3;exact q _ t2 c cl (v1.trans v2) ⟨t2,l,rfl,aF,rl.same eF (v1.trans v2)⟩ c1 c2 h0 h1
 refine yR (fun _=>?_) (fun _=>?_)
 ·refine ⟨_,rfl,_,_,rfl,rfl,⟨by decide,by decide⟩,_,rfl,_,_,rfl,rfl,⟨by omega,by omega,by decide⟩,_,_,rfl,rfl,(by show (0:Int) < 1 * 2 ^ wk.toNat; omega),?_⟩;refine ⟨_,rfl,by show 6<=sizeLine; decide,fun t1 h1=>⟨_,rfl,_,_,rfl,rfl,⟨by decide,by decide⟩,_,_,rfl,rfl,(by show (0:Int) < 6; decide),t1,_,_,_,rfl,rfl,gY.of aF,ca,_,rfl,_,rfl,by show 4<=sizeLine; decide,fun t2 h2=>?_⟩⟩;exact fin _ (Int.emod_nonneg _ (by omega)) (by have:=Int.emod_lt_of_pos (third / 216) (show (0:Int) < 1 * 2 ^ wk.toNat by omega); omega) t1 h1 t2 h2
 ·refine ⟨_,rfl,by show 6<=sizeLine; decide,fun t1 h1=>⟨_,rfl,_,_,rfl,rfl,⟨by decide,by decide⟩,_,_,rfl,rfl,(by show (0:Int) < 6; decide),t1,_,_,_,rfl,rfl,gY.of aF,ca,_,rfl,_,rfl,by show 4<=sizeLine; decide,fun t2 h2=>?_⟩⟩;exact fin 0 (by decide) p0 t1 h1 t2 h2
end
section
variable {P:cg} {w:World} {K:Fg} {mg:Str->Option aA} {base:Heap} {a:gU} {dV:aA}
abbrev MJ:List V:=[V.str "ivy",.str "iv",.str "fern",.str "fernz",.str "a"]
theorem aeJ (T:Fb K mg) {f:aB} {cdv:aA} {A:cW} {outer:List Env} {s:aM} {H₀:Hp} {E:XK} (hr:eO 1 (A.deeper (PyProof.Rows.envOfC "_law_spec" (aY pP) s.heap.objs.size f cdv))) : ∃ t,z9 (p7 (fK P w) P w K mg base MF "_law_spec" (aY pP) f cdv A outer s H₀ E) ((gk pP).drop 7) t/\∀ (D:Ends) (H:Hp) (cell other third cnt most:Int) (s0 s1 s7 s8 s9 wL Aw s12 CV:Option V),1<=cnt->1<=most->((cnt<=3/\most<=3)\/(cnt<=1/\most<=9))->(∀ H' v sp,Same H H'->kE H' v sp->fV sp->yx sp->D.rt v H') -> t D [s0,s1,some (.int cell),some (.int other),some (.int third),some (.int cnt),some (.int most),s7,s8,s9,wL,Aw,s12,CV] H:=by
 have B:=T.B;obtain ⟨fd',dd,dF,mD⟩:=T.dr;have okd:cB P w K mg base (fK P w) 1 fd' dd ["_law_cell","_law_k","_law_many"] zH:=zJ dF.F;have kD:=dF.F.kp;have bD:=dF.b;obtain ⟨tc,hC,Jp⟩:=aeI (P:=P) (w:=w) (base:=base) (f:=f) (cdv:=cdv) (A:=A) (outer:=outer) (s:=s) (H₀:=H₀) (E:=E) T hr;refine ⟨_,aG (bK (i:=7) fW.nd rfl (Or.inl rfl) (gb (d7 MJ rfl))) (aG (bK (i:=8) fW.nd rfl (Or.inl rfl) (fY aD)) (aG (jE gB rfl (iy rfl B.range (ao (pv 5) aD)) (cZ 9 fW.nd) (aG (bK (i:=10) fW.nd rfl (Or.inl rfl) (bB dY aL (cG okd hr mD kD bD bx (ao (pv 3) (ao (pv 9) (ao (pv 6) aD)))))) (aG (bK (i:=11) fW.nd rfl (Or.inl rfl) (Gh yM aL)) (aG (dU (cN jt (cG okd hr mD kD bD bx (ao (pv 3) (ao (bB dY (pv 9) aL) (d7 [.int 4] rfl)))) aL (cQ _)) (aV (bK (i:=11) fW.nd rfl (Or.inl rfl) (cG okd hr mD kD bD bx (ao (pv 3) (ao (bB dY (pv 9) aL) (ao (pv 10) aD)))))) cA) (aV (gZ (gW PySem.F.plainAttrs_list PySem.F.slot_list_append PySem.F.type_list_append gQ (pv 8) (ao (gb (ao (cR dZ (pv 7) (bB fC (bB dY (bB gK (pv 2) aL) (pv 9)) aL) (fun _ _=>rfl)) (ao (pv 10) (ao (pv 11) aD)))) aD)))))))) (aG (bK (i:=12) fW.nd rfl (Or.inl rfl) (bB dY aL (jj HN B.int boot_int (ao (lM jt (bB fC (pv 4) aL) aL (cQ _)) aD)))) (aG (dU (cN jt (bB fC (bB gK (pv 4) aL) aL) aL (cQ _)) (aV (bK (i:=12) fW.nd rfl (Or.inl rfl) (bB dY aL (bB fC (bB gK (pv 4) aL) aL)))) cA) (aG (dU (cN jt (bB fC (bB gK (pv 2) aL) aL) aL (cQ _)) (aV (bK (i:=12) fW.nd rfl (Or.inl rfl) (bB dY aL (bB fC (pv 4) aL)))) cA) hC))))),?_⟩;intro D H cell other third cnt most s0 s1 s7 s8 s9 wL Aw s12 CV c1 m1 hcm q;refine ⟨by show 5<=sizeLine; decide,fun tn htn=>⟨by show 0<=sizeLine; decide,fun l hl=>?_⟩⟩;have v1:=bh (o:=.tup MJ) htn;have v2:=bh (o:=.lst []) hl;refine ⟨_,rfl,_,rfl,by omega,by omega,?_⟩;refine jC (lo:=0) (n:=cnt.toNat) (fun i σ H'=>∃ qs u9 u10 u11,σ=[s0,s1,some (.int cell),some (.int other),some (.int third),some (.int cnt),some (.int most),some (.ref tn),some (.ref l),u9,u10,u11,s12,CV]/\(qs.map fun q=>q.1)=((List.range i).map fun k:Nat=>Jw ((cell / 54 + k) % 5))/\(∀ q ∈ qs,(qY q/\q.1 ∈ Cq)/\q.2.1<=most)/\gJ su H' (.ref l) qs/\Same (upd H tn (.tup MJ)) H') ⟨[],s9,wL,Aw,rfl,rfl,(fun q hq=>by cases hq),⟨l,[],rfl,aF,.nil⟩,v2⟩ ?_ ?_
 ·rintro i σ H1 lt ⟨qs,u9,u10,u11,rfl,nms,rows,rl,s1'⟩;have e0:(0 + (i:Int))=((i:Nat):Int):=Int.zero_add _;rw [e0];have ln:qs.length=i:=by
   have:=congrArg List.length nms
   rwa [aq,aq,length_range] at this
  refine ⟨_,rfl,_,rfl,_,rfl,_,_,_,rfl,by omega,fun H2 s2=>⟨_,_,rfl,rfl,?_⟩⟩;have d0:=ig other (i:Int) (m:=most) (by omega);have d1:=iu other (i:Int) (m:=most) (by omega);generalize m8 other (i:Int) most=dr at d0 d1 ⊢;obtain ⟨na,nn,nq⟩:=aak (cell / 54 + (i:Int));have big:1000<=sizeLine:=by decide
  have fin:∀ (r:Int) (H3:Hp),Same H2 H3->-1<=r->r < 1 + dr->∃ vs,H3 l=some (.lst vs)/\H3 tn=some (.tup MJ)/\vs.length < sizeLine/\∀ t3:aB,H3 t3=none->∃ qs',(qs'.map fun q=>q.1)=((List.range (i + 1)).map fun k:Nat=>Jw ((cell / 54 + k) % 5))/\(∀ q ∈ qs',(qY q/\q.1 ∈ Cq)/\q.2.1<=most)/\gJ su (upd (upd H3 t3 (.tup [V.str (Jw ((cell / 54 + (i:Int)) % 5)),.int (1 + dr),.int r])) l (.lst (vs++[V.ref t3]))) (.ref l) qs'/\Same (upd H tn (.tup MJ)) (upd (upd H3 t3 (.tup [V.str (Jw ((cell / 54 + (i:Int)) % 5)),.int (1 + dr),.int r])) l (.lst (vs++[V.ref t3]))):=by
   intro r H3 s3 r1 r2;obtain ⟨_,vs,el,hv,uc⟩:=rl.same eF (s2.trans s3);cases el;refine ⟨vs,hv,(s1'.trans (s2.trans s3)) _ _ aF,by rw [Paired.length uc,ln]; omega,fun t3 h3=>?_⟩;have v3:=bh (o:=.tup [V.str (Jw ((cell / 54 + (i:Int)) % 5)),.int (1 + dr),.int r]) h3;have T5:=v3 _ _ hv;refine ⟨qs++[(Jw ((cell / 54 + (i:Int)) % 5),1 + dr,r)],?_,fun q hq=>?_,⟨l,_,rfl,aF,?_⟩,iJ ((s1'.trans (s2.trans s3)).trans v3) hl⟩
   ·rw [aX,nms,range_succ,aX]; rfl
   ·rcases bQ.mp hq with h | h
    ·exact rows q h
    ·rw [aO.mp h];exact ⟨⟨⟨nn,by show 1<=1 + dr; omega,by show 1 + dr<=60; omega,r1,r2⟩,nq⟩,by show 1 + dr<=most; omega⟩
   ·refine qp (Paired.jx uc fun _ _ z=>eF.upd (eF.same z v3) T5) (.cons ?_ .nil);exact eF.upd ⟨t3,_,_,_,rfl,aF,rfl,rfl,rfl⟩ T5
  refine ⟨_,rfl,_,rfl,_,rfl,_,_,rfl,rfl,_,_,_,rfl,by decide,fun H3 s3=>⟨rfl,_,rfl,?_⟩⟩;refine yR (fun _=>?_) (fun _=>?_)
  ·refine ⟨_,rfl,_,rfl,_,_,rfl,rfl,_,rfl,_,_,_,rfl,by omega,fun H4 s4=>?_⟩;have e1:=ig other ((i:Int) + 5) (m:=1 + dr) (by omega);have e2:=iu other ((i:Int) + 5) (m:=1 + dr) (by omega);generalize m8 other ((i:Int) + 5) (1 + dr)=r at e1 e2 ⊢;obtain ⟨vs,hv,ht,lz,k⟩:=fin r H4 (s3.trans s4) (by omega) e2;refine ⟨_,rfl,.inl ⟨rfl,_,cU.of hv⟩,_,rfl,_,rfl,_,_,rfl,rfl,⟨by decide,by decide⟩,_,rfl,_,_,rfl,rfl,_,_,rfl,rfl,(by show (0:Int) < 5; decide),tn,_,_,_,rfl,rfl,gY.of ht,na,_,rfl,_,rfl,by show 3<=sizeLine; decide,fun t3 h3=>?_⟩;obtain ⟨qs',a1,a2,a3,a4⟩:=k t3 h3;exact ⟨l,vs,_,rfl,rfl,(bh h3) _ _ hv,lz,qs',_,_,_,rfl,a1,a2,a3,a4⟩
  ·obtain ⟨vs,hv,ht,lz,k⟩:=fin (-1) H3 s3 (by omega) (by omega);refine ⟨_,rfl,.inl ⟨rfl,_,cU.of hv⟩,_,rfl,_,rfl,_,_,rfl,rfl,⟨by decide,by decide⟩,_,rfl,_,_,rfl,rfl,_,_,rfl,rfl,(by show (0:Int) < 5; decide),tn,_,_,_,rfl,rfl,gY.of ht,na,_,rfl,_,rfl,by show 3<=sizeLine; decide,fun t3 h3=>?_⟩;obtain ⟨qs',a1,a2,a3,a4⟩:=k t3 h3;exact ⟨l,vs,_,rfl,rfl,(bh h3) _ _ hv,lz,qs',_,_,_,rfl,a1,a2,a3,a4⟩
 ·rintro σ H1 ⟨qs,u9,u10,u11,rfl,nms,rows,rl,s1'⟩;have ln:qs.length=cnt.toNat:=by
   have:=congrArg List.length nms
   rwa [aq,aq,length_range] at this
  have fin:∀ wk:Int,1<=wk->wk<=14->∀ H' t c cl,Same H1 H'->kE H' (.ref t) ⟨qs,c,wk,cl⟩->0<=c->c<=3->0<=cl->cl < 2 ^ wk.toNat->D.rt (.ref t) H':=by
   intro wk w1 w2 H' t c cl s' r c0 c8 l0 l1;have l3:qs.length<=3:=by omega
   have qC:∀ z ∈ qs,qY z/\z.2.1<=most:=fun z hz=>⟨(rows z hz).1.1,(rows z hz).2⟩
   have sz:0<=sizeOf 1 (cL qs)/\sizeOf 1 (cL qs)<=27:=by
    rcases hcm with ⟨x1,x2⟩ | ⟨x1,x2⟩
    ·exact Hg (m:=3) (n:=3) (by decide) (by omega) (fun z hz=>⟨(qC z hz).1,by have:=(qC z hz).2; omega⟩) (by decide)
    ·exact Hg (m:=9) (n:=1) (by decide) (by omega) (fun z hz=>⟨(qC z hz).1,by have:=(qC z hz).2; omega⟩) (by decide)
   refine q H' _ _ ((v1.trans s1').trans s') r ⟨by show 1<=qs.length; omega,by show qs.length<=8; omega,?_,fun z hz=>(rows z hz).1.1,c0,Int.le_trans c8 (by decide),w1,w2,l0,l1,?_⟩ ⟨fun z hz=>(rows z hz).1.2,l3,c8,sz.2⟩
   ·show (qs.map fun q=>q.1).Nodup
    rw [nms];exact aal _ (by omega)
   ·show sizeOf wk (cL qs)<=20000
    rw [lG];have:=Int.mul_le_mul_of_nonneg_left sz.2 (show 0<=wk by omega);omega
  refine ⟨_,rfl,_,_,rfl,rfl,(by show (0:Int) < 3; decide),rfl,.inr ⟨_,rfl,_,_,rfl,rfl,?_⟩⟩;have b0:∀ b:Bool,1<=1 + (if b then (1:Int) else 0)/\1 + (if b then (1:Int) else 0)<=14:=fun b=>by cases b <;> decide
  have b1:0<=third / 24 % 3:=Int.emod_nonneg _ (by decide);have b2:third / 24 % 3 < 3:=Int.emod_lt_of_pos _ (by decide);have b3:0<=third % 14:=Int.emod_nonneg _ (by decide);have b4:third % 14 < 14:=Int.emod_lt_of_pos _ (by decide);refine ⟨_,rfl,_,_,rfl,rfl,⟨by decide,by decide⟩,_,_,rfl,rfl,(by show (0:Int) < 8; decide),rfl,_,rfl,?_⟩;refine yR (fun _=>⟨_,rfl,_,_,rfl,rfl,⟨by decide,by decide⟩,_,_,rfl,rfl,(by show (0:Int) < 3; decide),_,_,rfl,rfl,_,rfl,_,_,rfl,rfl,⟨by decide,by decide⟩,_,_,rfl,rfl,(by show (0:Int) < 6; decide),rfl,_,rfl,yR (fun _=>⟨_,rfl,_,_,rfl,rfl,(by show (0:Int) < 14; decide),_,_,rfl,rfl,?_⟩) (fun _=>?_)⟩) (fun _=>⟨_,rfl,_,_,rfl,rfl,⟨by decide,by decide⟩,_,_,rfl,rfl,(by show (0:Int) < 6; decide),rfl,_,rfl,yR (fun _=>⟨_,rfl,_,_,rfl,rfl,(by show (0:Int) < 14; decide),_,_,rfl,rfl,?_⟩) (fun _=>?_)⟩)
  ·exact Jp D H1 l qs third _ _ _ _ _ _ _ _ _ _ _ _ rl (by omega) (by omega) (fin _ (by omega) (by omega))
  ·exact Jp D H1 l qs third _ _ _ _ _ _ _ _ _ _ _ _ rl (by omega) (by omega) (fin _ (by omega) (by omega))
  ·exact Jp D H1 l qs third _ _ _ _ _ _ _ _ _ _ _ _ rl (by omega) (by omega) (fin _ (by omega) (by omega))
  ·exact Jp D H1 l qs third _ _ _ _ _ _ _ _ _ _ _ _ rl (b0 _).1 (b0 _).2 (fin _ (b0 _).1 (b0 _).2)
end
abbrev qZ:cV:=top 43
section
variable {P:cg} {w:World} {K:Fg} {mg:Str->Option aA} {base:Heap} {a:gU} {dV:aA}
theorem Hh {f:aB} {fd:d9} (F:nJ K "_law_spec" "_law_spec" pP f fd) (T:Fb K mg):cB P w K mg base (fK P w) 2 f fd ["_law_script","_law_first"] (Fd K):=by
 refine F.mX fW (fun vs H Q E h=>?_) (fun cdv A outer s H vs Q E hr h=>?_)
 ·obtain ⟨s,ns,k,rfl,_⟩:=h;rfl
 ·obtain ⟨sc,ns,k,rfl,hS,q⟩:=h;have B:=T.B;obtain ⟨fc,dc,cF,mC⟩:=T.ce;have sy:cB P w K mg base (fK P w) 1 fc dc ["_law_script","_law_k"] (vX K):=uH cF.F B;have kC:=cF.F.kp;have bC:=cF.b;obtain ⟨tb,hB,Cu⟩:=aeJ (P:=P) (w:=w) (base:=base) (f:=f) (cdv:=cdv) (A:=A) (outer:=outer) (s:=s) (H₀:=H) (E:=E) T hr;refine ⟨_,aG (bK (i:=2) fW.nd rfl (Or.inl rfl) (cG sy hr mC kC bC bx (ao (pv 0) (ao (pv 1) aD)))) (aG (bK (i:=3) fW.nd rfl (Or.inl rfl) (cG sy hr mC kC bC bx (ao (pv 0) (ao (bB dY (pv 1) aL) aD)))) (aG (bK (i:=4) fW.nd rfl (Or.inl rfl) (cG sy hr mC kC bC bx (ao (pv 0) (ao (bB dY (pv 1) aL) aD)))) (aG (bK (i:=5) fW.nd rfl (Or.inl rfl) (bB dY aL (bB fC (pv 2) aL))) (aG (bK (i:=6) fW.nd rfl (Or.inl rfl) aL) (aG (dU (pw_and (cN jt (pv 5) aL (cQ _)) (pw_and1 (cN JM (bB fC (bB gK (pv 2) aL) aL) aL (cQ _)))).pt (aV (bK (i:=6) fW.nd rfl (Or.inl rfl) aL)) cA) (aG (dU (cN jt (bB fC (bB gK (pv 2) aL) aL) aL (cQ _)) (aG (bK (i:=5) fW.nd rfl (Or.inl rfl) aL) (aV (bK (i:=6) fW.nd rfl (Or.inl rfl) aL))) cA) hB)))))),?_⟩;refine ⟨_,rfl,_,rfl,sc,ns,k,rfl,hS,_,rfl,_,rfl,_,_,rfl,rfl,sc,ns,k + 1,rfl,hS,_,rfl,_,rfl,_,_,rfl,rfl,sc,ns,k + 2,rfl,hS,_,rfl,_,_,rfl,rfl,(by show (0:Int) < 3; decide),_,_,rfl,rfl,_,rfl,rfl,_,rfl,?_⟩;generalize ns.getD k 0=cell;generalize ns.getD (k + 1) 0=other;generalize ns.getD (k + 2) 0=third;have c0:0<=cell % 3:=Int.emod_nonneg _ (by decide);have c1:cell % 3 < 3:=Int.emod_lt_of_pos _ (by decide);refine yR (fun _=>⟨_,rfl,_,_,rfl,rfl,⟨by decide,by decide⟩,_,_,rfl,rfl,(by show (0:Int) < 3; decide),_,_,rfl,rfl,_,rfl,yR (fun _=>?_) (fun _=>?_)⟩) (fun _=>dG ?_)
  all_goals refine ⟨_,rfl,_,_,rfl,rfl,⟨by decide,by decide⟩,_,_,rfl,rfl,(by show (0:Int) < 6; decide),rfl,_,rfl,yR (fun _=>?_) (fun _=>?_)⟩
  ·exact Cu _ H cell other third 1 9 _ _ _ _ _ _ _ _ _ (by decide) (by decide) (.inr ⟨by decide,by decide⟩) q
  ·exact Cu _ H cell other third _ 2 _ _ _ _ _ _ _ _ _ (by omega) (by decide) (.inl ⟨by omega,by decide⟩) q
  ·exact Cu _ H cell other third 1 9 _ _ _ _ _ _ _ _ _ (by decide) (by decide) (.inr ⟨by decide,by decide⟩) q
  ·exact Cu _ H cell other third _ 3 _ _ _ _ _ _ _ _ _ (by omega) (by decide) (.inl ⟨by omega,by decide⟩) q
  ·exact Cu _ H cell other third 1 9 _ _ _ _ _ _ _ _ _ (by decide) (by decide) (.inr ⟨by decide,by decide⟩) q
  ·exact Cu _ H cell other third _ 3 _ _ _ _ _ _ _ _ _ (by omega) (by decide) (.inl ⟨by omega,by decide⟩) q
def fP (sp:kj):iT:=⟨cL sp.pots,sp.cans,sp.week,sp.closed⟩
theorem rz {q:Str × Int × Int} (h:qY q):(dI q).Ok:=by
 refine ⟨h.nm,⟨h.g1,by have:=h.g2; show q.2.1<=60; omega⟩,fun r hr=>?_⟩;unfold dI at hr;dsimp only at hr
 split at hr
 ·cases hr
 ·cases hr;exact ⟨by omega,h.r2⟩
theorem fV.rA {sp:kj} (h:fV sp):∀ p ∈ (fP sp).pots,p.Ok:=by
 intro p hp;obtain ⟨q,hq,rfl⟩:=bf.mp hp;exact rz (h.row q hq)
theorem f9 (qs:List (Str × Int × Int)):(cL qs).length=qs.length:=by rw [cL,aq]
theorem fV.out {sp:kj} (h:fV sp):zF (some (cL sp.pots)) (.int sp.cans) (.int sp.week) (.int sp.closed)=.ok:=by
 show vW _ _ _ _=_
 unfold vW;have n1:=h.n1;have n8:=h.n8;have w1:=h.w1;have w2:=h.w2;have c1:=h.c1;have c2:=h.c2;have l1:=h.l1;have l2:=h.l2;have c:tZ (cL sp.pots).length (.int sp.cans) (.int sp.week) (.int sp.closed)=true:=by
  unfold tZ qR dN;rw [f9];simp [n1,n8,w1,w2,c1,c2,l1];omega
 have nd:((cL sp.pots).map bJ.nm).Nodup:=by
  have:(cL sp.pots).map bJ.nm=sp.pots.map fun q=>q.1:=by rw [cL,bT]; rfl
  rw [this];exact h.nd
 rw [if_neg (by rw [c]; decide),if_neg (fun z=>z nd)];have:sizeOf sp.week (cL sp.pots)<=20000:=Int.le_trans h.sz (by decide);exact if_neg (by omega)
abbrev aeK:List Str:=["_law_spec_here","_law_pots","_law_name","_law_gap","_law_rest"]
def Fe (a:gU):Sp:=fun vs H Q _=>∃ v sp,vs=[v]/\kE H v sp/\fV sp/\∀ H' x,Same H H'->j9 a H' x (fP sp)->Q (.ref x) H'
theorem wz:bY aeK ["_law_spec_here"] (aY qZ):=dX (by decide +kernel)
theorem Hi {f:aB} {fd:d9} (F:nJ K "_law_garden" "_law_garden" qZ f fd) (Z:Ej K mg a dV):cB P w K mg base (fK P w) 9 f fd ["_law_spec_here"] (Fe a):=by
 refine F.mX wz (fun vs H Q E h=>?_) (fun cdv A outer s H vs Q E hr h=>?_)
 ·obtain ⟨v,sp,rfl,_⟩:=h;rfl
 ·obtain ⟨v,sp,rfl,⟨t,l,rfl,ht,rl⟩,ok,q⟩:=h;have T:=Z.G.T;have B:=T.B;have hr3:eO 3 _:=hr.mono (by decide);have hr4:eO 4 _:=hr.mono (by decide);refine ⟨_,aG (bK (i:=1) wz.nd rfl (Or.inl rfl) (fY aD)) (aG (jE gB rfl (eE (cR dZ (pv 0) aL (fun _ _=>rfl))) (yJ rfl (dD (cZ 2 wz.nd) (dD (cZ 3 wz.nd) (dD (cZ 4 wz.nd) j6)))) (aV (dU (cN Ac (pv 4) aL (cQ _)) (aV (gZ (gW PySem.F.plainAttrs_list PySem.F.slot_list_append PySem.F.type_list_append gQ (pv 1) (ao (qK T.kP (mq T) hr3 T.Lb T.PI.b (cC bF) (ao (pv 2) (ao (pv 3) aD))) aD)))) (aV (gZ (gW PySem.F.plainAttrs_list PySem.F.slot_list_append PySem.F.type_list_append gQ (pv 1) (ao (qK T.kC (qg T) hr4 T.RV T.CI.b (cC bF) (ao (pv 2) (ao (pv 3) (ao (pv 4) aD)))) aD))))))) (aV (cJ (qK Z.kG (Lw Z) hr Z.Z1 Z.b4 (cC bF) (ao (pv 1) (ao (cR dZ (pv 0) aL (fun _ _=>rfl)) (ao (cR dZ (pv 0) aL (fun _ _=>rfl)) (ao (cR dZ (pv 0) aL (fun _ _=>rfl)) aD)))))))),?_⟩;refine ⟨by show 0<=sizeLine; decide,fun lp hlp=>?_⟩;have vp:=bh (o:=.lst []) hlp;obtain ⟨_,vs,el,hv,uc⟩:=id rl;cases el;have big:1000<=sizeLine:=by decide
  have n8:=ok.n8;refine ⟨_,rfl,t,_,0,.ref l,rfl,rfl,gY.of (vp _ _ ht),rfl,l,rfl,⟨_,cU.of (vp _ _ hv)⟩,?_⟩;refine nH (K:=K) (a:=l) (xs:=vs) (fun i σ H'=>∃ u2 u3 u4 bs,σ=[some (.ref t),some (.ref lp),u2,u3,u4]/\bs.length=i/\H' lp=some (.lst (bs.map V.ref))/\iR a H' bs ((cL sp.pots).take i)/\Same H H') ⟨none,none,none,[],rfl,rfl,aF,.nil,vp⟩ (fun i σ H' _ ⟨_,_,_,_,_,_,_,_,s'⟩=>cU.of (s' _ _ hv)) ?_ ?_
  ·rintro i x σ H2 hi ⟨u2,u3,u4,bs,rfl,lb,hp2,Sd,s2⟩;obtain ⟨c,hc,rc⟩:=eG uc hi;have sy:=ok.row c (aW hc);have li:i < sp.pots.length:=(aN.mp hc).1;have aan:(cL sp.pots)[i]?=some (dI c):=by rw [cL,aU,hc]; rfl
   obtain ⟨tc,y1,y2,y3,rfl,htc,r1,r2,r3⟩:=eF.same rc s2;cases r1; cases r2; cases r3;have lz:(bs.map V.ref).length < sizeLine:=by rw [aq]; omega
   have BW:=rz sy;have g1:=sy.g1;have g2:=sy.g2;have g3:c.2.1<=60:=by omega
   have hnm:=sy.nm;have a1:iD (.str c.1) (.int c.2.1)=true:=by simp [iD,hnm,dN,g1,g3]
   have fin:∀ H3 y,H2 y=none->Same H2 H3->eY a H3 y (dI c)->∃ u2 u3 u4 bs',[some (V.ref t),some (V.ref lp),some (V.str c.1),some (V.int c.2.1),some (V.int c.2.2)]=[some (V.ref t),some (V.ref lp),u2,u3,u4]/\bs'.length=i + 1/\(upd H3 lp (.lst (bs.map V.ref++[V.ref y]))) lp=some (.lst (bs'.map V.ref))/\iR a (upd H3 lp (.lst (bs.map V.ref++[V.ref y]))) bs' ((cL sp.pots).take (i + 1))/\Same H (upd H3 lp (.lst (bs.map V.ref++[V.ref y]))):=by
    intro H3 y hy s3 py;have hp3:=s3 _ _ hp2;refine ⟨_,_,_,bs++[y],rfl,by rw [aR,lb]; rfl,by rw [aF,aX]; rfl,?_,iJ (s2.trans s3) hlp⟩;rw [take_snoc aan];exact Paired.snoc ((Sd.same s3).upd hp3) (eY.upd py hp3)
   refine ⟨tc,_,rfl,gY.of htc,rfl,_,_,rfl,_,_,rfl,_,_,rfl,rfl,?_⟩;refine ⟨_,rfl,_,_,rfl,rfl,_,rfl,?_⟩
   by_cases neg:c.2.2 < 0
   ·rw [aK neg];refine dH ⟨_,rfl,.inl ⟨rfl,_,cU.of hp2⟩,_,rfl,_,rfl,Lq ?_⟩;refine Ec (kn:=.str) (kg:=.int) ⟨_,rfl⟩ (iZ hnm) ⟨_,rfl⟩ (fun e=>absurd e ?_) (fun _ H3 y hy s3 py=>⟨lp,_,_,rfl,rfl,s3 _ _ hp2,lz,fin H3 y hy s3 ?_⟩)
    ·rw [a1]; decide
    ·obtain ⟨dy,hy'⟩:=py;refine ⟨dy,?_⟩;rw [hy'];simp only [bJ.cls,bJ.fs,dI,if_pos neg]
   ·rw [aH neg];refine dG ⟨_,rfl,.inl ⟨rfl,_,cU.of hp2⟩,_,rfl,_,rfl,_,rfl,Lq ?_⟩;refine Ed (kn:=.str) (kg:=.int) (kr:=.int) ⟨_,rfl⟩ (iZ hnm) ⟨_,rfl⟩ ⟨_,rfl⟩ (fun e=>absurd e ?_) (fun _ H3 y hy s3 py=>⟨lp,_,_,rfl,rfl,s3 _ _ hp2,lz,fin H3 y hy s3 ?_⟩)
    ·have r2:=sy.r2;have r0:0<=c.2.2:=by omega
     have r3:c.2.2<=c.2.1 - 1:=by omega
     have a2:restOk (.int c.2.1) (.int c.2.2)=true:=by simp [restOk,dN,r0,r3]
     rw [a1,a2]
     decide
    ·obtain ⟨dy,hy'⟩:=py;refine ⟨dy,?_⟩;rw [hy'];simp only [bJ.cls,bJ.fs,dI,if_neg neg]
  rintro σ H2 ⟨u2,u3,u4,bs,rfl,lb,hp2,Sd,s2⟩;have lv:vs.length=sp.pots.length:=Paired.length uc;rw [lv,<- f9,bV] at Sd;have Mf:=s2 _ _ ht;refine ⟨_,rfl,_,rfl,t,_,1,.int sp.cans,rfl,rfl,gY.of Mf,rfl,_,rfl,t,_,2,.int sp.week,rfl,rfl,gY.of Mf,rfl,_,rfl,t,_,3,.int sp.closed,rfl,rfl,gY.of Mf,rfl,?_⟩;exact Ek (kc:=.int) (kw:=.int) (kl:=.int) (uq.pots (as:=bs) (ps:=cL sp.pots) ⟨lp,_,rfl,.inl hp2⟩ (cU.of hp2) (by omega) Sd ok.rA) ⟨_,rfl⟩ ⟨_,rfl⟩ ⟨_,rfl⟩ (Lx ok.out (fun H4 x hx s4 gn=>q H4 x (s2.trans s4) (by obtain ⟨d4,l4,a4,e1,e2,e3,_⟩:=gn; exact ⟨d4,l4,a4,e1,e2,e3⟩)))
end
abbrev wA:cV:=top 44
abbrev aeL:List Str:=["_law_spec_here","_law_closed","_law_rows","_law_name","_law_gap","_law_rest"]
theorem fV.pK {sp:kj} (h:fV sp):ud (fP sp):=by
 refine ⟨h.rA,?_,?_,h.c1,h.c2,h.w1,h.w2,h.l1,h.l2,h.out⟩
 ·show (cL sp.pots).length<=8
  rw [f9];exact h.n8
 ·show ((sp.pots.map dI).map bJ.nm).Nodup
  rw [bT];exact h.nd
section
variable {P:cg} {w:World} {K:Fg} {mg:Str->Option aA} {base:Heap} {a:gU} {dV:aA}
def Hj:Sp:=fun vs H Q _=>∃ v sp,vs=[v]/\kE H v sp/\fV sp/\∀ H' l,Same H H'->H' l=some (.lst (((fP sp).rws.map gj).map V.str))->Q (.ref l) H'
theorem o9:bY aeL ["_law_spec_here"] (aY wA):=dX (by decide +kernel)
theorem MK {f:aB} {fd:d9} (F:nJ K "_law_plain" "_law_plain" wA f fd) (B:K4 mg):cB P w K mg base (fK P w) 1 f fd ["_law_spec_here"] Hj:=by
 refine F.mX o9 (fun vs H Q E h=>?_) (fun cdv A outer s H vs Q E hr h=>?_)
 ·obtain ⟨v,sp,rfl,_⟩:=h;rfl
 ·obtain ⟨v,sp,rfl,⟨t,l,rfl,ht,rl⟩,ok,q⟩:=h;have nd2:[("_law_day":Str),"_law_spec_here"].Nodup:=by decide +kernel
  refine ⟨_,aG (lY (i:=1) o9.nd rfl (Or.inl rfl) bF rfl ⟨_,_,rfl,rfl,rfl⟩ (iY (N':=["_law_day","_law_spec_here"]) (cl:=[("_law_spec_here",s.heap.objs.size + 1)]) [none,some 0] aeL (aY wA).names [(".0",.local),("_law_day",.local),("str",.globalImplicit),("_law_spec_here",.cell)] ["_law_spec_here"] rfl (by decide +kernel) (by decide +kernel) rfl (fun p hp=>by rw [aO.mp hp]; rfl) rfl rfl rfl rfl (by decide +kernel) rfl (by decide +kernel)) (iy rfl B.range (ao (cR dZ (pv 0) aL (fun _ _=>rfl)) aD)) (fun _ _ _ _ _=>cZ 0 nd2) (fun _ _ _ _ _=>uz (cN jt (bB JK (bB JH (cR (uE K) (pv 1) aL (fun _ _=>rfl)) (pv 0)) aL) aL (cQ _))) (fun _ _ _ _ _ _=>jj fH B.str boot_str (ao (pv 0) aD))) (aG (bK (i:=2) o9.nd rfl (Or.inl rfl) (fY (ao (gW PySem.F.plainAttrs_str PySem.F.slot_str_join PySem.F.type_str_join (je K) cj (ao (bB lU (fY (ao cj (ao (jj fH B.str boot_str (ao (cR dZ (pv 0) aL (fun _ _=>rfl)) aD)) (ao (jj fH B.str boot_str (ao (cR dZ (pv 0) aL (fun _ _=>rfl)) aD)) aD)))) (pv 1)) aD)) aD))) (aG (jE gB rfl (eE (cR dZ (pv 0) aL (fun _ _=>rfl))) (yJ rfl (dD (cZ 3 o9.nd) (dD (cZ 4 o9.nd) (dD (cZ 5 o9.nd) j6)))) (aV (gZ (gW PySem.F.plainAttrs_list PySem.F.slot_list_append PySem.F.type_list_append gQ (pv 2) (ao (gW PySem.F.plainAttrs_str PySem.F.slot_str_join PySem.F.type_str_join (je K) cj (ao (Aa (cN Ac (pv 5) aL (cQ _)) (fY (ao cj (ao (pv 3) (ao (jj fH B.str boot_str (ao (pv 4) aD)) aD)))) (fY (ao cj (ao (pv 3) (ao (jj fH B.str boot_str (ao (pv 4) aD)) (ao (jj fH B.str boot_str (ao (pv 5) aD)) aD)))))) aD)) aD))))) (aV (cJ (pv 2))))),?_⟩;have pK:=ok.pK;have c1:=ok.c1;have c2:=ok.c2;have w1:=ok.w1;have w2:=ok.w2;have n8:=ok.n8;have big:1000<=sizeLine:=by decide
  obtain ⟨_,vs,el,hv,uc⟩:=id rl;cases el;refine ⟨_,rfl,t,_,2,.int sp.week,rfl,rfl,gY.of ht,rfl,_,rfl,by omega,by omega,fun D hD=>?_⟩;refine vI iH (fun d=>um sp.closed (d:Int)) (fun d:Nat=>cY (d:Int)) rfl (by omega) hD ?_ ?_
  ·intro i H2 lt s2 Qc Qn k kn;refine ⟨gH,?_⟩;refine ⟨_,rfl,t,_,3,.int sp.closed,rfl,rfl,gY.of (s2 _ _ ht),rfl,_,rfl,_,_,rfl,rfl,by omega,_,_,rfl,rfl,rfl,_,rfl,?_⟩;rw [aes];have e:um sp.closed (i:Int)=decide (Builtin.bitAnd (sp.closed / 2 ^ ((i:Nat):Int).toNat) 1=1):=rfl;rw [<- e];cases e:um sp.closed (i:Int) with
   | true=>exact dH ⟨_,rfl,_,rfl,jm (by omega) (by omega),k e _ _ (Same.refl _) rfl⟩
   | false=>exact dG (kn e _ (Same.refl _))
  intro H1 s1 r1;obtain ⟨_,vs1,el1,hv1,pv1⟩:=id r1;cases el1;rw [jL pv1] at hv1;have ht1:=s1 _ _ ht;refine ⟨rfl,_,rfl,t,_,1,.int sp.cans,rfl,rfl,gY.of ht1,rfl,_,rfl,jm c1 (by omega),_,rfl,t,_,2,.int sp.week,rfl,rfl,gY.of ht1,rfl,_,rfl,jm (by omega) (by omega),by show 3<=sizeLine; decide,fun c hc=>?_⟩;have t1:=bh (o:=.lst [V.str "garden",.str (cY sp.cans),.str (cY sp.week)]) hc;have ld:=wu (fP sp);have ew:(fP sp).week.toNat=sp.week.toNat:=rfl;refine ⟨_,rfl,c,D,_,_,rfl,rfl,aF,t1 _ _ hv1,?_,fun c2 hc2=>?_⟩
  ·have:=length_filter_le (fun d:Nat=>um sp.closed (d:Int)) (List.range sp.week.toNat);rw [length_range] at this;simp only [aq,length_cons,length_nil];omega
  have eh:([V.str "garden",.str (cY sp.cans),.str (cY sp.week)]++(((List.range sp.week.toNat).filter fun d:Nat=>um sp.closed (d:Int)).map fun d:Nat=>cY (d:Int)).map V.str)=(fP sp).hws.map V.str:=by
   show _=(V.str "garden"::V.str (cY sp.cans)::V.str (cY sp.week)::(((ju (fP sp)).map fun d:Nat=>(d:Int)).map cY).map V.str)
   rw [bT,bT,bT];rfl
  rw [eh];have t2:=bh (o:=.lst ((fP sp).hws.map V.str)) hc2;have aeM:upd (upd H1 c (.lst [V.str "garden",.str (cY sp.cans),.str (cY sp.week)])) c2 (.lst ((fP sp).hws.map V.str)) c2=some (.lst ((fP sp).hws.map V.str)):=aF;have s3:Same H (upd (upd H1 c (.lst [V.str "garden",.str (cY sp.cans),.str (cY sp.week)])) c2 (.lst ((fP sp).hws.map V.str))):=s1.trans (t1.trans t2);generalize upd (upd H1 c (.lst [V.str "garden",.str (cY sp.cans),.str (cY sp.week)])) c2 (.lst ((fP sp).hws.map V.str))=H3 at aeM s3 ⊢;refine ⟨_,c2,(fP sp).hws,rfl,rfl,cU.of aeM,?_,?_⟩
  ·rw [show (Str.ofString " ":Str)=⟨#[32]⟩ from fZ];exact zP (Ew pK)
  rw [show (Str.ofString " ":Str)=⟨#[32]⟩ from fZ];refine ⟨by show 1<=sizeLine; decide,fun lr hlr=>?_⟩;have t3:=bh (o:=.lst [V.str (Txt.join ⟨#[32]⟩ (fP sp).hws)]) hlr;have s4:=s3.trans t3;have ajg:=s3.free hlr;have SM:upd H3 lr (.lst [V.str (Txt.join ⟨#[32]⟩ (fP sp).hws)]) lr=some (.lst [V.str (gj (fP sp).hws)]):=aF;generalize upd H3 lr (.lst [V.str (Txt.join ⟨#[32]⟩ (fP sp).hws)])=H4 at s4 SM ⊢;refine ⟨_,rfl,t,_,0,.ref l,rfl,rfl,gY.of (s4 _ _ ht),rfl,l,rfl,⟨_,cU.of (s4 _ _ hv)⟩,?_⟩;refine nH (K:=K) (a:=l) (xs:=vs) (fun i σ H'=>∃ u3 u4 u5,σ=[some (.ref t),some (.ref D),some (.ref lr),u3,u4,u5]/\H' lr=some (.lst ((((fP sp).hws::((cL sp.pots).take i).map bJ.ws).map gj).map V.str))/\Same H H') ⟨none,none,none,rfl,SM,s4⟩ (fun i σ H' _ ⟨_,_,_,_,_,s'⟩=>cU.of (s' _ _ hv)) ?_ ?_
  ·rintro i x σ H5 hi ⟨u3,u4,u5,rfl,MN,s5⟩;obtain ⟨cc,hcc,rc⟩:=eG uc hi;have sy:=ok.row cc (aW hcc);have BW:=rz sy;have aan:(cL sp.pots)[i]?=some (dI cc):=by rw [cL,aU,hcc]; rfl
   have li:i < sp.pots.length:=(aN.mp hcc).1;obtain ⟨tc,y1,y2,y3,rfl,htc,r1,r2,r3⟩:=eF.same rc s5;cases r1; cases r2; cases r3;have g1:=sy.g1;have g2:=sy.g2;have r1:=sy.r1;have r2:=sy.r2;have fin:∀ H6,Same H5 H6->∃ ys,H6 lr=some (.lst ys)/\ys.length < sizeLine/\∃ u3 u4 u5,[some (V.ref t),some (V.ref D),some (V.ref lr),some (V.str cc.1),some (V.int cc.2.1),some (V.int cc.2.2)]=[some (V.ref t),some (V.ref D),some (V.ref lr),u3,u4,u5]/\(upd H6 lr (.lst (ys++[V.str (gj (dI cc).ws)]))) lr=some (.lst ((((fP sp).hws::((cL sp.pots).take (i + 1)).map bJ.ws).map gj).map V.str))/\Same H (upd H6 lr (.lst (ys++[V.str (gj (dI cc).ws)]))):=by
    intro H6 s6;refine ⟨_,s6 _ _ MN,?_,_,_,_,rfl,?_,iJ (s5.trans s6) ajg⟩
    ·simp only [aq,length_cons,length_take];omega
    ·rw [aF,take_snoc aan];simp only [aX,bO,map_nil,cons_append]
   refine ⟨tc,_,rfl,gY.of htc,rfl,_,_,rfl,_,_,rfl,_,_,rfl,rfl,?_⟩;refine ⟨_,rfl,.inl ⟨rfl,_,cU.of MN⟩,rfl,_,rfl,_,_,rfl,rfl,_,rfl,?_⟩
   by_cases neg:cc.2.2 < 0
   ·rw [aK neg];have ep:(dI cc).ws.map V.str=[V.str "pot",.str cc.1,.str (cY cc.2.1)]:=by
     unfold dI bJ.ws;rw [if_pos neg];rfl
    refine dH ⟨_,rfl,_,rfl,_,rfl,jm (by omega) (by omega),by show 3<=sizeLine; decide,fun c3 hc3=>?_⟩;have t6:=bh (o:=.lst [V.str "pot",.str cc.1,.str (cY cc.2.1)]) hc3;refine ⟨_,c3,(dI cc).ws,rfl,rfl,cU.of (by rw [aF,ep]),?_,?_⟩
    ·exact zP (G7 BW)
    obtain ⟨ys,y1,y2,y3⟩:=fin _ t6;exact ⟨lr,ys,_,rfl,rfl,y1,y2,y3⟩
   ·rw [aH neg];have ep:(dI cc).ws.map V.str=[V.str "cactus",.str cc.1,.str (cY cc.2.1),.str (cY cc.2.2)]:=by
     unfold dI bJ.ws;rw [if_neg neg];rfl
    refine dG ⟨_,rfl,_,rfl,_,rfl,jm (by omega) (by omega),_,rfl,_,rfl,jm (by omega) (by omega),by show 4<=sizeLine; decide,fun c3 hc3=>?_⟩;have t6:=bh (o:=.lst [V.str "cactus",.str cc.1,.str (cY cc.2.1),.str (cY cc.2.2)]) hc3;refine ⟨_,c3,(dI cc).ws,rfl,rfl,cU.of (by rw [aF,ep]),?_,?_⟩
    ·exact zP (G7 BW)
    obtain ⟨ys,y1,y2,y3⟩:=fin _ t6;exact ⟨lr,ys,_,rfl,rfl,y1,y2,y3⟩
  ·rintro σ H5 ⟨u3,u4,u5,rfl,MN,s5⟩;have lv:vs.length=sp.pots.length:=Paired.length uc;rw [lv,<- f9,bV] at MN;exact ⟨_,rfl,q H5 lr s5 MN⟩
end
abbrev zR:cV:=top 45
abbrev ajh:List Str:=["_law_rows","_law_cell","_law_found","_law_k","_law_more","_law_gap","_law_words"]
def zT (x:Str):Prop:=kh ((jo x).map Lo)=false/\10 ∉ Lo x/\x.length<=300
def qt (fs:List Str) (wss:List (List Str)):Prop:=iK fs=wss/\∀ z ∈ fs,10 ∉ Lo z/\z.length<=300
theorem wB (xs ys:List Str):iK (xs++ys)=iK xs++iK ys:=by
 unfold iK;rw [aX,cu]
theorem qt.no {fs:List Str} {wss:List (List Str)} {x:Str} (h:qt fs wss) (hx:zT x):qt (fs++[x]) wss:=by
 refine ⟨?_,fun z hz=>?_⟩
 ·rw [wB,h.1];have:iK [x]=[]:=by
   unfold iK;rw [List.map_singleton,filter_cons,if_neg (by rw [hx.1]; decide)];rfl
  rw [this,bZ]
 ·rcases bQ.mp hz with z | z
  ·exact h.2 _ z
  ·rw [aO.mp z];exact hx.2
theorem SN {ws:List Str} {a g b:Nat} (hg:1<=g) (h:RowW ws) (x:Str) (ex:Lo x=List.replicate a 32++iC (List.replicate g 32) (ws.map Lo)++List.replicate b 32):jo x=ws:=by
 apply qd;rw [Cg,ex];refine Bv hg fun u hu=>?_
 obtain ⟨z,hz,rfl⟩:=bf.mp hu;exact ⟨(h.2.2 z hz).2.1,(h.2.2 z hz).2.2.1⟩
theorem qt.row {fs:List Str} {wss:List (List Str)} {ws:List Str} {x:Str} {a g b:Nat} (h:qt fs wss) (hg:1<=g) (g3:g<=3) (a3:a<=3) (b3:b<=3) (hw:RowW ws) (ex:Lo x=List.replicate a 32++iC (List.replicate g 32) (ws.map Lo)++List.replicate b 32):qt (fs++[x]) (wss++[ws]):=by
 refine ⟨?_,fun z hz=>?_⟩
 ·rw [wB,h.1];have:iK [x]=[ws]:=by
   unfold iK;rw [List.map_singleton,SN hg hw x ex,filter_cons,if_pos hw.1];rfl
  rw [this]
 ·rcases bQ.mp hz with z | z
  ·exact h.2 _ z
  ·rw [aO.mp z];refine ⟨fun m=>?_,?_⟩
   ·rw [ex,bQ,bQ] at m;rcases m with (m | m) | m
    ·have:=List.eq_of_mem_replicate m; omega
    ·rcases yc _ m with m | ⟨u,hu,m⟩
     ·have:=List.eq_of_mem_replicate m; omega
     ·obtain ⟨z,hz,rfl⟩:=bf.mp hu;exact (hw.2.2 z hz).2.2.2 m
    ·have:=List.eq_of_mem_replicate m; omega
   ·rw [<- jJ,ex,aR,aR,length_replicate,length_replicate];have l1:=vP (s:=List.replicate g 32) (m:=12) (ws.map Lo) fun u hu=>by
     obtain ⟨z,hz,rfl⟩:=bf.mp hu;rw [jJ];exact (hw.2.2 z hz).1
    rw [aq,length_replicate] at l1;have l2:=hw.2.1;have l3:ws.length * (12 + g)<=17 * (12 + g):=Nat.mul_le_mul_right _ l2;omega
def MP:List Str:=["","  ","# pot q 1","  #","#q"," ##"]
theorem Hl {x:Str} (h:kh (gh (Lo x))=false) (h1:10 ∉ Lo x) (h2:x.length<=300):zT x:=⟨by rw [Cg]; exact h,h1,h2⟩
theorem SQ {z:Int} (h0:0<=z) (h6:z < 6):∃ x,Jv (MP.map V.str) z=some (.str x)/\zT x:=by
 have h:z=0\/z=1\/z=2\/z=3\/z=4\/z=5:=by omega
 rcases h with rfl | rfl | rfl | rfl | rfl | rfl <;> exact ⟨_,rfl,Hl (by decide +kernel) (by decide +kernel) (by decide +kernel)⟩
theorem Jq:zT "#":=Hl (by decide +kernel) (by decide +kernel) (by decide +kernel)
theorem qt.text {fs:List Str} {wss:List (List Str)} (h:qt fs wss) (ne:fs≠[]) (few:fs.length<=100):zO (Txt.join ⟨#[10]⟩ fs) wss/\JoinOk ⟨#[10]⟩ fs=true:=by
 have sp:Txt.split (Txt.join ⟨#[10]⟩ fs) ⟨#[10]⟩=fs:=mj ne fun z hz=>(h.2 z hz).1
 have l1:fs.length * (300 + 1)<=100 * (300 + 1):=Nat.mul_le_mul_right _ few;refine ⟨⟨?_,?_,?_,?_⟩,qO (m:=300) (fun z hz=>(h.2 z hz).2) (by show fs.length * (300 + 1)<=_; omega)⟩
 ·have:=vQ (s:=⟨#[10]⟩) (m:=300) fun z hz=>(h.2 z hz).2
  change _<=fs.length * (300 + 1) at this
  omega
 ·rw [sp]; omega
 ·rw [sp]; exact fun z hz=>bw (h.2 z hz).2 (by decide)
 ·rw [sp]; exact h.1
section
variable {P:cg} {w:World} {K:Fg} {mg:Str->Option aA} {base:Heap} {a:gU} {dV:aA}
def Ho:Sp:=fun vs H Q _=>∃ l wss c,vs=[.ref l,.int c]/\H l=some (.lst ((wss.map gj).map V.str))/\(∀ ws ∈ wss,RowW ws)/\1<=wss.length/\wss.length<=9/\∀ H' x,Same H H'->zO x wss->Q (.str x) H'
theorem pA:bY ajh ["_law_rows","_law_cell"] (aY zR):=dX (by decide +kernel)
theorem M4 {f:aB} {fd:d9} (F:nJ K "_law_loose" "_law_loose" zR f fd) (T:Fb K mg):cB P w K mg base (fK P w) 2 f fd ["_law_rows","_law_cell"] Ho:=by
 refine F.mX pA (fun vs H Q E h=>?_) (fun cdv A outer s H vs Q E hr h=>?_)
 ·obtain ⟨l,wss,c,rfl,_⟩:=h;rfl
 ·obtain ⟨l,wss,c,rfl,hl,rok,n1,n9,q⟩:=h;have B:=T.B;obtain ⟨fd',dd,dF,mD⟩:=T.dr;have okd:cB P w K mg base (fK P w) 1 fd' dd ["_law_cell","_law_k","_law_many"] zH:=zJ dF.F;have kD:=dF.F.kp;have bD:=dF.b;refine ⟨_,aG (bK (i:=2) pA.nd rfl (Or.inl rfl) (fY aD)) (aG (jE gB rfl (iy rfl B.range (ao (gR eU B.len PySem.boot_len (ao (pv 0) aD)) aD)) (cZ 3 pA.nd) (aG (jE gB rfl (iy rfl B.range (ao (cG okd hr mD kD bD bx (ao (bB dY (pv 1) (pv 3)) (d7 [.int 0,.int 3] rfl))) aD)) (cZ 4 pA.nd) (aV (gZ (gW PySem.F.plainAttrs_list PySem.F.slot_list_append PySem.F.type_list_append gQ (pv 2) (ao (cR dZ (gb (d7 (MP.map V.str) rfl)) (cG okd hr mD kD bD bx (ao (bB dY (bB dY (pv 1) (pv 3)) (pv 4)) (d7 [.int 1,.int 6] rfl))) (fun _ _=>rfl)) aD))))) (aG (bK (i:=5) pA.nd rfl (Or.inl rfl) (bB uD cj (bB dY aL (cG okd hr mD kD bD bx (ao (bB dY (pv 1) (pv 3)) (d7 [.int 2,.int 3] rfl)))))) (aG (bK (i:=6) pA.nd rfl (Or.inl rfl) (gW PySem.F.plainAttrs_str PySem.F.slot_str_join PySem.F.type_str_join (je K) (pv 5) (ao (gW PySem.F.plainAttrs_str PySem.F.slot_str_split PySem.F.type_str_split qL (cR gO (pv 0) (pv 3) (fun _ _=>rfl)) (ao cj aD)) aD))) (aV (gZ (gW PySem.F.plainAttrs_list PySem.F.slot_list_append PySem.F.type_list_append gQ (pv 2) (ao (bB lN (bB lN (bB uD cj (cG okd hr mD kD bD bx (ao (bB dY (pv 1) (pv 3)) (d7 [.int 3,.int 3] rfl)))) (pv 6)) (bB uD cj (cG okd hr mD kD bD bx (ao (bB dY (pv 1) (pv 3)) (d7 [.int 4,.int 2] rfl))))) aD)))))))) (aV (cJ (gW PySem.F.plainAttrs_str PySem.F.slot_str_join PySem.F.type_str_join (je K) cj (ao (bB lU (pv 2) (bB Ze (fY (ao cj aD)) (cG okd hr mD kD bD bx (ao (pv 1) (d7 [.int 5,.int 2] rfl))))) aD))))),?_⟩;have big:100000<=sizeLine:=by decide
  refine ⟨by show 0<=sizeLine; decide,fun lf hlf=>?_⟩;have v1:=bh (o:=.lst []) hlf;have lw:((wss.map gj).map V.str).length=wss.length:=by rw [aq,aq]
  refine ⟨_,rfl,l,_,rfl,.inl (cU.of (v1 _ _ hl)),_,rfl,by omega,by omega,?_⟩;refine jC (lo:=0) (n:=(((wss.map gj).map V.str).length:Int).toNat) (fun i σ H'=>∃ u3 u4 u5 u6 fs,σ=[some (.ref l),some (.int c),some (.ref lf),u3,u4,u5,u6]/\H' lf=some (.lst (fs.map V.str))/\qt fs (wss.take i)/\fs.length<=3 * i/\i<=fs.length/\Same H H') ⟨none,none,none,none,[],rfl,aF,⟨rfl,fun z hz=>nomatch hz⟩,by simp,by simp,v1⟩ ?_ ?_
  ·rintro i σ H1 lt ⟨u3,u4,u5,u6,fs,rfl,hf,fl,f3,fi,s1⟩;have li:i < wss.length:=by rw [lw] at lt; omega
   have e0:(0 + (i:Int))=((i:Nat):Int):=Int.zero_add _;rw [e0];refine ⟨_,rfl,_,rfl,_,_,rfl,rfl,_,_,_,rfl,by decide,fun H2 s2=>⟨_,rfl,?_⟩⟩;have d0:=ig (c + (i:Int)) 0 (m:=3) (by decide);have d1:=iu (c + (i:Int)) 0 (m:=3) (by decide);generalize m8 (c + (i:Int)) 0 3=dm at d0 d1 ⊢;refine ⟨by omega,by omega,?_⟩;have hl1:=s1 _ _ hl;refine jC (lo:=0) (n:=dm.toNat) (fun j σ H'=>∃ u4 fs',σ=[some (.ref l),some (.int c),some (.ref lf),some (.int (i:Nat)),u4,u5,u6]/\H' lf=some (.lst (fs'.map V.str))/\qt fs' (wss.take i)/\fs'.length=fs.length + j/\Same H H') ⟨u4,fs,rfl,s2 _ _ hf,fl,rfl,s1.trans s2⟩ ?_ ?_
   ·rintro j σ H3 lt3 ⟨w4,fs',rfl,hf3,fl3,l3,s3⟩;have e3:(0 + (j:Int))=((j:Nat):Int):=Int.zero_add _;rw [e3];refine ⟨_,rfl,.inl ⟨rfl,_,cU.of hf3⟩,by show 6<=sizeLine; decide,fun t ht=>?_⟩;have t1:=bh (o:=.tup (MP.map V.str)) ht;refine ⟨_,rfl,_,rfl,_,_,rfl,rfl,_,rfl,_,_,rfl,rfl,_,_,_,rfl,by decide,fun H4 s4=>?_⟩;have e1:=ig (c + (i:Int) + (j:Int)) 1 (m:=6) (by decide);have e2:=iu (c + (i:Int) + (j:Int)) 1 (m:=6) (by decide);obtain ⟨x,xa,xo⟩:=SQ e1 e2;have s34:=t1.trans s4;refine ⟨t,_,_,_,rfl,rfl,gY.of (s4 _ _ aF),xa,lf,_,_,rfl,rfl,s34 _ _ hf3,by rw [aq]; omega,?_⟩;exact ⟨_,fs'++[x],rfl,by rw [aF,aX]; rfl,fl3.no xo,by rw [aR,l3]; rfl,iJ (s3.trans s34) hlf⟩
   ·rintro σ H3 ⟨w4,fs',rfl,hf3,fl3,l3,s3⟩;have hl3:=s3 _ _ hl;refine ⟨_,rfl,_,rfl,_,_,rfl,rfl,_,_,_,rfl,by decide,fun H4 s4=>⟨_,_,rfl,rfl,?_⟩⟩;have a0:=ig (c + (i:Int)) 2 (m:=3) (by decide);have a1:=iu (c + (i:Int)) 2 (m:=3) (by decide);generalize m8 (c + (i:Int)) 2 3=dg at a0 a1 ⊢;refine ⟨32,1 + dg,congrArg V.str fZ,rfl,by omega,by omega,?_⟩;obtain ⟨ws,hws⟩:∃ ws,wss[i]?=some ws:=⟨wss[i],aP li⟩;have qC:=rok ws (aW hws);have wne:ws≠[]:=fun z=>by have:=qC.1; rw [z] at this; cases this
    have hl4:=s4 _ _ hl3;have hat:Jv ((wss.map gj).map V.str) (i:Int)=some (.str (gj ws)):=dW (by rw [aU,aU,hws]; rfl);have rl:=zQ qC;refine ⟨_,rfl,rfl,_,rfl,_,rfl,l,_,_,_,rfl,rfl,cU.of hl4,hat,rfl,_,_,rfl,rfl,rfl,by omega,fun sp hsp=>?_⟩;rw [show (Str.ofString " ":Str)=⟨#[32]⟩ from fZ,show Txt.split (gj ws) ⟨#[32]⟩=ws from mj wne fun z hz=>(qC.2.2 z hz).2.2.1];have t5:=bh (o:=.lst (ws.map V.str)) hsp;have lg:(⟨(List.replicate (1 + dg).toNat 32).toArray⟩:Str).length=(1 + dg).toNat:=by show (List.replicate _ _).toArray.size=_; simp
    have jl:ws.length * (12 + (1 + dg).toNat)<=17 * (12 + (1 + dg).toNat):=Nat.mul_le_mul_right _ qC.2.1;refine ⟨_,sp,ws,rfl,rfl,cU.of aF,qO (m:=12) (fun z hz=>(qC.2.2 z hz).1) (by rw [lg]; omega),?_⟩;have ajk:=vQ (s:=⟨(List.replicate (1 + dg).toNat 32).toArray⟩) (zs:=ws) (m:=12) fun z hz=>(qC.2.2 z hz).1
    rw [lg] at ajk;have s5:=(s3.trans s4).trans t5;have hf5:=(s4.trans t5) _ _ hf3;generalize upd H4 sp (.lst (ws.map V.str))=H5 at s5 hf5 ⊢;refine ⟨_,rfl,.inl ⟨rfl,_,cU.of hf5⟩,_,rfl,_,rfl,_,_,rfl,rfl,_,_,_,rfl,by decide,fun H6 s6=>?_⟩;have b0:=ig (c + (i:Int)) 3 (m:=3) (by decide);have b1:=iu (c + (i:Int)) 3 (m:=3) (by decide);generalize m8 (c + (i:Int)) 3 3=da at b0 b1 ⊢;have la:(⟨(List.replicate da.toNat 32).toArray⟩:Str).length=da.toNat:=by show (List.replicate _ _).toArray.size=_; simp
    refine ⟨32,da,congrArg V.str fZ,rfl,by omega,by omega,_,rfl,_,_,rfl,rfl,by rw [la]; omega,_,rfl,_,rfl,_,_,rfl,rfl,_,_,_,rfl,by decide,fun H7 s7=>?_⟩;have c0:=ig (c + (i:Int)) 4 (m:=2) (by decide);have c1:=iu (c + (i:Int)) 4 (m:=2) (by decide);generalize m8 (c + (i:Int)) 4 2=db at c0 c1 ⊢;have lb:(⟨(List.replicate db.toNat 32).toArray⟩:Str).length=db.toNat:=by show (List.replicate _ _).toArray.size=_; simp
    have lab:((⟨(List.replicate da.toNat 32).toArray⟩:Str)++Txt.join ⟨(List.replicate (1 + dg).toNat 32).toArray⟩ ws).length=da.toNat + (Txt.join ⟨(List.replicate (1 + dg).toNat 32).toArray⟩ ws).length:=by rw [<- jJ,nQ,aR,jJ,jJ,la]
    refine ⟨32,db,congrArg V.str fZ,rfl,by omega,by omega,_,_,rfl,rfl,by rw [lab,lb]; omega,lf,_,_,rfl,rfl,(s6.trans s7) _ _ hf5,by rw [aq]; omega,?_⟩;refine ⟨_,_,_,_,fs'++[(⟨(List.replicate da.toNat 32).toArray⟩++Txt.join ⟨(List.replicate (1 + dg).toNat 32).toArray⟩ ws)++⟨(List.replicate db.toNat 32).toArray⟩],rfl,by rw [aF,aX]; rfl,?_,by rw [aR]; show _ + 1<=_; omega,by rw [aR]; show _<=_ + 1; omega,iJ ((s5.trans s6).trans s7) hlf⟩;rw [take_snoc hws];exact fl3.row (a:=da.toNat) (g:=(1 + dg).toNat) (b:=db.toNat) (by omega) (by omega) (by omega) (by omega) qC (by rw [nQ,nQ,qM])
  ·rintro σ H1 ⟨u3,u4,u5,u6,fs,rfl,hf,fl,f3,fi,s1⟩;have en:(((wss.map gj).map V.str).length:Int).toNat=wss.length:=by rw [lw]; omega
   rw [en] at f3 fi;rw [en,bV] at fl;refine ⟨rfl,_,rfl,by show 1<=sizeLine; decide,fun c1 hc1=>?_⟩;have t1:=bh (o:=.lst [V.str "#"]) hc1;refine ⟨_,rfl,_,_,_,rfl,by decide,fun H2 s2=>?_⟩;have b0:=ig c 5 (m:=2) (by decide);have b1:=iu c 5 (m:=2) (by decide);generalize m8 c 5 2=dt at b0 b1 ⊢;refine ⟨c1,dt,[V.str "#"],rfl,rfl,s2 _ _ aF,by omega,by omega,by show 1 * dt.toNat<=_; omega,fun c2 hc2=>?_⟩;have et:(List.replicate dt.toNat [V.str "#"]).flatten=(List.replicate dt.toNat ("#":Str)).map V.str:=by
    have:dt=0\/dt=1:=by omega
    rcases this with rfl | rfl <;> rfl
   rw [et];have t3:=bh (o:=.lst ((List.replicate dt.toNat ("#":Str)).map V.str)) hc2;have s3:=t1.trans (s2.trans t3);refine ⟨lf,c2,_,_,rfl,rfl,s3 _ _ hf,aF,by rw [aq,aq,length_replicate]; omega,fun c3 hc3=>?_⟩;have t4:=bh (o:=.lst (fs.map V.str++(List.replicate dt.toNat ("#":Str)).map V.str)) hc3;have flt:qt (fs++List.replicate dt.toNat ("#":Str)) wss:=by
    have:dt=0\/dt=1:=by omega
    rcases this with rfl | rfl
    ·show qt (fs++[]) wss
     rw [bZ];exact fl
    ·exact fl.no Jq
   have tx:=flt.text (fun z=>by rw [(List.append_eq_nil_iff.mp z).1] at fi; change wss.length<=0 at fi; omega) (by rw [aR,length_replicate]; omega);rw [show (Str.ofString "\n":Str)=⟨#[10]⟩ from rY];exact ⟨_,c3,fs++List.replicate dt.toNat ("#":Str),rfl,rfl,cU.of (by rw [aF,aX]),tx.2,q _ _ (s1.trans (s3.trans t4)) tx.1⟩
end
abbrev Hq:cV:=top 46
theorem Jr {X:Cx} (K:Fg) (hK:autoParam (X.K=K) zau0):gq X (.builtin "isinstance") (fun xs H Q=>∃ v k C b,xs=[v,.ref C]/\fM K H v k/\kitOne K k.ty (.ref C)=some b/\Q (.bl b) H):=by
 subst hK;exact Bd
structure M5 (K:Fg) (mg:Str->Option aA) (a:gU) (dV:aA):Prop where
 W:Em K mg a dV
 kpc:kitOne K (.ref a.pot) (.ref a.cactus)=some false
 kcc:kitOne K (.ref a.cactus) (.ref a.cactus)=some true
def rowOf (p:bJ):Str × Int × Int:=(p.nm,p.gap,p.rest.getD (-1))
theorem aao {q:Str × Int × Int} (h:-1<=q.2.2):rowOf (dI q)=q:=by
 obtain ⟨n,g,r⟩:=q;unfold rowOf dI
 show (n,g,(if r < 0 then none else some r).getD (-1))=(n,g,r)
 by_cases z:r < 0
 ·have:r=-1:=by have:-1<=r:=h; omega
  rw [if_pos z,this];rfl
 ·rw [if_neg z];rfl
section
variable {P:cg} {w:World} {K:Fg} {mg:Str->Option aA} {base:Heap} {a:gU} {dV:aA}
def Fi (a:gU):Sp:=fun vs H Q _=>∃ x v sp,vs=[.ref x,v]/\j9 a H x (fP sp)/\kE H v sp/\(∀ q ∈ sp.pots,-1<=q.2.2)/\sp.pots.length<=16/\∀ H',Same H H'->Q (.bl true) H'
theorem aap:bY ["_law_garden_here","_law_spec_here"] ["_law_garden_here","_law_spec_here"] (aY Hq):=dX (by decide +kernel)
theorem Hr {f:aB} {fd:d9} (F:nJ K "_law_same" "_law_same" Hq f fd) (S:M5 K mg a dV):cB P w K mg base (fK P w) 1 f fd ["_law_garden_here","_law_spec_here"] (Fi a):=by
 refine F.mX aap (fun vs H Q E h=>?_) (fun cdv A outer s H vs Q E hr h=>?_)
 ·obtain ⟨x,v,sp,rfl,_⟩:=h;rfl
 ·obtain ⟨x,v,sp,rfl,⟨dx,l,as,hx,hl,pt⟩,⟨t,m,rfl,ht,rm⟩,r1,n16,q⟩:=h;have Z:=S.W.Z;have T:=Z.G.T;have B:=T.B;refine ⟨_,aG (dU (cN (yZ hr.units) (gw bF rfl ⟨_,_,rfl,rfl,rfl⟩ (fG.plain (N':=["_law_pot"]) rfl (by decide +kernel) (by decide +kernel)) (eE (dM (pv 0) rfl)) (fun _ _ _ _ _=>cZ 0 (show [("_law_pot":Str)].Nodup by decide +kernel)) (fun _ _ _ _ _=>fL) (fun _ _ _ _ _ _=>gb (ao (xO K (pv 0)) (ao (xO K (pv 0)) (ao (Aa (eZ (gR (Jr K) B.isinstance boot_isinstance (ao (pv 0) (ao (vA (.ref a.cactus) T.RV rfl) aD)))) (xO K (pv 0)) (Gh yM aL)) aD))))) (cR dZ (pv 1) aL (fun _ _=>rfl)) (cQ _)) (aV (cJ j4)) cA) (aV (cJ (lM (Zo hr.units) (gb (ao (dM (pv 0) rfl) (ao (dM (pv 0) rfl) (ao (dM (pv 0) rfl) aD)))) (jG Za (pv 1) (lR aL) lQ) (cQ _)))),?_⟩;have la:as.length=sp.pots.length:=(Paired.length pt).trans (f9 _);have big:1000<=sizeLine:=by decide
  refine ⟨_,rfl,x,a.garden,dx,_,_,rfl,hx,Z.tG.cl,Z.nG _ (by simp),rW ..,l,rfl,⟨_,cU.of hl⟩,fun D hD=>?_⟩;have rp:gJ (fun _ v (p:bJ)=>∃ b,v=.ref b/\eY a H b p) H (.ref l) (cL sp.pots):=⟨l,_,rfl,hl,yu pt⟩;obtain ⟨go,stop,yl⟩:=jz (K:=K) (R:=fun _ v (p:bJ)=>∃ b,v=.ref b/\eY a H b p) (fun h _=>h) rp;refine iB (R:=fun _ v (p:bJ)=>∃ b,v=.ref b/\eY a H b p) eF (xs:=cL sp.pots) (fun _=>true) rowOf (fun _=>True) (by rw [f9]; omega) hD go stop yl ?_ ?_
  ·rintro i p v H2 hi ⟨b,rfl,pb⟩ s2 Qc Qn k kn;obtain ⟨db,hb⟩:=pb.same s2;have cT:=T.cls p.jk;refine ⟨fX,?_⟩
   show if true=true then _ else Qn H2
   rw [if_pos rfl];refine ⟨_,rfl,b,p.cls a,db,_,_,rfl,hb,cT.1.cl,cT.2 _ (by simp),p.nW,_,rfl,b,p.cls a,db,_,_,rfl,hb,cT.1.cl,cT.2 _ (by simp),p.BP,_,rfl,?_⟩;have fin:∀ r,r=p.rest.getD (-1)->3<=sizeLine/\∀ c,H2 c=none->Qc (.ref c) (upd H2 c (.tup [.str p.nm,.int p.gap,.int r])):=fun r er=>⟨by decide,fun c hc=>k rfl trivial _ _ (bh hc) ⟨c,_,_,_,rfl,aF,rfl,rfl,by rw [er]; rfl⟩⟩
   cases e:p.rest with
   | none =>
    have ec:p.cls a=a.pot:=by unfold bJ.cls; rw [e]
    rw [ec] at hb cT;refine ⟨_,.ins a.pot,a.cactus,false,rfl,⟨b,db,_,rfl,hb,cT.1⟩,S.kpc,_,rfl,dG ⟨_,rfl,?_⟩⟩;exact fin (-1) (by rw [e]; rfl)
   | some r =>
    have ec:p.cls a=a.cactus:=by unfold bJ.cls; rw [e]
    have lr:p.fs.lookup ("rest":Str)=some (.int r):=by simp only [bJ.fs,e]; exact uG _ _ _
    rw [ec] at hb cT;refine ⟨_,.ins a.cactus,a.cactus,true,rfl,⟨b,db,_,rfl,hb,cT.1⟩,S.kcc,_,rfl,dH ⟨_,rfl,b,a.cactus,db,_,_,rfl,hb,cT.1.cl,cT.2 _ (by simp),lr,?_⟩⟩;exact fin r (by rw [e]; rfl)
  intro H1 s1 _ rl;rw [filter_eq_self.mpr fun _ _=>rfl] at rl;have er:(cL sp.pots).map rowOf=sp.pots:=by
   unfold cL;rw [bT];refine (map_congr_left fun q hq=>?_).trans (map_id _);exact aao (r1 q hq)
  rw [er] at rl;have ht1:=s1 _ _ ht;refine ⟨_,rfl,t,_,0,.ref m,rfl,rfl,gY.of ht1,rfl,?_⟩;refine zf (n:=1) (Ro eq_str eq_int eq_int) (by decide) rl (rm.same eF s1) ⟨_,rfl,?_⟩;rw [aK rfl];refine dG ?_;have hx1:=s1 _ _ hx;refine ⟨_,rfl,x,a.garden,dx,_,_,rfl,hx1,Z.tG.cl,Z.nG _ (by simp),zB ..,_,rfl,x,a.garden,dx,_,_,rfl,hx1,Z.tG.cl,Z.nG _ (by simp),vU ..,_,rfl,x,a.garden,dx,_,_,rfl,hx1,Z.tG.cl,Z.nG _ (by simp),vV ..,by show 3<=sizeLine; decide,fun c hc=>?_⟩;have t2:=bh (o:=.tup [V.int (fP sp).cans,.int (fP sp).week,.int (fP sp).closed]) hc;refine ⟨_,rfl,1,rfl,t,_,rfl,gY.of (t2 _ _ ht1),(fun z=>absurd z.1 (by show ¬ HT.iW 4 0 (some 1)=0; decide)),fun c2 hc2=>?_⟩;have t3:=bh (o:=.tup (m9 [V.ref m,.int sp.cans,.int sp.week,.int sp.closed] (some 1) none)) hc2;have e3:m9 [V.ref m,.int sp.cans,.int sp.week,.int sp.closed] (some 1) none=[.int sp.cans,.int sp.week,.int sp.closed]:=n6 1;rw [e3] at t3 ⊢;refine ⟨c,c2,_,_,0,fun _=>true,rfl,rfl,gY.of (t3 _ _ aF),gY.of aF,by decide,fun j y z hy hz=>?_,?_⟩
  ·have:y=z:=bU (hy.symm.trans hz);subst this;refine Ly ?_;rcases j with _ | _ | _ | j
   ·cases hy; rfl
   ·cases hy; rfl
   ·cases hy; rfl
   ·cases hy
  ·exact q _ (s1.trans (t2.trans t3))
end
abbrev uO:cV:=top 47
abbrev zU:cV:=top 48
abbrev ajm:List Str:=["_law_rows","_law_width","_law_found","_law_k","_law_text"]
abbrev ajn:List Str:=["_law_script","_law_cell","_law_gap","_law_pots","_law_week"]
section
variable {P:cg} {w:World} {K:Fg} {mg:Str->Option aA} {base:Heap} {a:gU} {dV:aA}
theorem Fj {days:List (List Str)} {wd:Int} {i:Nat} {ws:List Str} (h:days[i]?=some ws):(jM days wd).take (i + 1)=(jM days wd).take i++[gj (Txt.rjust (cY ((i + 1:Nat):Int)) wd::ws)]:=by
 apply take_snoc;unfold jM;rw [aU,List.getElem?_zipIdx,h];simp
theorem oA:bY ajm ["_law_rows","_law_width"] (aY uO):=dX (by decide +kernel)
theorem Js {f:aB} {fd:d9} (F:nJ K "_law_sheet" "_law_sheet" uO f fd) (B:K4 mg) (mx:mg "max"=none):cB P w K mg base (fK P w) 1 f fd ["_law_rows","_law_width"] uN:=by
 refine F.mX oA (fun vs H Q E h=>?_) (fun cdv A outer s H vs Q E hr h=>?_)
 ·obtain ⟨l,wd,days,rfl,_⟩:=h;rfl
 ·obtain ⟨l,wd,days,rfl,rl,w0,w5,CT,q⟩:=h;refine ⟨_,aG (bK (i:=2) oA.nd rfl (Or.inl rfl) (fY aD)) (aG (jE gB rfl (iy rfl B.range (ao (gR eU B.len PySem.boot_len (ao (pv 0) aD)) aD)) (cZ 3 oA.nd) (aG (bK (i:=4) oA.nd rfl (Or.inl rfl) (jj fH B.str boot_str (ao (bB dY (pv 3) aL) aD))) (aG (bK (i:=4) oA.nd rfl (Or.inl rfl) (bB lN (bB uD cj (gR (HJ rfl) mx boot_max (ao aL (ao (bB Dd (pv 1) (gR jy B.len PySem.boot_len (ao (pv 4) aD))) aD)))) (pv 4))) (aV (gZ (gW PySem.F.plainAttrs_list PySem.F.slot_list_append PySem.F.type_list_append gQ (pv 2) (ao (gW PySem.F.plainAttrs_str PySem.F.slot_str_join PySem.F.type_str_join (je K) cj (ao (bB lU (fY (ao (pv 4) aD)) (cR gO (pv 0) (pv 3) (fun _ _=>rfl))) aD)) aD))))))) (aV (cJ (pv 2)))),?_⟩;obtain ⟨_,vs,el,hv,uc⟩:=id rl;cases el;have lv:vs.length=days.length:=Paired.length uc;have n12:=CT.1;have big:1000<=sizeLine:=by decide
  refine ⟨by show 0<=sizeLine; decide,fun lf hlf=>?_⟩;have v1:=bh (o:=.lst []) hlf;refine ⟨_,rfl,l,_,rfl,.inl (cU.of (v1 _ _ hv)),_,rfl,by omega,by omega,?_⟩;refine jC (lo:=0) (n:=((vs.length:Nat):Int).toNat) (fun i σ H'=>∃ u3 u4,σ=[some (.ref l),some (.int wd),some (.ref lf),u3,u4]/\H' lf=some (.lst (((jM days wd).take i).map V.str))/\Same H H') ⟨none,none,rfl,aF,v1⟩ ?_ ?_
  ·rintro i σ H1 lt ⟨u3,u4,rfl,hf,s1⟩;have li:i < days.length:=by omega
   have e0:(0 + (i:Int))=((i:Nat):Int):=Int.zero_add _;rw [e0];obtain ⟨u,hu,⟨m,rfl,hm⟩⟩:=iz uc (aP li);have dw:=CT.2 days[i] (List.getElem_mem li);have hm1:=s1 _ _ hm;have hv1:=s1 _ _ hv;have sl:=Cp (n:=i + 1) (by omega);have ec:((i:Nat):Int) + 1=((i + 1:Nat):Int):=by omega
   refine ⟨_,rfl,_,_,rfl,rfl,_,rfl,jm (by omega) (by omega),?_⟩;rw [ec];have rj:=aeG (cY ((i + 1:Nat):Int)) wd;refine ⟨_,rfl,_,rfl,_,rfl,by omega,_,_,rfl,rfl,_,_,rfl,32,_,congrArg V.str fZ,rfl,?_,?_,_,rfl,_,_,rfl,rfl,?_,?_⟩
   ·split <;> omega
   ·split <;> omega
   ·have:(⟨(List.replicate (if wd - ((cY ((i + 1:Nat):Int)).length:Int) > 0 then wd - ((cY ((i + 1:Nat):Int)).length:Int) else 0).toNat 32).toArray⟩:Str).length=(if wd - ((cY ((i + 1:Nat):Int)).length:Int) > 0 then wd - ((cY ((i + 1:Nat):Int)).length:Int) else 0).toNat:=by show (List.replicate _ _).toArray.size=_; simp
    rw [this]
    split <;> omega
   rw [<- rj];have rl5:=Mt (x:=cY ((i + 1:Nat):Int)) w5 (by omega);have tk:=Fj (wd:=wd) (aP li);generalize Txt.rjust (cY ((i + 1:Nat):Int)) wd=rx at rl5 tk ⊢;have lt1:(((jM days wd).take i).map V.str).length < sizeLine:=by
    rw [aq,length_take];omega
   refine ⟨_,rfl,.inl ⟨rfl,_,cU.of hf⟩,rfl,_,rfl,by show 1<=sizeLine; decide,fun c1 hc1=>?_⟩;have t1:=bh (o:=.lst [V.str rx]) hc1;refine ⟨_,rfl,_,rfl,l,_,_,_,rfl,rfl,cU.of (t1 _ _ hv1),dW hu,c1,m,_,_,rfl,rfl,aF,t1 _ _ hm1,by rw [aq]; show 1 + _<=_; omega,fun c2 hc2=>?_⟩;have t2:=bh (o:=.lst ([V.str rx]++days[i].map V.str)) hc2;refine ⟨_,c2,rx::days[i],rfl,rfl,cU.of aF,?_,lf,_,_,rfl,rfl,(t1.trans t2) _ _ hf,lt1,_,_,rfl,?_,iJ (s1.trans (t1.trans t2)) hlf⟩
   ·rw [show (Str.ofString " ":Str)=⟨#[32]⟩ from fZ];exact Mv dw (by omega)
   ·rw [aF,tk,aX,show (Str.ofString " ":Str)=⟨#[32]⟩ from fZ];rfl
  ·rintro σ H1 ⟨u3,u4,rfl,hf,s1⟩;rw [cD,lv,take_of_length_le (by unfold jM; rw [aq,List.length_zipIdx]; exact aJ _)] at hf;exact ⟨_,rfl,q H1 lf s1 hf⟩
def Hs (K:Fg):Sp:=fun vs H Q _=>∃ (s:aB) (ns:List Int),vs=[.ref s]/\cU K H s (ns.map V.int)/\∀ H' v sp,Same H H'->kE H' v sp->fV sp->Q v H'
theorem pB:bY ajn ["_law_script"] (aY zU):=dX (by decide +kernel)
theorem M6 {f:aB} {fd:d9} (F:nJ K "_law_great" "_law_great" zU f fd) (T:Fb K mg):cB P w K mg base (fK P w) 2 f fd ["_law_script"] (Hs K):=by
 refine F.mX pB (fun vs H Q E h=>?_) (fun cdv A outer s H vs Q E hr h=>?_)
 ·obtain ⟨s,ns,rfl,_⟩:=h;rfl
 ·obtain ⟨sc,ns,rfl,hS,q⟩:=h;have B:=T.B;obtain ⟨fc,dc,cF,mC⟩:=T.ce;have sy:cB P w K mg base (fK P w) 1 fc dc ["_law_script","_law_k"] (vX K):=uH cF.F B;have kC:=cF.F.kp;have bC:=cF.b;obtain ⟨fd',dd,dF,mD⟩:=T.dr;have okd:cB P w K mg base (fK P w) 1 fd' dd ["_law_cell","_law_k","_law_many"] zH:=zJ dF.F;have kD:=dF.F.kp;have bD:=dF.b;refine ⟨_,aG (bK (i:=1) pB.nd rfl (Or.inl rfl) (cG sy hr mC kC bC bx (ao (pv 0) (d7 [.int 6] rfl)))) (aG (bK (i:=2) pB.nd rfl (Or.inl rfl) (bB dY aL (bB fC (pv 1) aL))) (aG (bK (i:=3) pB.nd rfl (Or.inl rfl) (fY (ao (gb (ao cj (ao (pv 2) (ao (Gh yM aL) aD)))) (ao (gb (ao cj (ao (bB dY aL (bB fC (bB gK (pv 1) aL) aL)) (ao (bB fC (bB gK (pv 1) aL) aL) aD)))) aD)))) (aG (dU (cN jt (bB fC (bB gK (pv 1) aL) aL) aL (cQ _)) (aV (bK (i:=3) pB.nd rfl (Or.inl rfl) (fY (ao (gb (ao cj (ao (pv 2) (ao (cG okd hr mD kD bD bx (ao (pv 1) (ao aL (ao (pv 2) aD)))) aD)))) aD)))) cA) (aG (bK (i:=4) pB.nd rfl (Or.inl rfl) (bB dY aL (cG okd hr mD kD bD bx (ao (pv 1) (d7 [.int 2,.int 14] rfl))))) (aV (cJ (gb (ao (pv 3) (ao (cG okd hr mD kD bD bx (ao (pv 1) (d7 [.int 3,.int 9] rfl))) (ao (pv 4) (ao (cG okd hr mD kD bD bx (ao (pv 1) (ao aL (ao (bB yL aL (pv 4)) aD)))) aD))))))))))),?_⟩;refine ⟨_,rfl,sc,ns,6,rfl,hS,_,rfl,_,_,rfl,rfl,(by show (0:Int) < 60; decide),_,_,rfl,rfl,?_⟩;generalize ns.getD 6 0=cell;have g0:0<=cell % 60:=Int.emod_nonneg _ (by decide);have g1:cell % 60 < 60:=Int.emod_lt_of_pos _ (by decide);have h0:0<=cell / 60 % 20:=Int.emod_nonneg _ (by decide);have h1:cell / 60 % 20 < 20:=Int.emod_lt_of_pos _ (by decide);generalize cell % 60=g at g0 g1 ⊢;refine ⟨_,rfl,_,rfl,by show 3<=sizeLine; decide,fun t1 ht1=>?_⟩;have v1:=bh (o:=.tup [V.str "ivy",.int (1 + g),.int (-1)]) ht1;refine ⟨_,rfl,_,_,rfl,rfl,⟨by decide,by decide⟩,_,_,rfl,rfl,(by show (0:Int) < 20; decide),_,_,rfl,rfl,_,rfl,_,_,rfl,rfl,⟨by decide,by decide⟩,_,_,rfl,rfl,(by show (0:Int) < 20; decide),by show 3<=sizeLine; decide,fun t2 Mf=>?_⟩;have v2:=bh (o:=.tup [V.str "fern",.int (1 + cell / 60 % 20),.int (cell / 60 % 20)]) Mf;refine ⟨by show 2<=sizeLine; decide,fun l hl=>?_⟩;have v3:=bh (o:=.lst [V.ref t1,.ref t2]) hl;have rl:gJ su (upd (upd (upd H t1 (.tup [V.str "ivy",.int (1 + g),.int (-1)])) t2 (.tup [V.str "fern",.int (1 + cell / 60 % 20),.int (cell / 60 % 20)])) l (.lst [V.ref t1,.ref t2])) (.ref l) [("ivy",1 + g,-1),("fern",1 + cell / 60 % 20,cell / 60 % 20)] :=
   ⟨l,_,rfl,aF,.cons ⟨t1,_,_,_,rfl,(v2.trans v3) _ _ aF,rfl,rfl,rfl⟩ (.cons ⟨t2,_,_,_,rfl,v3 _ _ aF,rfl,rfl,rfl⟩ .nil)⟩
  have s3:=v1.trans (v2.trans v3);generalize upd (upd (upd H t1 (.tup [V.str "ivy",.int (1 + g),.int (-1)])) t2 (.tup [V.str "fern",.int (1 + cell / 60 % 20),.int (cell / 60 % 20)])) l (.lst [V.ref t1,.ref t2])=H3 at rl s3 ⊢;have nI:nameV (.str "ivy")=true:=by decide +kernel
  have nF:nameV (.str "fern")=true:=by decide +kernel
  have fin:∀ (H4:Hp) (l4:aB) (qs:List (Str × Int × Int)),Same H H4->gJ su H4 (.ref l4) qs->1<=qs.length->qs.length<=8->(qs.map fun q=>q.1).Nodup->(∀ q ∈ qs,qY q)->sizeOf 1 (cL qs)<=1200 ->
    ∀ (H5:Hp) (wk c cl:Int),Same H4 H5->1<=wk->wk<=14->0<=c->c<=8->0<=cl->cl < 2 ^ wk.toNat->4<=sizeLine/\∀ t,H5 t=none->Q (.ref t) (upd H5 t (.tup [.ref l4,.int c,.int wk,.int cl])):=by
   intro H4 l4 qs s4 rl4 q1 q8 nd row sz H5 wk c cl s5 w1 w2 c1 c2 l1 l2;refine ⟨by decide,fun t ht=>?_⟩;have v5:=bh (o:=.tup [V.ref l4,.int c,.int wk,.int cl]) ht;refine q _ _ ⟨qs,c,wk,cl⟩ (s4.trans (s5.trans v5)) ⟨t,l4,rfl,aF,rl4.same eF (s5.trans v5)⟩ ⟨q1,q8,nd,row,c1,c2,w1,w2,l1,l2,?_⟩
   show sizeOf wk (cL qs)<=20000
   rw [lG];have:=Int.mul_le_mul_of_nonneg_left sz (show 0<=wk by omega);omega
  have b0:=ig cell 2 (m:=14) (by decide);have b1:=iu cell 2 (m:=14) (by decide);have c0:=ig cell 3 (m:=9) (by decide);have c1:=iu cell 3 (m:=9) (by decide);have p0:(0:Int) < 1 * 2 ^ (1 + m8 cell 2 14).toNat:=by rw [Int.one_mul]; exact Int.pow_pos (by decide)
  have e0:=ig cell 4 p0;have e1:=Int.lt_of_lt_of_le (iu cell 4 p0) (Int.le_of_eq (Int.one_mul _));refine ⟨_,rfl,_,_,rfl,rfl,⟨by decide,by decide⟩,_,_,rfl,rfl,(by show (0:Int) < 2; decide),rfl,_,rfl,?_⟩;refine yR (fun _=>?_) (fun _=>?_)
  ·refine ⟨_,rfl,_,rfl,_,rfl,_,_,_,rfl,by omega,fun H4 s4=>⟨by show 3<=sizeLine; decide,fun t3 ht3=>⟨by show 1<=sizeLine; decide,fun l4 hl4=>?_⟩⟩⟩;have d0:=ig cell 1 (m:=1 + g) (by omega);have d1:=iu cell 1 (m:=1 + g) (by omega);generalize m8 cell 1 (1 + g)=dr at d0 d1 ht3 hl4 ⊢;have v4:=bh (o:=.tup [V.str "fern",.int (1 + g),.int dr]) ht3;have v5:=bh (o:=.lst [V.ref t3]) hl4;have rl5:gJ su (upd (upd H4 t3 (.tup [V.str "fern",.int (1 + g),.int dr])) l4 (.lst [V.ref t3])) (.ref l4) [("fern",1 + g,dr)]:=⟨l4,_,rfl,aF,.cons ⟨t3,_,_,_,rfl,v5 _ _ aF,rfl,rfl,rfl⟩ .nil⟩;have s5:=s3.trans (s4.trans (v4.trans v5));have f5:=fin _ l4 _ s5 rl5 (by show 1<=1; decide) (by show 1<=8; decide) (by show [("fern":Str)].Nodup; decide +kernel) (fun z hz=>by rw [aO.mp hz]; exact ⟨nF,by show 1<=1 + g; omega,by show 1 + g<=60; omega,by show -1<=dr; omega,d1⟩) (by show 1 * (1 + g)<=1200; omega);refine ⟨_,rfl,_,_,_,rfl,by decide,fun H6 s6=>⟨_,_,rfl,rfl,_,rfl,_,rfl,_,_,_,rfl,by decide,fun H7 s7=>⟨_,rfl,_,rfl,_,rfl,_,_,rfl,rfl,⟨by omega,by omega,by decide⟩,_,_,_,rfl,p0,fun H8 s8=>?_⟩⟩⟩;exact f5 H8 _ _ _ (s6.trans (s7.trans s8)) (by omega) (by omega) c0 (by omega) e0 e1
  ·have f5:=fin _ l _ s3 rl (by show 1<=2; decide) (by show 2<=8; decide) (by show [("ivy":Str),"fern"].Nodup; decide +kernel) (fun z hz=>by
    simp only [aQ,not_mem_nil,or_false] at hz;rcases hz with rfl | rfl
    ·exact ⟨nI,by show 1<=1 + g; omega,by show 1 + g<=60; omega,by show (-1:Int)<=-1; omega,by show -1 < 1 + g; omega⟩
    ·exact ⟨nF,by show 1<=1 + cell / 60 % 20; omega,by show 1 + cell / 60 % 20<=60; omega,by show -1<=cell / 60 % 20; omega,by show cell / 60 % 20 < 1 + cell / 60 % 20; omega⟩) (by
    show 1 * (1 + g) * (1 + cell / 60 % 20)<=1200
    have:(1 + g) * (1 + cell / 60 % 20)<=60 * 20:=Int.mul_le_mul (by omega) (by omega) (by omega) (by decide);rw [Int.one_mul]; exact this)
   refine ⟨_,rfl,_,_,_,rfl,by decide,fun H6 s6=>⟨_,_,rfl,rfl,_,rfl,_,rfl,_,_,_,rfl,by decide,fun H7 s7=>⟨_,rfl,_,rfl,_,rfl,_,_,rfl,rfl,⟨by omega,by omega,by decide⟩,_,_,_,rfl,p0,fun H8 s8=>?_⟩⟩⟩;exact f5 H8 _ _ _ (s6.trans (s7.trans s8)) (by omega) (by omega) c0 (by omega) e0 e1
end
abbrev lH:cV:=top 49
noncomputable abbrev SX:List Str:=["_law_script","_law_spec_here","_law_rows","_law_garden_here","_law_text","_law_found","_law_k","_law_pot","_law_since","_law_told","_law_pots","_law_both","_law_due","_law_names","_law_days","_law_width"]
theorem Ht (xs:List V) (k:Nat):m9 xs none (some (k:Int))=xs.take k:=by
 unfold m9;rw [HT.Gm];simp only [HT.iW,List.drop_zero,Nat.sub_zero];rcases Nat.le_total k xs.length with h | h
 ·rw [Nat.min_eq_left h]
 ·rw [Nat.min_eq_right h,bV,take_of_length_le h]
theorem M7 {X:Cx} (K:Fg) (hK:autoParam (X.K=K) zau0):SlR X (adK K):=by
 subst hK;exact oO
structure Hu (K:Fg) (mg:Str->Option aA) (a:gU) (dV:aA):Prop where
 S:M5 K mg a dV
 R:Mq K mg a dV
 D:Fb K mg
 mx:mg "max"=none
 wr:∃ f fd,Fn K "written" "written" ou ["garden"] f fd/\mg "written"=some (.ref f)
 rd:∃ f fd,Fn K "read" "read" G6 ["text"] f fd/\mg "read"=some (.ref f)
 jn:∃ f fd,Fn K "joined" "joined" yw ["one","other"] f fd/\mg "joined"=some (.ref f)
 sh:∃ f fd dv t,Ei K "sheet" "sheet" mO dv f fd/\Binds K fd ["rows","width"] []/\Binds K fd ["rows","width"] [.int 0 t]/\mg "sheet"=some (.ref f)
 sp:∃ f fd,Fn K "_law_spec" "_law_spec" pP ["_law_script","_law_first"] f fd/\mg "_law_spec"=some (.ref f)
 gar:∃ f fd,Fn K "_law_garden" "_law_garden" qZ ["_law_spec_here"] f fd/\mg "_law_garden"=some (.ref f)
 pl:∃ f fd,Fn K "_law_plain" "_law_plain" wA ["_law_spec_here"] f fd/\mg "_law_plain"=some (.ref f)
 lo:∃ f fd,Fn K "_law_loose" "_law_loose" zR ["_law_rows","_law_cell"] f fd/\mg "_law_loose"=some (.ref f)
 sm:∃ f fd,Fn K "_law_same" "_law_same" Hq ["_law_garden_here","_law_spec_here"] f fd/\mg "_law_same"=some (.ref f)
 ls:∃ f fd,Fn K "_law_sheet" "_law_sheet" uO ["_law_rows","_law_width"] f fd/\mg "_law_sheet"=some (.ref f)
 gr:∃ f fd,Fn K "_law_great" "_law_great" zU ["_law_script"] f fd/\mg "_law_great"=some (.ref f)
section
variable {P:cg} {w:World} {K:Fg} {mg:Str->Option aA} {base:Heap} {a:gU} {dV:aA}
theorem iM:bY SX ["_law_script"] (aY lH):=dX (by decide +kernel)
theorem yC {r:St} {x y z:Option V}:lu (none::none::none::r) ((((none::none::none::r).set 0 x).set 1 y).set 2 z):=by
 intro j v h
 match j,h with
 | 0,h=>simp at h
 | 1,h=>simp at h
 | 2,h=>simp at h
 | j + 3,h=>exact h
theorem ajp (X:Hu K mg a dV) {f:aB} {cdv:aA} {A:cW} {outer:List Env} {s:aM} {H₀:Hp} {E:XK} (hr:eO 9 (A.deeper (PyProof.Rows.envOfC "law" (aY lH) s.heap.objs.size f cdv))) : ∃ t,z9 (p7 (fK P w) P w K mg base SX "law" (aY lH) f cdv A outer s H₀ E) ((gk lH).drop 17) t/\∀ (D:Ends) (H:Hp) (sc:aB) (ns:List Int) (v:V) (sp:kj) (s2 s3 s4 s5 s6 s7 s8 s9 wL Aw s12 CV Od Oe:Option V),cU K H sc (ns.map V.int)->kE H v sp->fV sp->(∀ H',D.rt (.bl true) H')->t D [some (.ref sc),some v,s2,s3,s4,s5,s6,s7,s8,s9,wL,Aw,s12,CV,Od,Oe] H:=by
 have B:=X.D.B;obtain ⟨fc,dc,cF,mC⟩:=X.D.ce;have sy:cB P w K mg base (fK P w) 1 fc dc ["_law_script","_law_k"] (vX K):=uH cF.F B;obtain ⟨fh,dh,dv,t0,hF,b1,b0,mH⟩:=X.sh;have okh:cB P w K mg base (fK P w) 1 fh dh ["rows","width"] uN:=Mw hF B X.R.en;obtain ⟨fl,dl,lF,mL⟩:=X.ls;have okl:cB P w K mg base (fK P w) 1 fl dl ["_law_rows","_law_width"] uN:=Js lF.F B X.mx;have hr1:eO 1 _:=hr.mono (by decide);have Oc:[("_law_name":Str),"_law_gap","_law_rest"].Nodup:=by decide +kernel
 have nd2:[("_law_cell":Str),"_law_names"].Nodup:=by decide +kernel
 have v0:Vals [V.int 0] [Value.int 0 t0]:=.cons ⟨t0,rfl⟩ .nil;refine ⟨_,aG (bK (i:=13) iM.nd rfl (Or.inr rfl) (gw bF rfl ⟨_,_,rfl,rfl,rfl⟩ (fG.plain (N':=["_law_name","_law_gap","_law_rest"]) rfl (by decide +kernel) (by decide +kernel)) (eE (cR dZ (pv 1) aL (fun _ _=>rfl))) (fun _ _ _ _ _=>Bm K (n:=3) rfl (dD (cZ 0 Oc) (dD (cZ 1 Oc) (dD (cZ 2 Oc) j6)))) (fun _ _ _ _ _=>fL) (fun _ _ _ _ _ _=>pv 0))) (aG (lY (i:=14) iM.nd rfl (Or.inl rfl) bF rfl ⟨_,_,rfl,rfl,rfl⟩ (iY (N':=["_law_cell","_law_names"]) (cl:=[("_law_names",s.heap.objs.size + 1)]) [none,some 13] SX (aY lH).names [(".0",.local),("_law_cell",.local),("_law_names",.cell)] ["_law_names"] rfl (by decide +kernel) (by decide +kernel) rfl (fun p hp=>by rw [aO.mp hp]; rfl) rfl rfl rfl rfl (by decide +kernel) rfl (by decide +kernel)) (eE (jG oO (pv 0) lQ (lR aL))) (fun _ _ _ _ _=>cZ 0 nd2) (fun _ _ _ _ _=>fL) (fun _ _ _ _ _ _=>jG (M7 K) (pv 1) lQ (lR (bB fC (pv 0) aL)))) (aG (bK (i:=15) iM.nd rfl (Or.inl rfl) (bB fC (cG sy hr1 mC cF.F.kp cF.b bx (ao (pv 0) (d7 [.int 5] rfl))) aL)) (aG (dU (cN (yZ hr.units) (yN okh hr1 (by rfl) mH hF.kp b1 .nil bx (ao (pv 14) (ao (pv 15) aD))) (cG okl hr1 mL lF.F.kp lF.b bx (ao (pv 14) (ao (pv 15) aD))) (cQ _)) (aV (cJ j4)) cA) (aV (cJ (lM (Zq hr.units) (yN okh hr1 (by rfl) mH hF.kp b0 v0 bx (ao (pv 14) aD)) (cG okl hr1 mL lF.F.kp lF.b bx (ao (pv 14) (d7 [.int 0] rfl))) (cQ _))))))),?_⟩;intro D H sc ns v sp s2 s3 s4 s5 s6 s7 s8 s9 wL Aw s12 CV Od Oe hS ⟨t,l,ev,ht,rl⟩ ok q;subst ev;have big:1000<=sizeLine:=by decide
 have n8:=ok.n8;obtain ⟨_,vs,el,hv,uc⟩:=id rl;cases el;refine ⟨_,rfl,t,_,0,.ref l,rfl,rfl,gY.of ht,rfl,l,rfl,⟨_,cU.of hv⟩,fun D1 hD1=>?_⟩;obtain ⟨go,stop,yl⟩:=jz (K:=K) (R:=su) (fun h s=>eF.same h s) rl;refine iB (R:=su) iH (xs:=sp.pots) (fun _=>true) (fun q=>q.1) (fun _=>True) (by omega) hD1 go stop yl ?_ ?_
 ·rintro i c v H2 hi ⟨tc,y1,y2,y3,rfl,htc,r1,r2,r3⟩ s2 Qc Qn k kn;refine ⟨tc,_,rfl,gY.of htc,rfl,_,_,rfl,_,_,rfl,_,_,rfl,rfl,yC,?_⟩
  show if true=true then _ else Qn H2
  rw [if_pos rfl];exact ⟨_,rfl,k rfl trivial _ _ (Same.refl _) r1⟩
 intro H1 s1 _ r1;rw [filter_eq_self.mpr fun _ _=>rfl] at r1;obtain ⟨_,vs1,e1,hv1,p1⟩:=r1;cases e1;rw [jL p1] at hv1;have hS1:=s1.seq hS;refine ⟨_,rfl,12,rfl,sc,_,rfl,hS1,fun c1 hc1=>?_⟩;have ec:m9 (ns.map V.int) none (some 12)=(ns.take 12).map V.int:=(Ht _ 12).trans (List.map_take).symm;rw [ec];have t2:=bh (o:=.lst ((ns.take 12).map V.int)) hc1;have hc2:upd H1 c1 (.lst ((ns.take 12).map V.int)) c1=some (.lst ((ns.take 12).map V.int)):=aF;have hv2:=t2 _ _ hv1;have hS2:=t2.seq hS1;generalize upd H1 c1 (.lst ((ns.take 12).map V.int))=H2 at t2 hc2 hv2 hS2 ⊢;refine ⟨c1,rfl,⟨_,cU.of hc2⟩,fun D2 hD2=>?_⟩;have l12:(ns.take 12).length<=12:=List.length_take_le _ _;obtain ⟨go,stop,yl⟩:=jz (K:=K) (R:=wR) (fun h s=>jd.same h s) (H:=H2) (l:=c1) (xs:=ns.take 12) ⟨c1,_,rfl,hc2,wg _⟩;refine oW (R:=wR) (S:=pH D2) pH.same pH.upd (xs:=ns.take 12) (fun _=>true) (fun c=>(sp.pots.map fun q=>q.1).take (c % 3).toNat) (fun _=>True) (by omega) hD2 go stop yl ?_ ?_
 ·rintro i c v H3 hi rv s3 ⟨acc,hacc⟩ Qc Qn k kn;cases rv;refine ⟨gH,?_⟩
  show if true=true then _ else Qn H3
  rw [if_pos rfl];have c0:0<=c % 3:=Int.emod_nonneg _ (by decide);refine ⟨_,rfl,_,rfl,_,_,rfl,rfl,(by show (0:Int) < 3; decide),_,rfl,D1,_,rfl,cU.of (s3 _ _ hv2),fun m hm=>?_⟩;have em:m9 ((sp.pots.map fun q=>q.1).map V.str) none (some (c % 3))=((sp.pots.map fun q=>q.1).take (c % 3).toNat).map V.str:=by
   have:=Ht ((sp.pots.map fun q=>q.1).map V.str) (c % 3).toNat;rw [Int.toNat_of_nonneg c0] at this;rw [this,List.map_take]
  rw [em];exact k rfl trivial _ _ (bh hm) ⟨m,rfl,(fun z=>by rw [z,hacc] at hm; cases hm),aF⟩
 intro H3 s3 _ r3;rw [filter_eq_self.mpr fun _ _=>rfl] at r3;obtain ⟨_,Rh,e3,T5,p3⟩:=r3;cases e3;have CT:Mu ((ns.take 12).map fun c=>(sp.pots.map fun q=>q.1).take (c % 3).toNat):=by
  refine ⟨by rw [aq]; exact l12,fun ws hw=>?_⟩;obtain ⟨c,_,rfl⟩:=bf.mp hw;have c0:0<=c % 3:=Int.emod_nonneg _ (by decide);have c1:c % 3 < 3:=Int.emod_lt_of_pos _ (by decide);refine ⟨by have:=List.length_take_le (c % 3).toNat (sp.pots.map fun q=>q.1); omega,fun z hz=>?_⟩;obtain ⟨qq,hq,rfl⟩:=bf.mp (List.mem_of_mem_take hz);exact (wj (ok.row qq hq).nm).1
 have rl3:gJ DK H3 (.ref D2) ((ns.take 12).map fun c=>(sp.pots.map fun q=>q.1).take (c % 3).toNat):=⟨D2,Rh,rfl,T5,Paired.jx p3 fun _ _ z=>pH.to z⟩;generalize ((ns.take 12).map fun c=>(sp.pots.map fun q=>q.1).take (c % 3).toNat)=days at CT rl3;have hS3:=s3.seq hS2;refine ⟨_,rfl,sc,ns,5,rfl,hS3,_,_,rfl,rfl,(by show (0:Int) < 6; decide),?_⟩;have w0:0<=ns.getD 5 0 % 6:=Int.emod_nonneg _ (by decide);have w6:ns.getD 5 0 % 6 < 6:=Int.emod_lt_of_pos _ (by decide);have rs:∀ {H':Hp},Same H3 H'->gJ DK H' (.ref D2) days:=fun s'=>by
  obtain ⟨_,vs,el,hv,pv⟩:=rl3;cases el;exact ⟨D2,vs,rfl,s' _ _ hv,Paired.jx pv fun _ _ z=>DK.same z s'⟩
 refine ⟨_,rfl,_,rfl,D2,ns.getD 5 0 % 6,days,rfl,rl3,w0,by omega,CT,fun H4 m4 s4 h4=>⟨_,rfl,_,rfl,D2,ns.getD 5 0 % 6,days,rfl,rs s4,w0,by omega,CT,fun H5 m5 s5 h5=>?_⟩⟩;refine zf (n:=0) eq_str (by decide) (xs:=jM days (ns.getD 5 0 % 6)) (ys:=jM days (ns.getD 5 0 % 6)) ⟨m4,_,rfl,s5 _ _ h4,jK _⟩ ⟨m5,_,rfl,h5,jK _⟩ ⟨_,rfl,?_⟩;rw [aK rfl];refine dG ?_;refine ⟨_,rfl,D2,0,days,rfl,rs (s4.trans s5),by decide,by decide,CT,fun H6 m6 s6 h6=>⟨_,rfl,D2,0,days,rfl,rs ((s4.trans s5).trans s6),by decide,by decide,CT,fun H7 m7 s7 h7=>?_⟩⟩;refine Zv (n:=0) eq_str (by decide) (xs:=jM days 0) (ys:=jM days 0) ⟨m6,_,rfl,s7 _ _ h6,jK _⟩ ⟨m7,_,rfl,h7,jK _⟩ ?_;rw [aK rfl];exact q _
end
def fU (q:Str × Int × Int):Str × Int × Int:=("moss"++q.1,q.2.1,q.2.2)
theorem M8 {x y:Str} (h:("moss":Str)++x="moss"++y):x=y:=by
 apply DX;have:=congrArg Lo h;rw [nQ,nQ] at this;exact List.append_cancel_left this
theorem yD {x:Str} (h:x ∈ Cq):nameV (.str ("moss"++x))=true/\("moss"++x) ∉ Cq:=by
 unfold Cq at h;simp only [aQ,not_mem_nil,or_false] at h;rcases h with rfl | rfl | rfl | rfl | rfl <;> decide +kernel
theorem Hv:∀ {qs:List (Str × Int × Int)},(qs.map fun q=>q.1).Nodup->((qs.map fU).map fun q=>q.1).Nodup:=by
 intro qs h;rw [bT];have:(qs.map ((fun q:Str × Int × Int=>q.1) ∘ fU))=(qs.map fun q=>q.1).map fun x=>("moss":Str)++x:=by
  rw [bT];rfl
 rw [this];exact Pairwise.map _ (fun x y ne e=>ne (M8 e)) h
theorem yE (qs:List (Str × Int × Int)):sizeOf 1 (cL (qs.map fU))=sizeOf 1 (cL qs):=by
 have:∀ (qs:List (Str × Int × Int)) (k:Int),sizeOf k (cL (qs.map fU))=sizeOf k (cL qs):=by
  intro qs
  induction qs with
  | nil=>intro k; rfl
  | cons q qs ih=>intro k; exact ih (k * q.2.1)
 exact this qs 1
theorem Cv {q:Str × Int × Int} (h:qY q) (m:q.1 ∈ Cq):qY (fU q):=⟨(yD m).1,h.g1,h.g2,h.r1,h.r2⟩
theorem S5 {sp:kj} (h:fV sp) (m:yx sp):fV ⟨sp.pots.map fU,1,1,0⟩:=by
 refine ⟨?_,?_,Hv h.nd,fun q hq=>?_,by show (0:Int)<=1; decide,by show (1:Int)<=8; decide,by show (1:Int)<=1; decide,by show (1:Int)<=14; decide,by show (0:Int)<=0; decide,by show (0:Int) < 2 ^ (1:Int).toNat; decide,?_⟩
 ·show 1<=(sp.pots.map fU).length
  rw [aq]; exact h.n1
 ·show (sp.pots.map fU).length<=8
  rw [aq]; exact h.n8
 ·obtain ⟨q',hq',rfl⟩:=bf.mp hq;exact Cv (h.row q' hq') (m.nms q' hq')
 ·show sizeOf 1 (cL (sp.pots.map fU))<=20000
  rw [yE];have:=m.gp;omega
theorem size_pos {sp:kj} (h:fV sp):0<=sizeOf 1 (cL sp.pots):=(size_le (m:=60) (by decide) (cL sp.pots) 1 (by decide) fun p hp=>by
 obtain ⟨q,hq,rfl⟩:=bf.mp hp;have:=(h.row q hq).g1;have:=(h.row q hq).g2;exact ⟨by show 0<=q.2.1; omega,by show q.2.1<=60; omega⟩).1
theorem aaq {sp sq:kj} (h:fV sp) (m:yx sp) (h':fV sq) (m':yx sq):fV ⟨sp.pots++sq.pots.map fU,sp.cans + 1,sp.week,sp.closed⟩:=by
 have c1:=h.c1;have c3:=m.c3;have n3:=m.n3;have n3':=m'.n3;have n1:=h.n1;refine ⟨?_,?_,?_,fun q hq=>?_,by show 0<=sp.cans + 1; omega,by show sp.cans + 1<=8; omega,h.w1,h.w2,h.l1,h.l2,?_⟩
 ·show 1<=(sp.pots++sq.pots.map fU).length
  rw [aR]; omega
 ·show (sp.pots++sq.pots.map fU).length<=8
  rw [aR,aq]; omega
 ·show ((sp.pots++sq.pots.map fU).map fun q=>q.1).Nodup
  rw [aX];rw [List.nodup_append];refine ⟨h.nd,Hv h'.nd,fun x hx y hy e=>?_⟩;obtain ⟨q1,hq1,rfl⟩:=bf.mp hx;obtain ⟨q2,hq2,rfl⟩:=bf.mp hy;obtain ⟨q3,hq3,rfl⟩:=bf.mp hq2;have:=m.nms q1 hq1;rw [e] at this;exact (yD (m'.nms q3 hq3)).2 this
 ·rcases bQ.mp hq with z | z
  ·exact h.row q z
  ·obtain ⟨q',hq',rfl⟩:=bf.mp z;exact Cv (h'.row q' hq') (m'.nms q' hq')
 ·show sizeOf sp.week (cL (sp.pots++sq.pots.map fU))<=20000
  have ea:cL (sp.pots++sq.pots.map fU)=cL sp.pots++cL (sq.pots.map fU):=aX;rw [ea,Cr,lG,yE,lG (cL sp.pots) sp.week];have w1:=h.w1;have w2:=h.w2;have a1:sp.week * sizeOf 1 (cL sp.pots)<=14 * 27:=Int.mul_le_mul w2 m.gp (size_pos h) (by decide);have a2:sp.week * sizeOf 1 (cL sp.pots) * sizeOf 1 (cL sq.pots)<=14 * 27 * 27:=Int.mul_le_mul a1 m'.gp (size_pos h') (by decide);omega
theorem aar {q:Str × Int × Int} (h:-1<=q.2.2) {s:Int} (s0:0<=s):En (dI q) s=decide (q.2.2<=s):=by
 unfold En dI
 by_cases z:q.2.2 < 0
 ·simp only [if_pos z];exact (aK (by omega)).symm
 ·simp only [if_neg z]
section
variable {P:cg} {w:World} {K:Fg} {mg:Str->Option aA} {base:Heap} {a:gU} {dV:aA}
theorem ajr (X:Hu K mg a dV) {f:aB} {cdv:aA} {A:cW} {outer:List Env} {s:aM} {H₀:Hp} {E:XK} (hr:eO 9 (A.deeper (PyProof.Rows.envOfC "law" (aY lH) s.heap.objs.size f cdv))) : ∃ t,z9 (p7 (fK P w) P w K mg base SX "law" (aY lH) f cdv A outer s H₀ E) ((gk lH).drop 11) t/\∀ (D:Ends) (H:Hp) (sc lr x:aB) (ns:List Int) (v:V) (sp:kj) (s4 s5 s6 s7 s8 s9 wL Aw s12 CV Od Oe:Option V),cU K H sc (ns.map V.int)->kE H v sp->fV sp->yx sp->H lr=some (.lst (((fP sp).rws.map gj).map V.str))->j9 a H x (fP sp)->(∀ H',D.rt (.bl true) H')->t D [some (.ref sc),some v,some (.ref lr),some (.ref x),s4,s5,s6,s7,s8,s9,wL,Aw,s12,CV,Od,Oe] H:=by
 have B:=X.D.B;have W:=X.S.W;have Z:=W.Z;have T:=Z.G.T;obtain ⟨fsp,dsp,spF,mSp⟩:=X.sp;have aat:cB P w K mg base (fK P w) 2 fsp dsp ["_law_script","_law_first"] (Fd K):=Hh spF.F X.D;have kSp:=spF.F.kp;have bSp:=spF.b;obtain ⟨fg,dg,gF,mG⟩:=X.gar;have okg:cB P w K mg base (fK P w) 9 fg dg ["_law_spec_here"] (Fe a):=Hi gF.F Z;obtain ⟨fj,dj,jF,mJ⟩:=X.jn;have okj:cB P w K mg base (fK P w) 9 fj dj ["one","other"] (Mx K a):=Sy jF.F Z;obtain ⟨fm,dm,mF,mM⟩:=X.sm;have okm:cB P w K mg base (fK P w) 1 fm dm ["_law_garden_here","_law_spec_here"] (Fi a):=Hr mF.F X.S;have hr1:eO 1 _:=hr.mono (by decide);have hr2:eO 2 _:=hr.mono (by decide);have Oc:[("_law_name":Str),"_law_gap","_law_rest"].Nodup:=by decide +kernel
 obtain ⟨tc,hC,Jp⟩:=ajp (P:=P) (w:=w) (base:=base) (f:=f) (cdv:=cdv) (A:=A) (outer:=outer) (s:=s) (H₀:=H₀) (E:=E) X hr;refine ⟨_,aG (jE gB rfl (iy rfl B.range (ao (gR eU B.len PySem.boot_len (ao (cR dZ (pv 1) aL (fun _ _=>rfl)) aD)) aD)) (cZ 6 iM.nd) (aG (bK (i:=7) iM.nd rfl (Or.inl rfl) (cR gO (dM (pv 3) rfl) (pv 6) (fun _ _=>rfl))) (aG (dU (cN (yZ hr.units) (xR (Cs:=fun C=>C=a.pot\/C=a.cactus) (sp:=qT a) (pv 7) hr1 W.words bx) (gW PySem.F.plainAttrs_str PySem.F.slot_str_split PySem.F.type_str_split qL (cR gO (pv 2) (bB dY (pv 6) aL) (fun _ _=>rfl)) (ao cj aD)) (cQ _)) (aV (cJ j4)) cA) (aV (jE gB rfl (iy rfl B.range (ao (cR dZ (cR gO (cR dZ (pv 1) aL (fun _ _=>rfl)) (pv 6) (fun _ _=>rfl)) aL (fun _ _=>rfl)) aD)) (cZ 8 iM.nd) (aG (bK (i:=9) iM.nd rfl (Or.inl rfl) (Bf (Cs:=fun C=>C=a.pot\/C=a.cactus) (sp:=GQ a) (pv 7) hr1 W.may bx (ao (pv 8) aD))) (aV (dU (pw_or (fu (eZ (vq .bool B.isinstance B.bool (pv 9)))) (pw_or1 (cN uU (pv 9) (lM TV (pv 8) (cR dZ (cR gO (cR dZ (pv 1) aL (fun _ _=>rfl)) (pv 6) (fun _ _=>rfl)) aL (fun _ _=>rfl)) (cQ _)) (cQ _)))).pt (aV (cJ j4)) cA)))))))) (aG (lY (i:=10) iM.nd rfl (Or.inl rfl) bF rfl ⟨_,_,rfl,rfl,rfl⟩ (fG.plain (N':=["_law_name","_law_gap","_law_rest"]) rfl (by decide +kernel) (by decide +kernel)) (eE (cR dZ (cG aat hr2 mSp kSp bSp bx (ao (pv 0) (d7 [.int 4] rfl))) aL (fun _ _=>rfl))) (fun _ _ _ _ _=>Bm K (n:=3) rfl (dD (cZ 0 Oc) (dD (cZ 1 Oc) (dD (cZ 2 Oc) j6)))) (fun _ _ _ _ _=>fL) (fun _ _ _ _ _ _=>gb (ao (bB lN cj (pv 0)) (ao (pv 1) (ao (pv 2) aD))))) (aG (bK (i:=11) iM.nd rfl (Or.inl rfl) (cG okj hr mJ jF.F.kp jF.b (cC bF) (ao (pv 3) (ao (cG okg hr mG gF.F.kp gF.b (cC bF) (ao (gb (ao (pv 10) (d7 [.int 1,.int 1,.int 0] rfl))) aD)) aD)))) (aG (bK (i:=12) iM.nd rfl (Or.inl rfl) (gb (ao (bB lU (cR dZ (pv 1) aL (fun _ _=>rfl)) (pv 10)) (ao (bB dY (cR dZ (pv 1) aL (fun _ _=>rfl)) aL) (ao (cR dZ (pv 1) aL (fun _ _=>rfl)) (ao (cR dZ (pv 1) aL (fun _ _=>rfl)) aD)))))) (aG (dU (fu (eZ (cG okm hr1 mM mF.F.kp mF.b bx (ao (pv 11) (ao (pv 12) aD))))) (aV (cJ j4)) cA) (aG (dU (fu (eZ (cG okm hr1 mM mF.F.kp mF.b bx (ao (pv 3) (ao (pv 1) aD))))) (aV (cJ j4)) cA) hC))))),?_⟩;intro D H sc lr x ns v sp s4 s5 s6 s7 s8 s9 wL Aw s12 CV Od Oe hS ⟨t,l,ev,ht,rl⟩ ok okS hlr gx q;subst ev;obtain ⟨dx,gl,as,hx,hgl,pt⟩:=id gx;obtain ⟨_,vs,el,hv,uc⟩:=id rl;cases el;have lv:vs.length=sp.pots.length:=Paired.length uc;have la:as.length=sp.pots.length:=(Paired.length pt).trans (f9 _);have n8:=ok.n8;have big:1000<=sizeLine:=by decide
 refine ⟨_,rfl,t,_,0,.ref l,rfl,rfl,gY.of ht,rfl,l,_,rfl,.inl (cU.of hv),_,rfl,by omega,by omega,?_⟩;refine jC (lo:=0) (n:=((vs.length:Nat):Int).toNat) (fun i σ H'=>∃ u6 u7 u8 u9,σ=[some (.ref sc),some (.ref t),some (.ref lr),some (.ref x),s4,s5,u6,u7,u8,u9,wL,Aw,s12,CV,Od,Oe]/\Same H H') ⟨s6,s7,s8,s9,rfl,Same.refl _⟩ ?_ ?_
 ·rintro i σ H1 lt ⟨u6,u7,u8,u9,rfl,s1⟩;have li:i < sp.pots.length:=by omega
  have e0:(0 + (i:Int))=((i:Nat):Int):=Int.zero_add _;rw [e0];obtain ⟨c,hc⟩:∃ c,sp.pots[i]?=some c:=⟨sp.pots[i],aP li⟩;have sy:=ok.row c (aW hc);have hp:(cL sp.pots)[i]?=some (dI c):=by rw [cL,aU,hc]; rfl
  obtain ⟨b,hb⟩:∃ b,as[i]?=some b:=⟨as[i]'(by omega),aP _⟩;obtain ⟨p',hp',pb'⟩:=eG pt hb;have pb:eY a H b (dI c):=by
   have e:some p'=some (dI c):=hp'.symm.trans hp;cases e;exact pb'
  obtain ⟨u,hu,ru⟩:=iz uc hc;have BW:=rz sy;have qC:=G7 BW;have rlen:=zQ qC;have wne:(dI c).ws≠[]:=fun z=>by have:=qC.1; rw [z] at this; cases this
  have SM:=s1 _ _ hlr;refine ⟨_,rfl,x,a.garden,dx,_,_,rfl,s1 _ _ hx,Z.tG.cl,Z.nG _ (by simp),rW ..,_,rfl,gl,_,_,_,rfl,rfl,cU.of (s1 _ _ hgl),dW (by rw [aU,hb]; rfl),?_⟩;obtain ⟨db,hb1⟩:=pb.same s1;refine ⟨_,rfl,b,(dI c).cls a,db,_,rfl,hb1,(dI c).jk,(dI c).RX (by decide +kernel) (by decide +kernel) (by decide +kernel),b,dI c,rfl,rfl,⟨db,hb1⟩,BW,fun H2 m2 s2 _ h2=>?_⟩;have hrow:(((fP sp).rws.map gj).map V.str)[i + 1]?=some (.str (gj (dI c).ws)):=by
   show (V.str (gj (fP sp).hws)::(((cL sp.pots).map bJ.ws).map gj).map V.str)[i + 1]?=_
   rw [List.getElem?_cons_succ,aU,aU,aU,hp];rfl
  refine ⟨_,rfl,_,rfl,_,_,rfl,rfl,lr,_,_,.str (gj (dI c).ws),rfl,rfl,cU.of (s2 _ _ SM),(by rw [show ((i:Nat):Int) + 1=((i + 1:Nat):Int) by omega]; exact dW hrow),rfl,_,_,rfl,rfl,rfl,by omega,fun c3 hc3=>?_⟩;rw [show (Str.ofString " ":Str)=⟨#[32]⟩ from fZ,show Txt.split (gj (dI c).ws) ⟨#[32]⟩=(dI c).ws from mj wne fun z hz=>(qC.2.2 z hz).2.2.1];have t3:=bh (o:=.lst ((dI c).ws.map V.str)) hc3;refine zf (n:=0) eq_str (by decide) (xs:=(dI c).ws) (ys:=(dI c).ws) ⟨m2,_,rfl,t3 _ _ h2,jK _⟩ ⟨c3,_,rfl,aF,jK _⟩ ⟨_,rfl,?_⟩;rw [aK rfl];refine dG ?_;have s3:=(s1.trans s2).trans t3;generalize upd H2 c3 (.lst ((dI c).ws.map V.str))=H3 at s3 ⊢;obtain ⟨tu,y1,y2,y3,rfl,htu,r1,r2,r3⟩:=eF.same ru s3;cases r1; cases r2; cases r3;have g1:=sy.g1;have g2:=sy.g2;refine ⟨_,rfl,t,_,0,.ref l,rfl,rfl,gY.of (s3 _ _ ht),rfl,_,rfl,l,_,_,_,rfl,rfl,cU.of (s3 _ _ hv),dW hu,tu,_,1,_,rfl,rfl,gY.of htu,rfl,_,rfl,by omega,by omega,?_⟩;refine jC (lo:=0) (n:=c.2.1.toNat) (fun j σ H'=>∃ u8 u9,σ=[some (.ref sc),some (.ref t),some (.ref lr),some (.ref x),s4,s5,some (.int (i:Nat)),some (.ref b),u8,u9,wL,Aw,s12,CV,Od,Oe]/\Same H H'/\H' tu=some (.tup [.str c.1,.int c.2.1,.int c.2.2])) ⟨u8,u9,rfl,s3,htu⟩ ?_ ?_
  ·rintro j σ H4 lt4 ⟨w8,w9,rfl,s4',aeP⟩;have e4:(0 + (j:Int))=((j:Nat):Int):=Int.zero_add _;rw [e4];obtain ⟨db4,hb4⟩:=pb.same s4';refine ⟨_,rfl,b,(dI c).cls a,db4,_,rfl,hb4,(dI c).jk,(dI c).RX (by decide +kernel) (by decide +kernel) (by decide +kernel),_,rfl,b,dI c,_,rfl,rfl,⟨db4,hb4⟩,?_⟩;rw [aar sy.r1 (Int.natCast_nonneg j)];refine ⟨_,rfl,_,.bl,rfl,⟨_,rfl⟩,_,rfl,dG ?_⟩;refine ⟨_,rfl,_,rfl,_,rfl,t,_,0,.ref l,rfl,rfl,gY.of (s4' _ _ ht),rfl,_,rfl,l,_,_,_,rfl,rfl,cU.of (s4' _ _ hv),dW hu,tu,_,2,_,rfl,rfl,gY.of aeP,rfl,_,_,rfl,rfl,rfl,_,rfl,?_⟩;rw [aK rfl];exact dG ⟨_,_,rfl,s4',aeP⟩
  ·rintro σ H4 ⟨w8,w9,rfl,s4',_⟩;exact ⟨_,_,_,_,rfl,s4'⟩
 rintro σ H1 ⟨u6,u7,u8,u9,rfl,s1⟩;have hS1:=s1.seq hS;refine ⟨_,rfl,sc,ns,4,rfl,hS1,fun H2 v2 sq s2 ⟨t2,l2,ev2,Mf,rl2⟩ okq aau=>?_⟩;subst ev2;obtain ⟨_,vs2,el2,hv2,pv2⟩:=id rl2;cases el2;have nq:=aau.n3;refine ⟨t2,_,0,.ref l2,rfl,rfl,gY.of Mf,rfl,l2,rfl,⟨_,cU.of hv2⟩,fun D3 hD3=>?_⟩;obtain ⟨go,stop,yl⟩:=jz (K:=K) (R:=su) (fun h s=>eF.same h s) rl2;refine iB (R:=su) eF (xs:=sq.pots) (fun _=>true) fU (fun _=>True) (by omega) hD3 go stop yl ?_ ?_
 ·rintro i c v H3 hi ⟨tc,y1,y2,y3,rfl,htc,r1,r2,r3⟩ s3 Qc Qn k kn;cases r1; cases r2; cases r3;have wn:=wj (okq.row c (aW hi)).nm;refine ⟨tc,_,rfl,gY.of htc,rfl,_,_,rfl,_,_,rfl,_,_,rfl,rfl,yC,?_⟩
  show if true=true then _ else Qn H3
  rw [if_pos rfl];refine ⟨_,rfl,_,_,rfl,rfl,?_,_,rfl,_,rfl,by show 3<=sizeLine; decide,fun t4 ht4=>k rfl trivial _ _ (bh ht4) ⟨t4,_,_,_,rfl,aF,rfl,rfl,rfl⟩⟩;have:=wn.1;have:(Str.ofString "moss").length=4:=by decide +kernel
  omega
 intro H3 s3 _ r3;rw [filter_eq_self.mpr fun _ _=>rfl] at r3;obtain ⟨_,Rh,e3,T5,p3⟩:=id r3;cases e3;have sA:=s1.trans (s2.trans s3);have gx3:=gx.same sA;refine ⟨_,rfl,_,rfl,by show 4<=sizeLine; decide,fun t4 ht4=>?_⟩;have v4:=bh (o:=.tup [V.ref D3,.int 1,.int 1,.int 0]) ht4;have mok:=S5 okq aau;refine ⟨_,⟨sq.pots.map fU,1,1,0⟩,rfl,⟨t4,D3,rfl,aF,r3.same eF v4⟩,mok,fun H5 y s5 gy=>?_⟩;have CT:=aaq ok okS okq aau;have sB:=sA.trans (v4.trans s5);have ep:cL (sp.pots++sq.pots.map fU)=cL sp.pots++cL (sq.pots.map fU):=aX;have ajx:=CT.out;have aeQ:=CT.rA;have ep':(fP ⟨sp.pots++sq.pots.map fU,sp.cans + 1,sp.week,sp.closed⟩).pots=(fP sp).pots++(fP ⟨sq.pots.map fU,1,1,0⟩).pots:=ep;rw [ep'] at aeQ;refine ⟨x,y,fP sp,_,rfl,gx.same sB,gy,aeQ,by show (cL sp.pots).length<=8; rw [f9]; exact n8,by show (cL (sq.pots.map fU)).length<=8; rw [f9]; exact mok.n8,Lx (by rw [<- ep']; exact ajx) (fun H6 z hz s6 gn=>?_)⟩;have gz:j9 a H6 z (fP ⟨sp.pots++sq.pots.map fU,sp.cans + 1,sp.week,sp.closed⟩):=by
  have:=gn.at;unfold fP;rw [ep];exact this
 have sC:=sB.trans s6;have ht6:=sC _ _ ht;have s36:=(v4.trans s5).trans s6;refine ⟨_,rfl,t,_,0,.ref l,rfl,rfl,gY.of ht6,rfl,_,rfl,l,D3,_,_,rfl,rfl,sC _ _ hv,s36 _ _ T5,?_,fun c7 hc7=>?_⟩
 ·have:=Paired.length p3;rw [aq] at this;omega
 have v7:=bh (o:=.lst (vs++Rh)) hc7;have ht7:=v7 _ _ ht6;refine ⟨_,rfl,t,_,1,.int sp.cans,rfl,rfl,gY.of ht7,rfl,_,_,rfl,rfl,_,rfl,t,_,2,.int sp.week,rfl,rfl,gY.of ht7,rfl,_,rfl,t,_,3,.int sp.closed,rfl,rfl,gY.of ht7,rfl,by show 4<=sizeLine; decide,fun t8 ht8=>?_⟩;have v8:=bh (o:=.tup [V.ref c7,.int (sp.cans + 1),.int sp.week,.int sp.closed]) ht8;have sD:=sC.trans (v7.trans v8);have pd:Paired (su (upd (upd H6 c7 (.lst (vs++Rh))) t8 (.tup [V.ref c7,.int (sp.cans + 1),.int sp.week,.int sp.closed]))) (vs++Rh) (sp.pots++sq.pots.map fU) :=
  qp (Paired.jx uc fun _ _ z=>eF.same z sD) (Paired.jx p3 fun _ _ z=>eF.same z (s36.trans (v7.trans v8)))
 have rD:kE (upd (upd H6 c7 (.lst (vs++Rh))) t8 (.tup [V.ref c7,.int (sp.cans + 1),.int sp.week,.int sp.closed])) (.ref t8) ⟨sp.pots++sq.pots.map fU,sp.cans + 1,sp.week,sp.closed⟩:=⟨t8,c7,rfl,aF,⟨c7,_,rfl,v8 _ _ aF,pd⟩⟩;have gz8:=gz.same (v7.trans v8);clear pd;generalize upd (upd H6 c7 (.lst (vs++Rh))) t8 (.tup [V.ref c7,.int (sp.cans + 1),.int sp.week,.int sp.closed])=H8 at sD rD gz8 ⊢;have d8:=CT.n8;refine ⟨_,rfl,_,rfl,z,_,_,rfl,gz8,rD,fun qq hq=>(CT.row qq hq).r1,(by have:(sp.pots++sq.pots.map fU).length<=8:=d8; show (sp.pots++sq.pots.map fU).length<=16; omega),fun H9 s9=>⟨_,rfl,dG ?_⟩⟩;have sE:=sD.trans s9;refine ⟨_,rfl,_,rfl,x,_,sp,rfl,gx.same sE,⟨t,l,rfl,sE _ _ ht,rl.same eF sE⟩,fun qq hq=>(ok.row qq hq).r1,by omega,fun H10 ajz=>⟨_,rfl,dG ?_⟩⟩;have sF:=sE.trans ajz;exact Jp D H10 sc ns _ sp _ _ _ _ _ _ _ _ _ _ _ _ _ _ (sF.seq hS) ⟨t,l,rfl,sF _ _ ht,rl.same eF sF⟩ ok q
end
theorem aav (ws:List Str):Lo (gj ws)=List.replicate 0 32++iC (List.replicate 1 32) (ws.map Lo)++List.replicate 0 32:=by
 show Lo (Txt.join ⟨#[32]⟩ ws)=_
 rw [qM,List.replicate_zero,nil_append,bZ];rfl
theorem yF:∀ {wss:List (List Str)},(∀ ws ∈ wss,RowW ws)->qt (wss.map gj) wss
 | [],_=>⟨rfl,fun z hz=>nomatch hz⟩
 | ws::wss,h=>by
  have ih:=yF (wss:=wss) fun u hu=>h u (by simp [hu])
  have h1:qt ([]++[gj ws]) ([]++[ws]):=qt.row (fs:=[]) (wss:=[]) ⟨rfl,fun z hz=>nomatch hz⟩ (a:=0) (g:=1) (b:=0) (by decide) (by decide) (by decide) (by decide) (h ws (by simp)) (aav ws);refine ⟨?_,fun z hz=>?_⟩
  ·show iK ([gj ws]++wss.map gj)=[ws]++wss
   rw [wB,ih.1]
   congr 1
   exact h1.1
  ·rcases aQ.mp hz with rfl | hz
   ·exact h1.2 _ (by simp)
   ·exact ih.2 z hz
theorem plain_text {wss:List (List Str)} (h:∀ ws ∈ wss,RowW ws) (ne:wss≠[]) (n9:wss.length<=9):zO (Ms wss) wss:=((yF h).text (fun z=>ne (List.map_eq_nil_iff.mp z)) (by rw [aq]; omega)).1
section
variable {P:cg} {w:World} {K:Fg} {mg:Str->Option aA} {base:Heap} {a:gU} {dV:aA}
def Hw (K:Fg):Sp:=fun vs H Q _=>∃ (l:aB) (ns:List Int),vs=[.ref l]/\cU K H l (ns.map V.int)/\∀ H',Q (.bl true) H'
theorem aaw {f:aB} {fd:d9} (F:nJ K "law" "law" lH f fd) (X:Hu K mg a dV):cB P w K mg base (fK P w) 10 f fd ["_law_script"] (Hw K):=by
 refine F.mX iM (fun vs H Q E h=>?_) (fun cdv A outer s H vs Q E hr h=>?_)
 ·obtain ⟨l,ns,rfl,_⟩:=h;rfl
 ·obtain ⟨sc,ns,rfl,hS,q⟩:=h;have B:=X.D.B;have W:=X.S.W;have Z:=W.Z;obtain ⟨fc,dc,cF,mC⟩:=X.D.ce;have sy:cB P w K mg base (fK P w) 1 fc dc ["_law_script","_law_k"] (vX K):=uH cF.F B;have kC:=cF.F.kp;have bC:=cF.b;obtain ⟨fsp,dsp,spF,mSp⟩:=X.sp;have aat:cB P w K mg base (fK P w) 2 fsp dsp ["_law_script","_law_first"] (Fd K):=Hh spF.F X.D;obtain ⟨fg,dg,gF,mG⟩:=X.gar;have okg:cB P w K mg base (fK P w) 9 fg dg ["_law_spec_here"] (Fe a):=Hi gF.F Z;have kG:=gF.F.kp;have bG:=gF.b;obtain ⟨fm,dm,mF,mM⟩:=X.sm;have okm:cB P w K mg base (fK P w) 1 fm dm ["_law_garden_here","_law_spec_here"] (Fi a):=Hr mF.F X.S;have kM:=mF.F.kp;have bM:=mF.b;obtain ⟨fp,dp,pF,mP⟩:=X.pl;have BW:cB P w K mg base (fK P w) 1 fp dp ["_law_spec_here"] Hj:=MK pF.F B;have kP:=pF.F.kp;have bP:=pF.b;obtain ⟨fl,dl,lF,mL⟩:=X.lo;have okl:cB P w K mg base (fK P w) 2 fl dl ["_law_rows","_law_cell"] Ho:=M4 lF.F X.D;have kL:=lF.F.kp;have bL:=lF.b;obtain ⟨fw,dw,wF,mW⟩:=X.wr;have okw:cB P w K mg base (fK P w) 2 fw dw ["garden"] (Ud a):=aae wF.F W;have kW:=wF.F.kp;have bW:=wF.b;obtain ⟨fr,dr,rF,mR⟩:=X.rd;have okr:cB P w K mg base (fK P w) 9 fr dr ["text"] (Mr a):=Sv rF.F X.R;have kR:=rF.F.kp;have bR:=rF.b;obtain ⟨fgr,dgr,grF,mGr⟩:=X.gr;have ajB:cB P w K mg base (fK P w) 2 fgr dgr ["_law_script"] (Hs K):=M6 grF.F X.D;have hr1:eO 1 _:=hr.mono (by decide);have hr2:eO 2 _:=hr.mono (by decide);obtain ⟨tb,hB,Cu⟩:=ajr (P:=P) (w:=w) (base:=base) (f:=f) (cdv:=cdv) (A:=A) (outer:=outer) (s:=s) (H₀:=H) (E:=E) X hr;refine ⟨_,aG (bK (i:=1) iM.nd rfl (Or.inl rfl) (cG ajB hr2 mGr grF.F.kp grF.b bx (ao (pv 0) aD))) (aG (bK (i:=2) iM.nd rfl (Or.inl rfl) (cG BW hr1 mP kP bP bx (ao (pv 1) aD))) (aG (bK (i:=3) iM.nd rfl (Or.inl rfl) (cG okg hr mG kG bG (cC bF) (ao (pv 1) aD))) (aG (dU (pw_or (cN uU (cG okw hr2 mW kW bW bx (ao (pv 3) aD)) (gW PySem.F.plainAttrs_str PySem.F.slot_str_join PySem.F.type_str_join (je K) cj (ao (pv 2) aD)) (cQ _)) (pw_or1 (fu (eZ (cG okm hr1 mM kM bM bx (ao (cG okr hr mR kR bR (cC bF) (ao (cG okl hr2 mL kL bL bx (ao (pv 2) (ao (cG sy hr1 mC kC bC bx (ao (pv 0) (d7 [.int 3] rfl))) aD))) aD)) (ao (pv 1) aD))))))).pt (aV (cJ j4)) cA) (aG (bK (i:=1) iM.nd rfl (Or.inl rfl) (cG aat hr2 mSp spF.F.kp spF.b bx (ao (pv 0) (d7 [.int 0] rfl)))) (aG (bK (i:=3) iM.nd rfl (Or.inl rfl) (cG okg hr mG kG bG (cC bF) (ao (pv 1) aD))) (aG (bK (i:=2) iM.nd rfl (Or.inl rfl) (cG BW hr1 mP kP bP bx (ao (pv 1) aD))) (aG (bK (i:=4) iM.nd rfl (Or.inl rfl) (gW PySem.F.plainAttrs_str PySem.F.slot_str_join PySem.F.type_str_join (je K) cj (ao (pv 2) aD))) (aG (dU (pw_or (cN uU (cG okw hr2 mW kW bW bx (ao (pv 3) aD)) (pv 4) (cQ _)) (pw_or1 (fu (eZ (cG okm hr1 mM kM bM bx (ao (cG okr hr mR kR bR (cC bF) (ao (pv 4) aD)) (ao (pv 1) aD))))))).pt (aV (cJ j4)) cA) (aG (bK (i:=5) iM.nd rfl (Or.inl rfl) (cG okr hr mR kR bR (cC bF) (ao (cG okl hr2 mL kL bL bx (ao (pv 2) (ao (cG sy hr1 mC kC bC bx (ao (pv 0) (d7 [.int 3] rfl))) aD))) aD))) (aG (dU (pw_or (fu (eZ (cG okm hr1 mM kM bM bx (ao (pv 5) (ao (pv 1) aD))))) (pw_or1 (cN uU (cG okw hr2 mW kW bW bx (ao (pv 5) aD)) (pv 4) (cQ _)))).pt (aV (cJ j4)) cA) hB)))))))))),?_⟩;have big:100000<=sizeLine:=by decide
  have nine:∀ {sp:kj},fV sp->(fP sp).rws.length<=9/\1<=(fP sp).rws.length:=fun {sp} o=>by
   show ((fP sp).hws::(cL sp.pots).map bJ.ws).length<=9/\1<=((fP sp).hws::(cL sp.pots).map bJ.ws).length
   rw [length_cons,aq,f9];have:=o.n8;omega
  refine ⟨_,rfl,sc,ns,rfl,hS,fun H1 v1 sp1 s1 r1 ok1=>?_⟩;have M9:=ok1.pK;refine ⟨_,rfl,_,sp1,rfl,r1,ok1,fun H2 l2 s2 h2=>⟨_,rfl,_,sp1,rfl,r1.same s2,ok1,fun H3 x3 s3 g3=>?_⟩⟩;have h23:=s3 _ _ h2;refine ⟨_,rfl,x3,_,rfl,g3,M9,fun H4 s4=>⟨rfl,_,rfl,_,l2,_,rfl,rfl,cU.of (s4 _ _ h23),?_,?_⟩⟩
  ·rw [show (Str.ofString "\n":Str)=⟨#[10]⟩ from rY];exact EY (ql M9) (nine ok1).1
  rw [show (Str.ofString "\n":Str)=⟨#[10]⟩ from rY];refine ⟨rfl,_,rfl,?_⟩;rw [show decide (V.str (Ms (fP sp1).rws)=V.str (Txt.join ⟨#[10]⟩ ((fP sp1).rws.map gj)))=true from aK rfl];refine dG ?_;have hS4:=((s1.trans s2).trans (s3.trans s4)).seq hS;refine ⟨_,rfl,_,rfl,sc,ns,3,rfl,hS4,l2,_,_,rfl,s4 _ _ h23,ql M9,(nine ok1).2,(nine ok1).1,fun H5 x5 s5 lt5=>⟨_,_,rfl,M9,lt5,fun H6 y6 s6 g6=>?_⟩⟩;have s26:=(s3.trans s4).trans (s5.trans s6);refine ⟨_,rfl,y6,_,sp1,rfl,g6,r1.same (s2.trans s26),fun qq hq=>(ok1.row qq hq).r1,by have:=ok1.n8; omega,fun H7 s7=>⟨_,rfl,dG ?_⟩⟩;have s17:=(s1.trans s2).trans (s26.trans s7);have hS7:=s17.seq hS;clear h23 h2 r1 g3 g6 lt5 M9 ok1;refine ⟨_,rfl,sc,ns,0,rfl,hS7,fun H8 v8 sp s8 r8 ok okS=>?_⟩;have pK:=ok.pK;refine ⟨_,rfl,_,sp,rfl,r8,ok,fun H9 x9 s9 g9=>⟨_,rfl,_,sp,rfl,r8.same s9,ok,fun H10 l10 wL h10=>?_⟩⟩;refine ⟨rfl,_,rfl,_,l10,_,rfl,rfl,cU.of h10,?_,?_⟩
  ·exact EY (ql pK) (nine ok).1
  have r10:=r8.same (s9.trans wL);have g10:=g9.same wL;refine ⟨_,rfl,x9,_,rfl,g10,pK,fun H11 Aw=>⟨_,rfl,rfl,_,rfl,?_⟩⟩;rw [show decide (V.str (Ms (fP sp).rws)=V.str (Txt.join ⟨#[10]⟩ ((fP sp).rws.map gj)))=true from aK rfl];refine dG ?_;refine ⟨_,rfl,_,_,rfl,pK,plain_text (ql pK) (fun z=>nomatch z) (nine ok).1,fun H12 y12 s12 g12=>?_⟩;have Ue:=Aw.trans s12;refine ⟨_,rfl,y12,_,sp,rfl,g12,r10.same Ue,fun qq hq=>(ok.row qq hq).r1,by have:=ok.n8; omega,fun H13 CV=>⟨_,rfl,dG ?_⟩⟩;have Nb:=Ue.trans CV;have aeS:=((s8.trans s9).trans (wL.trans Nb)).seq hS7;refine ⟨_,rfl,_,rfl,sc,ns,3,rfl,aeS,l10,_,_,rfl,Nb _ _ h10,ql pK,(nine ok).2,(nine ok).1,fun H14 x14 Od ajC=>⟨_,_,rfl,pK,ajC,fun H15 y15 Oe g15=>?_⟩⟩;have Ug:=Nb.trans (Od.trans Oe);refine ⟨_,rfl,_,rfl,y15,_,sp,rfl,g15,r10.same Ug,fun qq hq=>(ok.row qq hq).r1,by have:=ok.n8; omega,fun H16 s16=>⟨_,rfl,dG ?_⟩⟩;refine ⟨_,rfl,y15,_,rfl,g15.same s16,pK,fun H17 aeT=>⟨_,rfl,rfl,_,rfl,?_⟩⟩;rw [show decide (V.str (Ms (fP sp).rws)=V.str (Txt.join ⟨#[10]⟩ ((fP sp).rws.map gj)))=true from aK rfl];refine dG ?_;have Nf:=Ug.trans (s16.trans aeT);exact Cu _ H17 sc l10 x9 ns _ sp _ _ _ _ _ _ _ _ _ _ _ _ ((Od.trans (Oe.trans (s16.trans aeT))).seq aeS) (r10.same Nf) ok okS (Nf _ _ h10) (g10.same Nf) q
end
theorem len1 {us:List aA} (h:us.length=1):∃ x,us=[x]:=match us,h with | [x],_=>⟨x,rfl⟩
theorem len2 {us:List aA} (h:us.length=2):∃ x y,us=[x,y]:=match us,h with | [x,y],_=>⟨x,y,rfl⟩
theorem ajE {us:List aA} (h:us.length=3):∃ x y z,us=[x,y,z]:=match us,h with | [x,y,z],_=>⟨x,y,z,rfl⟩
theorem S6 {P:List aA->Prop} (h:∀ x,P [x]):∀ us,us.length=1->P us
 | [x],_=>h x
theorem Og {P:List aA->Prop} (h:∀ x y,P [x,y]):∀ us,us.length=2->P us
 | [x,y],_=>h x y
theorem ul3 {P:List aA->Prop} (h:∀ x y z,P [x,y,z]):∀ us,us.length=3->P us
 | [x,y,z],_=>h x y z
theorem aog {us:List aA} (h:us.length=4):∃ x y z u,us=[x,y,z,u]:=match us,h with | [x,y,z,u],_=>⟨x,y,z,u,rfl⟩
theorem ul4 {P:List aA->Prop} (h:∀ x y z u,P [x,y,z,u]):∀ us,us.length=4->P us
 | [x,y,z,u],_=>h x y z u
abbrev fN (x q:Str) (s:cV) (dv kV dc pm:aA) (an:Option aB) (cd ct:aA):d9:=fnOf x q (jZ s) (gk s) (aY s) dv kV dc pm an cd ct
def lJ (K:Fg) (x:Str) (st:cV) (ps:List Str):Prop:=∃ f fd,nsIn K mainGlobals x=some (some (.ref f))/\Fn K x x st ps f fd
def Cw (K:Fg) (C:aB) (x q:Str) (st:cV) (ps:List Str):Prop:=∃ f fd,Fn K x q st ps f fd/\Meth K C x f
theorem ni {K:Fg} {h:Heap} {mg:Str->Option aA} {x:Str} {st:cV} {ps:List Str} (X:K.In h) (G:h.Ns mainGlobals mg) (t:lJ K x st ps):∃ f fd,Fn K x x st ps f fd/\mg x=some (.ref f):=by
 obtain ⟨f,fd,a,F⟩:=t;exact ⟨f,fd,F,mg_of X G a⟩
section
variable {K:Fg} {C f:aB} {x q:Str} {st:cV} {ps:List Str} {od an:Option aB} {sl:Array (Option aA)} {oc kV dc pm cd ct:aA}
theorem zV (a:nsIn K mainGlobals x=some (some (.ref f))) (l:K.lookup f=some ⟨oc,od,.func (fN x x st .none kV dc pm an cd ct),sl⟩) (c:codeIn K cd x=true) (k:keepIn K (.ref f)=true) (hb:nJ K x x st f (fN x x st .none kV dc pm an cd ct)->Binds K (fN x x st .none kV dc pm an cd ct) ps []):lJ K x st ps := ⟨f,_,a,⟨gA l c k,hb (gA l c k)⟩⟩
theorem Uh (a:findIn K (.ref C) x=some (some (.ref f))) (i:isFn K (.ref f)=true) (l:K.lookup f=some ⟨oc,od,.func (fN x q st .none kV dc pm an cd ct),sl⟩) (c:codeIn K cd q=true) (k:keepIn K (.ref f)=true) (hb:nJ K x q st f (fN x q st .none kV dc pm an cd ct)->Binds K (fN x q st .none kV dc pm an cd ct) ps []):Cw K C x q st ps := ⟨f,_,⟨gA l c k,hb (gA l c k)⟩,⟨a,i,k⟩⟩
end
theorem all_mk {l:PySem.W.OpenLaw} {w:World} {K:Fg} {h:Heap} {mg:Str->Option aA} {fa:aB} (X:K.In h) (G:h.Ns mainGlobals mg) (hfa:mg "law"=some (.ref fa)) {Bx dB fQ tooMany pot cactus garden fWh fNm K8 RN RP RQ BJ BK BL Td Oa fSz S7 fBI S8 Ts aax:aB} {ajG ajH ajI ajJ ajK ajL u1 u2 u3 aeW:Tok} {ajM aeX ajN aeY ajO aeZ ajP ae0 ajQ ae1 ajR ae2 ae3 Ui ae4 Uj ae5 Uk odT ae6 Fl ajS ae7 ae8 Ul ajT ajU ajV Um Cy ae9 afa pQ:Option aB} {ajW ajX ajY ajZ aj0 aj1 afb afc afd slT afe aj2 afg aj3 Uo afh afi:Array (Option aA)} {aj4 afj afk afl aay afm aj5 afn afo afp aaz afq aj6 afr afs aft aaA afu aj7 afv afw afx aaB afy aj8 afz afA afB aaC afC aj9 afD afE afF aaD afG afH Uq Ur Us Ng Ut afI Uu Uv Uw Nh Ux afJ Uy Uz UG Ni UJ ocT afK Fo Fp Fq Cz Ft akb afL afM afN aaE afO afP UL UW U0 Nj U3 akc akd ake akf afQ akg U4 CJ CK CN yG CP afR afS pR pU pW oE pX:aA} {nT akh:Nat} {aki akj:Str} {akk afT akl:List aA} {aaF:aB} {akm akn:Bool} {ako:List Str} {akp:Option Bool} {akq akr aks akt aku:Option aA} (mQ:nsIn K mainGlobals "isinstance"=some none) (Fv:nsIn K mainGlobals "bool"=some none) (Nk:nsIn K mainGlobals "int"=some none) (Nm:nsIn K mainGlobals "str"=some none) (Fw:nsIn K mainGlobals "list"=some none) (zW:nsIn K mainGlobals "tuple"=some none) (Np:nsIn K mainGlobals "len"=some none) (Nq:nsIn K mainGlobals "all"=some none) (Nr:nsIn K mainGlobals "set"=some none) (Nt:nsIn K mainGlobals "zip"=some none) (qu:nsIn K mainGlobals "reversed"=some none) (zX:nsIn K mainGlobals "range"=some none) (oF:nsIn K mainGlobals "enumerate"=some none) (Nu:nsIn K mainGlobals "max"=some none) (Nv:nsIn K mainGlobals "sum"=some none) (wD:nsIn K mainGlobals "sorted"=some none) (aaG:nsIn K mainGlobals "LONGEST_NAME"=some (some (.int 12 ajG))) (aaH:nsIn K mainGlobals "MOST_GAP"=some (some (.int 60 ajH))) (aaI:nsIn K mainGlobals "MOST_POTS"=some (some (.int 8 ajI))) (aaJ:nsIn K mainGlobals "MOST_CANS"=some (some (.int 8 ajJ))) (aaK:nsIn K mainGlobals "MOST_WEEK"=some (some (.int 14 ajK))) (aaL:nsIn K mainGlobals "MOST_STATES"=some (some (.int 20000 ajL))) (Fx:nsIn K mainGlobals "GardenError"=some (some (.ref Bx))) (wG:nsIn K mainGlobals "BadPot"=some (some (.ref dB))) (wH:nsIn K mainGlobals "BadRow"=some (some (.ref fQ))) (sG:nsIn K mainGlobals "TooMany"=some (some (.ref tooMany))) (Nx:nsIn K mainGlobals "Pot"=some (some (.ref pot))) (wI:nsIn K mainGlobals "Cactus"=some (some (.ref cactus))) (wJ:nsIn K mainGlobals "Garden"=some (some (.ref garden))) (ne:pot≠cactus) (aWh:nsIn K mainGlobals "is_whole"=some (some (.ref fWh))) (lWh:K.lookup fWh=some ⟨aj4,ajM,.func (fN "is_whole" "is_whole" rR .none afj afk afl aeX aay afm),ajW⟩) (cWh:codeIn K aay "is_whole"=true) (kWh:keepIn K (.ref fWh)=true) (aNm:nsIn K mainGlobals "is_name"=some (some (.ref fNm))) (lNm:K.lookup fNm=some ⟨aj5,ajN,.func (fN "is_name" "is_name" oY .none afn afo afp aeY aaz afq),ajX⟩) (cNm:codeIn K aaz "is_name"=true) (kNm:keepIn K (.ref fNm)=true) (aPI:findIn K (.ref pot) "__init__"=some (some (.ref K8))) (iPI:isFn K (.ref K8)=true) (lPI:K.lookup K8=some ⟨aj6,ajO,.func (fN "__init__" "Pot.__init__" nR .none afr afs aft aeZ aaA afu),ajY⟩) (cPI:codeIn K aaA "Pot.__init__"=true) (kPI:keepIn K (.ref K8)=true) (aPG:findIn K (.ref pot) "with_gap"=some (some (.ref RN))) (iPG:isFn K (.ref RN)=true) (lPG:K.lookup RN=some ⟨aj7,ajP,.func (fN "with_gap" "Pot.with_gap" qP .none afv afw afx ae0 aaB afy),ajZ⟩) (cPG:codeIn K aaB "Pot.with_gap"=true) (kPG:keepIn K (.ref RN)=true) (aCI:findIn K (.ref cactus) "__init__"=some (some (.ref RP))) (iCI:isFn K (.ref RP)=true) (lCI:K.lookup RP=some ⟨aj8,ajQ,.func (fN "__init__" "Cactus.__init__" nU .none afz afA afB ae1 aaC afC),aj0⟩) (cCI:codeIn K aaC "Cactus.__init__"=true) (kCI:keepIn K (.ref RP)=true) (aCG:findIn K (.ref cactus) "with_gap"=some (some (.ref RQ))) (iCG:isFn K (.ref RQ)=true) (lCG:K.lookup RQ=some ⟨aj9,ajR,.func (fN "with_gap" "Cactus.with_gap" qQ .none afD afE afF ae2 aaD afG),aj1⟩) (cCG:codeIn K aaD "Cactus.with_gap"=true) (kCG:keepIn K (.ref RQ)=true) (aaM:nsIn K mainGlobals "own_pots"=some (some (.ref BJ))) (aaN:K.lookup BJ=some ⟨afH,ae3,.func (fN "own_pots" "own_pots" Lf .none Uq Ur Us Ui Ng Ut),afb⟩) (aaO:codeIn K Ng "own_pots"=true) (kOwn:keepIn K (.ref BJ)=true) (aaP:nsIn K mainGlobals "refuse_bad_counts"=some (some (.ref BK))) (aaQ:K.lookup BK=some ⟨afI,ae4,.func (fN "refuse_bad_counts" "refuse_bad_counts" Lg .none Uu Uv Uw Uj Nh Ux),afc⟩) (aaR:codeIn K Nh "refuse_bad_counts"=true) (aaS:keepIn K (.ref BK)=true) (aaT:nsIn K mainGlobals "refuse_name_twice"=some (some (.ref BL))) (aaU:K.lookup BL=some ⟨afJ,ae5,.func (fN "refuse_name_twice" "refuse_name_twice" Lh .none Uy Uz UG Uk Ni UJ),afd⟩) (aaV:codeIn K Ni "refuse_name_twice"=true) (aaW:keepIn K (.ref BL)=true) (aGI:findIn K (.ref garden) "__init__"=some (some (.ref Oa))) (iGI:isFn K (.ref Oa)=true) (lGI:K.lookup Oa=some ⟨afK,ae6,.func (fN "__init__" "Garden.__init__" R0 (.ref Td) Fo Fp Fq Fl Cz Ft),afe⟩) (cGI:codeIn K Cz "Garden.__init__"=true) (kGI:keepIn K (.ref Oa)=true) (lT:K.lookup Td=some ⟨ocT,odT,.seq #[.int 1 u1,.int 1 u2,.int 0 u3] nT,slT⟩) (aSz:findIn K (.ref garden) "size"=some (some (.ref fSz))) (iSz:isFn K (.ref fSz)=true) (lSz:K.lookup fSz=some ⟨akb,ajS,.func (fN "size" "Garden.size" BX .none afL afM afN ae7 aaE afO),aj2⟩) (cSz:codeIn K aaE "Garden.size"=true) (kSz:keepIn K (.ref fSz)=true) (aaX:nsIn K mainGlobals "joined"=some (some (.ref S7))) (aaY:K.lookup S7=some ⟨afP,ae8,.func (fN "joined" "joined" yw .none UL UW U0 Ul Nj U3),afg⟩) (aaZ:codeIn K Nj "joined"=true) (aa0:keepIn K (.ref S7)=true) (aa1:lJ K "is_set" zK ["number","bit"]) (aa2:Cw K pot "may" "Pot.may" uJ ["self","since"]) (aa3:Cw K cactus "may" "Cactus.may" uK ["self","since"]) (aa4:Cw K pot "words" "Pot.words" oZ ["self"]) (aa5:Cw K cactus "words" "Cactus.words" o7 ["self"]) (aBI:findIn K (.ref fQ) "__init__"=some (some (.ref fBI))) (iBI:isFn K (.ref fBI)=true) (lBI:K.lookup fBI=some ⟨akc,ajT,.func (fN "__init__" "BadRow.__init__" LK .none akd ake akf ajU afQ akg),aj3⟩) (cBI:codeIn K afQ "BadRow.__init__"=true) (kBI:keepIn K (.ref fBI)=true) (aa6:K.lookup fQ=some ⟨.type "type",ajV,.cls ⟨aki,akk,.ref fQ::afT,aaF,akj,akm,ako,akl,akn,akp,false⟩,#[akq,akr,aks,akt,some (.builtin "ValueError.__new__"),aku]⟩) (aa7:tailIn K K7 afT=true) (aa8:nsOkIn K aaF=true) (aa9:nsIn K aaF "__init__"=some (some (.ref fBI))) (abb:findIn K (.ref fQ) "__setattr__"=some (some (.builtin "object.__setattr__"))) (abd:zp K fQ=true) (abe:takerIn K fQ "row"=some none) (Ny:hasDictIn K fQ=true) (afU:findIn K (.ref fQ) "row"=some none) (rdG:readsIn K Bx (.type "type")=true) (gaG:specialIn K (.ref Bx) "__getattribute__"=some (some (.builtin "type.__getattribute__"))) (atG:findCls K (.ref Bx) (.type "type") "__init__"=some (.val (.builtin "ValueError.__init__"))) (abf:lJ K "number_in" zL ["word","row"]) (abg:lJ K "head_in" o8 ["words","row"]) (abh:lJ K "pot_in" rZ ["words","row"]) (abj:lJ K "words_in" nZ ["line"]) (abk:lJ K "numbered_rows" qU ["lines"]) (abl:lJ K "pots_in" uL ["rows"]) (abm:lJ K "read" G6 ["text"]) (abn:lJ K "written" ou ["garden"]) (abo:nsIn K mainGlobals "sheet"=some (some (.ref S8))) (abp:K.lookup S8=some ⟨U4,Um,.func (fN "sheet" "sheet" mO (.ref Ts) CJ CK CN Cy yG CP),Uo⟩) (abq:codeIn K yG "sheet"=true) (abr:keepIn K (.ref S8)=true) (S9:K.lookup Ts=some ⟨afR,ae9,.seq #[.int 0 aeW] akh,afh⟩) (abt:lJ K "_law_cell_at" GJ ["_law_script","_law_k"]) (abu:lJ K "_law_draw" GK ["_law_cell","_law_k","_law_many"]) (abv:lJ K "_law_spec" pP ["_law_script","_law_first"]) (abw:lJ K "_law_garden" qZ ["_law_spec_here"]) (abx:lJ K "_law_plain" wA ["_law_spec_here"]) (aby:lJ K "_law_loose" zR ["_law_rows","_law_cell"]) (abz:lJ K "_law_same" Hq ["_law_garden_here","_law_spec_here"]) (abA:lJ K "_law_sheet" uO ["_law_rows","_law_width"]) (abB:lJ K "_law_great" zU ["_law_script"]) (Tc:nsIn K mainGlobals "law"=some (some (.ref aax))) (abC:K.lookup aax=some ⟨afS,afa,.func (fN "law" "law" lH .none pR pU pW pQ oE pX),afi⟩) (abD:codeIn K oE "law"=true) (abE:keepIn K (.ref aax)=true) (kpc:kitOne K (.ref pot) (.ref cactus)=some false) (kcc:kitOne K (.ref cactus) (.ref cactus)=some true) (gt:specialIn K (.builtin "object.__class__") "__get__"=some (some (.builtin "getset_descriptor.__get__"))) (tk:takesIn K (.builtin "object.__class__")=some true) (Fy:plainGet K pot Str.empty=true) (Fz:hasDictIn K pot=true) (FJ:plainOver K pot=true) (FN:findIn K (.ref pot) "__setattr__"=some (some (.builtin "object.__setattr__"))) (FP:findIn K (.ref pot) "__class__"=some (some (.builtin "object.__class__"))) (FQ:mroIn K pot (.type "object")=some true) (oG:kitOne K (.ref pot) (.type "bool")=some false) (qw:kitOne K (.ref pot) (.type "int")=some false) (qx:kitOne K (.ref pot) (.type "str")=some false) (oH:kitOne K (.ref pot) (.type "list")=some false) (mU:kitOne K (.ref pot) (.type "tuple")=some false) (FT:makesIn K pot=true) (FW:keepIn K (.ref pot)=true) (sH:plainGet K cactus Str.empty=true) (sI:hasDictIn K cactus=true) (sJ:plainOver K cactus=true) (sO:findIn K (.ref cactus) "__setattr__"=some (some (.builtin "object.__setattr__"))) (sV:findIn K (.ref cactus) "__class__"=some (some (.builtin "object.__class__"))) (sW:mroIn K cactus (.type "object")=some true) (jN:kitOne K (.ref cactus) (.type "bool")=some false) (kJ:kitOne K (.ref cactus) (.type "int")=some false) (kO:kitOne K (.ref cactus) (.type "str")=some false) (jO:kitOne K (.ref cactus) (.type "list")=some false) (jq:kitOne K (.ref cactus) (.type "tuple")=some false) (sX:makesIn K cactus=true) (sY:keepIn K (.ref cactus)=true) (sZ:plainGet K garden Str.empty=true) (tD:hasDictIn K garden=true) (tE:plainOver K garden=true) (tH:findIn K (.ref garden) "__setattr__"=some (some (.builtin "object.__setattr__"))) (tK:findIn K (.ref garden) "__class__"=some (some (.builtin "object.__class__"))) (tL:mroIn K garden (.type "object")=some true) (jP:kitOne K (.ref garden) (.type "bool")=some false) (kY:kitOne K (.ref garden) (.type "int")=some false) (kZ:kitOne K (.ref garden) (.type "str")=some false) (jQ:kitOne K (.ref garden) (.type "list")=some false) (jr:kitOne K (.ref garden) (.type "tuple")=some false) (tM:makesIn K garden=true) (tO:keepIn K (.ref garden)=true) (oJ:findIn K (.ref pot) "name"=some none) (qy:findIn K (.ref pot) "gap"=some none) (oK:findIn K (.ref pot) "rest"=some none) (jR:findIn K (.ref cactus) "name"=some none) (lq:findIn K (.ref cactus) "gap"=some none) (jT:findIn K (.ref cactus) "rest"=some none) (jU:findIn K (.ref garden) "pots"=some none) (jV:findIn K (.ref garden) "cans"=some none) (jW:findIn K (.ref garden) "week"=some none) (jc:findIn K (.ref garden) "closed"=some none) (rdP:readsIn K pot (.type "type")=true) (gaP:specialIn K (.ref pot) "__getattribute__"=some (some (.builtin "type.__getattribute__"))) (atP:findCls K (.ref pot) (.type "type") "__init__"=some (.val (.ref K8))) (kpp:kitOne K (.ref pot) (.ref pot)=some true) (kcp:kitOne K (.ref cactus) (.ref pot)=some true) (oM:kitOne K (.type "NoneType") (.ref pot)=some false) (zY:kitOne K (.type "bool") (.ref pot)=some false) (FZ:kitOne K (.type "int") (.ref pot)=some false) (Ga:kitOne K (.type "str") (.ref pot)=some false) (zZ:kitOne K (.type "list") (.ref pot)=some false) (wK:kitOne K (.type "tuple") (.ref pot)=some false) (tQ:excIn K dB K7 "ValueError.__new__"=true) (qz:excIn K tooMany K7 "ValueError.__new__"=true) : ∃ fd:d9,(∀ (s:aM) (v:aA),BindsTo s fd ⟨[v],[]⟩ [("_law_script",v)])/\∀ base:Heap,K.In base->base.Ns mainGlobals mg->cB l.prog w K mg base (fK l.prog w) 10 fa fd ["_law_script"] (Hw K):=by
 have e:=hfa.symm.trans (mg_of X G Tc);cases e;have abF:=mg_of X G Fx;have Nz:=mg_of X G wG;have NK:=mg_of X G wH;have Jt:=mg_of X G sG;have afV:=mg_of X G Nx;have NP:=mg_of X G wI;have NQ:=mg_of X G wJ;have FWh:=gA (st:=rR) lWh cWh kWh;have bWh:=FWh.binds (ps:=["value","least","most"]) fun _ _ _ _ _ _=>ul3 fun _ _ _=>rfl
 have mWh:=mg_of X G aWh;have FNm:=gA (st:=oY) lNm cNm kNm;have bNm:=FNm.binds (ps:=["value"]) fun _ _ _ _ _ _=>S6 fun _=>rfl
 have mNm:=mg_of X G aNm;have FPI:=gA (st:=nR) lPI cPI kPI;have bPI:=FPI.binds (ps:=["self","name","gap"]) fun _ _ _ _ _ _=>ul3 fun _ _ _=>rfl
 have FPG:=gA (st:=qP) lPG cPG kPG;have bPG:=FPG.binds (ps:=["self","gap"]) fun _ _ _ _ _ _=>Og fun _ _=>rfl
 have FCI:=gA (st:=nU) lCI cCI kCI;have bCI:=FCI.binds (ps:=["self","name","gap","rest"]) fun _ _ _ _ _ _=>ul4 fun _ _ _ _=>rfl
 have FCG:=gA (st:=qQ) lCG cCG kCG;have bCG:=FCG.binds (ps:=["self","gap"]) fun _ _ _ _ _ _=>Og fun _ _=>rfl
 have afW:=gA (st:=Lf) aaN aaO kOwn;have ale:=afW.binds (ps:=["pots"]) fun _ _ _ _ _ _=>S6 fun _=>rfl
 have ZP:=mg_of X G aaM;have afX:=gA (st:=Lg) aaQ aaR aaS;have alf:=afX.binds (ps:=["pots","cans","week","closed"]) fun _ _ _ _ _ _=>ul4 fun _ _ _ _=>rfl
 have ZQ:=mg_of X G aaP;have afY:=gA (st:=Lh) aaU aaV aaW;have alg:=afY.binds (ps:=["pots"]) fun _ _ _ _ _ _=>S6 fun _=>rfl
 have ZR:=mg_of X G aaT;have FSz:=gA (st:=BX) lSz cSz kSz;have bSz:=FSz.binds (ps:=["self"]) fun _ _ _ _ _ _=>S6 fun _=>rfl
 have afZ:=gA (st:=yw) aaY aaZ aa0;have alh:=afZ.binds (ps:=["one","other"]) fun _ _ _ _ _ _=>Og fun _ _=>rfl
 have ali:=mg_of X G aaX;have FBI:=gA (st:=LK) lBI cBI kBI;have bBI:=FBI.binds (ps:=["self","row"]) fun _ _ _ _ _ _=>Og fun _ _=>rfl
 have alj:Ei K "sheet" "sheet" mO (.ref Ts) S8 (fN "sheet" "sheet" mO (.ref Ts) CJ CK CN Cy yG CP):=⟨⟨U4,Um,CJ,CK,CN,Cy,yG,CP,Uo,rfl,abp,abq⟩,abr⟩;have af0:Binds K (fN "sheet" "sheet" mO (.ref Ts) CJ CK CN Cy yG CP) ["rows","width"] []:=fun s us hK hl=>match us,hl with | [_,_],_=>binds_K hK rfl S9 rfl rfl rfl
 have af2:Binds K (fN "sheet" "sheet" mO (.ref Ts) CJ CK CN Cy yG CP) ["rows","width"] [.int 0 aeW]:=fun s us hK hl=>(by obtain ⟨x,rfl⟩:=len1 (show us.length=1 by simpa using hl); exact binds_K hK rfl S9 rfl rfl rfl)
 have alk:=mg_of X G abo;have af3:=gA (st:=lH) abC abD abE;have aou:=af3.binds (ps:=["_law_script"]) fun _ _ _ _ _ _=>S6 fun _=>rfl
 have aov:=mg_of X G Tc;have af4:Bc K pot:=⟨⟨Fy,Fz,FJ,FN⟩,FP,gt,tk,FQ,fun b=>(by cases b; exact oG; exact qw; exact qx; exact oH; exact mU)⟩;have NT:Bc K cactus:=⟨⟨sH,sI,sJ,sO⟩,sV,gt,tk,sW,fun b=>(by cases b; exact jN; exact kJ; exact kO; exact jO; exact jq)⟩;have NZ:Bc K garden:=⟨⟨sZ,tD,tE,tH⟩,tK,gt,tk,tL,fun b=>(by cases b; exact jP; exact kY; exact kZ; exact jQ; exact jr)⟩;have af5:∀ f ∈ (["name","gap","rest"]:List Str),iV K pot f:=fun f hf=>(by simp only [aQ,mem_nil_iff,or_false] at hf; rcases hf with rfl | rfl | rfl; exact oJ; exact qy; exact oK)
 have N5:∀ f ∈ (["name","gap","rest"]:List Str),iV K cactus f:=fun f hf=>(by simp only [aQ,mem_nil_iff,or_false] at hf; rcases hf with rfl | rfl | rfl; exact jR; exact lq; exact jT)
 have N6:∀ f ∈ (["pots","cans","week","closed"]:List Str),iV K garden f:=fun f hf=>(by simp only [aQ,mem_nil_iff,or_false] at hf; rcases hf with rfl | rfl | rfl | rfl; exact jU; exact jV; exact jW; exact jc)
 obtain ⟨a,ea⟩:∃ a:gU,a=⟨pot,cactus,garden,dB,tooMany,fa,fa,Bx,fQ,fa,fWh,fNm,K8,RN,RP,RQ,BJ,BK,BL,Oa,fSz,fa,fa,fa,S7,fa,fa,fa,fa,fa,(fN "is_whole" "is_whole" rR .none afj afk afl aeX aay afm),(fN "is_name" "is_name" oY .none afn afo afp aeY aaz afq),(fN "__init__" "Pot.__init__" nR .none afr afs aft aeZ aaA afu),(fN "with_gap" "Pot.with_gap" qP .none afv afw afx ae0 aaB afy),(fN "__init__" "Cactus.__init__" nU .none afz afA afB ae1 aaC afC),(fN "with_gap" "Cactus.with_gap" qQ .none afD afE afF ae2 aaD afG),(fN "own_pots" "own_pots" Lf .none Uq Ur Us Ui Ng Ut),(fN "refuse_bad_counts" "refuse_bad_counts" Lg .none Uu Uv Uw Uj Nh Ux),(fN "refuse_name_twice" "refuse_name_twice" Lh .none Uy Uz UG Uk Ni UJ),(fN "__init__" "Garden.__init__" R0 (.ref Td) Fo Fp Fq Fl Cz Ft),(fN "size" "Garden.size" BX .none afL afM afN ae7 aaE afO),(fN "law" "law" lH .none pR pU pW pQ oE pX),(fN "law" "law" lH .none pR pU pW pQ oE pX),(fN "law" "law" lH .none pR pU pW pQ oE pX),(fN "joined" "joined" yw .none UL UW U0 Ul Nj U3),(fN "law" "law" lH .none pR pU pW pQ oE pX),(fN "law" "law" lH .none pR pU pW pQ oE pX),(fN "law" "law" lH .none pR pU pW pQ oE pX),(fN "law" "law" lH .none pR pU pW pQ oE pX),(fN "law" "law" lH .none pR pU pW pQ oE pX)⟩:=⟨_,rfl⟩;have B:K4 mg:=⟨mg_none_of X G mQ,mg_none_of X G Fv,mg_none_of X G Nk,mg_none_of X G Nm,mg_none_of X G Fw,mg_none_of X G zW,mg_none_of X G Np,mg_none_of X G Nq,mg_none_of X G Nr,mg_none_of X G Nt,mg_none_of X G qu,mg_none_of X G zX⟩;have T:jY K mg a:=by subst ea; exact ⟨B,⟨_,mg_of X G aaG⟩,⟨_,mg_of X G aaH⟩,⟨Nz,tQ⟩,⟨FWh,bWh⟩,mWh,⟨FNm,bNm⟩,mNm,afV,NP,af4,NT,af5,N5,⟨FPI,bPI⟩,⟨FPG,bPG⟩,⟨FCI,bCI⟩,⟨FCG,bCG⟩,⟨FT,aPI,iPI,FW⟩,⟨sX,aCI,iCI,sY⟩,⟨aPG,iPG,kPG⟩,⟨aCG,iCG,kCG⟩,⟨rdP,gaP,atP,kPI⟩,ne⟩
 have kb:∀ k:Kd,(∀ C,k≠.ins C)->kitOne K k.ty (.ref pot)=some false:=fun k hk=>(by cases k; exact oM; exact zY; exact FZ; exact Ga; exact zZ; exact wK; exact absurd rfl (hk _))
 have U:Ef K mg a:=by subst ea; exact ⟨T,kpp,kcp,kb,⟨afW,ale⟩,ZP,⟨afX,alf⟩,ZQ,⟨afY,alg⟩,ZR,⟨Jt,qz⟩,⟨_,mg_of X G aaI⟩,⟨_,mg_of X G aaJ⟩,⟨_,mg_of X G aaK⟩,⟨_,mg_of X G aaL⟩⟩
 have FGI:Ei K "__init__" "Garden.__init__" R0 (.ref Td) Oa (fN "__init__" "Garden.__init__" R0 (.ref Td) Fo Fp Fq Fl Cz Ft):=⟨⟨afK,ae6,Fo,Fp,Fq,Fl,Cz,Ft,afe,rfl,lGI,cGI⟩,kGI⟩;have b4:Binds K (fN "__init__" "Garden.__init__" R0 (.ref Td) Fo Fp Fq Fl Cz Ft) ["self","pots","cans","week","closed"] []:=fun s us hK hl=>match us,hl with | [_,_,_,_,_],_=>binds_K hK rfl lT rfl rfl rfl
 have b1:Binds K (fN "__init__" "Garden.__init__" R0 (.ref Td) Fo Fp Fq Fl Cz Ft) ["self","pots","cans","week","closed"] [.int 1 u1,.int 1 u2,.int 0 u3]:=fun s us hK hl=>(by obtain ⟨x,y,rfl⟩:=len2 (show us.length=2 by simpa using hl); exact binds_K hK rfl lT rfl rfl rfl)
 have b2:Binds K (fN "__init__" "Garden.__init__" R0 (.ref Td) Fo Fp Fq Fl Cz Ft) ["self","pots","cans","week","closed"] [.int 1 u2,.int 0 u3]:=fun s us hK hl=>(by obtain ⟨x,y,z,rfl⟩:=ajE (show us.length=3 by simpa using hl); exact binds_K hK rfl lT rfl rfl rfl)
 have Z:Ej K mg a (.ref Td):=by subst ea; exact ⟨U,NZ,NQ,N6,FGI,b4,⟨_,_,_,b1⟩,⟨_,_,b2⟩,⟨tM,aGI,iGI,tO⟩,⟨FSz,bSz⟩,⟨aSz,iSz,kSz⟩⟩
 have W:Em K mg a (.ref Td):=by subst ea; exact ⟨Z,ni X G aa1,aa2,aa3,aa4,aa5⟩
 have D:Fb K mg:=⟨B,ni X G abt,ni X G abu⟩;have BR:GR K mg a:=by subst ea; exact ⟨abF,⟨rdG,gaG,atG,rfl⟩,⟨_,_,⟨FBI,bBI⟩,⟨⟨_,_,_,_,_,_,_,_,_,_,_,_,_,_,_,_,aa6,aa7,aa8,aa9⟩⟩,iBI⟩,⟨abb,abd,abe,Ny⟩,NK⟩
 have Hd:Mh K mg a:=⟨B,BR,mg_none_of X G Nv,mg_none_of X G wD,ni X G abf⟩;have Rd:Mq K mg a (.ref Td):=⟨⟨T,Hd⟩,Z,mg_none_of X G oF,ni X G abj,ni X G abk,ni X G abg,ni X G abh,ni X G abl⟩;have Sm:M5 K mg a (.ref Td):=⟨W,(by subst ea; exact kpc),(by subst ea; exact kcc)⟩;have R:Hu K mg a (.ref Td):=⟨Sm,Rd,D,mg_none_of X G Nu,ni X G abn,ni X G abm,⟨_,_,⟨afZ,alh⟩,ali⟩,⟨_,_,_,_,alj,af0,af2,alk⟩,ni X G abv,ni X G abw,ni X G abx,ni X G aby,ni X G abz,ni X G abA,ni X G abB⟩;exact ⟨(fN "law" "law" lH .none pR pU pW pQ oE pX),fun s v=>.of_eq rfl,fun base _ _=>aaw af3 R⟩
theorem walk {l:PySem.W.OpenLaw} {q:cg} {loose:List Str} {XP:(Str->Option aA)->Heap->Prop} {YP:World->Heap->Prop} {d:DefRec} {K:Params->Fg} (hn:l.most=some 63) (hdf:d.params.defaults=[]) (hY:∀ (w:World) (h:Heap),YP w h->(K w.params).In h) (F:∀ (w:World) (mg:Str->Option aA) (fa:aB) (h:Heap),(K w.params).In h->h.Ns mainGlobals mg->mg d.name=some (.ref fa) -> ∃ fd:d9,(∀ (s:aM) (u:aA),BindsTo s fd ⟨[u],[]⟩ [("_law_script",u)])/\∀ base:Heap,(K w.params).In base->base.Ns mainGlobals mg->cB l.prog w (K w.params) mg base (fK l.prog w) 10 fa fd ["_law_script"] (Hw (K w.params))) : PySem.W.WalkO q loose XP YP l.row.toRowW d [] (fun f vs=>PySem.call f vs) := L2.Rf (n:=63) (k:=10) (x:="_law_script") (CX:=fun w=>fK l.prog w) (sp:=fun w=>Hw (K w.params)) hn (by decide) hdf ⟨rfl,by decide,by decide⟩ hY F (fun _ _ a ns hl _ hS=>⟨a,ns,rfl,hS,fun _=>rfl⟩) fun _ _ _ _ _ z=>by
 obtain ⟨_,_,_,_,_,_,_,_,_,_,_,_,_,_,_,z⟩:=z;exact z
end Tw
open PySem PySem.W PyProof.Rows
set_option maxRecDepth 100000 in
set_option maxHeartbeats 0 in
theorem PySem.Challenge.cw_thirstwise_k08_gardens_read_and_written_holds : PySem.Challenge.rw_thirstwise_k08_gardens_read_and_written.Holds := by
 w_on; o_law
 refine PySem.W.holds_open (q:=Tw.view) (loose:=Tw.LO) (Xt:=fun s=>xlAt Tw.view [] s && recOk (RowW.records (OpenRow.toRowW (OpenLaw.row PySem.Challenge.rw_thirstwise_k08_gardens_read_and_written))) s) (XP:=XL Tw.view []) (Yf:=Hook.obs (PySem.W.kHook Tw.KK Tw.addrs (fun _=>by kernel_rfl))) (Ya:=Hook.val (PySem.W.kHook Tw.KK Tw.addrs (fun _=>by kernel_rfl))) (YP:=Hook.says (PySem.W.kHook Tw.KK Tw.addrs (fun _=>by kernel_rfl))) (N:=6392) Tw.hl (Hook.of (PySem.W.kHook Tw.KK Tw.addrs (fun _=>by kernel_rfl))) (Hook.keeps (PySem.W.kHook Tw.KK Tw.addrs (fun _=>by kernel_rfl))) (fun s e=>xl_of s (Bool.and_eq_true_iff.mp e).1) XL.keeps (by rfl) (by rfl) (by rfl) (fun s e=>recFacts_of (Bool.and_eq_true_iff.mp e).2) (by rfl) (by first | assumption | decide +kernel) (by decide +kernel) ⟨rfl,rfl,rfl,rfl,rfl,by decide +kernel⟩ ?hw ?hc
 case hw=>w_witness2
 k_fill
 refine Tw.walk (l:=PySem.Challenge.rw_thirstwise_k08_gardens_read_and_written) rfl rfl (fun w h Y=>PySem.W.kIn_of Y) ?F
 case F =>
  intro w mg fa h KX G hmg;refine' Tw.all_mk KX G hmg ?mQ ?Fv ?Nk ?Nm ?Fw ?zW ?Np ?Nq ?Nr ?Nt ?qu ?zX ?oF ?Nu ?Nv ?wD ?aaG ?aaH ?aaI ?aaJ ?aaK ?aaL ?Fx ?wG ?wH ?sG ?Nx ?wI ?wJ ?ne ?aWh ?lWh ?cWh ?kWh ?aNm ?lNm ?cNm ?kNm ?aPI ?iPI ?lPI ?cPI ?kPI ?aPG ?iPG ?lPG ?cPG ?kPG ?aCI ?iCI ?lCI ?cCI ?kCI ?aCG ?iCG ?lCG ?cCG ?kCG ?aaM ?aaN ?aaO ?kOwn ?aaP ?aaQ ?aaR ?aaS ?aaT ?aaU ?aaV ?aaW ?aGI ?iGI ?lGI ?cGI ?kGI ?lT ?aSz ?iSz ?lSz ?cSz ?kSz ?aaX ?aaY ?aaZ ?aa0 ?aa1 ?aa2 ?aa3 ?aa4 ?aa5 ?aBI ?iBI ?lBI ?cBI ?kBI ?aa6 ?aa7 ?aa8 ?aa9 ?abb ?abd ?abe ?Ny ?afU ?rdG ?gaG ?atG ?abf ?abg ?abh ?abj ?abk ?abl ?abm ?abn ?abo ?abp ?abq ?abr ?S9 ?abt ?abu ?abv ?abw ?abx ?aby ?abz ?abA ?abB ?Tc ?abC ?abD ?abE ?kpc ?kcc ?gt ?tk ?Fy ?Fz ?FJ ?FN ?FP ?FQ ?oG ?qw ?qx ?oH ?mU ?FT ?FW ?sH ?sI ?sJ ?sO ?sV ?sW ?jN ?kJ ?kO ?jO ?jq ?sX ?sY ?sZ ?tD ?tE ?tH ?tK ?tL ?jP ?kY ?kZ ?jQ ?jr ?tM ?tO ?oJ ?qy ?oK ?jR ?lq ?jT ?jU ?jV ?jW ?jc ?rdP ?gaP ?atP ?kpp ?kcp ?oM ?zY ?FZ ?Ga ?zZ ?wK ?tQ ?qz
  case mQ | Fv | Nk | Nm | Fw | zW | Np | Nq | Nr | Nt | qu | zX | oF | Nu | Nv | wD | aaG | aaH | aaI | aaJ | aaK | aaL | Fx | wG | wH | sG | Nx | wI | wJ=>k_is
  case ne=>decide
  case aWh | lWh | cWh | kWh | aNm | lNm | cNm | kNm | aPI | iPI | lPI | cPI | kPI | aPG | iPG | lPG | cPG | kPG | aCI | iCI | lCI | cCI | kCI | aCG | iCG | lCG | cCG | kCG | aaM | aaN | aaO | kOwn | aaP | aaQ | aaR | aaS | aaT | aaU | aaV | aaW=>k_is
  case aGI | iGI | lGI | cGI | kGI | lT | aSz | iSz | lSz | cSz | kSz | aaX | aaY | aaZ | aa0=>k_is
  case aa1 =>
   refine' Tw.zV ?a ?l ?c ?k fun F=>F.binds fun _ _ _ _ _ _=>Tw.Og fun _ _=>rfl
   case a | l | c | k=>k_is
  case aa2 | aa3 =>
   refine' Tw.Uh ?a ?i ?l ?c ?k fun F=>F.binds fun _ _ _ _ _ _=>Tw.Og fun _ _=>rfl
   case a | i | l | c | k=>k_is
  case aa4 | aa5 =>
   refine' Tw.Uh ?a ?i ?l ?c ?k fun F=>F.binds fun _ _ _ _ _ _=>Tw.S6 fun _=>rfl
   case a | i | l | c | k=>k_is
  case aBI | iBI | lBI | cBI | kBI | aa6=>k_is
  case aa7 | aa8=>kernel_rfl
  case aa9 | abb=>k_is
  case abd=>kernel_rfl
  case abe | Ny | afU | rdG | gaG | atG=>k_is
  case abf | abg | abh =>
   refine' Tw.zV ?a ?l ?c ?k fun F=>F.binds fun _ _ _ _ _ _=>Tw.Og fun _ _=>rfl
   case a | l | c | k=>k_is
  case abj | abk | abl | abm | abn =>
   refine' Tw.zV ?a ?l ?c ?k fun F=>F.binds fun _ _ _ _ _ _=>Tw.S6 fun _=>rfl
   case a | l | c | k=>k_is
  case abo | abp | abq | abr | S9=>k_is
  case abt =>
   refine' Tw.zV ?a ?l ?c ?k fun F=>F.binds fun _ _ _ _ _ _=>Tw.Og fun _ _=>rfl
   case a | l | c | k=>k_is
  case abu =>
   refine' Tw.zV ?a ?l ?c ?k fun F=>F.binds fun _ _ _ _ _ _=>Tw.ul3 fun _ _ _=>rfl
   case a | l | c | k=>k_is
  case abv =>
   refine' Tw.zV ?a ?l ?c ?k fun F=>F.binds fun _ _ _ _ _ _=>Tw.Og fun _ _=>rfl
   case a | l | c | k=>k_is
  case abw | abx =>
   refine' Tw.zV ?a ?l ?c ?k fun F=>F.binds fun _ _ _ _ _ _=>Tw.S6 fun _=>rfl
   case a | l | c | k=>k_is
  case aby | abz | abA =>
   refine' Tw.zV ?a ?l ?c ?k fun F=>F.binds fun _ _ _ _ _ _=>Tw.Og fun _ _=>rfl
   case a | l | c | k=>k_is
  case abB =>
   refine' Tw.zV ?a ?l ?c ?k fun F=>F.binds fun _ _ _ _ _ _=>Tw.S6 fun _=>rfl
   case a | l | c | k=>k_is
  case Tc | abC | abD | abE=>k_is
  case kpc | kcc=>kit_is
  case gt | tk | Fy | Fz | FJ | FN | FP | FQ=>k_is
  case oG | qw | qx | oH | mU=>kit_is
  case FT | FW | sH | sI | sJ | sO | sV | sW=>k_is
  case jN | kJ | kO | jO | jq=>kit_is
  case sX | sY | sZ | tD | tE | tH | tK | tL=>k_is
  case jP | kY | kZ | jQ | jr=>kit_is
  case tM | tO | oJ | qy | oK | jR | lq | jT | jU | jV | jW | jc | rdP | gaP | atP=>k_is
  case kpp | kcp | oM | zY | FZ | Ga | zZ | wK=>kit_is
  case tQ | qz=>k_exc
