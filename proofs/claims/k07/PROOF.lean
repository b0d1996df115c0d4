import PyProof.Rows.All
import Wide.All
import Wide.FinOn
import OpenK.KLine
import KE.KIsAll
import KE.RegKIsAll
import KE.RegKTryMore
import OpenK.KOwn
import KE.KRevIter
import KE.KRevSl
import KE.KItem
import KE.KxBytes
import Lean
import PyProof.EqAt
import PyProof.EqKinds
import PyProof.TupleCall
import PyProof.DictRoadsH
import PyProof.DictKinds
import PyProof.AttrMiss
import PyProof.IsiH_list
import PyProof.ListNew
import PyProof.FactsAll.dict
import KE.KLam
import KE.KMinKey
import PyProof.Rows.TupTab
import KE.KNest
import PyProof.Rows.SumAny
import PyProof.ExcClass2
import PyProof.ExcInit
import PyProof.Rows.FStr
import PyProof.Rows.SetFrom
import PyProof.DictTruth
import PySem.Challenge.RW_thirstwise_k07_whole_rounds_kept
set_option compiler.extract_closed false
set_option genSizeOf false
set_option bootstrap.genMatcherCode false
noncomputable section
set_option Elab.async false
set_option autoImplicit true
set_option relaxedAutoImplicit true
set_option linter.all false
set_option maxRecDepth 1000000
set_option maxHeartbeats 0
theorem zau0a(h:True:=by rfl):True:=trivial
abbrev zau0:=zau0a._auto_1
theorem zau1a(h:True:=by decide):True:=trivial
abbrev zau1:=zau1a._auto_1
theorem zau2a(h:True:=by first|exact .inl rfl|exact .inr rfl|assumption):True:=trivial
abbrev zau2:=zau2a._auto_1
theorem zau3a(h:True:=by intro _;rfl):True:=trivial
abbrev zau3:=zau3a._auto_1
theorem zau4a(h:True:=by decide +kernel):True:=trivial
abbrev zau4:=zau4a._auto_1
theorem zau5a(h:True:=by with_unfolding_all rfl):True:=trivial
abbrev zau5:=zau5a._auto_1
open PySem.W (CodeHd InstAt KitX Looks any_some binds_K callWith_K cellsFrom_some check_slot clsIn cls_value codeIn codeRec_of emptyDict envX excIn exmOne findCls findIn findObj findObj_own fnOf handedIn handed_on hasDictIn instObj isClsIn isFn isNs_of_in keepIn kia_one kitOne kitx_dict kitx_list kla_fn kla_obj lookIn looks_clsIn looks_find looks_findIn looks_subIn makesIn methodCall_KW methodObj method_cls mg_none_of mg_of mroIn notCls nsIn nsOkIn plainGet plainGet_of plainOver readsIn set_plain specialIn subIn tabObj tailIn tail_of_in takerIn takesIn typeIn)
open List (Nodup Pairwise all_append all_cons all_eq_true all_map any_cons any_eq_false any_eq_true append_nil countP_cons drop_length ext_getElem? filterMap_cons filter_append findSome?_cons getD idxOf_cons idxOf_lt_length_of_mem length_append length_cons length_drop length_filter_le length_map length_range length_replicate length_reverse length_set length_take length_zip map_append map_cons map_id' map_map map_nil map_set map_take mem_append mem_append_left mem_append_right mem_cons mem_cons_of_mem mem_cons_self mem_filter mem_filterMap mem_iff_getElem? mem_map mem_nil_iff mem_of_getElem? mem_range mem_singleton nodup_append nodup_cons nodup_nil not_mem_nil of_mem_zip pairwise_map range_succ range_succ_eq_map size_toArray take_length take_zero)
open PyProof.Rows (bitAnd_pp boot_all boot_dict boot_int boot_isinstance boot_list boot_set callWith_builtin1 callWith_type1)
abbrev aj := @PySem.wpAny_bind
abbrev au := @PySem.wpAny_pure
abbrev cW := @PySem.wpAny_mono
abbrev cY := @PySem.codeAny_mono
abbrev aq := @PySem.Heap.get?_push_of_some
abbrev aN := @PySem.Heap.get?_push_size
abbrev aM := @List.getElem?_eq_some_iff
abbrev aA := @List.getElem?_eq_getElem
abbrev aJ := @List.getElem?_map
abbrev ak := @List.length_map
abbrev aY := @List.length_append
abbrev bK := @List.length_range
abbrev aH := @List.mem_singleton
abbrev bM := @List.mem_map
abbrev bQ := @List.mem_append
abbrev dD := @List.range_succ
abbrev cZ := @List.filter_append
abbrev aQ := @List.mem_of_getElem?
abbrev eG := @Int.toNat_natCast
abbrev aK := @decide_eq_true
abbrev aD := @decide_eq_false
abbrev aO := @Nat.le_refl
abbrev dH := @Nat.lt_irrefl
abbrev bx := @Nat.le_trans
abbrev fG := @Int.le_refl
abbrev bO := @Option.some.inj
abbrev bh := @Option.map_eq_some_iff
abbrev dG := @Nat.zero_le
abbrev aX := @List.map_append
abbrev gj := @List.map_map
abbrev cJ := @List.map_cons
abbrev cL := @List.take_length
abbrev aR := @List.mem_cons
abbrev bJ := @Nat.lt_of_lt_of_le
abbrev aC := PySem.Value
abbrev aB := PySem.Addr
abbrev aW := PySem.Shared
abbrev cC := PySem.Program
abbrev fH := PySem.FuncData
abbrev eE := PySem.Around
abbrev dI := PySem.Stmt
abbrev Fg := PySem.W.Frag
namespace L2
open PySem
def inClass(s:dI)(j:Nat):dI:=match s with
 | .ClassDef _ _ _ body _ _ _ _ _ _ _=>body.getD j (.Pass ⟨0,0,0,0⟩)
 |_=>.Pass ⟨0,0,0,0⟩
def oA(s:dI):Arguments:=match s with
 | .FunctionDef _ a _ _ _ _ _ _ _ _=>a
 |_=>{posonlyargs:=[],args:=[],vararg:=none,kwonlyargs:=[],kw_defaults:=[],kwarg:=none,defaults:=[]}
def iV(s:dI):List dI:=match s with
 | .FunctionDef _ _ b _ _ _ _ _ _ _=>b
 |_=>[]
def aZ(s:dI):Scope:=match s with
 | .FunctionDef _ _ _ _ _ _ sc _ _ _=>sc
 |_=>{kind:=.function,names:=[],isGenerator:=false,isCoroutine:=false}
end L2
namespace Tw
open PySem PySem.W L2
theorem ws:OpenLaw.wellSaid PySem.Challenge.rw_thirstwise_k07_whole_rounds_kept=true:=by kernel_rfl
abbrev PW:cC:=PySem.Challenge.pw_thirstwise_k07_whole_rounds_kept
def top(i:Nat):dI:=PySem.Challenge.pw_thirstwise_k07_whole_rounds_kept.main.body.getD i (.Pass ⟨0,0,0,0⟩)
noncomputable section
abbrev SS(s:String):Str:=Str.ofString s
abbrev VS(s:String)(n:Nat):aC:=Value.str (Str.ofString s) n
abbrev cP(n:Nat):aC:=Value.str (Str.ofString "/claim/cut.py") n
abbrev KH(P:Params)(s:Str):=PyData.keyHash P s
abbrev dE(P:Params)(s:String)(n:Nat)(v:aC):DictEntry:={hash:=PyData.keyHash P (Str.ofString s),key:=Value.str (Str.ofString s) n,val:=v}
abbrev tU(a:Array aC):Obj:={cls:=.type "tuple",data:=.seq a}
abbrev cO(a:Array aC):Obj:={cls:=.type "code",data:=.fields a}
abbrev fR(a:Array (Option aC)):Obj:={cls:=.type "frame",slots:=a}
abbrev dO(a:Array DictEntry)(n:Nat):Obj:={cls:=.type "dict",data:=.dict a n}
noncomputable abbrev fO(n q:String)(s:dI)(dv m:aC)(c:Nat):Obj:={cls:=.type "function",data:=.func {name:=Str.ofString n,qualname:=Str.ofString q,params:=oA s,body:=FuncBody.stmts (iV s),scope:=aZ s,globals:=3,closure:=[],defaults:=dv,kwdefaults:=.none,pyModule:=m,code:=.ref c} }
noncomputable abbrev fB(n q:String)(s:dI):Obj:={cls:=.none,data:=.func {name:=SS n,qualname:=SS q,params:=oA s,body:=FuncBody.stmts (iV s),scope:=aZ s,globals:=0,closure:=[],defaults:=.none,kwdefaults:=.none} }
abbrev tB(a:Array aC):Obj:={cls:=.none,data:=.fields a}
abbrev i0(n:Int):aC:=.int n 0
abbrev mo0:aC:=VS "thirstwise.checks" 194
abbrev yt:aC:=VS "thirstwise.errors" 213
abbrev Fp:aC:=VS "thirstwise.pots" 347
abbrev LR:aC:=VS "thirstwise.gardens" 477
abbrev mo4:aC:=VS "thirstwise.choices" 613
abbrev mo5:aC:=VS "thirstwise.plans" 649
abbrev Tt:aC:=VS "thirstwise.lives" 696
abbrev Jf:aC:=VS "law_thirstwise_k07_whole_rounds_kept" 794
abbrev mo8:aC:=VS "__main__" 164
abbrev dR(P:Params)(s:String)(n a:Nat):DictEntry:=dE P s n (.ref a)
abbrev e0:Obj:=tU #[]
noncomputable abbrev cF(n q:String)(t l k a u:Nat):Obj:=cO #[VS n t,VS q (t+1),cP (t+2),i0 l,i0 k,i0 0,i0 0,i0 3,.ref a,.bool true,i0 181,.ref (a+1),.none,.ref (a+2),.ref (a+3),.ref (a+4),i0 u,i0 l,cP (u+1)]
abbrev cG(n:String)(t l k a u:Nat):Obj:=cF n n t l k a u
abbrev fP(n:String)(s:dI)(m:aC)(c:Nat):Obj:=fO n n s .none m c
abbrev dM(P:Params)(n:Nat)(v:aC):DictEntry:=dE P "__module__" n v
abbrev dL(P:Params)(n l:Nat):DictEntry:=dE P "__firstlineno__" (n+1) (.int l n)
abbrev dS(P:Params)(n a:Nat):DictEntry:=dE P "__static_attributes__" n (.ref a)
noncomputable abbrev kO(n:String)(b m:List aC)(s a t u:Nat)(v:aC):Obj:={cls:=.type "type",data:=.cls {name:=SS n,bases:=b,mro:=m,ns:=s,qualname:=SS n},slots:=#[some (.ref a),none,some (VS n t),some (VS n u),some v,some (.bool true)]}
abbrev cK(n:String)(t l a:Nat):Obj:=cO #[VS n t,VS n (t+1),cP (t+2),i0 l,i0 0,i0 0,i0 0,i0 0,.ref a,.bool false,i0 181,.ref (a+1),.none,.none,.none,.none,i0 (t+3),i0 l,cP (t+4)]
abbrev fQ(a b:Nat)(m:aC):Obj:=fR #[some (.ref a),some (.ref 3),some (.ref b),none,some m,none,some (.ref 0)]
abbrev e1:Obj:=tB #[]
abbrev fD(n:String)(s:dI):Obj:=fB n n s
abbrev bP:Obj:={cls:=.type "builtin_function_or_method",data:=.fields #[.builtin "type.__prepare__",.type "type"]}
abbrev sU(a:Nat):Obj:={cls:=.type "super",data:=.fields #[.ref a,.ref a,.ref a]}
abbrev bI(a:Nat):Obj:={cls:=.type "builtin_function_or_method",data:=.fields #[.builtin "object.__init_subclass__",.ref a]}
noncomputable def fl:Nat->Nat->Frag->List Obj->List Obj
 |0,_,_,_=>[]
 |n+1,a,K,R=>match K with
  |[]=>R
  |(b,o)::K'=>match Nat.beq b a with
   |true=>o::fl n (Nat.succ a) K' R
   |false=>match R with
    |[]=>[]
    |r::R'=>r::fl n (Nat.succ a) K R'
def ev:Bool->List Obj->List Obj
 |_,[]=>[]
 |true,x::l=>x::ev false l
 |false,_::l=>ev true l
def tr:Nat->List Obj->BT
 |0,_=>.nil
 |n+1,l=>match l with
  |[]=>.nil
  |x::l=>.node x (tr n (ev true l)) (tr n (ev false l))
noncomputable def KK:Params->Frag:=λP=>(nat_lit 2,boot_o_2 P)::(nat_lit 3,dO #[dE P "__name__" 165 (VS "law_thirstwise_k07_whole_rounds_kept" 794),dE P "__doc__" 166 .none,dE P "__package__" 167 .none,dE P "__loader__" 168 (.builtin "__main__.__loader__#opaque"),dE P "__spec__" 169 .none,dR P "__annotations__" 170 6,dR P "__builtins__" 171 4,dE P "__file__" 173 (cP 172),dE P "__cached__" 174 .none,dR P "_wall" 193 21,dR P "is_whole" 204 28,dR P "is_set" 212 35,dR P "GardenError" 232 45,dR P "BadPot" 248 58,dR P "BadRow" 273 77,dR P "TooMany" 289 89,dR P "NoState" 305 101,dR P "NoPot" 321 113,dR P "BadDay" 346 132,dE P "LONGEST_NAME" 350 (.int 12 349),dE P "MOST_GAP" 352 (.int 60 351),dR P "is_name" 358 139,dR P "Pot" 419 184,dR P "Cactus" 476 233,dE P "MOST_POTS" 480 (.int 8 479),dE P "MOST_CANS" 482 (.int 8 481),dE P "MOST_WEEK" 484 (.int 14 483),dE P "MOST_STATES" 486 (.int 20000 485),dR P "own_pots" 492 240,dR P "refuse_bad_counts" 502 247,dR P "refuse_name_twice" 508 252,dR P "is_state" 514 257,dR P "refuse_no_state" 522 264,dR P "Garden" 598 308,dR P "with_cans" 606 319,dR P "place_of" 612 324,dR P "cans_on" 622 331,dR P "day_behind" 630 338,dR P "without_water" 636 343,dR P "with_water" 642 348,dR P "choices" 648 353,dR P "refuse_bad_day" 656 358,dR P "since_behind" 662 363,dR P "dry_names" 668 368,dR P "followed" 675 374,dR P "kept" 683 381,dR P "kept_for_ever" 695 388,dR P "roads" 703 393,dR P "table" 709 398,dR P "Lives" 765 436,dR P "told_or_fresh" 773 447,dR P "names_in" 779 452,dR P "rounds_of" 793 460,dR P "_law_cell_at" 803 467,dR P "_law_draw" 814 474,dR P "_law_spec" 834 481,dR P "_law_garden" 845 488,dR P "_law_behind" 863 495,dR P "_law_steps" 869 500,dR P "_law_number" 879 507,dR P "_law_states" 885 512,dR P "_law_walked" 891 517,dR P "_law_told" 898 524,dR P "_law_sorts" 906 531,dR P "_law_refusal" 913 538,dR P "_law_rows" 919 543,dR P "_law_due" 925 548,dR P "_law_right" 931 553,dR P "law" 946 560] 69)::(nat_lit 15,e0)::(nat_lit 17,tU #[VS "k" 190])::(nat_lit 18,e0)::(nat_lit 20,cG "_wall" 187 1 1 15 191)::(nat_lit 22,e0)::(nat_lit 24,tU #[VS "value" 199,VS "least" 200,VS "most" 201])::(nat_lit 25,e0)::(nat_lit 27,cG "is_whole" 196 5 3 22 202)::(nat_lit 28,fP "is_whole" (top 2) mo0 27)::(nat_lit 29,e0)::(nat_lit 31,tU #[VS "number" 208,VS "bit" 209])::(nat_lit 32,e0)::(nat_lit 34,cG "is_set" 205 9 2 29 210)::(nat_lit 35,fP "is_set" (top 3) mo0 34)::(nat_lit 36,tU #[.type "ValueError"])::(nat_lit 43,e0)::(nat_lit 44,dO #[dM P 222 yt,dL P 225 12,dS P 227 43,dR P "__weakref__" 229 46,dE P "__doc__" 230 .none] 3)::(nat_lit 45,{cls:=.type "type",data:=.cls {name:=SS "GardenError",bases:=[.type "ValueError"],mro:=[.ref 45,.type "ValueError",.type "Exception",.type "BaseException",.type "object"],ns:=44,qualname:=SS "GardenError",subclasses:=[.ref 58,.ref 77,.ref 89,.ref 101,.ref 113,.ref 132]},slots:=#[some (.ref 36),none,some (VS "GardenError" 215),some (VS "GardenError" 223),some (.builtin "ValueError.__new__"),some (.bool true)]})::(nat_lit 46,{cls:=.type "getset_descriptor",data:=.fields #[VS "__weakref__" 228,.ref 45,.builtin "ExceptionGroup.__weakref__",.none]})::(nat_lit 49,tU #[.ref 45])::(nat_lit 56,e0)::(nat_lit 57,dO #[dM P 240 yt,dL P 243 14,dS P 245 56,dE P "__doc__" 246 .none] 2)::(nat_lit 58,kO "BadPot" [.ref 45] [.ref 58,.ref 45,.type "ValueError",.type "Exception",.type "BaseException",.type "object"] 57 49 233 241 (.builtin "ValueError.__new__"))::(nat_lit 61,tU #[.ref 45])::(nat_lit 68,e0)::(nat_lit 70,tU #[VS "self" 264,VS "row" 265])::(nat_lit 71,e0)::(nat_lit 73,cF "__init__" "BadRow.__init__" 261 18 2 68 266)::(nat_lit 75,tU #[VS "row" 269])::(nat_lit 76,dO #[dM P 256 yt,dL P 259 16,dR P "__init__" 268 74,dS P 270 75,dE P "__doc__" 271 .none] 2)::(nat_lit 77,kO "BadRow" [.ref 45] [.ref 77,.ref 45,.type "ValueError",.type "Exception",.type "BaseException",.type "object"] 76 61 249 257 (.builtin "ValueError.__new__"))::(nat_lit 80,tU #[.ref 45])::(nat_lit 87,e0)::(nat_lit 88,dO #[dM P 281 yt,dL P 284 21,dS P 286 87,dE P "__doc__" 287 .none] 2)::(nat_lit 89,kO "TooMany" [.ref 45] [.ref 89,.ref 45,.type "ValueError",.type "Exception",.type "BaseException",.type "object"] 88 80 274 282 (.builtin "ValueError.__new__"))::(nat_lit 92,tU #[.ref 45])::(nat_lit 99,e0)::(nat_lit 100,dO #[dM P 297 yt,dL P 300 23,dS P 302 99,dE P "__doc__" 303 .none] 2)::(nat_lit 101,kO "NoState" [.ref 45] [.ref 101,.ref 45,.type "ValueError",.type "Exception",.type "BaseException",.type "object"] 100 92 290 298 (.builtin "ValueError.__new__"))::(nat_lit 104,tU #[.ref 45])::(nat_lit 111,e0)::(nat_lit 112,dO #[dM P 313 yt,dL P 316 25,dS P 318 111,dE P "__doc__" 319 .none] 2)::(nat_lit 113,kO "NoPot" [.ref 45] [.ref 113,.ref 45,.type "ValueError",.type "Exception",.type "BaseException",.type "object"] 112 104 306 314 (.builtin "ValueError.__new__"))::(nat_lit 116,tU #[.ref 45])::(nat_lit 123,e0)::(nat_lit 125,tU #[VS "self" 337,VS "day" 338])::(nat_lit 126,e0)::(nat_lit 128,cF "__init__" "BadDay.__init__" 334 29 2 123 339)::(nat_lit 129,fO "__init__" "BadDay.__init__" (inClass (top 11) 0) .none yt 128)::(nat_lit 130,tU #[VS "day" 342])::(nat_lit 131,dO #[dM P 329 yt,dL P 332 27,dR P "__init__" 341 129,dS P 343 130,dE P "__doc__" 344 .none] 2)::(nat_lit 132,kO "BadDay" [.ref 45] [.ref 132,.ref 45,.type "ValueError",.type "Exception",.type "BaseException",.type "object"] 131 116 322 330 (.builtin "ValueError.__new__"))::(nat_lit 135,e0)::(nat_lit 138,cO #[VS "is_name" 353,VS "is_name" 354,cP 355,i0 35,i0 1,i0 0,i0 0,i0 3,.ref 135,.bool true,i0 181,.ref 136,.none,.none,.none,.ref 137,i0 356,i0 35,cP 357])::(nat_lit 139,fP "is_name" (top 15) Fp 138)::(nat_lit 147,e0)::(nat_lit 149,tU #[VS "self" 374,VS "name" 375,VS "gap" 376])::(nat_lit 150,e0)::(nat_lit 152,cF "__init__" "Pot.__init__" 371 41 3 147 377)::(nat_lit 153,fO "__init__" "Pot.__init__" (inClass (top 16) 0) .none Fp 152)::(nat_lit 154,e0)::(nat_lit 156,tU #[VS "self" 383,VS "since" 384])::(nat_lit 157,e0)::(nat_lit 159,cF "may" "Pot.may" 380 49 2 154 385)::(nat_lit 160,fO "may" "Pot.may" (inClass (top 16) 1) .none Fp 159)::(nat_lit 161,e0)::(nat_lit 163,tU #[VS "self" 391])::(nat_lit 164,e0)::(nat_lit 166,cF "words" "Pot.words" 388 52 1 161 392)::(nat_lit 168,e0)::(nat_lit 170,tU #[VS "self" 398,VS "gap" 399])::(nat_lit 171,e0)::(nat_lit 173,cF "with_gap" "Pot.with_gap" 395 55 2 168 400)::(nat_lit 174,fO "with_gap" "Pot.with_gap" (inClass (top 16) 3) .none Fp 173)::(nat_lit 175,e0)::(nat_lit 177,tU #[VS "self" 406])::(nat_lit 178,e0)::(nat_lit 180,cF "shortest" "Pot.shortest" 403 58 1 175 407)::(nat_lit 182,tU #[VS "gap" 410,VS "name" 411])::(nat_lit 183,dO #[dM P 366 Fp,dL P 369 39,dR P "__init__" 379 153,dR P "may" 387 160,dR P "words" 394 167,dR P "with_gap" 402 174,dR P "shortest" 409 181,dS P 412 182,dR P "__dict__" 414 185,dR P "__weakref__" 416 186,dE P "__doc__" 417 .none] 4)::(nat_lit 184,{cls:=.type "type",data:=.cls {name:=SS "Pot",bases:=[.type "object"],mro:=[.ref 184,.type "object"],ns:=183,qualname:=SS "Pot",subclasses:=[.ref 233]},slots:=#[none,none,some (VS "Pot" 359),some (VS "Pot" 367),some (.builtin "object.__new__"),some (.bool true)]})::(nat_lit 185,{cls:=.type "getset_descriptor",data:=.fields #[VS "__dict__" 413,.ref 184,.builtin "function.__dict__",.builtin "function.__dict__#set"]})::(nat_lit 186,{cls:=.type "getset_descriptor",data:=.fields #[VS "__weakref__" 415,.ref 184,.builtin "ExceptionGroup.__weakref__",.none]})::(nat_lit 189,tU #[.ref 184])::(nat_lit 196,e0)::(nat_lit 198,tU #[VS "self" 435,VS "name" 436,VS "gap" 437,VS "rest" 438])::(nat_lit 199,e0)::(nat_lit 201,cF "__init__" "Cactus.__init__" 432 62 4 196 439)::(nat_lit 202,fO "__init__" "Cactus.__init__" (inClass (top 17) 0) .none Fp 201)::(nat_lit 203,e0)::(nat_lit 205,tU #[VS "self" 445,VS "since" 446])::(nat_lit 206,e0)::(nat_lit 208,cF "may" "Cactus.may" 442 68 2 203 447)::(nat_lit 209,fO "may" "Cactus.may" (inClass (top 17) 1) .none Fp 208)::(nat_lit 210,e0)::(nat_lit 212,tU #[VS "self" 453])::(nat_lit 213,e0)::(nat_lit 215,cF "words" "Cactus.words" 450 71 1 210 454)::(nat_lit 217,e0)::(nat_lit 219,tU #[VS "self" 460,VS "gap" 461])::(nat_lit 220,e0)::(nat_lit 222,cF "with_gap" "Cactus.with_gap" 457 74 2 217 462)::(nat_lit 223,fO "with_gap" "Cactus.with_gap" (inClass (top 17) 3) .none Fp 222)::(nat_lit 224,e0)::(nat_lit 226,tU #[VS "self" 468])::(nat_lit 227,e0)::(nat_lit 229,cF "shortest" "Cactus.shortest" 465 77 1 224 469)::(nat_lit 231,tU #[VS "rest" 472])::(nat_lit 232,dO #[dM P 427 Fp,dL P 430 60,dR P "__init__" 441 202,dR P "may" 449 209,dR P "words" 456 216,dR P "with_gap" 464 223,dR P "shortest" 471 230,dS P 473 231,dE P "__doc__" 474 .none] 2)::(nat_lit 233,kO "Cactus" [.ref 184] [.ref 233,.ref 184,.type "object"] 232 189 420 428 (.builtin "object.__new__"))::(nat_lit 236,e0)::(nat_lit 239,cO #[VS "own_pots" 487,VS "own_pots" 488,cP 489,i0 84,i0 1,i0 0,i0 0,i0 3,.ref 236,.bool true,i0 181,.ref 237,.none,.none,.none,.ref 238,i0 490,i0 84,cP 491])::(nat_lit 240,fP "own_pots" (top 23) LR 239)::(nat_lit 241,e0)::(nat_lit 243,tU #[VS "pots" 496,VS "cans" 497,VS "week" 498,VS "closed" 499])::(nat_lit 244,e0)::(nat_lit 246,cG "refuse_bad_counts" 493 91 4 241 500)::(nat_lit 247,fP "refuse_bad_counts" (top 24) LR 246)::(nat_lit 248,e0)::(nat_lit 251,cO #[VS "refuse_name_twice" 503,VS "refuse_name_twice" 504,cP 505,i0 100,i0 1,i0 0,i0 0,i0 3,.ref 248,.bool true,i0 181,.ref 249,.none,.none,.none,.ref 250,i0 506,i0 100,cP 507])::(nat_lit 252,fP "refuse_name_twice" (top 25) LR 251)::(nat_lit 253,e0)::(nat_lit 256,cO #[VS "is_state" 509,VS "is_state" 510,cP 511,i0 103,i0 2,i0 0,i0 0,i0 3,.ref 253,.bool true,i0 181,.ref 254,.none,.none,.none,.ref 255,i0 512,i0 103,cP 513])::(nat_lit 257,fP "is_state" (top 26) LR 256)::(nat_lit 258,e0)::(nat_lit 260,tU #[VS "garden" 518,VS "value" 519])::(nat_lit 261,e0)::(nat_lit 263,cG "refuse_no_state" 515 113 2 258 520)::(nat_lit 264,fP "refuse_no_state" (top 27) LR 263)::(nat_lit 272,tU #[.int 1 535,.int 1 536,.int 0 537])::(nat_lit 273,e0)::(nat_lit 275,tU #[VS "self" 541,VS "pots" 542,VS "cans" 543,VS "week" 544,VS "closed" 545,VS "copies" 546])::(nat_lit 276,e0)::(nat_lit 278,cF "__init__" "Garden.__init__" 538 118 5 273 547)::(nat_lit 279,fO "__init__" "Garden.__init__" (inClass (top 28) 0) (.ref 272) (VS "thirstwise.gardens" 477) 278)::(nat_lit 280,e0)::(nat_lit 282,tU #[VS "self" 553,VS "states" 554,VS "pot" 555])::(nat_lit 283,e0)::(nat_lit 285,cF "size" "Garden.size" 550 129 1 280 556)::(nat_lit 286,fO "size" "Garden.size" (inClass (top 28) 1) .none LR 285)::(nat_lit 287,e0)::(nat_lit 289,tU #[VS "self" 562,VS "state" 563,VS "count" 564,VS "days" 565,VS "pot" 566])::(nat_lit 290,e0)::(nat_lit 292,cF "number" "Garden.number" 559 135 2 287 567)::(nat_lit 293,fO "number" "Garden.number" (inClass (top 28) 2) .none LR 292)::(nat_lit 294,e0)::(nat_lit 296,tU #[VS "self" 573,VS "number" 574,VS "left" 575,VS "since" 576,VS "pot" 577])::(nat_lit 297,e0)::(nat_lit 299,cF "state" "Garden.state" 570 142 2 294 578)::(nat_lit 300,fO "state" "Garden.state" (inClass (top 28) 3) .none LR 299)::(nat_lit 301,e0)::(nat_lit 304,cO #[VS "fresh" 581,VS "Garden.fresh" 582,cP 583,i0 152,i0 1,i0 0,i0 0,i0 3,.ref 301,.bool true,i0 181,.ref 302,.none,.none,.none,.ref 303,i0 584,i0 152,cP 585])::(nat_lit 305,fO "fresh" "Garden.fresh" (inClass (top 28) 4) .none LR 304)::(nat_lit 306,tU #[VS "cans" 587,VS "closed" 588,VS "pots" 589,VS "week" 590])::(nat_lit 307,dO #[dM P 530 LR,dL P 533 116,dR P "__init__" 549 279,dR P "size" 558 286,dR P "number" 569 293,dR P "state" 580 300,dR P "fresh" 586 305,dS P 591 306,dR P "__dict__" 593 309,dR P "__weakref__" 595 310,dE P "__doc__" 596 .none] 4)::(nat_lit 308,{cls:=.type "type",data:=.cls {name:=SS "Garden",bases:=[.type "object"],mro:=[.ref 308,.type "object"],ns:=307,qualname:=SS "Garden" },slots:=#[none,none,some (VS "Garden" 523),some (VS "Garden" 531),some (.builtin "object.__new__"),some (.bool true)]})::(nat_lit 309,{cls:=.type "getset_descriptor",data:=.fields #[VS "__dict__" 592,.ref 308,.builtin "function.__dict__",.builtin "function.__dict__#set"]})::(nat_lit 310,{cls:=.type "getset_descriptor",data:=.fields #[VS "__weakref__" 594,.ref 308,.builtin "ExceptionGroup.__weakref__",.none]})::(nat_lit 313,e0)::(nat_lit 315,tU #[VS "garden" 602,VS "cans" 603])::(nat_lit 316,e0)::(nat_lit 318,cG "with_cans" 599 154 2 313 604)::(nat_lit 319,fP "with_cans" (top 29) LR 318)::(nat_lit 320,e0)::(nat_lit 323,cO #[VS "place_of" 607,VS "place_of" 608,cP 609,i0 156,i0 2,i0 0,i0 0,i0 3,.ref 320,.bool true,i0 181,.ref 321,.none,.none,.none,.ref 322,i0 610,i0 156,cP 611])::(nat_lit 324,fP "place_of" (top 30) LR 323)::(nat_lit 325,e0)::(nat_lit 327,tU #[VS "garden" 618,VS "day" 619])::(nat_lit 328,e0)::(nat_lit 330,cG "cans_on" 615 162 2 325 620)::(nat_lit 331,fP "cans_on" (top 32) mo4 330)::(nat_lit 332,e0)::(nat_lit 334,tU #[VS "garden" 626,VS "day" 627])::(nat_lit 335,e0)::(nat_lit 337,cG "day_behind" 623 164 2 332 628)::(nat_lit 338,fP "day_behind" (top 33) mo4 337)::(nat_lit 339,e0)::(nat_lit 342,cO #[VS "without_water" 631,VS "without_water" 632,cP 633,i0 166,i0 3,i0 0,i0 0,i0 3,.ref 339,.bool true,i0 181,.ref 340,.none,.none,.none,.ref 341,i0 634,i0 166,cP 635])::(nat_lit 343,fP "without_water" (top 34) mo4 342)::(nat_lit 344,e0)::(nat_lit 347,cO #[VS "with_water" 637,VS "with_water" 638,cP 639,i0 170,i0 4,i0 0,i0 0,i0 3,.ref 344,.bool true,i0 181,.ref 345,.none,.none,.none,.ref 346,i0 640,i0 170,cP 641])::(nat_lit 348,fP "with_water" (top 35) mo4 347)::(nat_lit 349,e0)::(nat_lit 352,cO #[VS "choices" 643,VS "choices" 644,cP 645,i0 174,i0 2,i0 0,i0 0,i0 3,.ref 349,.bool true,i0 181,.ref 350,.none,.none,.none,.ref 351,i0 646,i0 174,cP 647])::(nat_lit 353,fP "choices" (top 36) mo4 352)::(nat_lit 354,e0)::(nat_lit 357,cO #[VS "refuse_bad_day" 651,VS "refuse_bad_day" 652,cP 653,i0 185,i0 4,i0 0,i0 0,i0 3,.ref 354,.bool true,i0 181,.ref 355,.none,.none,.none,.ref 356,i0 654,i0 185,cP 655])::(nat_lit 358,fP "refuse_bad_day" (top 38) mo5 357)::(nat_lit 359,e0)::(nat_lit 362,cO #[VS "since_behind" 657,VS "since_behind" 658,cP 659,i0 192,i0 2,i0 0,i0 0,i0 3,.ref 359,.bool true,i0 181,.ref 360,.none,.none,.none,.ref 361,i0 660,i0 192,cP 661])::(nat_lit 363,fP "since_behind" (top 39) mo5 362)::(nat_lit 364,e0)::(nat_lit 367,cO #[VS "dry_names" 663,VS "dry_names" 664,cP 665,i0 194,i0 2,i0 0,i0 0,i0 3,.ref 364,.bool true,i0 181,.ref 365,.none,.none,.none,.ref 366,i0 666,i0 194,cP 667])::(nat_lit 368,fP "dry_names" (top 40) mo5 367)::(nat_lit 369,tU #[.int 0 669])::(nat_lit 370,e0)::(nat_lit 373,cO #[VS "followed" 670,VS "followed" 671,cP 672,i0 196,i0 4,i0 0,i0 0,i0 3,.ref 370,.bool true,i0 181,.ref 371,.none,.none,.none,.ref 372,i0 673,i0 196,cP 674])::(nat_lit 374,fO "followed" "followed" (top 41) (.ref 369) (VS "thirstwise.plans" 649) 373)::(nat_lit 375,e0)::(nat_lit 377,tU #[VS "garden" 679,VS "rows" 680])::(nat_lit 378,e0)::(nat_lit 380,cG "kept" 676 208 2 375 681)::(nat_lit 381,fP "kept" (top 42) mo5 380)::(nat_lit 382,e0)::(nat_lit 384,tU #[VS "garden" 687,VS "lead" 688,VS "rows" 689,VS "answer" 690,VS "first" 691,VS "seen" 692])::(nat_lit 385,e0)::(nat_lit 387,cG "kept_for_ever" 684 210 3 382 693)::(nat_lit 388,fP "kept_for_ever" (top 43) mo5 387)::(nat_lit 389,e0)::(nat_lit 392,cO #[VS "roads" 698,VS "roads" 699,cP 700,i0 224,i0 1,i0 0,i0 0,i0 3,.ref 389,.bool true,i0 181,.ref 390,.none,.none,.none,.ref 391,i0 701,i0 224,cP 702])::(nat_lit 393,fP "roads" (top 45) Tt 392)::(nat_lit 394,e0)::(nat_lit 397,cO #[VS "table" 704,VS "table" 705,cP 706,i0 235,i0 1,i0 0,i0 0,i0 3,.ref 394,.bool true,i0 181,.ref 395,.none,.none,.none,.ref 396,i0 707,i0 235,cP 708])::(nat_lit 398,fP "table" (top 46) Tt 397)::(nat_lit 406,e0)::(nat_lit 408,tU #[VS "self" 725,VS "garden" 726])::(nat_lit 409,e0)::(nat_lit 411,cF "__init__" "Lives.__init__" 722 255 2 406 727)::(nat_lit 412,fO "__init__" "Lives.__init__" (inClass (top 47) 0) .none Tt 411)::(nat_lit 413,e0)::(nat_lit 415,tU #[VS "self" 733,VS "state" 734])::(nat_lit 416,e0)::(nat_lit 418,cF "days" "Lives.days" 730 259 2 413 735)::(nat_lit 419,fO "days" "Lives.days" (inClass (top 47) 1) .none Tt 418)::(nat_lit 420,e0)::(nat_lit 422,tU #[VS "self" 741,VS "state" 742,VS "days" 743])::(nat_lit 423,e0)::(nat_lit 425,cF "rank" "Lives.rank" 738 262 2 420 744)::(nat_lit 426,fO "rank" "Lives.rank" (inClass (top 47) 2) .none Tt 425)::(nat_lit 427,e0)::(nat_lit 429,tU #[VS "self" 750,VS "state" 751])::(nat_lit 430,tU #[VS "self" 752])::(nat_lit 432,cF "best" "Lives.best" 747 266 2 427 753)::(nat_lit 433,fO "best" "Lives.best" (inClass (top 47) 3) .none Tt 432)::(nat_lit 434,tU #[VS "counts" 756,VS "garden" 757])::(nat_lit 435,dO #[dM P 717 Tt,dL P 720 253,dR P "__init__" 729 412,dR P "days" 737 419,dR P "rank" 746 426,dR P "best" 755 433,dS P 758 434,dR P "__dict__" 760 437,dR P "__weakref__" 762 438,dE P "__doc__" 763 .none] 4)::(nat_lit 436,{cls:=.type "type",data:=.cls {name:=SS "Lives",bases:=[.type "object"],mro:=[.ref 436,.type "object"],ns:=435,qualname:=SS "Lives" },slots:=#[none,none,some (VS "Lives" 710),some (VS "Lives" 718),some (.builtin "object.__new__"),some (.bool true)]})::(nat_lit 437,{cls:=.type "getset_descriptor",data:=.fields #[VS "__dict__" 759,.ref 436,.builtin "function.__dict__",.builtin "function.__dict__#set"]})::(nat_lit 438,{cls:=.type "getset_descriptor",data:=.fields #[VS "__weakref__" 761,.ref 436,.builtin "ExceptionGroup.__weakref__",.none]})::(nat_lit 441,e0)::(nat_lit 443,tU #[VS "garden" 769,VS "state" 770])::(nat_lit 444,e0)::(nat_lit 446,cG "told_or_fresh" 766 268 2 441 771)::(nat_lit 447,fP "told_or_fresh" (top 48) Tt 446)::(nat_lit 448,e0)::(nat_lit 451,cO #[VS "names_in" 774,VS "names_in" 775,cP 776,i0 273,i0 2,i0 0,i0 0,i0 3,.ref 448,.bool true,i0 181,.ref 449,.none,.none,.none,.ref 450,i0 777,i0 273,cP 778])::(nat_lit 452,fP "names_in" (top 49) Tt 451)::(nat_lit 453,tU #[.none])::(nat_lit 454,e0)::(nat_lit 456,tU #[VS "garden" 783,VS "state" 784,VS "here" 785,VS "lives" 786,VS "days" 787,VS "seen" 788,VS "found" 789,VS "first" 790])::(nat_lit 457,e0)::(nat_lit 459,cG "rounds_of" 780 275 2 454 791)::(nat_lit 460,fO "rounds_of" "rounds_of" (top 50) (.ref 453) (VS "thirstwise.lives" 696) 459)::(nat_lit 461,e0)::(nat_lit 463,tU #[VS "_law_script" 799,VS "_law_k" 800])::(nat_lit 464,e0)::(nat_lit 466,cG "_law_cell_at" 796 291 2 461 801)::(nat_lit 467,fP "_law_cell_at" (top 52) Jf 466)::(nat_lit 468,e0)::(nat_lit 470,tU #[VS "_law_cell" 807,VS "_law_k" 808,VS "_law_many" 809,VS "_law_primes" 810,VS "_law_blend" 811])::(nat_lit 471,e0)::(nat_lit 473,cG "_law_draw" 804 295 3 468 812)::(nat_lit 474,fP "_law_draw" (top 53) Jf 473)::(nat_lit 475,e0)::(nat_lit 477,tU #[VS "_law_script" 818,VS "_law_first" 819,VS "_law_cell" 820,VS "_law_other" 821,VS "_law_third" 822,VS "_law_count" 823,VS "_law_most" 824,VS "_law_names" 825,VS "_law_pots" 826,VS "_law_k" 827,VS "_law_gap" 828,VS "_law_rest" 829,VS "_law_week" 830,VS "_law_closed" 831])::(nat_lit 478,e0)::(nat_lit 480,cG "_law_spec" 815 299 2 475 832)::(nat_lit 481,fP "_law_spec" (top 54) Jf 480)::(nat_lit 482,e0)::(nat_lit 484,tU #[VS "_law_spec_here" 838,VS "_law_pots" 839,VS "_law_name" 840,VS "_law_gap" 841,VS "_law_rest" 842])::(nat_lit 485,e0)::(nat_lit 487,cG "_law_garden" 835 327 1 482 843)::(nat_lit 488,fP "_law_garden" (top 55) Jf 487)::(nat_lit 489,e0)::(nat_lit 491,tU #[VS "_law_spec_here" 849,VS "_law_state" 850,VS "_law_wet" 851,VS "_law_pots" 852,VS "_law_cans" 853,VS "_law_week" 854,VS "_law_closed" 855,VS "_law_day" 856,VS "_law_since" 857,VS "_law_k" 858,VS "_law_found" 859,VS "_law_far" 860])::(nat_lit 492,e0)::(nat_lit 494,cG "_law_behind" 846 335 3 489 861)::(nat_lit 495,fP "_law_behind" (top 56) Jf 494)::(nat_lit 496,e0)::(nat_lit 499,cO #[VS "_law_steps" 864,VS "_law_steps" 865,cP 866,i0 350,i0 2,i0 0,i0 0,i0 3,.ref 496,.bool true,i0 181,.ref 497,.none,.none,.none,.ref 498,i0 867,i0 350,cP 868])::(nat_lit 500,fP "_law_steps" (top 57) Jf 499)::(nat_lit 513,e0)::(nat_lit 516,cO #[VS "_law_walked" 886,VS "_law_walked" 887,cP 888,i0 374,i0 4,i0 0,i0 0,i0 3,.ref 513,.bool true,i0 181,.ref 514,.none,.none,.none,.ref 515,i0 889,i0 374,cP 890])::(nat_lit 517,fP "_law_walked" (top 60) Jf 516)::(nat_lit 525,e0)::(nat_lit 527,tU #[VS "_law_error" 902,VS "_law_found" 903])::(nat_lit 528,e0)::(nat_lit 530,cG "_law_sorts" 899 393 1 525 904)::(nat_lit 531,fP "_law_sorts" (top 62) Jf 530)::(nat_lit 532,e0)::(nat_lit 534,tU #[VS "_law_error" 910])::(nat_lit 535,e0)::(nat_lit 537,cG "_law_refusal" 907 396 1 532 911)::(nat_lit 538,fP "_law_refusal" (top 63) Jf 537)::(nat_lit 539,e0)::(nat_lit 542,cO #[VS "_law_rows" 914,VS "_law_rows" 915,cP 916,i0 402,i0 5,i0 0,i0 0,i0 3,.ref 539,.bool true,i0 181,.ref 540,.none,.none,.none,.ref 541,i0 917,i0 402,cP 918])::(nat_lit 543,fP "_law_rows" (top 64) Jf 542)::(nat_lit 544,e0)::(nat_lit 547,cO #[VS "_law_due" 920,VS "_law_due" 921,cP 922,i0 417,i0 3,i0 0,i0 0,i0 3,.ref 544,.bool true,i0 181,.ref 545,.none,.none,.none,.ref 546,i0 923,i0 417,cP 924])::(nat_lit 548,fP "_law_due" (top 65) Jf 547)::(nat_lit 549,e0)::(nat_lit 552,cO #[VS "_law_right" 926,VS "_law_right" 927,cP 928,i0 433,i0 4,i0 0,i0 0,i0 3,.ref 549,.bool true,i0 181,.ref 550,.none,.none,.none,.ref 551,i0 929,i0 433,cP 930])::(nat_lit 553,fP "_law_right" (top 66) Jf 552)::(nat_lit 554,e0)::(nat_lit 556,tU #[VS "_law_script" 935,VS "_law_spec_here" 936,VS "_law_garden_here" 937,VS "_law_many" 938,VS "_law_rows_here" 939,VS "_law_plain" 940,VS "_law_at" 941,VS "_law_lead" 942,VS "_law_again" 943])::(nat_lit 557,e0)::(nat_lit 559,cG "law" 932 446 1 554 944)::(nat_lit 560,fP "law" (top 67) Jf 559)::[]
noncomputable def RR:Params->List Obj:=λP=>[boot_o_0 P,boot_o_1 P,boot_o_4 P,boot_o_5 P,boot_o_6 P,boot_o_7 P,boot_o_8 P,boot_o_9 P,boot_o_10 P,e0,tB #[i0 1,i0 0,.ref 20,i0 5,i0 0,.ref 27,i0 9,i0 0,.ref 34,i0 12,i0 0,.ref 41,i0 14,i0 0,.ref 54,i0 16,i0 0,.ref 66,i0 21,i0 0,.ref 85,i0 23,i0 0,.ref 97,i0 25,i0 0,.ref 109,i0 27,i0 0,.ref 121,i0 35,i0 0,.ref 138,i0 39,i0 0,.ref 145,i0 60,i0 0,.ref 194,i0 84,i0 0,.ref 239,i0 91,i0 0,.ref 246,i0 100,i0 0,.ref 251,i0 103,i0 0,.ref 256,i0 113,i0 0,.ref 263,i0 116,i0 0,.ref 270,i0 154,i0 0,.ref 318,i0 156,i0 0,.ref 323,i0 162,i0 0,.ref 330,i0 164,i0 0,.ref 337,i0 166,i0 0,.ref 342,i0 170,i0 0,.ref 347,i0 174,i0 0,.ref 352,i0 185,i0 0,.ref 357,i0 192,i0 0,.ref 362,i0 194,i0 0,.ref 367,i0 196,i0 0,.ref 373,i0 208,i0 0,.ref 380,i0 210,i0 0,.ref 387,i0 224,i0 0,.ref 392,i0 235,i0 0,.ref 397,i0 253,i0 0,.ref 404,i0 268,i0 0,.ref 446,i0 273,i0 0,.ref 451,i0 275,i0 0,.ref 459,i0 291,i0 0,.ref 466,i0 295,i0 0,.ref 473,i0 299,i0 0,.ref 480,i0 327,i0 0,.ref 487,i0 335,i0 0,.ref 494,i0 350,i0 0,.ref 499,i0 358,i0 0,.ref 506,i0 363,i0 0,.ref 511,i0 374,i0 0,.ref 516,i0 389,i0 0,.ref 523,i0 393,i0 0,.ref 530,i0 396,i0 0,.ref 537,i0 402,i0 0,.ref 542,i0 417,i0 0,.ref 547,i0 433,i0 0,.ref 552,i0 446,i0 0,.ref 559],cK "<module>" 182 1 11,fQ 13 3 mo8,e1,fD "_wall" (top 0),fP "_wall" (top 0) mo8 20,e1,fD "is_whole" (top 2),e1,fD "is_set" (top 3),bP,dO #[dM P 222 yt,dE P "__qualname__" 224 (VS "GardenError" 223),dL P 225 12,dS P 227 43] 4,e0,e1,cK "GardenError" 217 12 39,fQ 41 38 yt,sU 45,bI 45,bP,dO #[dM P 240 yt,dE P "__qualname__" 242 (VS "BadPot" 241),dL P 243 14,dS P 245 56] 4,e0,e1,cK "BadPot" 235 14 52,fQ 54 51 yt,sU 58,bI 58,bP,dO #[dM P 256 yt,dE P "__qualname__" 258 (VS "BadRow" 257),dL P 259 16,dR P "__init__" 268 74,dS P 270 75] 5,e0,tB #[i0 18,i0 4,.ref 73],cK "BadRow" 251 16 64,fQ 66 63 yt,e1,fB "__init__" "BadRow.__init__" (inClass (top 7) 0),fO "__init__" "BadRow.__init__" (inClass (top 7) 0) .none yt 73,sU 77,bI 77,bP,dO #[dM P 281 yt,dE P "__qualname__" 283 (VS "TooMany" 282),dL P 284 21,dS P 286 87] 4,e0,e1,cK "TooMany" 276 21 83,fQ 85 82 yt,sU 89,bI 89,bP,dO #[dM P 297 yt,dE P "__qualname__" 299 (VS "NoState" 298),dL P 300 23,dS P 302 99] 4,e0,e1,cK "NoState" 292 23 95,fQ 97 94 yt,sU 101,bI 101,bP,dO #[dM P 313 yt,dE P "__qualname__" 315 (VS "NoPot" 314),dL P 316 25,dS P 318 111] 4,e0,e1,cK "NoPot" 308 25 107,fQ 109 106 yt,sU 113,bI 113,bP,dO #[dM P 329 yt,dE P "__qualname__" 331 (VS "BadDay" 330),dL P 332 27,dR P "__init__" 341 129,dS P 343 130] 5,e0,tB #[i0 29,i0 4,.ref 128],cK "BadDay" 324 27 119,fQ 121 118 yt,e1,fB "__init__" "BadDay.__init__" (inClass (top 11) 0),sU 132,bI 132,e1,fD "is_name" (top 15),e0,bP,dO #[dM P 366 Fp,dE P "__qualname__" 368 (VS "Pot" 367),dL P 369 39,dR P "__init__" 379 153,dR P "may" 387 160,dR P "words" 394 167,dR P "with_gap" 402 174,dR P "shortest" 409 181,dS P 412 182] 9,e0,tB #[i0 41,i0 4,.ref 152,i0 49,i0 4,.ref 159,i0 52,i0 4,.ref 166,i0 55,i0 4,.ref 173,i0 58,i0 4,.ref 180],cK "Pot" 361 39 143,fQ 145 142 Fp,e1,fB "__init__" "Pot.__init__" (inClass (top 16) 0),e1,fB "may" "Pot.may" (inClass (top 16) 1),e1,fB "words" "Pot.words" (inClass (top 16) 2),fO "words" "Pot.words" (inClass (top 16) 2) .none Fp 166,e1,fB "with_gap" "Pot.with_gap" (inClass (top 16) 3),e1,fB "shortest" "Pot.shortest" (inClass (top 16) 4),fO "shortest" "Pot.shortest" (inClass (top 16) 4) .none Fp 180,sU 184,bI 184,bP,dO #[dM P 427 Fp,dE P "__qualname__" 429 (VS "Cactus" 428),dL P 430 60,dR P "__init__" 441 202,dR P "may" 449 209,dR P "words" 456 216,dR P "with_gap" 464 223,dR P "shortest" 471 230,dS P 473 231] 9,e0,tB #[i0 62,i0 4,.ref 201,i0 68,i0 4,.ref 208,i0 71,i0 4,.ref 215,i0 74,i0 4,.ref 222,i0 77,i0 4,.ref 229],cK "Cactus" 422 60 192,fQ 194 191 Fp,e1,fB "__init__" "Cactus.__init__" (inClass (top 17) 0),e1,fB "may" "Cactus.may" (inClass (top 17) 1),e1,fB "words" "Cactus.words" (inClass (top 17) 2),fO "words" "Cactus.words" (inClass (top 17) 2) .none Fp 215,e1,fB "with_gap" "Cactus.with_gap" (inClass (top 17) 3),e1,fB "shortest" "Cactus.shortest" (inClass (top 17) 4),fO "shortest" "Cactus.shortest" (inClass (top 17) 4) .none Fp 229,sU 233,bI 233,e1,fD "own_pots" (top 23),e1,fD "refuse_bad_counts" (top 24),e1,fD "refuse_name_twice" (top 25),e1,fD "is_state" (top 26),e1,fD "refuse_no_state" (top 27),e0,bP,dO #[dM P 530 LR,dE P "__qualname__" 532 (VS "Garden" 531),dL P 533 116,dR P "__init__" 549 279,dR P "size" 558 286,dR P "number" 569 293,dR P "state" 580 300,dR P "fresh" 586 305,dS P 591 306] 9,e0,tB #[i0 118,i0 4,.ref 278,i0 129,i0 4,.ref 285,i0 135,i0 4,.ref 292,i0 142,i0 4,.ref 299,i0 152,i0 4,.ref 304],cK "Garden" 525 116 268,fQ 270 267 LR,e1,fB "__init__" "Garden.__init__" (inClass (top 28) 0),e1,fB "size" "Garden.size" (inClass (top 28) 1),e1,fB "number" "Garden.number" (inClass (top 28) 2),e1,fB "state" "Garden.state" (inClass (top 28) 3),e1,fB "fresh" "Garden.fresh" (inClass (top 28) 4),sU 308,bI 308,e1,fD "with_cans" (top 29),e1,fD "place_of" (top 30),e1,fD "cans_on" (top 32),e1,fD "day_behind" (top 33),e1,fD "without_water" (top 34),e1,fD "with_water" (top 35),e1,fD "choices" (top 36),e1,fD "refuse_bad_day" (top 38),e1,fD "since_behind" (top 39),e1,fD "dry_names" (top 40),e1,fD "followed" (top 41),e1,fD "kept" (top 42),e1,fD "kept_for_ever" (top 43),e1,fD "roads" (top 45),e1,fD "table" (top 46),e0,bP,dO #[dM P 717 Tt,dE P "__qualname__" 719 (VS "Lives" 718),dL P 720 253,dR P "__init__" 729 412,dR P "days" 737 419,dR P "rank" 746 426,dR P "best" 755 433,dS P 758 434] 8,e0,tB #[i0 255,i0 4,.ref 411,i0 259,i0 4,.ref 418,i0 262,i0 4,.ref 425,i0 266,i0 4,.ref 432],cK "Lives" 712 253 402,fQ 404 401 Tt,e1,fB "__init__" "Lives.__init__" (inClass (top 47) 0),e1,fB "days" "Lives.days" (inClass (top 47) 1),e1,fB "rank" "Lives.rank" (inClass (top 47) 2),e1,fB "best" "Lives.best" (inClass (top 47) 3),sU 436,bI 436,e1,fD "told_or_fresh" (top 48),e1,fD "names_in" (top 49),e1,fD "rounds_of" (top 50),e1,fD "_law_cell_at" (top 52),e1,fD "_law_draw" (top 53),e1,fD "_law_spec" (top 54),e1,fD "_law_garden" (top 55),e1,fD "_law_behind" (top 56),e1,fD "_law_steps" (top 57),e0,e1,tU #[VS "_law_spec_here" 873,VS "_law_state" 874,VS "_law_found" 875,VS "_law_k" 876],e0,fD "_law_number" (top 58),cG "_law_number" 870 358 2 501 877,fP "_law_number" (top 58) Jf 506,e0,e1,fD "_law_states" (top 59),cO #[VS "_law_states" 880,VS "_law_states" 881,cP 882,i0 363,i0 1,i0 0,i0 0,i0 3,.ref 508,.bool true,i0 181,.ref 509,.none,.none,.none,.ref 510,i0 883,i0 363,cP 884],fP "_law_states" (top 59) Jf 511,e1,fD "_law_walked" (top 60),e0,e1,tU #[VS "_law_due_here" 895],e0,fD "_law_told" (top 61),cG "_law_told" 892 389 1 518 896,fP "_law_told" (top 61) Jf 523,e1,fD "_law_sorts" (top 62),e1,fD "_law_refusal" (top 63),e1,fD "_law_rows" (top 64),e1,fD "_law_due" (top 65),e1,fD "_law_right" (top 66),e1,fD "law" (top 67)]
def HH:Params->List Obj:=λP=>fl 562 0 (KK P) (RR P)
abbrev aPB:aB:=nat_lit 428
abbrev aCB:aB:=nat_lit 432
def KF:Params->Frag:=λP=>(nat_lit 428,e1)::KK P
noncomputable def addrs:List aB:=[428,2,3,15,17,18,20,22,24,25,27,28,29,31,32,34,35,36,43,44,45,46,49,56,57,58,61,68,70,71,73,75,76,77,80,87,88,89,92,99,100,101,104,111,112,113,116,123,125,126,128,129,130,131,132,135,138,139,147,149,150,152,153,154,156,157,159,160,161,163,164,166,168,170,171,173,174,175,177,178,180,182,183,184,185,186,189,196,198,199,201,202,203,205,206,208,209,210,212,213,215,217,219,220,222,223,224,226,227,229,231,232,233,236,239,240,241,243,244,246,247,248,251,252,253,256,257,258,260,261,263,264,272,273,275,276,278,279,280,282,283,285,286,287,289,290,292,293,294,296,297,299,300,301,304,305,306,307,308,309,310,313,315,316,318,319,320,323,324,325,327,328,330,331,332,334,335,337,338,339,342,343,344,347,348,349,352,353,354,357,358,359,362,363,364,367,368,369,370,373,374,375,377,378,380,381,382,384,385,387,388,389,392,393,394,397,398,406,408,409,411,412,413,415,416,418,419,420,422,423,425,426,427,429,430,432,433,434,435,436,437,438,441,443,444,446,447,448,451,452,453,454,456,457,459,460,461,463,464,466,467,468,470,471,473,474,475,477,478,480,481,482,484,485,487,488,489,491,492,494,495,496,499,500,513,516,517,525,527,528,530,531,532,534,535,537,538,539,542,543,544,547,548,549,552,553,554,556,557,559,560]
abbrev LO:List Str:=["followed","rounds_of"]
noncomputable def view:cC:={PySem.Challenge.pw_thirstwise_k07_whole_rounds_kept with main:={PySem.Challenge.pw_thirstwise_k07_whole_rounds_kept.main with body:=[top 0,top 2,top 3,top 5,top 6,top 7,top 8,top 9,top 10,top 11,top 13,top 14,top 15,top 16,top 17,top 19,top 20,top 21,top 22,top 23,top 24,top 25,top 26,top 27,top 28,top 29,top 30,top 32,top 33,top 34,top 35,top 36,top 38,top 39,top 40,top 42,top 43,top 45,top 46,top 47,top 48,top 49,top 52,top 53,top 54,top 55,top 56,top 57,top 58,top 59,top 60,top 61,top 62,top 63,top 64,top 65,top 66,top 67]} }
abbrev ANN:Option aC:=some (Value.ref 6)
abbrev QQ:Pos:={line:=0,col:=0,endLine:=0,endCol:=0}
abbrev BODY:List dI:=behindTheImports PySem.Challenge.pw_thirstwise_k07_whole_rounds_kept
abbrev ENV:Env:={scope:=PySem.Challenge.pw_thirstwise_k07_whole_rounds_kept.main.scope,locals:=mainNs,globals:=mainNs,cells:=[],code:=Value.ref 13,frame:=some 14}
abbrev CE:Code:=Code.body BODY ENV
abbrev aoY:Life:={ }
abbrev afT:Life:={ }
noncomputable def abw:Params->Heap:=λP=>Heap.mk (Array.mk [boot_o_0 P,boot_o_1 P,boot_o_2 P,boot_o_3 P,boot_o_4 P,boot_o_5 P,boot_o_6 P,boot_o_7 P,boot_o_8 P,boot_o_9 P,boot_o_10 P,e0,e1,cK "<module>" 182 1 11,fQ 13 3 mo8]) afT
abbrev abx:Life:={ }
def aby:Params->BT:=λP=>tr 20 [boot_o_0 P,boot_o_1 P,boot_o_2 P,boot_o_3 P,boot_o_4 P,boot_o_5 P,boot_o_6 P,boot_o_7 P,boot_o_8 P,boot_o_9 P,boot_o_10 P,e0,e1,cK "<module>" 182 1 11,fQ 13 3 mo8]
abbrev abz:Life:={ }
def abA:Params->BT:=λP=>tr 20 (HH P)
abbrev afU:Life:={ }
def tW:Params->Heap:=λP=>Heap.mk (Array.mk (HH P)) afU
end
theorem afV{p:cC}{ann:Option aC}{s s' r:aW}{b:List dI}(i k:Nat)(h:segRun tb p w n₀ ann 1 n s (piecesOf ((b.drop i).take k) env c pos [topFrame q])=some (.next,s',c,p'))(g:topRun tb p w n₀ ann N s' (restOf (b.drop (i+k)) env c p' [topFrame q])=some r):topRun tb p w n₀ ann (n+N) s (restOf (b.drop i) env c pos [topFrame q])=some r:=by
 have e:b.drop i=(b.drop i).take k++b.drop (i+k):=by rw[<- List.drop_drop,List.take_append_drop]
 rw[e];exact piece_app h g
theorem Tv:∀w:World,(λos=>topGo treeTable PySem.Challenge.pw_thirstwise_k07_whole_rounds_kept w 11 ANN 12 (Shared.mk (boot_heap w.params) (Array.mk []) boot_drawn boot_toks os) (topStub PySem.Challenge.pw_thirstwise_k07_whole_rounds_kept))=λos=>some ((Shared.mk (abw w.params) (Array.mk []) boot_drawn 187 os),Thread.mk (denote treeTable CE) CE {line:=0,col:=0,endLine:=0,endCol:=0} [topFrame QQ]):=by
 intro w;kernel_rfl
theorem Jj:∀w:World,(λos=>segRun treeTable PySem.Challenge.pw_thirstwise_k07_whole_rounds_kept w 11 ANN 1 1 (Shared.mk (abw w.params) (Array.mk []) boot_drawn 187 os) (blockOf BODY ENV CE {line:=0,col:=0,endLine:=0,endCol:=0} [topFrame QQ]))=λos=>some (Flow.next,(SharedT.abs (SharedT.mk (aby w.params) 15 abx (Array.mk []) boot_drawn 187 os)),CE,{line:=0,col:=0,endLine:=0,endCol:=0}):=by
 intro w;kernel_rfl
theorem afW:∀w:World,(λos=>segRunT treeTable PySem.Challenge.pw_thirstwise_k07_whole_rounds_kept w 11 ANN 1 4319 (SharedT.mk (aby w.params) 15 abx (Array.mk []) boot_drawn 187 os) (piecesOf ((BODY.drop 0).take 68) ENV CE {line:=0,col:=0,endLine:=0,endCol:=0} [topFrame QQ]))=λos=>some (Flow.next,(SharedT.mk (abA w.params) 561 abz (Array.mk []) boot_drawn 947 os),CE,{line:=446,col:=0,endLine:=468,endCol:=115}):=by
 intro w;kernel_rfl
theorem Tz:∀w:World,(λos=>topRun treeTable PySem.Challenge.pw_thirstwise_k07_whole_rounds_kept w 11 ANN 2 (SharedT.abs (SharedT.mk (abA w.params) 561 abz (Array.mk []) boot_drawn 947 os)) (restOf (BODY.drop 68) ENV CE {line:=446,col:=0,endLine:=468,endCol:=115} [topFrame QQ]))=λos=>some (Shared.mk (tW w.params) (Array.mk []) boot_drawn 947 os):=by
 intro w;kernel_rfl
theorem aj8(w:World)(os:OsState):topRun treeTable PySem.Challenge.pw_thirstwise_k07_whole_rounds_kept w 11 ANN (12+(1+(4319+(2)))) (Shared.mk (boot_heap w.params) (Array.mk []) boot_drawn boot_toks os) (topStub PySem.Challenge.pw_thirstwise_k07_whole_rounds_kept)=some (Shared.mk (tW w.params) (Array.mk []) boot_drawn 947 os) := go_top (congrFun (Tv w) os) (piece_block (congrFun (Jj w) os) (afV 0 68 (segRun_of (congrFun (afW w) os)) (congrFun (Tz w) os)))
theorem lk1:∀w:World,(λos=>(staticsOk (importedModules PySem.Challenge.pw_thirstwise_k07_whole_rounds_kept.main.body) (boot_heap w.params) (tW w.params)&&namesBound PySem.Challenge.pw_thirstwise_k07_whole_rounds_kept (tW w.params)&&gensDone (Shared.mk (tW w.params) (Array.mk []) boot_drawn 947 os)&&laidKept (boot_heap w.params) (tW w.params)))=λ_=>true:=by
 intro w;kernel_rfl
theorem lk2:∀w:World,(λos=>openSeen view LO (importedModules PySem.Challenge.pw_thirstwise_k07_whole_rounds_kept.main.body) (λs=>xlAt view [] s&&recOk (RowW.records (OpenRow.toRowW (OpenLaw.row PySem.Challenge.rw_thirstwise_k07_whole_rounds_kept))) s) true (Shared.mk (tW w.params) (Array.mk []) boot_drawn 947 os))=λ_=>openGood view LO:=by
 intro w;kernel_rfl
theorem lk3:∀w:World,(λos=>Hook.obs (kHook KF addrs (λ_=>by kernel_rfl)) (Shared.mk (tW w.params) (Array.mk []) boot_drawn 947 os))=λ_=>Hook.val (kHook KF addrs (λ_=>by kernel_rfl)) w:=by
 intro w;kernel_rfl
theorem opn:∀w:World,(fencedOpening treeTable PySem.Challenge.pw_thirstwise_k07_whole_rounds_kept w 8762).map (λs=>(s.heap,s.gens,s.drawn,s.toks))=some (boot_heap w.params,Array.mk [],boot_drawn,boot_toks):=boot_open (by kernel_rfl) (by kernel_rfl) (λs=>by kernel_rfl)
theorem siz:∀w:World,((boot_heap w.params).isNs mainGlobals&&(Array.mk []:Array GenState).size == 0,(boot_heap w.params).objs.size,(boot_heap w.params).nsMap mainGlobals "__annotations__")=(true,11,ANN):=by
 intro w;kernel_rfl
theorem hl:LeftO PySem.Challenge.rw_thirstwise_k07_whole_rounds_kept.row.prog view LO (λs=>xlAt view [] s&&recOk (RowW.records (OpenRow.toRowW (OpenLaw.row PySem.Challenge.rw_thirstwise_k07_whole_rounds_kept))) s) (Hook.obs (kHook KF addrs (λ_=>by kernel_rfl))) (Hook.val (kHook KF addrs (λ_=>by kernel_rfl))) 8762 := LeftO.of_pieces (p:=PySem.Challenge.pw_thirstwise_k07_whole_rounds_kept) (q:=view) (loose:=LO) (Xt:=(λs=>xlAt view [] s&&recOk (RowW.records (OpenRow.toRowW (OpenLaw.row PySem.Challenge.rw_thirstwise_k07_whole_rounds_kept))) s)) (Yf:=Hook.obs (kHook KF addrs (λ_=>by kernel_rfl))) (Ya:=Hook.val (kHook KF addrs (λ_=>by kernel_rfl))) (N:=8762) (g0:=true) (H₀:=boot_heap) (H₁:=tW) (gs₀:=Array.mk []) (gs₁:=(Array.mk [])) (d₀:=boot_drawn) (d₁:=boot_drawn) (k₀:=boot_toks) (k₁:=947) (m₀:=11) (ann:=ANN) (M:=12+(1+(4319+(2)))) opn siz aj8 (by kernel_rfl) (λw=>funext λos=>Prod.ext (congrFun (lk1 w) os) (Prod.ext (congrFun (lk2 w) os) (congrFun (lk3 w) os)))
end Tw
namespace L2
open PySem PySem.Spec PyProof.Rows
abbrev Key:=Sum Int Str
def abB:Key->aC->Bool
 | .inl k,v=>Value.isInt k v
 | .inr x,v=>Value.isStrOf x v
def aj9(w:World):Key->Int
 | .inl k=>hashInt k
 | .inr x=>hashStr w x
theorem iH:∀{k:Key}{v:aC},abB k v=true->(∃i t,k=Sum.inl i/\v=Value.int i t)\/(∃x t,k=Sum.inr x/\v=Value.str x t)
 | .inl i,v,h=>by
  obtain⟨t,e⟩:=Value.isInt_shape (k:=i) (v:=v) h;exact .inl ⟨i,t,rfl,e⟩
 | .inr x,v,h=>by
  obtain⟨t,e⟩:=Value.isStrOf_shape (x:=x) (v:=v) h;exact .inr ⟨x,t,rfl,e⟩
theorem acS(a b:Int):decide ((Sum.inl a:Key)=Sum.inl b)=(a == b):=by
 by_cases e:a=b
 ·subst e;simp
 ·have h:¬(Sum.inl a:Key)=Sum.inl b:=λq=>e (Sum.inl.inj q)
  rw[aD h];exact(beq_eq_false_iff_ne.mpr e).symm
theorem acT(a b:Str):decide ((Sum.inr a:Key)=Sum.inr b)=decide (a=b):=by
 by_cases e:a=b
 ·subst e;simp
 ·have h:¬(Sum.inr a:Key)=Sum.inr b:=λq=>e (Sum.inr.inj q)
  rw[aD h,aD e]
theorem acU(a:Int)(b:Str):decide ((Sum.inl a:Key)=Sum.inr b)=false:=aD (λq=>nomatch q)
theorem acV(a:Str)(b:Int):decide ((Sum.inr a:Key)=Sum.inl b)=false:=aD (λq=>nomatch q)
noncomputable def Cz(prog:cC)(w:World):PySem.KeyKind prog w Key where
 is:=abB
 hash:=aj9 w
 inj:=λv a b ha hb=>by
  rcases iH ha with ⟨i,t,rfl,rfl⟩|⟨x,t,rfl,rfl⟩
  ·rcases iH hb with ⟨j,u,rfl,e⟩|⟨y,u,rfl,e⟩
   ·injection e with e1 _;rw[e1]
   ·exact nomatch e
  ·rcases iH hb with ⟨j,u,rfl,e⟩|⟨y,u,rfl,e⟩
   ·exact nomatch e
   ·injection e with e1 _;rw[e1]
 byValue:=λk v h=>by
  rcases iH h with ⟨i,t,rfl,rfl⟩|⟨x,t,rfl,rfl⟩<;>rfl
 pyHash:=λhv h=>by
  rcases iH hv with ⟨i,t,rfl,rfl⟩|⟨x,t,rfl,rfl⟩
  ·exact wpAny_pyHash_int h
  ·exact wpAny_pyHash_str h
 eqBool:=λhu hv h=>by
  rcases iH hu with ⟨i,t,rfl,rfl⟩|⟨x,t,rfl,rfl⟩
  ·rcases iH hv with ⟨j,u,rfl,rfl⟩|⟨y,u,rfl,rfl⟩
   ·rw[acS]at h;exact wpAny_eqBool_int h
   ·rw[acU]at h;exact SeqAt.EqAt.int_str i t y u _ _ _ _ h
  ·rcases iH hv with ⟨j,u,rfl,rfl⟩|⟨y,u,rfl,rfl⟩
   ·rw[acV]at h;exact SeqAt.EqAt.str_int x t j u _ _ _ _ h
   ·rw[acT]at h;exact wpAny_eqBool_str h
 «strs»:=λk x t v h=>by
  rcases iH h with ⟨i,u,rfl,e⟩|⟨y,u,rfl,e⟩
  ·exact nomatch e
  ·injection e with e1 _
   subst e1;cases v<;>rfl
inductive V where
 |non|bl (b:Bool)|int (i:Int)|str (x:Str)|Ma (b:Array UInt8)|flt (b:UInt64)|ref (a:aB)|ty (n:String)
 deriving DecidableEq
noncomputable def RelV:V->aC->Prop
 | .non,u=>u=Value.none
 | .bl b,u=>u=Value.bool b
 | .int i,u=>∃t,u=Value.int i t
 | .str x,u=>∃t,u=Value.str x t
 | .Ma b,u=>∃t,u=Value.bytes b t
 | .flt b,u=>∃t,u=Value.float b t
 | .ref a,u=>u=Value.ref a
 | .ty n,u=>u=Value.type n
abbrev Vals:List V->List aC->Prop:=Paired RelV
theorem Vals.length(r:Vals xs us):xs.length=us.length:=Paired.length r
theorem Vals.get:∀{xs:List V}{us:List aC}{i:Nat}{x:V},Vals xs us->xs[i]?=some x->∃u,us[i]?=some u/\RelV x u
 |_,_,_,_,.nil,e=>by simp at e
 |_,_,0,_,.cons r _,e=>by simp at e;subst e;exact⟨_,rfl,r⟩
 |_,_,i+1,x,.cons _ t,e=>by
  obtain⟨u,h1,h2⟩:=Vals.get (i:=i) (x:=x) t (by simpa using e);exact⟨u,by simpa using h1,h2⟩
theorem Vals.set(r:RelV x u):∀{xs:List V}{us:List aC}(i:Nat),Vals xs us->Vals (xs.set i x) (us.set i u)
 |_,_,_,.nil=>.nil
 |_,_,0,.cons _ t=>.cons r t
 |_,_,i+1,.cons q t=>.cons q (Vals.set r i t)
theorem Vals.append:∀{xs ys:List V}{us ws:List aC},Vals xs us->Vals ys ws->Vals (xs++ys) (us++ws)
 |_,_,_,_,.nil,s=>s
 |_,_,_,_,.cons r t,s=>.cons r (Vals.append t s)
theorem Vals.take:∀{xs:List V}{us:List aC}(n:Nat),Vals xs us->Vals (xs.take n) (us.take n)
 |_,_,0,_=>.nil
 |_,_,_+1,.nil=>.nil
 |_,_,n+1,.cons r t=>.cons r (Vals.take n t)
theorem Vals.drop:∀{xs:List V}{us:List aC}(n:Nat),Vals xs us->Vals (xs.drop n) (us.drop n)
 |_,_,0,r=>r
 |_,_,_+1,.nil=>.nil
 |_,_,n+1,.cons _ t=>Vals.drop n t
theorem Vals.none_of:∀{xs:List V}{us:List aC}{i:Nat},Vals xs us->xs[i]?=none->us[i]?=none:=fun{xs us i} r e=>by
 have h1:=r.length;have h2:xs.length<=i:=List.getElem?_eq_none_iff.mp e;exact List.getElem?_eq_none_iff.mpr (by omega)
def yu:Option V->Option aC->Prop
 |some v,some u=>RelV v u
 |none,none=>True
 |_,_=>False
def KV{κ:Type}:List (κ×V)->List (κ×aC)->Prop:=Paired fun(p:κ×V)(q:κ×aC)=>p.1=q.1/\RelV p.2 q.2
def kV:Key->V
 | .inl i=>.int i
 | .inr x=>.str x
inductive HO where
 |lst (xs:List V)
 |tup (xs:List V)
 |dK (kvs:List (Key×V))|dT (kvs:List (List Key×V))
 |set (S:Int->Bool) (n:Nat)
 |ins (C dx:aB) (fs:List (Str×V))
 |own (x:aB)
 |xd (fs:List (Str×V))
 |met (f x:aB)
 |rng (lo hi:Int)
 |CJ (o:Obj) (u:HO)
 |wK (ps:Array aC)
 |ext (φ:Heap->Prop)
abbrev Hp:=aB->Option HO
def upd(H:Hp)(a:aB)(o:HO):Hp:=λb=>if b=a then some o else H b
theorem aF :upd H a o a=some o:=by unfold upd;rw[if_pos rfl]
theorem bf(h:b≠a):upd H a o b=H b:=by unfold upd;rw[if_neg h]
theorem lH :upd (upd H a o) a u=upd H a u:=by
 funext b;unfold upd;split<;>rfl
theorem j9{H:Hp}(h:H a=some o)(h':H b=some u)(d:o≠u):a≠b:=by
 intro e;subst e;rw[h]at h';exact d (bO h')
theorem dN{H:Hp}(h:H a=some o)(h':H b=none):a≠b:=by
 intro e;subst e;rw[h]at h';cases h'
section
variable(P:cC)(w:World)
noncomputable def gq(H:Hp)(h:Heap)(a:aB):HO->Prop
 | .lst xs=>xs.length<=sizeLine/\∃(its:List aC)(n:Nat),Vals xs its/\h.get? a=some {cls:=.type "list",data:=.seq its.toArray n}
 | .tup xs=>xs.length<=sizeLine/\∃its:List aC,Vals xs its/\IsTup h a its.toArray
 | .dK kvs=>kvs.length<=sizeLine/\(a == sysModules)=false/\∃vs,KV kvs vs/\h.DictOf (Cz P w) a vs
 | .dT kvs=>kvs.length<=sizeLine/\(a == sysModules)=false/\∃xs:List (List Key×aB×aC),Paired (fun(p:List Key×V)(q:List Key×aB×aC)=>p.1=q.1/\H q.2.1=some (.tup (p.1.map kV))/\RelV p.2 q.2.2) kvs xs /\ ∃o es ep,h.get? a=some o/\o.ExactDict/\o.data=.dict es ep/\es.toList=xs.map (entryOfKey (tupleKind (Cz P w)))/\(xs.map (·.1)).Nodup
 | .set S n=>h.SetOf (intKind P w) a S n
 | .ins C dx fs=>H dx=some (.own a)/\fs.length<=1000/\dx≠a/\h.get? a=some (instObj C dx) /\ ∃mA,h.Ns1 dx mA/\(∀f,yu (fs.lookup f) (mA f))/\PySem.Within mA (fs.map (·.1))
 | .own _=>∃o,h.get? a=some o
 | .xd fs=>∃mA,h.Ns1 a mA/\∀f,yu (fs.lookup f) (mA f)
 | .rng lo hi=>∃t u v,h.get? a=some {cls:=.type "range",data:=.fields #[.int lo t,.int hi u,.int 1 v]}
 | .CJ o u=>h.get? a=some o/\gq H h a u
 | .wK ps=>h.get? a=some {cls:=.none,data:=.fields ps}
 | .met f x=>h.get? a=some (methodObj (.ref f) (.ref x))
 | .ext φ=>φ h/\(∃o,h.get? a=some o)/\∀h1 h2:Heap,φ h1->(∀o,h1.get? a=some o->h2.get? a=some o)->φ h2
def vK(H:Hp)(h:Heap):Prop:=∀a o,H a=some o->gq P w H h a o
end
variable{P:cC}{w:World}{H H':Hp}{h h':Heap}{a:aB}{o:HO}
theorem gq.lt(x:gq P w H h a o):a<h.objs.size:=by
 cases o with
 |lst xs=>obtain⟨_,_,_,_,e⟩:=x;exact Heap.lt_size e
 |tup xs=>obtain⟨_,_,_,p⟩:=x;exact p.lt
 |dK kvs=>obtain⟨_,_,_,_,o,_,_,e,_⟩:=x;exact Heap.lt_size e
 |dT kvs=>obtain⟨_,_,_,_,o,_,_,e,_⟩:=x;exact Heap.lt_size e
 |set S n=>obtain⟨o,_,_,_,e,_⟩:=x;exact Heap.lt_size e
 |ins C dx fs=>obtain⟨_,_,_,e,_⟩:=x;exact Heap.lt_size e
 |own y=>obtain⟨_,e⟩:=x;exact Heap.lt_size e
 |xd fs=>obtain⟨_,⟨_,_,_,e,_⟩,_⟩:=x;exact Heap.lt_size e
 |rng lo hi=>obtain⟨_,_,_,e⟩:=x;exact Heap.lt_size e
 |CJ ob u=>obtain⟨e,_⟩:=x;exact Heap.lt_size e
 |wK ps=>exact Heap.lt_size (show h.get? a=some _ from x)
 |met f y=>exact Heap.lt_size (show h.get? a=some _ from x)
 |ext φ=>obtain⟨_,⟨_,e⟩,_⟩:=x;exact Heap.lt_size e
theorem Paired.iB :∀{l₁:List α}{l₂:List β},Paired F l₁ l₂->(∀a b,F a b->G a b)->Paired G l₁ l₂
 |_,_,.nil,_=>.nil
 |_,_,.cons r t,f=>.cons (f _ _ r) (Paired.iB t f)
theorem gq.stay(x:gq P w H h a o)(k:∀b u,(b=a\/H b=some (.own a))->h.get? b=some u->h'.get? b=some u)(ho:∀b,H b=some (.own a)->H' b=some (.own a))(ht:∀b xs,H b=some (.tup xs)->H' b=some (.tup xs)):gq P w H' h' a o:=by
 induction o with
 |lst xs=>obtain⟨z,its,n,r,e⟩:=x;exact⟨z,its,n,r,k _ _ (.inl rfl) e⟩
 |tup xs=>obtain⟨z,its,r,ob,e,c⟩:=x;exact⟨z,its,r,ob,k _ _ (.inl rfl) e,c⟩
 |dK kvs=>obtain⟨z,y,vs,r,ob,es,ep,e,c⟩:=x;exact⟨z,y,vs,r,ob,es,ep,k _ _ (.inl rfl) e,c⟩
 |dT kvs =>
  obtain⟨z,y,xs,r,ob,es,ep,e,c⟩:=x;exact⟨z,y,xs,Paired.iB r λp q z=>⟨z.1,ht _ _ z.2.1,z.2.2⟩,ob,es,ep,k _ _ (.inl rfl) e,c⟩
 |set S n=>obtain⟨ob,es,ep,t,e,c⟩:=x;exact⟨ob,es,ep,t,k _ _ (.inl rfl) e,c⟩
 |ins C dx fs =>
  obtain⟨d,z,ne,e,mA,⟨od,es,ep,e2,c⟩,r⟩:=x;exact⟨ho _ d,z,ne,k _ _ (.inl rfl) e,mA,⟨od,es,ep,k _ _ (.inr d) e2,c⟩,r⟩
 |own y=>obtain⟨ob,e⟩:=x;exact⟨ob,k _ _ (.inl rfl) e⟩
 |xd fs=>obtain⟨mA,⟨od,es,ep,e,c⟩,r⟩:=x;exact⟨mA,⟨od,es,ep,k _ _ (.inl rfl) e,c⟩,r⟩
 |rng lo hi=>obtain⟨t,u,v,e⟩:=x;exact⟨t,u,v,k _ _ (.inl rfl) e⟩
 |CJ ob u ih=>obtain⟨e,q⟩:=x;exact⟨k _ _ (.inl rfl) e,ih q⟩
 |wK ps =>
  have e:h.get? a=some {cls:=.none,data:=.fields ps}:=x
  show h'.get? a=some {cls:=.none,data:=.fields ps}
  exact k a _ (.inl rfl) e
 |met f y =>
  have e:h.get? a=some (methodObj (.ref f) (.ref y)):=x
  show h'.get? a=some (methodObj (.ref f) (.ref y))
  exact k a _ (.inl rfl) e
 |ext φ=>obtain⟨p,⟨o,e⟩,st⟩:=x;exact⟨st _ _ p λo q=>k _ _ (.inl rfl) q,⟨o,k _ _ (.inl rfl) e⟩,st⟩
theorem vK.lt(x:vK P w H h)(e:H a=some o):a<h.objs.size:=(x a o e).lt
theorem vK.fresh(x:vK P w H h)(e:h.objs.size<=a):H a=none:=by
 cases q:H a with
 |none=>rfl
 |some u=>exact absurd (bJ (x.lt q) e) (dH _)
theorem vK.kept(x:vK P w H h)(k:∀b u,h.get? b=some u->h'.get? b=some u):vK P w H h':=λa o e =>
 (x a o e).stay (λb u _ q=>k b u q) (λ_ q=>q) λ_ _ q=>q
theorem vK.laid(x:vK P w H h)(k:∀b u,h.get? b=some u->h'.get? b=some u)(hp:h.objs.size<=a)(new:gq P w (upd H a o) h' a o):vK P w (upd H a o) h':=λb u e=>by
 have hn:=x.fresh hp
 by_cases hb:b=a
 ·subst hb;rw[aF]at e;cases e;exact new
 ·rw[bf hb]at e;exact(x b u e).stay (λc v _ q=>k c v q) (λc q=>by rw[bf (dN q hn)];exact q) λc xs q=>by rw[bf (dN q hn)];exact q
def Rd(H:Hp)(a:aB)(u:HO):Prop:=H a=some u\/∃o,H a=some (.CJ o u)
theorem Rd.ok(r:Rd H a u)(x:vK P w H h):gq P w H h a u:=by
 rcases r with r|⟨o,r⟩
 ·exact x a u r
 ·obtain⟨_,q⟩:=x a _ r;exact q
def Mut:Option HO->Prop
 |some (.lst _)=>True
 |some (.dK _)=>True
 |some (.dT _)=>True
 |some (.set _ _)=>True
 |some (.ins _ _ _)=>True
 |some (.ext _)=>True
 |_=>False
variable{x e:aB}
section
variable{o':HO}
theorem vK.write(ok:vK P w H h)(mu:Mut (H x))(he:e=x\/H e=some (.own x))(k:∀b u,b≠e->h.get? b=some u->h'.get? b=some u)(heo:∃u,h'.get? e=some u)(new:gq P w (upd H x o') h' x o'):vK P w (upd H x o') h':=λb u q=>by
 have afX:∀c y,H c=some (.own y)->c≠x:=λc y r z=>by subst z;rw[r]at mu;exact mu
 have akb:∀c xs,H c=some (.tup xs)->c≠x:=λc xs r z=>by subst z;rw[r]at mu;exact mu
 by_cases hb:b=x
 ·subst hb;rw[aF]at q;cases q;exact new
 ·rw[bf hb]at q
  by_cases hbe:b=e
  ·have q':H b=some (.own x):=by
    rcases he with z|z
    ·exact absurd (hbe.trans z) hb
    ·rw[hbe];exact z
   rw[q]at q';cases q';obtain⟨v,hv⟩:=heo;exact⟨v,by rw[hbe];exact hv⟩
  ·refine(ok b u q).stay (λc v hc r=>k c v ?_ r) (λc r=>by rw[bf (afX c b r)];exact r) λc xs r=>by rw[bf (akb c xs r)];exact r
   rcases hc with rfl|hc
   ·exact hbe
   ·rintro rfl;rcases he with z|z
    ·exact afX c b hc z
    ·rw[hc]at z;cases z;exact hb rfl
end
structure Un(fs ex:List aB)(H H':Hp)(h h':Heap):Prop where
 keep:∀b o,h.get? b=some o->H b=none->b∉fs->b∉ex->h'.get? b=some o
 slot:∀b o,h.get? b=some o->H b=none->b∈fs->b∉ex->∃sl,h'.get? b=some {o with slots:=sl}
 free:∀b o,h.get? b=some o->H b=none->b∉ex->H' b=none
 there:∀b o,h.get? b=some o->b∉ex->∃o',h'.get? b=some o'
 tups:∀b xs,H b=some (.tup xs)->H' b=some (.tup xs)
 xq:∀b o u,H b=some (.CJ o u)->H' b=some (.CJ o u)
 xr:∀b ps,H b=some (.wK ps)->∃more,H' b=some (.wK (ps++more))
section
variable{fs fs' ex ex':List aB}{H1 H2:Hp}{h1 h2:Heap}
theorem Un.any(u:Un fs ex H H1 h h1){b:aB}(q:h.get? b=some ob)(n:H b=none)(hx:b∉ex):∃sl,h1.get? b=some {ob with slots:=sl}:=by
 by_cases hb:b∈fs
 ·exact u.slot b ob q n hb hx
 ·exact⟨ob.slots,u.keep b ob q n hb hx⟩
theorem Un.kept(k:∀b u,h.get? b=some u->h'.get? b=some u):Un fs ex H H h h' := ⟨λb ob q _ _ _=>k b ob q,λb ob q _ _ _=>⟨ob.slots,k b ob q⟩,λ_ _ _ n _=>n,λb ob q _=>⟨ob,k b ob q⟩,λ_ _ q=>q,λ_ _ _ q=>q,λ_ ps q=>⟨#[],by rw[q];simp⟩⟩
theorem Un.refl:Un fs ex H H h h:=Un.kept λ_ _ q=>q
theorem Un.laid(k:∀b u,h.get? b=some u->h'.get? b=some u)(hp:h.objs.size<=a)(hn:H a=none):Un fs ex H (upd H a o) h h' where
 keep:=λb u q _ _ _=>k b u q
 slot:=λb u q _ _ _=>⟨u.slots,k b u q⟩
 free:=λb u q n _=>by rw[bf (Nat.ne_of_lt (bJ (Heap.lt_size q) hp))];exact n
 there:=λb u q _=>⟨u,k b u q⟩
 tups:=λb xs q=>by rw[bf (dN q hn)];exact q
 xq:=λb u xs q=>by rw[bf (dN q hn)];exact q
 xr:=λb ps q=>⟨#[],by rw[bf (dN q hn),q];simp⟩
theorem Un.write(mu:Mut (H x))(he:e=x\/H e=some (.own x))(k:∀b u,b≠e->h.get? b=some u->h'.get? b=some u)(heo:∃u,h'.get? e=some u):Un fs ex H (upd H x o) h h':=by
 have hx:∀b,H b=none->b≠x:=λb n z=>by subst z;rw[n]at mu;exact mu
 have hb:∀b,H b=none->b≠e:=λb n z=>by
  subst z;rcases he with r|r
  ·exact hx b n r
  ·rw[n]at r;cases r
 have hm:∀b u,H b=some u->¬Mut (some u)->b≠x:=λb u q nm z=>by subst z;rw[q]at mu;exact nm mu
 refine⟨λb u q n _ _=>k b u (hb b n) q,λb u q n _ _=>⟨u.slots,k b u (hb b n) q⟩,λb u q n _=>by rw[bf (hx b n)];exact n,λb u q _=>?_,λb xs q=>by rw[bf (hm b _ q λz=>z)];exact q,λb u xs q=>by rw[bf (hm b _ q λz=>z)];exact q,λb ps q=>⟨#[],by rw[bf (hm b _ q λz=>z),q];simp⟩⟩
 by_cases hbe:b=e
 ·subst hbe;exact heo
 ·exact⟨u,k b u hbe q⟩
end
def trk(h:Heap)(H:Hp):List aB:=(List.range h.objs.size).filter λa=>(H a).isSome
def Ae(h:Heap)(H:Hp):Heap:=PySem.W.hideAll h (trk h H)
theorem Pq(h:Heap)(H:Hp):(Ae h H).objs.size=h.objs.size:=PySem.W.hideAll_size _ _
theorem TF{b:aB}{o:Obj}(e:h.get? b=some o)(n:H b=none):(Ae h H).get? b=some o := PySem.W.hideAll_get _ e λhm=>by
 have q:(H b).isSome=true:=(mem_filter.mp hm).2;rw[n]at q;simp at q
theorem Y8{b:aB}{o:Obj}(e:(Ae h H).get? b=some o):h.get? b=some o/\H b=none:=by
 have e':h.get? b=some o:=PySem.W.of_hideAll (trk h H) e;refine⟨e',?_⟩;cases q:H b with
 |none=>rfl
 |some x =>
  have hm:b∈trk h H:=mem_filter.mpr ⟨mem_range.mpr (Heap.lt_size e'),by simp[q]⟩;have z:(Ae h H).get? b=none:=PySem.W.hideAll_none (trk h H) hm;rw[z]at e;cases e
structure Mod(K:Fg)(mg:Str->Option aC)(base:Heap):Prop where
 Fq:K.In base
 glob:base.Ns mainGlobals mg
 blt:∃mb,base.Ns builtinsNs mb/\∀x:Str,x≠"__name__"->mb x=bootBuiltins x
 nolimit:base.NoLimit
structure Cx where
 prog:cC
 w:World
 K:Fg
 mg:Str->Option aC
 base:Heap
 A:eE
 N:List Str
 s₀:aW
 H₀:Hp
 env:Env
 outer:List Env
 stack:List Env
 ex:List aB
 fn:Str->Bool
 calm:Bool
 pn:List (aB×Obj)
 xe:aC->aW->Prop
def frs(l:List Env):List aB:=l.filterMap (·.frame)
abbrev Cx.fs(X:Cx):List aB:=frs X.outer
def Vis(sc:Scope)(x:Str):Prop:=sc.names.lookup x=some .local\/sc.names.lookup x=some .cell\/sc.names.lookup x=some .free
def Loc(sc:Scope)(x:Str):Prop:=sc.names.lookup x=some .local\/sc.names.lookup x=some .cell
noncomputable def Look(env:Env)(h:Heap)(m:Str->Option aC)(x:Str)(u:aC):Prop := (env.kindOf x=some .local/\m x=some u)\/((env.kindOf x=some .cell\/env.kindOf x=some .free)/\∃c,env.cells.lookup x=some c/\h.IsCell c (some u))
structure Cx.Ok(X:Cx):Prop where
 mod:Mod X.K X.mg X.base
 kind:X.env.scope.kind=.function
 glob:X.env.globals=mainGlobals
 blt:X.env.builtins=builtinsNs
 above:X.s₀.heap.objs.size<=X.env.locals
 inj:∀x y c,X.env.cells.lookup x=some c->X.env.cells.lookup y=some c->x=y
 has:∀x,(X.env.kindOf x=some .cell\/X.env.kindOf x=some .free)->∃c,X.env.cells.lookup x=some c
 cab:∀x c,X.fn x=true->X.env.cells.lookup x=some c->X.s₀.heap.objs.size<=c
 hd:X.calm=true->X.A.handled=none
 frames:X.A.frames=some X.stack
 stk:X.stack=X.outer\/(X.stack=X.env::X.outer/\X.env.frame=some X.env.locals)
 exf:∀b∈X.ex,b≠X.env.locals/\∀x c,X.env.cells.lookup x=some c->c≠b
 bs:∀b o,X.base.get? b=some o->X.s₀.heap.get? b=some o/\X.H₀ b=none
 Pr:X.base.objs.size<=X.s₀.heap.objs.size
 Pu:∀b o,X.base.get? b=some o->b∉X.ex
 TJ:∀b∈X.ex,b∉X.fs
 rR:X.s₀.heap.FunFrames X.base X.outer
 Y9:∀b∈X.fs,X.H₀ b=none
structure Inv(X:Cx)(pins:List (aB×Obj))(σ:List (Option V))(H:Hp)(s:aW):Prop where
 ok:X.Ok
 os:s.os=X.s₀.os
 bare:AllBare s.gens
 base:Un X.fs X.ex X.H₀ H X.s₀.heap s.heap
 loc:∃m,s.heap.Ns X.env.locals m/\∀(i:Nat)(x:Str)(v:V),X.N[i]?=some x->σ[i]?=some (some v)->Vis X.env.scope x->∃u,RelV v u/\Look X.env s.heap m x u
 cell:∀x c,X.env.cells.lookup x=some c->∃v,s.heap.IsCell c v
 free:H X.env.locals=none
 kh:∀x c,X.env.cells.lookup x=some c->H c=none
 pin:∀p∈X.pn++pins,s.heap.get? p.1=some p.2/\H p.1=none/\p.1≠X.env.locals/\p.1∉X.fs/\∀v,p.2.data≠.cell v
 hok:vK X.prog X.w H s.heap
 len:σ.length=X.N.length
variable{X:Cx}{pins:List (aB×Obj)}{s:aW}
section
variable{σ:List (Option V)}
theorem Cx.Ok.akd(ok:X.Ok){b:aB}{o:Obj}(e:X.base.get? b=some o):b∉X.fs:=λhb=>by
 have:=(ok.rR.mem hb).1;rw[e]at this;cases this
theorem Inv.bs(I:Inv X pins σ H s):∀b o,X.base.get? b=some o->s.heap.get? b=some o/\H b=none:=λb o e =>
 ⟨I.base.keep b o (I.ok.bs b o e).1 (I.ok.bs b o e).2 (I.ok.akd e) (I.ok.Pu b o e),I.base.free b o (I.ok.bs b o e).1 (I.ok.bs b o e).2 (I.ok.Pu b o e)⟩
theorem Inv.bk(I:Inv X pins σ H s):∀b o,X.base.get? b=some o->s.heap.get? b=some o:=λb o e=>(I.bs b o e).1
theorem Inv.mod(I:Inv X pins σ H s):Mod X.K X.mg X.base:=I.ok.mod
theorem Inv.oR(I:Inv X pins σ H s):X.K.In s.heap:=I.ok.mod.Fq.keeps I.bk
theorem Inv.nolimit(I:Inv X pins σ H s):s.heap.NoLimit:=I.ok.mod.nolimit.keeps I.bk
theorem Inv.fr(I:Inv X pins σ H s):∃m,Fr X.base X.env.locals s.heap m := let ⟨m,hn,_⟩:=I.loc
 ⟨m,hn,I.bk,bx I.ok.Pr I.ok.above⟩
theorem Inv.lt(I:Inv X pins σ H s):X.env.locals<s.heap.objs.size:=let ⟨_,hn,_⟩:=I.loc;hn.lt
theorem Inv.sz(I:Inv X pins σ H s):X.s₀.heap.objs.size<=s.heap.objs.size:=bx I.ok.above (Nat.le_of_lt I.lt)
theorem Inv.ake(I:Inv X pins σ H s)(h:s.heap.objs.size<=a):a∉X.fs:=λhb=>by
 obtain⟨_,o,ho,_⟩:=I.ok.rR.mem hb;exact absurd (bJ (Heap.lt_size ho) (bx I.sz h)) (dH _)
theorem Inv.cne(I:Inv X pins σ H s):∀x c,X.env.cells.lookup x=some c->c≠X.env.locals:=λx c e z=>by
 obtain⟨v,o,ho,hd⟩:=I.cell x c e;obtain⟨m,⟨o',es,ep,ho',hd',_⟩,_⟩:=I.loc;rw[z,ho']at ho;cases ho;rw[hd']at hd;cases hd
theorem Inv.rR(I:Inv X pins σ H s):s.heap.FunFrames X.base X.outer:=by
 have all:∀(l:List Env),(∀b∈frs l,b∈X.fs)->X.s₀.heap.FunFrames X.base l->s.heap.FunFrames X.base l:=by
  intro l
  induction l with
  |nil=>intro _ _;trivial
  |cons env r ih =>
   intro hs hl;obtain⟨hk,⟨L,o,hf,hn,ho,hd⟩,hr⟩:=hl;have hL:L∈X.fs:=hs L (by unfold frs;rw[filterMap_cons,hf];exact mem_cons_self);obtain⟨sl,e⟩:=I.base.slot L o ho (I.ok.Y9 L hL) hL λz=>I.ok.TJ L z hL
   exact⟨hk,⟨L,_,hf,hn,e,hd⟩,ih (λb hb=>hs b (by unfold frs;rw[filterMap_cons,hf];exact mem_cons_of_mem _ hb)) hr⟩
 exact all X.outer (λ_ hb=>hb) I.ok.rR
theorem Inv.stack(I:Inv X pins σ H s):s.heap.FunFrames X.base X.stack:=by
 rcases I.ok.stk with e|⟨e,hf⟩
 ·rw[e];exact I.rR
 ·rw[e];obtain⟨m,hn,_⟩:=I.loc;refine .cons (by rw[I.ok.kind];decide) hf hn ?_ I.rR;exact Heap.get?_none_of_le (bx I.ok.Pr I.ok.above)
theorem Inv.vL(I:Inv X pins σ H s):∀b∈frs X.stack,b∈X.env.locals::X.fs:=λb hb=>by
 rcases I.ok.stk with e|⟨e,hf⟩
 ·rw[e]at hb;exact mem_cons_of_mem _ hb
 ·rw[e]at hb;unfold frs at hb;rw[filterMap_cons,hf]at hb;exact hb
theorem Inv.xQ(I:Inv X pins σ H s):∀b∈frs X.stack,H b=none:=λb hb=>by
 rcases aR.mp (I.vL b hb) with e|hb
 ·rw[e];exact I.free
 ·obtain⟨_,o,ho,_⟩:=I.ok.rR.mem hb;exact I.base.free b o ho (I.ok.Y9 b hb) λz=>I.ok.TJ b z hb
theorem Inv.step{ch:List aB}(I:Inv X pins σ H s)(hch:∀b∈ch,(b∈X.ex\/X.s₀.heap.objs.size<=b)/\b≠X.env.locals/\(∀x c,X.env.cells.lookup x=some c->c≠b)/\∀p∈X.pn++pins,p.1≠b)(keep:∀b o,b≠X.env.locals->b∉X.fs->b∉ch->s.heap.get? b=some o->H b=none->h'.get? b=some o)(slot:∀b o,b≠X.env.locals->b∈X.fs->b∉ch->s.heap.get? b=some o->H b=none->∃sl,h'.get? b=some {o with slots:=sl})(free:∀b o,b∉ch->s.heap.get? b=some o->H b=none->H' b=none)(there:∀b o,b∉ch->s.heap.get? b=some o->∃o',h'.get? b=some o')(tups:∀b xs,H b=some (.tup xs)->H' b=some (.tup xs))(xq:∀b o u,H b=some (.CJ o u)->H' b=some (.CJ o u))(xr:∀b ps,H b=some (.wK ps)->∃more,H' b=some (.wK (ps++more)))(ns:∀m,s.heap.Ns X.env.locals m->h'.Ns X.env.locals m)(hok:vK X.prog X.w H' h')(hg:AllBare g') : Inv X pins σ H' {s with heap:=h',gens:=g',drawn:=d',toks:=t'}:=by
 have neL:∀b o,X.s₀.heap.get? b=some o->b≠X.env.locals:=λb o e=>Nat.ne_of_lt (bJ (Heap.lt_size e) I.ok.above)
 have neC:∀b o,X.s₀.heap.get? b=some o->b∉X.ex->b∉ch:=λb o e hx hb=>by
  rcases (hch b hb).1 with z|z
  ·exact hx z
  ·exact absurd (bJ (Heap.lt_size e) z) (dH _)
 have cellK:∀x c,X.env.cells.lookup x=some c->∀v,s.heap.IsCell c v->h'.IsCell c v:=λx c e v ⟨o,ho,hd⟩=>by
  have TQ:c∉ch:=λz=>(hch c z).2.2.1 x c e rfl
  by_cases hc:c∈X.fs
  ·obtain⟨sl,q⟩:=slot c o (I.cne x c e) hc TQ ho (I.kh x c e);exact⟨_,q,hd⟩
  ·exact⟨o,keep c o (I.cne x c e) hc TQ ho (I.kh x c e),hd⟩
 refine⟨I.ok,I.os,hg,⟨λb o e n hb hx=>?_,λb o e n hb hx=>?_,λb o e n hx=>?_,λb o e hx=>?_,λb xs e=>tups b xs (I.base.tups b xs e),λb o xs e=>xq b o xs (I.base.xq b o xs e),λb ps e=>?_⟩,?_,λx c e=>?_,?_,λx c e=>?_,λp hp=>?_,hok,I.len⟩
 ·exact keep b o (neL b o e) hb (neC b o e hx) (I.base.keep b o e n hb hx) (I.base.free b o e n hx)
 ·obtain⟨sl,e1⟩:=I.base.slot b o e n hb hx;obtain⟨sl',e2⟩:=slot b _ (neL b o e) hb (neC b o e hx) e1 (I.base.free b o e n hx);exact⟨sl',e2⟩
 ·obtain⟨o',e1⟩:=I.base.there b o e hx;exact free b o' (neC b o e hx) e1 (I.base.free b o e n hx)
 ·obtain⟨o',e1⟩:=I.base.there b o e hx;exact there b o' (neC b o e hx) e1
 ·obtain⟨m1,e1⟩:=I.base.xr b ps e;obtain⟨m2,e2⟩:=xr b _ e1;exact⟨m1++m2,by rw[e2,Array.append_assoc]⟩
 ·obtain⟨m,hn,hl⟩:=I.loc;refine⟨m,ns m hn,λi x v e1 e2 e3=>?_⟩;obtain⟨u,r,l⟩:=hl i x v e1 e2 e3;refine⟨u,r,?_⟩;rcases l with l|⟨k,c,e,z⟩
  ·exact .inl l
  ·exact .inr ⟨k,c,e,cellK x c e _ z⟩
 ·obtain⟨v,z⟩:=I.cell x c e;exact⟨v,cellK x c e v z⟩
 ·obtain⟨m,⟨o,_,_,ho,_⟩,_⟩:=I.loc;exact free _ o (λz=>(hch _ z).2.1 rfl) ho I.free
 ·obtain⟨v,o,ho,hd⟩:=I.cell x c e;exact free c o (λz=>(hch c z).2.2.1 x c e rfl) ho (I.kh x c e)
 ·obtain⟨e,n,ne,nf,d⟩:=I.pin p hp;have TQ:p.1∉ch:=λz=>(hch p.1 z).2.2.2 p hp rfl
  exact⟨keep p.1 p.2 ne nf TQ e n,free p.1 p.2 TQ e n,ne,nf,d⟩
theorem Inv.un(I:Inv X pins σ H s)(u:Un X.fs [] H H' s.heap h')(hok:vK X.prog X.w H' h'):Inv X pins σ H' {s with heap:=h',toks:=t'}:=by
 obtain⟨m,⟨o,es,ep,ho,r⟩,_⟩:=id I.loc;obtain⟨sl,hL⟩:=u.any ho I.free (by simp);exact I.step (g':=s.gens) (d':=s.drawn) (ch:=[]) (λ_ z=>nomatch z) (λb o _ hb _ e n=>u.keep b o e n hb (by simp)) (λb o _ hb _ e n=>u.slot b o e n hb (by simp)) (λb o _ e n=>u.free b o e n (by simp)) (λb o _ e=>u.there b o e (by simp)) u.tups u.xq u.xr (λm' hm=>by
  obtain⟨o',es',ep',ho',r'⟩:=hm;rw[ho]at ho';cases ho';exact⟨_,es',ep',hL,r'⟩) hok I.bare
theorem Inv.call(I:Inv X pins σ H s)(u:Un (frs X.stack) ch H H' s.heap h')(hok:vK X.prog X.w H' h')(hg:AllBare g')(hch:∀b∈ch,(b∈X.ex\/X.s₀.heap.objs.size<=b)/\b≠X.env.locals/\(∀x c,X.env.cells.lookup x=some c->c≠b)/\∀p∈X.pn++pins,p.1≠b) : Inv X pins σ H' {s with heap:=h',gens:=g',drawn:=d',toks:=t'}:=by
 obtain⟨m,⟨o,es,ep,ho,r⟩,_⟩:=id I.loc;obtain⟨sl,hL⟩:=u.any ho I.free λz=>(hch _ z).2.1 rfl
 exact I.step (ch:=ch) hch (λb o hL hb hc e n=>u.keep b o e n (λz=>(aR.mp (I.vL b z)).elim hL hb) hc) (λb o _ _ hc e n=>u.any e n hc) (λb o hc e n=>u.free b o e n hc) (λb o hc e=>u.there b o e hc) u.tups u.xq u.xr (λm' hm=>by
  obtain⟨o',es',ep',ho',r'⟩:=hm;rw[ho]at ho';cases ho';exact⟨_,es',ep',hL,r'⟩) hok hg
theorem Inv.turned{it:aB}(I:Inv X pins σ H s)(k:∀b o,b≠it->s.heap.get? b=some o->h'.get? b=some o)(hn:H it=none)(hL:it≠X.env.locals)(h1:it∈X.ex\/X.s₀.heap.objs.size<=it)(h2:∀x c,X.env.cells.lookup x=some c->c≠it)(h3:∀p∈X.pn++pins,p.1≠it):Inv X pins σ H {s with heap:=h',toks:=t'}:=by
 have nit:∀b u,H b=some u->b≠it:=λb u e z=>by rw[z,hn]at e;cases e
 refine I.step (g':=s.gens) (d':=s.drawn) (ch:=[it]) (λb hb=>?_) (λb o _ _ hc e _=>k b o (λz=>hc (by simp[z])) e) (λb o _ _ hc e _=>⟨o.slots,k b o (λz=>hc (by simp[z])) e⟩) (λ_ _ _ _ n=>n) (λb o hc e=>⟨o,k b o (λz=>hc (by simp[z])) e⟩) (λ_ _ e=>e) (λ_ _ _ e=>e) (λb ps e=>⟨#[],by rw[e];simp⟩) (λm hm=>?_) (λb u e=>?_) I.bare
 ·have e:b=it:=by simpa using hb
  subst e;exact⟨h1,hL,h2,h3⟩
 ·obtain⟨o,es,ep,ho,r⟩:=hm;exact⟨o,es,ep,k _ o (Ne.symm hL) ho,r⟩
 ·refine(I.hok b u e).stay (λc v hc q=>k c v ?_ q) (λ_ q=>q) λ_ _ q=>q
  rcases hc with z|z
  ·rw[z];exact nit b u e
  ·exact nit c _ z
theorem Inv.tok(I:Inv X pins σ H s)(t:Nat):Inv X pins σ H {s with toks:=t}:=I.un (h':=s.heap) (t':=t) Un.refl I.hok
theorem Inv.kept(I:Inv X pins σ H s)(k:∀b u,s.heap.get? b=some u->h'.get? b=some u):Inv X pins σ H {s with heap:=h',toks:=t'}:=I.un (Un.kept k) (I.hok.kept k)
theorem Inv.laid(I:Inv X pins σ H s)(k:∀b u,s.heap.get? b=some u->h'.get? b=some u)(hp:s.heap.objs.size<=a)(new:gq X.prog X.w (upd H a o) h' a o) : Inv X pins σ (upd H a o) {s with heap:=h',toks:=t'}:=I.un (Un.laid k hp (I.hok.fresh hp)) (I.hok.laid k hp new)
theorem Inv.write(I:Inv X pins σ H s)(mu:Mut (H x))(he:e=x\/H e=some (.own x))(k:∀b u,b≠e->s.heap.get? b=some u->h'.get? b=some u)(heo:∃u,h'.get? e=some u)(new:gq X.prog X.w (upd H x o) h' x o):Inv X pins σ (upd H x o) {s with heap:=h',toks:=t'}:=I.un (Un.write mu he k heo) (I.hok.write mu he k heo new)
theorem Inv.weak(I:Inv X pins σ H s)(hl:σ'.length=σ.length)(w:∀(i:Nat) v,σ'[i]?=some (some v)->σ[i]?=some (some v)):Inv X pins σ' H s := ⟨I.ok,I.os,I.bare,I.base,let ⟨m,hn,hl'⟩:=I.loc;⟨m,hn,λi x v e1 e2 e3=>hl' i x v e1 (w i v e2) e3⟩,I.cell,I.free,I.kh,I.pin,I.hok,hl.trans I.len⟩
theorem Inv.CK{pP:List (aB×Obj)}(I:Inv X pins σ H s)(h:∀p∈pP,s.heap.get? p.1=some p.2/\H p.1=none/\p.1≠X.env.locals/\p.1∉X.fs/\∀v,p.2.data≠.cell v):Inv X pP σ H s := ⟨I.ok,I.os,I.bare,I.base,I.loc,I.cell,I.free,I.kh,λp hp=>(bQ.mp hp).elim (λz=>I.pin p (mem_append_left _ z)) (h p),I.hok,I.len⟩
theorem Ft{N:List Str}(hN:N.Nodup){i j:Nat}{x:Str}(a:N[i]?=some x)(b:N[j]?=some x):i=j:=by
 obtain⟨h1,e1⟩:=aM.mp a;obtain⟨h2,e2⟩:=aM.mp b;exact(List.getElem_inj hN).mp (e1.trans e2.symm)
theorem Ay{A:eE}{E:aC->aW->Prop}{x:Str}{Q:Unit->aW->Prop}(I:Inv X pins σ H s)(hN:X.N.Nodup)(hi:X.N[i]?=some x)(hx:Loc X.env.scope x)(r:RelV v u)(h:∀s',Inv X pins (σ.set i (some v)) H s'->(∃a,Heap.SameBut a s.heap s'.heap/\(a=X.env.locals\/X.env.cells.lookup x=some a))->Q () s')(hf:autoParam (X.fn x=true\/X.env.scope.names.lookup x=some .local) zau2):wpAny M A (storeName X.env x u) Q E s:=by
 obtain⟨m,hn,hl⟩:=id I.loc;have hcls:(X.env.scope.kind == .class||(X.env.scope.kind == .module&&X.env.locals != X.env.globals))=false:=by rw[I.ok.kind];rfl
 have hiσ:i<σ.length:=by rw[I.len];exact(aM.mp hi).1
 have cne:=I.cne;have tracked:∀{a:aB}{h':Heap},(∃o,s.heap.get? a=some o/\H a=none)->Heap.SameBut a s.heap h'->vK X.prog X.w H h':=fun{a h'} ha hs b ob e=>by
  obtain⟨_,_,hfree⟩:=ha;refine(I.hok b ob e).stay (λc w' hc q=>(hs.2 c ?_).trans q) (λ_ q=>q) λ_ _ q=>q
  rintro rfl;rcases hc with rfl|hc
  ·rw[hfree]at e;cases e
  ·rw[hfree]at hc;cases hc
 rcases hx with hk|hk
 ·refine wpAny_storeName_local hk hn (λh' hn' hs=>?_) hcls;obtain⟨oL,_,_,hoL,_⟩:=id hn;refine h _ ⟨I.ok,I.os,I.bare,⟨λb o e n hb hx=>?_,λb o e n hb hx=>?_,I.base.free,λb o e hx=>?_,I.base.tups,I.base.xq,I.base.xr⟩,⟨_,hn',λj y v' e1 e2 e3=>?_⟩,λy c e=>?_,I.free,I.kh,λp hp=>?_,tracked ⟨oL,hoL,I.free⟩ hs,by simpa using I.len⟩ ⟨_,hs,.inl rfl⟩
  ·exact(hs.2 b (Nat.ne_of_lt (bJ (Heap.lt_size e) I.ok.above))).trans (I.base.keep b o e n hb hx)
  ·obtain⟨sl,e1⟩:=I.base.slot b o e n hb hx;exact⟨sl,(hs.2 b (Nat.ne_of_lt (bJ (Heap.lt_size e) I.ok.above))).trans e1⟩
  ·obtain⟨o',e1⟩:=I.base.there b o e hx;exact⟨o',(hs.2 b (Nat.ne_of_lt (bJ (Heap.lt_size e) I.ok.above))).trans e1⟩
  ·by_cases hj:j=i
   ·subst hj;rw[hi]at e1;cases e1;rw[List.getElem?_set_self hiσ]at e2;cases e2;exact⟨u,r,.inl ⟨hk,by simp⟩⟩
   ·rw[List.getElem?_set_ne (Ne.symm hj)]at e2;obtain⟨u',r',q⟩:=hl j y v' e1 e2 e3;refine⟨u',r',?_⟩;rcases q with ⟨k,e⟩|⟨k,c,e,z⟩
    ·refine .inl ⟨k,?_⟩;have:y≠x:=λe=>hj (Ft hN e1 (e ▸ hi))
     simp[this,e]
    ·exact .inr ⟨k,c,e,z.sameBut hs (cne y c e)⟩
  ·obtain⟨w',z⟩:=I.cell y c e;exact⟨w',z.sameBut hs (cne y c e)⟩
  ·obtain⟨e,n,ne,nf,d⟩:=I.pin p hp;exact⟨(hs.2 p.1 ne).trans e,n,ne,nf,d⟩
 ·have hfn:X.fn x=true:=by
   rcases hf with z|z
   ·exact z
   ·rw[z]at hk;cases hk
  obtain⟨c,hc⟩:=I.ok.has x (.inl hk);obtain⟨w',z⟩:=I.cell x c hc;refine wpAny_storeName_cell I.ok.kind hk hc z (λh' hc' hs=>?_);obtain⟨oc,hoc,akf⟩:=id z;refine h {s with heap:=h'} ⟨I.ok,I.os,I.bare,⟨λb o e n hb hx=>?_,λb o e n hb hx=>?_,I.base.free,λb o e hx=>?_,I.base.tups,I.base.xq,I.base.xr⟩,⟨m,hn.sameBut hs (Ne.symm (cne x c hc)),λj y v' e1 e2 e3=>?_⟩,λy c' e=>?_,I.free,I.kh,λp hp=>?_,tracked ⟨oc,hoc,I.kh x c hc⟩ hs,by simpa using I.len⟩ ⟨c,hs,.inr hc⟩
  ·exact(hs.2 b (Nat.ne_of_lt (bJ (Heap.lt_size e) (I.ok.cab x c hfn hc)))).trans (I.base.keep b o e n hb hx)
  ·obtain⟨sl,e1⟩:=I.base.slot b o e n hb hx;exact⟨sl,(hs.2 b (Nat.ne_of_lt (bJ (Heap.lt_size e) (I.ok.cab x c hfn hc)))).trans e1⟩
  ·obtain⟨o',e1⟩:=I.base.there b o e hx;exact⟨o',(hs.2 b (Nat.ne_of_lt (bJ (Heap.lt_size e) (I.ok.cab x c hfn hc)))).trans e1⟩
  ·by_cases hj:j=i
   ·subst hj;rw[hi]at e1;cases e1;rw[List.getElem?_set_self hiσ]at e2;cases e2;exact⟨u,r,.inr ⟨.inl hk,c,hc,hc'⟩⟩
   ·rw[List.getElem?_set_ne (Ne.symm hj)]at e2;obtain⟨u',r',q⟩:=hl j y v' e1 e2 e3;refine⟨u',r',?_⟩;rcases q with q|⟨k,c',e,z'⟩
    ·exact .inl q
    ·refine .inr ⟨k,c',e,z'.sameBut hs ?_⟩;rintro rfl;exact hj (Ft hN e1 (I.ok.inj _ _ _ e hc ▸ hi))
  ·by_cases hcc:c'=c
   ·subst hcc;exact⟨_,hc'⟩
   ·obtain⟨w2,z2⟩:=I.cell y c' e;exact⟨w2,z2.sameBut hs hcc⟩
  ·obtain⟨e,n,ne,nf,d⟩:=I.pin p hp;refine⟨(hs.2 p.1 ?_).trans e,n,ne,nf,d⟩;intro q;rw[q,hoc]at e;have q':oc=p.2:=bO e;exact d w' (by rw[<- q'];exact akf)
theorem pW{A:eE}{E:aC->aW->Prop}{x:Str}{Q:Unit->aW->Prop}(I:Inv X pins σ H s)(hN:X.N.Nodup)(hi:X.N[i]?=some x)(hx:Loc X.env.scope x)(r:RelV v u)(h:∀s',Inv X pins (σ.set i (some v)) H s'->Q () s')(hf:autoParam (X.fn x=true\/X.env.scope.names.lookup x=some .local) zau2):wpAny M A (storeName X.env x u) Q E s := Ay I hN hi hx r (λs' I' _=>h s' I') hf
theorem Inv.call'(I:Inv X pins σ H s)(ho:s'.os=s.os)(u:Un (frs X.stack) ch H H' s.heap s'.heap)(hok:vK X.prog X.w H' s'.heap)(hg:AllBare s'.gens)(hch:∀b∈ch,(b∈X.ex\/X.s₀.heap.objs.size<=b)/\b≠X.env.locals/\(∀x c,X.env.cells.lookup x=some c->c≠b)/\∀p∈X.pn++pins,p.1≠b):Inv X pins σ H' s':=by
 obtain⟨h',g',d',t',o'⟩:=s';have e:o'=s.os:=ho;subst e;exact I.call (g':=g') (t':=t') (d':=d') u hok hg hch
end
abbrev XK:=aC->Option aB->Hp->Prop
abbrev St:=List (Option V)
abbrev VK:=V->Hp->Prop
abbrev TE:=St->Hp->VK->Prop
abbrev TT:=St->Hp->(Bool->Hp->Prop)->Prop
abbrev TA:=St->Hp->(List V->Hp->Prop)->Prop
structure Ends where
 nx:St->Hp->Prop
 rt:VK
 bk:St->Hp->Prop:=λ_ _=>False
 ct:St->Hp->Prop:=λ_ _=>False
abbrev TS:=Ends->St->Hp->Prop
def EP(X:Cx)(pins:List (aB×Obj))(σ:St)(Q:VK)(u:aC)(s':aW):Prop:=∃v H',Inv X pins σ H' s'/\RelV v u/\Q v H'
def TP(X:Cx)(pins:List (aB×Obj))(σ:St)(Q:Bool->Hp->Prop)(b:Bool)(s':aW):Prop:=∃H',Inv X pins σ H' s'/\Q b H'
def AP(X:Cx)(pins:List (aB×Obj))(σ:St)(Q:List V->Hp->Prop)(us:List aC)(s':aW):Prop:=∃vs H',Inv X pins σ H' s'/\Vals vs us/\Q vs H'
noncomputable def SP(X:Cx)(pins:List (aB×Obj))(D:Ends)(f:Flow)(s':aW):Prop := match f with
 | .next=>∃σ' H',Inv X pins σ' H' s'/\D.nx σ' H'
 | .brk=>∃σ' H',Inv X pins σ' H' s'/\D.bk σ' H'
 | .cont=>∃σ' H',Inv X pins σ' H' s'/\D.ct σ' H'
 | .ret u=>∃v σ' H',Inv X pins σ' H' s'/\RelV v u/\D.rt v H'
def PE(X:Cx)(e:Expr)(t:TE):Prop := ∀(pins:List (aB×Obj))(s:aW)(σ:St)(H:Hp)(Q:VK),Inv X pins σ H s->t σ H Q->wpAny (model X.prog X.w) X.A (eval e X.env) (EP X pins σ Q) X.xe s
noncomputable def PT(X:Cx)(e:Expr)(t:TT):Prop := ∀(pins:List (aB×Obj))(s:aW)(σ:St)(H:Hp)(Q:Bool->Hp->Prop),Inv X pins σ H s->t σ H Q->wpAny (model X.prog X.w) X.A (isTrue e X.env (eval e X.env)) (TP X pins σ Q) X.xe s
noncomputable def PW(X:Cx)(e:Expr)(t:TT):Prop := ∀(whole:Sem aC)(pins:List (aB×Obj))(s:aW)(σ:St)(H:Hp)(Q:Bool->Hp->Prop),Inv X pins σ H s->t σ H Q->wpAny (model X.prog X.w) X.A (isTrue e X.env whole) (TP X pins σ Q) X.xe s
theorem PW.pt{e:Expr}(h:PW X e t):PT X e t:=h _
noncomputable def PA(X:Cx)(es:List Expr)(t:TA):Prop := ∀(pos:Pos)(pins:List (aB×Obj))(s:aW)(σ:St)(H:Hp)(Q:List V->Hp->Prop),Inv X pins σ H s->t σ H Q->wpAny (model X.prog X.w) X.A (spliced (backTo pos (starEach es X.env))) (AP X pins σ Q) X.xe s
def PS(X:Cx)(st:dI)(t:TS):Prop := ∀(pins:List (aB×Obj))(s:aW)(σ:St)(H:Hp)(D:Ends),Inv X pins σ H s->t D σ H->wpAny (model X.prog X.w) X.A (exec st X.env) (SP X pins D) X.xe s
def Ac(X:Cx)(st:List dI)(t:TS):Prop := ∀(pins:List (aB×Obj))(s:aW)(σ:St)(H:Hp)(D:Ends),Inv X pins σ H s->t D σ H->wpAny (model X.prog X.w) X.A (execs st X.env) (SP X pins D) X.xe s
theorem f9{Q Q':α->aW->Prop}{A:eE}{E:aC->aW->Prop}(h:wpAny M A t Q E s)(hQ:∀a s,Q a s->Q' a s):wpAny M A t Q' E s:=cW h hQ λ_ _ x=>x
section
variable{X:Cx}
theorem bin{a b:Expr}(ha:PE X a ta)(hb:PE X b tb){σ:St}{R:V->V->Hp->Prop}(I:Inv X pins σ H s)(h:ta σ H λx H1=>tb σ H1 λy H2=>R x y H2){Q:α->aW->Prop}{f:aC->aC->Sem α}(hf:∀v u s2 x y H2,Inv X pins σ H2 s2->RelV x v->RelV y u->R x y H2->wpAny (model X.prog X.w) X.A (f v u) Q X.xe s2) : wpAny (model X.prog X.w) X.A (eval a X.env) (λv s₁=>wpAny (model X.prog X.w) X.A (eval b X.env) (λu s₂=>wpAny (model X.prog X.w) X.A (f v u) Q X.xe s₂) X.xe s₁) X.xe s:=by
 refine f9 (ha pins s σ H _ I h) λv s1 ⟨x,H1,I1,r1,q1⟩=>?_
 refine f9 (hb pins s1 σ H1 _ I1 q1) λu s2 ⟨y,H2,I2,r2,q2⟩=>?_
 exact hf v u s2 x y H2 I2 r1 r2 q2
inductive TV(i:Nat)(σ:St)(H:Hp)(Q:VK):Prop
 |mk:∀v,σ[i]?=some (some v)->Q v H->TV i σ H Q
def tC(v:V):TE:=λ_ H Q=>Q v H
theorem acW{x:Str}(hN:X.N[i]?=some x)(hv:Vis X.env.scope x)(hd:autoParam ((x == ("__debug__":Str))=false) zau1)(hcd:autoParam ((x == ("__classdict__":Str))=false) zau1):PE X (.Name x pos) (TV i):=by
 intro pins s σ H Q I h;obtain⟨v,e,h⟩:=h;obtain⟨m,hn,hl⟩:=I.loc;obtain⟨u,r,l⟩:=hl i x v hN e hv;have fin:EP X pins σ Q u s:=⟨v,H,I,r,h⟩;rcases l with ⟨hk,hm⟩|⟨hk,c,hc,hcell⟩
 ·exact wpAny_Name (wpAny_loadName_local I.ok.kind hk hn hm fin) hd
 ·rcases hk with hk|hk
  ·exact wpAny_Name (wpAny_loadName_cell I.ok.kind hk hc hcell fin) hd
  ·exact wpAny_Name (wpAny_loadName_free I.ok.kind hk hc hcell fin hcd) hd
theorem aP :PE X (.Constant (.int i) j pos) (tC (.int i)):=λ_ _ _ H _ I h=>wpAny_Constant_int ⟨.int i,H,I.tok _,⟨_,rfl⟩,h⟩
theorem jW :PE X (.Constant (.bool b) j pos) (tC (.bl b)):=λ_ _ _ H _ I h=>Constant_bool ⟨.bl b,H,I,rfl,h⟩
theorem jR :PE X (.Constant .none j pos) (tC .non):=λ_ _ _ H _ I h=>Constant_none ⟨.non,H,I,rfl,h⟩
theorem eY{x j pos}:PE X (.Constant (.str x) j pos) (tC (.str x)):=λ_ _ _ H _ I h=>Calls.Constant_str ⟨.str x,H,I.tok _,⟨_,rfl⟩,h⟩
def Gl(X:Cx)(x:Str):Prop:=X.env.kindOf x=some .globalImplicit
theorem lK{E:aC->aW->Prop}{σ:St}{x:Str}{Q:aC->aW->Prop}(I:Inv X pins σ H s)(hg:Gl X x)(hm:X.mg x=some u)(h:Q u s)(hd:autoParam ((x == ("__debug__":Str))=false) zau1):wpAny (model X.prog X.w) X.A (eval (.Name x pos) X.env) Q E s := Calls.Name_function_global I.ok.kind hg (Calls.loadGlobal_global (by rw[I.ok.glob];exact I.mod.glob.keeps I.bk) hm h) hd
theorem kE{E:aC->aW->Prop}{σ:St}{x:Str}{u:aC}{Q:aC->aW->Prop}(I:Inv X pins σ H s)(hg:Gl X x)(hm:X.mg x=none)(hv:bootBuiltins x=some u)(h:Q u s)(hn:autoParam (x≠"__name__") zau1)(hd:autoParam ((x == ("__debug__":Str))=false) zau1):wpAny (model X.prog X.w) X.A (eval (.Name x pos) X.env) Q E s:=by
 obtain⟨mb,h1,h2⟩:=I.mod.blt;exact Calls.Name_function_global I.ok.kind hg (Calls.loadGlobal_builtin (by rw[I.ok.glob];exact I.mod.glob.keeps I.bk) hm (by rw[I.ok.blt];exact h1.keeps I.bk) ((h2 x hn).trans hv) h) hd
theorem Mf{x:Str}(hg:Gl X x)(hm:X.mg x=some u)(r:RelV v u)(hd:autoParam ((x == ("__debug__":Str))=false) zau1):PE X (.Name x pos) (tC v) := λ_ _ _ H _ I h=>lK I hg hm ⟨v,H,I,r,h⟩ hd
theorem Za{x:Str}{u:aC}(hg:Gl X x)(hm:X.mg x=none)(hv:bootBuiltins x=some u)(r:RelV v u)(hn:autoParam (x≠"__name__") zau1)(hd:autoParam ((x == ("__debug__":Str))=false) zau1):PE X (.Name x pos) (tC v) := λ_ _ _ H _ I h=>kE I hg hm hv ⟨v,H,I,r,h⟩ hn hd
variable{a b:Expr}{ta tb:TE}{pos:Pos}
noncomputable def PC(X:Cx)(op:CmpOp)(a b:Expr)(t:TE):Prop := ∀(pins:List (aB×Obj))(s:aW)(σ:St)(H:Hp)(Q:VK),Inv X pins σ H s->t σ H Q -> wpAny (model X.prog X.w) X.A (eval a X.env) (λv s₁=>wpAny (model X.prog X.w) X.A (eval b X.env) (λu s₂=>wpAny (model X.prog X.w) X.A (compareOp op v u) (EP X pins σ Q) X.xe s₂) X.xe s₁) X.xe s
def tB(t:TE):TT:=λσ H Q=>t σ H λx H1=>∃c,x=.bl c/\Q c H1
theorem akg(h:PC X op a b t)(h1:behindInMarks op b=false:=by first|exact afY _ (by decide) (by decide)|rfl):PT X (.Compare a [op] [b] pos) (tB t):=by
 intro pins s σ H Q I hw;refine wpAny_isTrue_Compare1 (f9 (h pins s σ H _ I hw) λv s1 h1=>f9 h1 λu s2 h2=>f9 h2 λc s3 ⟨x,H1,I1,r1,q1⟩=>?_) h1;obtain⟨d,rfl,q⟩:=q1;cases r1;exact wpAny_truthy_bool ⟨H1,I1,q⟩
theorem eX{e:Expr}(h:PE X e t)(he:autoParam (∀whole,isTrue e X.env whole=(do let v <- whole;standAt e.pos;holding [v] (truthy v))) zau3):PT X e (tB t):=by
 intro pins s σ H Q I hw;refine isTrue_plain (f9 (h pins s σ H _ I hw) λv s1 ⟨x,H1,I1,r1,q1⟩=>?_) (he _);obtain⟨d,rfl,q⟩:=q1;cases r1;exact wpAny_truthy_bool ⟨H1,I1,q⟩
variable{tA tB':TT}{rest:List Expr}
def akh(t u:TT):TT:=λσ H Q=>t σ H λc H1=>if c=true then u σ H1 Q else Q false H1
def tOr(t u:TT):TT:=λσ H Q=>t σ H λc H1=>if c=true then Q true H1 else u σ H1 Q
def aki(t:TT):TT:=λσ H Q=>t σ H λc H1=>Q (!c) H1
theorem pw_and1(ha:PT X a tA):PW X (.BoolOp .And [a] pos) tA:=by
 intro wh pins s σ H Q I h;refine isTrue_and (f9 (ha pins s σ H Q I h) λc s1 e=>?_);cases c with
 |true=>exact isTrue_and_nil e
 |false=>exact e
theorem pw_or1(ha:PT X a tA):PW X (.BoolOp .Or [a] pos) tA:=by
 intro wh pins s σ H Q I h;refine isTrue_or (f9 (ha pins s σ H Q I h) λc s1 e=>?_);cases c with
 |false=>exact isTrue_or_nil e
 |true=>exact e
theorem pw_and(ha:PT X a tA)(hb:PW X (.BoolOp .And (b::rest) pos) tB'):PW X (.BoolOp .And (a::b::rest) pos) (akh tA tB'):=by
 intro wh pins s σ H Q I h;refine isTrue_and (f9 (ha pins s σ H _ I h) λc s1 ⟨H1,I1,q1⟩=>?_);cases c with
 |true=>exact hb wh pins s1 σ H1 Q I1 q1
 |false=>exact⟨H1,I1,q1⟩
theorem pw_or(ha:PT X a tA)(hb:PW X (.BoolOp .Or (b::rest) pos) tB'):PW X (.BoolOp .Or (a::b::rest) pos) (tOr tA tB'):=by
 intro wh pins s σ H Q I h;refine isTrue_or (f9 (ha pins s σ H _ I h) λc s1 ⟨H1,I1,q1⟩=>?_);cases c with
 |true=>exact⟨H1,I1,q1⟩
 |false=>exact hb wh pins s1 σ H1 Q I1 q1
theorem gh(ha:PT X a tA):PT X (.UnaryOp .Not a pos) (aki tA):=by
 intro pins s σ H Q I h;exact isTrue_not (ha pins s σ H (λc H1=>Q (!c) H1) I h)
def afZ(ta tb:TE):TE:=λσ H Q=>ta σ H λx H1=>∃c,x=.bl c/\if c=true then tb σ H1 Q else Q (.bl false) H1
theorem TX(h:PE X a t):PE X (.BoolOp op [a] pos) t:=λpins s σ H Q I hw=>BoolOp_one (h pins s σ H Q I hw)
theorem Jk(ha:PE X a ta)(hb:PE X (.BoolOp .And (b::rest) pos) tb):PE X (.BoolOp .And (a::b::rest) pos) (afZ ta tb):=by
 intro pins s σ H Q I h;refine BoolOp_and (f9 (ha pins s σ H _ I h) λv s1 ⟨x,H1,I1,r1,q1⟩=>?_);obtain⟨c,rfl,q1⟩:=q1;cases r1;refine wpAny_truthy_bool ?_;cases c with
 |true=>exact hb pins s1 σ H1 Q I1 q1
 |false=>exact⟨.bl false,H1,I1,rfl,q1⟩
def tIf(t:TT)(ta tb:TE):TE:=λσ H Q=>t σ H λc H1=>if c=true then ta σ H1 Q else tb σ H1 Q
theorem nH(hc:PT X c tA)(ha:PE X a ta)(hb:PE X b tb):PE X (.IfExp c a b pos) (tIf tA ta tb):=by
 intro pins s σ H Q I h;refine wpAny_IfExp (f9 (hc pins s σ H _ I h) λd s1 ⟨H1,I1,q1⟩=>?_);cases d with
 |true=>exact ha pins s1 σ H1 Q I1 q1
 |false=>exact hb pins s1 σ H1 Q I1 q1
end
noncomputable def cD(K:Fg)(H:Hp)(a:aB)(xs:List V):Prop := Rd H a (.lst xs) \/ ∃(o:Obj)(its:Array aC)(n:Nat),K.lookup a=some o/\o.cls=.type "list"/\o.dict=none/\o.data=.seq its n/\its.size<=sizeLine/\Vals xs its.toList
def dY(K:Fg)(H:Hp)(a:aB)(xs:List V):Prop := Rd H a (.tup xs) \/ ∃(o:Obj)(its:Array aC)(n:Nat),K.lookup a=some o/\o.cls=.type "tuple"/\o.data=.seq its n/\its.size<=sizeLine/\Vals xs its.toList
noncomputable def akj:aC->Option V
 | .none=>some .non
 | .bool b=>some (.bl b)
 | .int i _=>some (.int i)
 | .str x _=>some (.str x)
 | .bytes b _=>some (.Ma b)
 | .float b _=>some (.flt b)
 | .ref a=>some (.ref a)
 | .type n=>some (.ty n)
 |_=>none
theorem RelV.abs{x:V}(r:RelV x u):akj u=some x:=by
 cases x with
 |non=>cases r;rfl
 |bl _=>cases r;rfl
 |int _=>obtain⟨t,rfl⟩:=r;rfl
 |str _=>obtain⟨t,rfl⟩:=r;rfl
 |Ma _=>obtain⟨t,rfl⟩:=r;rfl
 |flt _=>obtain⟨t,rfl⟩:=r;rfl
 |ref _=>cases r;rfl
 |ty _=>cases r;rfl
theorem RelV.inj{x y:V}(r:RelV x u)(q:RelV y u):x=y:=bO (r.abs.symm.trans q.abs)
theorem Vals.inj:∀{xs ys:List V}{us:List aC},Vals xs us->Vals ys us->xs=ys
 |_,_,_,.nil,.nil=>rfl
 |_,_,_,.cons r t,.cons r' t'=>by rw[r.inj r',Vals.inj t t']
variable{σ:St}
section
variable{xs ys:List V}
theorem cD.of{K:Fg}(h:H a=some (.lst xs)):cD K H a xs:=.inl (.inl h)
theorem dY.of{K:Fg}(h:H a=some (.tup xs)):dY K H a xs:=.inl (.inl h)
theorem Inv.list(I:Inv X pins σ H s)(h:cD X.K H a xs):∃its:List aC,Vals xs its/\PlainL s.heap a its.toArray/\xs.length<=sizeLine:=by
 rcases h with h|⟨o,its,n,hk,hc,hd,hs,hz,r⟩
 ·obtain⟨z,its,n,r,e⟩:=h.ok I.hok;exact⟨its,r,⟨_,n,e,rfl,rfl,rfl⟩,z⟩
 ·refine⟨its.toList,r,⟨o,n,I.oR a o hk,hc,hd,by simpa using hs⟩,?_⟩;have e:=r.length;simp only[Array.length_toList]at e;omega
theorem Inv.tuple(I:Inv X pins σ H s)(h:dY X.K H a xs):∃its:List aC,Vals xs its/\IsTup s.heap a its.toArray/\xs.length<=sizeLine:=by
 rcases h with h|⟨o,its,n,hk,hc,hs,hz,r⟩
 ·obtain⟨z,its,r,p⟩:=h.ok I.hok;exact⟨its,r,p,z⟩
 ·refine⟨its.toList,r,⟨o,I.oR a o hk,hc,n,by simpa using hs⟩,?_⟩;have e:=r.length;simp only[Array.length_toList]at e;omega
theorem Inv.oU(I:Inv X pins σ H s)(h:cD X.K H a xs)(h':cD X.K H a ys):xs=ys:=by
 obtain⟨its,r,⟨o,n,e,_,_,d⟩,_⟩:=I.list h;obtain⟨its',r',⟨o',n',e',_,_,d'⟩,_⟩:=I.list h';rw[e]at e';cases e';rw[d]at d';injection d' with d1 _;have:its=its':=by simpa using congrArg Array.toList d1
 subst this;exact r.inj r'
theorem Inv.vM(I:Inv X pins σ H s)(h:dY X.K H a xs)(h':dY X.K H a ys):xs=ys:=by
 obtain⟨its,r,⟨o,e,_,n,d⟩,_⟩:=I.tuple h;obtain⟨its',r',⟨o',e',_,n',d'⟩,_⟩:=I.tuple h';rw[e]at e';cases e';rw[d]at d';injection d' with d1 _;have:its=its':=by simpa using congrArg Array.toList d1
 subst this;exact r.inj r'
end
variable{e:Expr}{te:TE}{pos:Pos}
section
variable{st:dI}{rest:List dI}{t u:TS}
def af0:TS:=λD σ H=>D.nx σ H
def akk(t u:TS):TS:=λD σ H=>t {D with nx:=u D} σ H
theorem bZ:Ac X [] af0:=λ_ _ σ H _ I h=>wpAny_execs_nil ⟨σ,H,I,h⟩
theorem aL(h1:PS X st t)(h2:Ac X rest u):Ac X (st::rest) (akk t u):=by
 intro pins s σ H D I h;refine wpAny_execs_cons (f9 (h1 pins s σ H {D with nx:=u D} I h) λf s1 q=>?_);cases f with
 |next =>
  obtain⟨σ',H',I',q⟩:=q;exact h2 pins s1 σ' H' D I' q
 |ret v=>exact q
 |brk=>exact q
 |cont=>exact q
theorem aU(h1:PS X st t):Ac X [st] t:=by
 intro pins s σ H D I h;refine wpAny_execs_cons (f9 (h1 pins s σ H D I h) λf s1 q=>?_);cases f with
 |next=>exact wpAny_execs_nil q
 |ret v=>exact q
 |brk=>exact q
 |cont=>exact q
theorem Inv.quiet(I:Inv X pins σ H s):interactive X.env=false:=by simp[interactive,I.ok.kind]
def af2(te:TE):TS:=λD σ H=>te σ H λ_ H1=>D.nx σ H1
theorem gJ(he:PE X e te)(hs:autoParam (swapsWith e none pos.line X.env=pure false) zau0):PS X (.Expr e pos) (af2 te):=by
 intro pins s σ H D I h;exact wpAny_Expr_any (f9 (he pins s σ H _ I h) λv s1 ⟨x,H1,I1,r1,q1⟩=>⟨σ,H1,I1,q1⟩) I.quiet hs
def akl(te:TE):TS:=λD σ H=>te σ H D.rt
theorem bU(he:PE X e te):PS X (.Return (some e) pos) (akl te):=by
 intro pins s σ H D I h;exact wpAny_Return_some (f9 (he pins s σ H _ I h) λv s1 ⟨x,H1,I1,r1,q1⟩=>⟨x,σ,H1,I1,r1,q1⟩)
def akm(c:TT)(t u:TS):TS:=λD σ H=>c σ H λb H1=>if b=true then t D σ H1 else u D σ H1
theorem dZ{a b:List dI}(hc:PT X c tc)(ha:Ac X a t)(hb:Ac X b u):PS X (.If c a b pos) (akm tc t u):=by
 intro pins s σ H D I h;refine wpAny_If (f9 (hc pins s σ H _ I h) λd s1 ⟨H1,I1,q1⟩=>?_);cases d with
 |true=>exact ha pins s1 σ H1 D I1 q1
 |false=>exact hb pins s1 σ H1 D I1 q1
end
abbrev TG:=V->St->Hp->(St->Hp->Prop)->Prop
abbrev TGs:=List V->St->Hp->(St->Hp->Prop)->Prop
noncomputable def PG(X:Cx)(target:Expr)(t:TG):Prop := ∀(pins:List (aB×Obj))(s:aW)(σ:St)(H:Hp)(v:V)(u:aC)(Q:St->Hp->Prop),Inv X pins σ H s->RelV v u->t v σ H Q -> wpAny (model X.prog X.w) X.A (assign target X.env u) (λ_ s'=>∃σ' H',Inv X pins σ' H' s'/\Q σ' H') X.xe s
noncomputable def PGs(X:Cx)(ts:List Expr)(t:TGs):Prop := ∀(pins:List (aB×Obj))(s:aW)(σ:St)(H:Hp)(vs:List V)(us:List aC)(Q:St->Hp->Prop),Inv X pins σ H s->Vals vs us->t vs σ H Q -> wpAny (model X.prog X.w) X.A (assignInOrder ((assignEach ts X.env).map (·.2)) us) (λ_ s'=>∃σ' H',Inv X pins σ' H' s'/\Q σ' H') X.xe s
abbrev Px:=V->V->V->Hp->(Hp->Prop)->Prop
noncomputable def Zb(X:Cx)(t:Px):Prop := ∀(pins:List (aB×Obj))(s:aW)(σ:St)(H:Hp)(o i v:V)(ov iv u:aC)(Q:Hp->Prop),Inv X pins σ H s->RelV o ov->RelV i iv->RelV v u->t o i v H Q -> wpAny (model X.prog X.w) X.A (setItem ov iv u) (λ_ s'=>∃H',Inv X pins σ H' s'/\Q H') X.xe s
abbrev TIp:=V->V->Hp->VK->Prop
noncomputable def PIp(X:Cx)(op:Operator)(t:TIp):Prop := ∀(pins:List (aB×Obj))(s:aW)(σ:St)(H:Hp)(x y:V)(v u:aC)(Q:VK),Inv X pins σ H s->RelV x v->RelV y u->t x y H Q -> wpAny (model X.prog X.w) X.A (inplaceOp op v u) (EP X pins σ Q) X.xe s
def yw(i:Nat):TG:=λv σ H Q=>Q (σ.set i (some v)) H
theorem Zc{x:Str}(hN:X.N.Nodup)(hi:X.N[i]?=some x)(hx:Loc X.env.scope x)(hf:autoParam (X.fn x=true\/X.env.scope.names.lookup x=some .local) zau2):PG X (.Name x pos) (yw i):=by
 intro pins s σ H v u Q I r h;exact wpAny_assign_Name (pW I hN hi hx r (λs' I'=>⟨_,H,I',h⟩) hf)
def akn:TGs:=λvs σ H Q=>vs=[]/\Q σ H
def af4(t:TG)(u:TGs):TGs:=λvs σ H Q=>∃v r,vs=v::r/\t v σ H λσ' H'=>u r σ' H' Q
theorem gK:PGs X [] akn:=by
 intro pins s σ H vs us Q I r h;obtain⟨e,h⟩:=h;subst e;cases r;exact assignInOrder_nil ⟨σ,H,I,h⟩
theorem cj(h1:PG X e t)(h2:PGs X es u)(hs:autoParam ((assignEach (e::es) X.env).map (·.2)=assign e X.env::(assignEach es X.env).map (·.2)) zau0):PGs X (e::es) (af4 t u):=by
 intro pins s σ H vs us Q I r h;obtain⟨v,vr,e1,h⟩:=h;subst e1;cases r with
 |cons r rr =>
  rw[hs];refine assignInOrder_cons (f9 (h1 pins s σ H _ _ _ I r h) λ_ s1 ⟨σ1,H1,I1,q1⟩=>?_);exact h2 pins s1 σ1 H1 _ _ Q I1 rr q1
def af5(K:Fg)(n:Nat)(t:TGs):TG:=λv σ H Q=>∃a xs,v=.ref a/\dY K H a xs/\xs.length=n/\t xs σ H Q
theorem nJ(hc:X.calm=true)(h:PGs X es t)(hn:autoParam ((assignEach es X.env).length=n) zau0)(hst:autoParam ((assignEach es X.env).findIdx? (·.1)=none) zau0):PG X (.Tuple es k pos) (af5 X.K n t):=by
 intro pins s σ H v u Q I r hw;obtain⟨a,xs,e1,hq,hl,hw⟩:=hw;subst e1;cases r;obtain⟨its,rv,ht,hz⟩:=I.tuple hq;refine assign_Tuple_tuple (I.ok.hd hc) ht (by simp[hn,<- hl,rv.length]) hst λh' hx=>?_
 have I1:Inv X pins σ H {s with heap:=h'}:=I.kept (t':=s.toks) λb o e=>hx b o (Nat.ne_of_lt (Heap.lt_size e)) e
 exact h pins _ σ H xs _ Q I1 (by simpa using rv) hw
def ako(to ti:TE)(t:Px):TG:=λv σ H Q=>to σ H λo H1=>ti σ H1 λi H2=>t o i v H2 λH3=>Q σ H3
theorem Jl{o i:Expr}(ho:PE X o to)(hi:PE X i ti)(hs:Zb X t)(ha:autoParam (∀v,assign (.Subscript o i pos) X.env v=(do
  let ov <- holding [v] (eval o X.env)
  let iv <- holding [v,ov] (eval i X.env)
  standAt pos
  holding [v,ov,iv] (setItem ov iv v)
  release [v,ov,iv] [])) zau3):PG X (.Subscript o i pos) (ako to ti t):=by
 intro pins s σ H v u Q I r h;rw[ha];refine aj (wpAny_holding (f9 (ho pins s σ H _ I h) λov s1 ⟨x,H1,I1,r1,q1⟩=>?_));refine aj (wpAny_holding (f9 (hi pins s1 σ H1 _ I1 q1) λiv s2 ⟨y,H2,I2,r2,q2⟩=>?_));refine aj (wpAny_standAt (aj (wpAny_holding (f9 (hs pins s2 σ H2 x y v ov iv u _ I2 r1 r2 r q2) λ_ s3 ⟨H3,I3,q3⟩=>?_))));exact wpAny_release ⟨σ,H3,I3,q3⟩
def Zd(te:TE)(g:TG):TS:=λD σ H=>te σ H λx H1=>g x σ H1 D.nx
theorem rT(he:PE X e te)(hg:PG X tg g)(hs:autoParam (swapsWithSole [tg] e pos.line X.env=pure false) zau0)(hw:autoParam (swappedStores [tg] e X.env=pure none) zau0)(h1:autoParam ((assignEach [tg] X.env).map (·.2)=[assign tg X.env]) zau0):PS X (.Assign [tg] e pos) (Zd te g):=by
 intro pins s σ H D I h;refine wpAny_Assign_stores (f9 (he pins s σ H _ I h) λv s1 ⟨x,H1,I1,r1,q1⟩=>?_) hs hw;rw[h1];exact f9 (hg pins s1 σ H1 x v _ I1 r1 q1) λ_ s2 q=>q
theorem bL{x:Str}(hN:X.N.Nodup)(hi:X.N[i]?=some x)(hx:Loc X.env.scope x)(he:PE X e te)(hs:autoParam (swapsWith e (some (.Name x pos')) pos.line X.env=pure false) zau0)(hf:autoParam (X.fn x=true\/X.env.scope.names.lookup x=some .local) zau2) : PS X (.Assign [.Name x pos'] e pos) (Zd te (yw i)):=by
 intro pins s σ H D I h;refine wpAny_Assign_Name (f9 (he pins s σ H _ I h) λv s1 ⟨y,H1,I1,r1,q1⟩=>?_) hs;exact pW I1 hN hi hx r1 (λs2 I2=>⟨_,H1,I2,q1⟩) hf
def akp(i:Nat)(te:TE)(ti:TIp):TS:=λD σ H=>∃x,σ[i]?=some (some x)/\te σ H λy H1=>ti x y H1 λz H2=>D.nx (σ.set i (some z)) H2
theorem TY{x:Str}(hN:X.N.Nodup)(hi:X.N[i]?=some x)(hx:Loc X.env.scope x)(he:PE X e te)(ho:PIp X op ti)(hf:autoParam (X.fn x=true\/X.env.scope.names.lookup x=some .local) zau2) : PS X (.AugAssign (.Name x pos') op e pos) (akp i te ti):=by
 intro pins s σ H D I h;obtain⟨v,e1,h⟩:=h;obtain⟨m,hn,hl⟩:=I.loc;have vis:Vis X.env.scope x:=by rcases hx with k|k;exact .inl k;exact .inr (.inl k)
 obtain⟨u,r,l⟩:=hl i x v hi e1 vis;refine wpAny_AugAssign_Name ?_;have go:wpAny (model X.prog X.w) X.A (eval e X.env) (λw s₂=>wpAny (model X.prog X.w) X.A (inplaceOp op u w) (λr s₃=>wpAny (model X.prog X.w) X.A (storeName X.env x r) (λ_=>SP X pins D .next) X.xe s₃) X.xe s₂) X.xe s:=by
  refine f9 (he pins s σ H _ I h) λw s1 ⟨y,H1,I1,r1,q1⟩=>?_
  refine f9 (ho pins s1 σ H1 v y u w _ I1 r r1 q1) λz s2 ⟨zv,H2,I2,r2,q2⟩=>?_
  exact pW I2 hN hi hx r2 (λs3 I3=>⟨_,H2,I3,q2⟩) hf
 rcases l with ⟨hk,hm⟩|⟨hk,c,hc,hcell⟩
 ·exact wpAny_loadName_local I.ok.kind hk hn hm go
 ·rcases hk with hk|hk
  ·exact wpAny_loadName_cell I.ok.kind hk hc hcell go
  ·rcases hx with k|k
   ·have:X.env.scope.names.lookup x=some .free:=hk;rw[k]at this;cases this
   ·have:X.env.scope.names.lookup x=some .free:=hk;rw[k]at this;cases this
noncomputable def af6(to ti te:TE)(Ze:V->V->Hp->VK->Prop)(tip:TIp)(Zf:Px):TS:=λD σ H=>to σ H λo H1=>ti σ H1 λi H2=>Ze o i H2 λx H3=>te σ H3 λy H4=>tip x y H4 λz H5=>Zf o i z H5 λH6=>D.nx σ H6
noncomputable def af7(X:Cx)(t:V->V->Hp->VK->Prop):Prop := ∀(pins:List (aB×Obj))(s:aW)(σ:St)(H:Hp)(o i:V)(ov iv:aC)(Q:VK),Inv X pins σ H s->RelV o ov->RelV i iv->t o i H Q -> wpAny (model X.prog X.w) X.A (getItem ov iv) (EP X pins σ Q) X.xe s
theorem Zg{o i e:Expr}(ho:PE X o to)(hi:PE X i ti)(hg:af7 X Ze)(he:PE X e te)(hp:PIp X op tip)(hs:Zb X Zf)(ha:∀ov iv new,augStore i ov iv new=(do holding [new,ov,iv] (setItem ov iv new);release [new,ov,iv] [];pure .next):=by intros;rfl):PS X (.AugAssign (.Subscript o i tpos) op e pos) (af6 to ti te Ze tip Zf):=by
 intro pins s σ H D I h;refine wpAny_AugAssign_SubscriptAny (f9 (ho pins s σ H _ I h) λov s1 ⟨x1,H1,I1,r1,q1⟩=>?_) ha;refine f9 (hi pins s1 σ H1 _ I1 q1) λiv s2 ⟨x2,H2,I2,r2,q2⟩=>?_
 refine f9 (hg pins s2 σ H2 x1 x2 ov iv _ I2 r1 r2 q2) λold s3 ⟨x3,H3,I3,r3,q3⟩=>?_
 refine f9 (he pins s3 σ H3 _ I3 q3) λv s4 ⟨x4,H4,I4,r4,q4⟩=>?_
 refine f9 (hp pins s4 σ H4 x3 x4 old v _ I4 r3 r4 q4) λnew s5 ⟨x5,H5,I5,r5,q5⟩=>?_
 exact f9 (hs pins s5 σ H5 x1 x2 x5 ov iv new _ I5 r1 r2 r5 q5) λ_ s6 ⟨H6,I6,q6⟩=>⟨σ,H6,I6,q6⟩
def ipI(f:Int->Int->Int):TIp:=λx y H Q=>∃i j,x=.int i/\y=.int j/\Q (.int (f i j)) H
theorem T3:PIp X .Add (ipI λi j=>i+j):=by
 intro pins s σ H x y v u Q I r1 r2 h;obtain⟨i,j,e1,e2,q⟩:=h;subst e1;subst e2;obtain⟨t,rfl⟩:=r1;obtain⟨t',rfl⟩:=r2;exact iadd_int ⟨.int _,H,I.tok _,⟨_,rfl⟩,q⟩
theorem acX:PIp X .Sub (ipI λi j=>i-j):=by
 intro pins s σ H x y v u Q I r1 r2 h;obtain⟨i,j,e1,e2,q⟩:=h;subst e1;subst e2;obtain⟨t,rfl⟩:=r1;obtain⟨t',rfl⟩:=r2;exact isub_int ⟨.int _,H,I.tok _,⟨_,rfl⟩,q⟩
noncomputable def acY(c:TT)(tb:TS):TS:=λD σ H=>∃W:Nat->St->Hp->Prop,(∃m,W m σ H)/\∀m σ H,W m σ H -> c σ H λb H1=>if b=true then ∃N:St->Hp->Prop,(∀σ' H',N σ' H'->∃m',m'<m/\W m' σ' H')/\tb {D with nx:=N,ct:=N,bk:=D.nx} σ H1 else D.nx σ H1
theorem tX(hp:PassesOwn (model X.prog X.w) X.A X.env X.xe)(hc:PT X c tc)(hb:Ac X body tb):PS X (.While c body [] pos) (acY tc tb):=by
 intro pins s σ H D I h;obtain⟨W,⟨m0,w0⟩,turn⟩:=h;refine wpAny_While (codeAny_whileLoop (λn s'=>∃σ' H',Inv X pins σ' H' s'/\W n σ' H') ?_ m0 ⟨σ,H,I,w0⟩);rintro n s1 ⟨σ1,H1,I1,w1⟩;refine wpAny_passesOwn hp (f9 (hc pins s1 σ1 H1 _ I1 (turn n σ1 H1 w1)) λb s2 ⟨H2,I2,q2⟩=>?_);cases b with
 |true =>
  obtain⟨N,hN,q2⟩:=q2;rw[if_pos rfl];refine wpAny_passesOwn hp (f9 (hb pins s2 σ1 H2 _ I2 q2) λf s3 q3=>?_);cases f with
  |next =>
   obtain⟨σ3,H3,I3,n3⟩:=q3;obtain⟨m',hm,w3⟩:=hN σ3 H3 n3;exact⟨m',hm,σ3,H3,I3,w3⟩
  |cont =>
   obtain⟨σ3,H3,I3,n3⟩:=q3;obtain⟨m',hm,w3⟩:=hN σ3 H3 n3;exact⟨m',hm,σ3,H3,I3,w3⟩
  |brk=>exact q3
  |ret v=>exact q3
 |false =>
  rw[if_neg Bool.false_ne_true];exact wpAny_execs_nil ⟨σ1,H2,I2,q2⟩
structure It where
 go:Nat->Hp->Prop
 Jm:Nat->Hp->V->Hp->Prop
 stop:Nat->Hp->Prop
def nM(X:Cx)(pins:List (aB×Obj))(H:Hp)(b:aB):Prop := H b=none/\b≠X.env.locals/\b∉X.fs/\(b∈X.ex\/X.s₀.heap.objs.size<=b)/\(∀x c,X.env.cells.lookup x=some c->c≠b)/\∀p∈X.pn++pins,p.1≠b
theorem Inv.vO{b:aB}(I:Inv X pins σ H s)(hb:s.heap.objs.size<=b)(hn:H' b=none):nM X pins H' b:=by
 refine⟨hn,Nat.ne_of_gt (bJ I.lt hb),I.ake hb,.inr (bx I.sz hb),λx c e z=>?_,λp hp z=>?_⟩
 ·obtain⟨v,q⟩:=I.cell x c e;exact absurd (bJ q.lt (by rw[z];exact hb)) (dH _)
 ·exact absurd (bJ (Heap.lt_size (I.pin p hp).1) (by rw[z];exact hb)) (dH _)
structure Turn(P:cC)(w:World)(K:Fg)(tg:Expr)(J:It)(fp:List aB)(it:aB)(tn:Nat->Heap->Prop):Prop where
 mem:it∈fp
 obj:∀i h,tn i h->∀b∈fp,∃o,h.get? b=some o/\∀v,o.data≠.cell v
 keep:∀i h h',tn i h->(∀b∈fp,∀o,h.get? b=some o->h'.get? b=some o)->tn i h'
 item:∀(X:Cx),X.prog=P->X.w=w->X.K=K->X.calm=true->∀(i:Nat)(pins:List (aB×Obj))(s:aW)(σ:St)(H:Hp)(E:aC->aW->Prop),Inv X pins σ H s->(∀b∈fp,nM X pins H b)->tn i s.heap->J.go i H -> wpAny (model P w) X.A (pyNext (.ref it)) (λr s1=>∃u,r=some u /\ wpAny (model P w) X.A (letOwnedTupleGo tg (.ref it) u) (λ_ s2=>∃x H',Inv X pins σ H' s2/\RelV x u/\J.Jm i H x H'/\tn (i+1) s2.heap/\∀b∈fp,H' b=none) E s1) E s
 done:∀(X:Cx),X.prog=P->X.w=w->X.K=K->X.calm=true->∀(i:Nat)(pins:List (aB×Obj))(s:aW)(σ:St)(H:Hp)(E:aC->aW->Prop),Inv X pins σ H s->(∀b∈fp,nM X pins H b)->tn i s.heap->J.stop i H -> wpAny (model P w) X.A (pyNext (.ref it)) (λr s1=>r=none/\Inv X pins σ H s1) E s
 self:∀(A:eE)(i:Nat)(s:aW)(Q:aC->aW->Prop)(E:aC->aW->Prop),tn i s.heap->Q (.ref it) s->wpAny (model P w) A (pyIter (.ref it)) Q E s
abbrev TI:=St->Hp->(It->Hp->Prop)->Prop
noncomputable def PIE(X:Cx)(pins:List (aB×Obj))(σ:St)(tg:Expr)(R:It->Hp->Prop)(itv:aC)(s2:aW):Prop := ∃(it:aB)(fp:List aB)(tn:Nat->Heap->Prop)(J:It)(H':Hp),itv=.ref it/\Inv X pins σ H' s2/\Turn X.prog X.w X.K tg J fp it tn/\tn 0 s2.heap/\(∀b∈fp,nM X pins H' b)/\R J H'
noncomputable def PI(X:Cx)(tg iter:Expr)(wi:TI):Prop := ∀(pins:List (aB×Obj))(s:aW)(σ:St)(H:Hp)(R:It->Hp->Prop),Inv X pins σ H s->wi σ H R -> wpAny (model X.prog X.w) X.A (eval iter X.env) (λv s1=>wpAny (model X.prog X.w) X.A (pyIter v) (PIE X pins σ tg R) X.xe s1) X.xe s
theorem T4{A:eE}{E:aC->aW->Prop}{it:aB}{u:aC}{o:Obj}{vs:Array aC}{Q:Unit->aW->Prop}(ho:s.heap.get? it=some o)(hc:o.cls=.type n)(hd:o.data=.fields vs)(hn:["enumerate","zip","dict_itemiterator","dict_reverseitemiterator","odict_iterator","itertools.zip_longest","itertools.pairwise"].contains n=false)(hQ:Q () s):wpAny M A (letOwnedTupleGo tg (.ref it) u) Q E s:=by
 unfold letOwnedTupleGo;cases tg<;>first
  |exact au hQ
  |(cases u<;>first
   |exact au hQ
   |(
    refine aj (wpAny_load ho (?_));rw[hc,hd]
    show wpAny M A (if(["enumerate","zip","dict_itemiterator","dict_reverseitemiterator","odict_iterator","itertools.zip_longest","itertools.pairwise"].contains n&&vs[0]? == some (rawInt _))=true then _ else _) Q E s
    rw[if_neg (by intro h;rw[hn,Bool.false_and]at h;cases h)];exact au hQ))
def Te(K:Fg)(a:aB):It := ⟨λi H=>∃xs x,cD K H a xs/\xs[i]?=some x,λi H x H'=>H'=H/\∀xs,cD K H a xs->xs[i]?=some x,λi H=>∃xs,cD K H a xs/\xs.length<=i⟩
def Itr(lo:Int)(n:Nat):It:=⟨λi _=>i<n,λi H x H'=>H'=H/\x=.int (lo+i),λi _=>n<=i⟩
theorem Py{K:Fg}(a it:aB):Turn P w K tg (Te K a) [it] it (λi h=>h.IsListIter it a i) where
 mem:=by simp
 obj:=λi h st b hb=>by
  have e:b=it:=by simpa using hb
  subst e;obtain⟨o,e,c,d⟩:=st;exact⟨o,e,λv z=>by rw[d]at z;cases z⟩
 keep:=λi h h' st k=>st.at λo e=>k it (by simp) o e
 item:=by
  intro X hP hw hK hc i pins s σ H E I hf st hg;subst hP hw hK;obtain⟨xs,x,hq,hx⟩:=hg;obtain⟨its,rv,p,hz⟩:=I.list hq;obtain⟨u,hu,ru⟩:=rv.get hx;obtain⟨f0,f1,f2,f3,f4,f5⟩:=hf it (by simp);refine wpAny_pyNext_list_item st p.isList (x:=u) (by simpa using hu) λh' st' sb=>?_
  have I1:Inv X pins σ H {s with heap:=h'}:=I.turned (t':=s.toks) (λb o hb e=>(sb.2 b hb).trans e) f0 f1 f3 f4 f5;obtain⟨o,e,c,d⟩:=id st';exact⟨u,rfl,T4 (s:={s with heap:=h'}) e c d (by decide) ⟨x,H,I1,ru,⟨rfl,λys hy=>by rw[I.oU hy hq];exact hx⟩,st',λb hb=>(hf b hb).1⟩⟩
 done:=by
  intro X hP hw hK hc i pins s σ H E I hf st hg;subst hP hw hK;obtain⟨xs,hq,hx⟩:=hg;obtain⟨its,rv,p,hz⟩:=I.list hq;obtain⟨f0,f1,f2,f3,f4,f5⟩:=hf it (by simp);have hl:=rv.length;exact wpAny_pyNext_list_end (I.ok.hd hc) st p.isList (by simp;omega) λh' eb=>⟨rfl,I.turned (t':=s.toks) (λb o hb e=>eb b o hb e) f0 f1 f3 f4 f5⟩
 self:=λ_ _ _ _ _ st h=>wpAny_pyIter_listiter st h
theorem Jo{K:Fg}(it:aB)(lo:Int)(n:Nat):Turn P w K tg (Itr lo n) [it] it (λi h=>IsRangeIter h it (lo+(i:Nat)*1) ((n:Int)-(i:Nat)) 1) where
 mem:=by simp
 obj:=λi h st b hb=>by
  have e:b=it:=by simpa using hb
  subst e;exact⟨_,st,λv z=>by
   have z':Data.fields _=Data.cell v:=z;cases z'⟩
 keep:=λi h h' st k=>k it (by simp) _ st
 item:=by
  intro X hP hw hK hc i pins s σ H E I hf st hg;subst hP hw hK;obtain⟨f0,f1,f2,f3,f4,f5⟩:=hf it (by simp);have W:=Walks.range (prog:=X.prog) (w:=X.w) (I.ok.hd hc) it lo 1 n;refine W.item i s _ _ hg st λv h' tk hv st' kk=>?_
  obtain⟨t,rfl⟩:=hv;have I1:Inv X pins σ H {s with heap:=h',toks:=tk}:=I.turned (λb o hb e=>kk b o (by simpa using hb) e) f0 f1 f3 f4 f5;refine⟨_,rfl,T4 (s:={s with heap:=h',toks:=tk}) (n:="range_iterator") st' rfl rfl (by decide) ⟨.int (lo+i),H,I1,⟨t,?_⟩,⟨rfl,rfl⟩,st',λb hb=>(hf b hb).1⟩⟩;rw[Int.mul_one]
 done:=by
  intro X hP hw hK hc i pins s σ H E I hf st hg;subst hP hw hK;obtain⟨f0,f1,f2,f3,f4,f5⟩:=hf it (by simp);exact wpAny_pyNext_range_end (I.ok.hd hc) st (by have:n<=i:=hg;omega) λh' eb=>⟨rfl,I.turned (t':=s.toks) (λb o hb e=>eb b o hb e) f0 f1 f3 f4 f5⟩
 self:=λ_ _ _ _ _ st h=>wpAny_pyIter_rangeiter st h
section
variable{tg:Expr}
def af8(K:Fg)(tl:TE):TI:=λσ H R=>tl σ H λx H1=>∃a,x=.ref a/\(∃xs,cD K H1 a xs)/\R (Te K a) H1
theorem fK(hl:PE X l tl):PI X tg l (af8 X.K tl):=by
 intro pins s σ H R I h;refine f9 (hl pins s σ H _ I h) λv s1 ⟨x,H1,I1,r1,q1⟩=>?_
 obtain⟨a,e,⟨xs,hq⟩,q⟩:=q1;subst e;cases r1;obtain⟨its,rv,p,hz⟩:=I1.list hq;refine wpAny_pyIter_list p.isList ?_;refine⟨s1.heap.objs.size,[s1.heap.objs.size],_,_,H1,rfl,I1.kept (t':=s1.toks) λb o e=>aq _ e,Py a _,⟨_,aN _ rfl,rfl,rfl⟩,λb hb=>?_,q⟩;have e:b=s1.heap.objs.size:=by simpa using hb
 subst e;exact I1.vO (aO _) (I1.hok.fresh (aO _))
theorem T5{E:aC->aW->Prop}{lo hi:Int}(I:Inv X pins σ H s)(h1:-(2^62)<=lo)(h2:lo<2^62)(h3:-(2^62)<=hi)(h4:hi<2^62)(q:R (Itr lo (hi-lo).toNat) H):wpAny (model X.prog X.w) X.A (pyIter (.ref s.heap.objs.size)) (PIE X pins σ tg R) E {s with heap:=s.heap.push {cls:=.type "range",data:=.fields #[.int lo t,.int hi u,.int 1 v]},toks:=tk}:=by
 refine wpAny_pyIter_range (IsRange.new ..) (small_one h1 h2 h3 h4) ?_;have I1:Inv X pins σ H {s with heap:=s.heap.push {cls:=.type "range",data:=.fields #[.int lo t,.int hi u,.int 1 v]},toks:=tk}:=I.kept λb o e=>aq _ e
 refine⟨(s.heap.push {cls:=.type "range",data:=.fields #[.int lo t,.int hi u,.int 1 v]}).objs.size,[(s.heap.push {cls:=.type "range",data:=.fields #[.int lo t,.int hi u,.int 1 v]}).objs.size],_,_,H,rfl,I1.kept (t':=tk) λb o e=>aq _ e,Jo _ lo (hi-lo).toNat,?_,λb hb=>?_,q⟩
 ·have e1:lo+((0:Nat):Int)*1=lo:=by simp
  have e2:(((hi-lo).toNat:Nat):Int)-((0:Nat):Int)=Builtin.Range.rangeSize lo hi 1:=by rw[rangeSize_one];split<;>omega
  show IsRangeIter _ _ (lo+((0:Nat):Int)*1) ((((hi-lo).toNat:Nat):Int)-((0:Nat):Int)) 1
  rw[e1,e2];exact aN _ rfl
 ·have e:b=(s.heap.push {cls:=.type "range",data:=.fields #[.int lo t,.int hi u,.int 1 v]}).objs.size:=by simpa using hb
  subst e;exact I1.vO (aO _) (I1.hok.fresh (aO _))
def af9(ta:TA):TI:=λσ H R=>ta σ H λvs H1=>∃j:Int,vs=[.int j]/\-(2^62)<=j/\j<2^62/\R (Itr 0 j.toNat) H1
theorem jz{a:Expr}(hg:Gl X "range")(hm:X.mg "range"=none)(ha:PA X [a] ta)(hs:autoParam (starEach [a] X.env=[(false,eval a X.env)]) zau0):PI X tg (.Call (.Name "range" p) [a] [] pos) (af9 ta):=by
 intro pins s σ H R I h;refine Call_ (kE I hg hm boot_range (callWith_type1 (f9 (ha pos pins s σ H _ I h) λus s1 ⟨vs,H1,I1,r1,q1⟩=>?_) hs rfl));obtain⟨j,e,q1,q2,q⟩:=q1;subst e;cases r1 with
 |cons r rr =>
  cases rr;obtain⟨t,rfl⟩:=r;exact call_range_1 (T5 I1 (by omega) (by omega) q1 q2 (by simpa using q))
noncomputable def akq(wi:TI)(g:TG)(tb:TS):TS:=λD σ H=>wi σ H λJ H1=>∃W:Nat->Nat->St->Hp->Prop,(∃m,W 0 m σ H1)/\∀i m σ H,W i m σ H -> (J.stop i H/\D.nx σ H)\/(J.go i H/\∃N:St->Hp->Prop,(∀σ' H',N σ' H'->∃m',m'<m/\W (i+1) m' σ' H')/\∀x H',J.Jm i H x H'->g x σ H' λσ2 H2=>tb {D with nx:=N,ct:=N,bk:=D.nx} σ2 H2)
def pX(fp:List aB)(h:Heap):List (aB×Obj):=fp.filterMap λb=>(h.get? b).map λo=>(b,o)
theorem kJ{b:aB}{o:Obj}(hb:b∈fp)(e:h.get? b=some o):(b,o)∈pX fp h:=mem_filterMap.mpr ⟨b,hb,by rw[e];rfl⟩
theorem Pz(hp:p∈pX fp h):p.1∈fp/\h.get? p.1=some p.2:=by
 obtain⟨b,hb,e⟩:=mem_filterMap.mp hp;cases q:h.get? b with
 |none=>rw[q]at e;cases e
 |some o =>
  rw[q]at e;have e':(b,o)=p:=bO e;subst e';exact⟨hb,q⟩
theorem Inv.pinned{fp:List aB}(I:Inv X pins σ H s)(hf:∀b∈fp,nM X pins H b)(ho:∀b∈fp,∃o,s.heap.get? b=some o/\∀v,o.data≠.cell v):Inv X (pins++pX fp s.heap) σ H s := I.CK λp hp=>(bQ.mp hp).elim (λz=>I.pin p (mem_append_right _ z)) λz=>by
 obtain⟨hb,e⟩:=Pz z;obtain⟨f0,f1,f2,_⟩:=hf p.1 hb;obtain⟨o,e',d⟩:=ho p.1 hb;rw[e]at e';cases e';exact⟨e,f0,f1,f2,d⟩
theorem Inv.nO(I:Inv X (pins++pl) σ H s):Inv X pins σ H s:=I.CK λp hp=>I.pin p (mem_append_right _ (mem_append_left _ hp))
theorem ju(hp:PassesOwn (model X.prog X.w) X.A X.env X.xe)(hc:X.calm=true)(hi:PI X tg iter wi)(hg:PG X tg g)(hb:Ac X body tb)(hs:autoParam (∀x,foldedSetIterable iter X.env x=pure x) zau3):PS X (.For tg iter body [] pos) (akq wi g tb):=by
 intro pins s σ H D I h;refine wpAny_For (f9 (hi pins s σ H _ I h) λv s1 h1=>f9 h1 λitv s2 h2=>?_) hs;obtain⟨it,fp,tn,J,H2,e,I2,T,st2,f2,W,⟨m0,w0⟩,turn⟩:=h2;subst e;have stat:∀{H':Hp},(∀b∈fp,H' b=none)->∀b∈fp,nM X pins H' b:=λhn b hb=>⟨hn b hb,(f2 b hb).2⟩
 refine codeAny_forLoop_any (λn s'=>∃i σ' H',Inv X pins σ' H' s'/\tn i s'.heap/\(∀b∈fp,H' b=none)/\W i n σ' H') ?_ m0 ⟨0,σ,H2,I2,st2,λb hb=>(f2 b hb).1,w0⟩;rintro n s3 ⟨i,σ3,H3,I3,st3,fr3,w3⟩;rcases turn i n σ3 H3 w3 with ⟨stop,qn⟩|⟨go,N,hN,step⟩
 ·refine wpAny_passesOwn hp (f9 (T.done X rfl rfl rfl hc i pins s3 σ3 H3 X.xe I3 (stat fr3) st3 stop) λr s4 ⟨hr,I4⟩=>?_);subst hr;exact wpAny_execs_nil ⟨σ3,H3,I4,qn⟩
 ·refine wpAny_passesOwn hp (f9 (T.item X rfl rfl rfl hc i pins s3 σ3 H3 X.xe I3 (stat fr3) st3 go) λr s4 ⟨u,hr,h4⟩=>?_);subst hr;refine wpAny_passesOwn hp (f9 h4 λ_ s5 ⟨x,H5,I5,r5,y5,Tg,fr5⟩=>?_);have I5':=I5.pinned (stat fr5) (T.obj _ _ Tg);refine wpAny_passesOwn hp (f9 (hg _ s5 σ3 H5 x u _ I5' r5 (step x H5 y5)) λ_ s6 ⟨σ6,H6,I6,q6⟩=>?_);refine wpAny_passesOwn hp (f9 (hb _ s6 σ6 H6 _ I6 q6) λf s7 q7=>?_);have again:∀{σ7:St}{H7:Hp},Inv X (pins++pX fp s5.heap) σ7 H7 s7->N σ7 H7->∃m,m<n/\∃i σ' H',Inv X pins σ' H' s7/\tn i s7.heap/\(∀b∈fp,H' b=none)/\W i m σ' H':=fun{σ7 H7} I7 n7=>by
   obtain⟨m',hm,w7⟩:=hN σ7 H7 n7;refine⟨m',hm,i+1,σ7,H7,I7.nO,T.keep _ _ _ Tg λb hb o e=>(I7.pin (b,o) (mem_append_right _ (mem_append_right _ (kJ hb e)))).1,λb hb=>?_,w7⟩;obtain⟨o,e,d⟩:=T.obj _ _ Tg b hb;exact(I7.pin (b,o) (mem_append_right _ (mem_append_right _ (kJ hb e)))).2.1
  cases f with
  |next=>obtain⟨σ7,H7,I7,n7⟩:=q7;exact again I7 n7
  |cont=>obtain⟨σ7,H7,I7,n7⟩:=q7;exact again I7 n7
  |brk=>obtain⟨σ7,H7,I7,q7⟩:=q7;exact⟨σ7,H7,I7.nO,q7⟩
  |ret v=>obtain⟨x7,σ7,H7,I7,r7,q7⟩:=q7;exact⟨x7,σ7,H7,I7.nO,r7,q7⟩
end
theorem nQ{K:Fg}{g:TG}{tb:TS}{D:Ends}(Pv:Nat->St->Hp->Prop)(h0:Pv 0 σ H)(hl:∀i σ H,i<=xs.length->Pv i σ H->cD K H a xs)(hs:∀i x σ H,xs[i]?=some x->Pv i σ H->g x σ H λσ2 H2=>tb {D with nx:=Pv (i+1),ct:=Pv (i+1),bk:=D.nx} σ2 H2)(hd:∀σ H,Pv xs.length σ H->D.nx σ H) : ∃W:Nat->Nat->St->Hp->Prop,(∃m,W 0 m σ H)/\∀i m σ H,W i m σ H -> ((Te K a).stop i H/\D.nx σ H)\/((Te K a).go i H/\∃N:St->Hp->Prop,(∀σ' H',N σ' H'->∃m',m'<m/\W (i+1) m' σ' H')/\∀x H',(Te K a).Jm i H x H'->g x σ H' λσ2 H2=>tb {D with nx:=N,ct:=N,bk:=D.nx} σ2 H2):=by
 refine⟨λi m σ H=>m=xs.length-i/\i<=xs.length/\Pv i σ H,⟨xs.length,by simp,dG _,h0⟩,?_⟩;rintro i m σ H ⟨rfl,hi,p⟩;have q:=hl i σ H hi p
 by_cases hlt:i<xs.length
 ·refine .inr ⟨⟨xs,xs[i],q,by simp[hlt]⟩,Pv (i+1),λσ' H' p'=>⟨xs.length-(i+1),by omega,rfl,hlt,p'⟩,λx H' y=>?_⟩;obtain⟨e,y⟩:=y;subst e;exact hs i x σ _ (y xs q) p
 ·have e:i=xs.length:=by omega
  subst e;exact .inl ⟨⟨xs,q,aO _⟩,hd σ H p⟩
theorem oV{lo:Int}{g:TG}{tb:TS}{D:Ends}(Pv:Nat->St->Hp->Prop)(h0:Pv 0 σ H)(hs:∀i σ H,i<n->Pv i σ H->g (.int (lo+i)) σ H λσ2 H2=>tb {D with nx:=Pv (i+1),ct:=Pv (i+1),bk:=D.nx} σ2 H2)(hd:∀σ H,Pv n σ H->D.nx σ H) : ∃W:Nat->Nat->St->Hp->Prop,(∃m,W 0 m σ H)/\∀i m σ H,W i m σ H -> ((Itr lo n).stop i H/\D.nx σ H)\/((Itr lo n).go i H/\∃N:St->Hp->Prop,(∀σ' H',N σ' H'->∃m',m'<m/\W (i+1) m' σ' H')/\∀x H',(Itr lo n).Jm i H x H'->g x σ H' λσ2 H2=>tb {D with nx:=N,ct:=N,bk:=D.nx} σ2 H2):=by
 refine⟨λi m σ H=>m=n-i/\i<=n/\Pv i σ H,⟨n,by simp,dG _,h0⟩,?_⟩;rintro i m σ H ⟨rfl,hi,p⟩
 by_cases hlt:i<n
 ·refine .inr ⟨hlt,Pv (i+1),λσ' H' p'=>⟨n-(i+1),by omega,rfl,hlt,p'⟩,λx H' y=>?_⟩;obtain⟨e,y⟩:=y;subst e y;exact hs i σ _ hlt p
 ·have e:i=n:=by omega
  subst e;exact .inl ⟨aO _,hd σ H p⟩
abbrev R2:=V->V->Hp->VK->Prop
noncomputable def oW(X:Cx)(f:aC->aC->Sem aC)(r:R2):Prop := ∀(pins:List (aB×Obj))(s:aW)(σ:St)(H:Hp)(x y:V)(v u:aC)(Q:VK),Inv X pins σ H s->RelV x v->RelV y u->r x y H Q -> wpAny (model X.prog X.w) X.A (f v u) (EP X pins σ Q) X.xe s
noncomputable def UnR(X:Cx)(f:aC->Sem aC)(r:V->Hp->VK->Prop):Prop := ∀(pins:List (aB×Obj))(s:aW)(σ:St)(H:Hp)(x:V)(v:aC)(Q:VK),Inv X pins σ H s->RelV x v->r x H Q -> wpAny (model X.prog X.w) X.A (f v) (EP X pins σ Q) X.xe s
noncomputable def jw(X:Cx)(f:aC)(r:List V->Hp->VK->Prop):Prop := ∀(pins:List (aB×Obj))(s:aW)(σ:St)(H:Hp)(xs:List V)(us:List aC)(Q:VK),Inv X pins σ H s->Vals xs us->r xs H Q -> wpAny (model X.prog X.w) X.A (call f us) (EP X pins σ Q) X.xe s
noncomputable def aks(X:Cx)(r:V->Hp->(Bool->Hp->Prop)->Prop):Prop := ∀(pins:List (aB×Obj))(s:aW)(σ:St)(H:Hp)(x:V)(v:aC)(Q:Bool->Hp->Prop),Inv X pins σ H s->RelV x v->r x H Q -> wpAny (model X.prog X.w) X.A (truthy v) (TP X pins σ Q) X.xe s
def tOp(r:R2)(ta tb:TE):TE:=λσ H Q=>ta σ H λx H1=>tb σ H1 λy H2=>r x y H2 Q
def tUn(r:V->Hp->VK->Prop)(ta:TE):TE:=λσ H Q=>ta σ H λx H1=>r x H1 Q
inductive rI(C:Int->Int->Prop)(g:Int->Int->V)(x:V)(y:V)(H:Hp)(Q:VK):Prop
 |mk:∀i j,x=.int i->y=.int j->C i j->Q (g i j) H->rI C g x y H Q
inductive YX(g:Int->Int->V)(x:V)(y:V)(H:Hp)(Q:VK):Prop
 |mk:∀i j,x=.int i->y=.int j->Q (g i j) H->YX g x y H Q
inductive rU(g:Int->V)(x:V)(H:Hp)(Q:VK):Prop
 |mk:∀i,x=.int i->Q (g i) H->rU g x H Q
variable{a b c:Expr}{ta tb tc:TE}
theorem ac0(ha:PE X a ta)(hb:PE X b tb){R:V->V->Hp->Prop}(I:Inv X pins σ H s)(h:ta σ H λx H1=>tb σ H1 λy H2=>R x y H2){Q:aC->aW->Prop}{f:aC->aC->Sem aC}(hf:∀v u s2 x y H2,Inv X pins σ H2 s2->RelV x v->RelV y u->R x y H2->wpAny (model X.prog X.w) X.A (f v u) Q X.xe s2) : wpAny (model X.prog X.w) X.A (eval a X.env) (λv s₁=>wpAny (model X.prog X.w) X.A (eval b X.env) (λu s₂=>wpAny (model X.prog X.w) X.A (f v u) Q X.xe s₂) X.xe s₁) X.xe s:=by
 refine f9 (ha pins s σ H _ I h) λv s1 ⟨x,H1,I1,r1,q1⟩=>?_
 refine f9 (hb pins s1 σ H1 _ I1 q1) λu s2 ⟨y,H2,I2,r2,q2⟩=>?_
 exact hf v u s2 x y H2 I2 r1 r2 q2
theorem cg(ho:oW X (binaryOp op) r)(ha:PE X a ta)(hb:PE X b tb):PE X (.BinOp a op b pos) (tOp r ta tb):=by
 intro pins s σ H Q I h;exact wpAny_BinOp (ac0 ha hb I h λv u s2 x y H2 I2 rx ry q=>ho pins s2 σ H2 x y v u Q I2 rx ry q)
theorem Fv(ho:UnR X (unaryOp op) r)(ha:PE X a ta):PE X (.UnaryOp op a pos) (tUn r ta):=by
 intro pins s σ H Q I h;exact UnaryOp_ (f9 (ha pins s σ H _ I h) λv s1 ⟨x,H1,I1,r1,q1⟩=>ho pins s1 σ H1 x v Q I1 r1 q1)
theorem opI{g:Int->Int->Int}(rule:∀(i j:Int) (t u:Tok) (s:aW) (Q:aC->aW->Prop) (E:aC->aW->Prop),C i j->Q (.int (g i j) s.toks) {s with toks:=s.toks+1}->wpAny (model X.prog X.w) X.A (f (.int i t) (.int j u)) Q E s) : oW X f (rI C λi j=>.int (g i j)):=by
 intro pins s σ H x y v u Q I rx ry h;obtain⟨i,j,rfl,rfl,hc,q⟩:=h;obtain⟨t,rfl⟩:=rx;obtain⟨t',rfl⟩:=ry;exact rule i j t t' s _ _ hc ⟨.int (g i j),H,I.tok _,⟨_,rfl⟩,q⟩
theorem ac2{g:Int->Int->Int}(rule:∀(i j:Int) (t u:Tok) (s:aW) (Q:aC->aW->Prop) (E:aC->aW->Prop),Q (.int (g i j) s.toks) {s with toks:=s.toks+1}->wpAny (model X.prog X.w) X.A (f (.int i t) (.int j u)) Q E s) : oW X f (YX λi j=>.int (g i j)):=by
 intro pins s σ H x y v u Q I rx ry h;obtain⟨i,j,rfl,rfl,q⟩:=h;obtain⟨t,rfl⟩:=rx;obtain⟨t',rfl⟩:=ry;exact rule i j t t' s _ _ ⟨.int (g i j),H,I.tok _,⟨_,rfl⟩,q⟩
theorem Zi{g:Int->Int->Bool}(rule:∀(i j:Int) (t u:Tok) (s:aW) (Q:aC->aW->Prop) (E:aC->aW->Prop),Q (.bool (g i j)) s->wpAny (model X.prog X.w) X.A (f (.int i t) (.int j u)) Q E s) : oW X f (YX λi j=>.bl (g i j)):=by
 intro pins s σ H x y v u Q I rx ry h;obtain⟨i,j,rfl,rfl,q⟩:=h;obtain⟨t,rfl⟩:=rx;obtain⟨t',rfl⟩:=ry;exact rule i j t t' s _ _ ⟨.bl (g i j),H,I,rfl,q⟩
def akt(i j:Int):Prop:=0<j/\j<1073741824
def aku(i j:Int):Prop:=0<=j/\j<=1000000/\i.natAbs<2^64
def ac3(i j:Int):Prop:=(-(2^64)<i/\i<2^64)\/(-(2^64)<j/\j<2^64)
theorem ac3.ok(h:ac3 i j):IntMulOk i j:=by
 rcases h with ⟨h1,h2⟩|⟨h1,h2⟩
 ·exact .of_left (intBits_le_64 h1 h2)
 ·exact .of_right (intBits_le_64 h1 h2)
theorem Jp(k:Nat):(0:Int)<=2^k:=by
 rw[two_pow_cast];exact Int.natCast_nonneg _
theorem gw:oW X (binaryOp .Add) (YX λi j=>.int (i+j)):=ac2 λ_ _ _ _ _ _ _ q=>add_int q
theorem pY:oW X (binaryOp .Sub) (YX λi j=>.int (i-j)):=ac2 λ_ _ _ _ _ _ _ q=>sub_int q
theorem rW:oW X (binaryOp .Mult) (rI ac3 λi j=>.int (i*j)):=opI λ_ _ _ _ _ _ _ hc q=>mul_int q hc.ok
theorem jK:oW X (binaryOp .FloorDiv) (rI akt λi j=>.int (i / j)):=opI λi j _ _ _ _ _ hc q=>by
 have h1:(0:Int)<j:=hc.1;have h2:j<1073741824:=hc.2;exact floordiv_int (by omega) (by rw[Int.fdiv_eq_ediv_of_nonneg i (by omega)];exact q) (.inl (PyProof.noPylong_small (by omega)))
theorem gO:oW X (binaryOp .Mod) (rI (λ_ j=>0<j) λi j=>.int (i % j)):=opI λi j _ _ _ _ _ hc q=>by
 have h1:(0:Int)<j:=hc;exact mod_int' (by omega) (by rw[Int.fmod_eq_emod_of_nonneg i (by omega)];exact q)
theorem Jq:oW X (binaryOp .LShift) (rI aku λi j=>.int (i*2^j.toNat)):=opI λ_ _ _ _ _ _ _ hc q=>lshift_int_small hc.1 hc.2.1 hc.2.2 q
theorem CN:oW X (binaryOp .RShift) (rI (λ_ j=>0<=j) λi j=>.int (i / 2^j.toNat)):=opI λi j _ _ _ _ _ hc q =>
 rshift_int hc (by rw[Int.fdiv_eq_ediv_of_nonneg i (Jp _)];exact q)
theorem CP:oW X (binaryOp .BitAnd) (YX λi j=>.int (Builtin.bitAnd i j)):=ac2 λ_ _ _ _ _ _ _ q=>and_int q
theorem unI{g:Int->Int}(rule:∀(i:Int) (t:Tok) (s:aW) (Q:aC->aW->Prop) (E:aC->aW->Prop),Q (.int (g i) s.toks) {s with toks:=s.toks+1}->wpAny (model X.prog X.w) X.A (f (.int i t)) Q E s) : UnR X f (rU λi=>.int (g i)):=by
 intro pins s σ H x v Q I rx h;obtain⟨i,rfl,q⟩:=h;obtain⟨t,rfl⟩:=rx;exact rule i t s _ _ ⟨.int (g i),H,I.tok _,⟨_,rfl⟩,q⟩
theorem yx:UnR X (unaryOp .USub) (rU λi=>.int (-i)):=unI λ_ _ _ _ _ q=>neg_int q
noncomputable def agb:V->V->Bool
 | .non,.non=>true | .non,.int _=>true | .int _,.non=>true | .non,.bl _=>true | .bl _,.non=>true | .non,.str _=>true | .str _,.non=>true
 | .int _,.int _=>true | .bl _,.bl _=>true | .str _,.str _=>true | .Ma _,.Ma _=>true
 | .int _,.str _=>true | .str _,.int _=>true | .bl _,.str _=>true | .str _,.bl _=>true
 |_,_=>false
inductive rEq(x:V)(y:V)(H:Hp)(Q:VK):Prop
 |mk:agb x y=true->Q (.bl (decide (x=y))) H->rEq x y H Q
inductive rNe(x:V)(y:V)(H:Hp)(Q:VK):Prop
 |mk:agb x y=true->Q (.bl (!decide (x=y))) H->rNe x y H Q
theorem Mg :decide (V.int i=V.int j)=(i == j):=by
 rw[Bool.eq_iff_iff];simp
theorem T6 :decide (V.bl i=V.bl j)=(i == j):=by
 rw[Bool.eq_iff_iff];simp
theorem Mh :decide (V.str i=V.str j)=(i == j):=by
 rw[Bool.eq_iff_iff];simp
theorem Mi :decide (V.Ma i=V.Ma j)=(i.toList == j.toList):=by
 rw[Bool.eq_iff_iff];cases i;cases j;simp
theorem fL(I:Inv X pins σ H s)(q:Q (.bl k) H)(e:k=k'):EP X pins σ Q (.bool k') s:=by
 subst e;exact⟨.bl k,H,I,rfl,q⟩
theorem iQ:oW X (compareOp .Eq) rEq:=by
 intro pins s σ H x y v u Q I rx ry h;obtain⟨hs,q⟩:=h;cases x with
 |non =>
  cases rx;cases y with
  |non=>cases ry;exact PySem.EqNone.eq_none_none (fL I q (by simp))
  |bl j=>cases ry;exact PySem.EqNone.eq_none_bool (fL I q (by simp))
  |int j=>obtain⟨t',rfl⟩:=ry;exact PySem.EqNone.eq_none_int (fL I q (by simp))
  |str j=>obtain⟨t',rfl⟩:=ry;exact PySem.EqNone.eq_none_str (fL I q (by simp))
  |_=>exact absurd (show false=true from hs) Bool.false_ne_true
 |bl i =>
  cases rx;cases y with
  |non=>cases ry;exact PySem.EqNone.eq_bool_none (fL I q (by simp))
  |bl j=>cases ry;exact eq_bool (fL I q T6)
  |str j=>obtain⟨t',rfl⟩:=ry;exact PySem.EqMixed.eq_bool_str (fL I q (by simp))
  |_=>exact absurd (show false=true from hs) Bool.false_ne_true
 |int i =>
  obtain⟨t,rfl⟩:=rx;cases y with
  |non=>cases ry;exact PySem.EqNone.eq_int_none (fL I q (by simp))
  |int j=>obtain⟨t',rfl⟩:=ry;exact eq_int (fL I q Mg)
  |str j=>obtain⟨t',rfl⟩:=ry;exact PySem.EqMixed.eq_int_str (fL I q (by simp))
  |_=>exact absurd (show false=true from hs) Bool.false_ne_true
 |str i =>
  obtain⟨t,rfl⟩:=rx;cases y with
  |non=>cases ry;exact PySem.EqNone.eq_str_none (fL I q (by simp))
  |bl j=>cases ry;exact PySem.EqMixed.eq_str_bool (fL I q (by simp))
  |int j=>obtain⟨t',rfl⟩:=ry;exact PySem.EqMixed.eq_str_int (fL I q (by simp))
  |str j=>obtain⟨t',rfl⟩:=ry;exact eq_str (fL I q Mh)
  |_=>exact absurd (show false=true from hs) Bool.false_ne_true
 |Ma i =>
  obtain⟨t,rfl⟩:=rx;cases y with
  |Ma j=>obtain⟨t',rfl⟩:=ry;exact PySem.W.eq_bytes (fL I q Mi)
  |_=>exact absurd (show false=true from hs) Bool.false_ne_true
 |_=>cases y<;>exact absurd (show false=true from hs) Bool.false_ne_true
theorem Fw:oW X (compareOp .NotEq) rNe:=by
 intro pins s σ H x y v u Q I rx ry h;obtain⟨hs,q⟩:=h;cases x with
 |non =>
  cases rx;cases y with
  |non=>cases ry;exact PySem.EqNone.ne_none_none (fL I q (by simp))
  |bl j=>cases ry;exact PySem.EqNone.ne_none_bool (fL I q (by simp))
  |int j=>obtain⟨t',rfl⟩:=ry;exact PySem.EqNone.ne_none_int (fL I q (by simp))
  |str j=>obtain⟨t',rfl⟩:=ry;exact PySem.EqNone.ne_none_str (fL I q (by simp))
  |_=>exact absurd (show false=true from hs) Bool.false_ne_true
 |bl i =>
  cases rx;cases y with
  |non=>cases ry;exact PySem.EqNone.ne_bool_none (fL I q (by simp))
  |bl j=>cases ry;exact ne_bool (fL I q (congrArg not T6))
  |str j=>obtain⟨t',rfl⟩:=ry;exact PySem.EqMixed.ne_bool_str (fL I q (by simp))
  |_=>exact absurd (show false=true from hs) Bool.false_ne_true
 |int i =>
  obtain⟨t,rfl⟩:=rx;cases y with
  |non=>cases ry;exact PySem.EqNone.ne_int_none (fL I q (by simp))
  |int j=>obtain⟨t',rfl⟩:=ry;exact ne_int (fL I q (congrArg not Mg))
  |str j=>obtain⟨t',rfl⟩:=ry;exact PySem.EqMixed.ne_int_str (fL I q (by simp))
  |_=>exact absurd (show false=true from hs) Bool.false_ne_true
 |str i =>
  obtain⟨t,rfl⟩:=rx;cases y with
  |non=>cases ry;exact PySem.EqNone.ne_str_none (fL I q (by simp))
  |bl j=>cases ry;exact PySem.EqMixed.ne_str_bool (fL I q (by simp))
  |int j=>obtain⟨t',rfl⟩:=ry;exact PySem.EqMixed.ne_str_int (fL I q (by simp))
  |str j=>obtain⟨t',rfl⟩:=ry;exact ne_str (fL I q (congrArg not Mh))
  |_=>exact absurd (show false=true from hs) Bool.false_ne_true
 |Ma i =>
  obtain⟨t,rfl⟩:=rx;cases y with
  |Ma j=>obtain⟨t',rfl⟩:=ry;exact PySem.W.ne_bytes (fL I q (congrArg not Mi))
  |_=>exact absurd (show false=true from hs) Bool.false_ne_true
 |_=>cases y<;>exact absurd (show false=true from hs) Bool.false_ne_true
theorem Fx:oW X (compareOp .Lt) (YX λi j=>.bl (decide (i<j))):=Zi λ_ _ _ _ _ _ _ q=>lt_int q
theorem Az:oW X (compareOp .LtE) (YX λi j=>.bl (decide (i<=j))):=Zi λ_ _ _ _ _ _ _ q=>le_int q
theorem Ba:oW X (compareOp .Gt) (YX λi j=>.bl (decide (j<i))):=Zi λ_ _ _ _ _ _ _ q=>gt_int q
theorem agc:oW X (compareOp .GtE) (YX λi j=>.bl (decide (j<=i))):=Zi λ_ _ _ _ _ _ _ q=>ge_int q
theorem yC:oW X (compareOp .Is) (λx y H Q=>y=.non/\Q (.bl (decide (x=.non))) H):=by
 intro pins s σ H x y v u Q I rx ry h;obtain⟨rfl,q⟩:=h;cases ry;refine is_none_gen (fL I q ?_);cases x<;>first
  |(cases rx;rfl)
  |(obtain⟨t,rfl⟩:=rx;rfl)
theorem CQ:oW X (compareOp .IsNot) (λx y H Q=>y=.non/\Q (.bl (!decide (x=.non))) H):=by
 intro pins s σ H x y v u Q I rx ry h;obtain⟨rfl,q⟩:=h;cases ry;refine isnot_none_gen (fL I q ?_);cases x<;>first
  |(cases rx;rfl)
  |(obtain⟨t,rfl⟩:=rx;rfl)
theorem cN(b:Expr)(h:autoParam (op≠.In) zau1)(h2:autoParam (op≠.NotIn) zau1):behindInMarks op b=false:=by
 have e1:(op == CmpOp.In)=false:=by cases op<;>first|rfl|exact absurd rfl h
 have e2:(op == CmpOp.NotIn)=false:=by cases op<;>first|rfl|exact absurd rfl h2
 cases b<;>simp[behindInMarks,e1,e2]
theorem lO(ho:oW X (compareOp op) r)(ha:PE X a ta)(hb:PE X b tb)(hm:behindInMarks op b=false):PE X (.Compare a [op] [b] pos) (tOp r ta tb):=by
 intro pins s σ H Q I h;exact wpAny_Compare1 (ac0 ha hb I h λv u s2 x y H2 I2 rx ry q=>ho pins s2 σ H2 x y v u Q I2 rx ry q) hm
def abG(t:TE):TT:=λσ H Q=>t σ H λx H'=>∃k,x=.bl k/\Q k H'
theorem cu(ho:oW X (compareOp op) r)(ha:PE X a ta)(hb:PE X b tb)(hm:behindInMarks op b=false):PT X (.Compare a [op] [b] pos) (abG (tOp r ta tb)):=by
 intro pins s σ H Q I h;refine wpAny_isTrue_Compare1 (f9 (ha pins s σ H _ I h) λv s1 ⟨x,H1,I1,r1,q1⟩=>f9 (hb pins s1 σ H1 _ I1 q1) λu s2 ⟨y,H2,I2,r2,q2⟩ =>
  f9 (ho pins s2 σ H2 x y v u _ I2 r1 r2 q2) λc s3 ⟨z,H3,I3,r3,k,e,q3⟩=>?_) hm
 subst e;cases r3;exact wpAny_truthy_bool ⟨H3,I3,q3⟩
def T7(r r':R2)(ta tb tc:TE):TE:=λσ H Q=>ta σ H λx H1=>tb σ H1 λy H2=>r x y H2 λz H3=>∃k,z=.bl k /\ (if k=true then tc σ H3 λw' H4=>r' y w' H4 Q else Q (.bl false) H3)
theorem Fy(ho:oW X (compareOp op) r)(ho':oW X (compareOp op') r')(ha:PE X a ta)(hb:PE X b tb)(hc:PE X c tc)(hm:autoParam (lastMarks [op,op'] [b,c]=false) zau5):PE X (.Compare a [op,op'] [b,c] pos) (T7 r r' ta tb tc):=by
 intro pins s σ H Q I h;refine Compare_chain (f9 (ha pins s σ H _ I h) λv s1 ⟨x,H1,I1,r1,q1⟩=>chain_link (f9 (hb pins s1 σ H1 _ I1 q1) λu s2 ⟨y,H2,I2,r2,q2⟩ =>
  f9 (ho pins s2 σ H2 x y v u _ I2 r1 r2 q2) λd s3 ⟨z,H3,I3,r3,k,e,q3⟩=>?_)) hm
 subst e;cases r3;refine wpAny_truthy_bool ?_;cases k with
 |false=>exact ite_ff ⟨.bl false,H3,I3,rfl,q3⟩
 |true=>exact ite_tt (chain_last (f9 (hc pins s3 σ H3 _ I3 q3) λw' s4 ⟨z',H4,I4,r4,q4⟩=>ho' pins s4 σ H4 y z' u w' Q I4 r2 r4 q4))
theorem Fz(ho:oW X (compareOp op) r)(ho':oW X (compareOp op') r')(ha:PE X a ta)(hb:PE X b tb)(hc:PE X c tc)(hm:autoParam (lastMarks [op,op'] [b,c]=false) zau5):PT X (.Compare a [op,op'] [b,c] pos) (abG (T7 r r' ta tb tc)):=by
 intro pins s σ H Q I h;refine isTrue_chain (f9 (ha pins s σ H _ I h) λv s1 ⟨x,H1,I1,r1,q1⟩=>test_link (f9 (hb pins s1 σ H1 _ I1 q1) λu s2 ⟨y,H2,I2,r2,q2⟩ =>
  f9 (ho pins s2 σ H2 x y v u _ I2 r1 r2 q2) λd s3 ⟨z,H3,I3,r3,k,e,q3⟩=>?_)) hm
 subst e;cases r3;refine wpAny_truthy_bool ?_;cases k with
 |false =>
  obtain⟨k',e',q'⟩:=q3;cases e';exact ite_ff ⟨H3,I3,q'⟩
 |true =>
  refine ite_tt (test_last (f9 (hc pins s3 σ H3 _ I3 q3) λw' s4 ⟨z',H4,I4,r4,q4⟩=>f9 (ho' pins s4 σ H4 y z' u w' _ I4 r2 r4 q4) λd' s5 ⟨z2,H5,I5,r5,k2,e2,q5⟩=>?_));subst e2;cases r5;exact wpAny_truthy_bool ⟨H5,I5,q5⟩
noncomputable def agd(K:Fg)(x:V)(H:Hp)(k:Bool):Prop := match x with
 | .non=>k=false
 | .bl b=>k=b
 | .int i=>k=(i != 0)
 | .str y=>y.length<=sizeLine/\k=((y.length:Int) != 0)
 | .Ma y=>y.size<=sizeLine/\k=((y.size:Int) != 0)
 | .ref p=>(∃xs,cD K H p xs/\k=!xs.isEmpty)\/(∃xs,dY K H p xs/\k=!xs.isEmpty)\/∃kvs,H p=some (.dK kvs)/\k=!kvs.isEmpty
 |_=>False
theorem Jr{vs:List (κ×aC)}(r:KV kvs vs):(!vs.isEmpty)=!kvs.isEmpty:=by
 cases r<;>rfl
theorem yD(r:Vals xs its):(!its.toArray.isEmpty)=!xs.isEmpty:=by
 cases r<;>simp
theorem rY:(sizeLine:Nat)<2^63:=by rw[sizeLine_eq];decide
theorem ac4:aks X (λx H Q=>∃k,agd X.K x H k/\Q k H):=by
 intro pins s σ H x v Q I rx h;obtain⟨k,e,q⟩:=h;have hl:=rY;have hs:sizeLine=16777216:=sizeLine_eq;cases x with
 |non =>
  cases rx;have e':k=false:=e;subst e';exact truthy_none ⟨H,I,q⟩
 |bl b =>
  cases rx;have e':k=b:=e;subst e';exact wpAny_truthy_bool ⟨H,I,q⟩
 |int i =>
  obtain⟨t,rfl⟩:=rx;have e':k=(i != 0):=e;subst e';exact PySem.P.truthy_int ⟨H,I,q⟩
 |str y =>
  obtain⟨t,rfl⟩:=rx;obtain⟨hy,e'⟩:y.length<=sizeLine/\k=((y.length:Int) != 0):=e;subst e';exact PySem.P.truthy_str (by omega) ⟨H,I.tok _,q⟩
 |Ma y =>
  obtain⟨t,rfl⟩:=rx;obtain⟨hy,e'⟩:y.size<=sizeLine/\k=((y.size:Int) != 0):=e;subst e';exact PySem.W.truthy_bytes (by omega) ⟨H,I.tok _,q⟩
 |ref p =>
  cases rx;have e':(∃xs,cD X.K H p xs/\k=!xs.isEmpty)\/(∃xs,dY X.K H p xs/\k=!xs.isEmpty)\/∃kvs,H p=some (.dK kvs)/\k=!kvs.isEmpty:=e;rcases e' with ⟨xs,hx,e'⟩|⟨xs,hx,e'⟩|⟨kvs,hx,e'⟩
  ·subst e';obtain⟨its,r,pl,hz⟩:=I.list hx;have hlen:=r.length;exact wpAny_truthy_list pl.isList (by simp only[size_toArray];omega) ⟨H,I.tok _,by rw[yD r];exact q⟩
  ·subst e';obtain⟨its,r,pl,hz⟩:=I.tuple hx;have hlen:=r.length;exact truthy_tuple pl (by simp only[size_toArray];omega) ⟨H,I.tok _,by rw[yD r];exact q⟩
  ·subst e';obtain⟨hz,hS,vs,r,m⟩:kvs.length<=sizeLine/\(p == sysModules)=false/\∃vs,KV kvs vs/\s.heap.DictOf (Cz X.prog X.w) p vs:=I.hok p _ hx;have hlen:kvs.length=vs.length:=Paired.length r;exact wpAny_truthy_dict hS m (by omega) ⟨H,I.tok _,by rw[Jr r];exact q⟩
 |_=>exact(show False from e).elim
theorem FJ(ha:PE X a ta)(he:∀whole,isTrue a X.env whole=(do let v <- whole;standAt a.pos;holding [v] (truthy v))) :
  PT X a (λσ H Q=>ta σ H λx H'=>∃k,agd X.K x H' k/\Q k H'):=by
 intro pins s σ H Q I h;exact isTrue_plain (f9 (ha pins s σ H _ I h) λv s1 ⟨x,H1,I1,r1,q1⟩=>ac4 pins s1 σ H1 x v Q I1 r1 q1) (he _)
theorem vals1{x:V}(r:Vals [x] us):∃u,us=[u]/\RelV x u:=by
 cases r with
 |cons r1 r2=>cases r2;exact⟨_,rfl,r1⟩
theorem PJ:jw X (.type "int") (λxs H Q=>(∃i,xs=[.int i]/\Q (.int i) H)\/∃k,xs=[.bl k]/\Q (.int (if k then 1 else 0)) H):=by
 intro pins s σ H xs us Q I r h;rcases h with ⟨i,rfl,q⟩|⟨k,rfl,q⟩
 ·obtain⟨u,rfl,t,rfl⟩:=vals1 r;exact call_int_int ⟨.int i,H,I,⟨_,rfl⟩,q⟩
 ·obtain⟨u,rfl,r1⟩:=vals1 r;cases r1;exact call_int_bool ⟨.int (if k then 1 else 0),H,I.tok _,⟨_,rfl⟩,q⟩
structure Js(h:Heap)(x dx C:aB)(mA:Str->Option aC):Prop where
 obj:h.get? x=some (instObj C dx)
 ns:h.Ns1 dx mA
 ne:dx≠x
theorem Bc{dx:aB}{mA:Str->Option aC}(n:h.Ns1 dx mA):∃od,h.get? dx=some od/\∀name,lookIn name od=some (mA name):=by
 obtain⟨o,es,ep,ho,hd,hk,_,hm⟩:=n;refine⟨o,ho,λname=>?_⟩;have e:=hm name;unfold nsFind findBy at e;rw[<- Array.find?_toList]at e;unfold lookIn;rw[hd];dsimp only
 split
 ·rename_i y q
  rw[q]at e;exact congrArg some e
 ·rename_i q
  rw[q]at e;have a:es.toList.any (·.refKey)=false:=by
   rw[any_eq_false];intro y hy;obtain⟨z,t,hkey⟩:=hk y (Array.mem_toList_iff.mp hy);simp[DictEntry.refKey,hkey]
  have a':¬es.toList.any (·.refKey)=true:=by rw[a];exact Bool.false_ne_true
  rw[if_neg a'];exact congrArg some e
theorem Js.look(I:Js h x dx C mA):∃od,InstAt h x (instObj C dx) C (some od)/\∀name,lookIn name od=some (mA name) := let ⟨od,ho,hl⟩:=Bc I.ns
 ⟨od,⟨I.obj,rfl,rfl,ho⟩,hl⟩
variable{A:eE}{E:aC->aW->Prop}{dx C f:aB}
section
variable{prog:cC}{K:Fg}{mA:Str->Option aC}{name:Str}{v:aC}
theorem get_map{Q:aC->aW->Prop}(X:K.In s.heap)(I:Js s.heap x dx C mA)(hg:plainGet K C name=true)(hh:hasDictIn K C=true)(ha:findIn K (.ref C) name=some none)(hv:mA name=some v)(hv':handedIn v=true)(h:Q v {s with toks:=s.toks+1}) : wpAny (model prog w) A (getAttr (.ref x) name expr) Q E s:=by
 obtain⟨od,J,hl⟩:=I.look;exact PySem.W.get_value X J (plainGet_of hg).1 (findObj_own hh ha rfl (by rw[hl,hv])) hv' h
theorem T8{Q:aC×List aC->aW->Prop}(X:K.In s.heap)(I:Js s.heap x dx C mA)(hg:plainGet K C name=true)(hf:findIn K (.ref C) name=some (some (.ref f)))(ht:isFn K (.ref f)=true)(hv:mA name=none)(h:Q (.ref f,[.ref x]) s) : wpAny (model prog w) A (getMethod (.ref x) name pl) Q E s:=by
 obtain⟨od,J,hl⟩:=I.look;exact PySem.W.method_fn X J (plainGet_of hg).1 (plainGet_of hg).2 hf (beq_iff_eq.mp ht) (by show(lookIn name od).map (·.isSome)=some false;rw[hl,hv];rfl) h
theorem Zj{Q:Unit->aW->Prop}(X:K.In s.heap)(I:Js s.heap x dx C mA)(hs:findIn K (.ref C) "__setattr__"=some (some (.builtin "object.__setattr__")))(hp:plainOver K C=true)(ht:takerIn K C name=some none)(hh:hasDictIn K C=true)(hw:PySem.Within mA ns)(hsz:ns.length<=sizeLine)(h:∀h',Js h' x dx C (λy=>if y=name then some v else mA y)->Heap.SameBut dx s.heap h'->Q () {s with heap:=h',toks:=s.toks+2}) : wpAny (model prog w) A (setAttr (.ref x) name v) Q E s:=by
 obtain⟨od,J,hl⟩:=I.look;refine set_plain X J hs (PySem.W.osa_open (s:={s with toks:=s.toks+1}) (r:=none) X J hp ht λb=>?_);obtain⟨cd,hc,hd'⟩:=any_some hh;have hx:s.heap.get? x=some ⟨.ref C,some dx,.plain,#[]⟩:=I.obj;refine aj (au (aj (aj (wpAny_loadPart hx (aj (Looks.here (s:={s with toks:=s.toks+1}) (looks_clsIn X hc) ?_))))));rw[hd'];refine au (a:=some dx) (aj (au (aj ?_)));refine wpAny_nsSet1 (s:={s with toks:=s.toks+1}) I.ns λh' hn2 hs2=>?_
 obtain⟨oD,esD,epD,hoD,hdD,hcD⟩:=hn2.count (PySem.Within.cons name v hw);refine aj (wpAny_lookBehind hoD (by rw[hdD];exact pastItsLine_dict (bx hcD (by rw[length_cons];omega))) ?_);exact au (h _ ⟨(hs2.2 _ (Ne.symm I.ne)).trans I.obj,hn2,I.ne⟩ hs2)
theorem T9{R:Result->aW->Prop}{vs:List aC}{kw:List (Str×aC)}(X:K.In s.heap)(hm:makesIn K C=true)(hi:findIn K (.ref C) "__init__"=some (some (.ref f)))(hf:typeIn K (.ref f)=some (.type "function"))(h:codeAny (model prog w) (A.under (.builtin "type.__call__" ⟨.ref C::vs,kw⟩)) (.call (.ref f) ⟨.ref (s.heap.objs.size+1)::vs,kw⟩) (PySem.W.InitBack (s.heap.objs.size+1) R) {s with heap:=(s.heap.push emptyDict).push (instObj C s.heap.objs.size)}) : codeAny (model prog w) A (.call (.ref C) ⟨vs,kw⟩) R s:=by
 obtain⟨hh,g,d,t,os⟩:=s;exact PySem.W.make_core (PySem.W.makes_of X hm) (looks_findIn X hi) (λself=>PySem.W.bind_fn X self hf) (.inl rfl) h
end
def iK(f:Str)(v:V):List (Str×V)->List (Str×V)
 |[]=>[(f,v)]
 |(g,x)::r=>if g=f then(g,v)::r else(g,x)::iK f v r
theorem wL(f g:Str)(v:V):∀fs:List (Str×V),(iK f v fs).lookup g=if g=f then some v else fs.lookup g
 |[]=>by
  show List.lookup g [(f,v)]=_
  by_cases h:g=f
  ·have hb:(g == f)=true:=beq_iff_eq.mpr h;simp only[List.lookup,hb,if_pos h]
  ·have hb:(g == f)=false:=beq_eq_false_iff_ne.mpr h;simp only[List.lookup,hb,if_neg h]
 |(k,x)::r=>by
  have ih:=wL f g v r;rw[show iK f v ((k,x)::r)=(if k=f then(k,v)::r else(k,x)::iK f v r) from rfl]
  by_cases hk:k=f
  ·rw[if_pos hk]
   by_cases h:g=k
   ·have hb:(g == k)=true:=beq_iff_eq.mpr h;simp only[List.lookup,hb,if_pos (h.trans hk)]
   ·have hb:(g == k)=false:=beq_eq_false_iff_ne.mpr h;simp only[List.lookup,hb,if_neg (λe:g=f=>h (e.trans hk.symm))]
  ·rw[if_neg hk]
   by_cases h:g=k
   ·have hb:(g == k)=true:=beq_iff_eq.mpr h;simp only[List.lookup,hb,if_neg (λe:g=f=>hk (h.symm.trans e))]
   ·have hb:(g == k)=false:=beq_eq_false_iff_ne.mpr h;simp only[List.lookup,hb];exact ih
theorem vP(f:Str)(v:V):∀fs:List (Str×V),f∈(iK f v fs).map (·.1)/\∀g,g∈fs.map (·.1)->g∈(iK f v fs).map (·.1)
 |[]=>⟨by simp[iK],λg h=>by simp at h⟩
 |(k,x)::r=>by
  obtain⟨i1,i2⟩:=vP f v r;rw[show iK f v ((k,x)::r)=(if k=f then(k,v)::r else(k,x)::iK f v r) from rfl]
  by_cases hk:k=f
  ·rw[if_pos hk];subst hk;exact⟨by simp,λg h=>by simpa using h⟩
  ·rw[if_neg hk];refine⟨?_,λg h=>?_⟩
   ·rw[cJ];exact mem_cons_of_mem _ i1
   ·rw[cJ]at h⊢;rcases aR.mp h with e|e
    ·exact aR.mpr (.inl e)
    ·exact mem_cons_of_mem _ (i2 g e)
theorem lW(f:Str)(v:V):∀fs:List (Str×V),(iK f v fs).length<=fs.length+1
 |[]=>by simp[iK]
 |(k,x)::r=>by
  have ih:=lW f v r;rw[show iK f v ((k,x)::r)=(if k=f then(k,v)::r else(k,x)::iK f v r) from rfl]
  by_cases hk:k=f
  ·rw[if_pos hk,length_cons,length_cons];omega
  ·rw[if_neg hk,length_cons,length_cons];omega
theorem yu.some_of{o:Option aC}(r:yu (some v) o):∃u,o=some u/\RelV v u:=by
 cases o with
 |none=>exact(show False from r).elim
 |some u=>exact⟨u,rfl,r⟩
theorem yu.none_of{o:Option aC}(r:yu none o):o=none:=by
 cases o with
 |none=>rfl
 |some u=>exact(show False from r).elim
theorem PL(r:RelV v u):handedIn u=true:=by
 cases v with
 |non=>cases (show u=Value.none from r);rfl
 |bl b=>cases (show u=Value.bool b from r);rfl
 |int i=>obtain⟨t,e⟩:=(show ∃t,u=Value.int i t from r);cases e;rfl
 |str x=>obtain⟨t,e⟩:=(show ∃t,u=Value.str x t from r);cases e;rfl
 |Ma b=>obtain⟨t,e⟩:=(show ∃t,u=Value.bytes b t from r);cases e;rfl
 |flt b=>obtain⟨t,e⟩:=(show ∃t,u=Value.float b t from r);cases e;rfl
 |ref a=>cases (show u=Value.ref a from r);rfl
 |ty n=>cases (show u=Value.type n from r);rfl
variable{a:aB}{fs:List (Str×V)}
section
variable{fs':List (Str×V)}
theorem xR(hok:vK P w H h)(e:H a=some (.ins C dx fs)):∃mA,Js h a dx C mA/\(∀f,yu (fs.lookup f) (mA f))/\PySem.Within mA (fs.map (·.1))/\fs.length<=1000/\H dx=some (.own a):=by
 obtain⟨d,z,ne,ob,mA,n,r,q⟩:=(show gq P w H h a (.ins C dx fs) from hok a _ e);exact⟨mA,⟨ob,n,ne⟩,r,q,z,d⟩
end
structure Cls(K:Fg)(C:aB):Prop where
 pg:plainGet K C Str.empty=true
 hd:hasDictIn K C=true
 po:plainOver K C=true
 sa:findIn K (.ref C) "__setattr__"=some (some (.builtin "object.__setattr__"))
theorem Cls.get{K:Fg}(c:Cls K C)(f:Str):plainGet K C f=true:=c.pg
def jT(K:Fg)(C:aB)(f:Str):Prop:=findIn K (.ref C) f=some none
theorem jT.taker{K:Fg}{f:Str}(n:jT K C f):takerIn K C f=some none:=by
 unfold takerIn;rw[show findIn K (.ref C) f=some none from n];rfl
structure Meth(K:Fg)(C:aB)(m:Str)(f:aB):Prop where
 at_:findIn K (.ref C) m=some (some (.ref f))
 fn:isFn K (.ref f)=true
 kp:keepIn K (.ref f)=true
variable{f:Str}
section
variable{v:V}
theorem Jt{b:Bool}{Q:aC->aW->Prop}(I:Inv X pins σ H s)(e:H a=some (.ins C dx fs))(c:Cls X.K C)(n:jT X.K C f)(l:fs.lookup f=some v)(h:∀u s',Inv X pins σ H s'->RelV v u->Q u s'):wpAny (model X.prog X.w) A (getAttr (.ref a) f b) Q E s:=by
 obtain⟨mA,O,r,_,_,_⟩:=xR I.hok e;obtain⟨u,hu,ru⟩:=yu.some_of (v:=v) (o:=mA f) (by rw[<- l];exact r f);exact get_map I.oR O (c.get f) c.hd n hu (PL ru) (h u _ (I.tok _) ru)
theorem pB{Q:aC×List aC->aW->Prop}(I:Inv X pins σ H s)(e:H a=some (.ins C dx fs))(c:Cls X.K C)(k:Meth X.K C m g)(l:fs.lookup m=none)(h:Q (.ref g,[.ref a]) s):wpAny (model X.prog X.w) A (getMethod (.ref a) m pl) Q E s:=by
 obtain⟨mA,O,r,_,_,_⟩:=xR I.hok e;have hn:mA m=none:=yu.none_of (by rw[<- l];exact r m);exact T8 I.oR O (c.get m) k.at_ k.fn hn h
theorem Ju{Q:Unit->aW->Prop}(I:Inv X pins σ H s)(e:H a=some (.ins C dx fs))(c:Cls X.K C)(n:jT X.K C f)(hl:fs.length<1000)(ry:RelV y u)(h:∀s',Inv X pins σ (upd H a (.ins C dx (iK f y fs))) s'->Q () s'):wpAny (model X.prog X.w) A (setAttr (.ref a) f u) Q E s:=by
 obtain⟨mA,O,r,wi,_,ho⟩:=xR I.hok e;have hz:(fs.map (·.1)).length<=sizeLine:=by rw[ak,sizeLine_eq];omega
 refine Zj I.oR O c.sa c.po n.taker c.hd wi hz λh' O' sb=>h _ ?_
 have hd:∃o,h'.get? dx=some o:=let ⟨o,_,_,e',_⟩:=O'.ns;⟨o,e'⟩;refine I.write (x:=a) (e:=dx) (by rw[e];exact True.intro) (.inr ho) (λb q hb z=>(sb.2 b hb).trans z) hd ?_;refine⟨by rw[bf O.ne];exact ho,?_,O.ne,O'.obj,_,O'.ns,λg=>?_,λg hg=>?_⟩
 ·have:=lW f y fs;omega
 ·show yu ((iK f y fs).lookup g) (if g=f then some u else mA g)
  rw[wL]
  by_cases q:g=f
  ·rw[if_pos q,if_pos q];exact ry
  ·rw[if_neg q,if_neg q];exact r g
 ·by_cases q:g=f
  ·rw[q];exact(vP f y fs).1
  ·refine(vP f y fs).2 g (wi g λz=>hg ?_)
   show(if g=f then some u else mA g)=none
   rw[if_neg q];exact z
theorem Inv.made(I:Inv X pins σ H s):Inv X pins σ (upd (upd H s.heap.objs.size (.own (s.heap.objs.size+1))) (s.heap.objs.size+1) (.ins C s.heap.objs.size [])) {s with heap:=(s.heap.push emptyDict).push (instObj C s.heap.objs.size)}:=by
 have e1:(s.heap.push emptyDict).get? s.heap.objs.size=some emptyDict:=aN s.heap rfl;have e2:((s.heap.push emptyDict).push (instObj C s.heap.objs.size)).get? (s.heap.objs.size+1)=some (instObj C s.heap.objs.size):=by
  have:=aN (s.heap.push emptyDict) (o:=instObj C s.heap.objs.size) rfl
  rwa [Heap.size_push]at this
 have e3:(s.heap.push emptyDict).Ns s.heap.objs.size (λ_=>none):=⟨emptyDict,#[],_,e1,rfl,(λe he=>absurd he (by simp)),λ_=>rfl⟩;have I1:=I.laid (a:=s.heap.objs.size) (o:=.own (s.heap.objs.size+1)) (h':=s.heap.push emptyDict) (t':=s.toks) (λb u q=>aq _ q) (aO _) ⟨_,e1⟩;refine I1.laid (a:=s.heap.objs.size+1) (o:=.ins C s.heap.objs.size []) (t':=s.toks) (λb u q=>aq _ q) (Nat.le_of_eq (Heap.size_push _ _)) ?_;have ne:s.heap.objs.size≠s.heap.objs.size+1:=Nat.ne_of_lt (Nat.lt_succ_self _);refine⟨by rw[bf ne,aF],dG _,ne,e2,λ_=>none,(Heap.Ns1.of_empty e3).at λo q=>aq _ q,λ_=>True.intro,λy hy=>absurd rfl hy⟩
theorem Mj{prog:cC}{Q:aC->aW->Prop}(hb:attributeBase e f env (eval e env)=eval e env)(h:wpAny (model prog w) A (eval e env) (λo s₁=>wpAny (model prog w) A (getAttr o f true) Q E s₁) E s):wpAny (model prog w) A (eval (.Attribute e f pos) env) Q E s := Attribute_any_ h (by rw[arm_eval_Attribute,hb])
end
def ac5(K:Fg)(ta:TE)(f:Str):TE:=λσ H Q=>ta σ H λx H1=>∃a C dx fs v,x=.ref a/\H1 a=some (.ins C dx fs)/\Cls K C/\jT K C f/\fs.lookup f=some v/\Q v H1
noncomputable def akv(K:Fg)(ta tv:TE)(f:Str):TS:=λD σ H=>tv σ H λy H1=>ta σ H1 λx H2=>∃a C dx fs,x=.ref a/\H2 a=some (.ins C dx fs)/\Cls K C/\jT K C f/\fs.length<1000 /\ D.nx σ (upd H2 a (.ins C dx (iK f y fs)))
variable{o:Expr}
section
variable{value:Expr}{pos' tpos:Pos}{tv:TE}
theorem fJ(he:PE X e ta)(hb:attributeBase e f X.env (eval e X.env)=eval e X.env):PE X (.Attribute e f pos) (ac5 X.K ta f):=by
 intro pins s σ H Q I h;refine Mj hb (f9 (he pins s σ H _ I h) λu s1 ⟨x,H1,I1,rx,a,C,dx,fs,v,ex,ea,c,n,l,q⟩=>?_);subst ex;obtain rfl:u=Value.ref a:=rx;exact Jt I1 ea c n l λu' s2 I2 ru=>⟨v,H1,I2,ru,q⟩
theorem pC(ha:PE X o ta)(hv:PE X value tv)(hs:swapsWith value (some (.Attribute o f pos')) pos.line X.env=pure false):PS X (.Assign [.Attribute o f pos'] value pos) (akv X.K ta tv f):=by
 intro pins s σ H D I h;refine plainObj_wpAny_Assign_Attribute (f9 (hv pins s σ H _ I h) λu s1 ⟨y,H1,I1,ry,q⟩=>f9 (ha pins s1 σ H1 _ I1 q) λov s2 ⟨x,H2,I2,rx,a,C,dx,fs,ex,ea,c,n,l,q2⟩=>?_) hs;subst ex;obtain rfl:ov=Value.ref a:=rx;exact Ju I2 ea c n l ry λs3 I3=>⟨σ,_,I3,q2⟩
theorem abH{Q:aC->aW->Prop}(he:PE X e te)(I:Inv X pins σ H s)(h:te σ H λx H1=>∃a C dx fs g,x=.ref a/\H1 a=some (.ins C dx fs)/\Cls X.K C/\Meth X.K C m g/\fs.lookup m=none /\ ∀s1,Inv X pins σ H1 s1->wpAny (model X.prog X.w) X.A (callWith pos (.ref g) [.ref a] (backTo pos (starEach args X.env)) (backToKw pos (keywordEach [] X.env))) Q X.xe s1)(ht:eval (.Call (.Attribute e m apos) args [] pos) X.env=(do
   let ov <- eval e X.env
   standAt apos.atName
   let (f,first) <- holding [ov] (getMethod ov m pl)
   callWith pos f first (backTo pos (starEach args X.env)) (backToKw pos (keywordEach [] X.env)))) :
  wpAny (model X.prog X.w) X.A (eval (.Call (.Attribute e m apos) args [] pos) X.env) Q X.xe s:=by
 refine methodCall_KW (pl:=pl) (f9 (he pins s σ H _ I h) λu s1 ⟨x,H1,I1,rx,a,C,dx,fs,g,ex,ea,c,k,l,q⟩=>?_) ht;subst ex;obtain rfl:u=Value.ref a:=rx;exact pB I1 ea c k l (q s1 I1)
end
section
variable{Q:aC->aW->Prop}{c:aC}{b:Bool}
inductive sV(K:Fg)(H:Hp):V->aC->Prop where
 |non:sV K H .non (.type "NoneType")
 |bl (x:Bool):sV K H (.bl x) (.type "bool")
 |int (i:Int):sV K H (.int i) (.type "int")
 |str (x:Str):sV K H (.str x) (.type "str")
 |flt (x:UInt64):sV K H (.flt x) (.type "float")
 |lst {a:aB} {xs:List V} (e:H a=some (.lst xs)):sV K H (.ref a) (.type "list")
 |CJ {a:aB} {o:Obj} {xs:List V} (e:H a=some (.CJ o (.lst xs))):sV K H (.ref a) (.type "list")
 |tup {a:aB} {xs:List V} (e:H a=some (.tup xs)):sV K H (.ref a) (.type "tuple")
 |dK {a:aB} {kvs:List (Key×V)} (e:H a=some (.dK kvs)):sV K H (.ref a) (.type "dict")
 |dT {a:aB} {kvs:List (List Key×V)} (e:H a=some (.dT kvs)):sV K H (.ref a) (.type "dict")
 |ins {a C dx:aB} {fs:List (Str×V)} (e:H a=some (.ins C dx fs)) (cl:Cls K C) (ha:findIn K (.ref C) "__class__"=some (some (.builtin "object.__class__"))) (hn:specialIn K (.builtin "object.__class__") "__get__"=some (some (.builtin "getset_descriptor.__get__"))) (htk:takesIn K (.builtin "object.__class__")=some true) (hm:mroIn K C (.type "object")=some true):sV K H (.ref a) (.ref C)
theorem Bd{x:V}(I:Inv X pins σ H s)(rx:RelV x u)(ty:sV X.K H x t)(e:kitOne X.K t c=some b)(h:∀tk,Q (.bool b) {s with toks:=tk}) : wpAny (model X.prog X.w) A (call (.builtin "isinstance") [u,c]) Q E s:=by
 cases ty with
 |non=>cases (show u=Value.none from rx);exact kia_one PySem.W.kitx_none I.oR True.intro e (λz=>nomatch z) h
 |bl y=>cases (show u=Value.bool y from rx);exact kia_one PySem.W.kitx_bool I.oR True.intro e (λz=>nomatch z) h
 |int i=>obtain⟨t,q⟩:=(show ∃t,u=Value.int i t from rx);cases q;exact kia_one PySem.W.kitx_int I.oR True.intro e (λz=>nomatch z) h
 |str y=>obtain⟨t,q⟩:=(show ∃t,u=Value.str y t from rx);cases q;exact kia_one PySem.W.kitx_str I.oR True.intro e (λz=>nomatch z) h
 |flt y=>obtain⟨t,q⟩:=(show ∃t,u=Value.float y t from rx);cases q;exact kia_one PySem.W.kitx_float I.oR True.intro e (λz=>nomatch z) h
 | @lst a xs ea =>
  cases (show u=Value.ref a from rx);obtain⟨_,_,n,_,h1⟩:=(show gq X.prog X.w H s.heap a (.lst xs) from I.hok a _ ea);exact kia_one kitx_list I.oR ⟨_,h1,rfl⟩ e (λz=>nomatch z) h
 | @CJ a ob xs ea =>
  cases (show u=Value.ref a from rx);obtain⟨_,_,_,n,_,h1⟩:=(show gq X.prog X.w H s.heap a (.CJ ob (.lst xs)) from I.hok a _ ea);exact kia_one kitx_list I.oR ⟨_,h1,rfl⟩ e (λz=>nomatch z) h
 | @tup a xs ea =>
  cases (show u=Value.ref a from rx);obtain⟨_,_,_,p⟩:=(show gq X.prog X.w H s.heap a (.tup xs) from I.hok a _ ea);obtain⟨o,h1,h2,_⟩:=p;exact kia_one PySem.W.kitx_tuple I.oR ⟨o,h1,h2⟩ e (λz=>nomatch z) h
 | @dK a kvs ea =>
  cases (show u=Value.ref a from rx);obtain⟨_,_,vs,_,p⟩:=(show gq X.prog X.w H s.heap a (.dK kvs) from I.hok a _ ea);obtain⟨o,es,ep,h1,h2,_⟩:=p;exact kia_one kitx_dict I.oR ⟨o,h1,h2.1⟩ e (λz=>nomatch z) h
 | @dT a kvs ea =>
  cases (show u=Value.ref a from rx);obtain⟨_,_,xs,_,o,es,ep,h1,h2,_⟩:=(show gq X.prog X.w H s.heap a (.dT kvs) from I.hok a _ ea);exact kia_one kitx_dict I.oR ⟨o,h1,h2.1⟩ e (λz=>nomatch z) h
 | @ins a C dx fs ea cl ha hn htk hm =>
  cases (show u=Value.ref a from rx);obtain⟨mA,O,_⟩:=xR I.hok ea;obtain⟨od,J,_⟩:=O.look;exact kia_one (PySem.W.kitx_own (cl.get _) cl.hd ha hn htk hm) I.oR J e (λz=>nomatch z) h
end
structure eZ(k:Nat)(A:eE):Prop where
 hd:A.handled=none
 dp:A.depth+3*k+5<recursionLimit
 un:A.units+16*k+200<cLine
theorem eZ.mono(r:eZ k A)(h:j<=k):eZ j A:=⟨r.hd,by have:=r.dp;omega,by have:=r.un;omega⟩
theorem eZ.deeper(r:eZ (k+1) A)(env:Env):eZ k (A.deeper env) := ⟨r.hd,by have:=r.dp;show A.depth+1+3*k+5<_;omega,by have:=r.un;show A.units+3+16*k+200<_;omega⟩
theorem eZ.in1(r:eZ (k+1) A):eZ k A.in1 := ⟨r.hd,by have:=r.dp;show A.depth+3*k+5<_;omega,by have:=r.un;show A.units+1+16*k+200<_;omega⟩
theorem Jv{us:List aC}{kw:List (Str×aC)}:(A.under (.builtin "type.__call__" ⟨.ref C::us,kw⟩)).depth=A.depth+1:=by
 first|rfl|simp[Around.under,Code.weight,Code.isCreation,Code.isGuard,Code.isCaller,Code.frames,Code.isFrame,guardIds]
theorem Jw{us:List aC}{kw:List (Str×aC)}:(A.under (.builtin "type.__call__" ⟨.ref C::us,kw⟩)).units=A.units+1:=by
 first|rfl|simp[Around.under,Code.cUnits,Code.frames,Code.isFrame]
theorem eZ.make(r:eZ (k+1) A)(C:aB)(us:List aC)(kw:List (Str×aC)):eZ k (A.under (.builtin "type.__call__" ⟨.ref C::us,kw⟩)) := ⟨r.hd,by have:=r.dp;rw[Jv];omega,by have:=r.un;rw[Jw];omega⟩
theorem eZ.depth(r:eZ k A):A.depth<recursionLimit:=by have:=r.dp;omega
theorem eZ.units(r:eZ k A):A.units+64<cLine:=by have:=r.un;omega
def PN:TA:=λ_ H Q=>Q [] H
def Bf(ta:TE)(tr:TA):TA:=λσ H Q=>ta σ H λx H1=>tr σ H1 λxs H2=>Q (x::xs) H2
variable{es:List Expr}{t:TA}
theorem aG:PA X [] PN:=λ_ _ _ _ H Q I h=>Calls.spliced_nil ⟨[],H,I,.nil,h⟩
theorem ao(ha:PE X e te)(hr:PA X es t)(hs:autoParam (starEach (e::es) X.env=(false,eval e X.env)::starEach es X.env) zau0):PA X (e::es) (Bf te t):=by
 intro pos pins s σ H Q I h;rw[hs]
 show wpAny _ _ (spliced ((false,eval e X.env)::backTo pos (starEach es X.env))) _ _ s
 refine Calls.spliced_cons (f9 (ha pins s σ H _ I h) λu s1 ⟨x,H1,I1,r1,q1⟩=>?_);exact f9 (hr pos pins s1 σ H1 _ I1 q1) λus s2 ⟨xs,H2,I2,r2,q2⟩=>⟨x::xs,H2,I2,.cons r1 r2,q2⟩
def akx(t:TA):TE:=λσ H Q=>t σ H λxs H1=>xs.length<=sizeLine/\∀p,H1 p=none->Q (.ref p) (upd H1 p (.tup xs))
def aky(t:TA):TE:=λσ H Q=>t σ H λxs H1=>xs.length<=sizeLine/\∀p,H1 p=none->Q (.ref p) (upd H1 p (.lst xs))
theorem d8(h:PA X es t):PE X (.Tuple es x1 pos) (akx t):=by
 intro pins s σ H Q I hq;refine wpAny_Tuple_spliced (f9 (h pos pins s σ H _ I hq) λus s1 ⟨xs,H1,I1,r,z,q⟩=>⟨by rw[<- r.length];exact z,?_⟩);have hf:H1 s1.heap.objs.size=none:=I1.hok.fresh (aO _);refine⟨.ref s1.heap.objs.size,upd H1 s1.heap.objs.size (.tup xs),I1.laid (t':=s1.toks) (λb u e=>aq _ e) (aO _) ?_,rfl,q _ hf⟩;exact⟨z,us,r,⟨_,aN _ rfl,rfl,_,rfl⟩⟩
theorem gH(h:PA X es t):PE X (.List es pos) (aky t):=by
 intro pins s σ H Q I hq;refine wpAny_List_spliced (f9 (h pos pins s σ H _ I hq) λus s1 ⟨xs,H1,I1,r,z,q⟩=>⟨by rw[<- r.length];exact z,?_⟩);have hf:H1 s1.heap.objs.size=none:=I1.hok.fresh (aO _);refine⟨.ref s1.heap.objs.size,upd H1 s1.heap.objs.size (.lst xs),I1.laid (t':=s1.toks) (λb u e=>aq _ e) (aO _) ?_,rfl,q _ hf⟩;exact⟨z,us,0,r,aN _ rfl⟩
abbrev Sp:=List V->Hp->VK->XK->Prop
abbrev Bg:=List Env->Hp->aW->XK->aC->aW->Prop
structure FN(P:cC)(w:World)(K:Fg)(mg:Str->Option aC)(base:Heap)(A:eE)(outer:List Env)(s:aW)(H:Hp):Prop where
 frames:A.frames=some outer
 mod:Mod K mg base
 bs:∀b o,base.get? b=some o->s.heap.get? b=some o/\H b=none
 Pr:base.objs.size<=s.heap.objs.size
 rR:s.heap.FunFrames base outer
 Y9:∀b∈frs outer,H b=none
 hok:vK P w H s.heap
 bare:AllBare s.gens
def CE(outer:List Env)(P:cC)(w:World)(H:Hp)(s:aW)(Q:VK)(u:aC)(s':aW):Prop := ∃v H',s'.os=s.os/\AllBare s'.gens/\Un (frs outer) [] H H' s.heap s'.heap/\vK P w H' s'.heap/\RelV v u/\Q v H'
noncomputable def CR(CX:Bg)(outer:List Env)(P:cC)(w:World)(H:Hp)(s:aW)(Q:VK)(E:XK)(r:Result)(s':aW):Prop := match r with
 | .ok (.ret u)=>CE outer P w H s Q u s'
 | .ok _=>False
 | .error e=>CX outer H s E e s'
structure cM(P:cC)(w:World)(K:Fg)(mg:Str->Option aC)(base:Heap)(CX:Bg)(k:Nat)(f:aB)(fd:fH)(ps:List Str)(sp:Sp):Prop where
 len:∀vs H Q E,sp vs H Q E->vs.length=ps.length
 run:∀(A:eE)(outer:List Env)(s:aW)(H:Hp)(args:Args)(us:List aC)(vs:List V)(Q:VK)(E:XK),eZ k A->FN P w K mg base A outer s H->BindsTo s fd args (ps.zip us)->Vals vs us->sp vs H Q E -> codeAny (model P w) A (.call (.ref f) args) (CR CX outer P w H s Q E) s
theorem cM.mono{K:Fg}{f:aB}(F:cM P w K mg base CX j f fd ps sp)(h:j<=k) : cM P w K mg base CX k f fd ps sp:=⟨F.len,λA outer s H args us vs Q E hr=>F.run A outer s H args us vs Q E (hr.mono h)⟩
theorem FN.make{K:Fg}(e:FN P w K mg base A outer s H)(C:aB)(us:List aC)(kw:List (Str×aC)) : FN P w K mg base (A.under (.builtin "type.__call__" ⟨.ref C::us,kw⟩)) outer s H:=⟨by first|exact e.frames|(simpa[Around.under,Code.envs,Code.isFrame,pushEnvs]using e.frames),e.mod,e.bs,e.Pr,e.rR,e.Y9,e.hok,e.bare⟩
section
variable{s':aW}
theorem Inv.env0(I:Inv X pins σ H s):FN X.prog X.w X.K X.mg X.base X.A X.stack s H := ⟨I.ok.frames,I.ok.mod,I.bs,bx I.ok.Pr I.sz,I.stack,I.xQ,I.hok,I.bare⟩
theorem Inv.after(I:Inv X pins σ H s)(h:CE X.stack X.prog X.w H s Q u s'):EP X pins σ Q u s':=by
 obtain⟨v,H',os,bare,un,hok,r,q⟩:=h;obtain⟨hh,g,d,t,os'⟩:=s';obtain rfl:os'=s.os:=os;exact⟨v,H',I.call (h':=hh) (g':=g) (d':=d) (t':=t) (ch:=[]) un hok bare (λb z=>absurd z (by simp)),r,q⟩
end
def FP(sp:Sp)(qb:List V)(E:XK)(t:TA):TE:=λσ H Q=>t σ H λvs H1=>sp (vs++qb) H1 Q E
noncomputable def abI(C:aB)(m:Str)(sp:Sp)(qb:List V)(E:XK)(ta:TE)(t:TA):TE:=λσ H Q=>ta σ H λx H1=>∃a dx fs,x=.ref a/\H1 a=some (.ins C dx fs)/\fs.lookup m=none /\ t σ H1 λvs H2=>sp (x::(vs++qb)) H2 Q E
noncomputable def abJ(C:aB)(sp:Sp)(qb:List V)(E:XK)(t:TA):TE:=λσ H Q=>t σ H λvs H1=>∀x dx,H1 x=none->H1 dx=none->dx≠x -> sp (.ref x::(vs++qb)) (upd (upd H1 dx (.own x)) x (.ins C dx [])) (λv H2=>v=.non/\Q (.ref x) H2) E
def Binds(K:Fg)(fd:fH)(ps:List Str)(ds:List aC):Prop := ∀(s:aW)(us:List aC),K.In s.heap->(us++ds).length=ps.length->BindsTo s fd ⟨us,[]⟩ (ps.zip (us++ds))
theorem Binds.all{K:Fg}{fd:fH}{ps:List Str}(h:∀us:List aC,us.length=ps.length->bindArgs fd ⟨us,[]⟩=pure (ps.zip us)):Binds K fd ps []:=λs us _ hl=>by
 rw[append_nil]at hl⊢;exact .of_eq (h us hl)
def Passes(CX:Bg)(X:Cx)(E:XK):Prop:=∀(pins:List (aB×Obj))(σ:St)(H:Hp)(s:aW)(e:aC)(s':aW),Inv X pins σ H s->CX X.stack H s E e s'->X.xe e s'
variable{f:aB}{x:Str}{p:Pos}
section
variable{CX:Bg}{k:Nat}{fd:fH}{ps:List Str}{sp:Sp}{qb:List V}{ds:List aC}{E:XK}{m:Str}{apos:Pos}
theorem yE(F:cM X.prog X.w X.K X.mg X.base CX k f fd ps sp)(hr:eZ k X.A)(hb:Binds X.K fd ps ds)(hd:Vals qb ds)(hx:Passes CX X E)(I:Inv X pins σ H s)(r:Vals vs us)(h:sp (vs++qb) H Q E):wpAny (model X.prog X.w) X.A (call (.ref f) us) (EP X pins σ Q) X.xe s:=by
 have r2:Vals (vs++qb) (us++ds):=r.append hd;have hl:(us++ds).length=ps.length:=by rw[<- r2.length];exact F.len _ _ _ _ h
 refine wpAny_call (cY (F.run X.A X.stack s H ⟨us,[]⟩ (us++ds) (vs++qb) Q E hr I.env0 (hb s us I.oR hl) r2 h) λr s' hq=>?_);cases r with
 |error e=>exact hx pins σ H s e s' I hq
 |ok fl =>
  cases fl with
  |ret u=>exact I.after hq
  |next=>exact False.elim hq
  |brk=>exact False.elim hq
  |cont=>exact False.elim hq
theorem tY(F:cM X.prog X.w X.K X.mg X.base CX k f fd ps sp)(hr:eZ k X.A)(hg:Gl X x)(hm:X.mg x=some (.ref f))(hk:keepIn X.K (.ref f)=true)(hb:Binds X.K fd ps ds)(hd:Vals qb ds)(hx:Passes CX X E)(ha:PA X (e::es) t)(hdb:autoParam ((x == ("__debug__":Str))=false) zau1)(he:autoParam (starEach (e::es) X.env=(false,eval e X.env)::starEach es X.env) zau0)(hpl:autoParam ((backTo pos (starEach es X.env)).any (·.1)=false) zau0) : PE X (.Call (.Name x p) (e::es) [] pos) (FP sp qb E t):=by
 intro pins s σ H Q I h;refine wpAny_Call_Name_kw (lK I hg hm ?_ hdb);refine callWith_K (h₀:=X.base) I.ok.mod.Fq hk (f9 (ha pos pins s σ H _ I h) λus s1 ⟨vs,H1,I1,r,q⟩=>⟨I1.oR,?_⟩) he hpl;exact yE F hr hb hd hx I1 r q
theorem qQ(he:PE X o ta)(c:Cls X.K C)(hm:Meth X.K C m f)(F:cM X.prog X.w X.K X.mg X.base CX k f fd ps sp)(hr:eZ k X.A)(hb:Binds X.K fd ps ds)(hd:Vals qb ds)(hx:Passes CX X E)(ha:PA X (e::es) t)(hst:autoParam (starEach (e::es) X.env=(false,eval e X.env)::starEach es X.env) zau0)(hpl:autoParam ((backTo pos (starEach es X.env)).any (·.1)=false) zau0)(ht:autoParam (eval (.Call (.Attribute o m apos) (e::es) [] pos) X.env=(do
   let ov <- eval o X.env
   standAt apos.atName
   let (f,first) <- holding [ov] (getMethod ov m pl)
   callWith pos f first (backTo pos (starEach (e::es) X.env)) (backToKw pos (keywordEach [] X.env)))) zau0) :
  PE X (.Call (.Attribute o m apos) (e::es) [] pos) (abI C m sp qb E ta t):=by
 intro pins s σ H Q I h;refine methodCall_KW (pl:=pl) (f9 (he pins s σ H _ I h) λu s1 ⟨x,H1,I1,rx,a,dx,fs,ex,ea,l,q⟩=>?_) ht;subst ex;obtain rfl:u=Value.ref a:=rx;refine pB I1 ea c hm l ?_;refine callWith_K (first:=[.ref a]) (h₀:=X.base) I.ok.mod.Fq hm.kp (f9 (ha pos pins s1 σ H1 _ I1 q) λus s2 ⟨vs,H2,I2,r,q2⟩=>⟨I2.oR,?_⟩) hst hpl;exact yE (us:=.ref a::us) (vs:=.ref a::vs) F hr hb hd hx I2 (.cons rfl r) q2
theorem oX(he:PE X o ta)(c:Cls X.K C)(hm:Meth X.K C m f)(F:cM X.prog X.w X.K X.mg X.base CX k f fd ps sp)(hr:eZ k X.A)(hb:Binds X.K fd ps ds)(hd:Vals qb ds)(hx:Passes CX X E)(ht:autoParam (eval (.Call (.Attribute o m apos) [] [] pos) X.env=(do
   let ov <- eval o X.env
   standAt apos.atName
   let (f,first) <- holding [ov] (getMethod ov m pl)
   callWith pos f first (backTo pos (starEach [] X.env)) (backToKw pos (keywordEach [] X.env)))) zau0) :
  PE X (.Call (.Attribute o m apos) [] [] pos) (abI C m sp qb E ta PN):=by
 intro pins s σ H Q I h;refine methodCall_KW (pl:=pl) (f9 (he pins s σ H _ I h) λu s1 ⟨x,H1,I1,rx,a,dx,fs,ex,ea,l,q⟩=>?_) ht;subst ex;obtain rfl:u=Value.ref a:=rx;refine pB I1 ea c hm l ?_;exact PySem.W.callWith_K0 (first:=[.ref a]) I1.oR hm.kp (yE (us:=[.ref a]) (vs:=[.ref a]) F hr hb hd hx I1 (.cons rfl .nil) q)
structure Mk(K:Fg)(C f:aB):Prop where
 makes:makesIn K C=true
 init:findIn K (.ref C) "__init__"=some (some (.ref f))
 fn:isFn K (.ref f)=true
 kp:keepIn K (.ref C)=true
theorem Ua(M:Mk X.K C f)(F:cM X.prog X.w X.K X.mg X.base CX k f fd ps sp)(hr:eZ (k+1) X.A)(hb:Binds X.K fd ps ds)(hd:Vals qb ds)(hx:Passes CX X E)(I:Inv X pins σ H s)(r:Vals vs us)(h:∀x dx,H x=none->H dx=none->dx≠x->sp (.ref x::(vs++qb)) (upd (upd H dx (.own x)) x (.ins C dx [])) (λv H2=>v=.non/\Q (.ref x) H2) E) : wpAny (model X.prog X.w) X.A (call (.ref C) us) (EP X pins σ Q) X.xe s:=by
 have hq:=h (s.heap.objs.size+1) s.heap.objs.size (I.hok.fresh (Nat.le_succ _)) (I.hok.fresh (aO _)) (Nat.ne_of_lt (Nat.lt_succ_self _));have I2:=Inv.made (C:=C) I;have r2:Vals (V.ref (s.heap.objs.size+1)::(vs++qb)) (Value.ref (s.heap.objs.size+1)::(us++ds)):=.cons rfl (r.append hd);have hl:(Value.ref (s.heap.objs.size+1)::us++ds).length=ps.length:=by
  have e:=r2.length;rw[F.len _ _ _ _ hq]at e;exact e.symm
 refine wpAny_call (T9 (f:=f) I.oR M.makes M.init (beq_iff_eq.mp M.fn) (cY (F.run _ X.stack _ _ ⟨Value.ref (s.heap.objs.size+1)::us,[]⟩ (Value.ref (s.heap.objs.size+1)::(us++ds)) _ _ E (hr.make C us []) (I2.env0.make C us []) (hb _ (Value.ref (s.heap.objs.size+1)::us) I2.oR hl) r2 hq) λr s' hq'=>?_));cases r with
 |error e=>exact hx pins σ _ _ e s' I2 hq'
 |ok fl =>
  cases fl with
  |ret u =>
   obtain⟨v,H',I3,rv,ev,q3⟩:=I2.after hq';subst ev;exact⟨rv,⟨V.ref (s.heap.objs.size+1),H',I3,rfl,q3⟩⟩
  |next=>exact False.elim hq'
  |brk=>exact False.elim hq'
  |cont=>exact False.elim hq'
theorem Zk(M:Mk X.K C f)(F:cM X.prog X.w X.K X.mg X.base CX k f fd ps sp)(hr:eZ (k+1) X.A)(hg:Gl X x)(hm:X.mg x=some (.ref C))(hb:Binds X.K fd ps ds)(hd:Vals qb ds)(hx:Passes CX X E)(ha:PA X (e::es) t)(hdb:autoParam ((x == ("__debug__":Str))=false) zau1)(he:autoParam (starEach (e::es) X.env=(false,eval e X.env)::starEach es X.env) zau0)(hpl:autoParam ((backTo pos (starEach es X.env)).any (·.1)=false) zau0) : PE X (.Call (.Name x p) (e::es) [] pos) (abJ C sp qb E t):=by
 intro pins s σ H Q I h;refine wpAny_Call_Name_kw (lK I hg hm ?_ hdb);refine callWith_K (h₀:=X.base) I.ok.mod.Fq M.kp (f9 (ha pos pins s σ H _ I h) λus s1 ⟨vs,H1,I1,r,q⟩=>⟨I1.oR,?_⟩) he hpl;exact Ua M F hr hb hd hx I1 r q
end
structure bY(N P:List Str)(sc:Scope):Prop where
 kind:sc.kind=.function
 co:sc.isCoroutine=false
 gen:sc.isGenerator=false
 nd:N.Nodup
 pre:N.take P.length=P
 par:∀x∈P,sc.names.lookup x=some .local\/sc.names.lookup x=some .cell
 ac6:∀y∈sc.names,y.2≠.free
theorem d9{N P:List Str}(h:sc.kind=.function/\sc.isCoroutine=false/\sc.isGenerator=false/\N.Nodup/\N.take P.length=P/\(∀x∈P,sc.names.lookup x=some .local\/sc.names.lookup x=some .cell)/\∀y∈sc.names,y.2≠.free):bY N P sc:=⟨h.1,h.2.1,h.2.2.1,h.2.2.2.1,h.2.2.2.2.1,h.2.2.2.2.2.1,h.2.2.2.2.2.2⟩
theorem Bj{kindOf:Str->Option NameKind}:∀{binds:List (Str×aC)}{m:Str->Option aC},(∀v,(x,v)∉binds)->bindL kindOf binds m x=m x
 |[],_,_=>rfl
 |(n,v)::r,m,h=>by
  unfold bindL;rw[Bj λw hw=>h w (mem_cons_of_mem _ hw)]
  split
  ·have:x≠n:=by rintro rfl;exact h v mem_cons_self
   simp[this]
  ·rfl
theorem Bk{kindOf:Str->Option NameKind}:∀{binds:List (Str×aC)}{m:Str->Option aC},(∀v,(x,v)∉binds)->bindC kindOf binds m x=m x
 |[],_,_=>rfl
 |(n,v)::r,m,h=>by
  unfold bindC;rw[Bk λw hw=>h w (mem_cons_of_mem _ hw)]
  split
  ·rfl
  ·have:x≠n:=by rintro rfl;exact h v mem_cons_self
   simp[this]
theorem Bl{kindOf:Str->Option NameKind}:∀{P:List Str}{vs:List aC}{i:Nat}{m:Str->Option aC},P.Nodup->P[i]?=some x->vs[i]?=some v->kindOf x=some .local -> bindL kindOf (P.zip vs) m x=some v
 |[],_,_,_,_,h,_,_=>by simp at h
 |_::_,[],_,_,_,_,h,_=>by simp at h
 |p::P,w::vs,0,m,nd,h1,h2,hk=>by
  simp at h1 h2;subst h1;subst h2
  show bindL kindOf ((p,w)::P.zip vs) m p=_
  unfold bindL;rw[Bj λv hv=>(nodup_cons.mp nd).1 (of_mem_zip hv).1,if_pos hk];simp
 |p::P,w::vs,i+1,m,nd,h1,h2,hk=>by
  show bindL kindOf ((p,w)::P.zip vs) m x=_
  unfold bindL;exact Bl (i:=i) (nodup_cons.mp nd).2 (by simpa using h1) (by simpa using h2) hk
theorem Bm{kindOf:Str->Option NameKind}:∀{P:List Str}{vs:List aC}{i:Nat}{m:Str->Option aC},P.Nodup->P[i]?=some x->vs[i]?=some v->kindOf x≠some .local -> bindC kindOf (P.zip vs) m x=some v
 |[],_,_,_,_,h,_,_=>by simp at h
 |_::_,[],_,_,_,_,h,_=>by simp at h
 |p::P,w::vs,0,m,nd,h1,h2,hk=>by
  simp at h1 h2;subst h1;subst h2
  show bindC kindOf ((p,w)::P.zip vs) m p=_
  unfold bindC;rw[Bk λv hv=>(nodup_cons.mp nd).1 (of_mem_zip hv).1,if_neg hk];simp
 |p::P,w::vs,i+1,m,nd,h1,h2,hk=>by
  show bindC kindOf ((p,w)::P.zip vs) m x=_
  unfold bindC;exact Bm (i:=i) (nodup_cons.mp nd).2 (by simpa using h1) (by simpa using h2) hk
def start(N:List Str)(vs:List V):St:=vs.map some++List.replicate (N.length-vs.length) none
noncomputable def qd(CX:Bg)(P:cC)(w:World)(K:Fg)(mg:Str->Option aC)(base:Heap)(N:List Str)(qual:Str)(scope:Scope)(f:aB)(cd:aC)(A:eE)(outer:List Env)(s:aW)(H:Hp)(E:XK):Cx where
 prog:=P
 w:=w
 K:=K
 mg:=mg
 base:=base
 A:=A.deeper (envOfC qual scope s.heap.objs.size f cd)
 N:=N
 s₀:=s
 H₀:=H
 env:=envOfC qual scope s.heap.objs.size f cd
 outer:=outer
 stack:=envOfC qual scope s.heap.objs.size f cd::outer
 ex:=[]
 calm:=true
 fn:=λ_=>true
 pn:=[]
 xe:=λe s'=>wpAny (model P w) (A.deeper (envOfC qual scope s.heap.objs.size f cd)) (leaving (envOfC qual scope s.heap.objs.size f cd) e) (λ_ s''=>CX outer H s E e s'') (λe' s''=>CX outer H s E e' s'') s'
theorem FQ{sc:Scope}(h:sc.names.lookup x=some .cell):∃c,(cellsFrom n sc.names []).lookup x=some c:=by
 have q:=cellsFrom_some sc.names n [] (.inl h);exact Option.isSome_iff_exists.mp q
theorem Bo{K:Fg}{cd:aC}{s s1:aW}{E:XK}(S:bY N ps scope)(hd:A.handled=none)(e0:FN P w K mg base A outer s H)(hl:vs.length=ps.length)(r:Vals vs us)(x:InCallC s s.heap.objs.size (bindL (envOfC qual scope s.heap.objs.size f cd).kindOf (ps.zip us) λ_=>none) (cellsFrom (s.heap.objs.size+1) scope.names []) (bindC (envOfC qual scope s.heap.objs.size f cd).kindOf (ps.zip us) λ_=>none) s1) : Inv (qd CX P w K mg base N qual scope f cd A outer s H E) [] (start N vs) H s1:=by
 have hpl:ps.length<=N.length:=by have:=congrArg List.length S.pre;rw[length_take]at this;omega
 obtain⟨h1,tk,rfl,hk⟩:=x.done;have noA:∀b:aB,b∉(qd CX P w K mg base N qual scope f cd A outer s H E).ex:=λb z=>absurd (show b∈([]:List aB) from z) (by simp)
 refine⟨⟨e0.mod,S.kind,rfl,rfl,aO _,λy z c h1 h2=>?_,λy hy=>?_,λy c _ h=>?_,λ_=>hd,Around.frames_deeper e0.frames,.inr ⟨rfl,rfl⟩,λb z=>absurd z (noA b),e0.bs,e0.Pr,λb _ _=>noA b,λb z=>absurd z (noA b),e0.rR,e0.Y9⟩,rfl,e0.bare,Un.kept hk,⟨_,x.toInCall.ns,λi y v h1 h2 h3=>?_⟩,λy c h=>⟨_,x.cell y c h⟩,e0.hok.fresh (aO _),λy c h=>?_,λp hp=>absurd (show p∈([]:List (aB×Obj)) from hp) (by simp),e0.hok.kept hk,?_⟩
 ·exact name_of_addr x.apart (PySem.mem_of_lookup h1) (PySem.mem_of_lookup h2)
 ·have hy:scope.names.lookup y=some .cell\/scope.names.lookup y=some .free:=hy;rcases hy with hy|hy
  ·exact FQ hy
  ·exact absurd rfl (S.ac6 _ (PySem.mem_of_lookup hy))
 ·exact Nat.le_of_lt (x.above y c (PySem.mem_of_lookup h))
 ·have hi:i<vs.length:=by
   unfold start at h2
   by_cases hi:i<vs.length
   ·exact hi
   ·rw[List.getElem?_append_right (by simpa using hi)]at h2;rw[List.getElem?_replicate]at h2
    split at h2<;>cases h2
  have ha:vs[i]?=some v:=by
   unfold start at h2;rw[List.getElem?_append_left (by simpa using hi),aJ]at h2;cases e:vs[i]? with
   |none=>rw[e]at h2;cases h2
   |some a=>rw[e]at h2;cases h2;rfl
  obtain⟨u,hu,rv⟩:=r.get ha;have hp:ps[i]?=some y:=by
   rw[<- S.pre,List.getElem?_take_of_lt (by omega)];exact h1
  have ndP:ps.Nodup:=by rw[<- S.pre];exact S.nd.sublist (List.take_sublist _ _)
  refine⟨u,rv,?_⟩;rcases S.par y (aQ hp) with k|k
  ·exact .inl ⟨k,Bl ndP hp hu k⟩
  ·obtain⟨c,e⟩:=FQ (n:=s.heap.objs.size+1) k;refine .inr ⟨.inl k,c,e,?_⟩;have q:=x.cell y c e;rw[Bm ndP hp hu (by show scope.names.lookup y≠_;rw[k];decide)]at q;exact q
 ·exact e0.hok.fresh (Nat.le_of_lt (x.above y c (PySem.mem_of_lookup h)))
 ·unfold start
  show _=N.length
  rw[aY,ak,length_replicate];omega
theorem Ub{K:Fg}{body:List dI}{dV kV doc pm cdv ct oc:aC}{an od:Option aB}{osl:Array (Option aC)}(lk:K.lookup f=some ⟨oc,od,.func (fnOf name qual params body scope dV kV doc pm an cdv ct),osl⟩)(hcd:codeIn K cdv qual=true)(S:bY N ps scope)(len:∀vs H Q E,sp vs H Q E->vs.length=ps.length)(hbody:∀(A:eE) (outer:List Env) (s:aW) (H:Hp) (vs:List V) (Q:VK) (E:XK),eZ k (A.deeper (envOfC qual scope s.heap.objs.size f cdv))->sp vs H Q E -> ∃t,Ac (qd CX P w K mg base N qual scope f cdv A outer s H E) body t/\t {nx:=λ_ H'=>Q .non H',rt:=Q} (start N vs) H) : cM P w K mg base CX (k+1) f (fnOf name qual params body scope dV kV doc pm an cdv ct) ps sp:=by
 refine⟨len,λA outer s H args us vs Q E hr e0 hb r hsp=>?_⟩;have hl:=len _ _ _ _ hsp;have KX:K.In s.heap:=e0.mod.Fq.keeps λb o e=>(e0.bs b o e).1
 have lim:s.heap.NoLimit:=e0.mod.nolimit.keeps λb o e=>(e0.bs b o e).1
 have hkind:∀y∈ps.zip us,scope.names.lookup y.1=some .local\/(scope.names.lookup y.1=some .cell/\((cellsFrom (s.heap.objs.size+1) scope.names []).lookup y.1).isSome=true):=λ⟨n,v⟩ hy=>by
  rcases S.par n (of_mem_zip hy).1 with q|q
  ·exact .inl q
  ·exact .inr ⟨q,cellsFrom_some _ _ _ (.inl q)⟩
 refine codeAny_call_function hr.depth (KX _ _ lk) rfl S.co S.gen rfl (codeRec_of KX hcd) (hb _ _ _ _ ?_);refine wpAny_newFunctionEnv_cells S.kind hkind λenv he s1 x=>?_
 subst he;refine⟨lim.keeps x.toInCall.keep,codeAny_func ?_⟩;obtain⟨t,ht,hq⟩:=hbody A outer s H vs Q E (hr.deeper _) hsp;have I:Inv (qd CX P w K mg base N qual scope f cdv A outer s H E) [] (start N vs) H s1:=Bo S hr.hd e0 hl r x;refine cW (ht [] s1 (start N vs) H _ I hq) (λfl s' hs=>?_) λe s' hs=>hs
 have fin:∀{σ':St}{H':Hp}{v:V}{u:aC},Inv (qd CX P w K mg base N qual scope f cdv A outer s H E) [] σ' H' s'->RelV v u->Q v H'->CE outer P w H s Q u s' :=
  fun{σ' H' v u} J rv q=>⟨v,H',J.os,J.bare,J.base,J.hok,rv,q⟩
 cases fl with
 |ret u =>
  obtain⟨v,σ',H',J,rv,q⟩:=hs;exact fin J rv q
 |next =>
  obtain⟨σ',H',J,q⟩:=hs;exact fin (v:=V.non) (u:=Value.none) J rfl q
 |brk =>
  obtain⟨_,_,_,q⟩:=hs;exact False.elim q
 |cont =>
  obtain⟨_,_,_,q⟩:=hs;exact False.elim q
section
variable{id T:String}{r:List V->Hp->VK->Prop}
def tCB(r:List V->Hp->VK->Prop)(t:TA):TE:=λσ H Q=>t σ H λvs H1=>r vs H1 Q
theorem yG(hc:jw X (.builtin id) r)(hg:Gl X x)(hm:X.mg x=none)(hv:bootBuiltins x=some (.builtin id))(ha:PA X (e::es) t)(hn:autoParam (x≠"__name__") zau1)(hdb:autoParam ((x == ("__debug__":Str))=false) zau1)(he:autoParam (starEach (e::es) X.env=(false,eval e X.env)::starEach es X.env) zau0)(hpl:autoParam ((backTo pos (starEach es X.env)).any (·.1)=false) zau0):PE X (.Call (.Name x p) (e::es) [] pos) (tCB r t):=by
 intro pins s σ H Q I h;refine wpAny_Call_Name_kw (kE I hg hm hv ?_ hn hdb);exact callWith_builtin1 (f9 (ha pos pins s σ H _ I h) λus s1 ⟨vs,H1,I1,r1,q1⟩=>hc pins s1 σ H1 vs us Q I1 r1 q1) he hpl
theorem PX(hc:jw X (.type T) r)(hg:Gl X x)(hm:X.mg x=none)(hv:bootBuiltins x=some (.type T))(ha:PA X (e::es) t)(hn:autoParam (x≠"__name__") zau1)(hdb:autoParam ((x == ("__debug__":Str))=false) zau1)(he:autoParam (starEach (e::es) X.env=(false,eval e X.env)::starEach es X.env) zau0)(hpl:autoParam ((backTo pos (starEach es X.env)).any (·.1)=false) zau0):PE X (.Call (.Name x p) (e::es) [] pos) (tCB r t):=by
 intro pins s σ H Q I h;refine wpAny_Call_Name_kw (kE I hg hm hv ?_ hn hdb);exact callWith_type1 (f9 (ha pos pins s σ H _ I h) λus s1 ⟨vs,H1,I1,r1,q1⟩=>hc pins s1 σ H1 vs us Q I1 r1 q1) he hpl
end
end L2
namespace HT
open PySem PyProof.Rows
open PySem.SeqAt
open PySem.AutoSeq1 (wpAny_loadPart')
open PySem.MeetsSeq PySem.MeetsSeq2 PySem.MeetsSeq3
section
variable{prog:cC}{w:World}{A:eE}{E:aC->aW->Prop}{s:aW}
theorem Zm{t b:aB}{vs ws:List aC}{Q:aC->aW->Prop}(ht:IsTup s.heap t vs.toArray)(hb:IsTup s.heap b ws.toArray)(hv:vs≠[])(h1:ws=[]->Q (.ref t) s)(h2:ws≠[]->Q (.ref s.heap.objs.size) {s with heap:=s.heap.push {cls:=.type "tuple",data:=.seq (vs++ws).toArray} })(hsz:vs.length+ws.length<=sizeLine):wpAny (model prog w) A (binaryOp .Add (.ref t) (.ref b)) Q E s:=by
 obtain⟨⟨cls,dd,data,sl⟩,ho,hc,n,hd⟩:=id ht;obtain⟨⟨cls2,dd2,data2,sl2⟩,ho2,hc2,n2,hd2⟩:=id hb;simp only at hc hd hc2 hd2;subst hc hd hc2 hd2;have e:vs.toArray++ws.toArray=(vs++ws).toArray:=by simp
 by_cases hw:ws=[]
 ·exact concat_meets ⟨_,ho,rfl⟩ ⟨_,ho2,rfl⟩ noFill_tuple_add seq_tuple_add PySem.F.slot_tuple_add PySem.F.entry_tuple_add (PySem.F.args_tuple_add_2 _ _) (tuple_addW1 t b vs.toArray ws.toArray n n2 dd dd2 sl sl2 (by simpa using hv) (by simp[hw])) ⟨ho,ho2,h1 hw⟩
 ·refine concat_meets ⟨_,ho,rfl⟩ ⟨_,ho2,rfl⟩ noFill_tuple_add seq_tuple_add PySem.F.slot_tuple_add PySem.F.entry_tuple_add (PySem.F.args_tuple_add_2 _ _) (tuple_addW2 t b vs.toArray ws.toArray n n2 dd dd2 sl sl2 (by simpa using hv) (by simpa using hw) (by rw[size_toArray,size_toArray];exact hsz)) ⟨ho,ho2,?_⟩;rw[e];exact h2 hw
def yH(n d:Nat):Option Int->Nat
 |none=>d
 |some v=>if v<0 then(v+(n:Int)).toNat else min v.toNat n
theorem tZ(n d k:Nat):yH n d (some (k:Int))=min k n:=by
 show(if(k:Int)<0 then((k:Int)+(n:Int)).toNat else min (k:Int).toNat n)=min k n
 rw[if_neg (by omega),eG]
end
end HT
namespace L2
open PySem PySem.Spec PyProof.Rows
abbrev TO:=St->Hp->(Option Int->Hp->Prop)->Prop
noncomputable def PO(X:Cx)(e:Option Expr)(t:TO):Prop := ∀(pins:List (aB×Obj))(s:aW)(σ:St)(H:Hp)(Q:Option Int->Hp->Prop),Inv X pins σ H s->t σ H Q -> wpAny (model X.prog X.w) X.A (evalPart e X.env) (λu s'=>∃o H',Inv X pins σ H' s'/\IsPart u o/\Q o H') X.xe s
def Ml:TO:=λ_ H Q=>Q none H
def agf(t:TE):TO:=λσ H Q=>t σ H λx H1=>∃i,x=.int i/\Q (some i) H1
theorem intsAre_of :∀{us:List aC},Vals (ns.map V.int) us->IntsAre us ns:=by
 induction ns with
 |nil=>intro us r;rw[map_nil]at r;cases r;exact .nil
 |cons n ns ih =>
  intro us r;rw[cJ]at r;cases r with
  |cons r1 r2 =>
   obtain⟨t,e⟩:=r1;subst e;exact .cons n t (ih r2)
variable{X:Cx}
section
variable{e:Expr}{te:TE}{lo hi:Option Expr}{tl th:TO}{pos p2:Pos}
theorem jM:PO X none Ml:=by
 intro pins s σ H Q I h;rw[evalPart_none];exact au ⟨none,H,I,.none,h⟩
theorem jN(h:PE X e te):PO X (some e) (agf te):=by
 intro pins s σ H Q I hw;rw[evalPart_some];refine f9 (h pins s σ H _ I hw) λu s1 ⟨x,H1,I1,r1,q1⟩=>?_
 obtain⟨i,rfl,q⟩:=q1;obtain⟨t,rfl⟩:=r1;exact⟨some i,H1,I1,.int i t,q⟩
noncomputable def SlR(X:Cx)(r:V->Option Int->Option Int->Hp->VK->Prop):Prop := ∀(pins:List (aB×Obj))(s:aW)(σ:St)(H:Hp)(x:V)(v vl vu:aC)(lo hi:Option Int)(sl:aB)(Q:VK),Inv X pins σ H s->RelV x v->s.heap.IsSliceOf sl vl vu .none->IsPart vl lo->IsPart vu hi->r x lo hi H Q -> ∃T id,typeLookup (.type T) "__getitem__"=pure (some (.builtin id))/\s.TypeIs v T/\wpAny (model X.prog X.w) X.A (getItem v (.ref sl)) (EP X pins σ Q) X.xe s
def tSl(r:V->Option Int->Option Int->Hp->VK->Prop)(te:TE)(tl th:TO):TE:=λσ H Q=>te σ H λx H1=>tl σ H1 λl H2=>th σ H2 λu H3=>r x l u H3 Q
theorem jh(hr:SlR X r)(he:PE X e te)(hl:PO X lo tl)(hu:PO X hi th):PE X (.Subscript e (.Slice lo hi none p2) pos) (tSl r te tl th):=by
 intro pins s σ H Q I h;refine Subscript_ (f9 (he pins s σ H _ I h) λv s1 ⟨x,H1,I1,r1,q1⟩=>?_);refine wpAny_Slice (f9 (hl pins s1 σ H1 _ I1 q1) λvl s2 ⟨l,H2,I2,pl,q2⟩=>f9 (hu pins s2 σ H2 _ I2 q2) λvu s3 ⟨u,H3,I3,pu,q3⟩=>?_);rw[evalPart_none];refine au ?_;have I4:Inv X pins σ H3 {s3 with heap:=s3.heap.push {cls:=.type "slice",data:=.fields #[vl,vu,.none]} }:=I3.kept (t':=s3.toks) λb ob q=>aq _ q
 obtain⟨T,id,hT,ht,hg⟩:=hr pins {s3 with heap:=s3.heap.push {cls:=.type "slice",data:=.fields #[vl,vu,.none]} } σ H3 x v vl vu l u s3.heap.objs.size Q I4 r1 (Heap.IsSliceOf.new ..) pl pu q3
 show wpAny (model X.prog X.w) X.A (subscriptTail e (.Slice lo hi none p2) v (.ref s3.heap.objs.size)) (EP X pins σ Q) X.xe {s3 with heap:=s3.heap.push {cls:=.type "slice",data:=.fields #[vl,vu,.none]} }
 exact tail_any (ops:=[.ref s3.heap.objs.size,v]) ht hT hg (by with_unfolding_all rfl)
def uc(xs:List V)(lo hi:Option Int):List V:=(xs.drop (HT.yH xs.length 0 lo)).take (HT.yH xs.length xs.length hi-HT.yH xs.length 0 lo)
theorem FT(xs:List V)(lo hi:Option Int):(uc xs lo hi).length<=xs.length:=by
 unfold uc;rw[length_take,length_drop];omega
inductive abK(K:Fg)(x:V)(y:V)(H:Hp)(Q:VK):Prop
 |mk:∀a b xs ys,x=.ref a->y=.ref b->dY K H a xs->dY K H b ys->xs≠[]->xs.length+ys.length<=sizeLine->((ys=[]->Q (.ref a) H))->((ys≠[]->∀p,H p=none->Q (.ref p) (upd H p (.tup (xs++ys)))))->abK K x y H Q
theorem Vals.CT(r:Vals xs us):us=[]↔xs=[]:=by
 cases r with
 |nil=>simp
 |cons _ _=>simp
theorem Zn:oW X (binaryOp .Add) (abK X.K):=by
 intro pins s σ H x y v u Q I rx ry h;obtain⟨a,b,xs,ys,rfl,rfl,ha,hb,hx,hz,q1,q2⟩:=h;cases rx;cases ry;obtain⟨its,r1,p1,_⟩:=I.tuple ha;obtain⟨its2,r2,p2,_⟩:=I.tuple hb;refine HT.Zm p1 p2 (λz=>hx (r1.CT.mp z)) (λz=>⟨.ref a,H,I,rfl,q1 (r2.CT.mp z)⟩) (λz=>?_) (by rw[<- r1.length,<- r2.length];exact hz);refine⟨.ref s.heap.objs.size,_,I.laid (t':=s.toks) (o:=.tup (xs++ys)) (λb ob q=>aq _ q) (aO _) ?_,rfl,q2 (λw=>z (r2.CT.mpr w)) _ (I.hok.fresh (aO _))⟩;exact⟨by rw[aY];exact hz,_,r1.append r2,IsTup.new _ _⟩
end
def Zo(n:Nat)(i:Int):Option Nat:=if 0<=i then(if i<n then some i.toNat else none) else if -(n:Int)<=i then some (i+n).toNat else none
def Uc{α:Type}(xs:List α)(i:Int):Option α:=(Zo xs.length i).bind λj=>xs[j]?
theorem Mp(h:Zo n i=some j):seqIndex? i n=some j/\j<n/\-(n:Int)<=i/\i<n:=by
 unfold Zo at h
 by_cases h0:0<=i
 ·rw[if_pos h0]at h
  by_cases h1:i<n
  ·rw[if_pos h1]at h;have e:i.toNat=j:=bO h;exact⟨by rw[seqIndex_of h0 h1,e],by omega,by omega,h1⟩
  ·rw[if_neg h1]at h;cases h
 ·rw[if_neg h0]at h
  by_cases h1:-(n:Int)<=i
  ·rw[if_pos h1]at h;have e:(i+n).toNat=j:=bO h;exact⟨by rw[seqIndex_neg (by omega) h1,e],by omega,h1,by omega⟩
  ·rw[if_neg h1]at h;cases h
theorem Mq(h:Uc xs i=some v):∃j,seqIndex? i xs.length=some j/\xs[j]?=some v/\j<xs.length/\-(xs.length:Int)<=i/\i<xs.length:=by
 unfold Uc at h;cases e:Zo xs.length i with
 |none=>rw[e]at h;cases h
 |some j =>
  rw[e]at h;obtain⟨h1,h2,h3,h4⟩:=Mp e;exact⟨j,h1,h,h2,h3,h4⟩
theorem gU{j:Nat}(h:xs[j]?=some v):Uc xs (j:Int)=some v:=by
 have hj:j<xs.length:=(aM.mp h).1;have e:Zo xs.length (j:Int)=some j:=by
  unfold Zo;rw[if_pos (by omega),if_pos (by omega)];simp
 unfold Uc;rw[e];exact h
def Zq(b:Expr):Prop:=∀o i,subscripted b false o i=operate [o,i] (getItem o i)
noncomputable def IxR(X:Cx)(r:R2):Prop := ∀(value slice:Expr)(pins:List (aB×Obj))(s:aW)(σ:St)(H:Hp)(x y:V)(v u:aC)(Q:VK),Inv X pins σ H s->RelV x v->RelV y u->r x y H Q -> subscripted slice false v u=operate [v,u] (getItem v u)->wpAny (model X.prog X.w) X.A (subscriptTail value slice v u) (EP X pins σ Q) X.xe s
noncomputable def MtR(X:Cx)(id:String)(r:V->List V->Hp->VK->Prop):Prop := ∀(pins:List (aB×Obj))(s:aW)(σ:St)(H:Hp)(x:V)(xs:List V)(v:aC)(us:List aC)(Q:VK),Inv X pins σ H s->RelV x v->Vals xs us->r x xs H Q -> wpAny (model X.prog X.w) X.A (call (.builtin id) (v::us)) (EP X pins σ Q) X.xe s
section
variable{X:Cx}{a b:Expr}{ta tb:TE}{pos:Pos}
theorem cH(hr:IxR X r)(ha:PE X a ta)(hb:PE X b tb)(hs:Zq b):PE X (.Subscript a b pos) (tOp r ta tb):=by
 intro pins s σ H Q I h;exact Subscript_ (ac0 ha hb I h λv u s2 x y H2 I2 rx ry q=>hr a b pins s2 σ H2 x y v u Q I2 rx ry q (hs _ _))
inductive ac8(K:Fg)(x:V)(y:V)(H:Hp)(Q:VK):Prop
 |mk:∀p xs i v,x=.ref p->y=.int i->cD K H p xs->Uc xs i=some v->Q v H->ac8 K x y H Q
inductive ac9(K:Fg)(x:V)(y:V)(H:Hp)(Q:VK):Prop
 |mk:∀p xs i v,x=.ref p->y=.int i->dY K H p xs->Uc xs i=some v->Q v H->ac9 K x y H Q
theorem iW:IxR X (ac8 X.K):=by
 intro value slice pins s σ H x y v u Q I rx ry h hs;obtain⟨p,xs,i,z,rfl,rfl,hq,he,q⟩:=h;cases rx;obtain⟨t,rfl⟩:=ry;obtain⟨its,r,pl,hz⟩:=I.list hq;obtain⟨j,h1,h2,h3,h4,h5⟩:=Mq he;obtain⟨w,ew,rw'⟩:=r.get h2;have hl:=r.length;have hn:=rY;have fin:EP X pins σ Q w s:=⟨z,H,I,rw',q⟩
 by_cases h0:0<=i
 ·have hj:i.toNat=j:=by
   rw[seqIndex_of h0 h5]at h1;exact bO h1
  exact item_listR pl.isList h0 (by omega) (by rw[hj];simpa using ew) fin hs
 ·have hj:(i+(its.toArray.size:Int)).toNat=j:=by
   rw[seqIndex_neg (by omega) h4]at h1;rw[size_toArray,<- hl];exact bO h1
  exact subscriptTail_builtinR (x:=w) pl.isList.typeIs slot_list_getitem.lookup (wpAny_getItem_list_neg (Q:=λr s'=>r=w/\EP X pins σ Q r s') pl.isList (by omega) (by rw[size_toArray]<;>omega) (by omega) (by rw[hj];simpa using ew) ⟨rfl,fin⟩) hs
theorem cQ:IxR X (ac9 X.K):=by
 intro value slice pins s σ H x y v u Q I rx ry h hs;obtain⟨p,xs,i,z,rfl,rfl,hq,he,q⟩:=h;cases rx;obtain⟨t,rfl⟩:=ry;obtain⟨its,r,pl,hz⟩:=I.tuple hq;obtain⟨j,h1,h2,h3,h4,h5⟩:=Mq he;obtain⟨w,ew,rw'⟩:=r.get h2;have hl:=r.length;have hn:=rY;have fin:EP X pins σ Q w s:=⟨z,H,I,rw',q⟩;exact subscriptTail_builtinR (x:=w) pl.typeIs slot_tuple_getitem.lookup (getItem_tuple (j:=j) (Q:=λr s'=>r=w/\EP X pins σ Q r s') pl (by omega) (by omega) (by rw[size_toArray,<- hl];exact h1) (by simpa using ew) ⟨rfl,fin⟩) hs
theorem Jx(its:List aC)(n j:Nat)(u:aC):Obj.mapSeq (·.setIfInBounds j u) {cls:=.type "list",data:=.seq its.toArray n}={cls:=.type "list",data:=.seq (its.set j u).toArray n}:=by
 simp[Obj.mapSeq]
theorem Inv.lst{σ:St}(I:Inv X pins σ H s)(h:H p=some (.lst xs)) : ∃(its:List aC)(n:Nat),Vals xs its/\s.heap.get? p=some {cls:=.type "list",data:=.seq its.toArray n}/\xs.length<=sizeLine:=by
 obtain⟨z,its,n,r,e⟩:=I.hok p _ h;exact⟨its,n,r,e,z⟩
theorem Inv.ada{σ:St}{its its':List aC}(I:Inv X pins σ H s)(h:H p=some (.lst xs))(ho:s.heap.get? p=some {cls:=.type "list",data:=.seq its.toArray n})(hf:f {cls:=.type "list",data:=.seq its.toArray n}={cls:=.type "list",data:=.seq its'.toArray n'})(r:Vals ys its')(hz:ys.length<=sizeLine)(t:Nat) : Inv X pins σ (upd H p (.lst ys)) {s with heap:=s.heap.update p f,toks:=t}:=by
 have e:(s.heap.update p f).get? p=some {cls:=.type "list",data:=.seq its'.toArray n'}:=by
  rw[Heap.get?_update_self f ho (by rw[hf]<;>rfl),hf]
 refine I.write (x:=p) (e:=p) (by rw[h];trivial) (.inl rfl) (λb u hb q=>(Heap.get?_update_other _ _ (Ne.symm hb)).trans q) ⟨_,e⟩ ?_;exact⟨hz,its',n',r,e⟩
def agh:V->V->V->Hp->(Hp->Prop)->Prop:=λo i v H Q=>∃p xs k j,o=.ref p/\i=.int k/\H p=some (.lst xs)/\Zo xs.length k=some j/\Q (upd H p (.lst (xs.set j v)))
theorem set_list:Zb X agh:=by
 intro pins s σ H o i v ov iv u Q I ro ri rv h;obtain⟨p,xs,k,j,rfl,rfl,hp,hj,q⟩:=h;cases ro;obtain⟨t,rfl⟩:=ri;obtain⟨its,n,r,ho,hz⟩:=I.lst hp;obtain⟨h1,h2,h3,h4⟩:=Mp hj;have hl:=r.length;have hn:=rY;have I':Inv X pins σ (upd H p (.lst (xs.set j v))) {s with heap:=s.heap.update p (Obj.mapSeq (·.setIfInBounds j u))}:=
  I.ada hp ho (Jx its n j u) (r.set rv j) (by rw[length_set];exact hz) s.toks
 by_cases h0:0<=k
 ·have hk:k.toNat=j:=by
   rw[seqIndex_of h0 h4]at h1;exact bO h1
  exact PySem.W.ki_setAt ho h0 (by omega) (by rw[size_toArray,<- hl];exact h4) (by rw[hk];exact⟨_,I',q⟩)
 ·have hk:(k+(its.toArray.size:Int)).toNat=j:=by
   rw[seqIndex_neg (by omega) h3]at h1;rw[size_toArray,<- hl];exact bO h1
  exact PySem.W.ki_setBack ho (by omega) (by rw[size_toArray,<- hl];exact h3) (by omega) (by rw[hk];exact⟨_,I',q⟩)
theorem CV(lo hi:Option Int)(n:Nat):(sliceBounds lo hi none n).1=((HT.yH n 0 lo:Nat):Int)/\(sliceBounds lo hi none n).2.1=((HT.yH n n hi:Nat):Int)/\(sliceBounds lo hi none n).2.2=1:=by
 refine⟨?_,?_,rfl⟩
 ·cases lo with
  |none=>simp[sliceBounds,HT.yH]
  |some i =>
   simp only[sliceBounds,HT.yH,Option.getD_none,show(1:Int)>0 by decide,if_true]
   by_cases h:i<0
   ·simp only[h,if_true]<;>omega
   ·simp only[h,if_false]<;>omega
 ·cases hi with
  |none=>simp[sliceBounds,HT.yH]
  |some i =>
   simp only[sliceBounds,HT.yH,Option.getD_none,show(1:Int)>0 by decide,if_true]
   by_cases h:i<0
   ·simp only[h,if_true]<;>omega
   ·simp only[h,if_false]<;>omega
theorem Af(its:List aC)(lo hi:Option Int):slicePick its.toArray lo hi none=((its.drop (HT.yH its.length 0 lo)).take (HT.yH its.length its.length hi-HT.yH its.length 0 lo)).toArray:=by
 obtain⟨h1,h2,h3⟩:=CV lo hi its.toArray.size;unfold slicePick;rw[h1,h2,h3];simp only[sliceRange_one,pick_run,size_toArray]<;>rfl
inductive Zr(K:Fg)(x:V)(lo:Option Int)(hi:Option Int)(H:Hp)(Q:VK):Prop
 |mk:∀a xs,x=.ref a->cD K H a xs->(∀p,H p=none->Q (.ref p) (upd H p (.lst (uc xs lo hi))))->Zr K x lo hi H Q
theorem jO:SlR X (Zr X.K):=by
 intro pins s σ H x v vl vu lo hi sl Q I rx hs pl pu h;obtain⟨a,xs,rfl,hx,q⟩:=h;cases rx;obtain⟨its,r,ht,hz⟩:=I.list hx;have hlen:=r.length;refine⟨"list",_,slot_list_getitem.lookup,ht.isList.typeIs,?_⟩;refine wpAny_getItem_list_slice ht.isList hs pl pu .none (by simp) ?_ (by rw[size_toArray]<;>omega);rw[Af,<- hlen];refine⟨.ref s.heap.objs.size,_,I.laid (t':=s.toks) (o:=.lst (uc xs lo hi)) (λb ob q=>aq _ q) (aO _) ?_,rfl,q _ (I.hok.fresh (aO _))⟩;exact⟨bx (FT xs lo hi) hz,_,0,(r.drop (HT.yH xs.length 0 lo)).take (HT.yH xs.length xs.length hi-HT.yH xs.length 0 lo),aN _ rfl⟩
def iR:V->Bool
 | .non=>true
 | .bl _=>true
 | .int _=>true
 | .str _=>true
 |_=>false
noncomputable def sW:V->V->Bool
 | .non,.non=>true
 | .bl a,.bl b=>a == b
 | .bl a,.int b=>(if a then 1 else 0) == b
 | .int a,.bl b=>a == (if b then 1 else 0)
 | .int a,.int b=>a == b
 | .str a,.str b=>a == b
 |_,_=>false
theorem Ud{A:eE}{s:aW}(ry:RelV y u)(rx:RelV x v)(fy:iR y=true)(fx:iR x=true):SeqAt.EqAt A s u v (sW y x):=by
 cases y with
 |non =>
  cases ry;cases x with
  |non=>cases rx;exact SeqAt.EqAt.same _
  |bl b=>cases rx;exact SeqAt.EqAt.none_bool b
  |int b=>obtain⟨t,rfl⟩:=rx;exact SeqAt.EqAt.none_int b t
  |str b=>obtain⟨t,rfl⟩:=rx;exact SeqAt.EqAt.none_str b t
  |_=>exact absurd (show false=true from fx) Bool.false_ne_true
 |bl a =>
  cases ry;cases x with
  |non=>cases rx;exact SeqAt.EqAt.bool_none a
  |bl b=>cases rx;exact SeqAt.EqAt.bool_bool a b
  |int b=>obtain⟨t,rfl⟩:=rx;exact SeqAt.EqAt.bool_int a b t
  |str b=>obtain⟨t,rfl⟩:=rx;exact SeqAt.EqAt.bool_str a b t
  |_=>exact absurd (show false=true from fx) Bool.false_ne_true
 |int a =>
  obtain⟨t',rfl⟩:=ry;cases x with
  |non=>cases rx;exact SeqAt.EqAt.int_none a t'
  |bl b=>cases rx;exact SeqAt.EqAt.int_bool a t' b
  |int b=>obtain⟨t,rfl⟩:=rx;exact SeqAt.EqAt.int_int a t' b t
  |str b=>obtain⟨t,rfl⟩:=rx;exact SeqAt.EqAt.int_str a t' b t
  |_=>exact absurd (show false=true from fx) Bool.false_ne_true
 |str a =>
  obtain⟨t',rfl⟩:=ry;cases x with
  |non=>cases rx;exact SeqAt.EqAt.str_none a t'
  |bl b=>cases rx;exact SeqAt.EqAt.str_bool a t' b
  |int b=>obtain⟨t,rfl⟩:=rx;exact SeqAt.EqAt.str_int a t' b t
  |str b=>obtain⟨t,rfl⟩:=rx;exact SeqAt.EqAt.str_str a t' b t
  |_=>exact absurd (show false=true from fx) Bool.false_ne_true
 |_=>exact absurd (show false=true from fy) Bool.false_ne_true
def CW(x:V)(u:aC):Bool:=match u with
 | .none=>sW .non x
 | .bool b=>sW (.bl b) x
 | .int i _=>sW (.int i) x
 | .str z _=>sW (.str z) x
 |_=>false
theorem CZ(r:RelV y u)(f:iR y=true):CW x u=sW y x:=by
 cases y with
 |non=>cases r;rfl
 |bl b=>cases r;rfl
 |int i=>obtain⟨t,rfl⟩:=r;rfl
 |str z=>obtain⟨t,rfl⟩:=r;rfl
 |_=>exact absurd (show false=true from f) Bool.false_ne_true
theorem ud :∀{xs:List V}{us:List aC},Vals xs us->xs.all iR=true->us.any (CW x)=xs.any λy=>sW y x
 |_,_,.nil,_=>rfl
 |y::xs,u::us,.cons r t,f=>by
  rw[all_cons,Bool.and_eq_true]at f;rw[any_cons,any_cons,CZ r f.1,ud t f.2]
theorem nR{A:eE}{s:aW}(rx:RelV x v)(fx:iR x=true):∀{xs:List V}{us:List aC},Vals xs us->xs.all iR=true->∀u∈us,SeqAt.EqAt A s u v (CW x u)
 |_,_,.nil,_=>λu hu=>by cases hu
 |y::xs,u::us,.cons r t,f=>λu' hu=>by
  rw[all_cons,Bool.and_eq_true]at f;rcases aR.mp hu with rfl|hu
  ·rw[CZ r f.1];exact Ud r rx f.1 fx
  ·exact nR rx fx t f.2 u' hu
def inV(x:V)(xs:List V):Bool:=xs.any λy=>sW y x
inductive rIn(K:Fg)(neg:Bool)(x:V)(y:V)(H:Hp)(Q:VK):Prop
 |mk:∀p xs,y=.ref p->((cD K H p xs\/dY K H p xs))->iR x=true->xs.all iR=true->Q (.bl (if neg then !inV x xs else inV x xs)) H->rIn K neg x y H Q
theorem Bp:oW X (compareOp .In) (rIn X.K false):=by
 intro pins s σ H x y v u Q I rx ry h;obtain⟨p,xs,rfl,hq,fx,fs,q⟩:=h;cases ry;rcases hq with hq|hq
 ·obtain⟨its,r,pl,hz⟩:=I.list hq;refine SeqAt.in_listAt (CW x) pl.isList (λw hw=>nR rx fx r fs w (by simpa using hw)) ⟨.bl _,H,I,rfl,?_⟩;rw[show its.toArray.any (CW x)=its.any (CW x) by simp,ud r fs];exact q
 ·obtain⟨its,r,pl,hz⟩:=I.tuple hq;refine SeqAt.in_tupleAt (CW x) pl (λw hw=>nR rx fx r fs w (by simpa using hw)) ⟨.bl _,H,I,rfl,?_⟩;rw[show its.toArray.any (CW x)=its.any (CW x) by simp,ud r fs];exact q
theorem uf:oW X (compareOp .NotIn) (rIn X.K true):=by
 intro pins s σ H x y v u Q I rx ry h;obtain⟨p,xs,rfl,hq,fx,fs,q⟩:=h;cases ry;rcases hq with hq|hq
 ·obtain⟨its,r,pl,hz⟩:=I.list hq;refine SeqAt.notIn_listAt (CW x) pl.isList (λw hw=>nR rx fx r fs w (by simpa using hw)) ⟨.bl _,H,I,rfl,?_⟩;rw[show its.toArray.any (CW x)=its.any (CW x) by simp,ud r fs];exact q
 ·obtain⟨its,r,pl,hz⟩:=I.tuple hq;refine SeqAt.notIn_tupleAt (CW x) pl (λw hw=>nR rx fx r fs w (by simpa using hw)) ⟨.bl _,H,I,rfl,?_⟩;rw[show its.toArray.any (CW x)=its.any (CW x) by simp,ud r fs];exact q
theorem bT:jw X (.builtin "len") (λxs H Q=>∃p ys,xs=[.ref p]/\(cD X.K H p ys\/dY X.K H p ys)/\Q (.int ys.length) H):=by
 intro pins s σ H xs us Q I r h;obtain⟨p,ys,rfl,hq,q⟩:=h;obtain⟨u,rfl,rx⟩:=vals1 r;cases rx;have hn:=rY;rcases hq with hq|hq
 ·obtain⟨its,r',pl,hz⟩:=I.list hq;have hlen:=r'.length;exact Calls.call_len_list pl.isList (by simp only[size_toArray]<;>omega) ⟨.int ys.length,H,I.tok _,⟨s.toks+1,by rw[size_toArray,hlen]⟩,q⟩
 ·obtain⟨its,r',pl,hz⟩:=I.tuple hq;have hlen:=r'.length;exact len_tuple pl (by simp only[size_toArray]<;>omega) ⟨.int ys.length,H,I.tok _,⟨s.toks+1,by rw[size_toArray,hlen]⟩,q⟩
theorem ug:jw X (.builtin "len") (λxs H Q=>∃z,xs=[.str z]/\z.length<=sizeLine/\Q (.int z.length) H):=by
 intro pins s σ H xs us Q I r h;obtain⟨z,rfl,hz,q⟩:=h;obtain⟨u,rfl,t,rfl⟩:=vals1 r;have hn:=rY;exact len_str (by omega) ⟨.int z.length,H,I.tok _,⟨_,rfl⟩,q⟩
theorem Dc:jw X (.type "list") (λxs H Q=>∃p ys,xs=[.ref p]/\(cD X.K H p ys\/dY X.K H p ys)/\∀l,H l=none->Q (.ref l) (upd H l (.lst ys))):=by
 intro pins s σ H xs us Q I r h;obtain⟨p,ys,rfl,hq,q⟩:=h;obtain⟨u,rfl,rx⟩:=vals1 r;cases rx;have fin:∀(its:List aC),Vals ys its->ys.length<=sizeLine->∀(h':Heap)(c':Nat),(∀b o',s.heap.get? b=some o'->h'.get? b=some o') ->
   h'.get? s.heap.objs.size=some {cls:=.type "list",dict:=none,data:=.seq its.toArray c',slots:=#[]}->EP X pins σ Q (.ref s.heap.objs.size) {s with heap:=h'}:=λits r' hz h' c' kp e =>
  ⟨.ref s.heap.objs.size,_,I.laid (t':=s.toks) kp (aO _) (show gq X.prog X.w _ h' _ (.lst ys) from⟨hz,its,c',r',e⟩),rfl,q _ (I.hok.fresh (aO _))⟩
 rcases hq with hq|hq
 ·obtain⟨its,r',pl,hz⟩:=I.list hq;have hlen:=r'.length;obtain⟨o,ho,hc,n,hd⟩:=pl.isList;exact call_list_seq p (.inl rfl) ho hc hd (λh' c' kp e=>fin its r' hz h' c' kp e) (by simp only[size_toArray]<;>omega)
 ·obtain⟨its,r',pl,hz⟩:=I.tuple hq;have hlen:=r'.length;obtain⟨o,ho,hc,n,hd⟩:=pl;exact call_list_seq p (.inr rfl) ho hc hd (λh' c' kp e=>fin its r' hz h' c' kp e) (by simp only[size_toArray]<;>omega)
theorem jF:jw X (.type "tuple") (λxs H Q=>∃p ys,xs=[.ref p]/\((cD X.K H p ys/\∀l,H l=none->Q (.ref l) (upd H l (.tup ys)))\/(dY X.K H p ys/\Q (.ref p) H))):=by
 intro pins s σ H xs us Q I r h;obtain⟨p,ys,rfl,h⟩:=h;obtain⟨u,rfl,rx⟩:=vals1 r;cases rx;rcases h with ⟨hq,q⟩|⟨hq,q⟩
 ·obtain⟨its,r',pl,hz⟩:=I.list hq;have hlen:=r'.length;refine call_tuple_list pl.isList (λh' kp=>?_) (by simp only[size_toArray]<;>omega);have I1:Inv X pins σ H {s with heap:=h'}:=I.kept (t':=s.toks) kp;have I2:Inv X pins σ (upd H h'.objs.size (.tup ys)) {s with heap:=h'.push {cls:=.type "tuple",data:=.seq its.toArray} }:=
   I1.laid (t':=s.toks) (λb o e=>aq _ e) (aO _) (show gq X.prog X.w _ _ _ (.tup ys) from⟨hz,its,r',IsTup.new _ _⟩)
  exact⟨.ref h'.objs.size,_,I2,rfl,q _ (I1.hok.fresh (aO _))⟩
 ·obtain⟨its,r',pl,hz⟩:=I.tuple hq;exact call_tuple_same pl ⟨.ref p,H,I,rfl,q⟩
noncomputable def tyV(K:Fg)(T:String)(x:V)(H:Hp):Prop:=match x with
 | .str _=>T="str"
 | .int _=>T="int"
 | .ref p=>(T="list"/\∃xs,cD K H p xs)\/(T="tuple"/\∃o,K.lookup p=some o/\o.cls=.type "tuple"/\o.dict=none) \/ (T="dict"/\((∃kvs,H p=some (.dK kvs))\/∃kvs,H p=some (.dT kvs)))\/(T="set"/\∃S n,H p=some (.set S n))
 |_=>False
theorem adb{σ:St}(I:Inv X pins σ H s)(r:RelV x v)(ty:tyV X.K T x H) : s.TypeIs v T/\∀a,v=.ref a->∃ob,s.heap.get? a=some ob/\ob.dict=none:=by
 cases x with
 |str z =>
  obtain⟨t,rfl⟩:=r;cases (show T="str" from ty);exact⟨typeIs_str s z t,λ_ e=>nomatch e⟩
 |int i =>
  obtain⟨t,rfl⟩:=r;cases (show T="int" from ty);exact⟨typeIs_int s i t,λ_ e=>nomatch e⟩
 |ref p =>
  cases r;rcases ty with ⟨rfl,xs,hq⟩|⟨rfl,o,hk,hc,hd⟩|⟨rfl,hk⟩|⟨rfl,S,n,hk⟩
  ·obtain⟨its,_,pl,_⟩:=I.list hq;refine⟨pl.isList.typeIs,λa e=>?_⟩;cases e;obtain⟨o,n,e,c,hd,_⟩:=pl;exact⟨o,e,hd⟩
  ·refine⟨⟨o,I.oR p o hk,hc⟩,λa e=>?_⟩;cases e;exact⟨o,I.oR _ o hk,hd⟩
  ·have z:∃o,s.heap.get? p=some o/\o.ExactDict:=by
    rcases hk with ⟨kvs,hk⟩|⟨kvs,hk⟩
    ·obtain⟨_,_,_,_,o,_,_,e,ex,_⟩:=I.hok p _ hk;exact⟨o,e,ex⟩
    ·obtain⟨_,_,_,_,o,_,_,e,ex,_⟩:=I.hok p _ hk;exact⟨o,e,ex⟩
   obtain⟨o,e,ex⟩:=z;refine⟨⟨o,e,ex.1⟩,λa e2=>?_⟩;cases e2;exact⟨o,e,ex.2.1⟩
  ·obtain⟨o,_,_,_,e,ex,_⟩:=I.hok p _ hk;refine⟨⟨o,e,ex.1⟩,λa e2=>?_⟩;cases e2;exact⟨o,e,ex.2.1⟩
 |_=>exact False.elim ty
def tBM(K:Fg)(T:String)(r:V->List V->Hp->VK->Prop)(to:TE)(t:TA):TE:=λσ H Q=>to σ H λx H1=>tyV K T x H1/\t σ H1 λxs H2=>r x xs H2 Q
variable{o e:Expr}{es:List Expr}{to:TE}{t:TA}{name:Str}{apos cpos:Pos}{T id:String}{r:V->List V->Hp->VK->Prop}
theorem mL(pa:PlainAttrs T)(slot:Slot T name id)(hty:typeOf (.builtin id)=pure (.type "method_descriptor"))(hm:MtR X id r)(ho:PE X o to)(ha:PA X (e::es) t)(hbase:autoParam (attributeBase o name X.env (eval o X.env)=eval o X.env) zau0)(hfew:autoParam (((backTo cpos (starEach (e::es) X.env)).all (λx=>!x.1)&&(backToKw cpos (keywordEach [] X.env)).all (λx=>x.1.isSome)&&decide ((e::es).length+([]:List Keyword).length+(if([]:List Keyword).isEmpty then 0 else 1)<30))=true) zau0)(hline:autoParam ((apos.endLine == cpos.line)=true) zau0)(hs:autoParam (starEach (e::es) X.env=(false,eval e X.env)::starEach es X.env) zau0)(hplain:autoParam ((backTo cpos (starEach es X.env)).any (·.1)=false) zau0) : PE X (.Call (.Attribute o name apos) (e::es) [] cpos) (tBM X.K T r to t):=by
 intro pins s σ H Q I h;refine wpAny_Call_method_late hbase hfew hline rfl (f9 (ho pins s σ H _ I h) λv s1 ⟨x,H1,I1,r1,ty,q1⟩=>?_);obtain⟨h1,h2⟩:=adb I1 r1 ty;refine⟨T,id,pa,slot,hty,h1,h2,?_⟩;have hA:=ha cpos pins s1 σ H1 _ I1 q1;rw[hs]at hA⊢;refine Calls.callWith_builtin (by show(false||(backTo cpos (starEach es X.env)).any (·.1))=false;rw[hplain]<;>rfl) (Calls.evalArgs_plain ?_);exact f9 hA λus s2 ⟨vs,H2,I2,r2,q2⟩=>hm pins s2 σ H2 x vs v us Q I2 r1 r2 q2
end
noncomputable def MtM(X:Cx)(id:String)(r:V->List V->Hp->VK->Prop):Prop := ∀(pins:List (aB×Obj))(s:aW)(σ:St)(H:Hp)(x:V)(xs:List V)(v:aC)(us:List aC)(Q:VK),Inv X pins σ H s->RelV x v->Vals xs us->r x xs H Q -> wpAny (model X.prog X.w) X.A (call (.builtin id) (v::us)) (EP X pins σ Q) X.xe s
theorem Vals.one:∀{x:V}{us:List aC},Vals [x] us->∃u,us=[u]/\RelV x u
 |_,_,.cons r .nil=>⟨_,rfl,r⟩
theorem Vals.two:∀{x y:V}{us:List aC},Vals [x,y] us->∃u v,us=[u,v]/\RelV x u/\RelV y v
 |_,_,_,.cons r (.cons q .nil)=>⟨_,_,rfl,r,q⟩
variable{s:aW}
section
variable{pins:List (aB×Obj)}{σ:St}{H:Hp}{l b:aB}{xs ys zs:List V}
theorem Inv.agj{its its':List aC}{f:Array aC->Array aC}(I:Inv X pins σ H s)(hH:H l=some (.lst xs))(e:s.heap.get? l=some {cls:=.type "list",data:=.seq its.toArray n})(hf:f its.toArray=its'.toArray)(hv:Vals ys its')(hz:ys.length<=sizeLine) : Inv X pins σ (upd H l (.lst ys)) {s with heap:=s.heap.update l (Obj.mapSeq f),toks:=t'}:=by
 have q:=PySem.IsL.update e f;rw[hf]at q;refine I.write (x:=l) (e:=l) (by rw[hH];exact trivial) (.inl rfl) (λb' u hb hu=>(Heap.get?_update_other s.heap (Obj.mapSeq f) (Ne.symm hb)).trans hu) ⟨_,q⟩ ?_;exact⟨hz,its',_,hv,q⟩
theorem Inv.akA(I:Inv X pins σ H s)(hv:Vals ys its)(hz:ys.length<=sizeLine) : Inv X pins σ (upd H s.heap.objs.size (.lst ys)) {s with heap:=s.heap.push {cls:=.type "list",data:=.seq its.toArray},toks:=t'}:= I.laid (λ_ _ q=>aq _ q) (aO _) ⟨hz,its,0,hv,aN _ rfl⟩
theorem Inv.fresh(I:Inv X pins σ H s):H s.heap.objs.size=none:=I.hok.fresh (aO _)
theorem Inv.FW(I:Inv X pins σ H s)(hH:H l=some (.lst xs)):xs.length<=sizeLine/\∃(its:List aC)(n:Nat),Vals xs its/\xs.length=its.length/\s.heap.get? l=some {cls:=.type "list",data:=.seq its.toArray n}:=by
 obtain⟨z,its,n,r,e⟩:=I.hok l _ hH;exact⟨z,its,n,r,r.length,e⟩
theorem Ue(h:n<=sizeLine):Builtin.List.listTooLong n=false:=by
 unfold Builtin.List.listTooLong;exact aD (by omega)
end
inductive Mr(x:V)(vs:List V)(H:Hp)(Q:VK):Prop
 |mk:∀l xs y,x=.ref l->vs=[y]->H l=some (.lst xs)->xs.length<sizeLine->Q .non (upd H l (.lst (xs++[y])))->Mr x vs H Q
theorem iu:MtM X "list.append" Mr:=by
 intro pins s σ H x vs v us Q I rx rv h;obtain⟨l,xs,y,rfl,rfl,hH,hz,q⟩:=h;cases rx;obtain⟨u,rfl,ru⟩:=rv.one;obtain⟨z,its,n,r,hl,e⟩:=I.FW hH;refine call_meets F.slot_list_append ⟨_,e,rfl⟩ F.entry_list_append (F.args_list_append_2 _ _) (PySem.list_append l its.toArray n u (by rw[size_toArray];omega)) ⟨e,?_⟩;refine⟨.non,_,I.agj (its':=its++[u]) hH e (by simp) (r.append (.cons ru .nil)) ?_,rfl,q⟩;rw[aY,List.length_singleton];omega
inductive Ms(x:V)(vs:List V)(H:Hp)(Q:VK):Prop
 |mk:∀l b xs zs,x=.ref l->vs=[.ref b]->H l=some (.lst xs)->H b=some (.lst zs)->xs.length+zs.length<=sizeLine->Q .non (upd H l (.lst (xs++zs)))->Ms x vs H Q
theorem aft:MtM X "list.extend" Ms:=by
 intro pins s σ H x vs v us Q I rx rv h;obtain⟨l,b,xs,zs,rfl,rfl,hH,hB,hz,q⟩:=h;cases rx;obtain⟨u,rfl,ru⟩:=rv.one;cases ru;obtain⟨z,its,n,r,hl,e⟩:=I.FW hH;obtain⟨z2,its2,n2,r2,hl2,e2⟩:=I.FW hB;have hsz:its.toArray.size+its2.toArray.size<=sizeLine:=by rw[size_toArray,size_toArray];omega
 have agk:¬(!its.toArray.isEmpty&&Builtin.List.listTooLong (its.toArray.size+its2.toArray.size))=true:=by
  rw[Ue hsz,Bool.and_false];exact Bool.false_ne_true
 refine call_meets F.slot_list_extend ⟨_,e,rfl⟩ F.entry_list_extend (F.args_list_extend_2 _ _) (AutoSeq1.list_extend_list_list_0 l its.toArray n b its2.toArray n2 agk (by rw[size_toArray];omega) (by omega)) ⟨e,e2,?_⟩;refine⟨.non,_,I.agj (its':=its++its2) hH e (by simp) (r.append r2) ?_,rfl,q⟩;rw[aY];omega
inductive ade(x:V)(y:V)(H:Hp)(Q:VK):Prop
 |mk:∀l b xs zs,x=.ref l->y=.ref b->H l=some (.lst xs)->H b=some (.lst zs)->xs.length+zs.length<=sizeLine->(∀p,H p=none->Q (.ref p) (upd H p (.lst (xs++zs))))->ade x y H Q
theorem sX:oW X (binaryOp .Add) ade:=by
 intro pins s σ H x y v u Q I rx ry h;obtain⟨l,b,xs,zs,rfl,rfl,hH,hB,hz,q⟩:=h;cases rx;cases ry;obtain⟨z,its,n,r,hl,e⟩:=I.FW hH;obtain⟨z2,its2,n2,r2,hl2,e2⟩:=I.FW hB;refine PySem.P.add_list e e2 ?_ (by rw[size_toArray,size_toArray];omega);have ea:its.toArray++its2.toArray=(its++its2).toArray:=by simp
 rw[ea];exact⟨.ref _,_,I.akA (t':=s.toks) (r.append r2) (by rw[aY];omega),rfl,q _ I.fresh⟩
section
variable{prog:cC}{w:World}{A:eE}{E:aC->aW->Prop}
set_option maxRecDepth 100000 in
end
end L2
namespace Att
open PySem PySem.W PySem.Calls PyProof.Rows
theorem xu :∀(ns:List Int)(vs:List aC),WellAll P h vs (ns.map WData.int)->IntsAre vs ns:=by
 intro ns
 induction ns with
 |nil =>
  intro vs w;rw[map_nil]at w;cases w;exact .nil
 |cons n ns ih =>
  intro vs w;rw[cJ]at w;cases w with
  |cons a b =>
   cases a;exact .cons _ _ (ih _ b)
theorem P0{l:OpenLaw}(hn:l.most=some n){vals:List aC}(hpre:l.row.toRowW.claim.pre args=true)(hwl:WellAll P h vals args) : ∃a vs ns,vals=[Value.ref a]/\args=[WData.list (ns.map WData.int)]/\h.get? a=some {cls:=.type "list",data:=.seq vs.toArray}/\IntsAre vs ns/\ns.length<=n:=by
 have hsh:WShape.hasAll [] args [.list .int]=true:=(pre_splitW hpre).1;have hc:l.pre.holds [] {args:=args}=true:=(pre_splitW hpre).2;obtain⟨d,r,rfl,h1,h2⟩:=hasAllW_cons hsh;obtain rfl:=hasAllW_nil h2;obtain⟨xs,rfl,h3⟩:=hasW_list h1;obtain⟨ns,rfl⟩:=items_int h3;have hlen:ns.length<=n:=by
  unfold OpenLaw.pre at hc;have h4:(WTm.not (.lt (.lit (.int (n:Int))) (.len (.arg 0)))).holds [] {args:=[.list (ns.map .int)]}=true:=by
   have h4:=(holds_andW hc).1;rw[hn]at h4;exact h4
  have h5:=condW_of h4 (w_not (w_lt w_lit (w_len_list (w_arg rfl))));rw[ak]at h5;refine Nat.le_of_not_lt λq=>?_
  have q':(n:Int)<((ns.length:Nat):Int):=by omega
  first
   |(rw[aK q']at h5;exact absurd h5 (by decide))
   |(simp at h5;omega)
 cases hwl with
 |cons w1 w2 =>
  cases w2;cases w1 with
  |list ho hall=>exact⟨_,_,ns,rfl,rfl,ho,xu ns _ hall,hlen⟩
theorem Qa(l:OpenLaw)(args:List WData):l.row.toRowW.claim.post args (.bool true) args=true := postW_of (r:=l.row.toRowW) (X:=(true == true)) (show WShape.has [] (.bool true) .bool=true by first|rfl|decide|simp[WShape.has,WShape.arms,WShape.armsAll]) (show(WTm.eq .res (.lit (.bool true))).value [] {args:=args,res:=some (.bool true),after:=args}=some (.bool (true == true)) from w_eq_bool (w_res rfl) w_lit) rfl
theorem FZ{l:OpenLaw}{q:cC}{XP:(Str->Option aC)->Heap->Prop}(hn:l.most=some n)(hdf:d.params.defaults=[])(call:∀(w:World) (s₀ s₁:aW) (mg mb:Str->Option aC) (fa:aB) (o:Obj) (pm cd doc:aC) (a:aB) (vs:List aC) (ns:List Int),Ground q loose [] XP w s₀ mg mb s₁.heap->YP w s₁.heap -> s₁.heap.get? fa=some o->o.data=.func (docDef d.name d.params d.body d.scope pm cd doc)->s₁.heap.CodeRec cd d.name->mg d.name=some (.ref fa) -> s₁.heap.get? a=some {cls:=.type "list",data:=.seq vs.toArray}->IntsAre vs ns->ns.length<=n->s₁.gens=#[] -> codeAny (model l.prog w) callerA (.call (.ref fa) ⟨[.ref a],[]⟩) (λr s'=>r=.ok (.ret (.bool true))/\OldK s₁.heap s'.heap/\s'.os=s₁.os/\AllBare s'.gens) s₁) : WalkO q loose XP YP l.row.toRowW d [] (λf vs=>PySem.call f vs):=by
 intro w s₀ s₁ mg mb G Y fa o pm cd doc dV kV ho hd hcd hD hmg hg args vals as hpre hlay hrd hwl hlo;obtain rfl:dV=.none:=Dflts.none hD hdf;obtain rfl:kV=.none:=Dflts.noKw hD;obtain⟨a,vs,ns,rfl,rfl,hobj,hints,hlen⟩:=P0 hn hpre hwl;refine enter_call (cY (call w s₀ s₁ mg mb fa o pm cd doc a vs ns G Y ho (fd_plain hd) hcd hmg hobj hints hlen hg) λr s' hq=>?_);obtain⟨rfl,h2,h3,h4⟩:=hq;exact⟨.inl ⟨.bool true,.bool true,[],rfl,λ_=>rfl,.bool true,Qa l _,λ_=>⟨Pairwise.nil,λ_ hm=>(nomatch hm)⟩⟩,h2,h3,h4⟩
end Att
namespace L2
open PySem PySem.Spec PyProof.Rows
theorem Bq:∀{vs:List aC}{ns:List Int},IntsAre vs ns->Vals (ns.map V.int) vs
 |_,_,.nil=>.nil
 |_,_,.cons n t h=>.cons ⟨t,rfl⟩ (Bq h)
structure mH(K:Fg)(x qual:Str)(st:dI)(f:aB)(fd:fH):Prop where
 ex:∃(oc:aC)(od:Option aB)(kV doc pm:aC)(an:Option aB)(cdv ct:aC)(osl:Array (Option aC)),fd=fnOf x qual (oA st) (iV st) (aZ st) .none kV doc pm an cdv ct/\K.lookup f=some ⟨oc,od,.func fd,osl⟩/\codeIn K cdv qual=true
 kp:keepIn K (.ref f)=true
variable{P:cC}{w:World}{K:Fg}{mg:Str->Option aC}{base:Heap}
theorem mH.binds{st:dI}{ps:List Str}(F:mH K x qual st f fd)(h:∀(kV doc pm:aC) (an:Option aB) (cdv ct:aC) (us:List aC),us.length=ps.length->bindArgs (fnOf x qual (oA st) (iV st) (aZ st) .none kV doc pm an cdv ct) ⟨us,[]⟩=pure (ps.zip us)):Binds K fd ps []:=by
 obtain⟨oc,od,kV,doc,pm,an,cdv,ct,osl,rfl,lk,hcd⟩:=F.ex;exact .all (h kV doc pm an cdv ct)
theorem qg{st:dI}{f:aB}{oc:aC}{od an:Option aB}{osl:Array (Option aC)}{kV doc pm cdv ct:aC}(l:K.lookup f=some ⟨oc,od,.func (fnOf x qual (oA st) (iV st) (aZ st) .none kV doc pm an cdv ct),osl⟩)(c:codeIn K cdv qual=true)(k:keepIn K (.ref f)=true):mH K x qual st f (fnOf x qual (oA st) (iV st) (aZ st) .none kV doc pm an cdv ct):=⟨⟨oc,od,kV,doc,pm,an,cdv,ct,osl,rfl,l,c⟩,k⟩
variable{X:Cx}
theorem pv(i:Nat)(hN:autoParam (X.N[i]?=some x) zau0)(hv:Vis X.env.scope x:=by first|exact Or.inl rfl|exact Or.inr (Or.inl rfl)|exact Or.inr (Or.inr rfl))(hd:autoParam ((x == ("__debug__":Str))=false) zau1)(hcd:autoParam ((x == ("__classdict__":Str))=false) zau1):PE X (.Name x pos) (TV i):=acW hN hv hd hcd
theorem cU{A B:Prop}(h:B):if false=true then A else B:=by
 rw[if_neg Bool.false_ne_true];exact h
theorem dB{A B:Prop}(h:A):if true=true then A else B:=by
 rw[if_pos rfl];exact h
theorem Ga{c A B:Prop}[Decidable c](h1:c->A)(h2:¬c->B):if c then A else B:=by
 by_cases h:c
 ·rw[if_pos h];exact h1 h
 ·rw[if_neg h];exact h2 h
def Same(H H':Hp):Prop:=∀b o,H b=some o->H' b=some o
theorem Same.refl(H:Hp):Same H H:=λ_ _ h=>h
theorem Same.trans(a:Same H H1)(b:Same H1 H2):Same H H2:=λc o h=>b c o (a c o h)
theorem Same.free(e:Same H H')(h:H' l=Option.none):H l=Option.none:=by
 cases q:H l with
 |none=>rfl
 |some o =>
  rw[e l o q]at h;cases h
theorem Same.seq(e:Same H H')(h:cD K H a xs):cD K H' a xs:=by
 rcases h with (h|⟨o,h⟩)|h
 ·exact .inl (.inl (e _ _ h))
 ·exact .inl (.inr ⟨o,e _ _ h⟩)
 ·exact .inr h
theorem yI(o:Obj)(f:Array aC->Array aC):(o.mapFields f).dict=o.dict:=by
 obtain⟨c,d,dt,sl⟩:=o;cases dt<;>rfl
noncomputable def Exc(h:Heap)(e:aB)(cls:aC)(dx:Option aB)(T:Option aB):Prop := ∃oe vs,h.get? e=some oe/\oe.cls=cls/\oe.dict=dx/\oe.data=.fields vs /\ match T with
 |none=>vs[1]?=some Value.none
 |some t=>vs[1]?=some (.ref t)/\t≠e/\∃oT ts fl,h.get? t=some oT/\oT.data=.fields ts/\ts[3]?=some fl
theorem Exc.keeps(x:Exc h e cls dx T)(k:∀b o,(b=e\/T=some b)->h.get? b=some o->h'.get? b=some o):Exc h' e cls dx T:=by
 obtain⟨oe,vs,he,hc,hx,hd,hT⟩:=x;refine⟨oe,vs,k _ _ (.inl rfl) he,hc,hx,hd,?_⟩;cases T with
 |none=>exact hT
 |some t =>
  obtain⟨h1,hne,oT,ts,fl,h2,h3,h4⟩:=hT;exact⟨h1,hne,oT,ts,fl,k _ _ (.inr rfl) h2,h3,h4⟩
def Gb(head:aC)(L:aB)(pl:List aC):Obj := {cls:=.type "traceback",dict:=none,data:=.fields ([head,.ref L,.none,rawInt L,.none]++(if pl.isEmpty then List.replicate 6 Value.none else pl)).toArray}
theorem Dd(head:aC)(L:aB)(pl:List aC):∃ts,(Gb head L pl).data=.fields ts/\ts[3]?=some (rawInt L):=⟨_,rfl,by simp⟩
structure Gd(fr:List aB)(e:aB)(T:Option aB)(h h':Heap):Prop where
 same:∀b o,b∉fr->b≠e->T≠some b->h.get? b=some o->h'.get? b=some o
 upto:∀b o,b≠e->T≠some b->h.get? b=some o->∃sl,h'.get? b=some {o with slots:=sl}
abbrev pD(l:List Env):List aB:=l.filterMap (·.frame)
variable{M:Model}{A:eE}{E:aC->aW->Prop}{Q:Unit->aW->Prop}{s:aW}{env:Env}{L e:aB}{cls:aC}{dx:Option aB}
section
variable{top:Env}{rest:List Env}
theorem Ug{Qv:aC->aW->Prop}(st:A.frames=some (top::rest))(Jy:s.heap.FunFrames base (top::rest))(e0:top.frame=some L)(e1:env.frame=some L)(k:∀h',Heap.SlotsOnly (pD (top::rest)) s.heap h'->Qv (.ref L) {s with heap:=h'}):wpAny M A (PySem.frameOf env) Qv E s:=by
 have swap:PySem.frameOf env=PySem.frameOf top:=by unfold PySem.frameOf;rw[e0,e1]
 rw[swap];exact wpAny_frameOf_fun st Jy e0 k
theorem Br{vs:Array aC}{head:aC}(st:A.frames=some (top::rest))(Jy:s.heap.FunFrames base (top::rest))(e0:top.frame=some L)(e1:env.frame=some L)(at_:s.heap.get? e=some oe)(pG:oe.data=.fields vs)(two:1<vs.size)(k:∀h' T,Gd (pD (top::rest)) e none s.heap h'->s.heap.get? T=none->Exc h' e oe.cls oe.dict (some T)->Q () {s with heap:=h'}) : wpAny M A (PySem.frameOf env >>= λa=>entryPlaceOf L b₀ >>= λpl=>EntryCells.newEntry head a .none (rawInt L) .none pl >>= λr=>setField (.ref e) 1 r) Q E s:=by
 refine aj (Ug st Jy e0 e1 λg sg=>aj (wpAny_entryPlaceOf λpl ok=>?_));have out:e∉pD (top::rest):=λq=>(Jy.mem q).2.elim λo z=>z.2 vs (by rw[at_]at z;rw[<- bO z.1];exact pG)
 have g_e:g.get? e=some oe:=(sg.2.1 e out).trans at_;have apart:g.objs.size≠e:=Nat.ne_of_gt (Heap.lt_size g_e)
 let g1:=g.push (Gb head L pl)
 have agl:g1.get? e=some oe:=aq (Gb head L pl) g_e;have akB:g1.get? g.objs.size=some (Gb head L pl):=aN g rfl
 let turn:Obj->Obj:=Obj.mapFields λxs=>xs.setIfInBounds 1 (Value.ref g.objs.size)
 have now:(turn oe).data=.fields (vs.setIfInBounds 1 (.ref g.objs.size)):=Obj.data_mapFields pG _;have self:(g1.update e turn).get? e=some (turn oe):=Heap.get?_update_self turn agl (Obj.isFreed_of_fields now);have others:∀b,b≠e->(g1.update e turn).get? b=g1.get? b:=λb nb=>Heap.get?_update_other g1 turn (Ne.symm nb)
 have up:∀b o,b≠e->g.get? b=some o->(g1.update e turn).get? b=some o:=λb o nb q=>(others b nb).trans (aq (Gb head L pl) q)
 refine aj (wpAny_newObj_type ?_ (ok.sizeOk5 _ _ _ _ _));refine wpAny_setField (s:={s with heap:=g1}) agl pG two ?_;refine k (g1.update e turn) g.objs.size ⟨λb o nf nb _ q=>up b o nb ((sg.2.1 b nf).trans q),λb o nb _ q=>?_⟩ ?_ ?_
 ·obtain⟨sl,z⟩:=sg.2.2 b o q;exact⟨sl,up b _ nb z⟩
 ·exact Heap.get?_none_of_le (Nat.le_of_eq sg.1.symm)
 ·obtain⟨ts,d,f⟩:=Dd head L pl;exact⟨turn oe,_,self,Obj.cls_mapFields _ _,yI _ _,now,by simp[two],apart,_,ts,_,(others _ apart).trans akB,d,f⟩
theorem Gd.weaken(n:Gd fr e none h h'):Gd fr e T h h':=⟨λb o a c _ q=>n.same b o a c (λz=>nomatch z) q,λb o c _ q=>n.upto b o c (λz=>nomatch z) q⟩
theorem Uh(st:A.frames=some (top::rest))(Jy:s.heap.FunFrames base (top::rest))(e0:top.frame=some L)(e1:env.frame=some L)(x:Exc s.heap e cls dx T)(k:∀h' T',Gd (pD (top::rest)) e T s.heap h'->(s.heap.get? T'=none\/T=some T')->Exc h' e cls dx (some T')->Q () {s with heap:=h'}):wpAny M A (noteFrame (.ref e) env) Q E s:=by
 obtain⟨oe,vs,at_,rfl,rfl,pG,more⟩:=id x;unfold noteFrame;simp only[e1];cases T with
 |none =>
  have nil:vs[1]?=some Value.none:=more;refine aj (wpAny_field at_ pG nil ?_);rw[if_neg (show ¬(Value.none != Value.none)=true by decide)];exact Br st Jy e0 e1 at_ pG (Array.getElem?_eq_some_iff.mp nil).1 λh' T' n new y=>k h' T' n (.inl new) y
 |some t =>
  obtain⟨one,apart,oT,ts,fl,tAt,tF,three⟩:=more;have Mt:=(Array.getElem?_eq_some_iff.mp one).1;have lt3:=(Array.getElem?_eq_some_iff.mp three).1;refine aj (wpAny_field at_ pG (x:=.ref t) one ?_);have has:(Value.ref t != Value.none)=true:=rfl;simp only[has,if_true];refine aj (wpAny_field tAt tF three ?_)
  by_cases here:(fl == rawInt L)=true
  ·simp only[here,if_true];exact au (k s.heap t ⟨λ_ _ _ _ _ q=>q,λ_ o _ _ q=>⟨o.slots,q⟩⟩ (.inr rfl) x)
  ·rw[if_neg here]
   let off:Obj->Obj:=Obj.mapFields λxs=>xs.setIfInBounds 3 Value.none
   have else_:∀b,b≠t->(s.heap.update t off).get? b=s.heap.get? b:=λb nb=>Heap.get?_update_other s.heap off (Ne.symm nb)
   have frames':(s.heap.update t off).FunFrames base (top::rest):=Jy.of_keeps λb o q nf=>⟨o,(else_ b λz=>nf ts (by rw[z,tAt]at q;rw[<- bO q];exact tF)).trans q,rfl⟩
   refine aj (wpAny_setField tAt tF lt3 (Br (s:={s with heap:=s.heap.update t off}) st frames' e0 e1 ((else_ e (Ne.symm apart)).trans at_) pG Mt λh' T' n new y=>k h' T' ?_ ?_ y))
   ·exact⟨λb o a c d q=>n.same b o a c (λz=>nomatch z) ((else_ b λz=>d (congrArg some z.symm)).trans q),λb o c d q=>n.upto b o c (λz=>nomatch z) ((else_ b λz=>d (congrArg some z.symm)).trans q)⟩
   ·by_cases z:T'=t
    ·exact .inr (congrArg some z.symm)
    ·exact .inl ((else_ T' z).symm.trans new)
theorem Jz{fr:Option aB}(x:Exc s.heap e cls dx (some t))(k:∀h',(∀b o,b≠t->s.heap.get? b=some o->h'.get? b=some o)->Exc h' e cls dx (some t)->Q () {s with heap:=h'}) : wpAny M A (setFlight (.ref e) fr) Q E s:=by
 obtain⟨oe,vs,at_,rfl,rfl,pG,one,apart,oT,ts,fl,tAt,tF,three⟩:=x;have lt3:=(Array.getElem?_eq_some_iff.mp three).1;have has:(Value.ref t != Value.none)=true:=rfl;unfold setFlight;refine aj (wpAny_field at_ pG one ?_);simp only[has,if_true]
 let mark:aC:=fr.elim Value.none λf=>rawInt f
 have tF':(oT.mapFields λxs=>xs.setIfInBounds 3 mark).data=.fields (ts.setIfInBounds 3 mark):=Obj.data_mapFields tF _;refine wpAny_setField tAt tF lt3 (k _ (λb o nb q=>(Heap.get?_update_other s.heap _ (Ne.symm nb)).trans q) ?_);exact⟨oe,vs,(Heap.get?_update_other s.heap _ apart).trans at_,rfl,rfl,pG,one,apart,_,_,mark,Heap.get?_update_self _ tAt (Obj.isFreed_of_fields tF'),tF',by simp[lt3]⟩
end
theorem gq.there(x:gq P w H h a o):∃ob,h.get? a=some ob:=by
 cases o with
 |lst xs=>obtain⟨_,_,_,_,e⟩:=x;exact⟨_,e⟩
 |tup xs=>obtain⟨_,_,_,ob,e,_⟩:=x;exact⟨_,e⟩
 |dK kvs=>obtain⟨_,_,_,_,o,_,_,e,_⟩:=x;exact⟨_,e⟩
 |dT kvs=>obtain⟨_,_,_,_,o,_,_,e,_⟩:=x;exact⟨_,e⟩
 |set S n=>obtain⟨o,_,_,_,e,_⟩:=x;exact⟨_,e⟩
 |ins C dx fs=>obtain⟨_,_,_,e,_⟩:=x;exact⟨_,e⟩
 |own y=>exact x
 |xd fs=>obtain⟨_,⟨_,_,_,e,_⟩,_⟩:=x;exact⟨_,e⟩
 |rng lo hi=>obtain⟨_,_,_,e⟩:=x;exact⟨_,e⟩
 |CJ ob u=>obtain⟨e,_⟩:=x;exact⟨_,e⟩
 |wK ps=>exact⟨_,(show h.get? a=some _ from x)⟩
 |met f y=>exact⟨_,(show h.get? a=some _ from x)⟩
 |ext φ=>obtain⟨_,e,_⟩:=x;exact e
theorem vK.none_of{b:aB}(x:vK P w H h)(hb:h.get? b=none):H b=none:=by
 cases q:H b with
 |none=>rfl
 |some o =>
  obtain⟨ob,e⟩:=(x b o q).there;rw[hb]at e;cases e
def Loose(X:Cx)(pins:List (aB×Obj))(H:Hp)(b:aB):Prop := H b=none/\b≠X.env.locals/\b∉X.fs/\(b∉X.ex->X.s₀.heap.get? b=none)/\(∀x c,X.env.cells.lookup x=some c->c≠b)/\∀p∈X.pn++pins,p.1≠b
variable{pins:List (aB×Obj)}{σ:St}{H:Hp}{b:aB}
theorem Inv.jX(I:Inv X pins σ H s)(hb:s.heap.get? b=none):Loose X pins H b:=by
 refine⟨I.hok.none_of hb,λz=>?_,λz=>?_,λz=>?_,λx c e z=>?_,λp hp z=>?_⟩
 ·obtain⟨m,⟨o,_,_,ho,_⟩,_⟩:=I.loc;rw[<- z,hb]at ho;cases ho
 ·obtain⟨_,o,ho,_⟩:=I.rR.mem z;rw[hb]at ho;cases ho
 ·cases q:X.s₀.heap.get? b with
  |none=>rfl
  |some o =>
   obtain⟨o',e⟩:=I.base.there b o q z;rw[hb]at e;cases e
 ·obtain⟨v,o,ho,_⟩:=I.cell x c e;rw[z,hb]at ho;cases ho
 ·have e:=(I.pin p hp).1;rw[z,hb]at e;cases e
theorem Inv.qj{ch:List aB}(I:Inv X pins σ H s)(hch:∀b∈ch,Loose X pins H b)(keep:∀b o,b∉frs X.stack->b∉ch->s.heap.get? b=some o->h'.get? b=some o)(slot:∀b o,b∉ch->s.heap.get? b=some o->∃sl,h'.get? b=some {o with slots:=sl}):Inv X pins σ H {s with heap:=h',toks:=t'}:=by
 have neL:∀b o,X.s₀.heap.get? b=some o->b≠X.env.locals:=λb o e=>Nat.ne_of_lt (bJ (Heap.lt_size e) I.ok.above)
 have neC:∀b o,X.s₀.heap.get? b=some o->b∉X.ex->b∉ch:=λb o e hx hb=>by
  have:=(hch b hb).2.2.2.1 hx;rw[e]at this;cases this
 have stk:∀b,b≠X.env.locals->b∉X.fs->b∉frs X.stack:=λb h1 h2 hb=>(aR.mp (I.vL b hb)).elim h1 h2
 have cellK:∀x c,X.env.cells.lookup x=some c->∀v,s.heap.IsCell c v->h'.IsCell c v:=λx c e v ⟨o,ho,hd⟩=>by
  obtain⟨sl,q⟩:=slot c o (λz=>(hch c z).2.2.2.2.1 x c e rfl) ho;exact⟨_,q,hd⟩
 refine⟨I.ok,I.os,I.bare,⟨λb o e n hb hx=>?_,λb o e n hb hx=>?_,I.base.free,λb o e hx=>?_,I.base.tups,I.base.xq,I.base.xr⟩,?_,λx c e=>?_,I.free,I.kh,λp hp=>?_,λa u e=>?_,I.len⟩
 ·exact keep b o (stk b (neL b o e) hb) (neC b o e hx) (I.base.keep b o e n hb hx)
 ·obtain⟨sl,e1⟩:=I.base.slot b o e n hb hx;obtain⟨sl',e2⟩:=slot b _ (neC b o e hx) e1;exact⟨sl',e2⟩
 ·obtain⟨o',e1⟩:=I.base.there b o e hx;obtain⟨sl',e2⟩:=slot b _ (neC b o e hx) e1;exact⟨_,e2⟩
 ·obtain⟨m,⟨o,es,ep,ho,r⟩,hl⟩:=I.loc;obtain⟨sl,e⟩:=slot _ o (λz=>(hch _ z).2.1 rfl) ho;refine⟨m,⟨_,es,ep,e,r⟩,λi x v e1 e2 e3=>?_⟩;obtain⟨u,ru,l⟩:=hl i x v e1 e2 e3;refine⟨u,ru,?_⟩;rcases l with l|⟨k,c,e,z⟩
  ·exact .inl l
  ·exact .inr ⟨k,c,e,cellK x c e _ z⟩
 ·obtain⟨v,z⟩:=I.cell x c e;exact⟨v,cellK x c e v z⟩
 ·obtain⟨e,n,ne,nf,d⟩:=I.pin p hp;exact⟨keep p.1 p.2 (stk _ ne nf) (λz=>(hch _ z).2.2.2.2.2 p hp rfl) e,n,ne,nf,d⟩
 ·refine(I.hok a u e).stay (λc v hc q=>?_) (λ_ q=>q) λ_ _ q=>q
  have ht:∃z,H c=some z:=by
   rcases hc with z|z
   ·exact⟨u,by rw[z];exact e⟩
   ·exact⟨_,z⟩
  obtain⟨z,hz⟩:=ht;refine keep c v (λy=>?_) (λy=>?_) q
  ·have:=I.xQ c y;rw[hz]at this;cases this
  ·have:=(hch c y).1;rw[hz]at this;cases this
def Fly(X:Cx)(pins:List (aB×Obj))(H:Hp)(s:aW)(e:aB)(cls:aC)(dx:Option aB):Prop := ∃T,Exc s.heap e cls dx T/\Loose X pins H e/\∀t,T=some t->Loose X pins H t
def Ui(X:Cx)(pins:List (aB×Obj))(H:Hp)(s:aW)(e:aB)(cls:aC)(dx:Option aB):Prop := ∃t,Exc s.heap e cls dx (some t)/\Loose X pins H e/\Loose X pins H t
theorem Ui.fly(f:Ui X pins H s e cls dx):Fly X pins H s e cls dx:=by
 obtain⟨t,x,l1,l2⟩:=f;exact⟨some t,x,l1,λy z=>by cases z;exact l2⟩
def uh(X:Cx)(L:aB):Prop:=∃env₀ outer,X.stack=env₀::outer/\env₀.frame=some L/\X.env.frame=some L
theorem JB(I:Inv X pins σ H s)(hA:A.frames=some X.stack)(F:uh X L)(f:Fly X pins H s e cls dx)(h:∀s',Inv X pins σ H s'->Ui X pins H s' e cls dx->Q () s') : wpAny M A (noteFrame (.ref e) X.env) Q E s:=by
 obtain⟨T,x,le,lt⟩:=f;obtain⟨env₀,outer,es,hf₀,hf⟩:=F;refine Uh (base:=X.base) (by rw[hA,es]) (by rw[<- es];exact I.stack) hf₀ hf x λh' T' nt k3 x'=>?_
 have hch:∀b∈e::T.toList,Loose X pins H b:=λb hb=>by
  rcases aR.mp hb with z|z
  ·rw[z];exact le
  ·exact lt b (by simpa using z)
 have I':Inv X pins σ H {s with heap:=h',toks:=s.toks}:=I.qj (ch:=e::T.toList) hch
  (λb o hb hc q=>nt.same b o (by unfold frs at hb;rw[es]at hb;exact hb) (λz=>hc (by rw[z];exact mem_cons_self)) (λz=>hc (mem_cons_of_mem _ (by simp[z]))) q)
  (λb o hc q=>nt.upto b o (λz=>hc (by rw[z];exact mem_cons_self)) (λz=>hc (mem_cons_of_mem _ (by simp[z]))) q)
 refine h _ I' ⟨T',x',le,?_⟩;rcases k3 with z|z
 ·exact I.jX z
 ·exact lt T' z
theorem um{fr:Option aB}(I:Inv X pins σ H s)(f:Ui X pins H s e cls dx)(h:∀s',Inv X pins σ H s'->Ui X pins H s' e cls dx->Q () s') : wpAny M A (setFlight (.ref e) fr) Q E s:=by
 obtain⟨t,x,le,lt⟩:=f;refine Jz x λh' k x'=>?_
 have I':Inv X pins σ H {s with heap:=h',toks:=s.toks}:=I.qj (ch:=[t]) (λb hb=>by rw[aH.mp hb];exact lt)
  (λb o _ hc q=>k b o (λz=>hc (by rw[z];exact mem_cons_self)) q) (λb o hc q=>⟨o.slots,k b o (λz=>hc (by rw[z];exact mem_cons_self)) q⟩)
 exact h _ I' ⟨t,x',le,lt⟩
noncomputable def fY(P:cC)(w:World):Bg:=λouter H s E ev s'=>∃e cls dx H' t,ev=.ref e/\s'.os=s.os/\AllBare s'.gens/\Un (frs outer) [] H H' s.heap s'.heap/\vK P w H' s'.heap /\ Exc s'.heap e cls dx (some t)/\H' e=none/\H' t=none/\s.heap.get? e=none/\s.heap.get? t=none/\E cls dx H'
def yJ(X:Cx)(E:XK):Prop:=∀pins σ H s e cls dx,Inv X pins σ H s->Fly X pins H s e cls dx->E cls dx H->X.xe (.ref e) s
theorem dJ{E:XK}(acc:yJ X E):Passes (fY X.prog X.w) X E:=by
 intro pins σ H s ev s' I h;obtain⟨e,cls,dx,H',t,rfl,os,bare,un,hok,x,ne,nt,fe,ft,q⟩:=h;have I':Inv X pins σ H' s':=I.call' (ch:=[]) os un hok bare (λb z=>nomatch z);refine acc pins σ H' s' e cls dx I' ⟨some t,x,⟨ne,(I.jX fe).2⟩,λy z=>?_⟩ q;cases z;exact⟨nt,(I.jX ft).2⟩
theorem bB :Passes (fY P w) X (λ_ _ _=>False):=by
 intro pins σ H s ev s' I h;obtain⟨_,_,_,_,_,_,_,_,_,_,_,_,_,_,_,q⟩:=h;exact q.elim
theorem bN{E:XK}: yJ (qd (fY P w) P w K mg base N qual scope f cd A outer s H E) E:=by
 intro pins σ H' s' e cls dx I fl q
 show wpAny (model P w) _ (leaving _ (.ref e)) _ _ s'
 unfold leaving;refine aj (JB I I.ok.frames ⟨_,_,rfl,rfl,rfl⟩ fl λs1 I1 f1=>?_);refine um I1 f1 λs2 I2 f2=>?_
 obtain⟨t,x2,le,lt⟩:=f2;exact⟨e,cls,dx,H',t,rfl,I2.os,I2.bare,I2.base,I2.hok,x2,le.1,lt.1,le.2.2.2.1 (λz=>nomatch z),lt.2.2.2.1 (λz=>nomatch z),q⟩
theorem fM{E:XK}: PassesOwn (model P w) (qd CX P w K mg base N qual scope f cd A outer s H E).A (qd CX P w K mg base N qual scope f cd A outer s H E).env (qd CX P w K mg base N qual scope f cd A outer s H E).xe:=PassesOwn.leaving
theorem Ge{C:aB}{base:List aC}(q:excIn K C base new=true) : ∃dd cd up a b c d f,K.lookup C=some ⟨.type "type",dd,.cls cd,#[a,b,c,d,some (.builtin new),f]⟩/\cd.mro=.ref C::up/\cd.hasDel=false/\tailIn K base up=true/\nsOkIn K cd.ns=true/\nsIn K cd.ns "__init__"=some none:=by
 unfold excIn at q
 split at q
 ·rename_i dd cd sl look
  split at q
  ·rename_i C' up a b c d agm f mro slots
   have q':((((C'=C/\agm=new)/\cd.hasDel=false)/\tailIn K base up=true)/\nsOkIn K cd.ns=true)/\nsIn K cd.ns "__init__"=some none:=by simpa using q
   obtain⟨⟨⟨⟨⟨i1,i2⟩,i3⟩,i4⟩,i5⟩,i6⟩:=q';subst i1;subst i2;have as_array:sl=#[a,b,c,d,some (.builtin agm),f]:=Array.toList_inj.mp slots;exact⟨dd,cd,up,a,b,c,d,f,as_array ▸ look,mro,i3,i4,i5,i6⟩
  ·exact absurd q Bool.false_ne_true
 ·exact absurd q Bool.false_ne_true
theorem adg{C:aB}{base:List aC}(k:K.In h)(named:mg x=some (.ref C))(q:excIn K C base new=true):OwnCls x C base new mg h:=by
 obtain⟨dd,cd,up,a,b,c,d,f,look,mro,del,tl,ok,ini⟩:=Ge q;obtain⟨nm,bs,aq5,ns,qn,hd,sn,sub,ab,col,aq6⟩:=cd;cases mro;cases del;exact⟨named,up,ns,nm,qn,bs,hd,sn,sub,ab,col,dd,a,b,c,d,f,_,k C _ look,Heap.Ns.of_isNs (isNs_of_in k ok),PySem.W.nsMap_none_of_in k ok ini,tail_of_in k tl⟩
def adh(C:aB)(E:XK)(ta:TA):TS:=λ_ σ H=>ta σ H λvs H1=>vs.length<=sizeLine/\E (.ref C) none H1
variable{E:XK}{x:Str}{C:aB}{pos:Pos}
section
variable{bmB:List aC}{B newId initId:String}{np cpos:Pos}{e₀:Expr}{rest:List Expr}{ta:TA}
theorem iI(acc:yJ X E)(hc:X.calm=true)(hg:Gl X x)(hm:X.mg x=some (.ref C))(q:excIn X.K C bmB newId=true)(FB:ExcBaseFacts B newId initId bmB)(ha:PA X (e₀::rest) ta)(he:autoParam (starEach (e₀::rest) X.env=(false,eval e₀ X.env)::starEach rest X.env) zau0)(hpl:autoParam ((backTo cpos (starEach rest X.env)).any (·.1)=false) zau0)(hdb:autoParam ((x == ("__debug__":Str))=false) zau1) : PS X (.Raise (some (.Call (.Name x np) (e₀::rest) [] cpos)) none pos) (adh C E ta):=by
 intro pins s σ H D I h;obtain⟨tl,N,nm,qn,bs,hdct,sn,sub,ab,col,dd,k0,k1,k2,k3,k5,mN,hC,hN,hni,T⟩:=(adg (mg:=X.mg) I.mod.Fq hm q).obj;refine wpAny_Raise_call_subT (C:=C) (nm:=nm) (q:=qn) (N:=N) (bs:=bs) (bm:=tl) (hdct:=hdct) (sn:=sn) (sub:=sub) (ab:=ab) (col:=col) (dd:=dd) (k0:=k0) (k1:=k1) (k2:=k2) (k3:=k3) (k5:=k5) FB (mN:=mN) (T.hasType FB.hasBase) (I.ok.hd hc) (by rw[he];show(false||(backTo cpos (starEach rest X.env)).any (·.1))=false;rw[hpl];rfl) hni (lK I hg hm ⟨rfl,?_⟩ hdb);have hA:=ha cpos pins s σ H _ I h;rw[he]at hA⊢;refine Calls.evalArgs_plain (f9 hA λus s2 h2=>?_);obtain⟨vs,H1,I1,rv,hz,hE⟩:=h2;refine⟨rfl,by rw[<- rv.length];exact hz,I1.bk _ _ hC,hN.keeps I1.bk,T.keeps I1.bk,λh' e hm'=>?_⟩;have I2:Inv X pins σ H1 {s2 with heap:=h'}:=I1.kept (t':=s2.toks) hm'.keeps;obtain⟨t,hte,_,_⟩:=hm'.there;refine acc pins σ H1 _ e (.ref C) none I2 ⟨none,⟨_,_,hte,rfl,rfl,rfl,rfl⟩,I1.jX hm'.new,λ_ z=>nomatch z⟩ hE
end
def Df(e:aB)(cls:aC)(dx:Option aB):HO:=.ext λh=>∃oe vs,h.get? e=some oe/\oe.cls=cls/\oe.dict=dx/\oe.data=.fields vs
def blank(n:Nat):St:=List.replicate n none
theorem Uj{n i:Nat}:¬(blank n)[i]?=some (some v):=by
 unfold blank;rw[List.getElem?_replicate]
 split<;>intro h<;>cases h
theorem Inv.adopt(I:Inv X pins σ H s)(l:Loose X pins H b)(hx:b∉X.ex)(new:gq X.prog X.w (upd H b o) s.heap b o):Inv X pins σ (upd H b o) s:=by
 have h0:=l.2.2.2.1 hx;have ne:∀c u,H c=some u->c≠b:=λc u e z=>by rw[z,l.1]at e;cases e
 refine⟨I.ok,I.os,I.bare,⟨I.base.keep,I.base.slot,λc u e n hxc=>?_,I.base.there,λc xs e=>?_,λc u xs e=>?_,λc ps e=>?_⟩,I.loc,I.cell,?_,λx c e=>?_,λp hp=>?_,λc u e=>?_,I.len⟩
 ·rw[bf (λz=>by rw[z,h0]at e;cases e)];exact I.base.free c u e n hxc
 ·have q:=I.base.tups c xs e;rw[bf (ne _ _ q)];exact q
 ·have q:=I.base.xq c u xs e;rw[bf (ne _ _ q)];exact q
 ·obtain⟨m,q⟩:=I.base.xr c ps e;exact⟨m,by rw[bf (ne _ _ q)];exact q⟩
 ·rw[bf (Ne.symm l.2.1)];exact I.free
 ·rw[bf (l.2.2.2.2.1 x c e)];exact I.kh x c e
 ·obtain⟨e,n,r⟩:=I.pin p hp;exact⟨e,by rw[bf (l.2.2.2.2.2 p hp)];exact n,r⟩
 ·by_cases z:c=b
  ·subst z;rw[aF]at e;cases e;exact new
  ·rw[bf z]at e;exact(I.hok c u e).stay (λ_ _ _ q=>q) (λd q=>by rw[bf (ne _ _ q)];exact q) λd xs q=>by rw[bf (ne _ _ q)];exact q
theorem Inv.Uk{m':Str->Option aC}(I:Inv X pins σ H s)(hn:h'.Ns X.env.locals m')(sb:Heap.SameBut X.env.locals s.heap h'):Inv X pins (blank X.N.length) H {s with heap:=h',toks:=t'}:=by
 obtain⟨m,⟨oL,_,_,hoL,_⟩,_⟩:=id I.loc;have neL:∀b o,X.s₀.heap.get? b=some o->b≠X.env.locals:=λb o e=>Nat.ne_of_lt (bJ (Heap.lt_size e) I.ok.above)
 have k:∀b o,b≠X.env.locals->s.heap.get? b=some o->h'.get? b=some o:=λb o ne e=>(sb.2 b ne).trans e
 refine⟨I.ok,I.os,I.bare,⟨λb o e n hb hx=>?_,λb o e n hb hx=>?_,I.base.free,λb o e hx=>?_,I.base.tups,I.base.xq,I.base.xr⟩,⟨m',hn,λi x v _ e2 _=>absurd e2 Uj⟩,λx c e=>?_,I.free,I.kh,λp hp=>?_,λa u e=>?_,by simp[blank]⟩
 ·exact k b o (neL b o e) (I.base.keep b o e n hb hx)
 ·obtain⟨sl,e1⟩:=I.base.slot b o e n hb hx;exact⟨sl,k b _ (neL b o e) e1⟩
 ·obtain⟨o',e1⟩:=I.base.there b o e hx;exact⟨o',k b _ (neL b o e) e1⟩
 ·obtain⟨v,o,ho,hd⟩:=I.cell x c e;exact⟨v,o,k c o (I.cne x c e) ho,hd⟩
 ·obtain⟨e,n,ne,nf,d⟩:=I.pin p hp;exact⟨k p.1 p.2 ne e,n,ne,nf,d⟩
 ·refine(I.hok a u e).stay (λc v hc q=>k c v (λz=>?_) q) (λ_ q=>q) λ_ _ q=>q
  have hf:=I.free;rw[<- z]at hf;rcases hc with y|y
  ·rw[y,e]at hf;cases hf
  ·rw[y]at hf;cases hf
abbrev Cx.Ag(X:Cx)(E':aC->aW->Prop)(rH:List (aB×Obj)):Cx:={X with xe:=E',pn:=rH}
abbrev Cx.hand(X:Cx)(e:aB):Cx:={X with A:=X.A.mark (some (.ref e)),calm:=false,xe:=λ_ _=>False}
variable{rH:List (aB×Obj)}{E':aC->aW->Prop}
theorem Inv.Ag(I:Inv X pins σ H s)(E':aC->aW->Prop):Inv (X.Ag E' (X.pn++pins)) [] σ H s := ⟨⟨I.ok.mod,I.ok.kind,I.ok.glob,I.ok.blt,I.ok.above,I.ok.inj,I.ok.has,I.ok.cab,I.ok.hd,I.ok.frames,I.ok.stk,I.ok.exf,I.ok.bs,I.ok.Pr,I.ok.Pu,I.ok.TJ,I.ok.rR,I.ok.Y9⟩,I.os,I.bare,I.base,I.loc,I.cell,I.free,I.kh,λp hp=>I.pin p (by simpa using hp),I.hok,I.len⟩
theorem Inv.Dg(ok:X.Ok)(I:Inv (X.Ag E' (X.pn++pins)) pP σ H s):Inv X pins σ H s := ⟨ok,I.os,I.bare,I.base,I.loc,I.cell,I.free,I.kh,λp hp=>I.pin p (mem_append_left _ hp),I.hok,I.len⟩
theorem Inv.hand(I:Inv X pins σ H s)(e:aB):Inv (X.hand e) pins σ H s := ⟨⟨I.ok.mod,I.ok.kind,I.ok.glob,I.ok.blt,I.ok.above,I.ok.inj,I.ok.has,I.ok.cab,(λz=>nomatch z),I.ok.frames,I.ok.stk,I.ok.exf,I.ok.bs,I.ok.Pr,I.ok.Pu,I.ok.TJ,I.ok.rR,I.ok.Y9⟩,I.os,I.bare,I.base,I.loc,I.cell,I.free,I.kh,I.pin,I.hok,I.len⟩
theorem Inv.adi(ok:X.Ok)(I:Inv (X.hand e) pins σ H s):Inv X pins σ H s := ⟨ok,I.os,I.bare,I.base,I.loc,I.cell,I.free,I.kh,I.pin,I.hok,I.len⟩
def jB(cap:List (Option Nat))(σ:St):St:=cap.map λo=>o.bind λj=>(σ[j]?).join
noncomputable abbrev jx(X:Cx)(scope:Scope)(cl:List (Str×aB))(N':List Str)(s₀:aW)(H₀:Hp)(fp:List aB)(rH:List (aB×Obj))(E':aC->aW->Prop):Cx := {X with N:=N',s₀:=s₀,H₀:=H₀,env:=compEnvC scope cl s₀.heap.objs.size X.env,outer:=X.stack,ex:=fp,fn:=λ_=>false,pn:=rH,xe:=E'}
structure gY(X:Cx)(scope:Scope)(cl:List (Str×aB))(N':List Str)(cap:List (Option Nat)):Prop where
 kind:scope.kind=.function
 ql:∀y∈scope.names,y.2≠.cell
 names:∀y∈scope.names,y.2=.local->scope.names.lookup y.1=some .local
 clos:closureFor scope X.env=pure cl
 sub:∀n c,cl.lookup n=some c->X.env.cells.lookup n=some c
 has:∀n,((relabel scope X.env).names.lookup n=some .cell\/(relabel scope X.env).names.lookup n=some .free)->∃c,cl.lookup n=some c
 len:cap.length=N'.length
 adk:∀(i j:Nat)(x:Str),cap[i]?=some (some j)->N'[i]?=some x->X.N[j]?=some x/\X.env.scope.names.lookup x=some .cell/\(relabel scope X.env).names.lookup x=some .cell
theorem gY.plain(kind:scope.kind=.function)(names:∀y∈scope.names,y.2=.local\/y.2=.globalImplicit)(look:∀y∈scope.names,y.2=.local->scope.names.lookup y.1=some .local) : gY X scope [] N' (List.replicate N'.length none):=by
 have nf:∀y∈scope.names,y.2≠.free:=λy hy z=>by rcases names y hy with q|q<;>rw[q]at z<;>cases z
 have same:(relabel scope X.env).names=scope.names:=by
  unfold relabel;refine map_eq_self λy hy=>?_
  obtain⟨n,k⟩:=y;have:(k == NameKind.free)=false:=by simpa using nf _ hy
  simp[this]
 refine⟨kind,λy hy z=>?_,look,closureFor_none nf,λn c h=>?_,λn h=>?_,by simp,λi j x h=>?_⟩
 ·rcases names y hy with q|q<;>rw[q]at z<;>cases z
 ·simp at h
 ·rw[same]at h;rcases h with h|h
  ·have:=names _ (PySem.mem_of_lookup h);simp at this
  ·have:=names _ (PySem.mem_of_lookup h);simp at this
 ·rw[List.getElem?_replicate]at h
  split at h<;>simp at h
variable{scope:Scope}{cl:List (Str×aB)}{N':List Str}{cap:List (Option Nat)}
section
variable{fp:List aB}
theorem Zu(I:Inv X pins σ H s)(O:gY X scope cl N' cap)(hf:∀b∈fp,nM X pins H b)(hlt:∀b∈fp,b<s.heap.objs.size):(jx X scope cl N' s H fp rH E').Ok:=by
 refine⟨I.ok.mod,O.kind,I.ok.glob,I.ok.blt,aO _,λx y c h1 h2=>I.ok.inj x y c (O.sub _ _ h1) (O.sub _ _ h2),λx hx=>O.has x hx,(λx c h=>nomatch h),I.ok.hd,I.ok.frames,.inl rfl,λb hb=>⟨Nat.ne_of_lt (hlt b hb),λx c e=>(hf b hb).2.2.2.2.1 x c (O.sub _ _ e)⟩,I.bs,bx I.ok.Pr I.sz,λb o e hb=>?_,λb hb z=>?_,I.stack,I.xQ⟩
 ·rcases (hf b hb).2.2.2.1 with z|z
  ·exact I.ok.Pu b o e z
  ·exact absurd (bJ (Heap.lt_size e) (bx I.ok.Pr z)) (dH _)
 ·exact(aR.mp (I.vL b z)).elim (λy=>(hf b hb).2.1 y) λy=>(hf b hb).2.2.1 y
theorem Ul{m':Str->Option aC}(I:Inv X pins σ H s)(O:gY X scope cl N' cap)(hf:∀b∈fp,nM X pins H b)(hlt:∀b∈fp,b<s.heap.objs.size)(hn:h'.Ns s.heap.objs.size m')(hk:∀b o,s.heap.get? b=some o->h'.get? b=some o) : Inv (jx X scope cl N' s H fp (X.pn++pins) E') [] (jB cap σ) H {s with heap:=h',toks:=t'}:=by
 refine⟨Zu I O hf hlt,rfl,I.bare,Un.kept hk,⟨m',hn,λi x v e1 e2 e3=>?_⟩,λx c e=>?_,I.hok.fresh (aO _),λx c e=>I.kh x c (O.sub _ _ e),λp hp=>?_,I.hok.kept hk,?_⟩
 ·unfold jB at e2;rw[aJ]at e2;cases q:cap[i]? with
  |none=>rw[q]at e2;cases e2
  |some o =>
   rw[q]at e2;cases o with
   |none=>cases e2
   |some j =>
    have e2':(σ[j]?).join=some v:=by simpa using e2
    have e4:σ[j]?=some (some v):=by
     cases z:σ[j]? with
     |none=>rw[z]at e2';cases e2'
     |some y=>rw[z]at e2';simp at e2';rw[e2']
    obtain⟨h1,h2,h3⟩:=O.adk i j x q e1;obtain⟨m,_,hl⟩:=I.loc;obtain⟨u,ru,l⟩:=hl j x v h1 e4 (.inr (.inl h2));rcases l with ⟨l,_⟩|⟨_,c,l,z⟩
    ·have l':X.env.scope.names.lookup x=some .local:=l;rw[h2]at l';cases l'
    ·obtain⟨c',hc'⟩:=O.has x (.inl h3);have:=O.sub _ _ hc';rw[l]at this;cases this;exact⟨u,ru,.inr ⟨.inl h3,c,hc',z.keeps hk⟩⟩
 ·obtain⟨v,z⟩:=I.cell x c (O.sub _ _ e);exact⟨v,z.keeps hk⟩
 ·obtain⟨e,n,ne,nf,d⟩:=I.pin p (by simpa using hp);refine⟨hk _ _ e,n,Nat.ne_of_lt (Heap.lt_size e),λz=>?_,d⟩;exact(aR.mp (I.vL _ z)).elim ne nf
 ·simp[jB,O.len]
theorem comp_back{σ':St}(I:Inv X pins σ H s)(hf:∀b∈fp,nM X pins H b)(J:Inv (jx X scope cl N' s H fp rH E') pP σ' H' s'):Inv X pins σ H' s' := I.call' (ch:=fp) J.os J.base J.hok J.bare λb hb=>⟨(hf b hb).2.2.2.1,(hf b hb).2.1,(hf b hb).2.2.2.2.1,(hf b hb).2.2.2.2.2⟩
end
abbrev Gf(ifs:List Expr)(env:Env):Sem Bool := forIn ifs true λc r=>if r=true then do let ok <- isTrue c env (eval c env);pure (ForInStep.yield ok) else pure (ForInStep.yield r)
variable{prog:cC}{elt target iter:Expr}{ifs:List Expr}
section
variable{R:Result->aW->Prop}{it acc:aC}
abbrev sY(prog:cC)(w:World)(A:eE)(env:Env)(R:Result->aW->Prop):aC->aW->Prop:=notedBy (model prog w) A env λx s'=>R (.error x) s'
noncomputable abbrev turnOf(prog:cC)(w:World)(A:eE)(env:Env)(R:Result->aW->Prop)(target elt:Expr)(ifs:List Expr)(it acc:aC)(J:Nat->aW->Prop)(n:Nat):Option aC->aW->Prop
 |none,s₁=>R (.ok .next) s₁
 |some v,s₁=>wpAny (model prog w) A (letOwnedTupleGo target it v) (λ_ a=>wpAny (model prog w) A (assign target env v) (λ_ b=>wpAny (model prog w) A (Gf ifs env) (λok c =>
  if ok=true then wpAny (model prog w) A (eval elt env) (λy d=>wpAny (model prog w) A (call (.builtin "list.append") [acc,y]) (λ_ z=>∃m,m<n/\J m z) (sY prog w A env R) d) (sY prog w A env R) c
  else ∃m,m<n/\J m c) (sY prog w A env R) b) (sY prog w A env R) a) (sY prog w A env R) s₁
theorem Dh(J:Nat->aW->Prop)(go:∀n s,J n s->wpAny (model prog w) A (pyNext it) (turnOf prog w A env R target elt ifs it acc J n) (sY prog w A env R) s)(n:Nat)(h:J n s) : codeAny (model prog w) A (.compLoop (.ListComp elt [⟨target,iter,ifs,0⟩] scope pos) 0 it acc env) R s := codeAny_loop rfl J (λm a ha=>wpAny_noted (by
 rw[compTurn_list];refine aj (wpAny_standAt (aj (f9 (go m a ha) λr b hb=>?_)))
 match r,hb with
 |none,hb=>exact au hb
 |some v,hb =>
  refine aj (f9 hb λ_ c hc=>aj (f9 hc λ_ d hd=>aj (f9 hd λok f hf=>?_)))
  match ok,hf with
  |false,hf=>exact au ⟨rfl,hf⟩
  |true,hf=>exact aj (aj (f9 hf λy g hg=>aj (f9 hg λ_ z hz=>au (au ⟨rfl,hz⟩)))))) n h
end
noncomputable def PTs(X:Cx)(ifs:List Expr)(t:TT):Prop := ∀(pins:List (aB×Obj))(s:aW)(σ:St)(H:Hp)(Q:Bool->Hp->Prop),Inv X pins σ H s->t σ H Q -> wpAny (model X.prog X.w) X.A (Gf ifs X.env) (TP X pins σ Q) X.xe s
def Di:TT:=λ_ H Q=>Q true H
theorem gM :PTs X [] Di:=λ_ _ _ H _ I h=>wpAny_tests_nil ⟨H,I,h⟩
theorem mZ(h:PT X c t):PTs X [c] t:=λpins s σ H Q I hw=>wpAny_tests_one (h pins s σ H Q I hw)
def nU(σ0 σ2:St):Prop:=∀(j:Nat) v,σ0[j]?=some (some v)->σ2[j]?=some (some v)
theorem Gg{n j:Nat}:¬(jB (List.replicate n none) σ)[j]?=some (some v):=by
 unfold jB;rw[aJ,List.getElem?_replicate]
 split<;>intro h<;>simp at h
theorem gD :nU (jB (List.replicate n none) σ) σ2:=λ_ _ h=>absurd h Gg
noncomputable def qm(D:aB)(J:It)(σ0:St)(g:TG)(tc:TT)(te:TE)(Qe:Hp->Prop)(W:Nat->Nat->List V->Hp->Prop):Prop := ∀i m acc H',W i m acc H'->H' D=some (.lst acc)/\((J.stop i H'/\Qe H')\/(J.go i H'/\acc.length<sizeLine /\ ∀x sZ,J.Jm i H' x sZ->g x σ0 sZ λσ2 H2=>nU σ0 σ2/\tc σ2 H2 λb H3=>if b=true then te σ2 H3 λy H4=>H4 D=some (.lst acc)/\∃m',m'<m/\W (i+1) m' (acc++[y]) (upd H4 D (.lst (acc++[y])))
 else ∃m',m'<m/\W (i+1) m' acc H3))
noncomputable def abM(cap:List (Option Nat))(wi:TI)(g:TG)(tc:TT)(te:TE):TE:=λσ H Q=>wi σ H λJ H1=>∀D,H1 D=none -> ∃W:Nat->Nat->List V->Hp->Prop,(∃m,W 0 m [] (upd H1 D (.lst [])))/\qm D J (jB cap σ) g tc te (Q (.ref D)) W
section
variable{wi:TI}{g:TG}{tc:TT}{te:TE}
theorem yK{Qe:aB->Hp->Prop}{E₀:aC->aW->Prop}{RR:aC->aB->Result->aW->Prop}(acc:yJ X E)(hc:X.calm=true)(F:uh X L)(O:gY X scope cl N' cap)(hg:∀s₀ H₀ fp rH E',PG (jx X scope cl N' s₀ H₀ fp rH E') target g)(ht:∀s₀ H₀ fp rH E',PTs (jx X scope cl N' s₀ H₀ fp rH E') ifs tc)(he:∀s₀ H₀ fp rH E',yJ (jx X scope cl N' s₀ H₀ fp rH E') E->PE (jx X scope cl N' s₀ H₀ fp rH E') elt te)(I2:Inv X pins σ H2 s2)(T:Turn X.prog X.w X.K target J fp it tn)(st2:tn 0 s2.heap)(f2:∀b∈fp,nM X pins H2 b)(hq:∀D,H2 D=none->∃W:Nat->Nat->List V->Hp->Prop,(∃m,W 0 m [] (upd H2 D (.lst [])))/\qm D J (jB cap σ) g tc te (Qe D) W)(hok:∀D C s',(∃m,s'.heap.Ns C m)->Loose X pins (λ_=>none) C->(∃H',Inv X pins σ H' s'/\H' C=none/\Qe D H')->RR (.ref D) C (.ok .next) s')(akD:∀D C x s',(∃m,s'.heap.Ns C m)->(∀h',Heap.SameBut C s'.heap h'->∀cenv:Env,cenv.locals=C->wpAny (model X.prog X.w) X.A (passOn "comprehension.variables-let-go" x cenv:Sem aC) (λ_ _=>False) X.xe {s' with heap:=h'})->RR (.ref D) C (.error x) s') :
  wpAny (model X.prog X.w) X.A (newList []) (λQd s₃=>wpAny (model X.prog X.w) X.A (newFunctionEnv scope X.env.globals cl [] X.env.qual none .none (some X.env)) (λcenv s₄ =>
   codeAny (model X.prog X.w) X.A (.compStart (.ListComp elt [⟨target,iter,ifs,0⟩] scope pos) 0 (.ref it) Qd {cenv with scope:=relabel scope X.env}) (RR Qd cenv.locals) s₄) E₀ s₃) E₀ s2:=by
 refine wpAny_newObj_type ?_;obtain⟨W,⟨m0,w0⟩,turn⟩:=hq s2.heap.objs.size (I2.hok.fresh (aO _));have I3:Inv X pins σ (upd H2 s2.heap.objs.size (.lst [])) {s2 with heap:=s2.heap.push {cls:=.type "list",dict:=none,data:=.seq ([]:List aC).toArray} }:=
  I2.laid (t':=s2.toks) (λb u e=>aq _ e) (aO _) ⟨dG _,[],_,.nil,aN _ rfl⟩
 have hfD:∀b∈fp,b≠s2.heap.objs.size:=λb hb z=>by
  obtain⟨o,e,_⟩:=T.obj 0 _ st2 b hb;exact absurd (Heap.lt_size e) (by rw[z];exact dH _)
 generalize hs3:({s2 with heap:=s2.heap.push {cls:=.type "list",dict:=none,data:=.seq ([]:List aC).toArray} }:aW)=s3 at I3⊢;have k23:∀b o,s2.heap.get? b=some o->s3.heap.get? b=some o:=λb o e=>by rw[<- hs3];exact aq _ e
 have f3:∀b∈fp,nM X pins (upd H2 s2.heap.objs.size (.lst [])) b:=λb hb=>⟨by rw[bf (hfD b hb)];exact(f2 b hb).1,(f2 b hb).2⟩
 have hlt:∀b∈fp,b<s3.heap.objs.size:=λb hb=>by
  obtain⟨o,e,_⟩:=T.obj 0 _ st2 b hb;exact Heap.lt_size (k23 b o e)
 have st3:tn 0 s3.heap:=T.keep 0 _ _ st2 λb _ o e=>k23 b o e
 refine wpAny_newFunctionEnv O.ql (λx hx=>nomatch hx) (λh' hns hsb=>?_) O.kind;have k34:∀b o,s3.heap.get? b=some o->h'.get? b=some o:=λb o e=>(hsb.2 b (Nat.ne_of_lt (Heap.lt_size e))).trans (aq _ e)
 have lC:Loose X pins (upd H2 s2.heap.objs.size (.lst [])) s3.heap.objs.size:=I3.jX (Heap.get?_none_of_le (aO _));have lC0:Loose X pins (λ_=>none) s3.heap.objs.size:=⟨rfl,lC.2⟩
 let NE:aC->aW->Prop:=sY X.prog X.w X.A (compEnvC scope cl s3.heap.objs.size X.env) (RR (.ref s2.heap.objs.size) s3.heap.objs.size)
 let Y0:Cx:=jx X scope cl N' s3 (upd H2 s2.heap.objs.size (.lst [])) fp (X.pn++pins) NE
 have I4:∀t',Inv Y0 [] (jB cap σ) (upd H2 s2.heap.objs.size (.lst [])) {s3 with heap:=h',toks:=t'}:=λt'=>Ul I3 O f3 hlt hns k34
 have loop:∀s4:aW,Inv Y0 [] (jB cap σ) (upd H2 s2.heap.objs.size (.lst [])) s4->tn 0 s4.heap ->
   codeAny (model X.prog X.w) X.A (.compLoop (.ListComp elt [⟨target,iter,ifs,0⟩] scope pos) 0 (.ref it) (.ref s2.heap.objs.size) (compEnvC scope cl s3.heap.objs.size X.env)) (RR (.ref s2.heap.objs.size) s3.heap.objs.size) s4:=by
  intro s4 I4 st4;have stat:∀{H':Hp},(∀b∈fp,H' b=none)->∀b∈fp,nM Y0 [] H' b:=fun{H'} hn b hb =>
   ⟨hn b hb,Nat.ne_of_lt (hlt b hb),λz=>(aR.mp (I3.vL b z)).elim (λy=>(f3 b hb).2.1 y) λy=>(f3 b hb).2.2.1 y,.inl hb,λx c e=>(f3 b hb).2.2.2.2.1 x c (O.sub _ _ e),λp hp=>(f3 b hb).2.2.2.2.2 p (by have q:p∈(X.pn++pins)++[]:=hp;simpa using q)⟩
  refine Dh (λn s'=>∃i ac H',Inv Y0 [] (jB cap σ) H' s'/\tn i s'.heap/\(∀b∈fp,H' b=none)/\W i n ac H') ?_ m0 ⟨0,[],_,I4,st4,λb hb=>(f3 b hb).1,w0⟩;rintro n s5 ⟨i,ac,H5,I5,Tg,fr5,w5⟩;obtain⟨hD5,alt⟩:=turn i n ac H5 w5;rcases alt with ⟨stop,qe⟩|⟨go,hsz,step⟩
  ·refine f9 (T.done Y0 rfl rfl rfl hc i [] s5 _ H5 NE I5 (stat fr5) Tg stop) λr s6 ⟨hr,I6⟩=>?_
   subst hr;obtain⟨m,hn,_⟩:=I6.loc;exact hok _ _ s6 ⟨m,hn⟩ lC0 ⟨H5,comp_back I3 f3 I6,I6.free,qe⟩
  ·refine f9 (T.item Y0 rfl rfl rfl hc i [] s5 _ H5 NE I5 (stat fr5) Tg go) λr s6 ⟨u,hr,h6⟩=>?_
   subst hr;refine f9 h6 λ_ s7 ⟨x,H7,I7,r7,y7,st7,fr7⟩=>?_
   have I7p:=I7.pinned (stat fr7) (T.obj _ _ st7);have I7t:=I7p.Ag NE
   let Y1:Cx:=jx X scope cl N' s3 (upd H2 s2.heap.objs.size (.lst [])) fp ((X.pn++pins)++([]++pX fp s7.heap)) NE
   have I7y:Inv Y1 [] (jB cap σ) H7 s7:=I7t;have ac1:yJ Y1 E:=by
    intro pP σ' H' s' e cls dx I' fl q;have nfp:e∉fp/\∀t,Loose Y1 pP H' t->t∉fp:=by
     have nn:∀t,Loose Y1 pP H' t->t∉fp:=λt l hb=>by
      obtain⟨o,eo,_⟩:=T.obj _ _ st7 t hb;exact l.2.2.2.2.2 (t,o) (mem_append_left _ (mem_append_right _ (mem_append_right _ (kJ hb eo)))) rfl
     obtain⟨_,_,l,_⟩:=fl;exact⟨nn e l,nn⟩
    show wpAny (model X.prog X.w) X.A (noteFrame (.ref e) _) _ _ s'
    obtain⟨env₀,outer,es,hf₀,hf⟩:=F;refine JB (X:=Y1) I' I'.ok.frames ⟨env₀,outer,es,hf₀,hf⟩ fl λs8 I8 f8=>?_
    obtain⟨t8,x8,le8,lt8⟩:=f8;obtain⟨m,hn8,_⟩:=id I8.loc;refine akD _ _ _ s8 ⟨m,hn8⟩ λh' sb cenv hcl=>?_
    have J8:Inv X pins σ H' s8:=comp_back I3 f3 I8;have lX:∀b,Loose Y1 pP H' b->Loose X pins H' b:=λb l=>⟨l.1,(I3.jX (l.2.2.2.1 (nfp.2 b l))).2⟩
    have nC:∀b,Loose Y1 pP H' b->b≠s3.heap.objs.size:=λb l=>l.2.1
    have J9:Inv X pins σ H' {s8 with heap:=h'}:=J8.qj (t':=s8.toks) (ch:=[s3.heap.objs.size]) (λb hb=>by rw[aH.mp hb];exact⟨I8.free,lC.2⟩)
     (λb o _ hc' z=>(sb.2 b λy=>hc' (by rw[y];exact mem_cons_self)).trans z) (λb o hc' z=>⟨o.slots,(sb.2 b λy=>hc' (by rw[y];exact mem_cons_self)).trans z⟩)
    have x9:Exc h' e cls dx (some t8):=x8.keeps λb o hb z=>(sb.2 b (by
     rcases hb with y|y
     ·rw[y];exact nC e le8
     ·cases y;exact nC _ lt8)).trans z
    unfold PySem.passOn;obtain⟨oe,vs,he9,hc9,hd9,hv9,h19,_⟩:=id x9;refine aj (wpAny_field he9 hv9 h19 ?_);rw[if_neg (by simp)];refine aj (um (X:=X) J9 ⟨t8,x9,lX _ le8,lX _ lt8⟩ λMu I10 f10=>?_);exact wpAny_throw (acc pins σ H' Mu e cls dx I10 f10.fly q)
   refine f9 (hg s3 _ fp _ NE [] s7 _ H7 x u _ I7y r7 (step x H7 y7)) λ_ s8 ⟨σ8,H8,I8,kp8,q8⟩=>?_
   refine f9 (ht s3 _ fp _ NE [] s8 σ8 H8 _ I8 q8) λok s9 ⟨H9,I9,q9⟩=>?_
   have again:∀{H':Hp}{s':aW}{ac':List V},Inv Y1 [] σ8 H' s'->(∃m',m'<n/\W (i+1) m' ac' H') ->
     ∃m,m<n/\∃i ac H',Inv Y0 [] (jB cap σ) H' s'/\tn i s'.heap/\(∀b∈fp,H' b=none)/\W i m ac H':=fun{H' s' ac'} I' ⟨m',hm,w'⟩=>by
    have I0:Inv Y0 ([]++pX fp s7.heap) σ8 H' s':=Inv.Dg (X:=Y0) (pins:=[]++pX fp s7.heap) I5.ok I';have ago:∀b∈fp,∀o,s7.heap.get? b=some o->s'.heap.get? b=some o/\H' b=none:=λb hb o e=>by
     have z:=I0.pin (b,o) (mem_append_right _ (mem_append_right _ (kJ hb e)));exact⟨z.1,z.2.1⟩
    refine⟨m',hm,i+1,ac',H',(Inv.nO (pins:=[]) (pl:=pX fp s7.heap) I0).weak (by rw[I0.len];show _=N'.length;simp[jB,O.len]) kp8,T.keep _ _ _ st7 λb hb o e=>(ago b hb o e).1,λb hb=>?_,w'⟩;obtain⟨o,e,_⟩:=T.obj _ _ st7 b hb;exact(ago b hb o e).2
   cases ok with
   |false =>
    rw[if_neg Bool.false_ne_true]at q9⊢;exact again I9 q9
   |true =>
    rw[if_pos rfl]at q9⊢;refine f9 (he s3 _ fp _ NE ac1 [] s9 σ8 H9 _ I9 q9) λyv Mu ⟨y,H10,I10,r10,akG,q10⟩=>?_
    refine f9 (iu (X:=Y1) [] Mu σ8 H10 (.ref s2.heap.objs.size) [y] (.ref s2.heap.objs.size) [yv] (λ_ H'=>H'=upd H10 s2.heap.objs.size (.lst (ac++[y]))) I10 rfl (.cons r10 .nil) ⟨_,ac,y,rfl,rfl,akG,hsz,rfl⟩) λ_ Um ⟨_,H11,I11,_,e11⟩=>?_
    subst e11;exact again I11 q10
 have adl:tn 0 h':=T.keep 0 _ _ st3 λb _ o e=>k34 b o e
 exact codeAny_compStart_list (loop _ (I4 _) adl) (T.self _ 0 _ _ _ adl (loop _ (I4 _) adl))
theorem gG(acc:yJ X E)(hc:X.calm=true)(F:uh X L)(O:gY X scope cl N' cap)(hi:PI X target iter wi)(hg:∀s₀ H₀ fp rH E',PG (jx X scope cl N' s₀ H₀ fp rH E') target g)(ht:∀s₀ H₀ fp rH E',PTs (jx X scope cl N' s₀ H₀ fp rH E') ifs tc)(he:∀s₀ H₀ fp rH E',yJ (jx X scope cl N' s₀ H₀ fp rH E') E->PE (jx X scope cl N' s₀ H₀ fp rH E') elt te)(hs:autoParam (∀x,foldedSetIterable iter X.env x=pure x) zau3):PE X (.ListComp elt [⟨target,iter,ifs,0⟩] scope pos) (abM cap wi g tc te):=by
 intro pins s σ H Q I h;rw[eval_ListComp];refine wpAny_comprehension_free (use:=none) rfl hs O.clos O.kind O.names (f9 (hi pins s σ H _ I h) λxv s₁ h₁=>f9 h₁ λitv s₂ h₂=>?_);obtain⟨it,fp,tn,J,H2,e,I2,T,st2,f2,q⟩:=h₂;subst e;refine yK (RR:=λQd C=>compPost (model X.prog X.w) X.A X.xe none (EP X pins σ Q) Qd C) (Qe:=λD=>Q (.ref D)) acc hc F O hg ht he I2 T st2 f2 q ?_ ?_
 ·rintro D C s' ⟨m,hn⟩ lC ⟨H',I',hC,q'⟩;refine⟨m,hn,λh' sb=>⟨.ref D,H',I'.qj (t':=s'.toks) (ch:=[C]) (λb hb=>by rw[aH.mp hb];exact⟨hC,lC.2⟩) (λb o _ hc' z=>(sb.2 b λy=>hc' (by rw[y];exact mem_cons_self)).trans z) (λb o hc' z=>⟨o.slots,(sb.2 b λy=>hc' (by rw[y];exact mem_cons_self)).trans z⟩),rfl,q'⟩⟩
 ·rintro D C x s' ⟨m,hn⟩ k;exact⟨m,hn,k⟩
theorem oE(hN:X.N.Nodup)(hi':X.N[i]?=some y)(hx:Loc X.env.scope y)(acc:yJ X E)(hc:X.calm=true)(F:uh X L)(O:gY X scope cl N' cap)(hi:PI X target iter wi)(hg:∀s₀ H₀ fp rH E',PG (jx X scope cl N' s₀ H₀ fp rH E') target g)(ht:∀s₀ H₀ fp rH E',PTs (jx X scope cl N' s₀ H₀ fp rH E') ifs tc)(he:∀s₀ H₀ fp rH E',yJ (jx X scope cl N' s₀ H₀ fp rH E') E->PE (jx X scope cl N' s₀ H₀ fp rH E') elt te)(hsw:autoParam (swapsWith (.ListComp elt [⟨target,iter,ifs,0⟩] scope pos) (some (.Name y py)) spos.line X.env=pure true) zau0)(hs:autoParam (∀x,foldedSetIterable iter X.env x=pure x) zau3)(hf:autoParam (X.fn y=true\/X.env.scope.names.lookup y=some .local) zau2) : PS X (.Assign [.Name y py] (.ListComp elt [⟨target,iter,ifs,0⟩] scope pos) spos) (Zd (abM cap wi g tc te) (yw i)):=by
 intro pins s σ H D I h;rw[exec_Assign_Name_used y py _ spos hsw];refine aj (wpAny_standAt ?_);refine aj ?_
 show wpAny _ X.A (do let _ <- comprehension (.ListComp elt [⟨target,iter,ifs,0⟩] scope pos) scope X.env _ (newList []) false (eval iter X.env) (some (assign (.Name y py) X.env))) _ _ s
 refine aj (cW (wpAny_comprehension_free (use:=some (assign (.Name y py) X.env)) (Q:=λ_ s'=>SP X pins D .next s') rfl hs O.clos O.kind O.names (f9 (hi pins s σ H _ I h) λxv s₁ h₁=>f9 h₁ λitv s₂ h₂=>?_)) (λ_ s' hq=>au (au hq)) λ_ _ e=>e);obtain⟨it,fp,tn,J,H2,e,I2,T,st2,f2,q⟩:=h₂;subst e;refine yK (RR:=λQd C=>compPost (model X.prog X.w) X.A X.xe (some (assign (.Name y py) X.env)) (λ_ s'=>SP X pins D .next s') Qd C) (Qe:=λDl H1=>D.nx (σ.set i (some (.ref Dl))) H1) acc hc F O hg ht he I2 T st2 f2 q ?_ ?_
 ·rintro Dl C s' ⟨m,hn⟩ lC ⟨H',I',hC,q'⟩
  show wpAny _ X.A (assign (.Name y py) X.env (.ref Dl)) _ _ s'
  refine wpAny_assign_Name (Ay I' hN hi' hx (show RelV (.ref Dl) (.ref Dl) from rfl) (λs'' I'' hsb=>?_) hf);obtain⟨a,sba,ha⟩:=hsb;have nCa:C≠a:=by
   rcases ha with z|z
   ·rw[z];exact lC.2.1
   ·exact Ne.symm (lC.2.2.2.2.1 _ _ z)
  refine⟨m,hn.sameBut sba nCa,λh' sb=>⟨_,H',I''.qj (t':=s''.toks) (ch:=[C]) (λb hb=>by rw[aH.mp hb];exact⟨hC,lC.2⟩) (λb o _ hc' z=>(sb.2 b λy=>hc' (by rw[y];exact mem_cons_self)).trans z) (λb o hc' z=>⟨o.slots,(sb.2 b λy=>hc' (by rw[y];exact mem_cons_self)).trans z⟩),q'⟩⟩
 ·rintro D C x s' ⟨m,hn⟩ k;exact⟨m,hn,k⟩
end
structure oY(k:Nat)(A:eE):Prop where
 dp:A.depth+3*k+5<recursionLimit
 un:A.units+16*k+200<cLine
theorem eZ.toH(r:eZ k A):oY k A:=⟨r.dp,r.un⟩
theorem oY.deeper(r:oY (k+1) A)(env:Env):oY k (A.deeper env) := ⟨by have:=r.dp;show A.depth+1+3*k+5<_;omega,by have:=r.un;show A.units+3+16*k+200<_;omega⟩
structure yL(P:cC)(w:World)(K:Fg)(mg:Str->Option aC)(base:Heap)(CX:Bg)(k:Nat)(f:aB)(fd:fH)(ps:List Str)(sp:Sp):Prop where
 len:∀vs H Q E,sp vs H Q E->vs.length=ps.length
 run:∀(A:eE)(outer:List Env)(s:aW)(H:Hp)(args:Args)(us:List aC)(vs:List V)(Q:VK)(E:XK),oY k A->FN P w K mg base A outer s H->BindsTo s fd args (ps.zip us)->Vals vs us->sp vs H Q E -> codeAny (model P w) A (.call (.ref f) args) (CR CX outer P w H s Q E) s
noncomputable abbrev Mv(CX:Bg)(P:cC)(w:World)(K:Fg)(mg:Str->Option aC)(base:Heap)(N:List Str)(qual:Str)(scope:Scope)(f:aB)(cd:aC)(A:eE)(outer:List Env)(s:aW)(H:Hp)(E:XK):Cx := {qd CX P w K mg base N qual scope f cd A outer s H E with calm:=false}
theorem adn{f:aB}{body:List dI}{dV kV doc pm cdv ct oc:aC}{an od:Option aB}{osl:Array (Option aC)}(lk:K.lookup f=some ⟨oc,od,.func (fnOf name qual params body scope dV kV doc pm an cdv ct),osl⟩)(hcd:codeIn K cdv qual=true)(S:bY N ps scope)(len:∀vs H Q E,sp vs H Q E->vs.length=ps.length)(hbody:∀(A:eE) (outer:List Env) (s:aW) (H:Hp) (vs:List V) (Q:VK) (E:XK),oY k (A.deeper (envOfC qual scope s.heap.objs.size f cdv))->sp vs H Q E -> ∃t,Ac (Mv CX P w K mg base N qual scope f cdv A outer s H E) body t/\t {nx:=λ_ H'=>Q .non H',rt:=Q} (start N vs) H) : yL P w K mg base CX (k+1) f (fnOf name qual params body scope dV kV doc pm an cdv ct) ps sp:=by
 refine⟨len,λA outer s H args us vs Q E hr e0 hb r hsp=>?_⟩;have hl:=len _ _ _ _ hsp;have KX:K.In s.heap:=e0.mod.Fq.keeps λb o e=>(e0.bs b o e).1
 have lim:s.heap.NoLimit:=e0.mod.nolimit.keeps λb o e=>(e0.bs b o e).1
 have hkind:∀y∈ps.zip us,scope.names.lookup y.1=some .local\/(scope.names.lookup y.1=some .cell/\((cellsFrom (s.heap.objs.size+1) scope.names []).lookup y.1).isSome=true):=λ⟨n,v⟩ hy=>by
  rcases S.par n (of_mem_zip hy).1 with q|q
  ·exact .inl q
  ·exact .inr ⟨q,cellsFrom_some _ _ _ (.inl q)⟩
 have akH:A.depth<recursionLimit:=by have:=hr.dp;omega
 refine codeAny_call_function akH (KX _ _ lk) rfl S.co S.gen rfl (codeRec_of KX hcd) (hb _ _ _ _ ?_);refine wpAny_newFunctionEnv_cells S.kind hkind λenv he s1 x=>?_
 subst he;refine⟨lim.keeps x.toInCall.keep,codeAny_func ?_⟩;obtain⟨t,ht,hq⟩:=hbody A outer s H vs Q E (hr.deeper _) hsp;have I0:Inv (qd CX P w K mg base N qual scope f cdv {A with handled:=none} outer s H E) [] (start N vs) H s1 :=
  Bo S rfl ⟨e0.frames,e0.mod,e0.bs,e0.Pr,e0.rR,e0.Y9,e0.hok,e0.bare⟩ hl r x
 have I:Inv (Mv CX P w K mg base N qual scope f cdv A outer s H E) [] (start N vs) H s1 :=
  ⟨⟨I0.ok.mod,I0.ok.kind,I0.ok.glob,I0.ok.blt,I0.ok.above,I0.ok.inj,I0.ok.has,I0.ok.cab,(λz=>nomatch z),Around.frames_deeper e0.frames,I0.ok.stk,I0.ok.exf,I0.ok.bs,I0.ok.Pr,I0.ok.Pu,I0.ok.TJ,I0.ok.rR,I0.ok.Y9⟩,I0.os,I0.bare,I0.base,I0.loc,I0.cell,I0.free,I0.kh,I0.pin,I0.hok,I0.len⟩
 refine cW (ht [] s1 (start N vs) H _ I hq) (λfl s' hs=>?_) λe s' hs=>hs
 have fin:∀{σ':St}{H':Hp}{v:V}{u:aC},Inv (Mv CX P w K mg base N qual scope f cdv A outer s H E) [] σ' H' s'->RelV v u->Q v H'->CE outer P w H s Q u s' :=
  fun{σ' H' v u} J rv q=>⟨v,H',J.os,J.bare,J.base,J.hok,rv,q⟩
 cases fl with
 |ret u =>
  obtain⟨v,σ',H',J,rv,q⟩:=hs;exact fin J rv q
 |next =>
  obtain⟨σ',H',J,q⟩:=hs;exact fin (v:=V.non) (u:=Value.none) J rfl q
 |brk =>
  obtain⟨_,_,_,q⟩:=hs;exact False.elim q
 |cont =>
  obtain⟨_,_,_,q⟩:=hs;exact False.elim q
variable{k:Nat}{f:aB}{fd:fH}{ps:List Str}{sp:Sp}
section
variable{CX:Bg}{qb:List V}{ds:List aC}{p:Pos}{e:Expr}{es:List Expr}{t:TA}
theorem Zv{Q:VK}(F:yL X.prog X.w X.K X.mg X.base CX k f fd ps sp)(hr:oY k X.A)(hb:Binds X.K fd ps ds)(hd:Vals qb ds)(hx:Passes CX X E)(I:Inv X pins σ H s)(r:Vals vs us)(h:sp (vs++qb) H Q E):wpAny (model X.prog X.w) X.A (call (.ref f) us) (EP X pins σ Q) X.xe s:=by
 have r2:Vals (vs++qb) (us++ds):=r.append hd;have hl:(us++ds).length=ps.length:=by rw[<- r2.length];exact F.len _ _ _ _ h
 refine wpAny_call (cY (F.run X.A X.stack s H ⟨us,[]⟩ (us++ds) (vs++qb) Q E hr I.env0 (hb s us I.oR hl) r2 h) λr s' hq=>?_);cases r with
 |error e=>exact hx pins σ H s e s' I hq
 |ok fl =>
  cases fl with
  |ret u=>exact I.after hq
  |next=>exact False.elim hq
  |brk=>exact False.elim hq
  |cont=>exact False.elim hq
theorem Gh(F:yL X.prog X.w X.K X.mg X.base CX k f fd ps sp)(hr:oY k X.A)(hg:Gl X x)(hm:X.mg x=some (.ref f))(hk:keepIn X.K (.ref f)=true)(hb:Binds X.K fd ps ds)(hd:Vals qb ds)(hx:Passes CX X E)(ha:PA X (e::es) t)(hdb:autoParam ((x == ("__debug__":Str))=false) zau1)(he:autoParam (starEach (e::es) X.env=(false,eval e X.env)::starEach es X.env) zau0)(hpl:autoParam ((backTo pos (starEach es X.env)).any (·.1)=false) zau0) : PE X (.Call (.Name x p) (e::es) [] pos) (FP sp qb E t):=by
 intro pins s σ H Q I h;refine wpAny_Call_Name_kw (lK I hg hm ?_ hdb);refine callWith_K (h₀:=X.base) I.ok.mod.Fq hk (f9 (ha pos pins s σ H _ I h) λus s1 ⟨vs,H1,I1,r,q⟩=>⟨I1.oR,?_⟩) he hpl;exact Zv F hr hb hd hx I1 r q
end
def jY:List Str->List Str
 |[]=>[]
 |x::l=>x::(jY l).filter λy=>decide (y≠x)
theorem yM :∀{l:List Str},y∈jY l↔y∈l
 |[]=>Iff.rfl
 |x::l=>by
  by_cases e:y=x
  ·simp[jY,e]
  ·simp[jY,e,yM (l:=l)]
theorem Dj:∀l:List Str,(jY l).length<=l.length
 |[]=>aO _
 |_::l=>Nat.succ_le_succ (bx (length_filter_le _ _) (Dj l))
theorem Bs(v:Str):∀l:List Str,jY (l++[v])=if v∈l then jY l else jY l++[v]
 |[]=>by simp[jY]
 |x::l=>by
  have ih:=Bs v l
  by_cases e:v=x
  ·subst e
   by_cases m:v∈l<;>simp[jY,ih,m,cZ]
  ·by_cases m:v∈l<;>simp[jY,ih,m,e,cZ]
theorem Mw:∀l:List Str,(jY l).length=l.length↔l.Nodup
 |[]=>by simp[jY]
 |x::l=>by
  have le1:=length_filter_le (λy=>decide (y≠x)) (jY l);have le2:=Dj l;have ih:=Mw l;have all:((jY l).filter λy=>decide (y≠x)).length=(jY l).length↔¬x∈l:=by
   rw[List.length_filter_eq_length_iff];constructor
   ·intro h m;simpa using h x (yM.mpr m)
   ·intro h y hy;simpa using λz:y=x=>h (z ▸ yM.mp hy)
  simp only[jY,length_cons,nodup_cons];constructor
  ·intro h;exact⟨all.mp (by omega),ih.mp (by omega)⟩
  ·rintro⟨h1,h2⟩;have:=all.mpr h1;have:=ih.mpr h2;omega
variable{E:aC->aW->Prop}
section
variable{Q:aC->aW->Prop}
theorem Dk{args:List aC}(ft:TypeCalled T newId initId)(ok:checkTypeCall T ⟨args,[]⟩=pure ())(mk:codeAny (model prog w) A.in1 (.call (.builtin newId) ⟨.type T::args,[]⟩) (wants (λobj a=>a.TypeIs obj T/\codeAny (model prog w) A.in1 (.call (.builtin initId) ⟨obj::args,[]⟩) (wants (λr b=>r=.none/\Q obj b) E) a) E) s):wpAny (model prog w) A (call (.type T) args) Q E s:=by
 obtain⟨c,tl,mro⟩:=ft.mro;have made:=ft.made;have sub:=ft.sub;have n1:=ft.notType;have n2:=ft.canCreate;have look:=ft.init.lookup;refine wpAny_call (codeAny_of_tree (show wpAny _ _ (callAny (.type T) _) _ _ _ from au ⟨Code.quiet_builtin _ (by decide +kernel),codeAny_builtin PySem.F.entry_type_call ?_⟩));have plain:=Around.under_plain (A:=A) (weight_type_call_type T args []) (units_type_call_type T args []);rw[plain]
 repeat any_goals first|assumption|wp_step
 refine cY mk λr a ha=>?_
 match r,ha with
 | .error _,ha=>exact ha
 | .ok (.ret obj),ha =>
  obtain⟨ty,ini⟩:=ha;have bnd:=ft.init.bind obj
  repeat any_goals first|assumption|wp_step
  refine cY ini λr b hb=>?_
  match r,hb with
  | .error _,hb=>exact hb
  | .ok (.ret v),hb =>
   obtain⟨rfl,q⟩:=hb
   repeat any_goals first|assumption|wp_step
theorem Zw{S:aB}{Qu:Bool->aW->Prop}(small:(jY done).length+1<scanBound)(at_:s.heap.SetOf (strKind prog w) S (λk=>decide (k∈done)) (jY done).length)(k:∀h' tk b,Heap.SameBut S s.heap h'->h'.SetOf (strKind prog w) S (λk=>decide (k∈done++[x])) (jY (done++[x])).length->Qu b {s with heap:=h',toks:=tk}):wpAny (model prog w) A (setAdd S (.str x t)) Qu E s:=by
 have is:(strKind prog w).is x (.str x t)=true:=by show Value.isStrOf x (.str x t)=true;simp[Value.isStrOf]
 unfold setAdd;refine wpAny_holding (aj ((strKind prog w).pyHash (k:=x) is (wpAny_setAddHashed_of (knd:=strKind prog w) (s:={s with toks:=s.toks+1}) is rfl at_ small λh' sb set=>k h' _ _ sb ?_)));refine SetOf_congr set (λy=>?_) ?_
 ·simp[bQ,Bool.decide_or]
 ·rw[Bs]
  by_cases m:x∈done<;>simp[m]
theorem Gi{S I l:aB}{its:List aC}(calm:A.handled=none)(SI:S≠I)(Sl:S≠l)(lI:l≠I)(txt:Paired (λx v=>∃t,v=Value.str x t) ls its)(small:ls.length+1<scanBound){R:Result->aW->Prop}: ∀(todo done:List Str)(s:aW),ls=done++todo->s.heap.IsListIter I l done.length->s.heap.IsList l its.toArray->s.heap.SetOf (strKind prog w) S (λk=>decide (k∈done)) (jY done).length -> (∀h' tk,(∀b o,b≠S->b≠I->s.heap.get? b=some o->h'.get? b=some o)->h'.SetOf (strKind prog w) S (λk=>decide (k∈ls)) (jY ls).length->R (.ok (.ret .none)) {s with heap:=h',toks:=tk}) -> codeAny (model prog w) A (.builtin "set.update.loop" ⟨[.ref S,.ref I],[]⟩) R s
 |[],done,s,e,it,li,at_,k=>by
  have e':ls=done:=by simpa using e
  have len:=txt.length;refine codeAny_builtin PyProof.Rows.F.entry_set_update_loop ?_;rw[Around.under_plainId PyProof.Rows.F.plain_set_update_loop _];refine aj (m:=pyNext (.ref I)) (wpAny_pyNext_list_end (by simpa using calm) it li (by rw[<- e'];simp[len]) λh' ext=>?_);obtain⟨o,es,ep,t,ho,more⟩:=at_;subst e';exact au (k h' s.toks (λb o _ nI q=>ext b o nI q) ⟨o,es,ep,t,ext S o SI ho,more⟩)
 |x::todo,done,s,e,it,li,at_,k=>by
  have agp:done.length<ls.length:=by rw[e,aY,length_cons];omega
  have item:∃t,its[done.length]?=some (Value.str x t):=by
   have at1:ls[done.length]?=some x:=by rw[e];simp
   clear e it li at_ k agp small
   induction txt generalizing done with
   |nil=>simp at at1
   | @cons a b l₁ l₂ r rr ih =>
    cases done with
    |nil=>simp at at1;subst at1;obtain⟨t,q⟩:=r;exact⟨t,by simp[q]⟩
    |cons y ys=>exact ih ys (by simpa using at1)
  obtain⟨t,item⟩:=item;have room:(jY done).length+1<scanBound:=by have:=Dj done;omega
  refine codeAny_builtin PyProof.Rows.F.entry_set_update_loop ?_;rw[Around.under_plainId PyProof.Rows.F.plain_set_update_loop _];refine aj (m:=pyNext (.ref I)) (wpAny_pyNext_list_item it li (x:=Value.str x t) (by simpa using item) λh' it' sb=>?_);obtain⟨o,es,ep,tb,ho,more⟩:=at_;refine aj (wpAny_holding (Zw (s:={s with heap:=h'}) room ⟨o,es,ep,tb,(sb.2 S SI).trans ho,more⟩ λg tk b sg set=>?_));refine au ⟨plainId_quiet PyProof.Rows.F.plain_set_update_loop _,Gi calm SI Sl lI txt small todo (done++[x]) _ (by simp[e]) ?_ ?_ set λg' tk' keep fin=>?_⟩
  ·rw[aY];exact it'.at λo q=>(sg.2 I (Ne.symm SI)).trans q
  ·exact(li.at λo q=>(sb.2 l lI).trans q).at λo q=>(sg.2 l (Ne.symm Sl)).trans q
  ·exact k g' tk' (λb o nS nI q=>keep b o nS nI ((sg.2 b nS).trans ((sb.2 b nI).trans q))) fin
theorem Ah{l:aB}{its:List aC}(calm:A.handled=none)(li:s.heap.IsList l its.toArray)(txt:Paired (λx v=>∃t,v=Value.str x t) ls its)(small:ls.length+1<scanBound)(k:∀h' tk,h'.SetOf (strKind prog w) s.heap.objs.size (λy=>decide (y∈ls)) (jY ls).length->(∀b o,s.heap.get? b=some o->h'.get? b=some o)->Q (.ref s.heap.objs.size) {s with heap:=h',toks:=tk}) : wpAny (model prog w) A (call (Value.type "set") [Value.ref l]) Q E s:=by
 refine Dk PySem.F.called_set (PySem.F.typeCall_set_1 _) (code_set_new_1 (.ref l) λled=>?_)
 let o₀:Obj:={cls:=.type "set",dict:=none,data:=.set #[] 0 (.fresh 0 0 led)}
 have there:(s.heap.push o₀).get? s.heap.objs.size=some o₀:=aN s.heap rfl;have ty:Shared.TypeIs {s with heap:=s.heap.push o₀} (.ref s.heap.objs.size) "set":=⟨o₀,there,rfl⟩;refine⟨ty,codeAny_call_builtin PySem.F.called_set.init.plain PySem.F.entry_set_init (check_set_init_1 ty ?_)⟩;have lt:l<s.heap.objs.size:=by obtain⟨o,q,_⟩:=li;exact Heap.lt_size q
 have li1:(s.heap.push o₀).IsList l its.toArray:=li.push o₀;obtain⟨⟨c,d,dt,sl⟩,get,rfl,n,rfl⟩:=id li1;have akI:=PySem.F.sub_list_set;have afx:=PySem.F.sub_list_frozenset;have notDict:(Value.type "list" == Value.type "dict")=false:=by decide
 unfold Builtin.«set.__init__»;unfold noKeywords;unfold Builtin.Frozenset.updateFrom;generalize Uo:pyIter=PI
 wp_walk
 subst Uo;refine wpAny_pyIter_list li1 (aj (wpAny_runValue ?_))
 let it₀:Obj:={cls:=.type "list_iterator",data:=.fields #[.ref l,.int 0 0]}
 have Uq:(s.heap.push o₀).objs.size=s.heap.objs.size+1:=Heap.size_push _ _;refine Gi (its:=its) (ls:=ls) (by simpa using calm) (by rw[Uq];exact Nat.ne_of_lt (Nat.lt_succ_self _)) (Nat.ne_of_gt lt) (by rw[Uq];exact Nat.ne_of_lt (Nat.lt_succ_of_lt lt)) txt small ls [] _ rfl ⟨it₀,aN _ rfl,rfl,rfl⟩ (li1.push it₀) ?_ λh' tk keep fin=>?_
 ·exact SetOf_congr ((setObjOf_fresh (knd:=strKind prog w) led).setOf (aq it₀ there) (by unfold scanBound;omega)) (λy=>by simp) (by simp[jY])
 ·refine au (show wpAny _ _ (ret Value.none) _ _ _ from au ⟨rfl,k h' tk fin λb o q=>?_⟩);have below:=Heap.lt_size q;exact keep b o (Nat.ne_of_lt below) (by rw[Uq];exact Nat.ne_of_lt (Nat.lt_succ_of_lt below)) (aq it₀ (aq o₀ q))
end
def yN(P:cC)(w:World)(a:aB)(n:Nat):HO:=.ext λh=>∃S,h.SetOf (strKind P w) a S n
theorem Gj:∀{ls:List Str}{us:List aC},Vals (ls.map V.str) us->Paired (λx v=>∃t,v=Value.str x t) ls us
 |[],_,r=>by cases r;exact .nil
 |x::ls,_,r=>by cases r with|cons r rr=>exact .cons r (Gj rr)
theorem Qf(hc:X.calm=true):jw X (.type "set") (λxs H Q=>∃p ls,xs=[.ref p]/\cD X.K H p (ls.map V.str)/\ls.length+1<scanBound/\∀l,H l=none->Q (.ref l) (upd H l (yN X.prog X.w l (jY ls).length))):=by
 intro pins s σ H xs us Q I r h;obtain⟨p,ls,rfl,hq,hb,q⟩:=h;obtain⟨u,rfl,rx⟩:=Vals.one r;cases rx;obtain⟨its,rv,pl,hz⟩:=I.list hq;refine Ah (I.ok.hd hc) pl.isList (Gj rv) hb λh' tk hS hk=>?_
 refine⟨.ref s.heap.objs.size,_,I.laid (a:=s.heap.objs.size) (o:=yN X.prog X.w s.heap.objs.size (jY ls).length) hk (aO _) ?_,rfl,q _ (I.hok.fresh (aO _))⟩;obtain⟨o,es,ep,t,ho,rest⟩:=id hS;refine⟨⟨_,hS⟩,⟨o,ho⟩,λh1 h2 p k=>?_⟩;obtain⟨S,o,es,ep,t,ho,rest⟩:=p;exact⟨S,o,es,ep,t,k o ho,rest⟩
theorem Qg:jw X (.builtin "len") (λxs H Q=>∃p n,xs=[.ref p]/\H p=some (yN X.prog X.w p n)/\Q (.int n) H):=by
 intro pins s σ H xs us Q I r h;obtain⟨p,n,rfl,e,q⟩:=h;obtain⟨u,rfl,rx⟩:=Vals.one r;cases rx;obtain⟨⟨S,o,es,ep,t,ho,hex,hd,hel,hm,hb,hf,hn⟩,_⟩:=(show gq X.prog X.w H s.heap p (yN X.prog X.w p n) from I.hok p _ e);subst hn;refine call_len_set ho hex hd hf (by unfold scanBound at hb;omega) ⟨.int es.size,H,I.tok _,⟨_,rfl⟩,q⟩
def agq(fp:List aB)(P:Heap->Prop):Prop:=∀h h',P h->(∀b∈fp,∀o,h.get? b=some o->h'.get? b=some o)->P h'
def JC(h:Heap)(e:aB):Prop:=∃o,h.get? e=some o/\o.cls=.type "StopIteration"
noncomputable def Draws(prog:cC)(w:World)(A:eE)(it:aB)(P:Heap->Prop)(x:aC)(P':Heap->Prop):Prop := ∀(s:aW)(Q:aC->aW->Prop)(E:aC->aW->Prop),P s.heap->(∀h',P' h'->Heap.SameBut it s.heap h'->Q x {s with heap:=h'})->wpAny (model prog w) A (Builtin.SmallTypes.nextOf (.ref it)) Q E s
noncomputable def agr(prog:cC)(w:World)(A:eE)(it:aB)(P:Heap->Prop):Prop := ∀(s:aW)(Q:aC->aW->Prop)(E:aC->aW->Prop),P s.heap->(∀h' e,Heap.ExtBut it s.heap h'->JC h' e->E (.ref e) {s with heap:=h'})->wpAny (model prog w) A (Builtin.SmallTypes.nextOf (.ref it)) Q E s
inductive Over(h:Heap)(it l:aB)(xs:Array aC)(k:Nat):Bool->Prop
 |lst (a:h.IsListIter it l k) (b:h.IsList l xs):Over h it l xs k false
 |tup (a:h.IsTupleIter it l k) (b:h.IsTuple l xs):Over h it l xs k true
variable{l:aB}{xs:Array aC}
section
variable{it:aB}{tu:Bool}
theorem iC:agq [it,l] (λh=>Over h it l xs k tu):=λh h' o keep=>by
 have k1:=keep it (by simp);have k2:=keep l (by simp);cases o with
 |lst a b=>exact .lst (a.at k1) (b.at k2)
 |tup a b =>
  obtain⟨o1,q1,r1⟩:=a;obtain⟨o2,q2,r2⟩:=b;exact .tup ⟨o1,k1 o1 q1,r1⟩ ⟨o2,k2 o2 q2,r2⟩
theorem Over.Ur(o:Over h it l xs k tu):∃ob,h.get? it=some ob:=by
 cases o with
 |lst a _=>obtain⟨ob,q,_⟩:=a;exact⟨ob,q⟩
 |tup a _=>obtain⟨ob,q,_⟩:=a;exact⟨ob,q⟩
theorem oZ{Q:aC->aW->Prop}(at_:s.heap.get? it=some o)(c:o.cls=.type "tuple_iterator")(pG:o.data=.fields #[.ref l,.int k 0])(sq:s.heap.get? l=some ol)(its:ol.data=.seq xs n) : (∀x,xs[k]?=some x->(∀h',h'.IsTupleIter it l (k+1)->Heap.SameBut it s.heap h'->Q x {s with heap:=h'})->wpAny (model prog w) A (Builtin.SmallTypes.nextOf (.ref it)) Q E s) /\ (xs[k]?=none->A.handled=none->(∀h' e,Heap.ExtBut it s.heap h'->JC h' e->E (.ref e) {s with heap:=h'})->wpAny (model prog w) A (Builtin.SmallTypes.nextOf (.ref it)) Q E s):=by
 have ty:s.TypeIs (.ref it) "tuple_iterator":=⟨o,at_,c⟩;have Gk:¬(Value.ref l == Value.none)=true:=Bool.false_ne_true;constructor
 ·intro x hx q;have abO:=Obj.data_mapFields pG λv=>v.setIfInBounds 1 (rawInt ((k:Int)+1))
  refine aj (wpAny_callSpecial?_slot (name:=Str.ofString "__next__") ty PySem.F.slot_tuple_iterator_next (wpAny_call_entry PySem.F.slot_tuple_iterator_next ty PySem.F.entry_tuple_iterator_next ?_ (PySem.F.args_tuple_iterator_next_1 _)));refine aj (m:=field (.ref it) 0) (wpAny_field at_ pG (x:=.ref l) rfl ?_);rw[if_neg Gk];refine aj (m:=field (.ref it) 1) (wpAny_field at_ pG (x:=.int k 0) rfl (aj (m:=seqItems? (.ref l)) (wpAny_seqItems sq its ?_)));simp only[show((k:Int)).toNat=k from eG k,hx];refine aj (wpAny_setField at_ pG (by simp) (au ⟨x,rfl,au (q _ ⟨_,Heap.get?_update_self _ at_ (Obj.isFreed_of_fields abO),(Obj.cls_mapFields ..).trans c,?_⟩ (Heap.SameBut.update ..))⟩));rw[abO];simp[rawInt]
 ·intro hx calm q;refine aj (wpAny_callSpecial?_slot (name:=Str.ofString "__next__") ty PySem.F.slot_tuple_iterator_next (wpAny_call_entry PySem.F.slot_tuple_iterator_next ty PySem.F.entry_tuple_iterator_next ?_ (PySem.F.args_tuple_iterator_next_1 _)));refine aj (m:=field (.ref it) 0) (wpAny_field at_ pG (x:=.ref l) rfl ?_);rw[if_neg Gk];refine aj (m:=field (.ref it) 1) (wpAny_field at_ pG (x:=.int k 0) rfl (aj (m:=seqItems? (.ref l)) (wpAny_seqItems sq its ?_)));simp only[show((k:Int)).toNat=k from eG k,hx];refine aj (wpAny_rule (aj (wpAny_setField at_ pG (by simp) (aj (m:=newExc (.type "StopIteration") []) ?_))));simp only[newExc,newTuple];refine aj (wpAny_newObj_type (aj (m:=firstArgMember _ _) (wpAny_of_eq (a:=Value.none) (by first|rfl|(simp only[firstArgMember];rfl)) (wpAny_newObj_type ?_ (by size_fits)))) (by size_fits));exact wpAny_raiseNew_none (show A.in1.handled=none from calm) (q _ _ (((Heap.SameBut.update ..).extBut.push _).push _) ⟨_,aN _ rfl,rfl⟩)
theorem pH{x:aC}(ne:l≠it)(hx:xs[k]?=some x):Draws prog w A it (λh=>Over h it l xs k tu) x (λh=>Over h it l xs (k+1) tu):=by
 intro s Q E o q;cases o with
 |lst a b=>exact wpAny_nextOf_list_item a b hx λh' a' sb=>q h' (.lst a' (b.at λ_ z=>(sb.2 l ne).trans z)) sb
 |tup a b =>
  obtain⟨ob,z,c,d⟩:=a;obtain⟨ol,y,r,n,its⟩:=b;exact(oZ z c d y its).1 x hx λh' a' sb=>q h' (.tup a' ⟨ol,(sb.2 l ne).trans y,r,n,its⟩) sb
theorem qR(hx:xs[k]?=none)(calm:A.handled=none):agr prog w A it (λh=>Over h it l xs k tu):=by
 intro s Q E o q;cases o with
 |lst a b=>exact wpAny_nextOf_list_end calm a b hx q
 |tup a b =>
  obtain⟨ob,z,c,d⟩:=a;obtain⟨ol,y,_,n,its⟩:=b;exact(oZ z c d y its).2 hx calm q
end
structure jG(z ti to a b l m:aB):Prop where
 own:[z,to,a,b].Nodup
 tis:ti∉[z,to,a,b]
 ls:l∉[z,to,a,b]
 ms:m∉[z,to,a,b]
section
variable{z ti to a m:aB}{ys:Array aC}{i j:Nat}{u v:aC}{t1 t2:Bool}
theorem jG.ne(D:jG z ti to a b l m):to≠z/\a≠z/\b≠z/\a≠to/\b≠to/\b≠a:=by
 have:=D.own;simp only[nodup_cons,aR,not_mem_nil,or_false,not_or]at this;obtain⟨⟨h1,h2,h3⟩,⟨h4,h5⟩,h6,_⟩:=this;exact⟨Ne.symm h1,Ne.symm h2,Ne.symm h3,Ne.symm h4,Ne.symm h5,Ne.symm h6⟩
theorem four{c x y p q:aB}(h:c∉[x,y,p,q]):c≠x/\c≠y/\c≠p/\c≠q:=by simpa using h
def Gm(z to a b:aB)(h h':Heap):Prop:=∀c o,c∉[z,to,a,b]->h.get? c=some o->h'.get? c=some o
structure oG(t1 t2:Bool)(z ti to a b l m:aB)(xs ys:Array aC)(f:aC)(i j:Nat)(h:Heap):Prop where
 cell:IsZip h z ti to f
 its:IsPair h ti (.ref a) (.ref b)
 kept:∃u v,IsPair h to u v
 one:Over h a l xs i t1
 two:Over h b m ys j t2
theorem oG.moved{f f':aC}(Z:oG t1 t2 z ti to a b l m xs ys f i j h)(D:jG z ti to a b l m)(past:Gm z to a b h h')(r:IsZip h' z ti to f')(k:∃u v,IsPair h' to u v)(o:Over h' a l xs i' t1)(t:Over h' b m ys j' t2) : oG t1 t2 z ti to a b l m xs ys f' i' j' h':=⟨r,past ti _ D.tis Z.its,k,o,t⟩
theorem yO{t:aB}{x:aC}(P:IsPair s.heap t u v)(k:∀h',h'.get? t=some {cls:=.type "tuple",data:=.seq ((#[u,v]:Array aC).setIfInBounds n x)}->Heap.SameBut t s.heap h'->Q () {s with heap:=h'}) : wpAny (model prog w) A (updateSeq t (·.setIfInBounds n x)) Q E s:=wpAny_updateSeq_pair P k
theorem Gn{x y:aC}{Q:Option aC->aW->Prop}(D:jG z ti to a b l m)(Z:oG t1 t2 z ti to a b l m xs ys .none i j s.heap)(hx:xs[i]?=some x)(hy:ys[j]?=some y)(k:∀h',oG t1 t2 z ti to a b l m xs ys (rawInt s.heap.objs.size) (i+1) (j+1) h'->IsPair h' s.heap.objs.size x y->Gm z to a b s.heap h'->Q (some (.ref s.heap.objs.size)) {s with heap:=h'}):wpAny (model prog w) A (pyNext (.ref z)) Q E s:=by
 obtain⟨Zx,az,bz,ato,bto,ba⟩:=D.ne;obtain⟨lz,lto,la,lb⟩:=four D.ls;obtain⟨mz,mto,ma,mb⟩:=four D.ms;obtain⟨cell,its,⟨u,v,kept⟩,one,two⟩:=id Z;have ty:s.TypeIs (.ref z) "zip":=⟨_,cell,rfl⟩;refine aj (wpAny_attempt (wpAny_callSpecial?_slot (name:=Str.ofString "__next__") ty PySem.F.slot_zip_next (wpAny_call_entry PySem.F.slot_zip_next ty PySem.F.entry_zip_next ?_ (PySem.F.args_zip_next_1 _))));refine aj (m:=field (.ref z) 2) (wpAny_field cell rfl (x:=.bool false) rfl (aj (m:=field (.ref z) 3) (wpAny_field cell rfl (x:=.ref ti) rfl (aj (wpAny_seqItems its rfl ?_)))));refine aj (m:=Builtin.SmallTypes.ownedTupleIsFree (.ref z)) (aj (m:=field (.ref z) 0) (wpAny_field cell rfl (x:=.none) rfl (au ?_)));simp only[if_true];refine aj (wpAny_rule (aj (wpAny_field cell rfl (x:=.ref to) rfl (aj (wpAny_setField_rec cell (by simp) λh1 Mx s1=>aj ?_)))));simp only[List.forIn_nil,List.forIn_cons,List.zipIdx_nil,List.zipIdx_cons];refine aj (aj (wpAny_onRaise (aj (m:=Builtin.SmallTypes.nextOf (.ref a)) (pH la hx {s with heap:=h1} _ _ (iC _ _ one λc hc o q=>s1.extBut c o ?_ q) λh2 agt s2=>au ?_))))
 ·rcases aR.mp hc with e|e
  ·exact e ▸ az
  ·exact aH.mp e ▸ lz
 have kept2:IsPair h2 to u v:=s2.extBut _ _ (Ne.symm ato) (s1.extBut _ _ Zx kept);refine aj (wpAny_seqItems kept2 rfl (aj (yO (s:={s with heap:=h2}) kept2 λh3 Mz s3=>aj (wpAny_letGo (au ?_)))));have Mz:IsPair h3 to x v:=Mz;have ado:Over h3 b m ys j t2:=iC _ _ two λc hc o q=>by
  have cz:c≠z/\c≠a/\c≠to:=by
   rcases aR.mp hc with e|e
   ·exact e ▸ ⟨bz,ba,bto⟩
   ·exact aH.mp e ▸ ⟨mz,ma,mto⟩
  exact s3.extBut c o cz.2.2 (s2.extBut c o cz.2.1 (s1.extBut c o cz.1 q))
 refine aj (aj (wpAny_onRaise (aj (m:=Builtin.SmallTypes.nextOf (.ref b)) (pH mb hy {s with heap:=h3} _ _ ado λh4 akJ s4=>au ?_))));have abP:IsPair h4 to x v:=s4.extBut _ _ (Ne.symm bto) Mz;refine aj (wpAny_seqItems abP rfl (aj (yO (s:={s with heap:=h4}) abP λh5 MF s5=>aj (wpAny_letGo (au (au ?_))))));have MF:IsPair h5 to x y:=MF;refine aj (wpAny_seqItems MF rfl (aj (wpAny_newTuple (aj ?_))));have Us:h5.objs.size=s.heap.objs.size:=by rw[s5.1,s4.1,s3.1,s2.1,s1.1]
 have abQ:IsZip h5 z ti to .ellipsis:=s5.extBut _ _ (Ne.symm Zx) (s4.extBut _ _ (Ne.symm bz) (s3.extBut _ _ (Ne.symm Zx) (s2.extBut _ _ (Ne.symm az) Mx)));have abR:Gm z to a b s.heap h5:=λc o out q=>by
  obtain⟨c1,c2,c3,c4⟩:=four out;exact s5.extBut c o c2 (s4.extBut c o c4 (s3.extBut c o c2 (s2.extBut c o c3 (s1.extBut c o c1 q))))
 have akK:Over h5 a l xs (i+1) t1:=iC _ _ agt λc hc o q=>by
  have cz:c≠to/\c≠b:=by
   rcases aR.mp hc with e|e
   ·exact e ▸ ⟨ato,Ne.symm ba⟩
   ·exact aH.mp e ▸ ⟨lto,lb⟩
  exact s5.extBut c o cz.1 (s4.extBut c o cz.2 (s3.extBut c o cz.1 q))
 have akL:Over h5 b m ys (j+1) t2:=iC _ _ akJ λc hc o q=>by
  refine s5.extBut c o ?_ q;rcases aR.mp hc with e|e
  ·exact e ▸ bto
  ·exact aH.mp e ▸ mto
 let pr:Obj:={cls:=.type "tuple",data:=.seq #[x,y]}
 have zlt:=Heap.lt_size abQ;refine(?_:wpAny _ _ (Builtin.SmallTypes.ownedTupleHandOut (.ref z) (.ref h5.objs.size)) _ _ _);refine aj (wpAny_setField_rec (aq pr abQ) (by simp) λh6 agu s6=>wpAny_setField_rec (s:={s with heap:=h6}) agu (by simp) λh7 agv s7=>?_);have up:∀c o,c≠z->h5.get? c=some o->h7.get? c=some o:=λc o nz q=>s7.extBut c o nz (s6.extBut c o nz (aq pr q))
 have fresh:h7.get? h5.objs.size=some pr:=s7.extBut _ _ (Nat.ne_of_gt zlt) (s6.extBut _ _ (Nat.ne_of_gt zlt) (aN h5 rfl));refine au ⟨_,rfl,au ?_⟩;rw[Us]at fresh
 show Q (some (.ref h5.objs.size)) _
 rw[Us];refine k h7 (Z.moved D (λc o out q=>up c o (four out).1 (abR c o out q)) ?_ ⟨x,y,up _ _ Zx MF⟩ (iC _ _ akK λc hc o q=>up c o ?_ q) (iC _ _ akL λc hc o q=>up c o ?_ q)) fresh λc o out q=>up c o (four out).1 (abR c o out q)
 ·have:=agv;rw[Us]at this;exact this
 ·rcases aR.mp hc with e|e
  ·exact e ▸ az
  ·exact aH.mp e ▸ lz
 ·rcases aR.mp hc with e|e
  ·exact e ▸ bz
  ·exact aH.mp e ▸ mz
theorem Gp{Q:Option aC->aW->Prop}(calm:A.handled=none)(D:jG z ti to a b l m)(Z:oG t1 t2 z ti to a b l m xs ys .none i j s.heap)(hend:xs[i]?=none\/(∃x,xs[i]?=some x)/\ys[j]?=none)(k:∀h',Gm z to a b s.heap h'->Q none {s with heap:=h'}):wpAny (model prog w) A (pyNext (.ref z)) Q E s:=by
 obtain⟨Zx,az,bz,ato,bto,ba⟩:=D.ne;obtain⟨lz,lto,la,lb⟩:=four D.ls;obtain⟨mz,mto,ma,mb⟩:=four D.ms;obtain⟨cell,its,⟨u,v,kept⟩,one,two⟩:=id Z;have ty:s.TypeIs (.ref z) "zip":=⟨_,cell,rfl⟩;have abS:A.in1.handled=none:=calm;have over:∀(h':Heap)(e:aB),Gm z to a b s.heap h'->JC h' e ->
   wpAny (model prog w) A (do if <- isInstance (.ref e) (.type "StopIteration") then pure none else throw (.ref e)) Q E {s with heap:=h'}:=λh' e past st=>by
  obtain⟨o,q,c⟩:=st;exact aj (wpAny_isInstance (T:="StopIteration") (b:=true) ⟨o,q,c⟩ isSubtype_stop (au (k h' past)))
 refine aj (wpAny_attempt (wpAny_callSpecial?_slot (name:=Str.ofString "__next__") ty PySem.F.slot_zip_next (wpAny_call_entry PySem.F.slot_zip_next ty PySem.F.entry_zip_next ?_ (PySem.F.args_zip_next_1 _))));refine aj (m:=field (.ref z) 2) (wpAny_field cell rfl (x:=.bool false) rfl (aj (m:=field (.ref z) 3) (wpAny_field cell rfl (x:=.ref ti) rfl (aj (wpAny_seqItems its rfl ?_)))));refine aj (m:=Builtin.SmallTypes.ownedTupleIsFree (.ref z)) (aj (m:=field (.ref z) 0) (wpAny_field cell rfl (x:=.none) rfl (au ?_)));simp only[if_true];refine aj (wpAny_rule (aj (wpAny_field cell rfl (x:=.ref to) rfl (aj (wpAny_setField_rec cell (by simp) λh1 Mx s1=>aj ?_)))));simp only[List.forIn_nil,List.forIn_cons,List.zipIdx_nil,List.zipIdx_cons];have agw:Over h1 a l xs i t1:=iC _ _ one λc hc o q=>s1.extBut c o (by
  rcases aR.mp hc with e|e
  ·exact e ▸ az
  ·exact aH.mp e ▸ lz) q
 rcases hend with agx|⟨⟨x,hx⟩,agy⟩
 ·refine aj (aj (wpAny_onRaise (aj (m:=Builtin.SmallTypes.nextOf (.ref a)) (qR agx abS {s with heap:=h1} _ _ agw λh2 e s2 st=>?_))));have abT:IsZip h2 z ti to .ellipsis:=s2 _ _ (Ne.symm az) Mx;obtain⟨oe,qe,ce⟩:=st;have ez:e≠z:=λy=>by rw[y,abT]at qe;cases qe;simp at ce
  refine wpAny_setField_rec (s:={s with heap:=h2}) abT (by simp) λh3 _ s3=>over h3 e (λc o out q=>?_) ⟨oe,s3.extBut _ _ ez qe,ce⟩
  exact s3.extBut c o (four out).1 (s2 c o (four out).2.2.1 (s1.extBut c o (four out).1 q))
 ·refine aj (aj (wpAny_onRaise (aj (m:=Builtin.SmallTypes.nextOf (.ref a)) (pH la hx {s with heap:=h1} _ _ agw λh2 agt s2=>au ?_))));have kept2:IsPair h2 to u v:=s2.extBut _ _ (Ne.symm ato) (s1.extBut _ _ Zx kept);refine aj (wpAny_seqItems kept2 rfl (aj (yO (s:={s with heap:=h2}) kept2 λh3 Mz s3=>aj (wpAny_letGo (au ?_)))));have ado:Over h3 b m ys j t2:=iC _ _ two λc hc o q=>by
   have cz:c≠z/\c≠a/\c≠to:=by
    rcases aR.mp hc with e|e
    ·exact e ▸ ⟨bz,ba,bto⟩
    ·exact aH.mp e ▸ ⟨mz,ma,mto⟩
   exact s3.extBut c o cz.2.2 (s2.extBut c o cz.2.1 (s1.extBut c o cz.1 q))
  refine aj (aj (wpAny_onRaise (aj (m:=Builtin.SmallTypes.nextOf (.ref b)) (qR agy abS {s with heap:=h3} _ _ ado λh4 e s4 st=>?_))));have abU:IsZip h4 z ti to .ellipsis:=s4 _ _ (Ne.symm bz) (s3.extBut _ _ (Ne.symm Zx) (s2.extBut _ _ (Ne.symm az) Mx));obtain⟨oe,qe,ce⟩:=st;have ez:e≠z:=λy=>by rw[y,abU]at qe;cases qe;simp at ce
  refine wpAny_setField_rec (s:={s with heap:=h4}) abU (by simp) λh5 _ s5=>over h5 e (λc o out q=>?_) ⟨oe,s5.extBut _ _ ez qe,ce⟩
  obtain⟨c1,c2,c3,c4⟩:=four out;exact s5.extBut c o c1 (s4 c o c4 (s3.extBut c o c2 (s2.extBut c o c3 (s1.extBut c o c1 q))))
theorem Bt{T:aB}(D:jG z ti to a b l m)(Z:oG t1 t2 z ti to a b l m xs ys (rawInt T) i j s.heap)(q:∀h',oG t1 t2 z ti to a b l m xs ys .none i j h'->Heap.SameBut z s.heap h'->Q () {s with heap:=h'}):wpAny (model prog w) A (letOwnedTupleGo (.Tuple elts k pos) (.ref z) (.ref T)) Q E s:=by
 obtain⟨Zx,az,bz,ato,bto,ba⟩:=D.ne;obtain⟨u,v,kept⟩:=Z.kept;refine wpAny_letOwnedTupleGo_zip Z.cell λh' cell' sb=>q h' (Z.moved D (λc o out y=>sb.extBut c o (four out).1 y) cell' ⟨u,v,sb.extBut _ _ Zx kept⟩ (iC _ _ Z.one λc hc o y=>sb.extBut c o ?_ y) (iC _ _ Z.two λc hc o y=>sb.extBut c o ?_ y)) sb
 ·rcases aR.mp hc with e|e
  ·exact e ▸ az
  ·exact aH.mp e ▸ (four D.ls).1
 ·rcases aR.mp hc with e|e
  ·exact e ▸ bz
  ·exact aH.mp e ▸ (four D.ms).1
def vQ(l:aB):Obj:={cls:=.type "tuple_iterator",data:=.fields #[.ref l,.int 0 0]}
def zip2(m:aB):Obj:={cls:=.type "list_iterator",data:=.fields #[.ref m,.int 0 0]}
def pairOf(u v:aC):Obj:={cls:=.type "tuple",data:=.seq #[u,v]}
def Zy(ti to:aB):Obj:={cls:=.type "zip",data:=.fields #[.none,.bool false,.bool false,.ref ti,.ref to]}
def pI(h:Heap)(l m:aB):Heap := ((((h.push (vQ l)).push (zip2 m)).push (pairOf (.ref h.objs.size) (.ref (h.objs.size+1)))).push (pairOf .none .none)).push (Zy (h.objs.size+2) (h.objs.size+3))
theorem Ai(l m:aB)(xs ys:Array aC):Meets (Builtin.«zip.__new__» ⟨[.type "zip",.ref l,.ref m],[]⟩) (λ_ R s=>s.heap.IsTuple l xs/\s.heap.IsList m ys/\R (.ok (.ret (.ref (s.heap.objs.size+4)))) {s with heap:=pI s.heap l m}) := .of_wp λprog w A R s h=>by
 obtain⟨hp,g,d,tk,os⟩:=s;obtain⟨q1,q2,r⟩:=h;have sub:=sub_zip;have Ut:Heap.IsTuple (Shared.heap ⟨hp,g,d,tk,os⟩) l xs:=q1;have q2':Heap.IsList (Shared.heap ⟨hp.push {cls:=.type "tuple_iterator",data:=.fields #[.ref l,.int 0 0]},g,d,tk,os⟩) m ys:=Heap.IsList.push q2 _
 wp_walk using wpAny_pyIter_tuple Ut,wpAny_pyIter_list q2'
 refine⟨_,rfl,?_⟩;simp only[Heap.size_push];exact r
theorem Uu{Q:aC->aW->Prop}(q1:s.heap.IsTuple l xs)(q2:s.heap.IsList m ys)(k:∀h',jG (s.heap.objs.size+4) (s.heap.objs.size+2) (s.heap.objs.size+3) s.heap.objs.size (s.heap.objs.size+1) l m -> oG true false (s.heap.objs.size+4) (s.heap.objs.size+2) (s.heap.objs.size+3) s.heap.objs.size (s.heap.objs.size+1) l m xs ys .none 0 0 h'->(∀c o,s.heap.get? c=some o->h'.get? c=some o)->Q (.ref (s.heap.objs.size+4)) {s with heap:=h'}) : wpAny (model prog w) A (call (.type "zip") [.ref l,.ref m]) Q E s:=by
 have Mt:l<s.heap.objs.size:=by obtain⟨o,q,_⟩:=q1;exact Heap.lt_size q
 have Ad:m<s.heap.objs.size:=by obtain⟨o,q,_⟩:=q2;exact Heap.lt_size q
 have old:∀c o,s.heap.get? c=some o->(pI s.heap l m).get? c=some o:=λc o q=>aq _ (aq _ (aq _ (aq _ (aq _ q))))
 have z1:(s.heap.push (vQ l)).objs.size=s.heap.objs.size+1:=Heap.size_push _ _;have z2:((s.heap.push (vQ l)).push (zip2 m)).objs.size=s.heap.objs.size+2:=by rw[Heap.size_push,z1]
 have z3:(((s.heap.push (vQ l)).push (zip2 m)).push (pairOf (.ref s.heap.objs.size) (.ref (s.heap.objs.size+1)))).objs.size=s.heap.objs.size+3:=by rw[Heap.size_push,z2]
 have z4:((((s.heap.push (vQ l)).push (zip2 m)).push (pairOf (.ref s.heap.objs.size) (.ref (s.heap.objs.size+1)))).push (pairOf .none .none)).objs.size=s.heap.objs.size+4:=by rw[Heap.size_push,z3]
 have g1:(pI s.heap l m).get? s.heap.objs.size=some (vQ l):=aq _ (aq _ (aq _ (aq _ (aN _ rfl))));have g2:(pI s.heap l m).get? (s.heap.objs.size+1)=some (zip2 m):=by rw[<- z1];exact aq _ (aq _ (aq _ (aN _ rfl)))
 have g3:(pI s.heap l m).get? (s.heap.objs.size+2)=some (pairOf (.ref s.heap.objs.size) (.ref (s.heap.objs.size+1))):=by rw[<- z2];exact aq _ (aq _ (aN _ rfl))
 have g4:(pI s.heap l m).get? (s.heap.objs.size+3)=some (pairOf .none .none):=by rw[<- z3];exact aq _ (aN _ rfl)
 have g5:(pI s.heap l m).get? (s.heap.objs.size+4)=some (Zy (s.heap.objs.size+2) (s.heap.objs.size+3)):=by rw[<- z4];exact aN _ rfl
 refine callType_new PySem.F.called_zip (by decide) (PySem.F.typeCall_zip_2 _ _) (PySem.F.newCall_zip_2 _ _) (λobj=>PySem.F.args_object_init_3 obj _ _) PySem.F.entry_zip_new (Ai l m xs ys) ⟨q1,q2,⟨_,g5,rfl⟩,k _ ?_ ?_ old⟩
 ·have n1:∀i j:Nat,i≠j->s.heap.objs.size+i≠s.heap.objs.size+j:=λi j h e=>h (Nat.add_left_cancel e)
  have out:∀c,c<s.heap.objs.size->∀i:Nat,c≠s.heap.objs.size+i:=λc h i=>Nat.ne_of_lt (bJ h (Nat.le_add_right _ _))
  refine⟨?_,?_,?_,?_⟩
  ·simp only[nodup_cons,aR,not_mem_nil,or_false,not_or,not_false_eq_true,nodup_nil,and_true];exact⟨⟨n1 4 3 (by decide),n1 4 0 (by decide),n1 4 1 (by decide)⟩,⟨n1 3 0 (by decide),n1 3 1 (by decide)⟩,n1 0 1 (by decide)⟩
  ·simp only[aR,not_mem_nil,or_false,not_or];exact⟨n1 2 4 (by decide),n1 2 3 (by decide),n1 2 0 (by decide),n1 2 1 (by decide)⟩
  ·simp only[aR,not_mem_nil,or_false,not_or];exact⟨out l Mt 4,out l Mt 3,out l Mt 0,out l Mt 1⟩
  ·simp only[aR,not_mem_nil,or_false,not_or];exact⟨out m Ad 4,out m Ad 3,out m Ad 0,out m Ad 1⟩
 ·obtain⟨o1,y1,r1⟩:=q1;obtain⟨o2,y2,r2⟩:=q2;exact⟨g5,g3,⟨_,_,g4⟩,.tup ⟨_,g1,rfl,rfl⟩ ⟨o1,old _ _ y1,r1⟩,.lst ⟨_,g2,rfl,rfl⟩ ⟨o2,old _ _ y2,r2⟩⟩
end
theorem Inv.drawn{T:aB}{ch:List aB}(I:Inv X pins σ H s)(hch:∀b∈ch,nM X pins H b)(keep:∀b ob,b∉ch->s.heap.get? b=some ob->h'.get? b=some ob)(fr:s.heap.get? T=none)(new:gq X.prog X.w (upd H T o) h' T o):Inv X pins σ (upd H T o) {s with heap:=h',toks:=t'}:=by
 have hT:H T=none:=I.hok.none_of fr;have nT:∀b u,H b=some u->b≠T:=λb u e z=>by rw[z,hT]at e;cases e
 have TQ:∀b u,H b=some u->b∉ch:=λb u e z=>by rw[(hch b z).1]at e;cases e
 refine I.call (ch:=ch) (g':=s.gens) (d':=s.drawn) ⟨λb ob e _ _ hx=>keep b ob hx e,λb ob e _ _ hx=>⟨ob.slots,keep b ob hx e⟩,λb ob e n hx=>?_,λb ob e hx=>⟨ob,keep b ob hx e⟩,λb xs e=>?_,λb ob xs e=>?_,λb ps e=>⟨#[],?_⟩⟩ (λc u e=>?_) I.bare λb hb=>⟨(hch b hb).2.2.2.1,(hch b hb).2.1,(hch b hb).2.2.2.2.1,(hch b hb).2.2.2.2.2⟩
 ·rw[bf (λz=>by rw[z,fr]at e;cases e)];exact n
 ·rw[bf (nT _ _ e)];exact e
 ·rw[bf (nT _ _ e)];exact e
 ·rw[bf (nT _ _ e),e];simp
 ·by_cases z:c=T
  ·subst z;rw[aF]at e;cases e;exact new
  ·rw[bf z]at e;refine(I.hok c u e).stay (λd v hd q=>keep d v ?_ q) (λd q=>by rw[bf (nT _ _ q)];exact q) λd xs q=>by rw[bf (nT _ _ q)];exact q
   rcases hd with y|y
   ·rw[y];exact TQ c u e
   ·exact TQ d _ y
theorem Inv.turns{ch:List aB}(I:Inv X pins σ H s)(hch:∀b∈ch,nM X pins H b)(keep:∀b ob,b∉ch->s.heap.get? b=some ob->h'.get? b=some ob):Inv X pins σ H {s with heap:=h',toks:=t'}:=by
 have TQ:∀b u,H b=some u->b∉ch:=λb u e z=>by rw[(hch b z).1]at e;cases e
 refine I.call (ch:=ch) (g':=s.gens) (d':=s.drawn) ⟨λb ob e _ _ hx=>keep b ob hx e,λb ob e _ _ hx=>⟨ob.slots,keep b ob hx e⟩,λb ob e n hx=>n,λb ob e hx=>⟨ob,keep b ob hx e⟩,λb xs e=>e,λb ob xs e=>e,λb ps e=>⟨#[],by rw[e];simp⟩⟩ (λc u e=>?_) I.bare λb hb=>⟨(hch b hb).2.2.2.1,(hch b hb).2.1,(hch b hb).2.2.2.2.1,(hch b hb).2.2.2.2.2⟩
 refine(I.hok c u e).stay (λd v hd q=>keep d v ?_ q) (λd q=>q) λd xs q=>q
 rcases hd with y|y
 ·rw[y];exact TQ c u e
 ·exact TQ d _ y
theorem xT:2<=sizeLine:=by decide
noncomputable def Itz(K:Fg)(l m:aB):It := ⟨λi H=>∃xs ys x y,dY K H l xs/\cD K H m ys/\xs[i]?=some x/\ys[i]?=some y,λi H v H'=>∃T,H T=none/\v=.ref T/\∀xs ys x y,dY K H l xs->cD K H m ys->xs[i]?=some x->ys[i]?=some y->H'=upd H T (.tup [x,y]),λi H=>∃xs ys,dY K H l xs/\cD K H m ys/\(xs.length<=i\/ys.length<=i)⟩
structure adp(z ti to a b l m:aB)(i:Nat)(h:Heap):Prop where
 cell:IsZip h z ti to .none
 its:IsPair h ti (.ref a) (.ref b)
 kept:∃u v,IsPair h to u v
 one:h.IsTupleIter a l i
 two:h.IsListIter b m i
theorem Uv(D:jG z ti to a b l m):Turn P w K (.Tuple elts k pos) (Itz K l m) [z,ti,to,a,b] z (adp z ti to a b l m) where
 mem:=by simp
 obj:=λi h R c hc=>by
  obtain⟨u,v,kept⟩:=R.kept;obtain⟨o1,q1,_,d1⟩:=R.one;obtain⟨o2,q2,_,d2⟩:=R.two;simp only[aR,not_mem_nil,or_false]at hc;rcases hc with rfl|rfl|rfl|rfl|rfl
  ·exact⟨_,R.cell,λv q=>by cases q⟩
  ·exact⟨_,R.its,λv q=>by cases q⟩
  ·exact⟨_,kept,λv q=>by cases q⟩
  ·exact⟨o1,q1,λv q=>by rw[d1]at q;cases q⟩
  ·exact⟨o2,q2,λv q=>by rw[d2]at q;cases q⟩
 keep:=λi h h' R kp=>by
  obtain⟨u,v,kept⟩:=R.kept;obtain⟨o1,q1,r1⟩:=R.one;obtain⟨o2,q2,r2⟩:=R.two;exact⟨kp z (by simp) _ R.cell,kp ti (by simp) _ R.its,⟨u,v,kp to (by simp) _ kept⟩,⟨o1,kp a (by simp) _ q1,r1⟩,⟨o2,kp b (by simp) _ q2,r2⟩⟩
 item:=by
  intro X hP hw hK hc i pins s σ H E I hf R go;subst hP hw hK;obtain⟨xs,ys,x,y,sx,sy,hx,hy⟩:=go;obtain⟨qp,v1,p1,_⟩:=I.tuple sx;obtain⟨its2,v2,p2,_⟩:=I.list sy;obtain⟨ux,gx,rx⟩:=v1.get hx;obtain⟨uy,gy,ry⟩:=v2.get hy;have Z:oG true false z ti to a b l m qp.toArray its2.toArray .none i i s.heap:=⟨R.cell,R.its,R.kept,.tup R.one p1,.lst R.two p2.isList⟩;have fr:s.heap.get? s.heap.objs.size=none:=Heap.get?_none_of_le (aO _);have there:∀c∈[z,ti,to,a,b],∃o,s.heap.get? c=some o:=λc hc=>by
   obtain⟨u,v,kept⟩:=R.kept;obtain⟨o1,q1,_⟩:=R.one;obtain⟨o2,q2,_⟩:=R.two;simp only[aR,not_mem_nil,or_false]at hc;rcases hc with e|e|e|e|e<;>rw[e]
   ·exact⟨_,R.cell⟩
   ·exact⟨_,R.its⟩
   ·exact⟨_,kept⟩
   ·exact⟨_,q1⟩
   ·exact⟨_,q2⟩
  have h4:∀c∈[z,to,a,b],nM X pins H c:=λc hc=>hf c (by simp at hc⊢;rcases hc with r|r|r|r<;>simp[r])
  refine Gn D Z (x:=ux) (y:=uy) (by simpa using gx) (by simpa using gy) λh1 Z1 pr past=>⟨.ref s.heap.objs.size,rfl,Bt D (s:={s with heap:=h1}) Z1 λh2 Z2 sb=>?_⟩
  have zlt:s.heap.objs.size≠z:=Nat.ne_of_gt (Heap.lt_size R.cell);have pr2:IsPair h2 s.heap.objs.size ux uy:=sb.extBut _ _ zlt pr;refine⟨.ref s.heap.objs.size,upd H s.heap.objs.size (.tup [x,y]),Inv.drawn (h':=h2) (t':=s.toks) (ch:=[z,to,a,b]) (s:=s) I h4 (λc o out q=>sb.extBut c o (four out).1 (past c o out q)) fr ⟨xT,[ux,uy],.cons rx (.cons ry .nil),⟨_,pr2,rfl,_,rfl⟩⟩,rfl,⟨_,I.hok.none_of fr,rfl,λxs' ys' x' y' sx' sy' hx' hy'=>?_⟩,?_,λc hc=>?_⟩
  ·have e1:=I.vM sx' sx;have e2:=I.oU sy' sy;subst e1;subst e2;rw[hx]at hx';rw[hy]at hy';cases hx';cases hy';rfl
  ·refine⟨Z2.cell,Z2.its,Z2.kept,?_,?_⟩
   ·cases Z2.one with
    |tup q _=>exact q
   ·cases Z2.two with
    |lst q _=>exact q
  ·obtain⟨o,q⟩:=there c hc;rw[bf (λe=>by rw[e,fr]at q;cases q)];exact(hf c hc).1
 done:=by
  intro X hP hw hK hc i pins s σ H E I hf R stop;subst hP hw hK;obtain⟨xs,ys,sx,sy,le⟩:=stop;obtain⟨qp,v1,p1,_⟩:=I.tuple sx;obtain⟨its2,v2,p2,_⟩:=I.list sy;have Z:oG true false z ti to a b l m qp.toArray its2.toArray .none i i s.heap:=⟨R.cell,R.its,R.kept,.tup R.one p1,.lst R.two p2.isList⟩;have h4:∀c∈[z,to,a,b],nM X pins H c:=λc hc=>hf c (by simp at hc⊢;rcases hc with r|r|r|r<;>simp[r])
  have l1:=v1.length;have l2:=v2.length;have hend:qp.toArray[i]?=none\/(∃x,qp.toArray[i]?=some x)/\its2.toArray[i]?=none:=by
   by_cases q:qp.length<=i
   ·exact .inl (by simp[q])
   ·exact .inr ⟨⟨qp[i]'(by omega),by simp⟩,by simp;omega⟩
  exact Gp (I.ok.hd hc) D Z hend λh' past=>⟨rfl,I.turns (t':=s.toks) h4 past⟩
 self:=λ_ _ _ _ _ R q=>wpAny_pyIter_zip R.cell q
def akO(K:Fg)(ta:TA):TI:=λσ H R=>ta σ H λvs H1=>∃l m xs ys,vs=[.ref l,.ref m]/\dY K H1 l xs/\cD K H1 m ys/\R (Itz K l m) H1
theorem JD(hg:Gl X "zip")(hm:X.mg "zip"=none)(ha:PA X [e1,e2] ta)(st1:autoParam (starEach [e1,e2] X.env=[(false,eval e1 X.env),(false,eval e2 X.env)]) zau0)(st2:autoParam (starEach [e2] X.env=[(false,eval e2 X.env)]) zau0) : PI X (.Tuple elts k tp) (.Call (.Name "zip" p) [e1,e2] [] pos) (akO X.K ta):=by
 intro pins s σ H R I h;refine Call_ (kE I hg hm boot_zip (callWith_type1 (f9 (ha pos pins s σ H _ I h) λus a ⟨vs,H1,I1,r,q⟩=>?_) (by rw[st1,st2]) (by rw[st2];rfl)));obtain⟨l,m,xs,ys,e,sx,sy,q⟩:=q;subst e;obtain⟨u1,u2,e,r1,r2⟩:=Vals.two r;subst e;cases r1;cases r2;obtain⟨qp,v1,p1,_⟩:=I1.tuple sx;obtain⟨its2,v2,p2,_⟩:=I1.list sy;refine Uu p1 p2.isList λh' D Z old=>?_
 have I2:Inv X pins σ H1 {a with heap:=h'}:=I1.kept (t':=a.toks) old;refine wpAny_pyIter_zip (s:={a with heap:=h'}) Z.cell ⟨_,[a.heap.objs.size+4,a.heap.objs.size+2,a.heap.objs.size+3,a.heap.objs.size,a.heap.objs.size+1],_,_,H1,rfl,I2,Uv D,⟨Z.cell,Z.its,Z.kept,?_,?_⟩,λb hb=>?_,q⟩
 ·cases Z.one with
  |tup q _=>exact q
 ·cases Z.two with
  |lst q _=>exact q
 ·have le:a.heap.objs.size<=b:=by
   have hb5:b=a.heap.objs.size+4\/b=a.heap.objs.size+2\/b=a.heap.objs.size+3\/b=a.heap.objs.size\/b=a.heap.objs.size+1:=by simpa using hb
   rcases hb5 with e|e|e|e|e<;>rw[e]<;>first|exact Nat.le_add_right _ _|exact aO _
  have f:=I1.vO (H':=H1) le (I1.hok.fresh le);exact f
theorem MJ{xs ys:List V}{g:TG}{tb:TS}{D:Ends}(Pv:Nat->St->Hp->Prop)(len:xs.length=ys.length)(h0:Pv 0 σ H)(hl:∀i σ H,i<=xs.length->Pv i σ H->dY K H l xs/\cD K H m ys)(hs:∀i x y T σ H,xs[i]?=some x->ys[i]?=some y->Pv i σ H->H T=none->g (.ref T) σ (upd H T (.tup [x,y])) λσ2 H2=>tb {D with nx:=Pv (i+1),ct:=Pv (i+1),bk:=D.nx} σ2 H2)(hd:∀σ H,Pv xs.length σ H->D.nx σ H) : ∃W:Nat->Nat->St->Hp->Prop,(∃k,W 0 k σ H)/\∀i k σ H,W i k σ H -> ((Itz K l m).stop i H/\D.nx σ H)\/((Itz K l m).go i H/\∃N:St->Hp->Prop,(∀σ' H',N σ' H'->∃k',k'<k/\W (i+1) k' σ' H')/\∀x H',(Itz K l m).Jm i H x H'->g x σ H' λσ2 H2=>tb {D with nx:=N,ct:=N,bk:=D.nx} σ2 H2):=by
 refine⟨λi k σ H=>k=xs.length-i/\i<=xs.length/\Pv i σ H,⟨xs.length,by simp,dG _,h0⟩,?_⟩;rintro i k σ H ⟨rfl,hi,p⟩;obtain⟨q1,q2⟩:=hl i σ H hi p
 by_cases lt:i<xs.length
 ·have Ad:i<ys.length:=len ▸ lt;refine .inr ⟨⟨xs,ys,xs[i],ys[i],q1,q2,by simp[lt],by simp[Ad]⟩,Pv (i+1),λσ' H' p'=>⟨xs.length-(i+1),by omega,rfl,lt,p'⟩,λx H' y=>?_⟩;obtain⟨T,hT,rfl,y⟩:=y;rw[y xs ys xs[i] ys[i] q1 q2 (by simp[lt]) (by simp[Ad])];exact hs i xs[i] ys[i] T σ H (by simp[lt]) (by simp[Ad]) p hT
 ·have e:i=xs.length:=by omega
  subst e;exact .inl ⟨⟨xs,ys,q1,q2,.inl (aO _)⟩,hd σ H p⟩
theorem Uw{bs:List Bool}(r:Vals (bs.map V.bl) us){i:Nat}(h:us[i]?=some v):∃b,bs[i]?=some b/\v=.bool b:=by
 cases q:bs[i]? with
 |none =>
  have z:=r.none_of (i:=i) (by rw[aJ,q];rfl);rw[h]at z;cases z
 |some b =>
  obtain⟨u,hu,ru⟩:=r.get (i:=i) (x:=.bl b) (by rw[aJ,q];rfl);rw[h]at hu;cases hu;exact⟨b,rfl,ru⟩
theorem all_range:∀bs:List Bool,((List.range bs.length).all λi=>(bs[i]?).getD true)=bs.all id
 |[]=>rfl
 |b::bs=>by
  have ih:=all_range bs;simp only[length_cons,range_succ_eq_map,all_cons,all_map,List.getElem?_cons_zero,Option.getD_some];exact congrArg (b && ·) ih
theorem vR(hc:X.calm=true):jw X (.builtin "all") (λxs H Q=>∃(p:aB)(bs:List Bool),xs=[.ref p]/\cD X.K H p (bs.map V.bl)/\Q (.bl (bs.all id)) H):=by
 intro pins s σ H xs us Q I r h;obtain⟨p,bs,rfl,sq,q⟩:=h;obtain⟨u,rfl,rx⟩:=Vals.one r;cases rx;obtain⟨its,rv,pl,_⟩:=I.list sq;have lt:p<s.heap.objs.size:=by obtain⟨o,e,_⟩:=pl.isList;exact Heap.lt_size e
 have len:its.length=bs.length:=by have:=rv.length;simpa using this.symm
 refine call_all_walk (wpAny_pyIter_list pl.isList ⟨_,[s.heap.objs.size,p],[s.heap.objs.size],its.toArray.size,_,_,λi=>(bs[i]?).getD true,rfl,Walks.list (A:=X.A.in1) (I.ok.hd hc) _ p (Nat.ne_of_lt lt) its.toArray,⟨⟨_,aN _ rfl,rfl,rfl⟩,pl.isList.push _⟩,λi v s' Q' E' hv hq=>?_,λh' tk keep=>?_⟩)
 ·obtain⟨b,hb,rfl⟩:=Uw rv (i:=i) (v:=v) (by simpa using hv);have hq:Q' ((bs[i]?).getD true) s':=hq;rw[hb]at hq;exact wpAny_truthy_bool hq
 ·rw[size_toArray,len,all_range];refine⟨.bl _,H,I.kept (h':=h') (t':=tk) λb o e=>keep b o ?_ (aq _ e),rfl,q⟩;rw[aH];exact Nat.ne_of_lt (Heap.lt_size e)
theorem Gq:jw X (.builtin "isinstance") (λxs H Q=>∃x c cv t b,xs=[x,c]/\(c=.ref cv/\kitOne X.K t (.ref cv)=some b)/\sV X.K H x t/\Q (.bl b) H):=by
 intro pins s σ H xs us Q I r h;obtain⟨x,c,cv,t,b,rfl,⟨rfl,e⟩,ty,q⟩:=h;obtain⟨u,v,rfl,rx,rc⟩:=Vals.two r;cases rc;exact Bd I rx ty e λtk=>⟨.bl b,H,I.tok tk,rfl,q⟩
theorem Dm:jw X (.builtin "isinstance") (λxs H Q=>∃x T t b,xs=[x,.ty T]/\kitOne X.K t (.type T)=some b/\sV X.K H x t/\Q (.bl b) H):=by
 intro pins s σ H xs us Q I r h;obtain⟨x,T,t,b,rfl,e,ty,q⟩:=h;obtain⟨u,v,rfl,rx,rc⟩:=Vals.two r;cases rc;exact Bd I rx ty e λtk=>⟨.bl b,H,I.tok tk,rfl,q⟩
def Itv(K:Fg)(a:aB)(n:Nat):It := ⟨λi H=>i<n/\∃xs,cD K H a xs/\xs.length=n,λi H x H'=>H'=H/\∀xs,cD K H a xs->xs[n-1-i]?=some x,λi _=>i=n⟩
theorem Ux(a it:aB)(n:Nat):Turn P w K tg (Itv K a n) [it] it (λi h=>i<=n/\h.IsRevIter it a ((n:Int)-1-(i:Int))) where
 mem:=by simp
 obj:=λi h st b hb=>by
  obtain⟨o,e,c,d⟩:=st.2;rw[aH.mp hb];exact⟨o,e,λv z=>by rw[d]at z;cases z⟩
 keep:=λi h h' st k=>⟨st.1,st.2.at λo e=>k it (by simp) o e⟩
 item:=by
  intro X hP hw hK hc i pins s σ H E I hf st go;subst hP hw hK;obtain⟨lt,xs,sq,len⟩:=go;obtain⟨its,rv,p,hz⟩:=I.list sq;have lx:n-1-i<xs.length:=by omega
  obtain⟨u,hu,ru⟩:=rv.get (i:=n-1-i) (x:=xs[n-1-i]) (by simp[lx]);obtain⟨f0,f1,f2,f3,f4,f5⟩:=hf it (by simp);have st2:=st.2;have e1:(n:Int)-1-(i:Int)=((n-1-i:Nat):Int):=by omega
  rw[e1]at st2;refine wpAny_pyNext_rev_item st2 p.isList (x:=u) (by simpa using hu) λh' st' sb=>?_
  have e2:((n-1-i:Nat):Int)-1=(n:Int)-1-((i+1:Nat):Int):=by omega
  rw[e2]at st';have I1:Inv X pins σ H {s with heap:=h'}:=I.turned (t':=s.toks) (λb o hb e=>(sb.2 b hb).trans e) f0 f1 f3 f4 f5;obtain⟨o,e,c,d⟩:=id st';exact⟨u,rfl,T4 (s:={s with heap:=h'}) e c d (by decide) ⟨xs[n-1-i],H,I1,ru,⟨rfl,λys hy=>by rw[I.oU hy sq];simp[lx]⟩,⟨by omega,st'⟩,λb hb=>(hf b hb).1⟩⟩
 done:=by
  intro X hP hw hK hc i pins s σ H E I hf st stop;subst hP hw hK;have e:i=n:=stop;subst e;obtain⟨f0,f1,f2,f3,f4,f5⟩:=hf it (by simp);have st2:=st.2;have e1:(i:Int)-1-(i:Int)=-1:=by omega
  rw[e1]at st2;exact wpAny_pyNext_rev_end (I.ok.hd hc) st2 λh' eb=>⟨rfl,I.turned (t':=s.toks) (λb o hb e=>eb b o hb e) f0 f1 f3 f4 f5⟩
 self:=λ_ _ _ _ _ st h=>wpAny_pyIter_revIter st.2 h
def akQ(K:Fg)(ta:TA):TI:=λσ H R=>ta σ H λvs H1=>∃l xs,vs=[.ref l]/\cD K H1 l xs/\R (Itv K l xs.length) H1
theorem adu{tg e:Expr}(hg:Gl X "reversed")(hm:X.mg "reversed"=none)(ha:PA X [e] ta)(st:autoParam (starEach [e] X.env=[(false,eval e X.env)]) zau0) : PI X tg (.Call (.Name "reversed" p) [e] [] pos) (akQ X.K ta):=by
 intro pins s σ H R I h;refine Call_ (kE I hg hm boot_reversed (callWith_type1 (f9 (ha pos pins s σ H _ I h) λus a ⟨vs,H1,I1,r,q⟩=>?_) st rfl));obtain⟨l,xs,e,sq,q⟩:=q;subst e;obtain⟨u,e,r1⟩:=Vals.one r;subst e;cases r1;obtain⟨its,rv,p,_⟩:=I1.list sq;have len:=rv.length;refine call_reversed_list p.isList ?_;have at0:(a.heap.push (revObj l ((its.toArray.size:Int)-1))).IsRevIter a.heap.objs.size l ((xs.length:Int)-1-((0:Nat):Int)):=⟨_,aN _ rfl,rfl,by simp[revObj,len]⟩;refine wpAny_pyIter_revIter at0 ⟨_,[a.heap.objs.size],_,_,H1,rfl,I1.kept (t':=a.toks) λb o e=>aq _ e,Ux l _ xs.length,⟨dG _,at0⟩,λb hb=>?_,q⟩;rw[aH.mp hb];exact I1.vO (aO _) (I1.hok.fresh (aO _))
section
variable{qual:Str}{st:dI}{N:List Str}
theorem mH.lY(F:mH K x qual st f fd)(S:bY N ps (aZ st))(len:∀vs H Q E,sp vs H Q E->vs.length=ps.length)(body:∀(cdv:aC) (A:eE) (outer:List Env) (s:aW) (H:Hp) (vs:List V) (Q:VK) (E:XK),eZ k (A.deeper (envOfC qual (aZ st) s.heap.objs.size f cdv))->sp vs H Q E -> ∃t,Ac (qd (fY P w) P w K mg base N qual (aZ st) f cdv A outer s H E) (iV st) t/\t {nx:=λ_ H'=>Q .non H',rt:=Q} (start N vs) H):cM P w K mg base (fY P w) (k+1) f fd ps sp:=by
 obtain⟨oc,od,kV,doc,pm,an,cdv,ct,osl,rfl,lk,hcd⟩:=F.ex;exact Ub lk hcd S len λA outer s H vs Q E hr h=>body cdv A outer s H vs Q E hr h
theorem mH.okH(F:mH K x qual st f fd)(S:bY N ps (aZ st))(len:∀vs H Q E,sp vs H Q E->vs.length=ps.length)(body:∀(cdv:aC) (A:eE) (outer:List Env) (s:aW) (H:Hp) (vs:List V) (Q:VK) (E:XK),oY k (A.deeper (envOfC qual (aZ st) s.heap.objs.size f cdv))->sp vs H Q E -> ∃t,Ac (Mv (fY P w) P w K mg base N qual (aZ st) f cdv A outer s H E) (iV st) t/\t {nx:=λ_ H'=>Q .non H',rt:=Q} (start N vs) H):yL P w K mg base (fY P w) (k+1) f fd ps sp:=by
 obtain⟨oc,od,kV,doc,pm,an,cdv,ct,osl,rfl,lk,hcd⟩:=F.ex;exact adn lk hcd S len λA outer s H vs Q E hr h=>body cdv A outer s H vs Q E hr h
end
theorem MK(hg:Gl X x)(hm:X.mg x=none)(hv:bootBuiltins x=some (.type T))(hn:autoParam (x≠"__name__") zau1)(hd:autoParam ((x == ("__debug__":Str))=false) zau1):PE X (.Name x pos) (tC (.ty T)) := Za hg hm hv rfl hn hd
def Its(x:Str):It:=⟨λi _=>i<x.cps.size,λi H v H'=>H'=H/\∃c,x.cps[i]?=some c/\v=.str ⟨#[c]⟩,λi _=>i=x.cps.size⟩
theorem Gr{n ty:Str}{k:String}(x:Str)(t:Tok)(it:aB)(W:∀A:eE,A.handled=none->Walks P w A it [it] [it] x.cps.size (SignAt x) (λi h=>h.IsStrIter it k x t i))(self:∀(A:eE) (i:Nat) (s:aW) (Q:aC->aW->Prop) (E:aC->aW->Prop),s.heap.IsStrIter it k x t i->Q (.ref it) s->wpAny (model P w) A (pyIter (.ref it)) Q E s) : Turn P w K (.Name n np) (Its x) [it] it (λi h=>h.IsStrIter it k x t i) where
 mem:=by simp
 obj:=λi h st b hb=>by
  obtain⟨o,e,c,d⟩:=st;rw[aH.mp hb];exact⟨o,e,λv z=>by rw[d]at z;cases z⟩
 keep:=λi h h' st kp=>by
  obtain⟨o,e,r⟩:=st;exact⟨o,kp it (by simp) o e,r⟩
 item:=by
  intro X hP hw hK hc i pins s σ H E I hf st go;subst hP hw hK;obtain⟨f0,f1,f2,f3,f4,f5⟩:=hf it (by simp);refine(W X.A (I.ok.hd hc)).item i s _ _ go st λv h' tk sg st' kk=>?_
  obtain⟨c,u,hx,rfl⟩:=sg;have I1:Inv X pins σ H {s with heap:=h',toks:=tk}:=I.turned (λb o hb e=>kk b o (by simpa using hb) e) f0 f1 f3 f4 f5;exact⟨_,rfl,au ⟨.str ⟨#[c]⟩,H,I1,⟨u,rfl⟩,⟨rfl,c,hx,rfl⟩,st',λb hb=>(hf b hb).1⟩⟩
 done:=by
  intro X hP hw hK hc i pins s σ H E I hf st stop;subst hP hw hK;have e:i=x.cps.size:=stop;subst e;obtain⟨f0,f1,f2,f3,f4,f5⟩:=hf it (by simp);exact(W X.A (I.ok.hd hc)).done s _ _ st λh' tk kk=>⟨rfl,I.turned (λb o hb e=>kk b o (by simpa using hb) e) f0 f1 f3 f4 f5⟩
 self:=λA i s Q E st h=>self A i s Q E st h
def akR(tl:TE):TI:=λσ H R=>tl σ H λv H1=>∃x,v=.str x/\R (Its x) H1
theorem adv{l:Expr}(hl:PE X l tl):PI X (.Name n np) l (akR tl):=by
 intro pins s σ H R I h;refine f9 (hl pins s σ H _ I h) λv a ⟨y,H1,I1,r1,x,e,q⟩=>?_
 subst e;obtain⟨t,rfl⟩:=r1;have I2:∀o,Inv X pins σ H1 {a with heap:=a.heap.push o}:=λo=>I1.kept (t':=a.toks) λb ob e=>aq _ e
 have fp:∀b∈[a.heap.objs.size],nM X pins H1 b:=λb hb=>by
  rw[aH.mp hb];exact I1.vO (aO _) (I1.hok.fresh (aO _))
 cases ha:x.cps.all (· < 128) with
 |false=>exact wpAny_pyIter_wide ha ⟨_,[a.heap.objs.size],_,_,H1,rfl,I2 _,Gr (ty:=n) x t _ (λA hA=>Walks.strWide hA _ x t) (λA i s Q E st q=>wpAny_pyIter_striter_wide st q),⟨_,aN _ rfl,rfl,rfl⟩,fp,q⟩
 |true=>exact wpAny_pyIter_ascii ha ⟨_,[a.heap.objs.size],_,_,H1,rfl,I2 _,Gr (ty:=n) x t _ (λA hA=>Walks.strAscii hA _ x t) (λA i s Q E st q=>wpAny_pyIter_striter_ascii st q),⟨_,aN _ rfl,rfl,rfl⟩,fp,q⟩
theorem Bu:oW X (compareOp .LtE) (λx y H Q=>∃i j,x=.str i/\y=.str j/\Q (.bl (!decide (j.cps.toList<i.cps.toList))) H):=by
 intro pins s σ H x y v u Q I rx ry h;obtain⟨i,j,rfl,rfl,q⟩:=h;obtain⟨t,rfl⟩:=rx;obtain⟨t',rfl⟩:=ry;exact PySem.P.le_str ⟨.bl _,H,I,rfl,q⟩
structure ZC(K:Fg)(C:aB):Prop where
 ga:findIn K (.ref C) "__getattribute__"=some (some (.builtin "BaseException.__getattribute__"))
 hk:findIn K (.ref C) "__getattr__"=some none
 cls:(clsIn K C).isSome=true
 at_:findIn K (.ref C) "__class__"=some (some (.builtin "object.__class__"))
 gt:specialIn K (.builtin "object.__class__") "__get__"=some (some (.builtin "getset_descriptor.__get__"))
 tk:takesIn K (.builtin "object.__class__")=some true
 ob:mroIn K C (.type "object")=some true
 be:subIn K (.ref C) (.type "BaseException")=some true
section
variable{oe:Obj}{od:Option Obj}
theorem Qh{Q:Fin->aW->Prop}(k:K.In s.heap)(t:ZC K C)(I:InstAt s.heap e oe C od)(h:Q (.done (.ret (.ref C))) s) : wpAny (model prog w) A (Builtin.«object.__getattribute__» ⟨[.ref e,.str "__class__" tk],[]⟩) Q E s:=by
 obtain⟨h0,g0,d0,tt,o0⟩:=s;have ht:=I.type (M:=model prog w);have hf:findObj K C od "__class__"=some (.bind (.builtin "getset_descriptor.__get__") (.builtin "object.__class__")) :=
  by obtain⟨cd,hc⟩:=Option.isSome_iff_exists.mp t.cls;simp only[findObj,hc,Option.bind_some,t.at_,t.gt,t.tk]
 have lf:=looks_find (M:=model prog w) k I hf
 (unfold Builtin.«object.__getattribute__»;refine aj (au (aj (au (aj (ht.at (aj (lf.at ?_))))))))
 show wpAny _ _ (holding [Value.builtin "object.__class__"] (call (.builtin "getset_descriptor.__get__") [.builtin "object.__class__",.ref e,.ref C]) >>= ret) _ _ _
 refine aj (wpAny_holding (wpAny_call ?_));refine PySem.W.class_get (s:=⟨h0,g0,d0,tt,o0⟩) k I t.ob ?_
 show wpAny (model prog w) A (ret (Value.ref C)) Q E _
 exact au h
theorem Qi{Q:Option aC->aW->Prop}(k:K.In s.heap)(t:ZC K C)(I:InstAt s.heap e oe C od)(h:Q (some (.ref C)) {s with toks:=s.toks+1}) : wpAny (model prog w) A (getAttr? (.ref e) "__class__") Q E s:=by
 obtain⟨h0,g0,d0,tt,o0⟩:=s;have ht:=I.type (M:=model prog w);have lg:=looks_findIn (M:=model prog w) k t.ga;have lk:=looks_findIn (M:=model prog w) k t.hk;have isB:Looks (model prog w) h0 (isInstance (.ref e) (.type "BaseException")) true:=ht.andThen (looks_subIn k t.be)
 (unfold getAttr? getAttrBy? getAttrBy;refine aj (wpAny_mkText (aj (wpAny_attempt (wpAny_holding (aj (ht.at (aj (lg.at ?_)))))))))
 have no:(onTheHeap (Value.ref C)&&Value.builtin "BaseException.__getattribute__" == Value.builtin "object.__getattribute__")=false:=by
  rw[show(Value.builtin "BaseException.__getattribute__" == Value.builtin "object.__getattribute__")=false by decide +kernel];rfl
 dsimp only;rw[no,if_neg Bool.false_ne_true];unfold getAttrByItsOwn hookBefore;rw[if_pos (show onTheHeap (Value.ref C)=true from rfl)];refine aj (lk.at (aj (wpAny_attempt (wpAny_holding ?_))));unfold callGetattribute;rw[Bool.false_and,if_neg Bool.false_ne_true];unfold boundAndCalled;rw[(F.attr_ValueError).ga.bind];refine aj (au ?_)
 show wpAny _ _ (call (.builtin "BaseException.__getattribute__") [.ref e,.str "__class__" tt]) _ _ _
 refine wpAny_call (codeAny_call_builtin (F.attr_ValueError).ga.plain F.entry_bexc_ga ?_);have hB:builtinKind "BaseException.__getattribute__"=some .slot:=by decide +kernel
 have hS:splitId "BaseException.__getattribute__"=some ("BaseException","__getattribute__"):=by decide +kernel
 have hA:=F.args_bexc_ga (.ref e) (.str "__class__" tt);refine @check_slot (model prog w) _ _ ⟨h0,g0,d0,tt+1,o0⟩ _ _ _ (.ref e) [.str "__class__" tt] [] _ hB hS isB hA ?_;refine Qh (s:=⟨h0,g0,d0,tt+1,o0⟩) k t I ?_
 show wpAny (model prog w) A (handedOut (Value.ref C)) _ _ _
 exact handed_on rfl (au h)
theorem ZC.obj(t:ZC K C):∃c dd cd sl,K.lookup C=some ⟨c,dd,.cls cd,sl⟩:=by
 obtain⟨cd,hc⟩:=Option.isSome_iff_exists.mp t.cls;unfold clsIn at hc
 split at hc
 ·rename_i c dd cd' sl q
  exact⟨c,dd,cd',sl,q⟩
 ·cases hc
end
inductive xU(K:Fg)(H:Hp):Nat->V->V->Bool->Prop where
 |flat {n:Nat} {x y:V} (fx:iR x=true) (fy:iR y=true):xU K H n x y (sW x y)
 |self {n:Nat} {a:aB}:xU K H n (.ref a) (.ref a) true
 |tup {n:Nat} {a b:aB} {xs ys:List V} {e:Nat->Bool} (ne:a≠b) (ha:dY K H a xs) (hb:dY K H b ys) (h:∀(j:Nat) x y,xs[j]?=some x->ys[j]?=some y->xU K H n x y (e j)) : xU K H (n+1) (.ref a) (.ref b) ((List.range (min xs.length ys.length)).all e&&xs.length == ys.length)
 |lst {n:Nat} {a b:aB} {xs ys:List V} {e:Nat->Bool} (ne:a≠b) (ha:cD K H a xs) (hb:cD K H b ys) (len:xs.length=ys.length) (h:∀(j:Nat) x y,xs[j]?=some x->ys[j]?=some y->xU K H n x y (e j)) : xU K H (n+1) (.ref a) (.ref b) ((List.range xs.length).all e)
 |akS {n:Nat} {a b:aB} {xs ys:List V} (ne:a≠b) (ha:cD K H a xs) (hb:cD K H b ys) (len:xs.length≠ys.length):xU K H (n+1) (.ref a) (.ref b) false
theorem Vals.item{xs:List V}(r:Vals xs us)(h:j<us.toArray.size):∃x,xs[j]?=some x/\RelV x us.toArray[j]:=by
 have h':j<us.length:=by simpa using h
 have hx:j<xs.length:=by rw[r.length];exact h'
 obtain⟨u,e1,e2⟩:=r.get (aA hx);refine⟨_,aA hx,?_⟩;rw[aA h']at e1;cases e1;simpa using e2
theorem xU.at_(I:Inv X pins σ H s){x y:V}{b:Bool}(d:xU X.K H n x y b) : ∀(A:eE)(u v:aC),A.units+n<cLine->RelV x u->RelV y v->SeqAt.EqAt A s u v b:=by
 induction d with
 |flat fx fy=>exact λA u v _ ru rv=>Ud ru rv fx fy
 |self =>
  intro A u v _ ru rv;cases ru;cases rv;exact SeqAt.EqAt.same _
 |tup ne ha hb _ ih =>
  intro A u v hu ru rv;cases ru;cases rv;obtain⟨us,r1,p1,_⟩:=I.tuple ha;obtain⟨vs,r2,p2,_⟩:=I.tuple hb;have w:=SeqAt.RcAt.tuples (A:=A) p1 p2 (by omega) λj h1 h2=>by
   obtain⟨x,ex,rx⟩:=r1.item h1;obtain⟨y,ey,ry⟩:=r2.item h2;exact ih j x y ex ey A.in1 _ _ (by rw[show ∀A:eE,A.in1.units=A.units+1 from λ_=>rfl];omega) rx ry
  rw[size_toArray,size_toArray,<- r1.length,<- r2.length]at w;exact SeqAt.EqAt.of_refs ne w
 |lst ne ha hb len _ ih =>
  intro A u v hu ru rv;cases ru;cases rv;obtain⟨us,r1,p1,_⟩:=I.list ha;obtain⟨vs,r2,p2,_⟩:=I.list hb;have w:=SeqAt.RcAt.lists (A:=A) p1.isList p2.isList (by rw[size_toArray,size_toArray,<- r1.length,<- r2.length,len]) (by omega) λj h1 h2=>by
   obtain⟨x,ex,rx⟩:=r1.item h1;obtain⟨y,ey,ry⟩:=r2.item h2;exact ih j x y ex ey A.in1 _ _ (by rw[show ∀A:eE,A.in1.units=A.units+1 from λ_=>rfl];omega) rx ry
  rw[size_toArray,<- r1.length]at w;exact SeqAt.EqAt.of_refs ne w
 |akS ne ha hb len =>
  intro A u v hu ru rv;cases ru;cases rv;obtain⟨us,r1,p1,_⟩:=I.list ha;obtain⟨vs,r2,p2,_⟩:=I.list hb;refine SeqAt.EqAt.of_refs ne (SeqAt.RcAt.lists_lengths p1.isList p2.isList ?_ (by omega));rw[size_toArray,size_toArray,<- r1.length,<- r2.length];simpa using len
inductive adw(K:Fg)(neg:Bool)(x:V)(y:V)(H:Hp)(Q:VK):Prop
 |mk:∀a b xs ys n e,x=.ref a->y=.ref b->dY K H a xs->dY K H b ys->n<=50->((∀(j:Nat) x y,xs[j]?=some x->ys[j]?=some y->xU K H n x y (e j)))->Q (.bl (neg ^^ ((List.range (min xs.length ys.length)).all e&&xs.length == ys.length))) H->adw K neg x y H Q
theorem JF(hu:X.A.units+64<cLine):oW X (compareOp .Eq) (adw X.K false):=by
 intro pins s σ H x y v u Q I rx ry h;obtain⟨a,b,xs,ys,n,e,rfl,rfl,ha,hb,hn,d,q⟩:=h;cases rx;cases ry;obtain⟨us,r1,p1,_⟩:=I.tuple ha;obtain⟨vs,r2,p2,_⟩:=I.tuple hb;have w:=SeqAt.RcAt.tuples (A:=X.A) (e:=e) p1 p2 (by omega) λj h1 h2=>by
  obtain⟨x,ex,rx⟩:=r1.item h1;obtain⟨y,ey,ry⟩:=r2.item h2;exact(d j x y ex ey).at_ I X.A.in1 _ _ (by rw[show ∀A:eE,A.in1.units=A.units+1 from λ_=>rfl];omega) rx ry
 rw[size_toArray,size_toArray,<- r1.length,<- r2.length]at w;rw[Bool.false_xor]at q;exact w X.prog X.w X.xe _ ⟨.bl _,H,I,rfl,q⟩
inductive Qj(K:Fg)(neg:Bool)(x:V)(y:V)(H:Hp)(Q:VK):Prop
 |mk:∀a b xs ys n e,x=.ref a->y=.ref b->cD K H a xs->cD K H b ys->n<=50->((xs.length=ys.length->∀(j:Nat) x y,xs[j]?=some x->ys[j]?=some y->xU K H n x y (e j)))->((xs.length=ys.length->Q (.bl (neg ^^ (List.range xs.length).all e)) H))->((xs.length≠ys.length->Q (.bl neg) H))->Qj K neg x y H Q
theorem Uy(hu:X.A.units+64<cLine):oW X (compareOp .Eq) (Qj X.K false):=by
 intro pins s σ H x y v u Q I rx ry h;obtain⟨a,b,xs,ys,n,e,rfl,rfl,ha,hb,hn,d,q1,q2⟩:=h;cases rx;cases ry;obtain⟨us,r1,p1,_⟩:=I.list ha;obtain⟨vs,r2,p2,_⟩:=I.list hb
 by_cases len:xs.length=ys.length
 ·have w:=SeqAt.RcAt.lists (A:=X.A) (e:=e) p1.isList p2.isList (by rw[size_toArray,size_toArray,<- r1.length,<- r2.length,len]) (by omega) λj h1 h2=>by
   obtain⟨x,ex,rx⟩:=r1.item h1;obtain⟨y,ey,ry⟩:=r2.item h2;exact(d len j x y ex ey).at_ I X.A.in1 _ _ (by rw[show ∀A:eE,A.in1.units=A.units+1 from λ_=>rfl];omega) rx ry
  rw[size_toArray,<- r1.length]at w;have q:=q1 len;rw[Bool.false_xor]at q;exact w X.prog X.w X.xe _ ⟨.bl _,H,I,rfl,q⟩
 ·have w:=SeqAt.RcAt.lists_lengths (A:=X.A) p1.isList p2.isList (by rw[size_toArray,size_toArray,<- r1.length,<- r2.length];simpa using len) (by omega);exact w X.prog X.w X.xe _ ⟨.bl _,H,I,rfl,q2 len⟩
theorem JG(hu:X.A.units+64<cLine):oW X (compareOp .NotEq) (Qj X.K true):=by
 intro pins s σ H x y v u Q I rx ry h;obtain⟨a,b,xs,ys,n,e,rfl,rfl,ha,hb,hn,d,q1,q2⟩:=h;cases rx;cases ry;obtain⟨us,r1,p1,_⟩:=I.list ha;obtain⟨vs,r2,p2,_⟩:=I.list hb
 by_cases len:xs.length=ys.length
 ·have w:=SeqAt.RcNeAt.lists (A:=X.A) (e:=e) p1.isList p2.isList (by rw[size_toArray,size_toArray,<- r1.length,<- r2.length,len]) (by omega) λj h1 h2=>by
   obtain⟨x,ex,rx⟩:=r1.item h1;obtain⟨y,ey,ry⟩:=r2.item h2;exact(d len j x y ex ey).at_ I X.A.in1 _ _ (by rw[show ∀A:eE,A.in1.units=A.units+1 from λ_=>rfl];omega) rx ry
  rw[size_toArray,<- r1.length]at w;have q:=q1 len;rw[Bool.true_xor]at q;exact w X.prog X.w X.xe _ ⟨.bl _,H,I,rfl,q⟩
 ·have w:=SeqAt.RcNeAt.lists_lengths (A:=X.A) p1.isList p2.isList (by rw[size_toArray,size_toArray,<- r1.length,<- r2.length];simpa using len) (by omega);exact w X.prog X.w X.xe _ ⟨.bl _,H,I,rfl,q2 len⟩
inductive Uz(x:V)(vs:List V)(H:Hp)(Q:VK):Prop
 |mk:∀l xs y,x=.ref l->vs=[y]->H l=some (.lst xs)->iR y=true->xs.all iR=true->Q (.int (xs.countP λz=>sW z y)) H->Uz x vs H Q
theorem yP{x:V}:∀{xs:List V}{us:List aC},Vals xs us->xs.all iR=true->us.countP (CW x)=xs.countP λy=>sW y x
 |_,_,.nil,_=>rfl
 |y::xs,u::us,.cons r t,f=>by
  rw[all_cons,Bool.and_eq_true]at f;rw[countP_cons,countP_cons,yP t f.2,CZ r f.1]
theorem UG:MtM X "list.count" Uz:=by
 intro pins s σ H x vs v us Q I rx rv h;obtain⟨l,xs,y,rfl,rfl,hH,fy,fs,q⟩:=h;cases rx;obtain⟨u,rfl,ru⟩:=rv.one;obtain⟨z,its,n,r,hl,e⟩:=I.FW hH;refine call_meets F.slot_list_count ⟨_,e,rfl⟩ F.entry_list_count (F.args_list_count_2 _ _) (SeqAt.list_countAt l its.toArray n none #[] u (CW y)) ⟨e,λw hw=>nR ru fy r fs w (by simpa using hw),?_⟩;refine⟨.int _,H,I.tok _,⟨_,rfl⟩,?_⟩;rw[yP r fs];exact q
inductive UJ(x:V)(vs:List V)(H:Hp)(Q:VK):Prop
 |mk:∀l xs y j,x=.ref l->vs=[y]->H l=some (.lst xs)->iR y=true->xs.all iR=true->(∃z,xs[j]?=some z/\sW z y=true)->((∀i z,i<j->xs[i]?=some z->sW z y=false))->Q (.int (j:Nat)) H->UJ x vs H Q
theorem Gs:MtM X "list.index" UJ:=by
 intro pins s σ H x vs v us Q I rx rv h;obtain⟨l,xs,y,j,rfl,rfl,hH,fy,fs,⟨z,hz,ez⟩,no,q⟩:=h;cases rx;obtain⟨u,rfl,ru⟩:=rv.one;obtain⟨sz,its,n,r,hl,e⟩:=I.FW hH;have fl:∀(i:Nat) x,xs[i]?=some x->iR x=true:=λi x hx=>all_eq_true.mp fs x (aQ hx)
 have hj:j<its.toArray.size:=by
  have:=(aM.mp hz).1;rw[size_toArray];omega
 have small:(j:Int)<2^63-1:=by
  have h1:j<sizeLine:=by rw[size_toArray]at hj;omega
  have h2:(sizeLine:Nat)<2^62:=by rw[sizeLine_eq];decide
  omega
 have at_:∀(m:Nat)(hm:m<its.toArray.size) x,xs[m]?=some x->CW y its.toArray[m]=sW x y:=λm hm x hx=>by
  obtain⟨x',ex,rx'⟩:=r.item hm;rw[hx]at ex;cases ex;exact CZ rx' (fl m x hx)
 refine call_meets F.slot_list_index ⟨_,e,rfl⟩ F.entry_list_index (F.args_list_index_2 _ _) (SeqAt.list_indexAt l its.toArray n none #[] u (CW y) j hj small (by rw[at_ j hj z hz];exact ez) λm hm lt=>?_) ⟨e,λw hw=>nR ru fy r fs w (by simpa using hw),⟨.int _,H,I.tok _,⟨_,rfl⟩,q⟩⟩;obtain⟨x',ex,_⟩:=r.item hm;rw[at_ m hm x' ex];exact no m x' lt ex
end L2
namespace Tw
open PySem L2
inductive Kd where
 |non|bl|int|str|lst|tup|ins (C:aB)
def Kd.ty:Kd->aC
 | .non=>.type "NoneType"
 | .bl=>.type "bool"
 | .int=>.type "int"
 | .str=>.type "str"
 | .lst=>.type "list"
 | .tup=>.type "tuple"
 | .ins C=>.ref C
inductive BT where
 |bool|int|str|list|tuple
def BT.nm:BT->String
 | .bool=>"bool" | .int=>"int" | .str=>"str" | .list=>"list" | .tuple=>"tuple"
def bi:Kd->BT->Bool
 | .bl,.bool=>true
 | .bl,.int=>true
 | .int,.int=>true
 | .str,.str=>true
 | .lst,.list=>true
 | .tup,.tuple=>true
 |_,_=>false
structure Aj(K:Fg)(C:aB):Prop where
 cl:Cls K C
 ha:findIn K (.ref C) "__class__"=some (some (.builtin "object.__class__"))
 hn:specialIn K (.builtin "object.__class__") "__get__"=some (some (.builtin "getset_descriptor.__get__"))
 htk:takesIn K (.builtin "object.__class__")=some true
 hm:mroIn K C (.type "object")=some true
 no:∀b:BT,kitOne K (.ref C) (.type b.nm)=some false
noncomputable def g8(K:Fg)(H:Hp)(v:V):Kd->Prop
 | .non=>v=.non
 | .bl=>∃b,v=.bl b
 | .int=>∃i,v=.int i
 | .str=>∃x,v=.str x
 | .lst=>∃a xs,v=.ref a/\(H a=some (.lst xs)\/∃o,H a=some (.CJ o (.lst xs)))
 | .tup=>∃a xs,v=.ref a/\H a=some (.tup xs)
 | .ins C=>∃a dx fs,v=.ref a/\H a=some (.ins C dx fs)/\Aj K C
theorem g8.tyOf(h:g8 K H v k):sV K H v k.ty:=by
 cases k with
 |non=>cases h;exact .non
 |bl=>obtain⟨b,rfl⟩:=h;exact .bl b
 |int=>obtain⟨i,rfl⟩:=h;exact .int i
 |str=>obtain⟨x,rfl⟩:=h;exact .str x
 |lst =>
  obtain⟨a,xs,rfl,e|⟨o,e⟩⟩:=h
  ·exact .lst e
  ·exact .CJ e
 |tup=>obtain⟨a,xs,rfl,e⟩:=h;exact .tup e
 |ins C=>obtain⟨a,dx,fs,rfl,e,t⟩:=h;exact .ins e t.cl t.ha t.hn t.htk t.hm
theorem g8.bi(h:g8 K H v k)(b:BT):kitOne K k.ty (.type b.nm)=some (bi k b):=by
 cases k with
 |ins C=>obtain⟨a,dx,fs,rfl,e,t⟩:=h;cases b<;>exact t.no _
 |_=>cases b<;>rfl
theorem g8.same(h:g8 K H v k)(s:Same H H'):g8 K H' v k:=by
 cases k with
 |lst =>
  obtain⟨a,xs,rfl,e|⟨o,e⟩⟩:=h
  ·exact⟨a,xs,rfl,.inl (s _ _ e)⟩
  ·exact⟨a,xs,rfl,.inr ⟨o,s _ _ e⟩⟩
 |tup=>obtain⟨a,xs,rfl,e⟩:=h;exact⟨a,xs,rfl,s _ _ e⟩
 |ins C=>obtain⟨a,dx,fs,rfl,e,t⟩:=h;exact⟨a,dx,fs,rfl,s _ _ e,t⟩
 |_=>exact h
variable{X:Cx}{e:Expr}{p pos:Pos}
section
variable{te:TE}{p2:Pos}
theorem UL(b:BT):jw X (.builtin "isinstance") (λxs H Q=>∃v k,xs=[v,.ty b.nm]/\g8 X.K H v k/\Q (.bl (bi k b)) H):=by
 intro pins s σ H xs us Q I r h;obtain⟨v,k,rfl,hk,q⟩:=h;exact Dm pins s σ H _ us Q I r ⟨v,b.nm,k.ty,bi k b,rfl,hk.bi b,hk.tyOf,q⟩
theorem UW:jw X (.builtin "isinstance") (λxs H Q=>∃v k C b,xs=[v,.ref C]/\g8 X.K H v k/\kitOne X.K k.ty (.ref C)=some b/\Q (.bl b) H):=by
 intro pins s σ H xs us Q I r h;obtain⟨v,k,C,b,rfl,hk,e,q⟩:=h;exact Gq pins s σ H _ us Q I r ⟨v,.ref C,C,k.ty,b,rfl,⟨rfl,e⟩,hk.tyOf,q⟩
theorem oK(b:BT)(hi:X.mg "isinstance"=none)(hx:X.mg x=none)(he:PE X e te)(hg:autoParam (Gl X "isinstance") zau0)(hgx:autoParam (Gl X x) zau0)(hv:autoParam (bootBuiltins x=some (.type b.nm)) zau4)(hn:autoParam (x≠"__name__") zau1)(hd:autoParam ((x == ("__debug__":Str))=false) zau1)(h1:autoParam (starEach [e,.Name x p2] X.env=(false,eval e X.env)::starEach [.Name x p2] X.env) zau0)(h2:autoParam ((backTo pos (starEach [.Name x p2] X.env)).any (·.1)=false) zau0)(h3:autoParam (starEach [.Name x p2] X.env=(false,eval (.Name x p2) X.env)::starEach [] X.env) zau0) : PE X (.Call (.Name "isinstance" p) [e,.Name x p2] [] pos) (tCB (λxs H Q=>∃v k,xs=[v,.ty b.nm]/\g8 X.K H v k/\Q (.bl (bi k b)) H) (Bf te (Bf (tC (.ty b.nm)) PN))) := yG (X:=X) (p:=p) (pos:=pos) (UL b) hg hi boot_isinstance (ao he (ao (MK (T:=b.nm) (pos:=p2) hgx hx hv hn hd) aG h3) h1) (by decide) (by decide) h1 h2
theorem adx{C:aB}(hi:X.mg "isinstance"=none)(hx:X.mg x=some (.ref C))(he:PE X e te)(hg:autoParam (Gl X "isinstance") zau0)(hgx:autoParam (Gl X x) zau0)(hd:autoParam ((x == ("__debug__":Str))=false) zau1)(h1:autoParam (starEach [e,.Name x p2] X.env=(false,eval e X.env)::starEach [.Name x p2] X.env) zau0)(h2:autoParam ((backTo pos (starEach [.Name x p2] X.env)).any (·.1)=false) zau0)(h3:autoParam (starEach [.Name x p2] X.env=(false,eval (.Name x p2) X.env)::starEach [] X.env) zau0) : PE X (.Call (.Name "isinstance" p) [e,.Name x p2] [] pos) (tCB (λxs H Q=>∃v k C b,xs=[v,.ref C]/\g8 X.K H v k/\kitOne X.K k.ty (.ref C)=some b/\Q (.bl b) H) (Bf te (Bf (tC (.ref C)) PN))) := yG (X:=X) (p:=p) (pos:=pos) UW hg hi boot_isinstance (ao he (ao (Mf (v:=.ref C) (pos:=p2) hgx hx rfl hd) aG h3) h1) (by decide) (by decide) h1 h2
theorem xV(n:Nat)(hn:n<=sizeLine)(y:Nat->V)(Pv:Nat->Hp->Prop)(start:Pv 0 (upd H1 D (.lst [])))(at_:∀i H,i<=n->Pv i H->H D=some (.lst ((List.range i).map y)))(stop:∀H,Pv n H->J.stop n H/\Qe H)(go:∀i H,i<n->Pv i H->J.go i H/\∀x H',J.Jm i H x H'->∀Qc:VK,(∀H3,H3 D=some (.lst ((List.range i).map y))->Pv (i+1) (upd H3 D (.lst ((List.range (i+1)).map y)))->Qc (y i) H3)->g x σ0 H' λσ2 H2=>nU σ0 σ2/\te σ2 H2 Qc) : ∃W:Nat->Nat->List V->Hp->Prop,(∃m,W 0 m [] (upd H1 D (.lst [])))/\qm D J σ0 g Di te Qe W:=by
 refine⟨λi m ac H=>i<=n/\m=n-i/\ac=(List.range i).map y/\Pv i H,⟨n,dG _,rfl,rfl,start⟩,?_⟩;rintro i m ac H ⟨le,rfl,rfl,p⟩;refine⟨at_ i H le p,?_⟩
 by_cases lt:i<n
 ·obtain⟨g1,step⟩:=go i H lt p;refine .inr ⟨g1,by rw[ak,bK];exact bJ lt hn,λx H' yl=>?_⟩;simp only[Di,if_true];refine step x H' yl _ λH3 hD nx=>?_
  have e:(List.range i).map y++[y i]=(List.range (i+1)).map y:=by rw[dD,aX];rfl
  exact⟨hD,n-(i+1),by omega,lt,rfl,e,by rw[e];exact nx⟩
 ·have e:i=n:=by omega
  subst e;exact .inl (stop H p)
theorem aV(h:H D=none):Same H (upd H D o):=λb u e=>by rw[bf (dN e h)];exact e
theorem eO{id:String}(hc:jw X (.builtin id) r)(hm:X.mg x=none)(hv:bootBuiltins x=some (.builtin id))(ha:PA X (e::es) t)(hg:autoParam (Gl X x) zau0)(hn:autoParam (x≠"__name__") zau1)(hdb:autoParam ((x == ("__debug__":Str))=false) zau1)(he:autoParam (starEach (e::es) X.env=(false,eval e X.env)::starEach es X.env) zau0)(hpl:autoParam ((backTo pos (starEach es X.env)).any (·.1)=false) zau0):PE X (.Call (.Name x p) (e::es) [] pos) (tCB r t):=yG hc hg hm hv ha hn hdb he hpl
theorem oH(v:V)(hm:X.mg x=some u)(r:RelV v u)(hg:autoParam (Gl X x) zau0)(hd:autoParam ((x == ("__debug__":Str))=false) zau1):PE X (.Name x pos) (tC v):=Mf hg hm r hd
theorem cR(i:Nat)(hN:X.N.Nodup)(hi:autoParam (X.N[i]?=some x) zau0)(hx:Loc X.env.scope x:=by exact Or.inl rfl)(hf:X.fn x=true\/X.env.scope.names.lookup x=some .local:=by first|exact .inl rfl|exact .inr rfl):PG X (.Name x pos) (yw i):=Zc hN hi hx hf
end
structure agC(K:Fg)(C:aB)(m:Str)(f:aB):Prop where
 rd:readsIn K C (.type "type")=true
 ga:specialIn K (.ref C) "__getattribute__"=some (some (.builtin "type.__getattribute__"))
 at_:findCls K (.ref C) (.type "type") m=some (.val (.ref f))
 kp:keepIn K (.ref f)=true
section
variable{CX:Bg}{k:Nat}{f C:aB}{fd:fH}{ps:List Str}{sp:Sp}{qb:List V}{ds:List aC}{E:XK}{x m:Str}{apos:Pos}{o:Expr}{es:List Expr}{ta:TE}{t:TA}
theorem c7(F:cM X.prog X.w X.K X.mg X.base CX k f fd ps sp)(hr:eZ k X.A)(hm:X.mg x=some (.ref f))(hk:keepIn X.K (.ref f)=true)(hb:Binds X.K fd ps [])(hx:Passes CX X E)(ha:PA X (e::es) t)(hg:autoParam (Gl X x) zau0)(hdb:autoParam ((x == ("__debug__":Str))=false) zau1)(he:autoParam (starEach (e::es) X.env=(false,eval e X.env)::starEach es X.env) zau0)(hpl:autoParam ((backTo pos (starEach es X.env)).any (·.1)=false) zau0) : PE X (.Call (.Name x p) (e::es) [] pos) (FP sp [] E t):=tY F hr hg hm hk hb .nil hx ha hdb he hpl
theorem yQ(M:Mk X.K C f)(F:cM X.prog X.w X.K X.mg X.base CX k f fd ps sp)(hr:eZ (k+1) X.A)(hm:X.mg x=some (.ref C))(hb:Binds X.K fd ps [])(hx:Passes CX X E)(ha:PA X (e::es) t)(hg:autoParam (Gl X x) zau0)(hdb:autoParam ((x == ("__debug__":Str))=false) zau1)(he:autoParam (starEach (e::es) X.env=(false,eval e X.env)::starEach es X.env) zau0)(hpl:autoParam ((backTo pos (starEach es X.env)).any (·.1)=false) zau0) : PE X (.Call (.Name x p) (e::es) [] pos) (abJ C sp [] E t):=Zk M F hr hg hm hb .nil hx ha hdb he hpl
theorem ZD(hx:X.mg x=some (.ref C))(hm:agC X.K C m f)(F:cM X.prog X.w X.K X.mg X.base CX k f fd ps sp)(hr:eZ k X.A)(hb:Binds X.K fd ps [])(hp:Passes CX X E)(ha:PA X (e::es) t)(hg:autoParam (Gl X x) zau0)(hdb:autoParam ((x == ("__debug__":Str))=false) zau1)(hst:autoParam (starEach (e::es) X.env=(false,eval e X.env)::starEach es X.env) zau0)(hpl:autoParam ((backTo pos (starEach es X.env)).any (·.1)=false) zau0)(ht:autoParam (eval (.Call (.Attribute (.Name x p) m apos) (e::es) [] pos) X.env=(do
   let ov <- eval (.Name x p) X.env
   standAt apos.atName
   let (f,first) <- holding [ov] (getMethod ov m pl)
   callWith pos f first (backTo pos (starEach (e::es) X.env)) (backToKw pos (keywordEach [] X.env)))) zau0) :
  PE X (.Call (.Attribute (.Name x p) m apos) (e::es) [] pos) (FP sp [] E t):=by
 intro pins s σ H Q I h;refine methodCall_KW (pl:=pl) (lK I hg hx ?_ hdb) ht;refine method_cls I.oR hm.ga (cls_value I.oR hm.rd hm.at_ rfl ?_);have I1:=I.tok (s.toks+1);refine callWith_K (h₀:=X.base) I.ok.mod.Fq hm.kp (f9 (ha pos pins _ σ H _ I1 h) λus s2 ⟨vs,H2,I2,r,q2⟩=>⟨I2.oR,?_⟩) hst hpl;exact yE F hr hb .nil hp I2 r q2
noncomputable def U0(Cs:aB->Prop)(m:Str)(sp:aB->Sp)(E:XK)(ta:TE)(t:TA):TE:=λσ H Q=>ta σ H λx H1=>∃a C dx fs,x=.ref a/\H1 a=some (.ins C dx fs)/\Cs C/\fs.lookup m=none/\t σ H1 λvs H2=>sp C (x::vs) H2 Q E
theorem yR{sp:aB->Sp}(he:PE X o ta)(hr:eZ k X.A)(hC:∀C,Cs C->∃f fd,Cls X.K C/\Meth X.K C m f/\cM X.prog X.w X.K X.mg X.base CX k f fd ps (sp C)/\Binds X.K fd ps [])(hx:Passes CX X E)(ha:PA X (e::es) t)(hst:autoParam (starEach (e::es) X.env=(false,eval e X.env)::starEach es X.env) zau0)(hpl:autoParam ((backTo pos (starEach es X.env)).any (·.1)=false) zau0)(ht:autoParam (eval (.Call (.Attribute o m apos) (e::es) [] pos) X.env=(do
   let ov <- eval o X.env
   standAt apos.atName
   let (f,first) <- holding [ov] (getMethod ov m pl)
   callWith pos f first (backTo pos (starEach (e::es) X.env)) (backToKw pos (keywordEach [] X.env)))) zau0) :
  PE X (.Call (.Attribute o m apos) (e::es) [] pos) (U0 Cs m sp E ta t):=by
 intro pins s σ H Q I h;refine methodCall_KW (pl:=pl) (f9 (he pins s σ H _ I h) λu s1 ⟨x,H1,I1,rx,a,C,dx,fs,ex,ea,cs,l,q⟩=>?_) ht;subst ex;obtain rfl:u=Value.ref a:=rx;obtain⟨f,fd,c,hm,F,hb⟩:=hC C cs;refine pB I1 ea c hm l ?_;refine callWith_K (first:=[.ref a]) (h₀:=X.base) I.ok.mod.Fq hm.kp (f9 (ha pos pins s1 σ H1 _ I1 q) λus s2 ⟨vs,H2,I2,r,q2⟩=>⟨I2.oR,?_⟩) hst hpl;have:=yE (us:=.ref a::us) (vs:=.ref a::vs) (qb:=[]) (ds:=[]) (Q:=Q) F hr hb .nil hx I2 (.cons rfl r) (by rw[append_nil];exact q2);exact this
theorem wM(K:Fg){fl:Str}(he:PE X o ta)(hK:autoParam (X.K=K) zau0)(hb:autoParam (attributeBase o fl X.env (eval o X.env)=eval o X.env) zau0):PE X (.Attribute o fl pos) (ac5 K ta fl):=by
 subst hK;exact fJ he hb
end
theorem lZ(n:Nat)(hn:n<=sizeLine)(Pv:Nat->List V->Hp->Prop)(start:Pv 0 [] (upd H1 D (.lst [])))(at_:∀i acc H,i<=n->Pv i acc H->acc.length=i/\H D=some (.lst acc))(stop:∀acc H,Pv n acc H->J.stop n H/\Qe H)(go:∀i acc H,i<n->Pv i acc H->J.go i H/\∀x H',J.Jm i H x H'->∀Qc:VK,(∀v H3,H3 D=some (.lst acc)->Pv (i+1) (acc++[v]) (upd H3 D (.lst (acc++[v])))->Qc v H3)->g x σ0 H' λσ2 H2=>nU σ0 σ2/\te σ2 H2 Qc) : ∃W:Nat->Nat->List V->Hp->Prop,(∃m,W 0 m [] (upd H1 D (.lst [])))/\qm D J σ0 g Di te Qe W:=by
 refine⟨λi m ac H=>i<=n/\m=n-i/\Pv i ac H,⟨n,dG _,rfl,start⟩,?_⟩;rintro i m ac H ⟨le,rfl,p⟩;obtain⟨la,hD⟩:=at_ i ac H le p;refine⟨hD,?_⟩
 by_cases lt:i<n
 ·obtain⟨g1,step⟩:=go i ac H lt p;refine .inr ⟨g1,by rw[la];exact bJ lt hn,λx H' yl=>?_⟩;simp only[Di,if_true];refine step x H' yl _ λv H3 hD nx=>?_
  exact⟨hD,n-(i+1),by omega,lt,rfl,nx⟩
 ·have e:i=n:=by omega
  subst e;exact .inl (stop ac H p)
theorem qT(n:Nat)(hn:n<=sizeLine)(Pv:Nat->List V->Hp->Prop)(start:Pv 0 [] (upd H1 D (.lst [])))(at_:∀i acc H,i<=n->Pv i acc H->acc.length<=i/\H D=some (.lst acc))(stop:∀acc H,Pv n acc H->J.stop n H/\Qe H)(go:∀i acc H,i<n->Pv i acc H->J.go i H/\∀x H',J.Jm i H x H'->∀(Qc:VK) (Qn:Hp->Prop),(∀v H3,H3 D=some (.lst acc)->Pv (i+1) (acc++[v]) (upd H3 D (.lst (acc++[v])))->Qc v H3)->(∀H3,Pv (i+1) acc H3->Qn H3) -> g x σ0 H' λσ2 H2=>nU σ0 σ2/\tc σ2 H2 λb H3=>if b=true then te σ2 H3 Qc else Qn H3) : ∃W:Nat->Nat->List V->Hp->Prop,(∃m,W 0 m [] (upd H1 D (.lst [])))/\qm D J σ0 g tc te Qe W:=by
 refine⟨λi m ac H=>i<=n/\m=n-i/\Pv i ac H,⟨n,dG _,rfl,start⟩,?_⟩;rintro i m ac H ⟨le,rfl,p⟩;obtain⟨la,hD⟩:=at_ i ac H le p;refine⟨hD,?_⟩
 by_cases lt:i<n
 ·obtain⟨g1,step⟩:=go i ac H lt p;refine .inr ⟨g1,Nat.lt_of_le_of_lt la (bJ lt hn),λx H' yl=>?_⟩;exact step x H' yl _ _ (λv H3 hD nx=>⟨hD,n-(i+1),by omega,lt,rfl,nx⟩) (λH3 nx=>⟨n-(i+1),by omega,lt,rfl,nx⟩)
 ·have e:i=n:=by omega
  subst e;exact .inl (stop ac H p)
theorem iw{cl:List (Str×aB)}(cap:List (Option Nat))(N:List Str)(sn rn:List (Str×NameKind))(ks:List Str)(kind:scope.kind=.function)(ql:∀y∈scope.names,y.2≠.cell)(names:∀y∈scope.names,y.2=.local->scope.names.lookup y.1=some .local)(clos:closureFor scope X.env=pure cl)(sub:∀p∈cl,X.env.cells.lookup p.1=some p.2)(hN:X.N=N)(hs:X.env.scope.names=sn)(rel:(relabel scope X.env).names=rn)(hk:cl.map (·.1)=ks)(has:∀y∈rn,(y.2=.cell\/y.2=.free)->y.1∈ks)(len:cap.length=N'.length)(cp:∀p∈cap.zip N',∀j,p.1=some j->N[j]?=some p.2/\sn.lookup p.2=some .cell/\rn.lookup p.2=some .cell):gY X scope cl N' cap:=by
 refine⟨kind,ql,names,clos,λn c h=>?_,λn h=>?_,len,λi j x h1 h2=>?_⟩
 ·exact sub (n,c) (PySem.mem_of_lookup h)
 ·rw[rel]at h;have hm:n∈cl.map (·.1):=by
   rw[hk];rcases h with h|h
   ·exact has _ (PySem.mem_of_lookup h) (.inl rfl)
   ·exact has _ (PySem.mem_of_lookup h) (.inr rfl)
  obtain⟨p,hp,rfl⟩:=bM.mp hm;cases e:cl.lookup p.1 with
  |some c=>exact⟨c,rfl⟩
  |none =>
   rw[List.lookup_eq_none_iff]at e;exact absurd (beq_self_eq_true p.1) (by have:=e p hp;simpa using this)
 ·rw[hN,hs,rel];refine cp (some j,x) ?_ j rfl;rw[mem_iff_getElem?];exact⟨i,by rw[List.getElem?_zip_eq_some];exact⟨h1,h2⟩⟩
theorem JH{r:St}:nU (none::r) ((none::r).set 0 x):=by
 intro j v h;cases j with
 |zero=>simp at h
 |succ j=>exact h
theorem dW :∀{xs:List α}{ys:List β}{i:Nat}{x:α},Paired R xs ys->xs[i]?=some x->∃y,ys[i]?=some y/\R x y
 |_,_,_,_,.nil,e=>by simp at e
 |_,_,0,_,.cons r _,e=>by simp at e;subst e;exact⟨_,rfl,r⟩
 |_,_,i+1,_,.cons _ t,e=>dW (i:=i) t (by simpa using e)
theorem take_snoc{α:Type}{xs:List α}{x:α}(h:xs[i]?=some x):xs.take (i+1)=xs.take i++[x]:=by
 rw[List.take_add_one,h];rfl
theorem uo(h:iR x=true):sW x x=true:=by
 cases x<;>first|rfl|(simp[sW];done)|exact absurd h (by simp[iR])
end Tw
namespace L2
open PySem PySem.Spec PyProof.Rows
noncomputable def ady:Expr->Option V
 | .Constant (.int n) _ _=>some (V.int n)
 | .Constant (.str z) _ _=>some (V.str z)
 | .Constant (.bool b) _ _=>some (.bl b)
 | .Constant .none _ _=>some .non
 | .UnaryOp .USub (.Constant (.int n) _ _) _=>some (V.int (-n))
 |_=>none
def abV:List Expr->Option (List V)
 |[]=>some []
 |e::es=>(ady e).bind λv=>(abV es).map λvs=>v::vs
variable{X:Cx}
theorem adz(h:ady e=some v):PE X e (tC v)/\starEach (e::es) X.env=(false,eval e X.env)::starEach es X.env:=by
 unfold ady at h
 split at h
 ·cases h;exact⟨aP,rfl⟩
 ·cases h;exact⟨eY,rfl⟩
 ·cases h;exact⟨jW,rfl⟩
 ·cases h;exact⟨jR,rfl⟩
 ·cases h;refine⟨λpins s σ H Q I q=>?_,rfl⟩;exact Fv yx aP pins s σ H Q I ⟨_,rfl,q⟩
 ·cases h
def agD(vs:List V):TA:=λ_ H Q=>Q vs H
theorem uq(vs:List V)(h:abV es=some vs):PA X es (agD vs):=by
 induction es generalizing vs with
 |nil =>
  cases h;exact λpos pins s σ H Q I q=>aG pos pins s σ H Q I q
 |cons e es ih =>
  obtain⟨v,hv,h⟩:=Option.bind_eq_some_iff.mp h;obtain⟨ws,hw,rfl⟩:=bh.mp h;obtain⟨p,st⟩:=adz (X:=X) (es:=es) hv;exact λpos pins s σ H Q I q=>ao p (ih ws hw) st pos pins s σ H Q I q
theorem Qk:typeLookup (.type "list_reverseiterator") "__len__"=pure none:=by rw[typeLookup_type,builtinLookup_eq_fast];kernel_rfl
theorem U3:typeLookup (.type "list_reverseiterator") "__length_hint__"=pure (some (.builtin "list_reverseiterator.__length_hint__")):=by rw[typeLookup_type,builtinLookup_eq_fast];kernel_rfl
section
variable{prog:cC}{w:World}{A:eE}{E:aC->aW->Prop}{s:aW}{J l:aB}{its:Array aC}
theorem JK{Q:Bool->aW->Prop}(hT:s.TypeIs (.ref J) "list_reverseiterator")(h:Q false s):wpAny (model prog w) A (Builtin.List.listLengthHint (.ref J)) Q E s:=by
 unfold Builtin.List.listLengthHint;refine aj (wpAny_specialOf hT Qk ?_)
 show wpAny _ A (specialOf (Value.ref J) (Str.ofString "__length_hint__") >>= _) _ _ s
 refine aj (wpAny_specialOf hT U3 ?_);generalize hid:("list_reverseiterator.__length_hint__":String)=id0
 wp_delta
 rw[show splitId id0=some ("list_reverseiterator","__length_hint__") from by subst hid;decide +kernel];subst hid;refine aj (wpAny_isInstance (s:=s) (b:=true) hT (by rw[isSubtype_type];kernel_rfl) ?_);exact au h
abbrev MN(J l:aB)(its:Array aC):Nat->aW->Prop:=λi s=>i<=its.size/\s.heap.IsRevIter J l ((its.size:Int)-1-(i:Int))/\s.heap.IsList l its
theorem Gu{Q:List aC->aW->Prop}(hh:A.handled=none)(ne:l≠J)(st:MN J l its 0 s)(hz:its.size<=sizeLine)(hQ:∀s' acc,Moved [J] (λa b=>b=a) s s'->ItemsOf (λi v=>its[its.size-1-i]?=some v) acc its.size->Q acc.toList s'):wpAny (model prog w) A (collect (.ref J)) Q E s:=by
 have W:=(Walks.listRev (prog:=prog) (w:=w) (A:=A.in1) hh J l ne its).toS;obtain⟨lJ,ll⟩:J<s.heap.objs.size/\l<s.heap.objs.size:=by
  obtain⟨_,⟨o,e,_⟩,⟨o',e',_⟩⟩:=st;exact⟨Heap.lt_size e,Heap.lt_size e'⟩
 have out:s.heap.objs.size∉[J,l]:=by
  intro m;simp only[aR,mem_nil_iff,or_false]at m;rcases m with m|m
  ·exact dH _ (m ▸ lJ)
  ·exact dH _ (m ▸ ll)
 have neJ:s.heap.objs.size≠J:=λm=>dH _ (m ▸ lJ)
 unfold collect;refine aj (wpAny_runValue (codeAny_builtin F.entry_proto_collect ?_));rw[Around.under_plainId F.plain_proto_collect _]
 show wpAny _ A.in1 (newList [] >>= λm=>again (.builtin "list.__iadd__" ⟨[m,.ref J],[]⟩)) _ _ s
 refine aj (wpAny_newObj_type (au ⟨plainId_quiet F.plain_list_iadd _,codeAny_builtin F.entry_list_iadd ?_⟩));rw[Around.under_plainId F.plain_list_iadd _];have st1:=W.frame 0 s (s.heap.push {cls:=.type "list",data:=.seq ([]:List aC).toArray}) s.toks st (aO _) (λb _ o e=>aq _ e);have new1:(s.heap.push {cls:=.type "list",data:=.seq ([]:List aC).toArray}).get? s.heap.objs.size=some {cls:=.type "list",data:=.seq ([]:List aC).toArray}:=(aN _ rfl);have same:Builtin.List.listSameRef (.ref s.heap.objs.size) (.ref J)=false:=by simp[Builtin.List.listSameRef,neJ]
 show wpAny _ A.in1 (Builtin.List.listExtendWith (.ref s.heap.objs.size) (.ref J) (.ref s.heap.objs.size)) _ _ _;unfold Builtin.List.listExtendWith
 have tJ:Shared.TypeIs {s with heap:=s.heap.push {cls:=.type "list",data:=.seq ([]:List aC).toArray} } (.ref J) "list_reverseiterator":=st1.2.1.typeIs;refine aj (wpAny_typeOf tJ ?_);rw[if_neg (by rw[same];decide)];refine aj (W.self 0 _ _ _ st1 (aj (wpAny_holding (JK tJ ?_))));rw[if_neg (by decide)];refine au ⟨plainId_quiet F.plain_extend_loop _,codeAny_extend_loopS W hz _ out _ its.size 0 _ _ _ rfl (dG _) st1 new1 (ItemsOf.nil _) λs' acc c hm hS ha=>?_⟩
 show wpAny _ A (load s.heap.objs.size >>= _) _ _ s';exact aj (wpAny_load hS (au (hQ s' acc (Moved.drop_new (o:={cls:=.type "list",data:=.seq ([]:List aC).toArray}) (tk:=s.toks) hm (aO _)) ha)))
theorem Ak{Q:aC->aW->Prop}(hh:A.handled=none)(ne:l≠J)(st:MN J l its 0 s)(hz:its.size<=sizeLine)(hQ:∀s' acc,Moved [J] (λa b=>b=a) s s'->ItemsOf (λi v=>its[its.size-1-i]?=some v) acc its.size->Q (.ref s'.heap.objs.size) {s' with heap:=s'.heap.push {cls:=.type "tuple",data:=.seq acc} }) : codeAny (model prog w) A (.call (.builtin "tuple.__new__") ⟨[.type "tuple",.ref J],[]⟩) (wants Q E) s:=by
 refine codeAny_of_tree ?_
 show wpAny _ A.in1 (do checkBuiltinCall "tuple.__new__" ⟨[.type "tuple",.ref J],[]⟩;again (.builtin "tuple.__new__" ⟨[.type "tuple",.ref J],[]⟩)) _ _ s
 refine aj (wpAny_of_eq (F.newCall_tuple_1 _) (au ⟨plainId_quiet F.plain_tuple_new _,codeAny_builtin (F.entry_tuple_new) ?_⟩));rw[Around.under_plainId F.plain_tuple_new _];have h1:=sub_tuple_self;have h2:=init_tuple_lookup;have h3:=madeHere_tuple;have tJ:=st.2.1.typeIs
 wp_walk using wpAny_typeOf tJ,Gu (A:=A.in1) hh ne st hz
 intro s' acc hm ha
 show wpAny _ _ (Builtin.Tuple.tupleExact acc.toList.toArray >>= λv=>ret v) _ _ s'
 rw[show acc.toList.toArray=acc by simp];unfold Builtin.Tuple.tupleExact;refine aj (wpAny_newObj_type (au (hQ s' acc hm ha)) (by show acc.size<=sizeLine;rw[ha.1];exact hz))
theorem Ql{Q:aC->aW->Prop}(hh:A.handled=none)(ne:l≠J)(st:MN J l its 0 s)(hz:its.size<=sizeLine)(hQ:∀s' acc,Moved [J] (λa b=>b=a) s s'->ItemsOf (λi v=>its[its.size-1-i]?=some v) acc its.size->Q (.ref s'.heap.objs.size) {s' with heap:=s'.heap.push {cls:=.type "tuple",data:=.seq acc} }) : wpAny (model prog w) A (call (.type "tuple") [.ref J]) Q E s:=by
 refine callType_codes (Q₁:=λobj s1=>s1.TypeIs obj "tuple"/\Q obj s1) F.called_tuple (F.typeCall_tuple_1 _) F.entry_object_init (Ak hh ne st hz λs' acc hm ha=>⟨⟨_,aN _ rfl,rfl⟩,hQ s' acc hm ha⟩) λobj s1 h1=>?_
 exact⟨h1.1,F.args_object_init_2 obj _,object_init_meets F.called_tuple.init.lookup F.called_tuple.made (by decide) prog w A.in1 _ s1 ⟨h1.1,rfl,h1.2⟩⟩
theorem Qm{acc:Array aC}(h:ItemsOf (λi v=>its[its.size-1-i]?=some v) acc its.size):acc.toList=its.toList.reverse:=by
 apply ext_getElem?;intro i
 by_cases lt:i<its.size
 ·have la:i<acc.size:=by rw[h.1];exact lt
  have h2:=h.2 i acc[i] (by simp[la]);rw[List.getElem?_reverse (by simpa using lt)];simp only[Array.length_toList,Array.getElem?_toList];rw[h2];simp[la]
 ·have la:¬i<acc.size:=by rw[h.1];exact lt
  simp[lt,la]
end
theorem Gv(r:Vals xs us):Vals xs.reverse us.reverse:=by
 induction r with
 |nil=>exact .nil
 |cons h t ih =>
  simp only[List.reverse_cons];exact Paired.snoc ih h
section
variable{e:Expr}{te:TE}{p p2 pos pos2:Pos}
def ZF(K:Fg)(ta:TA):TE:=λσ H Q=>ta σ H λvs H1=>∃l ys,vs=[.ref l]/\cD K H1 l ys/\∀t,H1 t=none->Q (.ref t) (upd H1 t (.tup ys.reverse))
theorem Qo(hc:X.calm=true)(hm:X.mg "tuple"=none)(hm2:X.mg "reversed"=none)(ha:PA X [e] ta)(hg:autoParam (Gl X "tuple") zau0)(hg2:autoParam (Gl X "reversed") zau0)(st:autoParam (starEach [e] X.env=[(false,eval e X.env)]) zau0)(st2:autoParam (starEach [.Call (.Name "reversed" p2) [e] [] pos2] X.env=[(false,eval (.Call (.Name "reversed" p2) [e] [] pos2) X.env)]) zau0) : PE X (.Call (.Name "tuple" p) [.Call (.Name "reversed" p2) [e] [] pos2] [] pos) (ZF X.K ta):=by
 intro pins s σ H Q I h;have inner:wpAny (model X.prog X.w) X.A (eval (.Call (.Name "reversed" p2) [e] [] pos2) X.env) (λv s'=>∃J l its ys H1,v=.ref J/\Inv X pins σ H1 s'/\nM X pins H1 J/\MN J l (List.toArray its) 0 s'/\l≠J/\Vals ys its/\ys.length<=sizeLine/\∀t,H1 t=none->Q (.ref t) (upd H1 t (.tup ys.reverse))) X.xe s:=by
  refine Call_ (kE I hg2 hm2 boot_reversed (callWith_type1 (f9 (ha pos2 pins s σ H _ I h) λus a ⟨vs,H1,I1,r,q⟩=>?_) st rfl));obtain⟨l,ys,e,sq,q⟩:=q;subst e;obtain⟨u,e,r1⟩:=Vals.one r;subst e;cases r1;obtain⟨its,rv,pl,hz⟩:=I1.list sq;refine call_reversed_list pl.isList ⟨a.heap.objs.size,l,its,ys,H1,rfl,I1.kept (t':=a.toks) λb o e=>aq _ e,I1.vO (aO _) (I1.hok.fresh (aO _)),⟨dG _,⟨_,aN _ rfl,rfl,by simp[revObj]⟩,pl.isList.push _⟩,?_,rv,hz,q⟩;obtain⟨o,eo,_⟩:=pl.isList;exact Nat.ne_of_lt (Heap.lt_size eo)
 refine Call_ (kE I hg hm boot_tuple (callWith_type1 ?_ st2 rfl))
 show wpAny _ _ (spliced (backTo pos (starEach [.Call (.Name "reversed" p2) [e] [] pos2] X.env))) _ _ s
 rw[st2];refine Calls.spliced_cons (f9 inner λv s1 ⟨J,l,its,ys,H1,ev,I1,fp,rs,ne,rv,hz,q⟩=>Calls.spliced_nil ?_);subst ev;have len:=rv.length;refine Ql (I1.ok.hd hc) ne rs (by simp only[size_toArray];omega) λs' acc hm ha=>?_
 have I2:Inv X pins σ H1 s':=by
  rw[hm.eq_with];exact I1.turns (t':=s'.toks) (ch:=[J]) (λb hb=>by rw[aH.mp hb];exact fp) hm.heap
 have hv:Vals ys.reverse acc.toList:=by rw[Qm ha];simpa using Gv rv
 refine⟨.ref s'.heap.objs.size,_,I2.laid (t':=s'.toks) (o:=.tup ys.reverse) (λb o e=>aq _ e) (aO _) ?_,rfl,q _ (I2.hok.fresh (aO _))⟩;exact⟨by rw[length_reverse];exact hz,acc.toList,hv,by simpa using IsTup.new s'.heap acc⟩
def agE(K:Fg)(te:TE):TE:=λσ H Q=>te σ H λx H1=>∃a xs,x=.ref a/\cD K H1 a xs/\∀q,H1 q=none->Q (.ref q) (upd H1 q (.lst xs.reverse))
theorem ZG(he:PE X e te):PE X (.Subscript e (.Slice none none (some (.UnaryOp .USub (.Constant (.int 1) k p3) p4)) p2) pos) (agE X.K te):=by
 intro pins s σ H Q I h;have hs:PE X (.UnaryOp .USub (.Constant (.int 1) k p3) p4) (tUn (rU λi=>.int (-i)) (tC (.int 1))):=Fv yx aP;refine Subscript_ (f9 (he pins s σ H _ I h) λv s1 ⟨x,H1,I1,r1,q1⟩=>?_);obtain⟨a,xs,rfl,hx,q⟩:=q1;cases r1;refine wpAny_Slice ?_;rw[evalPart_none];refine au (au ?_);rw[evalPart_some];refine f9 (hs pins s1 σ H1 (λy H2=>y=.int (-1)/\H2=H1) I1 ⟨1,rfl,rfl,rfl⟩) λu s2 ⟨y,H2,I2,r2,ey,eH⟩=>?_
 subst ey eH;obtain⟨t,rfl⟩:=r2;have I3:Inv X pins σ H2 {s2 with heap:=s2.heap.push {cls:=.type "slice",data:=.fields #[.none,.none,.int (-1) t]} }:=I2.kept (t':=s2.toks) λb ob q=>aq _ q
 obtain⟨its,r,pl,hz⟩:=I3.list hx;have hlen:=r.length
 show wpAny (model X.prog X.w) X.A (subscriptTail e (.Slice none none (some (.UnaryOp .USub (.Constant (.int 1) k p3) p4)) p2) (.ref a) (.ref s2.heap.objs.size)) (EP X pins σ Q) X.xe {s2 with heap:=s2.heap.push {cls:=.type "slice",data:=.fields #[.none,.none,.int (-1) t]} }
 refine tail_any (ops:=[.ref a,.ref s2.heap.objs.size]) pl.isList.typeIs slot_list_getitem.lookup ?_ (by with_unfolding_all rfl);refine wpAny_getItem_list_slice pl.isList (Heap.IsSliceOf.new ..) .none .none (.int (-1) t) (by decide) ?_ (by rw[size_toArray]<;>omega);rw[PySem.W.krv_pick];refine⟨.ref _,_,I3.laid (t':=s2.toks) (o:=.lst xs.reverse) (λb ob q=>aq _ q) (aO _) ?_,rfl,q _ (I3.hok.fresh (aO _))⟩;exact⟨by rw[length_reverse];exact hz,_,0,Gv r,aN _ rfl⟩
end
end L2
namespace Tw
open PySem L2
abbrev Rep(α:Type):=Hp->V->α->Prop
structure ur{α:Type}[DecidableEq α](K:Fg)(n:Nat)(R:Rep α):Prop where
 same:∀{H H':Hp}{v:V}{x:α},R H v x->Same H H'->R H' v x
 one:∀{H:Hp}{v:V}{x y:α},R H v x->R H v y->x=y
 eq:∀{H:Hp}{v w:V}{x y:α},R H v x->R H w y->xU K H n v w (decide (x=y))
def oM:Rep Int:=λ_ v i=>v=.int i
def xG:Rep Str:=λ_ v x=>v=.str x
def Bv{α:Type}(R:Rep α):Rep (List α):=λH v xs=>∃t vs,v=.ref t/\H t=some (.tup vs)/\Paired (R H) vs xs
def jD{α:Type}(R:Rep α):Rep (List α):=λH v xs=>∃t vs,v=.ref t/\H t=some (.lst vs)/\Paired (R H) vs xs
def Gw{α β:Type}(R:Rep α)(S:Rep β):Rep (α×β):=λH v c=>∃t u w,v=.ref t/\H t=some (.tup [u,w])/\R H u c.1/\S H w c.2
def MP{α β γ:Type}(R:Rep α)(S:Rep β)(T:Rep γ):Rep (α×β×γ):=λH v c=>∃t u w z,v=.ref t/\H t=some (.tup [u,w,z])/\R H u c.1/\S H w c.2.1/\T H z c.2.2
section
variable{K:Fg}{α β γ:Type}[DecidableEq α][DecidableEq β][DecidableEq γ]{n:Nat}{R:Rep α}{S:Rep β}{T:Rep γ}
theorem eq_int:ur K n oM:=⟨λh _=>h,λh h'=>by cases h;cases h';rfl,fun{H v w x y} h h'=>by
 cases h;cases h';have:=xU.flat (K:=K) (H:=H) (n:=n) (x:=.int x) (y:=.int y) rfl rfl;have e:sW (.int x) (.int y)=decide (x=y):=by
  show(x == y)=_
  by_cases z:x=y<;>simp[z]
 rw[e]at this;exact this⟩
theorem tD(o:∀{v:V} {x y:α},R H v x->R H v y->x=y):∀{vs:List V}{xs ys:List α},Paired (R H) vs xs->Paired (R H) vs ys->xs=ys
 |_,_,_,.nil,.nil=>rfl
 |_,_,_,.cons h t,.cons h' t'=>by rw[o h h',tD o t t']
theorem uw:∀(xs ys:List α),((List.range (min xs.length ys.length)).all (λj=>decide (xs[j]?=ys[j]?))&&xs.length == ys.length)=decide (xs=ys)
 |[],[]=>rfl
 |[],y::ys=>by simp
 |x::xs,[]=>by simp
 |x::xs,y::ys=>by
  have ih:=uw xs ys;have e:min (x::xs).length (y::ys).length=min xs.length ys.length+1:=by simp only[length_cons];omega
  rw[e,range_succ_eq_map,all_cons,all_map];have e2:((λj=>decide ((x::xs)[j]?=(y::ys)[j]?))∘Nat.succ)=λj=>decide (xs[j]?=ys[j]?):=by
   funext j
   simp
  rw[e2];have e3:((x::xs).length == (y::ys).length)=(xs.length == ys.length):=by simp
  rw[e3,Bool.and_assoc,ih]
  by_cases z:x=y<;>by_cases z':xs=ys<;>simp[z,z']
theorem vU(h:ur K n R){vs ws:List V}(p:Paired (R H) vs xs)(q:Paired (R H) ws ys):∀(j:Nat) x y,vs[j]?=some x->ws[j]?=some y->xU K H n x y (decide (xs[j]?=ys[j]?)):=by
 intro j v w hv hw;obtain⟨x,hx,rx⟩:=dW p hv;obtain⟨y,hy,ry⟩:=dW q hw;rw[hx,hy];have:=h.eq rx ry;have e:decide (some x=some y)=decide (x=y):=by by_cases z:x=y<;>simp[z]
 rw[e];exact this
theorem ZJ(h:ur K n R):ur K (n+1) (Bv R):=by
 refine⟨fun{H H' v xs} r s=>?_,fun{H v xs ys} r r'=>?_,fun{H v w xs ys} r r'=>?_⟩
 ·obtain⟨t,vs,e,ht,p⟩:=r;exact⟨t,vs,e,s _ _ ht,Paired.iB p λ_ _ z=>h.same z s⟩
 ·obtain⟨t,vs,rfl,ht,p⟩:=r;obtain⟨t',vs',e,ht',p'⟩:=r';cases e;rw[ht]at ht';cases ht';exact tD (λa b=>h.one a b) p p'
 ·obtain⟨t,vs,rfl,ht,p⟩:=r;obtain⟨t',vs',rfl,ht',p'⟩:=r'
  by_cases e:t=t'
  ·subst e;rw[ht]at ht';cases ht';rw[aK (tD (λa b=>h.one a b) p p')];exact .self
  ·have:=xU.tup e (dY.of (K:=K) ht) (dY.of (K:=K) ht') (vU h p p');rw[Paired.length p,Paired.length p',uw]at this;exact this
theorem ZK(h:ur K n R)(g:ur K n S):ur K (n+1) (Gw R S):=by
 refine⟨fun{H H' v xs} r s=>?_,fun{H v c c'} r r'=>?_,fun{H v w c c'} r r'=>?_⟩
 ·obtain⟨t,u,w,e,ht,p,q⟩:=r;exact⟨t,u,w,e,s _ _ ht,h.same p s,g.same q s⟩
 ·obtain⟨t,u,w,rfl,ht,p,q⟩:=r;obtain⟨t',u',w',e,ht',p',q'⟩:=r';cases e;rw[ht]at ht';cases ht';exact Prod.ext (h.one p p') (g.one q q')
 ·have r0:=r;have r0':=r';obtain⟨t,u,w,rfl,ht,p,q⟩:=r;obtain⟨t',u',w',rfl,ht',p',q'⟩:=r'
  by_cases e:t=t'
  ·subst e;rw[ht]at ht';cases ht';rw[aK (Prod.ext (h.one p p') (g.one q q'))];exact .self
  ·have:=xU.tup (n:=n) (e:=λj=>if j=0 then decide (c.1=c'.1) else decide (c.2=c'.2)) e (dY.of (K:=K) ht) (dY.of (K:=K) ht') λj x y hx hy=>by
    rcases j with _|_|j
    ·cases hx;cases hy;exact h.eq p p'
    ·cases hx;cases hy;exact g.eq q q'
    ·cases hx
   have ee:((List.range (min [u,w].length [u',w'].length)).all (λj=>if j=0 then decide (c.1=c'.1) else decide (c.2=c'.2))&&[u,w].length == [u',w'].length)=decide (c=c'):=by
    show((decide (c.1=c'.1)&&(decide (c.2=c'.2)&&true))&&true)=_
    obtain⟨c1,c2⟩:=c;obtain⟨d1,d2⟩:=c'
    by_cases z:c1=d1<;>by_cases z':c2=d2<;>simp[z,z']
   rw[ee]at this;exact this
theorem akU(h:ur K n R)(hn:n<=50)(r:jD R H v xs)(r':jD R H w ys)(q:Q (.bl (decide (xs=ys))) H):Qj K false v w H Q:=by
 obtain⟨t,vs,rfl,ht,p⟩:=r;obtain⟨t',vs',rfl,ht',p'⟩:=r';have l1:=Paired.length p;have l2:=Paired.length p';refine⟨t,t',vs,vs',n,_,rfl,rfl,cD.of ht,cD.of ht',hn,λ_=>vU h p p',λlen=>?_,λlen=>?_⟩
 ·have ea:=uw xs ys;have len':xs.length=ys.length:=by omega
  rw[len',Nat.min_self,beq_self_eq_true,Bool.and_true]at ea;rw[Bool.false_xor,l1,len',ea];exact q
 ·rw[aD (λz=>len (by rw[l1,l2,z]))]at q;exact q
theorem adA(h:ur K n R)(hn:n<=50)(r:jD R H v xs)(r':jD R H w ys)(q:Q (.bl (!decide (xs=ys))) H):Qj K true v w H Q:=by
 obtain⟨t,vs,rfl,ht,p⟩:=r;obtain⟨t',vs',rfl,ht',p'⟩:=r';have l1:=Paired.length p;have l2:=Paired.length p';refine⟨t,t',vs,vs',n,_,rfl,rfl,cD.of ht,cD.of ht',hn,λ_=>vU h p p',λlen=>?_,λlen=>?_⟩
 ·have ea:=uw xs ys;have len':xs.length=ys.length:=by omega
  rw[len',Nat.min_self,beq_self_eq_true,Bool.and_true]at ea;rw[Bool.true_xor,l1,len',ea];exact q
 ·rw[aD (λz=>len (by rw[l1,l2,z]))]at q;exact q
end
end Tw
namespace L2
open PySem PySem.Spec PyProof.Rows
section
variable{X:Cx}
inductive abW(x:V)(y:V)(H:Hp)(Q:VK):Prop
 |mk:∀a b xs ys,x=.ref a->y=.ref b->H a=some (.tup xs)->H b=some (.tup ys)->xs.length+ys.length<=sizeLine->(∀p H',Same H H'->H' p=some (.tup (xs++ys))->Q (.ref p) H')->abW x y H Q
theorem M4:oW X (binaryOp .Add) abW:=by
 intro pins s σ H x y v u Q I rx ry h;obtain⟨a,b,xs,ys,rfl,rfl,ha,hb,hz,q⟩:=h
 by_cases hx:xs=[]
 ·subst hx;cases rx;cases ry;obtain⟨its,r1,p1,_⟩:=I.tuple (dY.of (K:=X.K) ha);obtain⟨its2,r2,p2,_⟩:=I.tuple (dY.of (K:=X.K) hb);cases r1;obtain⟨⟨c1,d1,e1,l1⟩,ho,hc,n,hd⟩:=id p1;obtain⟨⟨c2,d2,e2,l2⟩,ho2,hc2,n2,hd2⟩:=id p2;simp only at hc hd hc2 hd2;subst hc hd hc2 hd2;exact concat_meets ⟨_,ho,rfl⟩ ⟨_,ho2,rfl⟩ noFill_tuple_add seq_tuple_add PySem.F.slot_tuple_add PySem.F.entry_tuple_add (PySem.F.args_tuple_add_2 _ _) (tuple_addW0 a b _ _ n n2 d1 d2 l1 l2 rfl) ⟨ho,ho2,⟨.ref b,H,I,rfl,q b H (Same.refl _) hb⟩⟩
 ·refine Zn pins s σ H _ _ v u Q I rx ry ⟨a,b,xs,ys,rfl,rfl,dY.of ha,dY.of hb,hx,hz,λz=>?_,λ_ p hp=>?_⟩
  ·subst z;exact q a H (Same.refl _) (by rw[append_nil];exact ha)
  ·exact q p _ (λb o e=>by rw[bf (dN e hp)];exact e) aF
end
def gR(n b:Int):Bool:=decide (Builtin.bitAnd (n / 2^b.toNat) 1=1)
theorem U4(n b:Nat):gR (n:Int) (b:Int)=n.testBit b:=by
 unfold gR;have e:(n:Int) / 2^((b:Nat):Int).toNat=((n / 2^b:Nat):Int):=by
  rw[eG];simp
 rw[e,bitAnd_pp (Int.natCast_nonneg _) (by decide)];have e2:((n / 2^b:Nat):Int).toNat &&& (1:Int).toNat=n / 2^b % 2:=by
  rw[eG];exact Nat.and_one_is_mod _
 rw[e2,Nat.testBit_eq_decide_div_mod_eq]
 by_cases z:n / 2^b % 2=1
 ·simp[z]
 ·have:n / 2^b % 2=0:=by omega
  simp[this]
end L2
namespace Tw
def masks:Nat->List (List Bool)
 |0=>[[]]
 |n+1=>(masks n).map (·++[false])++(masks n).map (·++[true])
theorem qU:∀n,(masks n).length=2^n
 |0=>rfl
 |n+1=>by simp only[masks,aY,ak,qU n];omega
theorem nj:∀{n:Nat}{m:List Bool},m∈masks n->m.length=n
 |0,m,h=>by simp[masks]at h;simp[h]
 |n+1,m,h=>by
  simp only[masks,bQ,bM]at h;rcases h with ⟨m',h',rfl⟩|⟨m',h',rfl⟩<;>simp[nj h']
def gZ(n j:Nat):List Bool:=(List.range n).map λk=>j.testBit k
theorem yS:∀{n j:Nat},j<2^n->(masks n)[j]?=some (gZ n j)
 |0,j,h=>by
  have:j=0:=by simpa using h
  subst this;rfl
 |n+1,j,h=>by
  have hl:=qU n;unfold gZ;rw[dD,aX]
  by_cases lt:j<2^n
  ·have e:=yS (n:=n) lt;rw[masks,List.getElem?_append_left (by rw[ak,hl];exact lt),aJ,e];have e2:j.testBit n=false:=Nat.testBit_lt_two_pow lt;simp[gZ,e2]
  ·have h2:j-2^n<2^n:=by
    have:2^(n+1)=2^n+2^n:=by omega
    omega
   have e:=yS (n:=n) h2;rw[masks,List.getElem?_append_right (by rw[ak,hl];omega),ak,hl,aJ,e];have ej:j=2^n+(j-2^n):=by omega
   have e2:j.testBit n=true:=by
    rw[ej,Nat.testBit_two_pow_add_eq,Nat.testBit_lt_two_pow h2];rfl
   have e3:(List.range n).map (λk=>(j-2^n).testBit k)=(List.range n).map (λk=>j.testBit k):=by
    apply List.map_congr_left;intro k hk;have hk:=mem_range.mp hk
    conv=>rhs;rw[ej]
    rw[Nat.testBit_two_pow_add_gt hk]
   simp[gZ,e2,e3]
def Al:List Bool->Nat
 |[]=>0
 |b::m=>(if b then 1 else 0)+2*Al m
theorem qW(b:Bool):∀m:List Bool,Al (m++[b])=Al m+if b then 2^m.length else 0
 |[]=>by cases b<;>rfl
 |c::m=>by
  have ih:=qW b m;rw[List.cons_append,Al,Al,ih,length_cons];cases b with
  |false=>simp
  |true =>
   simp only[if_true];have:2^(m.length+1)=2*2^m.length:=by omega
   omega
theorem vV:∀{n j:Nat},j<2^n->Al (gZ n j)=j
 |0,j,h=>by
  have:j=0:=by simpa using h
  subst this;rfl
 |n+1,j,h=>by
  have hb:gZ (n+1) j=gZ n j++[j.testBit n]:=by
   unfold gZ;rw[dD,aX];rfl
  have hl:(gZ n j).length=n:=by simp[gZ]
  rw[hb,qW,hl]
  by_cases lt:j<2^n
  ·rw[vV lt,Nat.testBit_lt_two_pow lt];simp
  ·have h2:j-2^n<2^n:=by
    have:2^(n+1)=2^n+2^n:=by omega
    omega
   have ej:j=2^n+(j-2^n):=by omega
   have e2:j.testBit n=true:=by
    rw[ej,Nat.testBit_two_pow_add_eq,Nat.testBit_lt_two_pow h2];rfl
   have e3:gZ n j=gZ n (j-2^n):=by
    unfold gZ;apply List.map_congr_left;intro k hk;have hk:=mem_range.mp hk
    conv=>lhs;rw[ej]
    rw[Nat.testBit_two_pow_add_gt hk]
   rw[e2,e3,vV h2];simp only[if_true];omega
structure Cp where
 s:Int
 gap:Int
 rest:Int
def rE(m:List Bool):Int:=((m.filter id).length:Int)
def Qp(b:Bool)(c:Cp):Bool:=if b then decide (c.rest<=c.s) else decide (c.s+1≠c.gap)
def ZL(b:Bool)(c:Cp):Int:=if b then 0 else c.s+1
def Ti(cans:Int)(l:List Cp)(m:List Bool):Bool:=((m.zip l).all λq=>Qp q.1 q.2)&&decide (rE m<=cans)
def xH(l:List Cp)(m:List Bool):List Int:=(m.zip l).map λq=>ZL q.1 q.2
def tE(cans:Int)(l:List Cp)(m:List Bool):Option (Int×Int×List Int):=if Ti cans l m then some ((Al m:Int),cans-rE m,xH l m) else none
def jo(cans:Int)(l:List Cp)(i:Nat):List (Int×Int×List Int):=(masks i).filterMap (tE cans l)
def U5(c:Cp)(ps:List (Int×Int×List Int)):List (Int×Int×List Int):=if c.s+1=c.gap then [] else ps.map λq=>(q.1,q.2.1,q.2.2++[c.s+1])
def U6(c:Cp)(bit:Int)(ps:List (Int×Int×List Int)):List (Int×Int×List Int):=if c.rest<=c.s then(ps.filter λq=>decide (0<q.2.1)).map λq=>(q.1+bit,q.2.1-1,q.2.2++[0]) else []
theorem qt{α β:Type}:∀{m:List α}{l:List β}{b:α}{c:β},l[m.length]?=some c->(m++[b]).zip l=m.zip l++[(b,c)]
 |[],c'::l,b,c,h=>by simp at h;simp[h]
 |[],[],_,_,h=>by simp at h
 |x::m,y::l,b,c,h=>by
  have:=qt (m:=m) (l:=l) (b:=b) (c:=c) (by simpa using h);simp only[List.cons_append,List.zip_cons_cons,this]
 |x::m,[],_,_,h=>by simp at h
theorem uD{α β:Type}{f g:α->Option β}:∀{l:List α},(∀x∈l,f x=g x)->l.filterMap f=l.filterMap g
 |[],_=>rfl
 |x::l,h=>by
  rw[filterMap_cons,filterMap_cons,h x (by simp),uD λy hy=>h y (by simp[hy])]
theorem qX(m:List Bool)(b:Bool):rE (m++[b])=rE m+if b then 1 else 0:=by
 unfold rE;rw[cZ,aY];cases b<;>simp
theorem Bw(h:l[m.length]?=some c):tE cans l (m++[false])=if c.s+1=c.gap then none else(tE cans l m).map λq=>(q.1,q.2.1,q.2.2++[c.s+1]):=by
 have e1:Ti cans l (m++[false])=(decide (c.s+1≠c.gap)&&Ti cans l m):=by
  unfold Ti;rw[qt h,all_append,qX];generalize (m.zip l).all (λq=>Qp q.1 q.2)=x;cases x<;>simp[Qp]
 have e2:xH l (m++[false])=xH l m++[c.s+1]:=by
  unfold xH;rw[qt h,aX];simp[ZL]
 unfold tE;rw[e1,e2,qW,qX]
 by_cases z:c.s+1=c.gap
 ·simp[z]
 ·by_cases o:Ti cans l m=true
  ·simp[z,o]
  ·simp[z,o]
theorem Gx(h:l[m.length]?=some c):tE cans l (m++[true])=if c.rest<=c.s then((tE cans l m).filter λq=>decide (0<q.2.1)).map λq=>(q.1+(2:Int)^m.length,q.2.1-1,q.2.2++[0]) else none:=by
 have e2:xH l (m++[true])=xH l m++[0]:=by
  unfold xH;rw[qt h,aX];simp[ZL]
 have e3:((Al (m++[true]):Nat):Int)=(Al m:Int)+(2:Int)^m.length:=by
  rw[qW];simp
 have e1:Ti cans l (m++[true])=(decide (c.rest<=c.s)&&((m.zip l).all (λq=>Qp q.1 q.2)&&decide (rE m+1<=cans))):=by
  unfold Ti;rw[qt h,all_append,qX];generalize (m.zip l).all (λq=>Qp q.1 q.2)=x;cases x<;>simp[Qp]
 unfold tE;rw[e1,e2,e3,qX]
 by_cases z:c.rest<=c.s
 ·unfold Ti
  by_cases o:(m.zip l).all (λq=>Qp q.1 q.2)=true
  ·by_cases k:rE m+1<=cans
   ·have k1:rE m<=cans:=by omega
    have k2:0<cans-rE m:=by omega
    have k3:cans-(rE m+1)=cans-rE m-1:=by omega
    simp[z,o,k,k1,k3,Option.filter];omega
   ·have k2:¬0<cans-rE m:=by omega
    by_cases k1:rE m<=cans
    ·simp[z,o,k,k1,Option.filter];omega
    ·simp[z,o,k,k1]
  ·simp[z,o]
 ·simp[z]
theorem JL(h:l[i]?=some c):U5 c (jo cans l i)++U6 c ((2:Int)^i) (jo cans l i)=jo cans l (i+1):=by
 unfold jo;rw[masks,List.filterMap_append,List.filterMap_map,List.filterMap_map]
 congr 1
 ·unfold U5
  by_cases z:c.s+1=c.gap
  ·rw[if_pos z]
   symm
   rw[List.filterMap_eq_nil_iff];intro m hm;have hl:=nj hm
   show tE cans l (m++[false])=none
   rw[Bw (by rw[hl];exact h),if_pos z]
  ·rw[if_neg z,List.map_filterMap];apply uD;intro m hm;have hl:=nj hm
   show _=tE cans l (m++[false])
   rw[Bw (by rw[hl];exact h),if_neg z]
 ·unfold U6
  by_cases z:c.rest<=c.s
  ·rw[if_pos z,List.filter_filterMap,List.map_filterMap];apply uD;intro m hm;have hl:=nj hm
   show _=tE cans l (m++[true])
   rw[Gx (by rw[hl];exact h),if_pos z,hl]
  ·rw[if_neg z]
   symm
   rw[List.filterMap_eq_nil_iff];intro m hm;have hl:=nj hm
   show tE cans l (m++[true])=none
   rw[Gx (by rw[hl];exact h),if_neg z]
theorem JM(h:0<=cans):jo cans l 0=[(0,cans,[])]:=by
 simp[jo,masks,tE,Ti,rE,xH,Al,h]
inductive Bh(ν:Type) where
 |no
 |dry (nm:ν)
 |st (ds:List Int)
def iJ(cans:Int)(shut:Bool)(l:List Cp)(jA:List Nat):Bool := !(!jA.isEmpty&&(shut||decide (cans<(jA.length:Int))))&&jA.all λk=>(l[k]?.map λc=>decide (c.rest<=c.s)).getD true
def kY(l:List Cp)(jA:List Nat):List Int:=(List.range l.length).map λk=>if k∈jA then 0 else(l[k]?.map λc=>c.s+1).getD 0
def uE{ν:Type}(nms:List ν)(l:List Cp)(jA:List Nat):Option ν:=(List.range l.length).findSome? λk=>if(kY l jA)[k]?=l[k]?.map Cp.gap then nms[k]? else none
def fV{ν:Type}(nms:List ν)(cans:Int)(shut:Bool)(l:List Cp)(jA:List Nat):Bh ν := if iJ cans shut l jA then match uE nms l jA with
  |some nm=>.dry nm
  |none=>.st (kY l jA)
 else .no
def jq(n j:Nat):List Nat:=(List.range n).filter λk=>j.testBit k
def mj{ν:Type}(nms:List ν)(cans:Int)(shut:Bool)(l:List Cp)(j:Nat):Option (Int×List Int):=match fV nms cans shut l (jq l.length j) with
 | .st ds=>some ((j:Int),ds)
 |_=>none
def tH{ν:Type}(nms:List ν)(cans:Int)(shut:Bool)(l:List Cp):List (Int×List Int):=(List.range (2^l.length)).filterMap (mj nms cans shut l)
def qu(cans:Int)(l:List Cp):List (Int×List Int):=(jo cans l l.length).map λq=>(q.1,q.2.2)
theorem Qq(n:Nat):masks n=(List.range (2^n)).map (gZ n):=by
 apply ext_getElem?;intro j
 by_cases h:j<2^n
 ·rw[yS h,aJ,List.getElem?_range h];rfl
 ·rw[List.getElem?_eq_none (by rw[qU];omega),List.getElem?_eq_none (by rw[ak,bK];omega)]
theorem xW(h:k<n):(gZ n j)[k]?=some (j.testBit k):=by
 unfold gZ;rw[aJ,List.getElem?_range h];rfl
theorem Gy(n j:Nat):(gZ n j).length=n:=by simp[gZ]
theorem U7(n j:Nat):rE (gZ n j)=((jq n j).length:Int):=by
 unfold rE jq gZ;rw[List.filter_map,ak];rfl
theorem ZM{α β:Type}{p:α->β->Bool}{m:List α}{l:List β}(h:m.length=l.length):((m.zip l).all λq=>p q.1 q.2)=true ↔ ∀(k:Nat) b c,m[k]?=some b->l[k]?=some c->p b c=true:=by
 rw[all_eq_true];constructor
 ·intro a k b c hb hc;have:(m.zip l)[k]?=some (b,c):=by rw[List.getElem?_zip_eq_some];exact⟨hb,hc⟩
  exact a (b,c) (aQ this)
 ·intro a q hq;obtain⟨k,hk⟩:=mem_iff_getElem?.mp hq;obtain⟨b,c⟩:=q;rw[List.getElem?_zip_eq_some]at hk;exact a k b c hk.1 hk.2
theorem pJ :k∈jq n j↔k<n/\j.testBit k=true:=by
 unfold jq;rw[mem_filter,mem_range]
theorem qw(h:l[k]?=some c):(kY l jA)[k]?=some (if k∈jA then 0 else c.s+1):=by
 have lt:k<l.length:=(aM.mp h).1;unfold kY;rw[aJ,List.getElem?_range lt,Option.map_some,h];rfl
theorem yU{nms:List ν}(hn:nms.length=l.length):uE nms l jA=none ↔ ∀(k:Nat) c,l[k]?=some c->(if k∈jA then 0 else c.s+1)≠c.gap:=by
 unfold uE;rw[List.findSome?_eq_none_iff];constructor
 ·intro a k c hc z;have lt:k<l.length:=(aM.mp hc).1;have:=a k (mem_range.mpr lt);rw[qw hc,hc,Option.map_some,z,if_pos rfl,aA (by omega)]at this;cases this
 ·intro a k hk;have lt:=mem_range.mp hk;have hc:l[k]?=some l[k]:=aA lt;rw[qw hc,hc,Option.map_some,if_neg];intro z;exact a k l[k] hc (bO z)
theorem U8 :kY l (jq l.length j)=xH l (gZ l.length j):=by
 apply ext_getElem?;intro k
 by_cases lt:k<l.length
 ·have hc:l[k]?=some l[k]:=aA lt;rw[qw hc];unfold xH;rw[aJ];have hz:((gZ l.length j).zip l)[k]?=some (j.testBit k,l[k]):=by rw[List.getElem?_zip_eq_some];exact⟨xW lt,hc⟩
  rw[hz];simp only[Option.map_some,ZL,pJ,lt,true_and]
 ·rw[List.getElem?_eq_none (by simp[kY];omega),List.getElem?_eq_none (by simp[xH,Gy];omega)]
theorem U9{nms:List ν}(hn:nms.length=l.length)(hc0:0<=cans)(hg:∀c∈l,1<=c.gap)(hj:j<2^l.length) : mj nms cans shut l j=(tE (if shut then 0 else cans) l (gZ l.length j)).map λq=>(q.1,q.2.2):=by
 have adB:=U7 l.length j;have e:(Ti (if shut then 0 else cans) l (gZ l.length j)=true)↔(iJ cans shut l (jq l.length j)=true/\uE nms l (jq l.length j)=none):=by
  rw[yU hn];unfold Ti iJ;rw[Bool.and_eq_true,ZM (Gy _ _),adB,decide_eq_true_eq,Bool.and_eq_true];have e1:((!(!(jq l.length j).isEmpty&&(shut||decide (cans<((jq l.length j).length:Int)))))=true)↔((jq l.length j).length:Int)<=(if shut then 0 else cans):=by
   cases hw:jq l.length j with
   |nil=>cases shut<;>simp[hc0]
   |cons a t =>
    cases shut with
    |true=>simp
    |false=>simp
  rw[e1,all_eq_true];constructor
  ·rintro⟨a,b⟩;refine⟨⟨b,λk hk=>?_⟩,λk c hc=>?_⟩
   ·obtain⟨lt,ht⟩:=pJ.mp hk;have hc:l[k]?=some l[k]:=aA lt;have:=a k true l[k] (by rw[xW lt,ht]) hc;rw[hc];simpa[Qp]using this
   ·have lt:k<l.length:=(aM.mp hc).1;have:=a k _ c (xW lt) hc;have g:=hg c (aQ hc)
    by_cases ht:j.testBit k=true
    ·rw[if_pos (pJ.mpr ⟨lt,ht⟩)];omega
    ·rw[if_neg (λz=>ht (pJ.mp z).2)];have ht':j.testBit k=false:=by simpa using ht
     rw[ht']at this;simpa[Qp]using this
  ·rintro⟨⟨b,a1⟩,a2⟩;refine⟨λk x c hx hc=>?_,b⟩;have lt:k<l.length:=(aM.mp hc).1;rw[xW lt]at hx;cases hx;cases ht:j.testBit k with
   |true =>
    have:=a1 k (pJ.mpr ⟨lt,ht⟩);rw[hc]at this;simpa[Qp]using this
   |false =>
    have:=a2 k c hc;rw[if_neg (λz=>by rw[(pJ.mp z).2]at ht;cases ht)]at this;simpa[Qp]using this
 unfold mj fV tE
 by_cases o:Ti (if shut then 0 else cans) l (gZ l.length j)=true
 ·obtain⟨h1,h2⟩:=e.mp o;rw[if_pos h1,if_pos o,h2];simp only[Option.map_some,vV hj,U8]
 ·rw[if_neg o]
  by_cases h1:iJ cans shut l (jq l.length j)=true
  ·rw[if_pos h1];cases h2:uE nms l (jq l.length j) with
   |some nm=>rfl
   |none=>exact absurd (e.mpr ⟨h1,h2⟩) o
  ·rw[if_neg h1];rfl
theorem Am{nms:List ν}(hn:nms.length=l.length)(hc0:0<=cans)(hg:∀c∈l,1<=c.gap):qu (if shut then 0 else cans) l=tH nms cans shut l:=by
 unfold qu jo tH;rw[Qq,List.filterMap_map,List.map_filterMap];apply uD;intro j hj;rw[U9 hn hc0 hg (mem_range.mp hj)];rfl
end Tw
namespace Tw
open PySem L2
theorem iy(s:Same H H')(h:H D=none):Same H (L2.upd H' D o):=λb u e=>by rw[bf (dN e h)];exact s b u e
structure wN{α:Type}(R:Rep α):Prop where
 same:∀{H H':Hp}{v:V}{x:α},R H v x->Same H H'->R H' v x
 upd:∀{H:Hp}{v:V}{x:α}{D:aB}{zs:List V}{o:HO},R H v x->H D=some (.lst zs)->R (L2.upd H D o) v x
section
variable{K:Fg}{α β γ:Type}{R:Rep α}{S:Rep β}{T:Rep γ}
theorem iY:wN oM:=⟨λh _=>h,λh _=>h⟩
theorem lQ:wN xG:=⟨λh _=>h,λh _=>h⟩
theorem uG(s:wN R):wN (Bv R):=by
 refine⟨fun{H H' v x} h q=>?_,fun{H v x D zs o} h q=>?_⟩
 ·obtain⟨t,vs,e,ht,p⟩:=h;exact⟨t,vs,e,q _ _ ht,Paired.iB p λ_ _ z=>s.same z q⟩
 ·obtain⟨t,vs,e,ht,p⟩:=h;exact⟨t,vs,e,by rw[bf (j9 ht q (by intro z;cases z))];exact ht,Paired.iB p λ_ _ z=>s.upd z q⟩
theorem uH(s:wN R)(s':wN S):wN (Gw R S):=by
 refine⟨fun{H H' v x} h q=>?_,fun{H v x D zs o} h q=>?_⟩
 ·obtain⟨t,u,w,e,ht,p,p'⟩:=h;exact⟨t,u,w,e,q _ _ ht,s.same p q,s'.same p' q⟩
 ·obtain⟨t,u,w,e,ht,p,p'⟩:=h;exact⟨t,u,w,e,by rw[bf (j9 ht q (by intro z;cases z))];exact ht,s.upd p q,s'.upd p' q⟩
theorem Gz(s:wN R)(s':wN S)(s'':wN T):wN (MP R S T):=by
 refine⟨fun{H H' v x} h q=>?_,fun{H v x D zs o} h q=>?_⟩
 ·obtain⟨t,u,w,z,e,ht,p,p',p''⟩:=h;exact⟨t,u,w,z,e,q _ _ ht,s.same p q,s'.same p' q,s''.same p'' q⟩
 ·obtain⟨t,u,w,z,e,ht,p,p',p''⟩:=h;exact⟨t,u,w,z,e,by rw[bf (j9 ht q (by intro z;cases z))];exact ht,s.upd p q,s'.upd p' q,s''.upd p'' q⟩
theorem jD.same(s:wN R)(h:jD R H v xs)(q:Same H H'):jD R H' v xs:=by
 obtain⟨t,vs,e,ht,p⟩:=h;exact⟨t,vs,e,q _ _ ht,Paired.iB p λ_ _ z=>s.same z q⟩
theorem kZ(p:Paired (R H) vs xs){i:Nat}(h:xs[i]?=some x):∃v,vs[i]?=some v/\R H v x:=by
 have lt:i<vs.length:=by rw[Paired.length p];exact(aM.mp h).1
 obtain⟨y,hy,r⟩:=dW p (aA lt);rw[h]at hy;cases hy;exact⟨_,aA lt,r⟩
theorem nW(sR:wN R)(sS:wN S)(f:α->β)(hl:jD R H (.ref l) xs)(hz:xs.length<=sizeLine)(hD:H D=none)(body:∀(i:Nat) x v H2,xs[i]?=some x->R H2 v x->Same H H2->∀Qc:VK,(∀u H3,Same H2 H3->S H3 u (f x)->Qc u H3)->g v σ0 H2 λσ2 H'=>nU σ0 σ2/\te σ2 H' Qc)(q:∀H',Same H H'->jD S H' (.ref D) (xs.map f)->Qe H') : ∃W:Nat->Nat->List V->Hp->Prop,(∃m,W 0 m [] (L2.upd H D (.lst [])))/\qm D (Te K l) σ0 g Di te Qe W:=by
 obtain⟨l',vs,el,hv,pv⟩:=hl;cases el;have ln:=Paired.length pv;refine lZ xs.length hz (λi acc H'=>Same H H'/\H' D=some (.lst acc)/\Paired (S H') acc ((xs.take i).map f)) ⟨aV hD,aF,.nil⟩ (λi acc H' le ⟨_,e,p⟩=>⟨?_,e⟩) ?_ ?_
 ·rw[Paired.length p,ak,length_take];omega
 ·rintro acc H' ⟨s',e,p⟩;rw[cL]at p;exact⟨⟨vs,cD.of (s' _ _ hv),by omega⟩,q H' s' ⟨D,acc,rfl,e,p⟩⟩
 ·rintro i acc H' lt ⟨s',e,p⟩;have hx:xs[i]?=some xs[i]:=aA lt;obtain⟨v,Qs,rv⟩:=kZ pv hx;have sq:cD K H' l vs:=cD.of (s' _ _ hv);refine⟨⟨vs,v,sq,Qs⟩,?_⟩;rintro y sZ ⟨rfl,hy⟩ Qc k;have ey:=hy vs sq;rw[Qs]at ey;cases ey;refine body i xs[i] v sZ hx (sR.same rv s') s' Qc λu H3 s3 ru=>?_
  have e3:=s3 _ _ e;refine k u H3 e3 ⟨iy (s'.trans s3) hD,aF,?_⟩;rw[take_snoc hx,aX];exact Paired.snoc (Paired.iB p λ_ _ z=>sS.upd (sS.same z s3) e3) (sS.upd ru e3)
theorem yV(sR:wN R)(sS:wN S)(pr:α->Bool)(f:α->β)(hl:jD R H (.ref l) xs)(hz:xs.length<=sizeLine)(hD:H D=none)(body:∀(i:Nat) x v H2,xs[i]?=some x->R H2 v x->Same H H2->∀(Qc:VK) (Qn:Hp->Prop),(pr x=true->∀u H3,Same H2 H3->S H3 u (f x)->Qc u H3)->(pr x=false->∀H3,Same H2 H3->Qn H3) -> g v σ0 H2 λσ2 H'=>nU σ0 σ2/\tc σ2 H' λb H3=>if b=true then te σ2 H3 Qc else Qn H3)(q:∀H',Same H H'->jD S H' (.ref D) ((xs.filter pr).map f)->Qe H') : ∃W:Nat->Nat->List V->Hp->Prop,(∃m,W 0 m [] (L2.upd H D (.lst [])))/\qm D (Te K l) σ0 g tc te Qe W:=by
 obtain⟨l',vs,el,hv,pv⟩:=hl;cases el;have ln:=Paired.length pv;refine qT xs.length hz (λi acc H'=>Same H H'/\H' D=some (.lst acc)/\Paired (S H') acc (((xs.take i).filter pr).map f)) ⟨aV hD,aF,.nil⟩ (λi acc H' le ⟨_,e,p⟩=>⟨?_,e⟩) ?_ ?_
 ·rw[Paired.length p,ak];exact bx (length_filter_le _ _) (by rw[length_take];omega)
 ·rintro acc H' ⟨s',e,p⟩;rw[cL]at p;exact⟨⟨vs,cD.of (s' _ _ hv),by omega⟩,q H' s' ⟨D,acc,rfl,e,p⟩⟩
 ·rintro i acc H' lt ⟨s',e,p⟩;have hx:xs[i]?=some xs[i]:=aA lt;obtain⟨v,Qs,rv⟩:=kZ pv hx;have sq:cD K H' l vs:=cD.of (s' _ _ hv);refine⟨⟨vs,v,sq,Qs⟩,?_⟩;rintro y sZ ⟨rfl,hy⟩ Qc Qn k kn;have ey:=hy vs sq;rw[Qs]at ey;cases ey;refine body i xs[i] v sZ hx (sR.same rv s') s' Qc Qn (λep u H3 s3 ru=>?_) (λep H3 s3=>?_)
  ·have e3:=s3 _ _ e;refine k u H3 e3 ⟨iy (s'.trans s3) hD,aF,?_⟩;rw[take_snoc hx,cZ,aX];have ef:[xs[i]].filter pr=[xs[i]]:=by simp[ep]
   rw[ef];exact Paired.snoc (Paired.iB p λ_ _ z=>sS.upd (sS.same z s3) e3) (sS.upd ru e3)
  ·refine kn H3 ⟨s'.trans s3,s3 _ _ e,?_⟩;rw[take_snoc hx,cZ];have ef:[xs[i]].filter pr=[]:=by simp[ep]
   rw[ef,append_nil];exact Paired.iB p λ_ _ z=>sS.same z s3
end
end Tw
namespace L2
open PySem PySem.Spec PyProof.Rows
noncomputable def Ite(K:Fg)(l:aB):It := ⟨λi H=>∃xs x,cD K H l xs/\xs[i]?=some x,λi H v H'=>∃T,H T=none/\v=.ref T/\∀xs x,cD K H l xs->xs[i]?=some x->H'=upd H T (.tup [.int (i:Nat),x]),λi H=>∃xs,cD K H l xs/\xs.length<=i⟩
structure ZP(e it l:aB)(i:Nat)(h:Heap):Prop where
 cell:∃old,IsEnum h e it i old
 one:h.IsListIter it l i
theorem Qt{K:Fg}(ne:e≠it):Turn P w K (.Tuple elts k pos) (Ite K l) [e,it] e (ZP e it l) where
 mem:=by simp
 obj:=λi h R c hc=>by
  obtain⟨old,q0⟩:=R.cell;obtain⟨o1,q1,_,d1⟩:=R.one;simp only[aR,not_mem_nil,or_false]at hc;rcases hc with rfl|rfl
  ·exact⟨_,q0,λv q=>by cases q⟩
  ·exact⟨o1,q1,λv q=>by rw[d1]at q;cases q⟩
 keep:=λi h h' R kp=>by
  obtain⟨old,q0⟩:=R.cell;obtain⟨o1,q1,r1⟩:=R.one;exact⟨⟨old,kp e (by simp) _ q0⟩,⟨o1,kp it (by simp) _ q1,r1⟩⟩
 item:=by
  intro X hP hw hK hc i pins s σ H E I hf R go;subst hP hw hK;obtain⟨xs,x,sx,hx⟩:=go;obtain⟨its,v1,p1,_⟩:=I.list sx;obtain⟨ux,gx,rx⟩:=v1.get hx;obtain⟨old,q0⟩:=R.cell;have fr:s.heap.get? s.heap.objs.size=none:=Heap.get?_none_of_le (aO _);have there:∀c∈[e,it],∃o,s.heap.get? c=some o:=λc hc=>by
   obtain⟨o1,q1,_⟩:=R.one;simp only[aR,not_mem_nil,or_false]at hc;rcases hc with z|z<;>rw[z]
   ·exact⟨_,q0⟩
   ·exact⟨_,q1⟩
  have elt:s.heap.objs.size≠e:=Nat.ne_of_gt (Heap.lt_size q0);refine wpAny_pyNext_enum_item q0 R.one p1.isList (x:=ux) (by simpa using gx) ne λh1 c1 o1 pr _ past=>⟨.ref s.heap.objs.size,rfl,wpAny_letOwnedTupleGo_enum (s:={s with heap:=h1,toks:=s.toks+1}) c1 λh2 c2 sb=>?_⟩
  have pr2:=sb.extBut _ _ elt pr;refine⟨.ref s.heap.objs.size,upd H s.heap.objs.size (.tup [.int (i:Nat),x]),Inv.drawn (h':=h2) (t':=s.toks+1) (ch:=[e,it]) (s:=s) I hf (λc o out q=>?_) fr ⟨xT,[.int (i:Nat) s.toks,ux],.cons ⟨_,rfl⟩ (.cons rx .nil),⟨_,pr2,rfl,_,rfl⟩⟩,rfl,⟨_,I.hok.none_of fr,rfl,λxs' x' sx' hx'=>?_⟩,⟨⟨_,c2⟩,?_⟩,λc hc=>?_⟩
  ·simp only[aR,not_mem_nil,or_false,not_or]at out;exact sb.extBut c o out.1 (past c o out.1 out.2 q)
  ·have e1:=I.oU sx' sx;subst e1;rw[hx]at hx';cases hx';rfl
  ·exact o1.extBut sb.extBut (Ne.symm ne)
  ·obtain⟨o,q⟩:=there c hc;rw[bf (λz=>by rw[z,fr]at q;cases q)];exact(hf c hc).1
 done:=by
  intro X hP hw hK hc i pins s σ H E I hf R stop;subst hP hw hK;obtain⟨xs,sx,le⟩:=stop;obtain⟨its,v1,p1,_⟩:=I.list sx;obtain⟨old,q0⟩:=R.cell;have l1:=v1.length;refine wpAny_pyNext_enum_end (I.ok.hd hc) q0 R.one p1.isList (by simp;omega) λh' past=>⟨rfl,I.turns (t':=s.toks) (ch:=[e,it]) hf λc o out q=>?_⟩
  simp only[aR,not_mem_nil,or_false,not_or]at out;exact past c o out.2 q
 self:=λ_ _ _ _ _ R q=>by
  obtain⟨old,q0⟩:=R.cell;exact wpAny_pyIter_enum q0 q
variable{X:Cx}
def agF(K:Fg)(ta:TA):TI:=λσ H R=>ta σ H λvs H1=>∃l xs,vs=[.ref l]/\cD K H1 l xs/\R (Ite K l) H1
theorem xX(hg:Gl X "enumerate")(hm:X.mg "enumerate"=none)(ha:PA X [e1] ta)(st1:autoParam (starEach [e1] X.env=[(false,eval e1 X.env)]) zau0) : PI X (.Tuple elts k tp) (.Call (.Name "enumerate" p) [e1] [] pos) (agF X.K ta):=by
 intro pins s σ H R I h;refine Call_ (kE I hg hm boot_enumerate (callWith_type1 (f9 (ha pos pins s σ H _ I h) λus a ⟨vs,H1,I1,r,q⟩=>?_) (by rw[st1];rfl) (by rfl)));obtain⟨l,xs,e,sx,q⟩:=q;subst e;obtain⟨u1,e,r1⟩:=vals1 r;subst e;cases r1;obtain⟨its,v1,p1,_⟩:=I1.list sx;refine call_enumerate_list p1.isList λh' c1 o1 _ old=>?_
 have I2:Inv X pins σ H1 {a with heap:=h'}:=I1.kept (t':=a.toks) old;refine wpAny_pyIter_enum (s:={a with heap:=h'}) c1 ⟨_,[a.heap.objs.size+1,a.heap.objs.size],_,_,H1,rfl,I2,Qt (Nat.succ_ne_self _),⟨⟨_,c1⟩,o1⟩,λb hb=>?_,q⟩;have le:a.heap.objs.size<=b:=by
  have hb2:b=a.heap.objs.size+1\/b=a.heap.objs.size:=by simpa using hb
  rcases hb2 with e|e<;>rw[e]<;>first|exact Nat.le_add_right _ _|exact aO _
 exact I1.vO (H':=H1) le (I1.hok.fresh le)
theorem Va:af7 X (λo i H Q=>∃(p:aB)(xs:List V)(k:Nat)(v:V),o=.ref p/\i=.int (k:Int)/\cD X.K H p xs/\xs[k]?=some v/\Q v H):=by
 intro pins s σ H o i ov iv Q I ro ri h;obtain⟨p,xs,k,v,rfl,rfl,hq,he,q⟩:=h;cases ro;obtain⟨t,rfl⟩:=ri;obtain⟨its,r,pl,hz⟩:=I.list hq;obtain⟨w,ew,rw'⟩:=r.get he;have lt:=(aM.mp he).1;have hn:=rY;exact wpAny_getItem_list pl.isList (Int.natCast_nonneg k) (by omega) (by rw[eG];simpa using ew) ⟨v,H,I,rw',q⟩
theorem Vb{K:Fg}{g:TG}{tb:TS}{D:Ends}(Pv:Nat->St->Hp->Prop)(h0:Pv 0 σ H)(hl:∀i σ H,i<=xs.length->Pv i σ H->cD K H l xs)(hs:∀i x T σ H,xs[i]?=some x->Pv i σ H->H T=none->g (.ref T) σ (upd H T (.tup [.int (i:Nat),x])) λσ2 H2=>tb {D with nx:=Pv (i+1),ct:=Pv (i+1),bk:=D.nx} σ2 H2)(hd:∀σ H,Pv xs.length σ H->D.nx σ H) : ∃W:Nat->Nat->St->Hp->Prop,(∃k,W 0 k σ H)/\∀i k σ H,W i k σ H -> ((Ite K l).stop i H/\D.nx σ H)\/((Ite K l).go i H/\∃N:St->Hp->Prop,(∀σ' H',N σ' H'->∃k',k'<k/\W (i+1) k' σ' H')/\∀x H',(Ite K l).Jm i H x H'->g x σ H' λσ2 H2=>tb {D with nx:=N,ct:=N,bk:=D.nx} σ2 H2):=by
 refine⟨λi k σ H=>k=xs.length-i/\i<=xs.length/\Pv i σ H,⟨xs.length,by simp,dG _,h0⟩,?_⟩;rintro i k σ H ⟨rfl,hi,p⟩;have sq:=hl i σ H hi p
 by_cases lt:i<xs.length
 ·have hx:xs[i]?=some xs[i]:=aA lt;refine .inr ⟨⟨xs,xs[i],sq,hx⟩,Pv (i+1),λσ' H' p'=>⟨xs.length-(i+1),by omega,rfl,lt,p'⟩,λx H' y=>?_⟩;obtain⟨T,hT,rfl,y⟩:=y;rw[y xs xs[i] sq hx];exact hs i xs[i] T σ H hx p hT
 ·have e:i=xs.length:=by omega
  subst e;exact .inl ⟨⟨xs,sq,aO _⟩,hd σ H p⟩
theorem uI(K:Fg)(hK:autoParam (X.K=K) zau0):IxR X (ac8 K):=by
 subst hK;exact iW
theorem uJ(K:Fg)(hK:autoParam (X.K=K) zau0):IxR X (ac9 K):=by
 subst hK;exact cQ
end L2
namespace Tw
abbrev Vc:=List (Option Int)
def GC(d:Int)(gs ds:List Int):Int:=(gs.zip ds).foldl (λc q=>c*q.1+q.2) d
def stL(gs:List Int)(n:Int):Int×List Int:=gs.foldr (λg r=>(r.1 / g,r.1 % g::r.2)) (n,[])
inductive InB:List Int->List Int->Prop
 |nil:InB [] []
 |cons {g y:Int} {gs ds:List Int}:0<=y->y<g->InB gs ds->InB (g::gs) (y::ds)
theorem InB.of:∀{gs ds:List Int},ds.length=gs.length->(∀(i:Nat) y g,ds[i]?=some y->gs[i]?=some g->0<=y/\y<g)->InB gs ds
 |[],[],_,_=>.nil
 |[],_::_,len,_=>by simp at len
 |_::_,[],len,_=>by simp at len
 |g::gs,y::ds,h,f=>by
  obtain⟨h0,h1⟩:=f 0 y g rfl rfl;exact .cons h0 h1 (InB.of (by simpa using h) λi y' g' e1 e2=>f (i+1) y' g' (by simpa using e1) (by simpa using e2))
theorem Vd:∀{gs ds:List Int}(d:Int),InB gs ds->stL gs (GC d gs ds)=(d,ds)
 |_,_,d,.nil=>rfl
 |_,_,d,.cons (g:=g) (y:=y) (gs:=gs) (ds:=ds) h0 h1 r=>by
  have ih:=Vd (d*g+y) r;have e:GC d (g::gs) (y::ds)=GC (d*g+y) gs ds:=rfl;have e2:stL (g::gs) (GC d (g::gs) (y::ds))=((stL gs (GC d (g::gs) (y::ds))).1 / g,(stL gs (GC d (g::gs) (y::ds))).1 % g::(stL gs (GC d (g::gs) (y::ds))).2):=rfl;rw[e2,e,ih];have g0:g≠0:=by omega
  have q1:(d*g+y) / g=d:=by
   rw[Int.add_comm,Int.add_mul_ediv_right _ _ g0,Int.ediv_eq_zero_of_lt h0 h1,Int.zero_add]
  have q2:(d*g+y) % g=y:=by
   rw[Int.add_comm,Int.add_mul_emod_self_right,Int.emod_eq_of_lt h0 h1]
  show((d*g+y) / g,(d*g+y) % g::ds)=(d,y::ds)
  rw[q1,q2]
def uK(n:Nat)(ah:List (List Nat))(t:Nat):List (List Nat):=ah.set t (ah.getD t []++[n])
theorem Ve{nms:List ν}(hn:nms.length=l.length)(hb:∀(i:Nat) c,l[i]?=some c->0<=c.s/\c.s<c.gap)(h:q∈tH nms cans shut l) : q.2.length=l.length/\∀(i:Nat) y c,q.2[i]?=some y->l[i]?=some c->0<=y/\y<c.gap:=by
 unfold tH at h;obtain⟨j,hj,e⟩:=mem_filterMap.mp h;unfold mj at e
 split at e
 ·rename_i ds hbh
  cases e;unfold fV at hbh
  split at hbh
  ·split at hbh
   ·cases hbh
   ·rename_i hd
    cases hbh;refine⟨by unfold kY;rw[ak,bK],λi y c hy hc=>?_⟩;rw[qw hc]at hy;cases hy;have nd:=(yU hn).mp hd i c hc;obtain⟨b0,b1⟩:=hb i c hc
    split
    ·exact⟨fG _,by omega⟩
    ·rename_i ni
     rw[if_neg ni]at nd;exact⟨by omega,by omega⟩
  ·cases hbh
 ·cases e
def yW{α:Type}(cs:List α)(rk:α->Int)(o:Option α):Prop:=(cs=[]/\o=none)\/∃(i:Nat)(c:α),cs[i]?=some c/\o=some c/\∀(j:Nat) c',cs[j]?=some c'->rk c'<=rk c/\(j<i->rk c'<rk c)
theorem yW.one(h:yW cs rk o)(h':yW cs rk o'):o=o':=by
 rcases h with ⟨e,rfl⟩|⟨i,c,hc,rfl,f⟩
 ·rcases h' with ⟨_,rfl⟩|⟨i',c',hc',rfl,f'⟩
  ·rfl
  ·rw[e]at hc';simp at hc'
 ·rcases h' with ⟨e,rfl⟩|⟨i',c',hc',rfl,f'⟩
  ·rw[e]at hc;simp at hc
  ·have h1:=f i' c' hc';have h2:=f' i c hc
   by_cases lt:i<i'
   ·have:=h2.2 lt;omega
   ·by_cases lt':i'<i
    ·have:=h1.2 lt';omega
    ·have e:i=i':=by omega
     subst e;rw[hc]at hc';exact hc'
def GD{α:Type}(rk:α->Int):List α->Option α
 |[]=>none
 |c::cs=>match GD rk cs with
  |none=>some c
  |some b=>if rk c<rk b then some b else some c
theorem Dn(rk:α->Int):∀cs:List α,yW cs rk (GD rk cs)
 |[]=>.inl ⟨rfl,rfl⟩
 |c::cs=>by
  have ih:=Dn rk cs;unfold GD;rcases ih with ⟨e,e'⟩|⟨i,b,hb,e',f⟩
  ·rw[e'];refine .inr ⟨0,c,rfl,rfl,λj c' hj=>?_⟩;cases j with
   |zero =>
    cases hj;exact⟨fG _,λz=>absurd z (dH _)⟩
   |succ j =>
    rw[e]at hj;simp at hj
  ·rw[e'];dsimp only
   by_cases z:rk c<rk b
   ·rw[if_pos z];refine .inr ⟨i+1,b,by simpa using hb,rfl,λj c' hj=>?_⟩;cases j with
    |zero =>
     cases hj;exact⟨by omega,λ_=>z⟩
    |succ j =>
     have:=f j c' (by simpa using hj);exact⟨this.1,λlt=>this.2 (by omega)⟩
   ·rw[if_neg z];refine .inr ⟨0,c,rfl,rfl,λj c' hj=>?_⟩;cases j with
    |zero =>
     cases hj;exact⟨fG _,λz=>absurd z (dH _)⟩
    |succ j =>
     have:=f j c' (by simpa using hj);exact⟨by omega,λz=>absurd z (by omega)⟩
theorem Vf(h:GD rk cs=some c):c∈cs:=by
 rcases Dn rk cs with ⟨_,e⟩|⟨i,b,hb,e,_⟩
 ·rw[e]at h;cases h
 ·rw[e]at h;cases h;exact aQ hb
noncomputable def vW{σ ρ:Type}[DecidableEq σ](B:σ->Option (ρ×σ)):Nat->σ->List σ->List ρ->List ρ×Option Nat
 |0,_,_,cs=>(cs,none)
 |n+1,s,met,cs=>if s∈met then(cs,some (met.idxOf s)) else match B s with
  |none=>(cs,none)
  |some c=>vW B n c.2 (met++[s]) (cs++[c.1])
section
variable{σ ρ:Type}[DecidableEq σ]{B:σ->Option (ρ×σ)}{n:Nat}{s:σ}{met:List σ}{cs:List ρ}
theorem M5(h:s∈met):vW B (n+1) s met cs=(cs,some (met.idxOf s)):=by
 unfold vW;rw[if_pos h]
theorem Qw(h:s∈met):∃j,met[j]?=some s/\(∀i z,i<j->met[i]?=some z->z≠s)/\∀n cs,vW B (n+1) s met cs=(cs,some j):=by
 have lj:met.idxOf s<met.length:=List.idxOf_lt_length_iff.mpr h;refine⟨met.idxOf s,by rw[aA lj];exact congrArg some (List.getElem_idxOf lj),λi z lt hz e=>?_,λn cs=>M5 h⟩;subst e;have l2:=(aM.mp hz).1;have:=List.not_of_lt_findIdx lt;rw[(aM.mp hz).2]at this;simp at this
theorem M6(h:s∉met)(e:B s=none):vW B (n+1) s met cs=(cs,none):=by
 unfold vW;rw[if_neg h,e]
theorem Vg(h:s∉met)(e:B s=some c):vW B (n+1) s met cs=vW B n c.2 (met++[s]) (cs++[c.1]):=by
 rw[vW,if_neg h,e]
end
theorem vX:∀(n:Nat)(l:List Nat),l.Nodup->(∀x∈l,x<n)->l.length<=n
 |0,[],_,_=>aO _
 |0,x::_,_,h=>absurd (h x (mem_cons_self ..)) (Nat.not_lt_zero _)
 |n+1,l,nd,h=>by
  by_cases m:n∈l
  ·have:=vX n (l.erase n) (nd.erase n) λx hx=>by
    have h1:=(Nodup.mem_erase_iff nd).mp hx;have h2:=h x h1.2;have:=h1.1;omega
   rw[List.length_erase_of_mem m]at this;omega
  ·have:=vX n l nd λx hx=>by
    have h2:=h x hx;have:x≠n:=λz=>m (z ▸ hx)
    omega
   omega
theorem JN{σ:Type}{l:List σ}(nm:σ->Nat)(st:Nat->σ)(nd:l.Nodup)(h:∀x∈l,nm x<n/\st (nm x)=x):l.length<=n:=by
 have e:(l.map nm).map st=l:=by
  rw[gj];exact(List.map_congr_left λx hx=>(h x hx).2).trans (map_id' l)
 have nd':(l.map nm).Nodup:=by
  rw[<- e]at nd;exact Pairwise.imp (λh z=>h (by rw[z])) (pairwise_map.mp nd)
 have:=vX n (l.map nm) nd' λx hx=>by
  obtain⟨s0,hs0,rfl⟩:=bM.mp hx;exact(h s0 hs0).1
 rw[ak]at this;exact this
end Tw
namespace L2
open PySem PySem.Spec PyProof.Rows
variable{X:Cx}{pins:List (aB×Obj)}{σ:St}
section
variable{H:Hp}{s:aW}
theorem Inv.grown(I:Inv X pins σ H s)(hP:H P=some (.wK ps))(k:∀b u,b≠P->s.heap.get? b=some u->h'.get? b=some u)(new:h'.get? P=some {cls:=.none,data:=.fields (ps++more)}) : Inv X pins σ (upd H P (.wK (ps++more))) {s with heap:=h',toks:=t'}:=by
 have ne:∀b,H b=none->b≠P:=λb e z=>by rw[z,hP]at e;cases e
 refine I.un (t':=t') ⟨λb o e n _ _=>k b o (ne b n) e,λb o e n _ _=>⟨o.slots,k b o (ne b n) e⟩,λb o e n _=>by rw[bf (ne b n)];exact n,λb o e _=>?_,λb xs e=>?_,λb o u e=>?_,λb qs e=>?_⟩ λb u e=>?_
 ·by_cases z:b=P
  ·rw[z];exact⟨_,new⟩
  ·exact⟨o,k b o z e⟩
 ·rw[bf (λz=>by rw[z,hP]at e;cases e)];exact e
 ·rw[bf (λz=>by rw[z,hP]at e;cases e)];exact e
 ·by_cases z:b=P
  ·subst z;rw[hP]at e;cases e;exact⟨more,aF⟩
  ·exact⟨#[],by rw[bf z,e];simp⟩
 ·by_cases z:b=P
  ·subst z;rw[aF]at e;cases e;exact new
  ·rw[bf z]at e;refine(I.hok b u e).stay (λc v hc q=>k c v ?_ q) (λc q=>by rw[bf (λz=>by rw[z,hP]at q;cases q)];exact q) λc xs q=>by rw[bf (λz=>by rw[z,hP]at q;cases q)];exact q
   rcases hc with rfl|hc
   ·exact z
   ·intro y;rw[y,hP]at hc;cases hc
def rJ(c:aB)(qual:Str):HO:=.ext λh=>h.CodeRec (.ref c) qual
theorem ZQ(x:h.CodeRec (.ref c) qual):gq P w H h c (rJ c qual):=by
 refine⟨x,?_,λh1 h2 y k=>?_⟩
 ·obtain⟨c',oc,vs,tq,e,ho,_⟩:=x;cases e;exact⟨oc,ho⟩
 ·obtain⟨c',oc,vs,tq,e,ho,r⟩:=y;cases e;exact⟨c,oc,vs,tq,rfl,k oc ho,r⟩
def m5(P:aB)(pos:Pos)(qual:Str)(H:Hp):Prop:=∃ps:Array aC,H P=some (.wK ps)/\TriplesOk ps.toList/\(codeAmong pos ps.toList=none\/∃c,codeAmong pos ps.toList=some (.ref c)/\H c=some (rJ c qual))
def lq(P:aB)(H H':Hp):Prop:=∀b o,b≠P->H b=some o->H' b=some o
theorem lq.refl :lq P H H:=λ_ _ _ e=>e
theorem lq.trans(x:lq P H H1)(y:lq P H1 H2):lq P H H2:=λb o n e=>y b o n (x b o n e)
theorem Vh{A:eE}{E:aC->aW->Prop}{cl:List (Str×aB)}{c P:aB}{Q:aC->aW->Prop}(I:Inv X pins σ H s)(hdef:defaultsOf params X.env=([],[]))(hcl:closureFor scope X.env=pure cl)(hcode:X.env.code=.ref c)(C:CodeHd X.base c P)(hB:X.base.BuiltinsAt X.mg P)(hex:X.ex=[])(T:m5 P pos qual H)(hq:X.env.qual++"<lambda>"=qual)(k:∀(f c':aB) (ctv pm:aC) (h':Heap) (tk:Nat) (H':Hp),s.heap.objs.size<=f->lq P H H'->m5 P pos qual H'->H' c'=some (rJ c' qual)->H' f=none->Inv X pins σ H' {s with heap:=h',toks:=tk} -> h'.get? f=some (kla_obj "<lambda>" qual params body scope cl pm c' ctv)->Q (.ref f) {s with heap:=h',toks:=tk}) : wpAny (model X.prog X.w) A (eval (.Lambda params body scope pos) X.env) Q E s:=by
 obtain⟨ps,hP,ht,hit⟩:=T;subst hq;have hPo:s.heap.get? P=some {cls:=.none,data:=.fields ps}:=I.hok P _ hP;have hgl:=I.ok.mod.glob;have ngP:mainGlobals≠P:=λz=>by
  obtain⟨o,_,_,e,_⟩:=hgl;have:=(I.bs _ _ e).2;rw[z,hP]at this;cases this
 have hBs:s.heap.BuiltinsAt X.mg P:=by
  obtain⟨bm,o,h1,h2,h3,h4,h5,h6⟩:=hB;exact⟨bm,o,h1,h2,h3,h4,I.bk _ _ h5,h6⟩
 have hg:s.heap.Ns mainGlobals X.mg:=hgl.keeps I.bk;have Cs:=C.keeps I.bk;refine PySem.W.kla_eval hdef ?_;rcases hit with miss|⟨c1,hf,hc1⟩
 ·refine PySem.W.kla_makeFunction (mg:=X.mg) hcl I.ok.glob hg hcode Cs hPo ht miss ngP hBs λc' ctv h' tk hx ge lt hrec htb=>?_
  have ncP:c'≠P:=λz=>dH _ (bJ (Heap.lt_size hPo) (by rw[<- z];exact ge))
  have hn:H c'=none:=I.hok.fresh ge;have I1:=I.grown (h':=h') (t':=tk) (more:=#[rawInt pos.line,rawInt pos.col,.ref c']) hP (λb u nb e=>hx b u nb e) htb;have fpc:=I.vO (H':=upd H P (.wK (ps++#[rawInt pos.line,rawInt pos.col,.ref c']))) ge (by rw[bf ncP];exact hn);have hnx:c'∉X.ex:=by rw[hex];simp
  have I2:=I1.adopt (b:=c') (o:=rJ c' (X.env.qual++"<lambda>")) ⟨fpc.1,fpc.2.1,fpc.2.2.1,λ_=>Heap.get?_none_of_le (bx I.sz ge),fpc.2.2.2.2.1,fpc.2.2.2.2.2⟩ hnx (ZQ hrec);have I3:Inv X pins σ _ {s with heap:=h'.push _,toks:=tk}:=I2.kept (t':=tk) (h':=h'.push (kla_obj "<lambda>" (X.env.qual++"<lambda>") params body scope cl ((X.mg "__name__").getD .none) c' ctv)) λb u e=>aq _ e
  refine k h'.objs.size c' ctv _ _ tk _ (by omega) (λb o nb e=>?_) ⟨_,by rw[bf (Ne.symm ncP),aF],by simpa using TriplesOk_snoc _ _ _ _ ht,.inr ⟨c',by simpa using codeAmong_snoc _ ht miss,aF⟩⟩ aF ?_ I3 (aN _ rfl)
  ·rw[bf (dN e hn),bf nb];exact e
  ·exact I2.hok.fresh (aO _)
 ·refine PySem.W.kla_makeFunctionHit (mg:=X.mg) hcl I.ok.glob hg hcode Cs hPo ht hf hBs λctv h' tk kp sz=>?_
  have I3:Inv X pins σ H {s with heap:=h'.push _,toks:=tk}:=I.kept (t':=tk) (h':=h'.push (kla_obj "<lambda>" (X.env.qual++"<lambda>") params body scope cl ((X.mg "__name__").getD .none) c1 ctv)) λb u e=>aq _ (kp b u e)
  exact k h'.objs.size c1 ctv _ _ tk H sz lq.refl ⟨ps,hP,ht,.inr ⟨c1,hf,hc1⟩⟩ hc1 (I.hok.fresh sz) I3 (aN _ rfl)
noncomputable abbrev M7(X:Cx)(A:eE)(qual:Str)(scope:Scope)(cl:List (Str×aB))(f:aB)(cd:aC)(N':List Str)(s₀:aW)(H₀:Hp)(E':aC->aW->Prop):Cx := {X with A:=A.deeper (envX qual scope s₀.heap.objs.size f cd cl),N:=N',s₀:=s₀,H₀:=H₀,env:=envX qual scope s₀.heap.objs.size f cd cl,outer:=X.stack,stack:=envX qual scope s₀.heap.objs.size f cd cl::X.stack,ex:=[],fn:=λ_=>false,pn:=[],xe:=E'}
structure Bx(X:Cx)(scope:Scope)(cl:List (Str×aB))(x:Str)(N':List Str)(cap:List (Option Nat)):Prop where
 kind:scope.kind=.function
 co:scope.isCoroutine=false
 gen:scope.isGenerator=false
 ql:∀y∈scope.names,y.2≠.cell
 par:scope.names.lookup x=some .local
 sub:∀n c,cl.lookup n=some c->X.env.cells.lookup n=some c
 has:∀n,scope.names.lookup n=some .free->∃c,cl.lookup n=some c
 len:cap.length=N'.length
 adk:∀(i j:Nat)(y:Str),cap[i]?=some (some j)->N'[i]?=some y->X.N[j]?=some y/\X.env.scope.names.lookup y=some .cell/\scope.names.lookup y=some .free
theorem ZR{E:aC->aW->Prop}{f c':aB}{ctv pm u:aC}(I:Inv X pins σ H s)(L:Bx X scope cl x N' cap)(hb:∀f cd s₀ H₀ E',PE (M7 X A qual scope cl f cd (x::N') s₀ H₀ E') body tb)(hA:A.frames=some X.stack)(hh:X.calm=true->A.handled=none)(room:A.depth<recursionLimit)(ho:s.heap.get? f=some (kla_obj "<lambda>" qual params body scope cl pm c' ctv))(hcd:s.heap.CodeRec (.ref c') qual)(hbind:bindArgs (kla_fn "<lambda>" qual params body scope cl pm (.ref c') ctv) ⟨[u],[]⟩=pure [(x,u)])(r:RelV v u)(h:tb (some v::jB cap σ) H Q):wpAny (model X.prog X.w) A (call (.ref f) [u]) (EP X pins σ Q) E s:=by
 refine wpAny_call (PySem.W.kla_callFunE room ho rfl L.co L.gen rfl hcd ?_);rw[hbind];refine au (wpAny_newFunctionEnv L.ql (λy hy=>by rw[aH.mp hy];exact L.par) (λh₁ hns hsb=>⟨I.nolimit.fresh _ hsb,?_⟩) L.kind);have hk:∀b o,s.heap.get? b=some o->h₁.get? b=some o:=λb o e=>hsb.extBut b o (Nat.ne_of_lt (Heap.lt_size e)) (aq _ e)
 have Qx:∀(y:Str),scope.names.lookup y=some .cell->False:=λy e=>L.ql _ (PySem.mem_of_lookup e) rfl
 refine PySem.W.kla_codeExpr (R:=λr s'=>match r with | .ok (.ret v)=>EP X pins σ Q v s' | .ok _=>False | .error e=>E e s') ?_;have J:Inv (M7 X A qual scope cl f (.ref c') (x::N') s H λe' s'=>wpAny (model X.prog X.w) (A.deeper (envX qual scope s.heap.objs.size f (.ref c') cl)) (leaving (envX qual scope s.heap.objs.size f (.ref c') cl) e') (λ_ s''=>E e' s'') (λe'' s''=>E e'' s'') s') [] (some v::jB cap σ) H {s with heap:=h₁,toks:=s.toks+1}:=by
  refine⟨⟨I.ok.mod,L.kind,rfl,rfl,aO _,λy z c e1 e2=>I.ok.inj y z c (L.sub _ _ e1) (L.sub _ _ e2),λy hy=>?_,(λy c e=>nomatch e),hh,Around.frames_deeper hA,.inr ⟨rfl,rfl⟩,(λb hb=>nomatch hb),I.bs,bx I.ok.Pr I.sz,(λb o e z=>nomatch z),(λb hb=>nomatch hb),I.stack,I.xQ⟩,rfl,I.bare,Un.kept hk,⟨_,hns,λi y z e1 e2 e3=>?_⟩,λy c e=>?_,I.hok.fresh (aO _),λy c e=>I.kh y c (L.sub _ _ e),(λp hp=>nomatch hp),I.hok.kept hk,?_⟩
  ·have hy:scope.names.lookup y=some .cell\/scope.names.lookup y=some .free:=hy;rcases hy with hy|hy
   ·exact(Qx y hy).elim
   ·exact L.has y hy
  ·cases i with
   |zero =>
    have e1:some x=some y:=e1;have e2:some (some v)=some (some z):=e2;cases e1;cases e2;exact⟨u,r,.inl ⟨L.par,by simp⟩⟩
   |succ i =>
    have e1:N'[i]?=some y:=e1;have e2:(jB cap σ)[i]?=some (some z):=e2;unfold jB at e2;rw[aJ]at e2;obtain⟨o,ho',eo⟩:=bh.mp e2;cases o with
    |none=>cases eo
    |some j =>
     have ez:(σ[j]?).join=some z:=eo;have e4:σ[j]?=some (some z):=by
      cases w:σ[j]? with
      |none=>rw[w]at ez;cases ez
      |some yy=>rw[w]at ez;exact congrArg some ez
     obtain⟨g1,g2,g3⟩:=L.adk i j y ho' e1;obtain⟨m,_,hl⟩:=I.loc;obtain⟨uz,rz,l⟩:=hl j y z g1 e4 (.inr (.inl g2));rcases l with ⟨l,_⟩|⟨_,c,l,q⟩
     ·have l':X.env.scope.names.lookup y=some .local:=l;rw[g2]at l';cases l'
     ·obtain⟨c2,hc2⟩:=L.has y g3;have:=L.sub _ _ hc2;rw[l]at this;cases this;exact⟨uz,rz,.inr ⟨.inr g3,c,hc2,q.keeps hk⟩⟩
  ·obtain⟨w,q⟩:=I.cell y c (L.sub _ _ e);exact⟨w,q.keeps hk⟩
  ·show _=(x::N').length
   rw[length_cons,length_cons];unfold jB;rw[ak,L.len]
 refine cW (hb f (.ref c') s H _ [] _ _ H Q J h) (λy s' hy=>?_) λe s' he=>he
 obtain⟨z,H',J',rz,q⟩:=hy;exact⟨z,H',I.call' (ch:=[]) J'.os J'.base J'.hok J'.bare (λb hb=>nomatch hb),rz,q⟩
end
theorem ZS(a u d:aC):argsOk "max" ⟨[a],[(Str.ofString "key",u),(Str.ofString "default",d)]⟩:=by unfold argsOk;kernel_rfl
def Vi(vs:List V)(kf:Nat->Int)(j:Nat)(B:Array aC):Prop := (j=0/\B=#[])\/∃i u t v,B=#[u,.int (kf i) t]/\vs[i]?=some v/\RelV v u/\i<j/\∀j',j'<j->kf j'<=kf i/\(j'<i->kf j'<kf i)
theorem Dp:(toString "max"++toString ".loop":String)="max.loop":=rfl
variable{f:aB}{params:Arguments}{body:Expr}{scope:Scope}{cl:List (Str×aB)}{qual x:Str}{N':List Str}{cap:List (Option Nat)}{tb:TE}
section
variable{E:aC->aW->Prop}{Q:VK}{l I S c':aB}{ctv pm:aC}{vs:List V}{kf:Nat->Int}{J:Nat->Hp->Prop}
abbrev Vj(X:Cx)(pins:List (aB×Obj))(σ:St)(Q:VK)(E:aC->aW->Prop):Result->aW->Prop:=λr s'=>match r with | .ok (.ret v)=>EP X pins σ Q v s' | .ok _=>False | .error e=>E e s'
theorem Qy(hc:X.calm=true)(L:Bx X scope cl x N' cap)(hb:∀f cd s₀ H₀ E',PE (M7 X X.A.in1 qual scope cl f cd (x::N') s₀ H₀ E') body tb)(room:X.A.depth<recursionLimit)(hbind:∀u,bindArgs (kla_fn "<lambda>" qual params body scope cl pm (.ref c') ctv) ⟨[u],[]⟩=pure [(x,u)])(IS:I≠S)(hL:∀j H',J j H'->cD X.K H' l vs)(hC:∀j H',J j H'->H' c'=some (rJ c' qual))(step:∀j v H',vs[j]?=some v->J j H'->tb (some v::jB cap σ) H' λy sZ=>y=.int (kf j)/\J (j+1) sZ)(adC:vs=[]->∀H',J 0 H'->Q .non H')(fin:∀H' i v,J vs.length H'->vs[i]?=some v->(∀j,j<vs.length->kf j<=kf i/\(j<i->kf j<kf i))->Q v H') : ∀(r j:Nat)(H:Hp)(s:aW)(B:Array aC)(n:Nat),vs.length-j=r->j<=vs.length->Inv X (pins++[(f,kla_obj "<lambda>" qual params body scope cl pm c' ctv)]) σ H s->J j H -> (∀b∈[I,S],nM X (pins++[(f,kla_obj "<lambda>" qual params body scope cl pm c' ctv)]) H b)->s.heap.IsListIter I l j->s.heap.get? S=some (seqObj "list" B n)->Vi vs kf j B -> codeAny (model X.prog X.w) X.A (.builtin "max.loop" ⟨[.ref I,.ref f,.ref S],[("default",.none)]⟩) (Vj X pins σ Q E) s:=by
 intro r
 induction r with
 |zero =>
  intro j H s B n hr hj In hJ fp it hS best;have ej:j=vs.length:=by omega
  subst ej;obtain⟨its,rv,pl,_⟩:=In.list (hL _ _ hJ);have len:its.length=vs.length:=rv.length.symm;have nl:l≠I:=λz=>by
   obtain⟨oi,ei,_,di⟩:=it;obtain⟨ol,el,cl',_,dl⟩:=pl.isList;rw[z,ei]at el;cases el;rw[di]at dl;cases dl
  have W:=Walks.list (prog:=X.prog) (w:=X.w) (A:=X.A.in1) (In.ok.hd hc) I l nl its.toArray;refine codeAny_builtin PySem.F.entry_max_loop ?_;rw[Around.under_plainId PySem.F.plain_max_loop _];refine aj (wpAny_seqItems hS rfl ?_);refine aj (wpAny_tryCatch (W.done _ _ _ ⟨by rw[size_toArray,len];exact it,pl.isList⟩ λh' tk' hk'=>?_));have I1:=In.turns (h':=h') (t':=tk') (ch:=[I]) (λb hb=>fp b (by simpa using Or.inl (aH.mp hb))) λb o nb e=>hk' b o nb e
  have hS1:=hk' S _ (by simpa using Ne.symm IS) hS;rcases best with ⟨z,rfl⟩|⟨i,u,tq,v,rfl,hi,rv',lt,mx⟩
  ·have ev:vs=[]:=List.eq_nil_of_length_eq_zero z;exact aj (wpAny_rule (au ⟨.non,H,I1.nO,rfl,adC ev H (by rw[z]at hJ;exact hJ)⟩))
  ·refine aj (wpAny_updateSeq (s:={s with heap:=h',toks:=tk'}) hS1 rfl (aj (wpAny_letGo (au ?_))));have sb:=Heap.SameBut.update h' S (Obj.mapSeq λ_=>(#[]:Array aC));have I2:=I1.turns (h':=h'.update S (Obj.mapSeq λ_=>(#[]:Array aC))) (t':=tk') (ch:=[S]) (λb hb=>fp b (by simpa using Or.inr (aH.mp hb))) λb o nb e=>(sb.2 b (λz=>nb (by rw[z];simp))).trans e
   exact⟨v,H,I2.nO,rv',fin H i v hJ hi mx⟩
 |succ r ih =>
  intro j H s B n hr hj In hJ fp it hS best;have lt:j<vs.length:=by omega
  have hvj:vs[j]?=some vs[j]:=aA lt;obtain⟨its,rv,pl,_⟩:=In.list (hL _ _ hJ);have len:its.length=vs.length:=rv.length.symm;have nl:l≠I:=λz=>by
   obtain⟨oi,ei,_,di⟩:=it;obtain⟨ol,el,cl',_,dl⟩:=pl.isList;rw[z,ei]at el;cases el;rw[di]at dl;cases dl
  have W:=Walks.list (prog:=X.prog) (w:=X.w) (A:=X.A.in1) (In.ok.hd hc) I l nl its.toArray;refine codeAny_builtin PySem.F.entry_max_loop ?_;rw[Around.under_plainId PySem.F.plain_max_loop _];refine aj (wpAny_seqItems hS rfl ?_);refine aj (wpAny_tryCatch (W.item j _ _ _ (by rw[size_toArray,len];exact lt) ⟨it,pl.isList⟩ λu h' tk' hP hst' hk'=>?_));obtain⟨uj,huj,ruj⟩:=rv.get hvj;have eu:u=uj:=by
   have:its[j]?=some u:=by simpa using hP
   rw[huj]at this;exact(bO this).symm
  subst eu;have I1:=In.turns (h':=h') (t':=tk') (ch:=[I]) (λb hb=>fp b (by simpa using Or.inl (aH.mp hb))) λb o nb e=>hk' b o nb e
  have hS1:=hk' S _ (by simpa using Ne.symm IS) hS;obtain⟨oI,hoI,hcI,hdI⟩:=id hst'.1;have objs:∀b∈[I,S],∃o,h'.get? b=some o/\∀z,o.data≠.cell z:=λb hb=>by
   rcases aR.mp hb with e|hb'
   ·rw[e];exact⟨oI,hoI,λz q=>by rw[hdI]at q;cases q⟩
   ·rw[aH.mp hb'];exact⟨_,hS1,λz q=>by cases q⟩
  have I2:=I1.pinned (fp:=[I,S]) fp objs;have hf:=(I2.pin (f,_) (mem_append_right _ (mem_append_left _ (mem_append_right _ (aH.mpr rfl))))).1;have hcd:h'.CodeRec (.ref c') qual:=(show gq X.prog X.w H h' c' (rJ c' qual) from I2.hok c' _ (hC _ _ hJ)).1;refine aj (wpAny_tryCatch (wpAny_holding (cW (ZR (Q:=λy sZ=>y=.int (kf j)/\J (j+1) sZ) (E:=λ_ _=>False) I2 L hb I2.ok.frames (λ_=>I2.ok.hd hc) room hf hcd (hbind u) ruj (step j _ H hvj hJ)) (λy s2 hy=>?_) λ_ _ hF=>hF.elim)));obtain⟨z,H2,I3,rz,ez,J2⟩:=hy;subst ez;obtain⟨t2,rfl⟩:=rz;have adD:=I3.pin (I,oI) (mem_append_right _ (mem_append_right _ (kJ (by simp) hoI)));have Vk:=I3.pin (S,_) (mem_append_right _ (mem_append_right _ (kJ (by simp) hS1)));have fp2:∀b∈[I,S],nM X (pins++[(f,kla_obj "<lambda>" qual params body scope cl pm c' ctv)]) H2 b:=λb hb=>by
   obtain⟨_,f2⟩:=fp b hb;refine⟨?_,f2⟩;rcases aR.mp hb with e|hb'
   ·rw[e];exact adD.2.1
   ·rw[aH.mp hb'];exact Vk.2.1
  have I4:=I3.nO;have hit2:s2.heap.IsListIter I l (j+1):=⟨oI,adD.1,hcI,hdI⟩;have put:∀tk,Vi vs kf (j+1) #[u,.int (kf j) t2]->codeAny (model X.prog X.w) X.A (.builtin "max.loop" ⟨[.ref I,.ref f,.ref S],[("default",.none)]⟩) (Vj X pins σ Q E) {s2 with heap:=s2.heap.update S (Obj.mapSeq λ_=>#[u,.int (kf j) t2]),toks:=tk}:=λtk b2=>by
   have sb:=Heap.SameBut.update s2.heap S (Obj.mapSeq λ_=>#[u,.int (kf j) t2]);have I5:=I4.turns (h':=s2.heap.update S (Obj.mapSeq λ_=>#[u,.int (kf j) t2])) (t':=tk) (ch:=[S]) (λb hb=>fp2 b (by simpa using Or.inr (aH.mp hb))) λb o nb e=>(sb.2 b (λz=>nb (by rw[z];simp))).trans e
   exact ih (j+1) H2 _ _ _ (by omega) lt I5 J2 fp2 ⟨oI,(sb.2 I IS).trans adD.1,hcI,hdI⟩ (get?_update_seq Vk.1 λ_=>#[u,.int (kf j) t2]) b2
  rcases best with ⟨z,rfl⟩|⟨i,u0,tq,v0,rfl,hi,rv0,li,mx⟩
  ·refine aj (wpAny_updateSeq (s:=s2) Vk.1 rfl ?_);rw[Dp];exact au ⟨plainId_quiet PySem.F.plain_max_loop _,put s2.toks (.inr ⟨j,u,t2,vs[j],rfl,hvj,ruj,Nat.lt_succ_self j,λj' h=>by
    have:j'=j:=by omega
    subst this;exact⟨fG _,λh=>absurd h (dH _)⟩⟩)⟩
  ·refine aj (wpAny_tryCatch (wpAny_holding (aj (CmpOf.ints_gt (prog:=X.prog) (w:=X.w) (A:=X.A.in1) (P:=λi v=>∃t,v=.int (kf i) t) kf (λi v h=>h) j i _ _ _ _ _ ⟨t2,rfl⟩ ⟨tq,rfl⟩ ?_))));refine aj (wpAny_holding (wpAny_truthy_bool (aj (wpAny_letGo (au ?_)))))
   by_cases gt:kf j>kf i
   ·simp only[gt,decide_true,if_true];refine aj (wpAny_updateSeq (s:=s2) Vk.1 rfl (aj (wpAny_letGo ?_)));rw[Dp];exact au ⟨plainId_quiet PySem.F.plain_max_loop _,put s2.toks (.inr ⟨j,u,t2,vs[j],rfl,hvj,ruj,Nat.lt_succ_self j,λj' h=>by
     by_cases e:j'=j
     ·subst e;exact⟨fG _,λh=>absurd h (dH _)⟩
     ·have:=(mx j' (by omega)).1;exact⟨by omega,λ_=>by omega⟩⟩)⟩
   ·simp only[gt,decide_false,Bool.false_eq_true,if_false];refine aj (wpAny_letGo ?_);rw[Dp];refine au ⟨plainId_quiet PySem.F.plain_max_loop _,ih (j+1) H2 s2 _ _ (by omega) lt I4 J2 fp2 hit2 Vk.1 (.inr ⟨i,u0,tq,v0,rfl,hi,rv0,by omega,λj' h=>?_⟩)⟩
    by_cases e:j'=j
    ·subst e;exact⟨by omega,λh=>by omega⟩
    ·exact mx j' (by omega)
end
section
variable{e:Expr}{ta:TA}{p pos Qz kp kp2 dp:Pos}{kd:Nat}{c P:aB}
noncomputable def agH(K:Fg)(P:aB)(Qz:Pos)(qual:Str)(cap:List (Option Nat))(ta:TA)(tb:TE):TE:=λσ H Q=>ta σ H λws H1=>∃(l:aB)(vs:List V)(kf:Nat->Int),ws=[.ref l]/\cD K H1 l vs/\m5 P Qz qual H1 /\ ∀H2 c',lq P H1 H2->m5 P Qz qual H2->H2 c'=some (rJ c' qual)->∃J:Nat->Hp->Prop,J 0 H2/\(∀j H',J j H'->cD K H' l vs)/\(∀j H',J j H'->H' c'=some (rJ c' qual)) /\ (∀j v H',vs[j]?=some v->J j H'->tb (some v::jB cap σ) H' λy sZ=>y=.int (kf j)/\J (j+1) sZ) /\ (vs=[]->∀H',J 0 H'->Q .non H')/\∀H' i v,J vs.length H'->vs[i]?=some v->(∀j,j<vs.length->kf j<=kf i/\(j<i->kf j<kf i))->Q v H'
theorem QB(hc:X.calm=true)(hm:X.mg "max"=none)(ha:PA X [e] ta)(hcl:closureFor scope X.env=pure cl)(hcode:X.env.code=.ref c)(C:CodeHd X.base c P)(hB:X.base.BuiltinsAt X.mg P)(hex:X.ex=[])(hq:X.env.qual++"<lambda>"=qual)(L:Bx X scope cl x N' cap)(hb:∀f cd s₀ H₀ E',PE (M7 X X.A.in1 qual scope cl f cd (x::N') s₀ H₀ E') body tb)(room:X.A.depth<recursionLimit)(hbind:∀pm c' ctv u,bindArgs (kla_fn "<lambda>" qual params body scope cl pm (.ref c') ctv) ⟨[u],[]⟩=pure [(x,u)])(hdef:autoParam (defaultsOf params X.env=([],[])) zau0)(hg:autoParam (Gl X "max") zau0)(st1:autoParam (starEach [e] X.env=[(false,eval e X.env)]) zau0) : PE X (.Call (.Name "max" p) [e] [⟨some "key",.Lambda params body scope Qz,kp⟩,⟨some "default",.Constant .none kd dp,kp2⟩] pos) (agH X.K P Qz qual cap ta tb):=by
 intro pins s σ H Q I h;refine wpAny_Call_Name_kw (kE I hg hm boot_max ?_);refine callWith_kw (f9 (ha pos pins s σ H _ I h) λus a ⟨ws,H1,I1,r,q⟩=>?_) (by rw[st1];rfl) (by rw[st1];rfl);obtain⟨l,vs,kf,e1,sq,T,rest⟩:=q;subst e1;obtain⟨u,e1,ru⟩:=vals1 r;subst e1;cases ru;refine kws_cons (Vh I1 hdef hcl hcode C hB hex T hq λf c' ctv pm h' tk H2 ge bp T2 hC2 hf2 I2 ho=>?_);refine kws_cons (Constant_none (kws_nil ?_));obtain⟨J,j0,jL,jC,step,adC,fin⟩:=rest H2 c' bp T2 hC2;have fpf:=I1.vO (H':=H2) ge hf2;have I3:Inv X (pins++[(f,kla_obj "<lambda>" qual params body scope cl pm c' ctv)]) σ H2 {a with heap:=h',toks:=tk}:=I2.CK λq hq'=>by
  rcases bQ.mp hq' with hm'|hm'
  ·exact I2.pin q (mem_append_right _ hm')
  ·rw[aH.mp hm'];exact⟨ho,hf2,fpf.2.1,fpf.2.2.1,λz y=>by cases y⟩
 obtain⟨its,rv,pl,_⟩:=I3.list (jL _ _ j0);refine kmk_tree PySem.F.kind_max PySem.F.plain_max PySem.F.entry_max (ZS _ _ _) ?_;refine aj (wpAny_of_eq (show Builtin.Builtins.bindParams "max" ["key","default"] 0 ⟨[],[(Str.ofString "key",.ref f),(Str.ofString "default",.none)]⟩=pure [some (.ref f),some .none] from rfl) ?_);refine aj (au ?_);refine aj (wpAny_pyIter_list pl.isList (aj (wpAny_newList ?_ (dG _))));rw[Dp];have sz:(h'.push {cls:=.type "list_iterator",data:=.fields #[.ref l,.int 0 0]}).objs.size=h'.objs.size+1:=size_push' ..;have fpI:=I3.vO (H':=H2) (b:=h'.objs.size) (aO _) (I3.hok.fresh (aO _));have fpS:=I3.vO (H':=H2) (b:=(h'.push {cls:=.type "list_iterator",data:=.fields #[.ref l,.int 0 0]}).objs.size) (by rw[sz];exact Nat.le_succ _) (I3.hok.fresh (by rw[sz];exact Nat.le_succ _));have I4:=I3.kept (t':=tk) (h':=(h'.push {cls:=.type "list_iterator",data:=.fields #[.ref l,.int 0 0]}).push (seqObj "list" #[] 0)) λb o e=>aq _ (aq _ e)
 refine au ⟨plainId_quiet PySem.F.plain_max_loop _,Qy (vs:=vs) (kf:=kf) (J:=J) hc L hb room (hbind _ _ _) ?_ jL jC step adC fin vs.length 0 H2 _ #[] 0 rfl (dG _) I4 j0 ?_ ⟨_,aq _ (aN _ rfl),rfl,rfl⟩ (aN _ rfl) (.inl ⟨rfl,rfl⟩)⟩
 ·rw[sz];exact Nat.ne_of_lt (Nat.lt_succ_self _)
 ·intro b hb';rcases aR.mp hb' with z|hb'
  ·rw[z];exact fpI
  ·rw[aH.mp hb'];exact fpS
end
section
variable{P:cC}{w:World}{K:Fg}{mg:Str->Option aC}{base:Heap}{st:dI}{fd:fH}{N ps:List Str}{k:Nat}{sp:Sp}
theorem mH.Qp{cv:aC}(F:mH K x qual st f fd)(hcv:fd.code=cv)(S:bY N ps (aZ st))(len:∀vs H Q E,sp vs H Q E->vs.length=ps.length)(body:∀(A:eE) (outer:List Env) (s:aW) (H:Hp) (vs:List V) (Q:VK) (E:XK),eZ k (A.deeper (envOfC qual (aZ st) s.heap.objs.size f cv))->sp vs H Q E -> ∃t,Ac (qd (fY P w) P w K mg base N qual (aZ st) f cv A outer s H E) (iV st) t/\t {nx:=λ_ H'=>Q .non H',rt:=Q} (start N vs) H):cM P w K mg base (fY P w) (k+1) f fd ps sp:=by
 obtain⟨oc,od,kV,doc,pm,an,cdv,ct,osl,rfl,lk,hcd⟩:=F.ex;have e:cdv=cv:=hcv;subst e;exact Ub lk hcd S len λA outer s H vs Q E hr h=>body A outer s H vs Q E hr h
theorem Bx.one{c:aB}(kind:scope.kind=.function)(co:scope.isCoroutine=false)(gen:scope.isGenerator=false)(ql:∀z∈scope.names,z.2≠.cell)(par:scope.names.lookup x=some .local)(hN:X.N[j]?=some y)(hs:X.env.scope.names.lookup y=some .cell)(hl:scope.names.lookup y=some .free)(only:∀z∈scope.names,z.2=.free->z.1=y)(hc:X.env.cells.lookup y=some c):Bx X scope [(y,c)] x [y] [some j]:=by
 refine⟨kind,co,gen,ql,par,λn c' h=>?_,λn h=>?_,rfl,λi k z h1 h2=>?_⟩
 ·by_cases e:n=y
  ·subst e;have:([(n,c)]:List (Str×aB)).lookup n=some c:=by simp[List.lookup]
   rw[this]at h;cases h;exact hc
  ·have:([(y,c)]:List (Str×aB)).lookup n=none:=by
    have:(n == y)=false:=by simpa using e
    simp[List.lookup,this]
   rw[this]at h;cases h
 ·have:=only _ (PySem.mem_of_lookup h) rfl;have e:n=y:=this;subst e;exact⟨c,by simp[List.lookup]⟩
 ·cases i with
  |zero =>
   cases h1;cases h2;exact⟨hN,hs,hl⟩
  |succ i=>cases h1
end
end L2
namespace Tw
open PySem L2
section
variable{K:Fg}{β:Type}{S:Rep β}
theorem Vl(sS:wN S)(f:Nat->β)(em:m=n)(hz:n<=sizeLine)(hD:H D=none)(body:∀(i:Nat) H2,i<n->Same H H2->∀Qc:VK,(∀u H3,Same H2 H3->S H3 u (f i)->Qc u H3)->g (.int ((i:Nat):Int)) σ0 H2 λσ2 H'=>nU σ0 σ2/\te σ2 H' Qc)(q:∀H',Same H H'->jD S H' (.ref D) ((List.range n).map f)->Qe H') : ∃W:Nat->Nat->List V->Hp->Prop,(∃m,W 0 m [] (L2.upd H D (.lst [])))/\qm D (Itr 0 m) σ0 g Di te Qe W:=by
 subst em;refine lZ m hz (λi acc H'=>Same H H'/\H' D=some (.lst acc)/\Paired (S H') acc ((List.range i).map f)) ⟨aV hD,aF,.nil⟩ (λi acc H' le ⟨_,e,p⟩=>⟨?_,e⟩) ?_ ?_
 ·rw[Paired.length p,ak,bK]
 ·rintro acc H' ⟨s',e,p⟩;exact⟨(by show m<=m;omega),q H' s' ⟨D,acc,rfl,e,p⟩⟩
 ·rintro i acc H' lt ⟨s',e,p⟩;refine⟨lt,?_⟩;rintro y sZ ⟨rfl,rfl⟩ Qc k;have e1:(0+(i:Int))=((i:Nat):Int):=Int.zero_add _;rw[e1];refine body i sZ lt s' Qc λu H3 s3 ru=>?_
  have e3:=s3 _ _ e;refine k u H3 e3 ⟨iy (s'.trans s3) hD,aF,?_⟩;rw[dD,aX];exact Paired.snoc (Paired.iB p λ_ _ z=>sS.upd (sS.same z s3) e3) (sS.upd ru e3)
end
end Tw
namespace L2
open PySem
def pR(H:Hp):Hp:=λb=>match H b with
 |some (.wK _)=>none
 |o=>o
theorem iZ(h:H b=some o)(n:∀ps,o≠.wK ps):pR H b=some o:=by
 unfold pR;rw[h];cases o<;>first|rfl|exact absurd rfl (n _)
theorem ig :Same (pR H) H:=λb o h=>by
 unfold pR at h
 split at h
 ·cases h
 ·exact h
theorem Vm(h:pR H b=some o):∀ps,o≠.wK ps:=by
 intro ps e;subst e;unfold pR at h
 split at h
 ·cases h
 ·rename_i o' n
  exact n ps h
theorem lq.off(s:lq P H H')(t:H P=some (.wK ps)):Same (pR H) (pR H'):=λb o h=>by
 refine iZ (s b o (λz=>?_) (ig _ _ h)) (Vm h);subst z;have:=ig _ _ h;rw[t]at this;cases this;exact Vm h _ rfl
theorem lq.lam(s:lq P H H')(t:m5 P pos q H):Same (pR H) (pR H'):=by
 obtain⟨ps,h,_⟩:=t;exact s.off h
theorem Same.but(s:Same H H'):lq P H H':=λb o _ e=>s b o e
theorem m5.same(t:m5 P pos q H)(s:Same H H'):m5 P pos q H':=by
 obtain⟨ps,h,ok,h'⟩:=t;refine⟨ps,s _ _ h,ok,h'.imp id ?_⟩;rintro⟨c,e,hc⟩;exact⟨c,e,s _ _ hc⟩
end L2
namespace Tw
open PySem L2
structure rG{α:Type}(R:Rep α):Prop where
 of:∀{H:Hp}{v:V}{x:α},R H v x->R (pR H) v x
theorem uL:rG oM:=⟨λh=>h⟩
theorem ZV:rG xG:=⟨λh=>h⟩
section
variable{α β γ:Type}{R:Rep α}{S:Rep β}{T:Rep γ}
theorem Vn(r:rG R):rG (Bv R):=by
 constructor;rintro H v xs ⟨t,vs,e,h,p⟩;exact⟨t,vs,e,iZ h (λ_ z=>by cases z),Paired.iB p λ_ _ z=>r.of z⟩
theorem ZW(r:rG R):rG (jD R):=by
 constructor;rintro H v xs ⟨t,vs,e,h,p⟩;exact⟨t,vs,e,iZ h (λ_ z=>by cases z),Paired.iB p λ_ _ z=>r.of z⟩
theorem GF(r:rG R)(s:rG S):rG (Gw R S):=by
 constructor;rintro H v c ⟨t,u,w,e,h,a,b⟩;exact⟨t,u,w,e,iZ h (λ_ z=>by cases z),r.of a,s.of b⟩
theorem Vo(r:rG R)(s:rG S)(q:rG T):rG (MP R S T):=by
 constructor;rintro H v x ⟨t,u,w,z,e,h,a,b,c⟩;exact⟨t,u,w,z,e,iZ h (λ_ y=>by cases y),r.of a,s.of b,q.of c⟩
end
end Tw
namespace L2
open PySem
abbrev NK:=Int×List Int
section
variable(prog:cC)(w:World)
noncomputable def iD(h:Heap)(k:NK)(a:aB):Prop := ∃(b:aB)(v:aC)(o:Obj)(n:Nat),h.get? a=some o/\o.cls=.type "tuple"/\o.data=.seq #[v,.ref b] n/\(intKind prog w).is k.1 v=true/\IsTupleKey (intKind prog w) h k.2 b
def uM(k:NK):Int:=reduceHash (Builtin.Tuple.tupleHashOf [(intKind prog w).hash k.1,tupleKeyHash (intKind prog w) k.2])
end
variable{prog:cC}{w:World}{A:eE}{E:aC->aW->Prop}{s:aW}
theorem iD.ty(x:iD prog w s.heap k a):s.TypeIs (.ref a) "tuple":=by
 obtain⟨_,_,o,_,ho,hc,_⟩:=x;exact⟨o,ho,hc⟩
theorem iD.inj(p:iD prog w h x a)(q:iD prog w h y a):x=y:=by
 obtain⟨b,v,o,n,ho,_,hd,h1,h2⟩:=p;obtain⟨b',v',o',n',ho',_,hd',h1',h2'⟩:=q;rw[ho]at ho';cases ho';rw[hd]at hd';injection hd' with e1 e2;have e:[v,Value.ref b]=[v',Value.ref b']:=congrArg Array.toList e1;cases e;exact Prod.ext ((intKind prog w).inj _ _ _ h1 h1') (h2.inj h2')
theorem iD.keeps{a d:aB}(x:iD prog w h k a)(ho:h.get? d=some o)(hd:o.data=.dict es ep)(sb:Heap.SameBut d h h'):iD prog w h' k a:=by
 obtain⟨b,v,oa,n,g1,c,g2,h1,h2⟩:=x;have ne:a≠d:=λz=>by subst z;rw[g1]at ho;cases ho;rw[g2]at hd;cases hd
 exact⟨b,v,oa,n,(sb.2 a ne).trans g1,c,g2,h1,h2.keeps ho hd sb⟩
theorem QC{Q:Int->aW->Prop}(hu:A.units+1<cLine)(hk:iD prog w s.heap k a)(q:Q (uM prog w k) {s with toks:=s.toks+(k.2.length+3)}):wpAny (model prog w) A (pyHash (.ref a)) Q E s:=by
 have ty:=hk.ty;obtain⟨b,v,o,n,ho,_,hd,hv,hb⟩:=hk
 show wpAny _ _ (pyHashByItsType (.ref a)) Q E s
 unfold pyHashByItsType;have lk:=PySem.F.slot_tuple_hash.lookup;refine aj (wpAny_cRoomFor_or (.inr (by omega)) (aj (wpAny_specialOf ty lk ?_)));rw[if_neg (show ¬(some (Value.builtin "tuple.__hash__") == some Value.none)=true by rw[beq_builtin_none];exact Bool.false_ne_true)];refine aj (wpAny_specialOf ty lk ?_)
 show wpAny _ _ (callSpecialIfBoundUnlessNone? (Value.ref a) "__hash__" _ >>= _) _ _ _
 refine aj (wpAny_callSpecialIfBoundUnlessNone?_slot ty PySem.F.slot_tuple_hash (wpAny_call_entry PySem.F.slot_tuple_hash ty PySem.F.entry_tuple_hash ?_ (PySem.F.args_tuple_hash_1 _)))
 show wpAny _ _ (Builtin.Tuple.tupleItemsOf (Value.ref a) >>= _) _ _ _
 refine aj (wpAny_tupleItemsOf ho hd (aj ?_));rw[<- Array.forIn_toList];refine wpAny_forIn_list _ (λrest (hs:Array Int) s'=>(rest=[v,.ref b]/\hs=#[]/\s'=s)\/(rest=[.ref b]/\hs=#[(intKind prog w).hash k.1]/\s'={s with toks:=s.toks+1}) \/ (rest=[]/\hs=#[(intKind prog w).hash k.1,tupleKeyHash (intKind prog w) k.2]/\s'={s with toks:=s.toks+1+(k.2.length+1)})) _ ?_ ?_ _ _ (.inl ⟨rfl,rfl,rfl⟩)
 ·rintro x rest hs s' (⟨e,rfl,rfl⟩|⟨e,rfl,rfl⟩|⟨e,_⟩)
  ·cases e;exact aj ((intKind prog w).pyHash hv (aj (au (au (.inr (.inl ⟨rfl,rfl,rfl⟩))))))
  ·cases e;exact aj (wpAny_pyHash_tuple (s:={s with toks:=s.toks+1}) hu hb (aj (au (au (.inr (.inr ⟨rfl,rfl,rfl⟩))))))
  ·cases e
 ·rintro hs s' (⟨e,_⟩|⟨e,_⟩|⟨_,rfl,rfl⟩)
  ·cases e
  ·cases e
  ·have q':Q (uM prog w k) {s with toks:=s.toks+1+(k.2.length+1)+1}:=by
    have e:s.toks+1+(k.2.length+1)+1=s.toks+(k.2.length+3):=by omega
    rw[e];exact q
   refine wpAny_ret_mkInt ?_;unfold uM reduceHash at q'
   show wpAny _ _ (pyHashByItsType.reduced (Builtin.Tuple.tupleHashOf [(intKind prog w).hash k.1,tupleKeyHash (intKind prog w) k.2])) Q E _
   generalize Builtin.Tuple.tupleHashOf [(intKind prog w).hash k.1,tupleKeyHash (intKind prog w) k.2]=z at q'⊢;unfold pyHashByItsType.reduced
   split
   ·rename_i c
    rw[if_pos c]at q';exact au q'
   ·rename_i c
    rw[if_neg c]at q';exact aj (wpAny_rule (au q'))
theorem QD{R:Fin->aW->Prop}(hu:A.units<cLine)(hx:iD prog w s.heap x a)(hy:iD prog w s.heap y b)(q:R (.done (.ret (.bool (decide (x=y))))) s) : wpAny (model prog w) A (Builtin.«tuple.__eq__» ⟨[.ref a,.ref b],[]⟩) R E s:=by
 have ty:=hy.ty;obtain⟨d,v,o,n,ho,_,hd,hv,hb⟩:=hx;obtain⟨d',v',o',n',ho',_,hd',hv',hb'⟩:=hy
 show wpAny _ _ (isInstance (Value.ref b) (.type "tuple") >>= _) _ _ _
 refine aj (wpAny_isInstance ty isSubtype_tuple_tuple ?_);simp only[Bool.not_true,if_false,Bool.false_eq_true];refine aj (wpAny_tupleItemsOf ho hd (aj (wpAny_tupleItemsOf ho' hd' (aj ?_))));refine wpAny_forIn_list _ (λrest r s'=>r.1=none/\s'=s/\((rest=[(v,v'),(.ref d,.ref d')])\/(rest=[(.ref d,.ref d')]/\x.1=y.1)\/(rest=[]/\x=y))) _ ?_ ?_ _ _ ⟨rfl,rfl,.inl rfl⟩
 ·rintro⟨u1,u2⟩ rest r s' ⟨hr,rfl,e|⟨e,e1⟩|⟨e,_⟩⟩
  ·cases e;refine aj ((intKind prog w).eqBool hv hv' ?_)
   by_cases hk:x.1=y.1
   ·rw[aK hk];simp only[Bool.not_true,if_false,Bool.false_eq_true];exact au ⟨by first|rfl|trivial,rfl,.inr (.inl ⟨by first|rfl|trivial,hk⟩)⟩
   ·rw[aD hk];simp only[if_true,Bool.not_false];rw[aD (λz:x=y=>hk (by rw[z]))]at q;exact aj (au (au (au q)))
  ·cases e;refine aj (wpAny_eqBool_tuple hu hb hb' ?_)
   by_cases hk:x.2=y.2
   ·rw[aK hk];simp only[Bool.not_true,if_false,Bool.false_eq_true];exact au ⟨by first|rfl|trivial,rfl,.inr (.inr ⟨by first|rfl|trivial,Prod.ext e1 hk⟩)⟩
   ·rw[aD hk];simp only[if_true,Bool.not_false];rw[aD (λz:x=y=>hk (by rw[z]))]at q;exact aj (au (au (au q)))
  ·cases e
 ·rintro⟨r1,r2⟩ s' ⟨hr,rfl,e|⟨e,_⟩|⟨_,e⟩⟩
  ·cases e
  ·cases e
  ·simp only at hr;subst hr;rw[aK e]at q;exact au q
theorem ZX{Q:Bool->aW->Prop}(hu:A.units+1<cLine)(hx:iD prog w s.heap x a)(hy:iD prog w s.heap y b)(q:Q (decide (x=y)) s):wpAny (model prog w) A (eqBool (.ref a) (.ref b)) Q E s:=by
 unfold eqBool;refine wpAny_holding ?_
 by_cases ab:(Value.ref a == Value.ref b)=true
 ·have e:a=b:=by have:=eq_of_beq ab;injection this
  subst e;cases hx.inj hy;rw[aK rfl]at q;rw[if_pos ab];exact aj (wpAny_rule (au q))
 ·rw[if_neg ab];exact aj (wpAny_richCompare_same_room (op:=.Eq) hx.ty hy.ty PySem.F.slot_tuple_eq (wpAny_call_entry PySem.F.slot_tuple_eq hx.ty PySem.F.entry_tuple_eq (QD hu hx hy ⟨_,rfl,(λe=>nomatch e),wpAny_truthy_bool q⟩) (PySem.F.args_tuple_eq_2 _ _)) (by omega))
theorem wO{a:aB}{its:Array aC}{Q:Bool->aW->Prop}(ho:s.heap.get? a=some o)(hc:o.cls=.type "tuple")(hd:o.data=.seq its n)(hq:∀v∈its.toList,∀R:Bool->aW->Prop,R true s->wpAny (model prog w) A (eqIsQuiet d v) R E s)(q:Q true s):wpAny (model prog w) A (eqIsQuiet (d+1) (.ref a)) Q E s:=by
 have ty:s.TypeIs (.ref a) "tuple":=⟨o,ho,hc⟩;unfold eqIsQuiet;refine aj (wpAny_specialOf ty PySem.F.slot_tuple_eq.lookup ?_)
 show wpAny _ _ (isInstance (Value.ref a) (.type "tuple") >>= _) _ _ _
 refine aj (wpAny_isInstance ty isSubtype_tuple_tuple ?_);simp only[Bool.not_true,if_false,Bool.false_eq_true];refine aj (wpAny_seqItems ho hd (aj ?_))
 show wpAny _ _ (forIn its _ _) _ _ s
 rw[<- Array.forIn_toList];refine wpAny_forIn_list _ (λrest r s'=>r.1=none/\s'=s/\∀v∈rest,v∈its.toList) _ ?_ ?_ _ _ ⟨rfl,rfl,λ_ m=>m⟩
 ·rintro v rest r s' ⟨hr,rfl,all⟩;refine aj (hq v (all v (by simp)) _ ?_);simp only[Bool.not_true,if_false,Bool.false_eq_true];exact au ⟨by first|rfl|trivial,rfl,λu m=>all u (by simp[m])⟩
 ·rintro⟨i,j⟩ s' ⟨hr,rfl,_⟩;simp only at hr;subst hr;exact au q
theorem JQ{Q:Bool->aW->Prop}(hk:iD prog w s.heap k a)(q:Q true s):wpAny (model prog w) A (eqIsQuiet 8 (.ref a)) Q E s:=by
 obtain⟨b,v,o,n,ho,hc,hd,hv,ob,its,nb,gb,cb,db,ib⟩:=hk;refine wO ho hc hd (λu m R r=>?_) q;rcases aR.mp m with rfl|m
 ·rw[eqIsQuiet_byValue _ ((intKind prog w).byValue _ _ hv)];exact au r
 ·cases aH.mp m;refine wO gb cb db (λu m R r=>?_) r;rw[eqIsQuiet_byValue _ (ib.byValue u m)];exact au r
noncomputable def gQ(prog:cC)(w:World):HeapKind prog w NK where
 is:=iD prog w
 hash:=uM prog w
 draws:=λk=>k.2.length+3
 room:=λA=>A.units+1<cLine
 inj:=λp q=>p.inj q
 keeps:=λx ho hd sb=>x.keeps ho hd sb
 pyHash:=λhu hk q=>QC hu hk q
 eqBool:=λhu hx hy q=>ZX hu hx hy q
 quiet:=λhk q=>JQ hk q
theorem Dq:typeLookup (.type "list") "keys"=pure none:=am_miss_of_fast (by kernel_rfl)
theorem Vp:entryFor table "dict.update.loop"=some Builtin.«dict.update.loop»:=entryFor_of_tree (by kernel_rfl)
theorem qY:plainId "dict.update.loop"=true:=by decide +kernel
section
variable{prog:cC}{w:World}{A:eE}{E:aC->aW->Prop}
section
variable{h:Heap}{g:Array GenState}{d:Drawn}{t n:Nat}{os:OsState}{a:aB}{its:Array aC}{sl:Array (Option aC)}
theorem QF{Q:Fin->aW->Prop}(hx:h.get? a=some {cls:=.type "list",dict:=none,data:=.seq its n,slots:=sl})(calm:A.handled=none)(q:∀h' tk' e,Heap.NewAttrErr h h' e (.ref a) "keys"->E (.ref e) ⟨h',g,d,tk',os⟩):wpAny (model prog w) A (Builtin.«object.__getattribute__» ⟨[.ref a,.str "keys" tk],[]⟩) Q E ⟨h,g,d,t,os⟩:=by
 have hT:(⟨h,g,d,t,os⟩:aW).TypeIs (.ref a) "list":=⟨_,hx,rfl⟩;have f4:=Dq
 repeat any_goals first|assumption|wp_step
 exact wpAny_raiseAttrError calm (λh' tk' e x=>q h' tk' e x) (attrMsg_fits (by decide +kernel) (by decide +kernel))
theorem QG{Q:Option aC->aW->Prop}(hx:h.get? a=some {cls:=.type "list",dict:=none,data:=.seq its n,slots:=sl})(calm:A.handled=none)(q:∀h' tk',(∀b ob,h.get? b=some ob->h'.get? b=some ob)->Q none ⟨h',g,d,tk',os⟩):wpAny (model prog w) A (getAttr? (.ref a) "keys") Q E ⟨h,g,d,t,os⟩:=by
 have hT:(⟨h,g,d,t+1,os⟩:aW).TypeIs (.ref a) "list":=⟨_,hx,rfl⟩;have f2:=PySem.F.slot_list_getattribute.lookup;have f3:=PySem.F.slot_list_getattribute.bind (.ref a);unfold getAttr? getAttrBy?;refine aj (wpAny_mkText (aj (wpAny_attempt ?_)))
 repeat any_goals first|assumption|wp_step
 refine codeAny_call_builtin PySem.F.slot_list_getattribute.plain PySem.F.entry_list_ga (PySem.F.slot_list_getattribute.check _ _ _ _ _ _ _ _ hT (PySem.F.args_list_getattribute_2 _ _) (QF hx (by simpa using calm) λh' tk' e x=>?_));obtain⟨u,v,there⟩:=x.there;have isE:(⟨h',g,d,tk',os⟩:aW).TypeIs (Value.ref e) "AttributeError":=⟨_,there,rfl⟩
 show wpAny _ _ (getattributeRaised (Value.ref a) _ _ _ _ _ _) _ _ _
 have f5:=sub_AttributeError;have f6:typeLookup (.type "list") "__getattr__"=pure none:=am_miss_of_fast (by kernel_rfl);unfold getattributeRaised
 repeat any_goals first|assumption|wp_step
 exact q h' tk' x.keeps
end
theorem iD.move(x:iD prog w h k a)(keep:∀b o,o.cls=.type "tuple"->h.get? b=some o->h'.get? b=some o):iD prog w h' k a:=by
 obtain⟨b,v,o,n,ho,c,hd,h1,ob,its,nb,gb,cb,db,ib⟩:=x;exact⟨b,v,o,n,keep _ _ c ho,c,hd,h1,ob,its,nb,keep _ _ cb gb,cb,db,ib⟩
def JR(h:Heap)(r:NK×aB×aC)(v:aC):Prop:=∃p o n,v=.ref p/\h.get? p=some o/\o.cls=.type "tuple"/\o.data=.seq #[.ref r.2.1,r.2.2] n
theorem JT{r:NK×aB×aC}(nd:((done++[r]).map (·.1)).Nodup):atKey done r.1=none:=by
 refine atKey_none_of_get λj p e=>?_
 rw[aX,nodup_append]at nd;exact nd.2.2 r.1 (bM.mpr ⟨_,aQ e,rfl⟩) r.1 (by simp) rfl
theorem BJ{D I l:aB}{its:List aC}(calm:A.handled=none)(hu:A.units+8<cLine)(DI:D≠I)(Dl:D≠l)(lI:l≠I)(small:rows.length<=sizeLine)(len:rows.length=its.length)(pr:∀(j:Nat) r v,rows[j]?=some r->its[j]?=some v->JR h0 r v)(ky:∀r∈rows,iD prog w h0 r.1 r.2.1)(nd:(rows.map (·.1)).Nodup){R:Result->aW->Prop}: ∀(todo done:List (NK×aB×aC))(i:Int)(ti:Tok)(s:aW),rows=done++todo->s.heap.IsListIter I l done.length->s.heap.IsList l its.toArray->s.heap.DictOfH (gQ prog w) D done->(∀b o,o.cls=.type "tuple"->h0.get? b=some o->s.heap.get? b=some o) -> (∀h' tk,(∀b o,b≠D->b≠I->s.heap.get? b=some o->h'.get? b=some o)->h'.DictOfH (gQ prog w) D rows->R (.ok (.ret .none)) {s with heap:=h',toks:=tk}) -> codeAny (model prog w) A (.builtin "dict.update.loop" ⟨[.ref D,.ref I,.int i ti,.none],[]⟩) R s
 |[],done,i,ti,s,e,it,li,at_,keep,k=>by
  have e':rows=done:=by simpa using e
  refine codeAny_builtin Vp ?_;rw[Around.under_plainId qY _];refine aj (m:=pyNext (.ref I)) (wpAny_pyNext_list_end (by simpa using calm) it li (by rw[<- e'];simp[len]) λh' ext=>?_);obtain⟨o,es,ep,ho,c,dd,he,his,nn⟩:=at_;subst e';have isI:∃oi,s.heap.get? I=some oi/\oi.cls=.type "list_iterator":=by obtain⟨oi,g1,g2,_⟩:=it;exact⟨oi,g1,g2⟩
  obtain⟨oi,gi,ci⟩:=isI;refine aj (au (au (k h' s.toks (λb o _ nI q=>ext b o nI q) ⟨o,es,ep,ext D o DI ho,c,dd,he,λx hx=>(his x hx).move λb ob cb gb=>ext b ob (λz=>?_) gb,nn⟩)));subst z;rw[gi]at gb;cases gb;rw[ci]at cb;exact absurd cb (by decide)
 |r::todo,done,i,ti,s,e,it,li,at_,keep,k=>by
  have agp:done.length<rows.length:=by rw[e,aY,length_cons];omega
  have hr:rows[done.length]?=some r:=by rw[e];simp
  have hv:its[done.length]?=some its[done.length]:=aA (by omega);obtain⟨p,op,np,ep,gp,cp,dp⟩:=pr _ _ _ hr hv;rw[ep]at hv;have nd':((done++[r]).map (·.1)).Nodup:=by
   rw[e,show done++r::todo=(done++[r])++todo by simp,aX,nodup_append]at nd;exact nd.1
  have isI:∃oi,s.heap.get? I=some oi/\oi.cls=.type "list_iterator":=by obtain⟨oi,g1,g2,_⟩:=it;exact⟨oi,g1,g2⟩
  obtain⟨oi,gi,ci⟩:=isI;have tupI:∀{b:aB}{o:Obj},o.cls=.type "tuple"->s.heap.get? b=some o->b≠I:=fun{b o} cb gb z=>by
   subst z;rw[gi]at gb;cases gb;rw[ci]at cb;exact absurd cb (by decide)
  refine codeAny_builtin Vp ?_;rw[Around.under_plainId qY _];refine aj (m:=pyNext (.ref I)) (wpAny_pyNext_list_item it li (x:=.ref p) (by simpa using hv) λh' it' sb=>?_);have M8:∀b o,o.cls=.type "tuple"->h0.get? b=some o->h'.get? b=some o:=λb o cb gb=>(sb.2 b (tupI cb (keep b o cb gb))).trans (keep b o cb gb)
  have tyP:(⟨h',s.gens,s.drawn,s.toks,s.os⟩:aW).TypeIs (.ref p) "tuple":=⟨op,M8 p op cp gp,cp⟩;obtain⟨o,es,en,ho,c,dd,he,his,nn⟩:=at_;have at1:h'.DictOfH (gQ prog w) D done:=⟨o,es,en,(sb.2 D DI).trans ho,c,dd,he,λx hx=>(his x hx).move λb ob cb gb=>(sb.2 b (tupI cb gb)).trans gb,nn⟩;have kr:iD prog w h' r.1 r.2.1:=(ky r (by rw[e];simp)).move M8;refine aj (wpAny_holding (aj (wpAny_tryCatch ?_)));unfold Builtin.Dict.pairItems;refine aj (wpAny_typeOf tyP ?_);rw[if_pos (by decide)];refine aj (wpAny_seqItems (M8 p op cp gp) dp (au ?_))
  show wpAny _ _ (holding [Value.ref r.2.1,r.2.2] (dictSet D (.ref r.2.1) r.2.2)) _ _ _
  refine wpAny_holding (wpAny_dictSet_heap (knd:=gQ prog w) (s:={s with heap:=h'}) (by show _+1<cLine;first|omega|(simp;omega)) kr at1 (λg dg sg=>?_) (by omega));rw[storedH_new (JT nd')]at dg;obtain⟨od,esd,epd,hod,cod,ddd,hed,arI,nnd⟩:=id dg;refine au ⟨plainId_quiet qY _,BJ calm hu DI Dl lI small len pr ky nd todo (done++[r]) _ _ _ (by simp[e]) ?_ ?_ ?_ ?_ λg' tk' kp fin=>?_⟩
  ·rw[aY];exact it'.at λo q=>(sg.2 I (Ne.symm DI)).trans q
  ·exact(li.at λo q=>(sb.2 l lI).trans q).at λo q=>(sg.2 l (Ne.symm Dl)).trans q
  ·exact dg
  ·intro b ob cb gb;have g1:=M8 b ob cb gb;have nD:b≠D:=λz=>by
    subst z;have g2:=(sb.2 b DI).trans ho;rw[g1]at g2;cases g2;rw[c.1]at cb;exact absurd cb (by decide)
   exact(sg.2 b nD).trans g1
  ·exact k g' tk' (λb o nD nI q=>kp b o nD nI ((sg.2 b nD).trans ((sb.2 b nI).trans q))) fin
end
theorem adE:mroOf (.type "dict")=pure [.type "dict",.type "object"]:=(mroOf_type _).trans (by kernel_rfl)
theorem akY:typeLookup (.type "dict") "__new__"=pure (some (.builtin "dict.__new__")):=by
 have e:=typeLookup_type "dict" (Str.ofString "__new__");rw[builtinLookup_eq_fast]at e;exact e.trans (by kernel_rfl)
theorem agI:isSubtype (.type "dict") (.type "dict")=pure true:=(isSubtype_type _ _).trans (by kernel_rfl)
theorem GJ:TypeCalled "dict" "dict.__new__" "dict.__init__" where
 notType:=by decide +kernel
 canCreate:=by decide +kernel
 mro:=⟨_,_,adE⟩
 made:=madeBy_type adE akY (by decide +kernel)
 plain:=by decide +kernel
 sub:=agI
 init:=PySem.F.slot_dict_init
theorem Z0:entryFor table "dict.__new__"=some Builtin.«dict.__new__»:=entryFor_of_tree (by kernel_rfl)
abbrev GK:Obj:={cls:=.type "dict",data:=.dict #[]}
theorem Dr(a:aC){Q:aC->aW->Prop}(q:Q (.ref s.heap.objs.size) {s with heap:=s.heap.push GK}):codeAny (model prog w) A (.call (.builtin "dict.__new__") ⟨[.type "dict",a],[]⟩) (wants Q E) s:=by
 have f1:=agI;have f2:=adE;have ok:checkBuiltinCall "dict.__new__" ⟨[.type "dict",a],[]⟩=pure ():=by kernel_rfl
 refine codeAny_call_builtin (by decide +kernel) Z0 (wpAny_of_eq ok ?_);obtain⟨hp,gs,dr,tk,os⟩:=s;unfold Builtin.«dict.__new__»
 wp_walk
 exact q
theorem xJ{l:aB}{its:List aC}{sl:Array (Option aC)}{rows:List (NK×aB×aC)}{Q:aC->aW->Prop}(calm:A.handled=none)(hu:A.units+16<cLine)(li:s.heap.get? l=some {cls:=.type "list",dict:=none,data:=.seq its.toArray n,slots:=sl})(small:rows.length<=sizeLine)(len:rows.length=its.length)(pr:∀(j:Nat) r v,rows[j]?=some r->its[j]?=some v->JR s.heap r v)(ky:∀r∈rows,iD prog w s.heap r.1 r.2.1)(nd:(rows.map (·.1)).Nodup)(k:∀h' tk,h'.DictOfH (gQ prog w) s.heap.objs.size rows->(∀b o,s.heap.get? b=some o->h'.get? b=some o)->Q (.ref s.heap.objs.size) {s with heap:=h',toks:=tk}):wpAny (model prog w) A (call (.type "dict") [.ref l]) Q E s:=by
 have uN:checkTypeCall "dict" ⟨[Value.ref l],[]⟩=pure ():=by kernel_rfl
 refine callType_codes (Q₁:=λobj s₁=>obj=.ref s.heap.objs.size/\s₁={s with heap:=s.heap.push GK}) GJ uN PySem.F.entry_dict_init (Dr _ ⟨rfl,rfl⟩) ?_;rintro ob t₁ ⟨rfl,rfl⟩;have hnew:(s.heap.push GK).DictOfH (gQ prog w) s.heap.objs.size []:=Heap.DictOfH.new s.heap;have li1:(s.heap.push GK).get? l=some {cls:=.type "list",dict:=none,data:=.seq its.toArray n,slots:=sl}:=aq _ li;have tyL:(⟨s.heap.push GK,s.gens,s.drawn,s.toks,s.os⟩:aW).TypeIs (.ref l) "list":=⟨_,li1,rfl⟩;refine⟨hnew.typeIs,PySem.F.args_dict_init_2 _ _,?_⟩;unfold Builtin.«dict.__init__» Builtin.Dict.selfAndRest;refine aj (aj (wpAny_notOrdered_dict hnew.typeIs (au ?_)))
 show wpAny _ _ (Builtin.Dict.updateFrom "dict.__init__" s.heap.objs.size (.ref l) [] .none) _ _ _
 unfold Builtin.Dict.updateFrom;refine aj (wpAny_typeOf tyL ?_);rw[if_pos (by decide)];refine aj (QG li1 (by simpa using calm) λh1 tk1 kp1=>?_);simp only[Option.isNone_none,if_true];have isL:h1.IsList l its.toArray:=⟨_,kp1 _ _ li1,rfl,n,rfl⟩;refine aj (wpAny_rule (aj (wpAny_pyIter_list isL ?_)));have sz:s.heap.objs.size<h1.objs.size:=by
  obtain⟨o,_,_,ho,_⟩:=hnew;exact Heap.lt_size (kp1 _ _ ho)
 have lt:l<s.heap.objs.size:=Heap.lt_size li;obtain⟨o,es,ep,ho,c,dd,he,his,nn⟩:=id hnew;have all:∀b o,s.heap.get? b=some o->(h1.push {cls:=.type "list_iterator",data:=.fields #[.ref l,.int 0 0]}).get? b=some o:=λb o q=>aq _ (kp1 _ _ (aq _ q))
 refine au ⟨plainId_quiet qY _,BJ (D:=s.heap.objs.size) (I:=h1.objs.size) (l:=l) (its:=its) (rows:=rows) (h0:=s.heap) (by simpa using calm) (by simp;omega) (Nat.ne_of_lt sz) (Nat.ne_of_gt lt) (Nat.ne_of_lt (Nat.lt_trans lt sz)) small len pr ky nd rows [] _ _ _ rfl ⟨_,aN _ rfl,rfl,rfl⟩ ⟨_,all _ _ li,rfl,n,rfl⟩ ?_ (λb o _ q=>all b o q) λh' tk keep fin=>⟨rfl,k h' tk fin λb o q=>?_⟩⟩
 ·exact⟨o,es,ep,aq _ (kp1 _ _ ho),c,dd,he,(λx hx=>by cases hx),nn⟩
 ·have below:=Heap.lt_size q;exact keep b o (Nat.ne_of_lt below) (Nat.ne_of_lt (Nat.lt_trans below sz)) (all b o q)
end L2
namespace L2
open PySem PySem.Spec PyProof.Rows
def eU(H:Hp)(k:NK)(a:aB):Prop:=∃s,H a=some (.tup [.int k.1,.ref s])/\H s=some (.tup (k.2.map V.int))
theorem eU.same(x:eU H k a)(s:∀b o,H b=some o->H' b=some o):eU H' k a:=by
 obtain⟨t,h1,h2⟩:=x;exact⟨t,s _ _ h1,s _ _ h2⟩
abbrev m6:=NK×aB×V
def qx(p:m6)(q:NK×aB×aC):Prop:=p.1=q.1/\p.2.1=q.2.1/\RelV p.2.2 q.2.2
noncomputable def rK(P:cC)(w:World)(a:aB)(ks:List m6):HO:=.ext λh=>∃(rows:List (NK×aB×aC))(o:Obj)(es:Array DictEntry)(ep:Nat),Paired qx ks rows/\h.get? a=some o/\o.ExactDict/\o.data=.dict es ep/\es.toList=rows.map (entryOfKey (gQ P w))/\(rows.map (·.1)).Nodup
theorem BK:∀{ks:List m6}{rows:List (NK×aB×aC)},Paired qx ks rows->rows.map (·.1)=ks.map (·.1)
 |_,_,.nil=>rfl
 |_,_,.cons r t=>by rw[cJ,cJ,BK t,r.1]
theorem uO:∀{ks:List m6}{rows:List (NK×aB×aC)}{q:NK×aB×aC},Paired qx ks rows->q∈rows->∃p∈ks,qx p q
 |_,_,_,.cons r t,h=>by
  rcases aR.mp h with rfl|hm
  ·exact⟨_,by simp,r⟩
  ·obtain⟨p,hp,e⟩:=uO t hm;exact⟨p,by simp[hp],e⟩
theorem Ds:∀{ks:List m6}{rows:List (NK×aB×aC)}{i:Nat}{p:m6},Paired qx ks rows->ks[i]?=some p->∃q,rows[i]?=some q/\qx p q
 |_,_,0,_,.cons r _,e=>by simp at e;subst e;exact⟨_,rfl,r⟩
 |_,_,i+1,p,.cons _ t,e=>by
  obtain⟨q,h1,h2⟩:=Ds (i:=i) (p:=p) t (by simpa using e);exact⟨q,by simpa using h1,h2⟩
variable{X:Cx}{pins:List (aB×Obj)}{σ:St}{H:Hp}{s:aW}
theorem yX{P:cC}:∀{ds:List Int}{us:List aC},Vals (ds.map V.int) us->ItemsAre (intKind P w) ds us
 |[],_,r=>by cases r;exact .nil
 |d::ds,_,r=>by
  cases r with
  |cons r t =>
   obtain⟨k,rfl⟩:=r;exact .cons (by show Value.isInt d (.int d k)=true;simp[Value.isInt]) (yX t)
theorem eU.at(I:Inv X pins σ H s)(x:eU H k a):iD X.prog X.w s.heap k a:=by
 obtain⟨b,h1,h2⟩:=x;obtain⟨its,r,⟨o,g,c,n,d⟩,_⟩:=I.tuple (dY.of (K:=X.K) h1);obtain⟨its2,r2,⟨o2,g2,c2,n2,d2⟩,_⟩:=I.tuple (dY.of (K:=X.K) h2);cases r with
 |cons r1 r' =>
  cases r' with
  |cons r3 r'' =>
   cases r'';cases r3;obtain⟨t,rfl⟩:=r1;exact⟨b,.int k.1 t,o,n,g,c,by simpa using d,(by show Value.isInt k.1 (.int k.1 t)=true;simp[Value.isInt]),o2,its2.toArray,n2,g2,c2,d2,yX r2⟩
theorem M9(I:Inv X pins σ H s):∀{ks:List m6}{ps:List aB},ks.length=ps.length->(∀(j:Nat) r q,ks[j]?=some r->ps[j]?=some q->H q=some (.tup [.ref r.2.1,r.2.2])) -> ∃rows:List (NK×aB×aC),Paired qx ks rows/\∀(j:Nat) r q,rows[j]?=some r->ps[j]?=some q->JR s.heap r (.ref q)
 |[],[],_,_=>⟨[],.nil,λj r q e=>by simp at e⟩
 |[],_::_,z,_=>by simp at z
 |_::_,[],z,_=>by simp at z
 |k::ks,p::ps,z,f=>by
  obtain⟨rows,pr,at_⟩:=M9 I (ks:=ks) (ps:=ps) (by simpa using z) λj r q e1 e2=>f (j+1) r q (by simpa using e1) (by simpa using e2)
  obtain⟨its,r,⟨o,g,c,n,d⟩,_⟩:=I.tuple (dY.of (K:=X.K) (f 0 k p rfl rfl));cases r with
  |cons r1 r' =>
   cases r' with
   | @cons _ u _ _ r3 r'' =>
    cases r'';cases r1;refine⟨(k.1,k.2.1,u)::rows,.cons ⟨rfl,rfl,r3⟩ pr,λj r q e1 e2=>?_⟩;cases j with
    |zero =>
     simp only[List.getElem?_cons_zero,Option.some.injEq]at e1 e2;subst e1 e2;exact⟨p,o,n,rfl,g,c,by simpa using d⟩
    |succ j=>exact at_ j r q (by simpa using e1) (by simpa using e2)
theorem JV(hc:X.calm=true)(hu:X.A.units+64<cLine):jw X (.type "dict") (λxs H Q=>∃(p:aB)(ps:List aB)(ks:List m6),xs=[.ref p]/\H p=some (.lst (ps.map V.ref))/\ks.length=ps.length /\ (∀(j:Nat) r q,ks[j]?=some r->ps[j]?=some q->H q=some (.tup [.ref r.2.1,r.2.2]))/\(∀r∈ks,eU H r.1 r.2.1)/\(ks.map (·.1)).Nodup/\∀l,H l=none->Q (.ref l) (upd H l (rK X.prog X.w l ks))):=by
 intro pins s σ H xs us Q I r h;obtain⟨p,ps,ks,rfl,hp,hl,hr,hk,nd,q⟩:=h;obtain⟨u,rfl,rx⟩:=Vals.one r;cases rx;obtain⟨z,its,n,rv,gp⟩:=(show gq X.prog X.w H s.heap p (.lst (ps.map V.ref)) from I.hok p _ hp);have ei:its=ps.map Value.ref:=by
  clear hr hl gp z hp
  induction ps generalizing its with
  |nil=>cases rv;rfl
  |cons a ps ih =>
   cases rv with
   |cons r1 r2=>cases r1;rw[cJ,<- ih _ r2]
 obtain⟨rows,pr,at_⟩:=M9 I hl hr;have lr:ks.length=rows.length:=Paired.length pr;rw[ak]at z;refine xJ (its:=its) (rows:=rows) (n:=n) (sl:=#[]) (I.ok.hd hc) (by omega) gp (by omega) (by rw[ei,ak];omega) (λj r v e1 e2=>?_) (λr m=>?_) (by rw[BK pr];exact nd) λh' tk dn keep=>?_
 ·rw[ei,aJ]at e2;obtain⟨b,hb,rfl⟩:=bh.mp e2;exact at_ j r b e1 hb
 ·obtain⟨p',hp',e1,e2,_⟩:=uO pr m;rw[<- e1,<- e2];exact(hk p' hp').at I
 ·obtain⟨o,es,ep,ho,c,dd,he,_,nn⟩:=dn;refine⟨.ref s.heap.objs.size,_,I.laid (a:=s.heap.objs.size) (o:=rK X.prog X.w s.heap.objs.size ks) keep (aO _) ?_,rfl,q _ (I.hok.fresh (aO _))⟩;refine⟨⟨rows,o,es,ep,pr,ho,c,dd,he,nn⟩,⟨o,ho⟩,λh1 h2 x k=>?_⟩;obtain⟨Vq,o',es',ep',pr',ho',more⟩:=x;exact⟨Vq,o',es',ep',pr',k o' ho',more⟩
inductive adF(P:cC)(w:World)(x:V)(y:V)(H:Hp)(Q:VK):Prop
 |mk:∀(D:aB)(ks:List m6)(a:aB)(k:NK)(j:Nat)(r:m6),x=.ref D->y=.ref a->H D=some (rK P w D ks)->(∀r∈ks,eU H r.1 r.2.1)->eU H k a->ks[j]?=some r->r.1=k->Q r.2.2 H->adF P w x y H Q
theorem Vr(hu:X.A.units+64<cLine):IxR X (adF X.prog X.w):=by
 intro value slice pins s σ H x y v u Q I rx ry h hs;obtain⟨D,ks,a,k,j,r,rfl,rfl,hD,hk,ka,hj,er,q⟩:=h;cases rx;cases ry;obtain⟨⟨rows,o,es,ep,pr,ho,c,dd,he,nn⟩,_⟩:=(show gq X.prog X.w H s.heap D (rK X.prog X.w D ks) from I.hok D _ hD);obtain⟨q',hq',e1,e2,rv⟩:=Ds pr hj;have dn:s.heap.DictOfH (gQ X.prog X.w) D rows:=⟨o,es,ep,ho,c,dd,he,λx m=>by
  obtain⟨p',hp',f1,f2,_⟩:=uO pr m;rw[<- f1,<- f2];exact(hk p' hp').at I,nn⟩
 have at_:atKey rows k=some q'.2:=atKey_of_get nn (by rw[hq',<- er,e1]);refine subscriptTail_builtinR (x:=q'.2.2) dn.typeIs slot_dict_getitem.lookup (wpAny_getItem_heap (Q:=λr s'=>r=q'.2.2/\EP X pins σ Q r s') (knd:=gQ X.prog X.w) (by show _+1<cLine;simp;omega) (ka.at I) dn at_ ⟨rfl,⟨_,H,I.tok _,rv,q⟩⟩) hs
noncomputable def fW(P:cC)(w:World)(a:aB)(ks:List m6):HO:=.ext λh=>(a == sysModules)=false/\∃(rows:List (NK×aB×aC))(o:Obj)(es:Array DictEntry)(ep:Nat),Paired qx ks rows/\h.get? a=some o/\o.ExactDict/\o.data=.dict es ep/\es.toList=rows.map (entryOfKey (gQ P w))/\(rows.map (·.1)).Nodup
theorem abZ{a:aB}(hs:(a == sysModules)=false)(pr:Paired qx ks rows)(x:∃o es ep,h.get? a=some o/\o.ExactDict/\o.data=.dict es ep/\es.toList=rows.map (entryOfKey (gQ P w))/\(rows.map (·.1)).Nodup):gq P w H h a (fW P w a ks):=by
 obtain⟨o,es,ep,ho,c,d,e,nd⟩:=x;refine⟨⟨hs,rows,o,es,ep,pr,ho,c,d,e,nd⟩,⟨o,ho⟩,λh1 h2 y k=>?_⟩;obtain⟨y0,Vq,o',es',ep',pr',ho',more⟩:=y;exact⟨y0,Vq,o',es',ep',pr',k o' ho',more⟩
theorem Inv.QH(I:Inv X pins σ H s):sysModules<s.heap.objs.size:=Nat.lt_trans (by decide) (show mainGlobals<s.heap.objs.size from(I.mod.glob.keeps I.bk).lt)
theorem GP(P:cC)(w:World)(hP:autoParam (X.prog=P) zau0)(hw:autoParam (X.w=w) zau0):PE X (.Dict [] [] pos) (λ_ H Q=>∀p,H p=none->Q (.ref p) (upd H p (fW P w p []))):=by
 subst hP hw;intro pins s σ H Q I h;exact wpAny_Dict_empty ⟨.ref s.heap.objs.size,_,I.laid (a:=s.heap.objs.size) (o:=fW X.prog X.w s.heap.objs.size []) (t':=s.toks) (λ_ _ q=>aq _ q) (aO _) (abZ (beq_eq_false_iff_ne.mpr (Ne.symm (Nat.ne_of_lt I.QH))) .nil ⟨_,#[],0,aN _ rfl,⟨rfl,rfl,rfl⟩,rfl,rfl,nodup_nil⟩),rfl,h _ (I.hok.fresh (aO _))⟩
theorem Nb(I:Inv X pins σ H s)(hD:H D=some (fW X.prog X.w D ks))(hk:∀r∈ks,eU H r.1 r.2.1):(D == sysModules)=false/\∃rows,Paired qx ks rows/\s.heap.DictOfH (gQ X.prog X.w) D rows:=by
 obtain⟨⟨hs,rows,o,es,ep,pr,ho,c,dd,he,nn⟩,_⟩:=(show gq X.prog X.w H s.heap D (fW X.prog X.w D ks) from I.hok D _ hD);refine⟨hs,rows,pr,o,es,ep,ho,c,dd,he,λx m=>?_,nn⟩;obtain⟨p',hp',f1,f2,_⟩:=uO pr m;rw[<- f1,<- f2];exact(hk p' hp').at I
theorem JW:∀{ks:List m6}{rows:List (NK×aB×aC)}{k:NK},Paired qx ks rows->(atKey rows k).isSome=ks.any λr=>decide (r.1=k)
 |_,_,_,.nil=>rfl
 |_,_,k,.cons (a:=p) (b:=q) r t=>by
  have ih:=JW (k:=k) t;rw[any_cons,<- ih];unfold atKey;rw[List.find?_cons];have e:p.1=q.1:=r.1
  by_cases z:q.1=k
  ·have z':p.1=k:=e.trans z;simp[z,z']
  ·have z':¬p.1=k:=λy=>z (e.symm.trans y)
   simp[z,z']
inductive Nf(P:cC)(w:World)(x:V)(y:V)(H:Hp)(Q:VK):Prop
 |mk:∀(D:aB)(ks:List m6)(a:aB)(k:NK),x=.ref a->y=.ref D->H D=some (fW P w D ks)->(∀r∈ks,eU H r.1 r.2.1)->eU H k a->Q (.bl (!(ks.any λr=>decide (r.1=k)))) H->Nf P w x y H Q
theorem BL(P:cC)(w:World)(hu:X.A.units+64<cLine)(hP:autoParam (X.prog=P) zau0)(hw:autoParam (X.w=w) zau0):oW X (compareOp .NotIn) (Nf P w):=by
 subst hP hw;intro pins s σ H x y v u Q I rx ry h;obtain⟨D,ks,a,k,rfl,rfl,hD,hk,ka,q⟩:=h;cases rx;cases ry;obtain⟨hs,rows,pr,dd⟩:=Nb I hD hk;refine wpAny_notIn_heap (knd:=gQ X.prog X.w) (by show _+1<cLine;simp;omega) (ka.at I) hs dd ?_;rw[JW pr];exact⟨.bl _,H,I.tok _,rfl,q⟩
noncomputable def agJ(P:cC)(w:World):Px:=λo i v H Q=>∃(D:aB)(ks:List m6)(a:aB)(k:NK),o=.ref D/\i=.ref a/\H D=some (fW P w D ks)/\(∀r∈ks,eU H r.1 r.2.1)/\eU H k a/\(∀r∈ks,r.1≠k)/\ks.length<=sizeLine/\Q (upd H D (fW P w D (ks++[(k,a,v)])))
theorem BP(P:cC)(w:World)(hu:X.A.units+64<cLine)(hP:autoParam (X.prog=P) zau0)(hw:autoParam (X.w=w) zau0):Zb X (agJ P w):=by
 subst hP hw;intro pins s σ H o i v ov iv u Q I ro ri rv h;obtain⟨D,ks,a,k,rfl,rfl,hD,hk,ka,nk,lz,q⟩:=h;cases ro;cases ri;obtain⟨hs,rows,pr,dd⟩:=Nb I hD hk;have lr:ks.length=rows.length:=Paired.length pr;have none_:atKey rows k=none:=by
  have:=JW (k:=k) pr;cases e:atKey rows k with
  |none=>rfl
  |some z =>
   rw[e]at this;have t:=this.symm;rw[show(some z).isSome=true from rfl,any_eq_true]at t;obtain⟨r,hr,er⟩:=t;exact absurd (of_decide_eq_true er) (nk r hr)
 refine wpAny_setItem_heap (knd:=gQ X.prog X.w) (by show _+1<cLine;simp;omega) (ka.at I) dd (λh' dd' sb=>?_) (by omega);have st:storedH rows k a u=rows++[(k,a,u)]:=by
  unfold storedH;rw[none_];rfl
 rw[st]at dd';obtain⟨o',es,ep,ho,c,de,he,_,nn⟩:=dd';refine⟨_,I.write (x:=D) (e:=D) (o:=fW X.prog X.w D (ks++[(k,a,v)])) (by rw[hD];trivial) (.inl rfl) (λb z nb e=>(sb.2 b nb).trans e) ⟨_,ho⟩ (abZ hs (Paired.snoc pr ⟨rfl,rfl,rv⟩) ⟨o',es,ep,ho,c,de,he,nn⟩),q⟩
inductive agK(P:cC)(w:World)(x:V)(y:V)(H:Hp)(Q:VK):Prop
 |mk:∀(D:aB)(ks:List m6)(a:aB)(k:NK)(j:Nat)(r:m6),x=.ref D->y=.ref a->H D=some (fW P w D ks)->(∀r∈ks,eU H r.1 r.2.1)->eU H k a->ks[j]?=some r->r.1=k->Q r.2.2 H->agK P w x y H Q
theorem GQ(P:cC)(w:World)(hu:X.A.units+64<cLine)(hP:autoParam (X.prog=P) zau0)(hw:autoParam (X.w=w) zau0):IxR X (agK P w):=by
 subst hP hw;intro value slice pins s σ H x y v u Q I rx ry h hs;obtain⟨D,ks,a,k,j,r,rfl,rfl,hD,hk,ka,hj,er,q⟩:=h;cases rx;cases ry;obtain⟨_,rows,pr,dd⟩:=Nb I hD hk;obtain⟨q',hq',e1,e2,rv⟩:=Ds pr hj;have nn:(rows.map (·.1)).Nodup:=by
  obtain⟨_,_,_,_,_,_,_,_,nn⟩:=dd;exact nn
 have at_:atKey rows k=some q'.2:=atKey_of_get nn (by rw[hq',<- er,e1]);refine subscriptTail_builtinR (x:=q'.2.2) dd.typeIs slot_dict_getitem.lookup (wpAny_getItem_heap (Q:=λr s'=>r=q'.2.2/\EP X pins σ Q r s') (knd:=gQ X.prog X.w) (by show _+1<cLine;simp;omega) (ka.at I) dd at_ ⟨rfl,⟨_,H,I.tok _,rv,q⟩⟩) hs
end L2
namespace L2
open PySem
def QJ(q:Str):Obj:={cls:=.none,data:=.fields #[.none,.str q 0]}
def yZ(q:Str):Nat->Heap
 |0=>{objs:=#[]}
 |n+1=>(yZ q n).push (QJ q)
theorem GR(q:Str):∀n,(yZ q n).objs.size=n
 |0=>rfl
 |n+1=>by
  show((yZ q n).push (QJ q)).objs.size=n+1
  rw[show((yZ q n).push (QJ q)).objs.size=(yZ q n).objs.size+1 from Array.size_push _,GR q n]
theorem Vs(q:Str)(c:aB):(yZ q (c+1)).get? c=some (QJ q):=by
 have:((yZ q c).push (QJ q)).get? (yZ q c).objs.size=some (QJ q):=aN _ rfl;rw[GR]at this;exact this
theorem QK :rJ c q≠fW P w c ks:=by
 intro e;have e':(λh:Heap=>h.CodeRec (.ref c) q)=_:=HO.ext.inj e;have h1:(yZ q (c+1)).CodeRec (.ref c) q:=⟨c,_,_,0,rfl,Vs q c,rfl,rfl⟩;have h2:=congrFun e' (yZ q (c+1));have h3:(yZ q (c+1)).CodeRec (.ref c) q=_:=h2;rw[h3]at h1;obtain⟨_,rows,o,es,ep,_,ho,_,hd,_⟩:=h1;rw[Vs]at ho;cases ho;cases hd
theorem m5.upd(t:m5 P pos q H)(hD:H D=some u)(n1:∀ps,HO.wK ps≠u)(n2:rJ D q≠u):m5 P pos q (upd H D o):=by
 obtain⟨ps,h,ok,h'⟩:=t;refine⟨ps,by rw[bf (j9 h hD (n1 ps))];exact h,ok,h'.imp id ?_⟩;rintro⟨c,e,hc⟩;refine⟨c,e,?_⟩;rw[bf]
 ·exact hc
 ·intro z;subst z;rw[hc]at hD;exact n2 (bO hD)
theorem lq.upd(b:lq P H H')(n:H D=none):lq P H (upd H' D o):=λc u nc e=>by
 rw[bf (dN e n)];exact b c u nc e
theorem lq.new(b:lq P H H')(n:H' D=none)(ne:D≠P):H D=none:=by
 cases e:H D with
 |none=>rfl
 |some o=>rw[b D o ne e]at n;cases n
end L2
namespace L2
open PySem PySem.Spec PyProof.Rows
def hp0(PB a:aB)(u:Option HO):Hp:=λb=>if b=PB then some (.wK #[]) else if b=a then u else none
theorem QL{K:Fg}{mg mb:Str->Option aC}{fa a PB cB:aB}{vs:List aC}(KX:K.In s₁.heap)(hns:s₁.heap.Ns mainGlobals mg)(hb:s₁.heap.Ns builtinsNs mb)(hbb:∀x:Str,x≠"__name__"->mb x=bootBuiltins x)(hlim:s₁.heap.NoLimit)(hg:s₁.gens=#[])(hP:s₁.heap.get? PB=some (tabObj #[]))(nP:K.lookup PB=none)(hC:CodeHd s₁.heap cB PB)(hbm:s₁.heap.BuiltinsAt mg PB)(ha:s₁.heap.get? a=some {cls:=.type "list",data:=.seq vs.toArray})(hi:IntsAre vs ns)(hl:ns.length<=sizeLine)(hr:eZ k callerA)(F:∀base:Heap,K.In base->base.Ns mainGlobals mg->base.BuiltinsAt mg PB->cM P w K mg base CX k fa fd [x] sp)(hbind:∀(s:aW) (u:aC),BindsTo s fd ⟨[u],[]⟩ [(x,u)])(hsp:∀H:Hp,H PB=some (.wK #[])->cD K H a (ns.map V.int)->sp [.ref a] H (λv _=>v=.bl true) λ_ _ _=>False)(hCX:∀H e s',CX [] H s₁ (λ_ _ _=>False) e s'->False) : codeAny (model P w) callerA (.call (.ref fa) ⟨[.ref a],[]⟩) (λr s'=>r=.ok (.ret (.bool true))/\OldK s₁.heap s'.heap/\s'.os=s₁.os/\AllBare s'.gens) s₁:=by
 have rv:=Bq hi;have lenV:=hi.length;have naP:a≠PB:=λz=>by
  rw[z,hP]at ha;cases ha
 have core:∀u:Option HO,(∀o,u=some o->∃ob xs,o=.CJ ob (.lst xs))->cD K (hp0 PB a u) a (ns.map V.int)->vK P w (hp0 PB a u) s₁.heap->(u≠none->K.lookup a=none) ->
   codeAny (model P w) callerA (.call (.ref fa) ⟨[.ref a],[]⟩) (λr s'=>r=.ok (.ret (.bool true))/\OldK s₁.heap s'.heap/\s'.os=s₁.os/\AllBare s'.gens) s₁:=by
  intro u hu hS hok hK;have hPB:hp0 PB a u PB=some (.wK #[]):=if_pos rfl;have hA:∀b,hp0 PB a u b≠none->b=PB\/(b=a/\u≠none):=λb z=>by
   by_cases e:b=PB
   ·exact .inl e
   ·by_cases e':b=a
    ·refine .inr ⟨e',λz'=>z ?_⟩;unfold hp0;rw[if_neg e,if_pos e',z']
    ·refine absurd ?_ z;unfold hp0;rw[if_neg e,if_neg e']
  have Dt:∀{b:aB}{o:Obj},s₁.heap.get? b=some o->hp0 PB a u b=none->(Ae s₁.heap (hp0 PB a u)).get? b=some o:=λe n=>TF e n
  have no:∀{b:aB}{o:Obj},s₁.heap.get? b=some o->(∀its,o.data≠.seq its)->(∀ps,o.data≠.fields ps)->hp0 PB a u b=none:=fun{b o} e n1 n2=>by
   cases q:hp0 PB a u b with
   |none=>rfl
   |some v =>
    rcases hA b (by rw[q];simp) with e'|⟨e',_⟩
    ·rw[e',hP]at e;cases e;exact absurd rfl (n2 _)
    ·rw[e',ha]at e;cases e;exact absurd rfl (n1 _)
  have nsK:∀{b:aB}{m:Str->Option aC},s₁.heap.Ns b m->(Ae s₁.heap (hp0 PB a u)).Ns b m:=fun{b m} ⟨o,es,ep,e,d,r⟩=>⟨o,es,ep,Dt e (no e (λ_ z=>by rw[d]at z;cases z) (λ_ z=>by rw[d]at z;cases z)),d,r⟩
  have hKb:K.In (Ae s₁.heap (hp0 PB a u)):=λb o e=>Dt (KX b o e) (by
   cases q:hp0 PB a u b with
   |none=>rfl
   |some v =>
    rcases hA b (by rw[q];simp) with e'|⟨e',z⟩
    ·rw[e',nP]at e;cases e
    ·rw[e',hK z]at e;cases e)
  have ak1:(Ae s₁.heap (hp0 PB a u)).BuiltinsAt mg PB:=by
   obtain⟨bm,o,h1,h2,h3,h4,h5,h6,h7,h8⟩:=hbm;exact⟨bm,o,h1,h2,h3,h4,Dt h5 (no h5 (λ_ z=>by rw[h8]at z;cases z) (λ_ z=>by rw[h8]at z;cases z)),h6,h7,h8⟩
  have hM:Mod K mg (Ae s₁.heap (hp0 PB a u)):=⟨hKb,nsK hns,⟨mb,nsK hb,hbb⟩,let ⟨mc,h1,h2⟩:=hlim;⟨mc,nsK h1,h2⟩⟩;have e0:FN P w K mg (Ae s₁.heap (hp0 PB a u)) callerA [] s₁ (hp0 PB a u):=⟨rfl,hM,λb o e=>Y8 e,Nat.le_of_eq (Pq _ _),trivial,λb hb=>absurd (show b∈([]:List aB) from hb) (by simp),hok,.of_eq hg⟩;refine cY ((F _ hKb (nsK hns) ak1).run callerA [] s₁ (hp0 PB a u) ⟨[.ref a],[]⟩ [.ref a] [.ref a] _ _ hr e0 (hbind s₁ (.ref a)) (.cons rfl .nil) (hsp _ hPB hS)) λr s' h=>?_
  cases r with
  |error e=>exact(hCX _ e s' h).elim
  |ok fl =>
   cases fl with
   |next=>exact False.elim h
   |brk=>exact False.elim h
   |cont=>exact False.elim h
   |ret v' =>
    obtain⟨v,H',os,bare,un,hok',r',q⟩:=h;have q':v=.bl true:=q;subst q';obtain rfl:v'=Value.bool true:=r';have ab0:∀b o,b≠PB->s₁.heap.get? b=some o->s'.heap.get? b=some o:=λb o nb e=>by
     cases q:hp0 PB a u b with
     |none=>exact un.keep b o e q (by intro z;exact absurd (show b∈([]:List aB) from z) (by simp)) (by simp)
     |some v =>
      rcases hA b (by rw[q];simp) with e'|⟨e',_⟩
      ·exact absurd e' nb
      ·have hub:hp0 PB a u b=u:=by
        unfold hp0;rw[if_neg nb,if_pos e']
       obtain⟨ob,xs,z⟩:=hu v (by rw[<- hub];exact q);rw[z]at q;have z2:=un.xq b ob _ q;obtain⟨e1,_⟩:=hok b _ q;obtain⟨e2,_⟩:=hok' b _ z2;rw[e]at e1;cases e1;exact e2
    obtain⟨more,hm⟩:=un.xr PB #[] hPB;have htb:s'.heap.get? PB=some (tabObj (#[]++more)):=hok' PB _ hm;refine⟨rfl,⟨λb o e=>?_,λb o e=>?_⟩,os,bare⟩
    ·by_cases nb:b=PB
     ·subst nb;rw[hP]at e;cases e;exact .inr (.inl ⟨(hC.tab hP).isCodeTable,rfl,#[],more,rfl,htb⟩)
     ·exact .inl (ab0 b o nb e)
    ·by_cases nb:b=PB
     ·subst nb;exact⟨_,htb⟩
     ·exact⟨o,ab0 b o nb e⟩
 cases hk:K.lookup a with
 |some o =>
  have e:=KX a o hk;rw[ha]at e;cases e;refine core none (λo z=>by cases z) (.inr ⟨_,vs.toArray,_,hk,rfl,rfl,rfl,by rw[size_toArray,lenV];exact hl,by simpa using rv⟩) (λb u z=>?_) λz=>absurd rfl z
  by_cases e1:b=PB
  ·subst e1;rw[show hp0 b a none b=some (.wK #[]) from if_pos rfl]at z;cases z;exact hP
  ·unfold hp0 at z;rw[if_neg e1]at z
   split at z<;>cases z
 |none =>
  have eA:hp0 PB a (some (.CJ {cls:=.type "list",data:=.seq vs.toArray} (.lst (ns.map V.int)))) a=some (.CJ {cls:=.type "list",data:=.seq vs.toArray} (.lst (ns.map V.int))):=by
   unfold hp0;rw[if_neg naP,if_pos rfl]
  refine core (some (.CJ {cls:=.type "list",data:=.seq vs.toArray} (.lst (ns.map V.int)))) (λo z=>⟨_,_,(bO z).symm⟩) (.inl (.inr ⟨_,eA⟩)) (λb u z=>?_) λ_=>hk
  by_cases e1:b=PB
  ·subst e1;rw[show hp0 b a _ b=some (.wK #[]) from if_pos rfl]at z;cases z;exact hP
  ·by_cases e2:b=a
   ·subst e2;rw[eA]at z;cases z;exact⟨ha,by rw[ak];exact hl,vs,_,rv,ha⟩
   ·unfold hp0 at z;rw[if_neg e1,if_neg e2]at z;cases z
theorem Z4{K:Fg}{PB:aB}(nP:K.lookup PB=none)(X:PySem.W.Frag.In ((PB,o)::K) h):K.In h/\h.get? PB=some o:=by
 have h2:List.lookup PB ((PB,o)::K)=some o:=by rw[List.lookup_cons,beq_self_eq_true]
 have h1:∀b u,K.lookup b=some u->List.lookup b ((PB,o)::K)=some u:=λb u e=>by
  have nb:(b == PB)=false:=by
   rw[beq_eq_false_iff_ne];intro z;rw[z,nP]at e;cases e
  rw[List.lookup_cons,nb];exact e
 exact⟨λb u e=>X b u (h1 b u e),X PB o h2⟩
theorem Vu{l:PySem.W.OpenLaw}{q:cC}{XP:(Str->Option aC)->Heap->Prop}{K:Params->Fg}{CX:World->Bg}{sp:World->Sp}{PB cB:aB}(hn:l.most=some n)(hn2:n<=sizeLine)(hdf:d.params.defaults=[])(hr:eZ k callerA)(hY:∀(w:World) (h:Heap),YP w h->(K w.params).In h/\h.get? PB=some (tabObj #[]))(nP:∀p,(K p).lookup PB=none)(F:∀(w:World) (mg:Str->Option aC) (fa:aB) (h:Heap),(K w.params).In h->h.Ns mainGlobals mg->mg d.name=some (.ref fa) -> ∃fd:fH,(∀(s:aW) (u:aC),BindsTo s fd ⟨[u],[]⟩ [(x,u)])/\(∀base:Heap,(K w.params).In base->CodeHd base cB PB) /\ ∀base:Heap,(K w.params).In base->base.Ns mainGlobals mg->base.BuiltinsAt mg PB->cM l.prog w (K w.params) mg base (CX w) k fa fd [x] (sp w))(hsp:∀(w:World) (H:Hp) (a:aB) (ns:List Int),ns.length<=n->H PB=some (.wK #[])->cD (K w.params) H a (ns.map V.int)->sp w [.ref a] H (λv _=>v=.bl true) λ_ _ _=>False)(hCX:∀(w:World) (H:Hp) (s:aW) (e:aC) (s':aW),CX w [] H s (λ_ _ _=>False) e s'->False) : PySem.W.WalkO q loose XP YP l.row.toRowW d [] (λf vs=>PySem.call f vs):=by
 refine Att.FZ hn hdf λw s₀ s₁ mg mb fa o pm cd doc a vs ns G Y ho hd hcd hmg hobj hints hlen hg=>?_
 obtain⟨KX,hP⟩:=hY w _ Y;obtain⟨fd,hb,hC,hF⟩:=F w mg fa _ KX G.T.g hmg;have hbm:s₁.heap.BuiltinsAt mg PB:=by
  obtain⟨bm,ob,c1,c2,c3,c4,c5,c6⟩:=G.T.bmain;refine⟨bm,ob,c1,c2,λz=>?_,λz=>?_,c3,c4,c5,c6⟩
  ·obtain⟨o',es,ep,e',hd',_⟩:=G.T.g;rw[z,e']at c3;cases c3;rw[hd']at c6;cases c6
  ·rw[z,hP]at c3;cases c3;cases c4
 exact QL KX G.T.g G.T.b G.T.builtins G.T.nolimit hg hP (nP _) (hC _ KX) hbm hobj hints (bx hlen hn2) hr hF hb (λH hO hS=>hsp w H a ns hlen hO hS) λH e s'=>hCX w H s₁ e s'
section
variable{X:Cx}
def Ng(K:Fg)(H:Hp)(v:V)(o:Option Str):Prop:=(∃nm,v=.str nm/\o=some nm)\/(o=none/\(v=.non\/∃l xs,v=.ref l/\cD K H l xs))
theorem BR(nm:Str):∀ns:List Str,inV (.str nm) (ns.map V.str)=decide (nm∈ns)
 |[]=>rfl
 |p::ps=>by
  have ih:=BR nm ps;unfold inV at ih⊢;rw[cJ,any_cons,ih]
  show((p == nm)||_)=_
  by_cases h:p=nm
  ·simp[h]
  ·have h':¬nm=p:=λz=>h z.symm
   simp[h,h']
theorem Nh:∀ns:List Str,inV .non (ns.map V.str)=false
 |[]=>rfl
 |p::ps=>by
  have ih:=Nh ps;unfold inV at ih⊢;rw[cJ,any_cons,ih];rfl
theorem qy(l:List Str):(l.map V.str).all iR=true:=by
 rw[all_map,all_eq_true];intro x _;rfl
def adG:Option Str->List Str->Bool
 |some nm,ns=>!decide (nm∈ns)
 |none,_=>true
inductive Ni(K:Fg)(x:V)(y:V)(H:Hp)(Q:VK):Prop
 |mk:∀(p:aB)(ns:List Str)(o:Option Str),y=.ref p->cD K H p (ns.map V.str)->Ng K H x o->Q (.bl (adG o ns)) H->Ni K x y H Q
theorem QM(hu:X.A.units+64<cLine):oW X (compareOp .NotIn) (Ni X.K):=by
 intro pins s σ H x y v u Q I rx ry h;obtain⟨p,ns,o,rfl,sq,na,q⟩:=h;rcases na with ⟨nm,rfl,rfl⟩|⟨rfl,rfl|⟨l,xs,rfl,sl⟩⟩
 ·refine uf pins s σ H _ _ v u Q I rx ry ⟨p,_,rfl,.inl sq,rfl,qy _,?_⟩;rw[BR];exact q
 ·refine uf pins s σ H _ _ v u Q I rx ry ⟨p,_,rfl,.inl sq,rfl,qy _,?_⟩;rw[Nh];exact q
 ·cases ry;cases rx;obtain⟨its,r,pl,hz⟩:=I.list sq;obtain⟨its2,r2,pl2,hz2⟩:=I.list sl;refine SeqAt.notIn_listAt (λ_=>false) pl.isList (λw hw=>?_) ⟨.bl _,H,I,rfl,?_⟩
  ·have hw:w∈its:=by simpa using hw
   obtain⟨i,hi⟩:=List.getElem?_of_mem hw;have li:i<(ns.map V.str).length:=by rw[r.length];exact(aM.mp hi).1
   obtain⟨u',hu',ru'⟩:=r.get (aA li);rw[hi]at hu';cases hu';rw[List.getElem_map]at ru';obtain⟨t,rfl⟩:=ru';exact SeqAt.EqAt.str_list _ _ pl2.isList (by rw[show X.A.in1.units=X.A.units+1 from rfl];omega)
  ·rw[show its.toArray.any (λ_=>false)=false by simp];exact q
end
end L2
namespace Tw
open PySem PySem.Spec PyProof.Rows L2
section
variable{α:Type}[DecidableEq α]{R:Rep α}
open Classical in
noncomputable def isK(R:Rep α)(H:Hp)(k:α):aC->Bool:=λw=>decide (∃t,w=.ref t/\R H (.ref t) k)
open Classical in
theorem Du{K:Fg}{n:Nat}(E:ur K n R){H:Hp}{t:aB}{x k:α}(r:R H (.ref t) x):isK R H k (.ref t)=decide (x=k):=by
 unfold isK
 by_cases z:x=k
 ·subst z;rw[aK (show x=x from rfl)];exact aK ⟨t,rfl,r⟩
 ·rw[aD z];refine aD λh=>z ?_
  obtain⟨t',e,r'⟩:=h;cases e;exact E.one r r'
theorem Dv(ro:∀v x,R H v x->∃t,v=.ref t):∀{vs:List V}{xs:List α},Paired (R H) vs xs->∃ts:List aB,vs=ts.map V.ref/\ts.length=xs.length/\∀(i:Nat) t x,ts[i]?=some t->xs[i]?=some x->R H (.ref t) x
 |_,_,.nil=>⟨[],rfl,rfl,λi t x h=>by simp at h⟩
 |_,_,.cons (a:=v) (b:=x) h r=>by
  obtain⟨ts,rfl,l,f⟩:=Dv ro r;obtain⟨t,rfl⟩:=ro _ _ h;refine⟨t::ts,rfl,by rw[length_cons,length_cons,l],λi t' x' h1 h2=>?_⟩;cases i with
  |zero =>
   cases h1;cases h2;exact h
  |succ i=>exact f i t' x' (by simpa using h1) (by simpa using h2)
theorem vY:∀{ts:List aB}{us:List aC},Vals (ts.map V.ref) us->us=ts.map Value.ref
 |[],_,.nil=>rfl
 |t::ts,_,.cons r q=>by rw[cJ,<- vY q];cases r;rfl
theorem Nj{K:Fg}(E:ur K n R) :∀{ts:List aB}{xs:List α},ts.length=xs.length->(∀(i:Nat) t x,ts[i]?=some t->xs[i]?=some x->R H (.ref t) x)->(ts.map Value.ref).any (isK R H k)=decide (k∈xs)
 |[],[],_,_=>by simp
 |[],_::_,len,_=>by simp at len
 |_::_,[],len,_=>by simp at len
 |t::ts,x::xs,h,f=>by
  rw[cJ,any_cons,Du E (f 0 t x rfl rfl),Nj E (by simpa using h) λi t' x' h1 h2=>f (i+1) t' x' (by simpa using h1) (by simpa using h2)]
  by_cases z:x=k
  ·simp[z]
  ·have z':¬k=x:=λy=>z y.symm
   simp[z,z']
end
section
variable{X:Cx}{α:Type}[DecidableEq α]{R:Rep α}{n:Nat}
inductive Nk(R:Rep α)(x:V)(y:V)(H:Hp)(Q:VK):Prop
 |mk:∀xs k,jD R H y xs->R H x k->Q (.bl (!decide (k∈xs))) H->Nk R x y H Q
theorem QS(E:ur X.K n R)(hn:n<=50)(hu:X.A.units+64<cLine)(ro:∀H v x,R H v x->∃t,v=.ref t):oW X (compareOp .NotIn) (Nk R):=by
 intro pins s σ H x y v u Q I rx ry h;obtain⟨xs,k,⟨l,vs,rfl,hl,pv⟩,rk,q⟩:=h;cases ry;obtain⟨ts,rfl,lt,at_⟩:=Dv (ro H) pv;obtain⟨its,r,pl,hz⟩:=I.list (cD.of (K:=X.K) hl);have ei:=vY r;subst ei;refine SeqAt.notIn_listAt (isK R H k) pl.isList (λw hw=>?_) ⟨.bl _,H,I,rfl,?_⟩
 ·obtain⟨t,ht,rfl⟩:=bM.mp (show w∈ts.map Value.ref by simpa using hw);obtain⟨i,hi⟩:=List.getElem?_of_mem ht;have lx:i<xs.length:=by rw[<- lt];exact(aM.mp hi).1
  have rt:=at_ i t _ hi (aA lx);rw[Du E rt];exact(E.eq rt rk).at_ I X.A.in1 _ _ (by rw[show ∀A:eE,A.in1.units=A.units+1 from λ_=>rfl];omega) rfl rx
 ·rw[show(ts.map Value.ref).toArray.any (isK R H k)=(ts.map Value.ref).any (isK R H k) by simp,Nj E lt at_];exact q
inductive Nm(R:Rep α)(x:V)(ws:List V)(H:Hp)(Q:VK):Prop
 |mk:∀y xs k j,ws=[y]->jD R H x xs->R H y k->xs[j]?=some k->((∀i z,i<j->xs[i]?=some z->z≠k))->Q (.int ((j:Nat):Int)) H->Nm R x ws H Q
theorem QT(E:ur X.K n R)(hn:n<=50)(hu:X.A.units+64<cLine)(ro:∀H v x,R H v x->∃t,v=.ref t):MtM X "list.index" (Nm R):=by
 intro pins s σ H x ws v us Q I rx rv h;obtain⟨y,xs,k,j,rfl,⟨l,vs,rfl,hl,pv⟩,rk,hj,no,q⟩:=h;cases rx;obtain⟨u,rfl,ru⟩:=rv.one;obtain⟨ts,rfl,lt,at_⟩:=Dv (ro H) pv;obtain⟨sz,its,m,r,hz,e⟩:=I.FW hl;have ei:=vY r;subst ei;have lj:j<ts.length:=by rw[lt];exact(aM.mp hj).1
 have hj':j<(ts.map Value.ref).toArray.size:=by simpa using lj
 have small:(j:Int)<2^63-1:=by
  have h1:ts.length<=sizeLine:=by rw[ak]at sz;exact sz
  have h2:(sizeLine:Nat)<2^62:=by rw[sizeLine_eq];decide
  omega
 have is:∀(i:Nat)(hi:i<(ts.map Value.ref).toArray.size) x,xs[i]?=some x->isK R H k (ts.map Value.ref).toArray[i]=decide (x=k):=λi hi x hx=>by
  have li:i<ts.length:=by simpa using hi
  have e1:(ts.map Value.ref).toArray[i]=.ref ts[i]:=by simp
  rw[e1];exact Du E (at_ i _ x (aA li) hx)
 refine call_meets F.slot_list_index ⟨_,e,rfl⟩ F.entry_list_index (F.args_list_index_2 _ _) (SeqAt.list_indexAt l (ts.map Value.ref).toArray m none #[] u (isK R H k) j hj' small (by rw[is j hj' k hj,aK rfl]) λi hi lt'=>?_) ⟨e,λw hw=>?_,⟨.int _,H,I.tok _,⟨_,rfl⟩,q⟩⟩
 ·have li:i<xs.length:=by
   rw[<- lt];simpa using hi
  rw[is i hi _ (aA li)];exact aD (no i _ lt' (aA li))
 ·obtain⟨t,ht,rfl⟩:=bM.mp (show w∈ts.map Value.ref by simpa using hw);obtain⟨i,hi⟩:=List.getElem?_of_mem ht;have lx:i<xs.length:=by rw[<- lt];exact(aM.mp hi).1
  have rt:=at_ i t _ hi (aA lx);rw[Du E rt];exact(E.eq rt rk).at_ I _ _ _ (by simp;omega) rfl ru
end
end Tw
namespace L2
open PySem PySem.Spec PyProof.Rows
variable{pg:cC}{w:World}{A:eE}{E:aC->aW->Prop}{h:Heap}{g:Array GenState}{d:Drawn}{os:OsState}{t:Nat}{q nm:Str}{N C:aB}{bmB bm bs sub:List aC}{hdct ab:Bool}{sn:List Str}{col:Option Bool}{dd:Option aB}{k0 k1 k2 k3 k5:Option aC}{B newId initId:String}
theorem Ao(F:ExcBaseFacts B newId initId bmB)(T:OwnTail h bmB bm){mN:Str->Option aC}{xs:List aC}{fI:aB}{Q:Fin->aW->Prop}(hcl:h.get? C=some (excClassObj nm q C N bs bm hdct sn sub ab col dd k0 k1 k2 k3 k5 newId))(hn:h.Ns N mN)(hi:mN "__init__"=some (.ref fI))(hfI:h.get? fI=some oI)(hfc:oI.cls=.type "function")(hq:∀h' e,Heap.MadeExcOf h h' e (.ref C) xs->wpAny (model pg w) A (call (.ref fI) (.ref e::xs)) (λr s'=>r=.none/\Q (.done (.ret (.ref e))) s') E ⟨h',g,d,t,os⟩)(hxs:xs.length<=sizeLine) : wpAny (model pg w) A (Builtin.«type.__call__» ⟨.ref C::xs,[]⟩) Q E ⟨h,g,d,t,os⟩:=by
 repeat (first|with_reducible refine wpAny_loadPart_at hcl ?_|with_reducible refine wpAny_madeBy_exc hcl ?_|wp_step)
 refine codeAny_call_builtin_code (Code.quiet_builtin _ F.quiet) (wpAny_check_new_subT F T hcl (codeAny_exc_new_subT F T hcl ?_ hxs))
 show wpAny _ _ _ _ _ _
 let tu:Obj:={cls:=.type "tuple",data:=.seq xs.toArray}
 let ob:Obj:={cls:=.ref C,data:=.fields #[.ref h.objs.size,.none,.none,.none,.bool false,.none]}
 have up:∀b o,h.get? b=some o->((h.push tu).push ob).get? b=some o:=λb o e=>aq ob (aq tu e)
 have hC1:=up _ _ hcl;have hf1:=up _ _ hfI;have hn1:((h.push tu).push ob).Ns N mN:=hn.keeps up;have T1:=T.keeps up;have at1:((h.push tu).push ob).get? (h.objs.size+1)=some ob:=by heap_get
 have own:(Value.ref C::bm).contains (.ref C)=true:=by simp
 unfold isInstance
 repeat (first|with_reducible refine wpAny_loadPart_at at1 ?_|(with_reducible refine wpAny_isSubtype_exc hC1 ?_;rw[own])|wp_step)
 change wpAny _ _ (typeLookup (.ref C) _) _ _ _;refine wpAny_typeLookup_tail hC1 hn1 T1 F.mroIs F.init.lookup ?_
 rw[hi];refine wpAny_holding (aj ?_);unfold bindSpecial;refine aj (wpAny_typeOf (T:="function") ⟨_,hf1,hfc⟩ ?_);rw[if_pos (by decide)];refine au (aj (cW (hq _ (h.objs.size+1) ⟨up,Heap.get?_none_of_le (Nat.le_succ _),h.objs.size,at1,Heap.get?_none_of_le (aO _),?_⟩) (λr s' hr=>?_) λ_ _ x=>x))
 ·exact aq ob (Heap.get?_push_at rfl rfl)
 ·obtain⟨rfl,hQ⟩:=hr
  wp_walk
  exact hQ
theorem Vw(F:ExcBaseFacts B newId initId bmB)(T:OwnTail h bmB bm){mN:Str->Option aC}{xs:List aC}{fI:aB}{Q:aC->aW->Prop}(hcl:h.get? C=some (excClassObj nm q C N bs bm hdct sn sub ab col dd k0 k1 k2 k3 k5 newId))(hn:h.Ns N mN)(hi:mN "__init__"=some (.ref fI))(hfI:h.get? fI=some oI)(hfc:oI.cls=.type "function")(hq:∀h' e,Heap.MadeExcOf h h' e (.ref C) xs->wpAny (model pg w) (A.under (.builtin "type.__call__" ⟨.ref C::xs,[]⟩)) (call (.ref fI) (.ref e::xs)) (λr s'=>r=.none/\Q (.ref e) s') E ⟨h',g,d,t,os⟩)(hxs:xs.length<=sizeLine) : wpAny (model pg w) A (call (.ref C) xs) Q E ⟨h,g,d,t,os⟩:=by
 have f1:=tc_lookup;have f2:=tc_bind (.ref C);have isT:(⟨h,g,d,t,os⟩:aW).TypeIs (.ref C) "type":=⟨_,hcl,rfl⟩;refine wpAny_call (codeAny_of_tree ?_);change wpAny _ _ (callAny (.ref C) _) _ _ _
 repeat (any_goals (first|assumption|with_reducible refine wpAny_loadPart_at hcl ?_|wp_step))
 refine⟨rfl,?_⟩;exact codeAny_call_builtin_at (Code.quiet_builtin _ (by decide +kernel)) entry_typeCall (wpAny_check_type_call_sub hcl (Ao F T hcl hn hi hfI hfc (λh' e hm=>hq h' e hm) hxs))
theorem QV{s:aW}{x:Sem aC}{Q:Flow->aW->Prop}(hbase:bm.contains (.type "BaseException")=true)(hh:A.handled=none)(hx:wpAny M A x (λv s₁=>∃e a0 dx sl,v=.ref e/\s₁.heap.get? C=some (excClassObj nm q C N bs bm hdct sn sub ab col dd k0 k1 k2 k3 k5 newId) /\ s₁.heap.get? e=some {cls:=.ref C,dict:=dx,data:=.fields #[a0,.none,.none,.none,.bool false,.none],slots:=sl}/\E (.ref e) s₁) E s) : wpAny M A (raiseStmt env (some x) none) Q E s:=by
 have isB:(Value.ref C::bm).contains (.type "BaseException")=true:=by rw[List.contains_cons,hbase,Bool.or_true]
 unfold raiseStmt;refine aj (cW hx (λv s₁ h₁=>?_) λ_ _ x=>x);obtain⟨e,a0,dx,sl,rfl,hcl,he,hE⟩:=h₁;obtain⟨hp,g1,d1,tk,o1⟩:=s₁
 repeat (first|with_reducible refine wpAny_loadPart_at he ?_|with_reducible refine wpAny_loadPart_at hcl ?_|(with_reducible refine wpAny_isSubtype_exc hcl ?_;rw[isB])|wp_step)
 exact wpAny_raiseNew_none (E:=E) hh hE
def del(H:Hp)(e:aB):Hp:=λb=>if b=e then none else H b
theorem qz(h:b≠e):del H e b=H b:=by unfold del;rw[if_neg h]
theorem GX :del H e e=none:=by unfold del;rw[if_pos rfl]
def ou(e C:aB)(dx:Option aB):HO:=.ext λh=>∃a0 sl,h.get? e=some {cls:=.ref C,dict:=dx,data:=.fields #[a0,.none,.none,.none,.bool false,.none],slots:=sl}
theorem Dw{e C:aB}{dx:Option aB}{a0:aC}{sl:Array (Option aC)}(he:h.get? e=some {cls:=.ref C,dict:=dx,data:=.fields #[a0,.none,.none,.none,.bool false,.none],slots:=sl}):gq P w H h e (ou e C dx) := ⟨⟨a0,sl,he⟩,⟨_,he⟩,λ_ _ ⟨a,l,y⟩ k=>⟨a,l,k _ y⟩⟩
variable{X:Cx}{pins:List (aB×Obj)}{σ:St}{H:Hp}{s:aW}
theorem Inv.Z5(I:Inv X pins σ H s)(he:H e=some (ou e C dx)):Inv X pins σ (del H e) s:=by
 have ne:∀b u,H b=some u->(∀φ,u≠.ext φ)->b≠e:=λb u q n z=>by
  rw[z,he]at q;cases q;exact n _ rfl
 have:=I.un (t':=s.toks) (H':=del H e) (h':=s.heap) ⟨λ_ _ q _ _ _=>q,λ_ o q _ _ _=>⟨o.slots,q⟩,λb _ _ n _=>by unfold del;split;rfl;exact n,λb o q _=>⟨o,q⟩,λb xs q=>by rw[qz (ne b _ q λ_ z=>by cases z)];exact q,
  λb o u q=>by rw[qz (ne b _ q λ_ z=>by cases z)];exact q,λb ps q=>⟨#[],by rw[qz (ne b _ q λ_ z=>by cases z),q];simp⟩⟩ λb u q=>by
   have hb:b≠e:=λz=>by rw[z,GX]at q;cases q
   rw[qz hb]at q;exact(I.hok b u q).stay (λ_ _ _ k=>k) (λc k=>by rw[qz (ne c _ k λ_ z=>by cases z)];exact k) λc xs k=>by rw[qz (ne c _ k λ_ z=>by cases z)];exact k
 exact this
theorem agM{K:Fg}{m:Str->Option aC}{v:aC}(X:K.In h)(G:h.Ns N m)(e:nsIn K N n=some (some v)):m n=some v:=by
 obtain⟨ob,es,ep,at_,dat,_,find⟩:=G;unfold nsIn at e
 split at e
 ·rename_i c dd es' k sl look
  have same:=(X _ _ look).symm.trans at_;cases same;cases dat
  split at e
  ·rename_i en got
   cases e;have z:=find n;unfold nsFind findBy at z;rw[<- Array.find?_toList,got]at z;exact z.symm
  ·split at e<;>cases e
 ·cases e
theorem adH{K:Fg}{f:aB}(X:K.In h)(e:typeIn K (.ref f)=some (.type "function")):∃o,h.get? f=some o/\o.cls=.type "function":=by
 unfold typeIn at e;obtain⟨o,ho,hc⟩:=bh.mp e;exact⟨o,X _ _ ho,hc⟩
structure adI(K:Fg)(C fI:aB)(bmB:List aC)(newId:String):Prop where
 ex:∃dd nm bs up ns qn hd sn sub ab col a b c d f,K.lookup C=some ⟨.type "type",dd,.cls ⟨nm,bs,.ref C::up,ns,qn,hd,sn,sub,ab,col,false⟩,#[a,b,c,d,some (.builtin newId),f]⟩/\tailIn K bmB up=true/\nsOkIn K ns=true/\nsIn K ns "__init__"=some (some (.ref fI))
noncomputable def Z6(C:aB)(E:XK)(sp:Sp)(ta:TA):TS:=λ_ σ H=>ta σ H λvs H1=>vs.length<=sizeLine/\∀e,H1 e=none->sp (.ref e::vs) (upd H1 e (ou e C none)) (λv H2=>v=.non/\∃dx,H2 e=some (ou e C dx)/\E (.ref C) dx (del H2 e)) λ_ _ _=>False
variable{x:Str}{fI:aB}{pos:Pos}
section
variable{E:XK}{fd:fH}{k:Nat}{ps:List Str}{sp:Sp}{np cpos:Pos}{e₀:Expr}{rest:List Expr}{ta:TA}
theorem qZ(acc:yJ X E)(hc:X.calm=true)(hg:Gl X x)(hm:X.mg x=some (.ref C))(q:adI X.K C fI bmB newId)(hfn:isFn X.K (.ref fI)=true)(FB:ExcBaseFacts B newId initId bmB)(F:cM X.prog X.w X.K X.mg X.base (fY X.prog X.w) k fI fd ps sp)(hr:eZ (k+1) X.A)(hb:Binds X.K fd ps [])(ha:PA X (e₀::rest) ta)(ex0:autoParam (X.ex=[]) zau0)(he:autoParam (starEach (e₀::rest) X.env=(false,eval e₀ X.env)::starEach rest X.env) zau0)(hpl:autoParam ((backTo cpos (starEach rest X.env)).any (·.1)=false) zau0)(hdb:autoParam ((x == ("__debug__":Str))=false) zau1) : PS X (.Raise (some (.Call (.Name x np) (e₀::rest) [] cpos)) none pos) (Z6 C E sp ta):=by
 intro pins s σ H D I h;obtain⟨dd,nm,bs,up,N,qn,hd,sn,sub,ab,col,a,b,c,d,f,look,tl,ok,ini⟩:=q.ex;have hC:=I.mod.Fq C _ look;have hN:=Heap.Ns.of_isNs (isNs_of_in I.mod.Fq ok);have T:=tail_of_in I.mod.Fq tl;have hty:typeIn X.K (.ref fI)=some (.type "function"):=beq_iff_eq.mp hfn;have hin:X.base.nsMap N "__init__"=some (.ref fI):=agM I.mod.Fq hN ini;rw[arm_exec_Raise];refine aj (wpAny_standAt (QV (C:=C) (nm:=nm) (q:=qn) (N:=N) (bs:=bs) (bm:=up) (hdct:=hd) (sn:=sn) (sub:=sub) (ab:=ab) (col:=col) (dd:=dd) (k0:=a) (k1:=b) (k2:=c) (k3:=d) (k5:=f) (newId:=newId) (T.hasType FB.hasBase) (I.ok.hd hc) ?_));refine aj (cW (wpAny_Call_ofName (lK I hg hm ?_ hdb)) (λv s₃ h₃=>aj (wpAny_standAt (au h₃))) λ_ _ z=>z);have hA:=ha cpos pins s σ H _ I h;rw[he]at hA⊢;unfold callWith;refine aj (wpAny_holding (Calls.evalArgs_plain (f9 hA λus s2 h2=>aj (wpAny_standAt ?_))));obtain⟨vs,H1,I1,rv,hz,hE⟩:=h2;have hall:((backTo cpos ((false,eval e₀ X.env)::starEach rest X.env)).any (·.1)||(backToKw cpos (keywordEach [] X.env)).any (·.1.isNone))=false:=by
  show((false||(backTo cpos (starEach rest X.env)).any (·.1))||false)=false
  rw[hpl];rfl
 obtain⟨hp,g0,d0,tk,o0⟩:=s2;have hC1:=I1.bk _ _ hC;obtain⟨oI,hfI,hfc⟩:=adH I1.oR hty;simp only[hall];refine aj (wpAny_keeperOf_exc hC1 ?_);refine aj (Vw FB (T.keeps I1.bk) hC1 (hN.keeps I1.bk) hin hfI hfc (λh' e hm'=>?_) (by show us.length<=sizeLine;rw[<- rv.length];exact hz));have I2:Inv X pins σ H1 ⟨h',g0,d0,tk,o0⟩:=I1.kept (t':=tk) hm'.keeps;obtain⟨t,hte,_,_⟩:=hm'.there;have lo:=I1.jX hm'.new;have hex:e∉X.ex:=by rw[ex0];simp
 have I3:=I2.adopt (b:=e) (o:=ou e C none) lo hex (Dw hte);have r2:Vals (V.ref e::vs) (Value.ref e::us):=.cons rfl rv;have hq:=hE e lo.1;have hl:(Value.ref e::us).length=ps.length:=by
  have z:=r2.length;rw[F.len _ _ _ _ hq]at z;exact z.symm
 have hbs:=hb ⟨h',g0,d0,tk,o0⟩ (Value.ref e::us) I3.oR (by rw[append_nil];exact hl);rw[append_nil]at hbs;refine wpAny_call (cY (F.run _ X.stack _ _ ⟨Value.ref e::us,[]⟩ (Value.ref e::us) _ _ _ (hr.make C us []) (I3.env0.make C us []) hbs r2 hq) λr s' hq'=>?_);cases r with
 |error ev =>
  obtain⟨_,_,_,_,_,_,_,_,_,_,_,_,_,_,_,z⟩:=hq';exact z.elim
 |ok fl =>
  cases fl with
  |ret u =>
   obtain⟨v,H',I4,rv',ev,dx,hx,hE'⟩:=I3.after hq';subst ev;obtain⟨a0,sl,hoe⟩:=(show gq X.prog X.w H' s'.heap e (ou e C dx) from I4.hok e _ hx).1;refine⟨rv',aj (wpAny_holding (wpAny_point (au ⟨e,a0,dx,sl,rfl,I4.bk _ _ hC,hoe,?_⟩)))⟩;exact acc pins σ (del H' e) s' e (.ref C) dx (I4.Z5 hx) ⟨none,⟨_,_,hoe,rfl,rfl,rfl,rfl⟩,⟨GX,lo.2⟩,λ_ z=>nomatch z⟩ hE'
  |next=>exact False.elim hq'
  |brk=>exact False.elim hq'
  |cont=>exact False.elim hq'
end
theorem QW(F:ExcBaseFacts B newId initId bmB)(T:OwnTail h bmB bm){e:aB}{a0 v:aC}{dx:Option aB}{sl:Array (Option aC)}{Q:aC->aW->Prop}(hcl:h.get? C=some (excClassObj nm q C N bs bm hdct sn sub ab col dd k0 k1 k2 k3 k5 newId))(he:h.get? e=some {cls:=.ref C,dict:=dx,data:=.fields #[a0,.none,.none,.none,.bool false,.none],slots:=sl})(hq:∀h' a1,(∀b o,b≠e->h.get? b=some o->h'.get? b=some o)->h'.get? e=some {cls:=.ref C,dict:=dx,data:=.fields #[a1,.none,.none,.none,.bool false,.none],slots:=sl}->Q .none ⟨h',g,d,t,os⟩) : wpAny (model pg w) A (call (.builtin initId) [.ref e,v]) Q E ⟨h,g,d,t,os⟩:=by
 refine wpAny_call (codeAny_call_builtin F.init.plain F.initEntry (wpAny_check_init_subT F T hcl he rfl ?_))
 wp_walk
 have up:=he;cases a0<;>first|refine wpAny_letGo (au ?_)|refine au (au ?_)
 all_goals
  refine hq _ (.ref h.objs.size) (λb o nb k=>?_) ?_
  ·rw[Heap.get?_update_other _ _ (Ne.symm nb)];exact aq _ k
  ·rw[Heap.get?_update_self _ (aq _ he) rfl];rfl
def Vx:List aC->Bool
 |[.type a,.type b,.type c,.type d]=>a == "ValueError"&&b == "Exception"&&c == "BaseException"&&d == "object"
 | .ref _::r=>Vx r
 |_=>false
def Dy(K:Fg)(C:aB):Bool:=(clsIn K C).any λcd=>Vx cd.mro
theorem Np:∀{l:List aC},Vx l=true->l.contains (.type "object")=true/\∀self,refuseLoop self "__setattr__" l=pure ()
 |[.type a,.type b,.type c,.type d],e=>by
  simp only[Vx,Bool.and_eq_true,beq_iff_eq]at e;obtain⟨⟨⟨rfl,rfl⟩,rfl⟩,rfl⟩:=e;exact⟨PySem.F.store_ValueError.hasOwner,PySem.F.store_ValueError.passes⟩
 | .ref c::r,e=>by
  have ih:=Np (l:=r) (by simpa only[Vx]using e);exact⟨by rw[List.contains_cons,ih.1,Bool.or_true],λself=>by rw[refuseLoop_ref];exact ih.2 self⟩
theorem adJ{prog:cC}{K:Fg}{x C:aB}{v:aC}{R:Result->aW->Prop}(X:K.In s.heap)(I:InstAt s.heap x ox C none)(hp:Dy K C=true)(ht:takerIn K C name=some none)(h:∀b,wpAny (model prog w) A.in1 (Builtin.ObjectAttr.storeInOwnDict (.ref x) (.ref C) (.str name tk) name v b) (λfin s'=>match fin with | .done g=>R (.ok g) s' | .again c'=>c'.quiet=true/\codeAny (model prog w) A c' R s') (λe s'=>R (.error e) s') s):codeAny (model prog w) A (.call (.builtin "object.__setattr__") ⟨[.ref x,.str name tk,v],[]⟩) R s:=by
 have F0:=PySem.F.store_object;obtain⟨cd,hc,ho⟩:=any_some hp;obtain⟨has,pass⟩:=Np ho;have full:cd.mro.isEmpty=false:=by
  cases q:cd.mro with
  |nil=>rw[q]at has;cases has
  |cons _ _=>rfl
 have isObj:mroIn K C (.type "object")=some true:=by
  show(clsIn K C).bind _=_
  rw[hc,Option.bind_some,if_neg (by rw[full];decide),has]
 have sub:Looks (model prog w) s.heap (isInstance (.ref x) (.type "object")) true:=I.type.andThen (PySem.W.looks_mroIn X isObj);refine codeAny_call_builtin F0.slot.plain F0.entry (@check_slot (model prog w) _ _ s "object.__setattr__" "object" "__setattr__" (.ref x) [.str name tk,v] [] _ F0.kind F0.split sub (F0.args (.ref x) (.str name tk) v) (?_));obtain⟨attr,ha,hq⟩:=Option.bind_eq_some_iff.mp ht;have mro:Looks (model prog w) s.heap (mroOf (.ref C)) cd.mro:=(looks_clsIn X hc).andThen .now;have taker:Looks (model prog w) s.heap (Builtin.ObjectAttr.storeTaker? attr) none:=by
  cases attr with
  |none=>exact .now
  |some a =>
   obtain⟨b,hb,eb⟩:=bh.mp hq;refine(PySem.W.looks_takesIn X hb).andThen ?_;cases b with
   |true=>cases eb
   |false=>exact .now
 rw[PySem.W.osa_eq,refuse_eq];refine aj (aj (I.type.here (aj (mro.here (by
  rw[pass];exact au (aj (I.type.here (aj ((looks_findIn X ha).here (aj (taker.here (h _))))))))))))
variable{prog:cC}{K:Fg}{e:aB}{name:Str}{v:aC}
theorem Z7{a0:aC}{sl:Array (Option aC)}{Q:Unit->aW->Prop}(X:K.In s.heap)(he:s.heap.get? e=some {cls:=.ref C,dict:=none,data:=.fields #[a0,.none,.none,.none,.bool false,.none],slots:=sl})(hs:findIn K (.ref C) "__setattr__"=some (some (.builtin "object.__setattr__")))(hp:Dy K C=true)(ht:takerIn K C name=some none)(hh:hasDictIn K C=true)(h:∀h' tk,(∀b o,b≠e->s.heap.get? b=some o->h'.get? b=some o)->h'.get? e=some {cls:=.ref C,dict:=some s.heap.objs.size,data:=.fields #[a0,.none,.none,.none,.bool false,.none],slots:=sl} -> h'.Ns1 s.heap.objs.size (λy=>if y=name then some v else none)->Q () {s with heap:=h',toks:=tk}) : wpAny (model prog w) A (setAttr (.ref e) name v) Q E s:=by
 have J:InstAt s.heap e {cls:=.ref C,dict:=none,data:=.fields #[a0,.none,.none,.none,.bool false,.none],slots:=sl} C none:=⟨he,rfl,rfl,trivial⟩;refine set_plain X J hs (adJ (s:={s with toks:=s.toks+1}) X J hp ht λb=>?_);obtain⟨cd,hc,hd'⟩:=any_some hh;refine aj (au (aj (aj (wpAny_loadPart he (aj (Looks.here (s:={s with toks:=s.toks+1}) (looks_clsIn X hc) ?_))))));rw[hd'];have he1:(s.heap.push {cls:=.type "dict",data:=.dict #[]}).get? e=some {cls:=.ref C,dict:=none,data:=.fields #[a0,.none,.none,.none,.bool false,.none],slots:=sl}:=aq _ he;have hes:e≠s.heap.objs.size:=Nat.ne_of_lt (Heap.lt_size he);obtain⟨h0,g0,d0,t0,o0⟩:=s;refine aj (wpAny_alloc' (aj (wpAny_update' he1 (au ?_))))
 let hU:Heap:=(h0.push {cls:=.type "dict",data:=.dict #[]}).update e λo=>{cls:=o.cls,dict:=some h0.objs.size,data:=o.data,slots:=o.slots}
 have hgd:hU.get? h0.objs.size=some {cls:=.type "dict",data:=.dict #[]}:=(Heap.get?_update_ne _ _ _ _ hes.symm).trans (Heap.get?_push_at rfl rfl);have hnd:hU.Ns h0.objs.size (λ_=>none):=⟨_,#[],_,hgd,rfl,λe he=>absurd he (by simp),λ_=>rfl⟩;have hue:hU.get? e=some {cls:=.ref C,dict:=some h0.objs.size,data:=.fields #[a0,.none,.none,.none,.bool false,.none],slots:=sl}:=Heap.get?_update_self _ he1 rfl;refine aj (au (aj (wpAny_nsSet1 (s:=⟨hU,g0,d0,t0+1,o0⟩) (Heap.Ns1.of_empty hnd) λh' hn' hs'=>?_)));obtain⟨ob,es,ep,hob,hdat,adB⟩:=hn'.count (Within.cons name v Within.nil);refine aj (wpAny_lookBehind hob (by rw[hdat];exact pastItsLine_dict (bx adB (by rw[length_cons,List.length_nil,sizeLine_eq];omega))) ?_);refine au (h h' _ (λb o nb k=>?_) ((hs'.2 e hes).trans hue) hn');exact(hs'.2 b (Nat.ne_of_lt (Heap.lt_size k))).trans ((Heap.get?_update_ne _ _ _ _ nb).trans (aq _ k))
theorem Inv.Z8{a1:aC}{sl:Array (Option aC)}(I:Inv X pins σ H s)(he:H e=some (ou e C dx))(k:∀b o,b≠e->s.heap.get? b=some o->h'.get? b=some o)(new:h'.get? e=some {cls:=.ref C,dict:=dx,data:=.fields #[a1,.none,.none,.none,.bool false,.none],slots:=sl}):Inv X pins σ H {s with heap:=h',toks:=t'}:=by
 have ne:∀b,H b=none->b≠e:=λb n z=>by rw[z,he]at n;cases n
 refine I.un (t':=t') (H':=H) ⟨λb o q n _ _=>k b o (ne b n) q,λb o q n _ _=>⟨o.slots,k b o (ne b n) q⟩,λ_ _ _ n _=>n,λb o q _=>?_,λ_ _ q=>q,λ_ _ _ q=>q,λ_ ps q=>⟨#[],by rw[q];simp⟩⟩ λb u q=>?_
 ·by_cases z:b=e
  ·rw[z];exact⟨_,new⟩
  ·exact⟨o,k b o z q⟩
 ·by_cases z:b=e
  ·subst z;rw[he]at q;cases q;exact Dw new
  ·refine(I.hok b u q).stay (λc o hc r=>k c o ?_ r) (λ_ r=>r) λ_ _ r=>r
   rcases hc with rfl|hc
   ·exact z
   ·intro y;rw[y,he]at hc;cases hc
structure agN(K:Fg)(G:aB)(id:String):Prop where
 rd:readsIn K G (.type "type")=true
 ga:specialIn K (.ref G) "__getattribute__"=some (some (.builtin "type.__getattribute__"))
 at_:findCls K (.ref G) (.type "type") "__init__"=some (.val (.builtin id))
 hd:handedIn (.builtin id)=true
def adK(C:aB)(ta:TA):TE:=λσ H Q=>ta σ H λvs H1=>∃e v dx,vs=[.ref e,v]/\H1 e=some (ou e C dx)/\Q .non H1
section
variable{G:aB}{p apos:Pos}{e:Expr}{es:List Expr}{t:TA}
theorem Vy(hx:X.mg x=some (.ref G))(hm:agN X.K G initId)(q:adI X.K C fI bmB newId)(FB:ExcBaseFacts B newId initId bmB)(ha:PA X (e::es) t)(hg:autoParam (Gl X x) zau0)(hdb:autoParam ((x == ("__debug__":Str))=false) zau1)(hst:autoParam (starEach (e::es) X.env=(false,eval e X.env)::starEach es X.env) zau0)(hpl:autoParam ((backTo pos (starEach es X.env)).any (·.1)=false) zau0)(ht:autoParam (eval (.Call (.Attribute (.Name x p) "__init__" apos) (e::es) [] pos) X.env=(do
   let ov <- eval (.Name x p) X.env
   standAt apos.atName
   let (f,first) <- holding [ov] (getMethod ov "__init__" pl)
   callWith pos f first (backTo pos (starEach (e::es) X.env)) (backToKw pos (keywordEach [] X.env)))) zau0) :
  PE X (.Call (.Attribute (.Name x p) "__init__" apos) (e::es) [] pos) (adK C t):=by
 intro pins s σ H Q I h;refine methodCall_KW (pl:=pl) (lK I hg hx ?_ hdb) ht;refine method_cls I.oR hm.ga (cls_value I.oR hm.rd hm.at_ hm.hd ?_);have I1:=I.tok (s.toks+1);refine callWith_builtin1 (f9 (ha pos pins _ σ H _ I1 h) λus s2 ⟨vs,H2,I2,r,e',v,dx,ev,he,q2⟩=>?_) hst hpl;subst ev;obtain⟨u1,u2,rfl,r1,r2⟩:=Vals.two r;obtain rfl:u1=Value.ref e':=r1;obtain⟨dd,nm,bs,up,N,qn,hd,sn,sub,ab,col,a,b,c,d,f,look,tl,ok,ini⟩:=q.ex;obtain⟨a0,sl,hoe⟩:=(show gq X.prog X.w H2 s2.heap e' (ou e' C dx) from I2.hok e' _ he).1;obtain⟨hp,g0,d0,tk,o0⟩:=s2;refine QW FB ((tail_of_in I2.mod.Fq tl).keeps I2.bk) (I2.bk _ _ (I2.mod.Fq C _ look)) hoe λh' a1 k new=>?_
 exact⟨.non,H2,I2.Z8 (t':=tk) he k new,rfl,q2⟩
end
def agO(te:TE):TE:=λσ H Q=>te σ H λx H1=>∃i,x=.int i/\i.natAbs.log2<100/\∀z,Q (.str z) H1
theorem Z9{k1 k3:Nat}{e:Expr}(he:PE X e te)(la:autoParam (a.length<=1000) zau4)(lb:autoParam (b.length<=1000) zau4) : PE X (.JoinedStr [.Constant (.str a) k1 p1,.FormattedValue e (-1) none p2,.Constant (.str b) k3 p3] pos) (agO te):=by
 intro pins s σ H Q I h;have big:10000<=sizeLine:=by decide
 have l0:(Str.empty++a).length=a.length:=by rw[strLen_append];exact Nat.zero_add _
 refine JoinedStr_many (joinParts_cons (Calls.Constant_str ⟨by rw[l0];omega,joinParts_cons (FormattedValue_plain (f9 (he pins _ σ H _ (I.tok _) h) λu s1 ⟨x,H1,I1,r,i,ex,li,q⟩=>?_))⟩));subst ex;obtain⟨tk,rfl⟩:=r;have lt:(Str.ofString (toString i)).length<=101:=by
  have:=int_text_length_le (a:=i) (k:=100) (by decide) li;rw[PySem.ofString_length];exact this
 refine formatField_int_small (by omega) ⟨by rw[strLen_append,l0];show a.length+(Str.ofString (toString i)).length<=sizeLine;omega,joinParts_cons (Calls.Constant_str ⟨by rw[strLen_append,strLen_append,l0];show a.length+(Str.ofString (toString i)).length+b.length<=sizeLine;omega,joinParts_nil ?_ (by rw[strLen_append,strLen_append,l0];show a.length+(Str.ofString (toString i)).length+b.length<=sizeLine;omega)⟩)⟩;exact⟨.str _,H1,I1.tok _,⟨_,rfl⟩,q _⟩
structure agP(K:Fg)(C:aB)(f:Str):Prop where
 hs:findIn K (.ref C) "__setattr__"=some (some (.builtin "object.__setattr__"))
 hp:Dy K C=true
 ht:takerIn K C f=some none
 hh:hasDictIn K C=true
noncomputable def ak2(K:Fg)(ta tv:TE)(f:Str):TS:=λD σ H=>tv σ H λy H1=>ta σ H1 λx H2=>∃e C,x=.ref e/\H2 e=some (ou e C none)/\agP K C f/\∀dx,H2 dx=none->D.nx σ (upd (upd H2 dx (.xd [(f,y)])) e (ou e C (some dx)))
theorem adL(ha:PE X o ta)(hv:PE X value tv)(hs:swapsWith value (some (.Attribute o f pos')) pos.line X.env=pure false):PS X (.Assign [.Attribute o f pos'] value pos) (ak2 X.K ta tv f):=by
 intro pins s σ H D I h;refine plainObj_wpAny_Assign_Attribute (f9 (hv pins s σ H _ I h) λu s1 ⟨y,H1,I1,ry,q⟩=>f9 (ha pins s1 σ H1 _ I1 q) λov s2 ⟨x,H2,I2,rx,e,C,ex,he,ca,q2⟩=>?_) hs;subst ex;obtain rfl:ov=Value.ref e:=rx;obtain⟨a0,sl,hoe⟩:=(show gq X.prog X.w H2 s2.heap e (ou e C none) from I2.hok e _ he).1;refine Z7 I2.oR hoe ca.hs ca.hp ca.ht ca.hh λh' tk k new nd=>?_
 have hn:H2 s2.heap.objs.size=none:=I2.hok.fresh (aO _);have nde:s2.heap.objs.size≠e:=λz=>by rw[z,he]at hn;cases hn
 have ne1:∀b,H2 b=none->b≠e:=λb n z=>by rw[z,he]at n;cases n
 have ned:∀b u,H2 b=some u->b≠s2.heap.objs.size:=λb u q z=>by rw[z,hn]at q;cases q
 have nee:∀b u,H2 b=some u->(∀φ,u≠.ext φ)->b≠e:=λb u q n z=>by
  rw[z,he]at q;cases q;exact n _ rfl
 have I3:=I2.un (t':=tk) (H':=upd (upd H2 s2.heap.objs.size (.xd [(f,y)])) e (ou e C (some s2.heap.objs.size))) ⟨λb o q n _ _=>k b o (ne1 b n) q,λb o q n _ _=>⟨o.slots,k b o (ne1 b n) q⟩,
  λb o q n _=>by rw[bf (ne1 b n),bf (Nat.ne_of_lt (Heap.lt_size q))];exact n,λb o q _=>by
   by_cases z:b=e
   ·rw[z];exact⟨_,new⟩
   ·exact⟨o,k b o z q⟩,
  λb xs q=>by rw[bf (nee b _ q λ_ z=>by cases z),bf (ned b _ q)];exact q,λb o u q=>by rw[bf (nee b _ q λ_ z=>by cases z),bf (ned b _ q)];exact q,
  λb ps q=>⟨#[],by rw[bf (nee b _ q λ_ z=>by cases z),bf (ned b _ q),q];simp⟩⟩ λb u q=>by
   by_cases z:b=e
   ·subst z;rw[aF]at q;cases q;exact Dw new
   ·rw[bf z]at q
    by_cases z2:b=s2.heap.objs.size
    ·subst z2;rw[aF]at q;cases q;refine⟨_,nd,λf'=>?_⟩
     by_cases ef:f'=f
     ·subst ef;have:([(f',y)]:List (Str×V)).lookup f'=some y:=by simp[List.lookup]
      rw[this,if_pos rfl];exact ry
     ·have:([(f,y)]:List (Str×V)).lookup f'=none:=by
       have z:(f' == f)=false:=by simpa using ef
       simp[List.lookup,z]
      rw[this,if_neg ef];trivial
    ·rw[bf z2]at q;refine(I2.hok b u q).stay (λc o hc r=>k c o ?_ r) (λc r=>by rw[bf (nee c _ r λ_ z=>by cases z),bf (ned c _ r)];exact r) λc xs r=>by rw[bf (nee c _ r λ_ z=>by cases z),bf (ned c _ r)];exact r
     rcases hc with rfl|hc
     ·exact z
     ·exact nee c _ hc λ_ z=>by cases z
 exact⟨σ,_,I3,q2 _ hn⟩
section
variable{oe od:Obj}
theorem exc_value{Q:Fin->aW->Prop}(k:K.In s.heap)(I:InstAt s.heap e oe C (some od))(hf:findObj K C (some od) name=some (.value v))(h:Q (.done (.ret v)) s) : wpAny (model prog w) A (Builtin.«object.__getattribute__» ⟨[.ref e,.str name tk],[]⟩) Q E s:=by
 obtain⟨h0,g0,d0,tt,o0⟩:=s;have ht:=I.type (M:=model prog w);have lf:=looks_find (M:=model prog w) k I hf
 (unfold Builtin.«object.__getattribute__»;refine aj (au (aj (au (aj (ht.at (aj (lf.at ?_))))))))
 exact au h
theorem aac{Q:aC->aW->Prop}(k:K.In s.heap)(t:ZC K C)(I:InstAt s.heap e oe C (some od))(hf:findObj K C (some od) name=some (.value v))(hv:handedIn v=true)(h:Q v {s with toks:=s.toks+1}) : wpAny (model prog w) A (getAttr (.ref e) name expr) Q E s:=by
 obtain⟨h0,g0,d0,tt,o0⟩:=s;have ht:=I.type (M:=model prog w);have lg:=looks_findIn (M:=model prog w) k t.ga;have lk:=looks_findIn (M:=model prog w) k t.hk;have isB:Looks (model prog w) h0 (isInstance (.ref e) (.type "BaseException")) true:=ht.andThen (looks_subIn k t.be)
 (unfold getAttr getAttrBy;refine aj (wpAny_mkText (wpAny_holding (aj (ht.at (aj (lg.at ?_)))))))
 have no:(onTheHeap (Value.ref C)&&Value.builtin "BaseException.__getattribute__" == Value.builtin "object.__getattribute__")=false:=by
  rw[show(Value.builtin "BaseException.__getattribute__" == Value.builtin "object.__getattribute__")=false by decide +kernel];rfl
 dsimp only;rw[no,if_neg Bool.false_ne_true];unfold getAttrByItsOwn hookBefore;rw[if_pos (show onTheHeap (Value.ref C)=true from rfl)];refine aj (lk.at (aj (wpAny_attempt (wpAny_holding ?_))));unfold callGetattribute;rw[show(expr&&onTheHeap (Value.builtin "BaseException.__getattribute__"))=false by cases expr<;>rfl,if_neg Bool.false_ne_true];unfold boundAndCalled;rw[(F.attr_ValueError).ga.bind];refine aj (au ?_)
 show wpAny _ _ (call (.builtin "BaseException.__getattribute__") [.ref e,.str name tt]) _ _ _
 refine wpAny_call (codeAny_call_builtin (F.attr_ValueError).ga.plain F.entry_bexc_ga ?_);have hB:builtinKind "BaseException.__getattribute__"=some .slot:=by decide +kernel
 have hS:splitId "BaseException.__getattribute__"=some ("BaseException","__getattribute__"):=by decide +kernel
 have hA:=F.args_bexc_ga (.ref e) (.str name tt);refine @check_slot (model prog w) _ _ ⟨h0,g0,d0,tt+1,o0⟩ _ _ _ (.ref e) [.str name tt] [] _ hB hS isB hA ?_;refine exc_value (s:=⟨h0,g0,d0,tt+1,o0⟩) k I hf ?_
 show wpAny (model prog w) A (handedOut v) _ _ _
 exact handed_on hv h
end
def ExcAt(H:Hp)(e C:aB)(fs:List (Str×V)):Prop:=∃dx,H e=some (Df e (.ref C) (some dx))/\H dx=some (.xd fs)
theorem ExcAt.inst(I:Inv X pins σ H s)(x:ExcAt H e C fs):∃oe od,InstAt s.heap e oe C (some od)/\∀f,∃u,lookIn f od=some u/\yu (fs.lookup f) u:=by
 obtain⟨dx,he,hd⟩:=x;obtain⟨oe,vs,h1,h2,h3,h4⟩:=(show gq X.prog X.w H s.heap e (Df e (.ref C) (some dx)) from I.hok e _ he).1;obtain⟨mA,ns,rel⟩:=(show gq X.prog X.w H s.heap dx (.xd fs) from I.hok dx _ hd);obtain⟨od,ho,lk⟩:=Bc ns;exact⟨oe,od,⟨h1,h2,by unfold notCls;rw[h4],by rw[h3];exact ho⟩,λf=>⟨_,lk f,rel f⟩⟩
noncomputable def agR(K:Fg)(ta:TE)(f:Str):TE:=λσ H Q=>ta σ H λx H1=>∃e C fs v,x=.ref e/\ExcAt H1 e C fs/\ZC K C/\hasDictIn K C=true/\findIn K (.ref C) f=some none/\fs.lookup f=some (.int v)/\Q (.int v) H1
theorem aad(K:Fg)(he:PE X o ta)(hK:autoParam (X.K=K) zau0)(hb:autoParam (attributeBase o f X.env (eval o X.env)=eval o X.env) zau0):PE X (.Attribute o f pos) (agR K ta f):=by
 subst hK;intro pins s σ H Q I h;refine Mj hb (f9 (he pins s σ H _ I h) λu s1 ⟨x,H1,I1,rx,e,C,fs,v,ex,ea,t,hh,ha,l,q⟩=>?_);subst ex;obtain rfl:u=Value.ref e:=rx;obtain⟨oe,od,J,lk⟩:=ea.inst I1;obtain⟨u,hu,ru⟩:=lk f;rw[l]at ru;cases u with
 |none=>exact False.elim ru
 |some u =>
  obtain⟨tk,rfl⟩:=(show RelV (.int v) u from ru);exact aac I1.oR t J (findObj_own hh ha rfl hu) rfl ⟨.int v,H1,I1.tok _,⟨_,rfl⟩,q⟩
def Vz(e C:aB)(h:Heap):Prop:=∃oe od,InstAt h e oe C od
theorem VB(t:ZC K C):KitX K (.ref e) (.ref C) (Vz e C) where
 ty:=λM h k x=>by
  obtain⟨oe,od,I⟩:=x;exact I.type
 it:=λM h k x=>by
  obtain⟨c,dd,cd,sl,q⟩:=t.obj;intro A' Q' E' s' keep hq;unfold isType loadHead;exact aj (wpAny_loadPart (keep C _ (k C _ q)) (au hq))
 ne:=λh tp dd its n sl k q=>by
  obtain⟨c,d',cd,sl',q'⟩:=t.obj;cases z:(Value.ref C == Value.ref tp) with
  |false=>rfl
  |true =>
   cases Value.ref.inj (beq_iff_eq.mp z);rw[k C _ q']at q;cases q
 ca:=λk x h=>by
  obtain⟨oe,od,I⟩:=x;exact Qi k t I h
def wQ(H:Hp)(e C:aB):Prop:=H e=some (Df e (.ref C) none)\/∃fs,ExcAt H e C fs
theorem wQ.is(I:Inv X pins σ H s)(x:wQ H e C):Vz e C s.heap:=by
 rcases x with h|⟨fs,h⟩
 ·obtain⟨oe,vs,h1,h2,h3,h4⟩:=(show gq X.prog X.w H s.heap e (Df e (.ref C) none) from I.hok e _ h).1;exact⟨oe,none,h1,h2,by unfold notCls;rw[h4],by rw[h3];trivial⟩
 ·obtain⟨oe,od,J,_⟩:=h.inst I;exact⟨oe,some od,J⟩
theorem jZ(K:Fg)(hK:autoParam (X.K=K) zau0):jw X (.builtin "isinstance") (λxs H Q=>∃e C c cv b,xs=[.ref e,c]/\RelV c cv/\(∃C',c=.ref C'\/∃T,c=.ty T)/\wQ H e C/\ZC K C/\kitOne K (.ref C) cv=some b/\Q (.bl b) H):=by
 subst hK;intro pins s σ H xs us Q I r h;obtain⟨e,C,c,cv,b,rfl,rc,kd,he,t,k1,q⟩:=h;obtain⟨u,v,rfl,ru,rv⟩:=Vals.two r;cases (show u=Value.ref e from ru);have ev:v=cv:=by
  obtain⟨C',rfl|⟨T,rfl⟩⟩:=kd
  ·exact rv.trans (Eq.symm rc)
  ·exact rv.trans (Eq.symm rc)
 subst ev;exact kia_one (VB t) I.oR (he.is I) k1 (by
  obtain⟨C',rfl|⟨T,rfl⟩⟩:=kd
  ·intro z;cases (show v=Value.ref C' from rv);cases z
  ·intro z;cases (show v=Value.type T from rv);cases z) λtk=>⟨.bl b,H,I.tok tk,rfl,q⟩
def QX(ns:List Int):Nat:=(firstMet (λi=>ns.getD i 0) ns.length).length
theorem GZ(val:Nat->Int):∀i,(firstMet val i).length=i↔((List.range i).map val).Nodup
 |0=>by simp[firstMet]
 |i+1=>by
  have ih:=GZ val i;have le:=firstMet_length_le val i;rw[firstMet_succ,step_length,firstMet_any,dD,aX,cJ,map_nil];have e:((List.range i).map val).any (· == val i)=true↔val i∈(List.range i).map val:=by
   rw[any_eq_true];constructor
   ·rintro⟨x,hx,z⟩;rw[<- beq_iff_eq.mp z];exact hx
   ·intro h;exact⟨_,h,beq_self_eq_true _⟩
  rw[nodup_append]
  by_cases h:val i∈(List.range i).map val
  ·rw[if_pos (e.mpr h)];constructor
   ·intro z;omega
   ·rintro⟨_,_,d⟩;exact absurd rfl (d _ h _ (by simp))
  ·rw[if_neg λz=>h (e.mp z)];constructor
   ·intro z;refine⟨ih.mp (by omega),by simp,λa ha b hb=>?_⟩;rw[aH.mp hb];exact λz=>h (z ▸ ha)
   ·rintro⟨d,_,_⟩;rw[ih.mpr d]
theorem aae(ns:List Int):QX ns=ns.length↔ns.Nodup:=by
 unfold QX;rw[GZ];have:(List.range ns.length).map (λi=>ns.getD i 0)=ns:=by
  apply ext_getElem?;intro i;rw[aJ]
  by_cases h:i<ns.length
  ·rw[List.getElem?_range h];simp[h]
  ·rw[List.getElem?_eq_none (by simpa using h),List.getElem?_eq_none (by omega)];rfl
 rw[this]
theorem QZ(hc:X.calm=true):jw X (.type "set") (λxs H Q=>∃p ns,xs=[.ref p]/\cD X.K H p (ns.map V.int)/\ns.length+1<scanBound/\∀l S,H l=none->Q (.ref l) (upd H l (.set S (QX ns)))):=by
 intro pins s σ H xs us Q I r h;obtain⟨p,ns,rfl,hq,hb,q⟩:=h;obtain⟨u,rfl,rx⟩:=Vals.one r;cases rx;obtain⟨its,rv,pl,hz⟩:=I.list hq;have li:its.length=ns.length:=by have:=rv.length;simpa using this.symm
 refine call_set_list (ns:=ns) (I.ok.hd hc) pl.isList (intsAre_of rv) (by rw[size_toArray,li];exact hb) λh' tk hS hk=>?_
 rw[show its.toArray.size=ns.length by rw[size_toArray,li]]at hS;refine⟨.ref s.heap.objs.size,_,I.laid (a:=s.heap.objs.size) (o:=.set (λk'=>(firstMet (λi=>ns.getD i 0) ns.length).any (· == k')) (QX ns)) (λb o e=>hk b o (Heap.lt_size e) e) (aO _) ?_,rfl,q _ _ (I.hok.fresh (aO _))⟩;exact hS
theorem Q0:jw X (.builtin "len") (λxs H Q=>∃p S n,xs=[.ref p]/\H p=some (.set S n)/\Q (.int n) H):=by
 intro pins s σ H xs us Q I r h;obtain⟨p,S,n,rfl,e,q⟩:=h;obtain⟨u,rfl,rx⟩:=Vals.one r;cases rx;obtain⟨o,es,ep,t,ho,hex,hd,hel,hm,hb,hf,hn⟩:=(show gq X.prog X.w H s.heap p (.set S n) from I.hok p _ e);subst hn;exact call_len_set ho hex hd hf (by unfold scanBound at hb;omega) ⟨.int es.size,H,I.tok _,⟨_,rfl⟩,q⟩
theorem Q5{it l:aB}{xs:Array aC}(f:Nat)(hh:A.handled=none)(ne:l≠it) : PySem.Draws prog w A it [it,l] (f+xs.size) (λj v=>xs[j-f]?=some v) (λj h=>f<=j/\Over h it l xs (j-f) tu) where
 live:=λ_ _ st=>st.2.Ur
 frame:=λ_ _ _ st hk=>⟨st.1,iC _ _ st.2 hk⟩
 item:=λj s Q E lt0 st hQ=>by
  have lt:j-f<xs.size:=by omega
  refine pH ne (Array.getElem?_eq_getElem lt) s Q E st.2 λh' o' sb=>hQ _ h' s.toks (Array.getElem?_eq_getElem lt) ⟨by omega,?_⟩ sb
  rw[show j+1-f=j-f+1 by omega];exact o'
 done:=λs Q E st hE=>qR (k:=f+xs.size-f) (by rw[Nat.add_sub_cancel_left];simp) hh s Q E st.2 λh' e x y=>hE h' e x y
def SqB(K:Fg)(tu:Bool)(H:Hp)(l:aB)(xs:List V):Prop:=match tu with
 |false=>cD K H l xs
 |true=>dY K H l xs
def G3(tu:Bool)(h:Heap)(it l:aB)(i:Nat):Prop:=match tu with
 |false=>h.IsListIter it l i
 |true=>h.IsTupleIter it l i
noncomputable def Itx(K:Fg)(tu:Bool)(f:Nat)(l:aB):It := ⟨λi H=>∃xs x,SqB K tu H l xs/\xs[i]?=some x,λi H v H'=>∃T,H T=none/\v=.ref T/\∀xs x,SqB K tu H l xs->xs[i]?=some x->H'=upd H T (.tup [.int (f+i:Nat),x]),λi H=>∃xs,SqB K tu H l xs/\xs.length<=i⟩
structure za(tu:Bool)(f:Nat)(e it l:aB)(i:Nat)(h:Heap):Prop where
 cell:∃old,IsEnum h e it ((f+i:Nat):Int) old
 one:G3 tu h it l i
theorem G3.obj(o:G3 tu h it l i):∃ob vs,h.get? it=some ob/\ob.data=.fields vs:=by
 cases tu with
 |false=>obtain⟨ob,q,_,d⟩:=o;exact⟨ob,_,q,d⟩
 |true=>obtain⟨ob,q,_,d⟩:=o;exact⟨ob,_,q,d⟩
theorem G3.stays(o:G3 tu h it l i)(k:∀ob,h.get? it=some ob->h'.get? it=some ob):G3 tu h' it l i:=by
 cases tu with
 |false=>obtain⟨ob,q,r⟩:=o;exact⟨ob,k ob q,r⟩
 |true=>obtain⟨ob,q,r⟩:=o;exact⟨ob,k ob q,r⟩
theorem over_of(I:Inv X pins σ H s)(sx:SqB X.K tu H l xs)(o:G3 tu s.heap it l i):∃its:List aC,Vals xs its/\Over s.heap it l its.toArray i tu/\l≠it:=by
 cases tu with
 |false =>
  obtain⟨its,v,p,_⟩:=I.list sx;refine⟨its,v,.lst o p.isList,λz=>?_⟩;obtain⟨o1,q1,c1,_⟩:=o;obtain⟨o2,q2,c2,_⟩:=p.isList;rw[z,q1]at q2;cases q2;rw[c1]at c2;exact absurd (Value.type.inj c2) (by decide)
 |true =>
  obtain⟨its,v,p,_⟩:=I.tuple sx;refine⟨its,v,.tup o p,λz=>?_⟩;obtain⟨o1,q1,c1,_⟩:=o;obtain⟨o2,q2,c2,_⟩:=p;rw[z,q1]at q2;cases q2;rw[c1]at c2;exact absurd (Value.type.inj c2) (by decide)
theorem Over.on(o:Over h it l xs k tu):G3 tu h it l k:=by
 cases o with
 |lst a _=>exact a
 |tup a _=>exact a
theorem aag(I:Inv X pins σ H s)(h:SqB X.K tu H l xs)(h':SqB X.K tu H l ys):xs=ys:=by
 cases tu with
 |false=>exact I.oU h h'
 |true=>exact I.vM h h'
theorem zc(ne:e≠it)(nl:e≠l):Turn P w K (.Tuple elts k pos) (Itx K tu f l) [e,it] e (za tu f e it l) where
 mem:=by simp
 obj:=λi h R c hc=>by
  obtain⟨old,q0⟩:=R.cell;obtain⟨o1,vs,q1,d1⟩:=R.one.obj;simp only[aR,not_mem_nil,or_false]at hc;rcases hc with rfl|rfl
  ·exact⟨_,q0,λv q=>by cases q⟩
  ·exact⟨o1,q1,λv q=>by rw[d1]at q;cases q⟩
 keep:=λi h h' R kp=>by
  obtain⟨old,q0⟩:=R.cell;exact⟨⟨old,kp e (by simp) _ q0⟩,R.one.stays (kp it (by simp))⟩
 item:=by
  intro X hP hw hK hc i pins s σ H E I hf R go;subst hP hw hK;obtain⟨xs,x,sx,hx⟩:=go;obtain⟨its,v1,ov,lne⟩:=over_of I sx R.one;obtain⟨ux,gx,rx⟩:=v1.get hx;obtain⟨old,q0⟩:=R.cell;have fr:s.heap.get? s.heap.objs.size=none:=Heap.get?_none_of_le (aO _);have there:∀c∈[e,it],∃o,s.heap.get? c=some o:=λc hc=>by
   obtain⟨o1,_,q1,_⟩:=R.one.obj;simp only[aR,not_mem_nil,or_false]at hc;rcases hc with z|z<;>rw[z]
   ·exact⟨_,q0⟩
   ·exact⟨_,q1⟩
  have elt:s.heap.objs.size≠e:=Nat.ne_of_gt (Heap.lt_size q0);have li:i<its.toArray.size:=by
   rw[size_toArray];exact(aM.mp gx).1
  refine wpAny_pyNext_enum_itemD (Q5 f (I.ok.hd hc) lne) (i:=f+i) q0 ⟨Nat.le_add_right _ _,by rw[Nat.add_sub_cancel_left];exact ov⟩ (by omega) ne (by simp[ne,nl]) λx' h1 tk hx1 c1 st1 pr _ past=>⟨.ref s.heap.objs.size,rfl,wpAny_letOwnedTupleGo_enum (s:={s with heap:=h1,toks:=tk+1}) c1 λh2 c2 sb=>?_⟩
  have ex:x'=ux:=by
   rw[Nat.add_sub_cancel_left]at hx1;have:its[i]?=some x':=by simpa using hx1
   rw[gx]at this;exact Eq.symm (bO this)
  subst ex;have pr2:=sb.extBut _ _ elt pr;refine⟨.ref s.heap.objs.size,upd H s.heap.objs.size (.tup [.int (f+i:Nat),x]),Inv.drawn (h':=h2) (t':=tk+1) (ch:=[e,it]) (s:=s) I hf (λc o out q=>?_) fr ⟨xT,[.int (f+i:Nat) tk,x'],.cons ⟨_,rfl⟩ (.cons rx .nil),⟨_,pr2,rfl,_,rfl⟩⟩,rfl,⟨_,I.hok.none_of fr,rfl,λxs' x2 sx' hx'=>?_⟩,⟨⟨x',c2⟩,?_⟩,λc hc=>?_⟩
  ·simp only[aR,not_mem_nil,or_false,not_or]at out;exact sb.extBut c o out.1 (past c o out.1 out.2 q)
  ·have e1:=aag I sx' sx;subst e1;rw[hx]at hx';cases hx';rfl
  ·have o2:=st1.2;rw[show f+i+1-f=i+1 by omega]at o2;exact o2.on.stays λob q=>sb.extBut _ _ (Ne.symm ne) q
  ·obtain⟨o,q⟩:=there c hc;rw[bf (λz=>by rw[z,fr]at q;cases q)];exact(hf c hc).1
 done:=by
  intro X hP hw hK hc i pins s σ H E I hf R stop;subst hP hw hK;obtain⟨xs,sx,le⟩:=stop;obtain⟨its,v1,ov,lne⟩:=over_of I sx R.one;obtain⟨old,q0⟩:=R.cell;have l1:=v1.length;have none_:its.toArray[i]?=none:=by simp;omega
  have hT:s.TypeIs (.ref e) "enumerate":=⟨_,q0,rfl⟩;refine aj (wpAny_attempt (wpAny_callSpecial?_slot (name:=Str.ofString "__next__") hT PySem.F.slot_enumerate_next (wpAny_call_entry PySem.F.slot_enumerate_next hT PySem.F.entry_enumerate_next ?_ (PySem.F.args_enumerate_next_1 _))));refine aj (m:=field (.ref e) 2) (wpAny_field q0 rfl (x:=.ref it) rfl (aj (qR none_ (show X.A.in1.handled=none from I.ok.hd hc) _ _ _ ov λh' x past hx=>?_)));obtain⟨o,ho,ho2⟩:=hx;refine aj (wpAny_isInstance (T:="StopIteration") (b:=true) ⟨o,ho,ho2⟩ isSubtype_stop (au ⟨rfl,I.turns (t':=s.toks) (ch:=[e,it]) hf λc o' out q=>?_⟩));simp only[aR,not_mem_nil,or_false,not_or]at out;exact past c o' out.2 q
 self:=λ_ _ _ _ _ R q=>by
  obtain⟨old,q0⟩:=R.cell;exact wpAny_pyIter_enum q0 q
theorem aah{o a u:aC}(hl:typeLookup (.type T) "__init__"=pure (some (.builtin "object.__init__")))(hm:Bind.madeBy (.type T)=pure (some newId))(hne:(some newId != some "object.__new__")=true) : Meets (Builtin.«object.__init__» ⟨[o,a],[(k,u)]⟩) (λ_ R s=>s.TypeIs o T/\R (.ok (.ret .none)) s) := .of_wp λprog w A R s hs=>by
 obtain⟨ty,q⟩:=hs
 repeat any_goals first|assumption|wp_step
 exact⟨_,rfl,q⟩
def uP(it:aB)(f:Nat):Obj:={cls:=.type "enumerate",data:=.fields #[.none,.bool false,.ref it,rawInt f,.none,.none]}
theorem VD(a u:aC):checkTypeCall "enumerate" ⟨[a],[(Str.ofString "start",u)]⟩=pure ():=by kernel_rfl
theorem VF(a u:aC):checkBuiltinCall "enumerate.__new__" ⟨[.type "enumerate",a],[(Str.ofString "start",u)]⟩=pure ():=by kernel_rfl
theorem VG(o a u:aC):argsOk "object.__init__" ⟨[o,a],[(Str.ofString "start",u)]⟩:=by
 unfold argsOk;rw[signature?_of (id:="object.__init__") (n:=['_','_','t','i','n','i','_','_']) (o:=['t','c','e','j','b','o']) (by kernel_rfl) PySem.F.owner_object];kernel_rfl
theorem VH{a u:aC}{Q:aC->aW->Prop}(ft:TypeCalled T newId "object.__init__")(hne:(some newId != some "object.__new__")=true)(hct:checkTypeCall T ⟨[a],[(k,u)]⟩=pure ())(hcn:checkBuiltinCall newId ⟨[.type T,a],[(k,u)]⟩=pure ())(hok:∀o,argsOk "object.__init__" ⟨[o,a],[(k,u)]⟩)(entryN:entryFor table newId=some Bn)(g:Meets (Bn ⟨[.type T,a],[(k,u)]⟩) S)(h:S A.in1 (wants (λo s₁=>s₁.TypeIs o T/\Q o s₁) E) s):wpAny (model prog w) A (call (.type T) [a] [(k,u)]) Q E s:=by
 obtain⟨cl,tl,hmro⟩:=ft.mro;have hmade:=ft.made;have hsub:=ft.sub;refine wpAny_call (codeAny_of_tree ?_);change wpAny _ _ (callAny (.type T) _) _ _ _;refine au (And.intro (Code.quiet_builtin _ (by decide +kernel)) (codeAny_builtin PySem.F.entry_type_call ?_));rw[Around.under_plain (weight_type_call_type T [a] [(k,u)]) (units_type_call_type T [a] [(k,u)])];have h1:=ft.notType;have h2:=ft.canCreate;have w1:=g prog w A.in1 _ s h
 repeat any_goals first|assumption|wp_step
 refine cY (codeAny_call_builtin ft.plain entryN (wpAny_of_eq hcn w1)) λr s₁ hr=>?_
 rcases r with e|fl
 ·exact hr
 cases fl with
 |ret o =>
  have hli:=ft.init.lookup;have hbi:=ft.init.bind o;have w2:=aah (o:=o) (a:=a) (u:=u) (k:=k) ft.init.lookup ft.made hne prog w A.in1 (wants (λr s₂=>r=.none/\Q o s₂) E) s₁ ⟨hr.1,rfl,hr.2⟩;have hT:=hr.1
  repeat any_goals first|assumption|wp_step
  refine cY (codeAny_call_builtin ft.init.plain PySem.F.entry_object_init (ft.init.check _ _ _ _ _ _ _ _ hT (hok o) w2)) λr₂ s₂ hr₂=>?_
  rcases r₂ with e|fl₂
  ·exact hr₂
  cases fl₂ with
  |ret r =>
   obtain⟨rfl,hq⟩:=hr₂
   repeat any_goals first|assumption|wp_step
  |_=>exact hr₂.elim
 |_=>exact hr.elim
theorem Q6(l:aB)(xs:Array aC)(f:Nat)(t:Tok)(hf:Builtin.SmallTypes.fitsIndex (f:Int)=true):Meets (Builtin.«enumerate.__new__» ⟨[.type "enumerate",.ref l],[(Str.ofString "start",.int (f:Int) t)]⟩) (λ_ R s=>s.heap.IsList l xs/\R (.ok (.ret (.ref (s.heap.objs.size+1)))) {s with heap:=(s.heap.push (zip2 l)).push (uP s.heap.objs.size f)}) := .of_wp λprog w A R s h=>by
 obtain⟨hp,gs,dr,tk,oss⟩:=s;obtain⟨q1,r⟩:=h;have sub:=sub_enumerate;have Ut:Heap.IsList (Shared.heap ⟨hp,gs,dr,tk,oss⟩) l xs:=q1
 wp_walk using wpAny_pyIter_list Ut
 refine wpAny_stack_any λ_=>au ?_
 have e1:(hp.push {cls:=.type "list_iterator",data:=.fields #[.ref l,.int 0 0]}).objs.size=hp.objs.size+1:=Heap.size_push _ _;generalize (Builtin.SmallTypes.fitsIndex:Int->Bool)=fits at hf⊢
 split
 ·rename_i cl _ _ _ _ _
  cases (cl == Value.type "enumerate")<;>(wp_walk using wpAny_pyIter_list Ut;refine⟨_,rfl,?_⟩;rw[e1];exact r)
 ·wp_walk using wpAny_pyIter_list Ut
  refine⟨_,rfl,?_⟩;rw[e1];exact r
theorem Q7(l:aB)(xs:Array aC):Meets (Builtin.«enumerate.__new__» ⟨[.type "enumerate",.ref l],[]⟩) (λ_ R s=>s.heap.IsTuple l xs/\R (.ok (.ret (.ref (s.heap.objs.size+1)))) {s with heap:=(s.heap.push (vQ l)).push (uP s.heap.objs.size 0)}) := .of_wp λprog w A R s h=>by
 obtain⟨hp,gs,dr,tk,oss⟩:=s;obtain⟨q1,r⟩:=h;have sub:=sub_enumerate;have Ut:Heap.IsTuple (Shared.heap ⟨hp,gs,dr,tk,oss⟩) l xs:=q1
 wp_walk using wpAny_pyIter_tuple Ut
 refine wpAny_stack_any λ_=>au ?_
 have e1:(hp.push {cls:=.type "tuple_iterator",data:=.fields #[.ref l,.int 0 0]}).objs.size=hp.objs.size+1:=Heap.size_push _ _
 split
 ·rename_i cl _ _ _ _ _
  cases (cl == Value.type "enumerate")<;>(wp_walk using wpAny_pyIter_tuple Ut;refine⟨_,rfl,?_⟩;rw[e1];exact r)
 ·wp_walk using wpAny_pyIter_tuple Ut
  refine⟨_,rfl,?_⟩;rw[e1];exact r
theorem Nq(hf:o.isFreed=false):((h.push o).push (uP h.objs.size f)).get? (h.objs.size+1)=some (uP h.objs.size f)/\((h.push o).push (uP h.objs.size f)).get? h.objs.size=some o:=by
 have z:(h.push o).objs.size=h.objs.size+1:=Heap.size_push _ _;refine⟨?_,aq _ (aN _ hf)⟩;rw[<- z];exact aN _ rfl
theorem JX{l:aB}{xs:Array aC}{f:Nat}{t:Tok}{Q:aC->aW->Prop}(hf:Builtin.SmallTypes.fitsIndex (f:Int)=true)(hl:s.heap.IsList l xs)(q:∀h',za false f (s.heap.objs.size+1) s.heap.objs.size l 0 h'->(∀b o,s.heap.get? b=some o->h'.get? b=some o)->Q (.ref (s.heap.objs.size+1)) {s with heap:=h'}) : wpAny (model prog w) A (call (.type "enumerate") [.ref l] [(Str.ofString "start",.int (f:Int) t)]) Q E s:=by
 have at_:=Nq (h:=s.heap) (o:=zip2 l) (f:=f) rfl;refine VH PySem.F.called_enumerate (by decide) (VD _ _) (VF _ _) (λ_=>VG _ _ _) PySem.F.entry_enumerate_new (Q6 l xs f t hf) ⟨hl,⟨_,at_.1,rfl⟩,q _ ⟨⟨_,at_.1⟩,⟨_,at_.2,rfl,rfl⟩⟩ λb o e=>aq _ (aq _ e)⟩
theorem JZ{l:aB}{xs:Array aC}{Q:aC->aW->Prop}(hl:s.heap.IsTuple l xs)(q:∀h',za true 0 (s.heap.objs.size+1) s.heap.objs.size l 0 h'->(∀b o,s.heap.get? b=some o->h'.get? b=some o)->Q (.ref (s.heap.objs.size+1)) {s with heap:=h'}) : wpAny (model prog w) A (call (.type "enumerate") [.ref l] []) Q E s:=by
 have at_:=Nq (h:=s.heap) (o:=vQ l) (f:=0) rfl;refine callType_new PySem.F.called_enumerate (by decide) (PySem.F.typeCall_enumerate_1 _) (PySem.F.newCall_enumerate_1 _) (λobj=>PySem.F.args_object_init_2 obj _) PySem.F.entry_enumerate_new (Q7 l xs) ⟨hl,⟨_,at_.1,rfl⟩,q _ ⟨⟨_,at_.1⟩,⟨_,at_.2,rfl,rfl⟩⟩ λb o e=>aq _ (aq _ e)⟩
theorem zf{e:Expr}{Q:aC->aW->Prop}(h:wpAny M A (spliced (backTo pos (starEach [e] env))) (λvs s₁=>wpAny M A (evalAll ((backToKw pos (keywordEach kws env)).map (·.2))) (λkvs s₂=>wpAny M A (call (.type T) vs (((backToKw pos (keywordEach kws env)).filterMap (·.1)).zip kvs)) Q E s₂) E s₁) E s)(he:starEach [e] env=[(false,eval e env)])(hall:(backToKw pos (keywordEach kws env)).all (·.1.isSome)=true)(hkw:(backToKw pos (keywordEach kws env)).any (·.1.isNone)=false) : wpAny M A (callWith pos (.type T) [] (backTo pos (starEach [e] env)) (backToKw pos (keywordEach kws env))) Q E s:=by
 have e2:backTo pos (starEach [e] env)=(false,eval e env)::[]:=by rw[he];rfl
 rw[e2]at h⊢;unfold callWith;refine aj (wpAny_holding (cW (evalArgs_kwB (Q:=λa s₂=>wpAny M A (call (.type T) a.pos a.kw) Q E s₂) hall h) (λa s₁ h₁=>aj (wpAny_standAt ?_)) λ_ _ x=>x));have pl:[(false,eval e env)].any (·.1)=false:=rfl;simp only[pl,hkw,Bool.or_false];exact aj (au (aj (cW h₁ (λr s₂ hr=>aj (wpAny_holding (wpAny_point (au hr)))) λ_ _ x=>x)))
def adN(K:Fg)(ta:TA)(tf:TE):TI:=λσ H R=>ta σ H λvs H1=>tf σ H1 λu H2=>∃(l:aB)(xs:List V)(f:Nat),vs=[.ref l]/\u=.int (f:Nat)/\f<2^62/\cD K H2 l xs/\R (Itx K false f l) H2
theorem Nr(I:Inv X pins σ H s):∀b∈[s.heap.objs.size+1,s.heap.objs.size],nM X pins H b:=λb hb=>by
 have le:s.heap.objs.size<=b:=by
  simp only[aR,or_false,not_mem_nil]at hb;omega
 exact I.vO (H':=H) le (I.hok.fresh le)
theorem VJ(hg:Gl X "enumerate")(hm:X.mg "enumerate"=none)(ha:PA X [e1] ta)(hf:PE X e2 tf)(st1:autoParam (starEach [e1] X.env=[(false,eval e1 X.env)]) zau0) : PI X (.Tuple elts k tp) (.Call (.Name "enumerate" p) [e1] [⟨some "start",e2,kp⟩] pos) (adN X.K ta tf):=by
 intro pins s σ H R I h;refine wpAny_Call_Name_kw (kE I hg hm boot_enumerate (zf (f9 (ha pos pins s σ H _ I h) λus a ⟨vs,H1,I1,r,q⟩=>kws_cons (f9 (hf pins a σ H1 _ I1 q) λu2 a2 ⟨v2,H2,I2,r2,l,xs,f,e,e2,le,sx,q2⟩=>kws_nil ?_)) st1 (by rfl) (by rfl)));subst e e2;obtain⟨u1,e,r1⟩:=vals1 r;subst e;cases r1;obtain⟨tk,rfl⟩:=r2;obtain⟨its,v1,p1,_⟩:=I2.list sx;have lt:l<a2.heap.objs.size:=by obtain⟨o,ho,_⟩:=p1.isList;exact Heap.lt_size ho
 refine JX (f:=f) ?_ p1.isList λh' c1 old=>?_
 ·unfold Builtin.SmallTypes.fitsIndex;simp only[decide_eq_true_eq,Bool.and_eq_true];omega
 have I3:Inv X pins σ H2 {a2 with heap:=h'}:=I2.kept (t':=a2.toks) old;obtain⟨ov,c0⟩:=c1.cell;exact wpAny_pyIter_enum (s:={a2 with heap:=h'}) c0 ⟨_,[a2.heap.objs.size+1,a2.heap.objs.size],_,_,H2,rfl,I3,zc (tu:=false) (f:=f) (Nat.succ_ne_self _) (Nat.ne_of_gt (Nat.lt_succ_of_lt lt)),c1,Nr I2,q2⟩
def adO(K:Fg)(ta:TA):TI:=λσ H R=>ta σ H λvs H1=>∃l xs,vs=[.ref l]/\dY K H1 l xs/\R (Itx K true 0 l) H1
theorem VL(hg:Gl X "enumerate")(hm:X.mg "enumerate"=none)(ha:PA X [e1] ta)(st1:autoParam (starEach [e1] X.env=[(false,eval e1 X.env)]) zau0) : PI X (.Tuple elts k tp) (.Call (.Name "enumerate" p) [e1] [] pos) (adO X.K ta):=by
 intro pins s σ H R I h;refine Call_ (kE I hg hm boot_enumerate (callWith_type1 (f9 (ha pos pins s σ H _ I h) λus a ⟨vs,H1,I1,r,l,xs,e,sx,q⟩=>?_) (by rw[st1];rfl) (by rfl)));subst e;obtain⟨u1,e,r1⟩:=vals1 r;subst e;cases r1;obtain⟨its,v1,p1,_⟩:=I1.tuple sx;have lt:l<a.heap.objs.size:=by obtain⟨o,ho,_⟩:=p1;exact Heap.lt_size ho
 refine JZ p1 λh' c1 old=>?_
 have I2:Inv X pins σ H1 {a with heap:=h'}:=I1.kept (t':=a.toks) old;obtain⟨ov,c0⟩:=c1.cell;exact wpAny_pyIter_enum (s:={a with heap:=h'}) c0 ⟨_,[a.heap.objs.size+1,a.heap.objs.size],_,_,H1,rfl,I2,zc (tu:=true) (f:=0) (Nat.succ_ne_self _) (Nat.ne_of_gt (Nat.lt_succ_of_lt lt)),c1,Nr I1,q⟩
theorem Q8{g:TG}{tb:TS}{D:Ends}(Pv:Nat->St->Hp->Prop)(h0:Pv 0 σ H)(hl:∀i σ H,i<=xs.length->Pv i σ H->SqB K tu H l xs)(hs:∀i x T σ H,xs[i]?=some x->Pv i σ H->H T=none->g (.ref T) σ (upd H T (.tup [.int (f+i:Nat),x])) λσ2 H2=>tb {D with nx:=Pv (i+1),ct:=Pv (i+1),bk:=D.nx} σ2 H2)(hd:∀σ H,Pv xs.length σ H->D.nx σ H) : ∃W:Nat->Nat->St->Hp->Prop,(∃k,W 0 k σ H)/\∀i k σ H,W i k σ H -> ((Itx K tu f l).stop i H/\D.nx σ H)\/((Itx K tu f l).go i H/\∃N:St->Hp->Prop,(∀σ' H',N σ' H'->∃k',k'<k/\W (i+1) k' σ' H')/\∀x H',(Itx K tu f l).Jm i H x H'->g x σ H' λσ2 H2=>tb {D with nx:=N,ct:=N,bk:=D.nx} σ2 H2):=by
 refine⟨λi k σ H=>i<=xs.length/\k=xs.length-i/\Pv i σ H,⟨xs.length,dG _,rfl,h0⟩,?_⟩;rintro i k σ H ⟨hi,rfl,p⟩;have sq:=hl i σ H hi p;rcases Nat.lt_or_ge i xs.length with lt|ge
 ·have hx:=aA lt;refine .inr ⟨⟨xs,_,sq,hx⟩,Pv (i+1),λσ' H' p'=>⟨_,by omega,lt,rfl,p'⟩,λx H' y=>?_⟩;obtain⟨T,hT,rfl,y⟩:=y;rw[y xs _ sq hx];exact hs i _ T σ H hx p hT
 ·obtain rfl:i=xs.length:=Nat.le_antisymm hi ge;exact .inl ⟨⟨xs,sq,ge⟩,hd σ H p⟩
section
variable{z ti to a b l m:aB}{xs ys:Array aC}{i j:Nat}{u:aC}{t1 t2:Bool}
def nY(h:Heap)(l m:aB):Heap := ((((h.push (zip2 l)).push (vQ m)).push (pairOf (.ref h.objs.size) (.ref (h.objs.size+1)))).push (pairOf .none .none)).push (Zy (h.objs.size+2) (h.objs.size+3))
theorem VN(l m:aB)(xs ys:Array aC):Meets (Builtin.«zip.__new__» ⟨[.type "zip",.ref l,.ref m],[]⟩) (λ_ R s=>s.heap.IsList l xs/\s.heap.IsTuple m ys/\R (.ok (.ret (.ref (s.heap.objs.size+4)))) {s with heap:=nY s.heap l m}) := .of_wp λprog w A R s h=>by
 obtain⟨hp,g,d,tk,os⟩:=s;obtain⟨q1,q2,r⟩:=h;have sub:=sub_zip;have Ut:Heap.IsList (Shared.heap ⟨hp,g,d,tk,os⟩) l xs:=q1;have q2':Heap.IsTuple (Shared.heap ⟨hp.push {cls:=.type "list_iterator",data:=.fields #[.ref l,.int 0 0]},g,d,tk,os⟩) m ys:=(let ⟨o',ho,r'⟩:=q2;⟨o',aq _ ho,r'⟩)
 wp_walk using wpAny_pyIter_list Ut,wpAny_pyIter_tuple q2'
 refine⟨_,rfl,?_⟩;simp only[Heap.size_push];exact r
theorem Q9{Q:aC->aW->Prop}(q1:s.heap.IsList l xs)(q2:s.heap.IsTuple m ys)(k:∀h',jG (s.heap.objs.size+4) (s.heap.objs.size+2) (s.heap.objs.size+3) s.heap.objs.size (s.heap.objs.size+1) l m -> oG false true (s.heap.objs.size+4) (s.heap.objs.size+2) (s.heap.objs.size+3) s.heap.objs.size (s.heap.objs.size+1) l m xs ys .none 0 0 h'->(∀c o,s.heap.get? c=some o->h'.get? c=some o)->Q (.ref (s.heap.objs.size+4)) {s with heap:=h'}) : wpAny (model prog w) A (call (.type "zip") [.ref l,.ref m]) Q E s:=by
 have Mt:l<s.heap.objs.size:=by obtain⟨o,q,_⟩:=q1;exact Heap.lt_size q
 have Ad:m<s.heap.objs.size:=by obtain⟨o,q,_⟩:=q2;exact Heap.lt_size q
 have old:∀c o,s.heap.get? c=some o->(nY s.heap l m).get? c=some o:=λc o q=>aq _ (aq _ (aq _ (aq _ (aq _ q))))
 have z1:(s.heap.push (zip2 l)).objs.size=s.heap.objs.size+1:=Heap.size_push _ _;have z2:((s.heap.push (zip2 l)).push (vQ m)).objs.size=s.heap.objs.size+2:=by rw[Heap.size_push,z1]
 have z3:(((s.heap.push (zip2 l)).push (vQ m)).push (pairOf (.ref s.heap.objs.size) (.ref (s.heap.objs.size+1)))).objs.size=s.heap.objs.size+3:=by rw[Heap.size_push,z2]
 have z4:((((s.heap.push (zip2 l)).push (vQ m)).push (pairOf (.ref s.heap.objs.size) (.ref (s.heap.objs.size+1)))).push (pairOf .none .none)).objs.size=s.heap.objs.size+4:=by rw[Heap.size_push,z3]
 have g1:(nY s.heap l m).get? s.heap.objs.size=some (zip2 l):=aq _ (aq _ (aq _ (aq _ (aN _ rfl))));have g2:(nY s.heap l m).get? (s.heap.objs.size+1)=some (vQ m):=by rw[<- z1];exact aq _ (aq _ (aq _ (aN _ rfl)))
 have g3:(nY s.heap l m).get? (s.heap.objs.size+2)=some (pairOf (.ref s.heap.objs.size) (.ref (s.heap.objs.size+1))):=by rw[<- z2];exact aq _ (aq _ (aN _ rfl))
 have g4:(nY s.heap l m).get? (s.heap.objs.size+3)=some (pairOf .none .none):=by rw[<- z3];exact aq _ (aN _ rfl)
 have g5:(nY s.heap l m).get? (s.heap.objs.size+4)=some (Zy (s.heap.objs.size+2) (s.heap.objs.size+3)):=by rw[<- z4];exact aN _ rfl
 refine callType_new PySem.F.called_zip (by decide) (PySem.F.typeCall_zip_2 _ _) (PySem.F.newCall_zip_2 _ _) (λobj=>PySem.F.args_object_init_3 obj _ _) PySem.F.entry_zip_new (VN l m xs ys) ⟨q1,q2,⟨_,g5,rfl⟩,k _ ?_ ?_ old⟩
 ·have n1:∀i j:Nat,i≠j->s.heap.objs.size+i≠s.heap.objs.size+j:=λi j h e=>h (Nat.add_left_cancel e)
  have out:∀c,c<s.heap.objs.size->∀i:Nat,c≠s.heap.objs.size+i:=λc h i=>Nat.ne_of_lt (bJ h (Nat.le_add_right _ _))
  refine⟨?_,?_,?_,?_⟩
  ·simp only[nodup_cons,aR,not_mem_nil,or_false,not_or,not_false_eq_true,nodup_nil,and_true];exact⟨⟨n1 4 3 (by decide),n1 4 0 (by decide),n1 4 1 (by decide)⟩,⟨n1 3 0 (by decide),n1 3 1 (by decide)⟩,n1 0 1 (by decide)⟩
  ·simp only[aR,not_mem_nil,or_false,not_or];exact⟨n1 2 4 (by decide),n1 2 3 (by decide),n1 2 0 (by decide),n1 2 1 (by decide)⟩
  ·simp only[aR,not_mem_nil,or_false,not_or];exact⟨out l Mt 4,out l Mt 3,out l Mt 0,out l Mt 1⟩
  ·simp only[aR,not_mem_nil,or_false,not_or];exact⟨out m Ad 4,out m Ad 3,out m Ad 0,out m Ad 1⟩
 ·obtain⟨o1,y1,r1⟩:=q1;obtain⟨o2,y2,r2⟩:=q2;exact⟨g5,g3,⟨_,_,g4⟩,.lst ⟨_,g1,rfl,rfl⟩ ⟨o1,old _ _ y1,r1⟩,.tup ⟨_,g2,rfl,rfl⟩ ⟨o2,old _ _ y2,r2⟩⟩
end
noncomputable def Itw(K:Fg)(l m:aB):It := ⟨λi H=>∃xs ys x y,cD K H l xs/\dY K H m ys/\xs[i]?=some x/\ys[i]?=some y,λi H v H'=>∃T,H T=none/\v=.ref T/\∀xs ys x y,cD K H l xs->dY K H m ys->xs[i]?=some x->ys[i]?=some y->H'=upd H T (.tup [x,y]),λi H=>∃xs ys,cD K H l xs/\dY K H m ys/\(xs.length<=i\/ys.length<=i)⟩
structure aai(z ti to a b l m:aB)(i:Nat)(h:Heap):Prop where
 cell:IsZip h z ti to .none
 its:IsPair h ti (.ref a) (.ref b)
 kept:∃u v,IsPair h to u v
 one:h.IsListIter a l i
 two:h.IsTupleIter b m i
theorem Ra(D:jG z ti to a b l m):Turn P w K (.Tuple elts k pos) (Itw K l m) [z,ti,to,a,b] z (aai z ti to a b l m) where
 mem:=by simp
 obj:=λi h R c hc=>by
  obtain⟨u,v,kept⟩:=R.kept;obtain⟨o1,q1,_,d1⟩:=R.one;obtain⟨o2,q2,_,d2⟩:=R.two;simp only[aR,not_mem_nil,or_false]at hc;rcases hc with rfl|rfl|rfl|rfl|rfl
  ·exact⟨_,R.cell,λv q=>by cases q⟩
  ·exact⟨_,R.its,λv q=>by cases q⟩
  ·exact⟨_,kept,λv q=>by cases q⟩
  ·exact⟨o1,q1,λv q=>by rw[d1]at q;cases q⟩
  ·exact⟨o2,q2,λv q=>by rw[d2]at q;cases q⟩
 keep:=λi h h' R kp=>by
  obtain⟨u,v,kept⟩:=R.kept;obtain⟨o1,q1,r1⟩:=R.one;obtain⟨o2,q2,r2⟩:=R.two;exact⟨kp z (by simp) _ R.cell,kp ti (by simp) _ R.its,⟨u,v,kp to (by simp) _ kept⟩,⟨o1,kp a (by simp) _ q1,r1⟩,⟨o2,kp b (by simp) _ q2,r2⟩⟩
 item:=by
  intro X hP hw hK hc i pins s σ H E I hf R go;subst hP hw hK;obtain⟨xs,ys,x,y,sx,sy,hx,hy⟩:=go;obtain⟨qp,v1,p1,_⟩:=I.list sx;obtain⟨its2,v2,p2,_⟩:=I.tuple sy;obtain⟨ux,gx,rx⟩:=v1.get hx;obtain⟨uy,gy,ry⟩:=v2.get hy;have Z:oG false true z ti to a b l m qp.toArray its2.toArray .none i i s.heap:=⟨R.cell,R.its,R.kept,.lst R.one p1.isList,.tup R.two p2⟩;have fr:s.heap.get? s.heap.objs.size=none:=Heap.get?_none_of_le (aO _);have there:∀c∈[z,ti,to,a,b],∃o,s.heap.get? c=some o:=λc hc=>by
   obtain⟨u,v,kept⟩:=R.kept;obtain⟨o1,q1,_⟩:=R.one;obtain⟨o2,q2,_⟩:=R.two;simp only[aR,not_mem_nil,or_false]at hc;rcases hc with e|e|e|e|e<;>rw[e]
   ·exact⟨_,R.cell⟩
   ·exact⟨_,R.its⟩
   ·exact⟨_,kept⟩
   ·exact⟨_,q1⟩
   ·exact⟨_,q2⟩
  have h4:∀c∈[z,to,a,b],nM X pins H c:=λc hc=>hf c (by simp at hc⊢;rcases hc with r|r|r|r<;>simp[r])
  refine Gn D Z (x:=ux) (y:=uy) (by simpa using gx) (by simpa using gy) λh1 Z1 pr past=>⟨.ref s.heap.objs.size,rfl,Bt D (s:={s with heap:=h1}) Z1 λh2 Z2 sb=>?_⟩
  have zlt:s.heap.objs.size≠z:=Nat.ne_of_gt (Heap.lt_size R.cell);have pr2:IsPair h2 s.heap.objs.size ux uy:=sb.extBut _ _ zlt pr;refine⟨.ref s.heap.objs.size,upd H s.heap.objs.size (.tup [x,y]),Inv.drawn (h':=h2) (t':=s.toks) (ch:=[z,to,a,b]) (s:=s) I h4 (λc o out q=>sb.extBut c o (four out).1 (past c o out q)) fr ⟨xT,[ux,uy],.cons rx (.cons ry .nil),⟨_,pr2,rfl,_,rfl⟩⟩,rfl,⟨_,I.hok.none_of fr,rfl,λxs' ys' x' y' sx' sy' hx' hy'=>?_⟩,?_,λc hc=>?_⟩
  ·have e1:=I.oU sx' sx;have e2:=I.vM sy' sy;subst e1;subst e2;rw[hx]at hx';rw[hy]at hy';cases hx';cases hy';rfl
  ·refine⟨Z2.cell,Z2.its,Z2.kept,?_,?_⟩
   ·cases Z2.one with
    |lst q _=>exact q
   ·cases Z2.two with
    |tup q _=>exact q
  ·obtain⟨o,q⟩:=there c hc;rw[bf (λe=>by rw[e,fr]at q;cases q)];exact(hf c hc).1
 done:=by
  intro X hP hw hK hc i pins s σ H E I hf R stop;subst hP hw hK;obtain⟨xs,ys,sx,sy,le⟩:=stop;obtain⟨qp,v1,p1,_⟩:=I.list sx;obtain⟨its2,v2,p2,_⟩:=I.tuple sy;have Z:oG false true z ti to a b l m qp.toArray its2.toArray .none i i s.heap:=⟨R.cell,R.its,R.kept,.lst R.one p1.isList,.tup R.two p2⟩;have h4:∀c∈[z,to,a,b],nM X pins H c:=λc hc=>hf c (by simp at hc⊢;rcases hc with r|r|r|r<;>simp[r])
  have l1:=v1.length;have l2:=v2.length;have hend:qp.toArray[i]?=none\/(∃x,qp.toArray[i]?=some x)/\its2.toArray[i]?=none:=by
   by_cases q:qp.length<=i
   ·exact .inl (by simp[q])
   ·exact .inr ⟨⟨qp[i]'(by omega),by simp⟩,by simp;omega⟩
  exact Gp (I.ok.hd hc) D Z hend λh' past=>⟨rfl,I.turns (t':=s.toks) h4 past⟩
 self:=λ_ _ _ _ _ R q=>wpAny_pyIter_zip R.cell q
def agS(K:Fg)(ta:TA):TI:=λσ H R=>ta σ H λvs H1=>∃l m xs ys,vs=[.ref l,.ref m]/\cD K H1 l xs/\dY K H1 m ys/\R (Itw K l m) H1
theorem aaj(hg:Gl X "zip")(hm:X.mg "zip"=none)(ha:PA X [e1,e2] ta)(st1:autoParam (starEach [e1,e2] X.env=[(false,eval e1 X.env),(false,eval e2 X.env)]) zau0)(st2:autoParam (starEach [e2] X.env=[(false,eval e2 X.env)]) zau0) : PI X (.Tuple elts k tp) (.Call (.Name "zip" p) [e1,e2] [] pos) (agS X.K ta):=by
 intro pins s σ H R I h;refine Call_ (kE I hg hm boot_zip (callWith_type1 (f9 (ha pos pins s σ H _ I h) λus a ⟨vs,H1,I1,r,q⟩=>?_) (by rw[st1,st2]) (by rw[st2];rfl)));obtain⟨l,m,xs,ys,e,sx,sy,q⟩:=q;subst e;obtain⟨u1,u2,e,r1,r2⟩:=Vals.two r;subst e;cases r1;cases r2;obtain⟨qp,v1,p1,_⟩:=I1.list sx;obtain⟨its2,v2,p2,_⟩:=I1.tuple sy;refine Q9 p1.isList p2 λh' D Z old=>?_
 have I2:Inv X pins σ H1 {a with heap:=h'}:=I1.kept (t':=a.toks) old;refine wpAny_pyIter_zip (s:={a with heap:=h'}) Z.cell ⟨_,[a.heap.objs.size+4,a.heap.objs.size+2,a.heap.objs.size+3,a.heap.objs.size,a.heap.objs.size+1],_,_,H1,rfl,I2,Ra D,⟨Z.cell,Z.its,Z.kept,?_,?_⟩,λb hb=>?_,q⟩
 ·cases Z.one with
  |lst q _=>exact q
 ·cases Z.two with
  |tup q _=>exact q
 ·have le:a.heap.objs.size<=b:=by
   have hb5:b=a.heap.objs.size+4\/b=a.heap.objs.size+2\/b=a.heap.objs.size+3\/b=a.heap.objs.size\/b=a.heap.objs.size+1:=by simpa using hb
   rcases hb5 with e|e|e|e|e<;>rw[e]<;>first|exact Nat.le_add_right _ _|exact aO _
  have f:=I1.vO (H':=H1) le (I1.hok.fresh le);exact f
end L2
namespace Tw
open PySem L2
section
variable{K:Fg}{α β:Type}{S:Rep β}
theorem o7(R:Rep α)(sS:wN S){xs:List α}(pr:α->Bool)(f:α->β)(ok:α->Prop)(hz:xs.length<=sizeLine)(hD:H D=none)(go:∀i H',i<xs.length->Same H H'->J.go i H')(stop:∀H',Same H H'->J.stop xs.length H')(yl:∀i x v H' H2,xs[i]?=some x->Same H H'->J.Jm i H' v H2->Same H' H2/\R H2 v x)(body:∀(i:Nat) x v H2,xs[i]?=some x->R H2 v x->Same H H2->∀(Qc:VK) (Qn:Hp->Prop),(pr x=true->ok x->∀u H3,Same H2 H3->S H3 u (f x)->Qc u H3)->(pr x=false->∀H3,Same H2 H3->Qn H3) -> g v σ0 H2 λσ2 H'=>nU σ0 σ2/\tc σ2 H' λb H3=>if b=true then te σ2 H3 Qc else Qn H3)(q:∀H',Same H H'->(∀x∈xs,pr x=true->ok x)->jD S H' (.ref D) ((xs.filter pr).map f)->Qe H') : ∃W:Nat->Nat->List V->Hp->Prop,(∃m,W 0 m [] (L2.upd H D (.lst [])))/\qm D J σ0 g tc te Qe W:=by
 refine qT xs.length hz (λi acc H'=>Same H H'/\H' D=some (.lst acc)/\(∀x∈xs.take i,pr x=true->ok x)/\Paired (S H') acc (((xs.take i).filter pr).map f)) ⟨aV hD,aF,λx hx=>by rw[take_zero]at hx;exact absurd hx (by simp),.nil⟩ (λi acc H' le ⟨_,e,_,p⟩=>⟨?_,e⟩) ?_ ?_
 ·rw[Paired.length p,ak];exact bx (length_filter_le _ _) (by rw[length_take];omega)
 ·rintro acc H' ⟨s',e,al,p⟩;rw[cL]at p al;exact⟨stop H' s',q H' s' al ⟨D,acc,rfl,e,p⟩⟩
 ·rintro i acc H' lt ⟨s',e,al,p⟩;have hx:xs[i]?=some xs[i]:=aA lt;refine⟨go i H' lt s',?_⟩;intro y sZ hy Qc Qn k kn;obtain⟨s2,rv⟩:=yl i xs[i] y H' sZ hx s' hy;refine body i xs[i] y sZ hx rv (s'.trans s2) Qc Qn (λep eo u H3 s3 ru=>?_) (λep H3 s3=>?_)
  ·have e3:=s3 _ _ (s2 _ _ e);refine k u H3 e3 ⟨iy ((s'.trans s2).trans s3) hD,aF,λx hx' hp=>?_,?_⟩
   ·rw[take_snoc hx]at hx';rcases bQ.mp hx' with z|z
    ·exact al x z hp
    ·rw[aH.mp z];exact eo
   ·rw[take_snoc hx,cZ,aX];have ef:[xs[i]].filter pr=[xs[i]]:=by simp[ep]
    rw[ef];exact Paired.snoc (Paired.iB p λ_ _ z=>sS.upd (sS.same z (s2.trans s3)) e3) (sS.upd ru e3)
  ·refine kn H3 ⟨(s'.trans s2).trans s3,s3 _ _ (s2 _ _ e),λx hx' hp=>?_,?_⟩
   ·rw[take_snoc hx]at hx';rcases bQ.mp hx' with z|z
    ·exact al x z hp
    ·rw[aH.mp z,ep]at hp;cases hp
   ·rw[take_snoc hx,cZ];have ef:[xs[i]].filter pr=[]:=by simp[ep]
    rw[ef,append_nil];exact Paired.iB p λ_ _ z=>sS.same z (s2.trans s3)
theorem VP(sR:wN R)(hl:jD R H (.ref l) xs):(∀i H',i<xs.length->Same H H'->(Te K l).go i H')/\(∀H',Same H H'->(Te K l).stop xs.length H') /\ ∀i x v H' H2,xs[i]?=some x->Same H H'->(Te K l).Jm i H' v H2->Same H' H2/\R H2 v x:=by
 obtain⟨l',vs,el,hv,pv⟩:=hl;cases el;have ln:=Paired.length pv;refine⟨λi H' lt s'=>?_,λH' s'=>⟨vs,cD.of (s' _ _ hv),by omega⟩,λi x v H' H2 hx s' hy=>?_⟩
 ·obtain⟨v,Qs,_⟩:=kZ pv (aA lt);exact⟨vs,v,cD.of (s' _ _ hv),Qs⟩
 ·obtain⟨e,hy⟩:=hy;subst e;obtain⟨v',Qs,rv⟩:=kZ pv hx;have ey:=hy vs (cD.of (s' _ _ hv));rw[Qs]at ey;cases ey;exact⟨Same.refl _,sR.same rv s'⟩
theorem adP(sR:wN R)(hl:Bv R H (.ref l) xs):(∀i H',i<xs.length->Same H H'->(Itx K true 0 l).go i H')/\(∀H',Same H H'->(Itx K true 0 l).stop xs.length H') /\ ∀i x v H' H2,xs[i]?=some x->Same H H'->(Itx K true 0 l).Jm i H' v H2->Same H' H2/\∃t u,v=.ref t/\H2 t=some (.tup [.int (i:Nat),u])/\R H2 u x:=by
 obtain⟨l',vs,el,hv,pv⟩:=hl;cases el;have ln:=Paired.length pv;refine⟨λi H' lt s'=>?_,λH' s'=>⟨vs,dY.of (s' _ _ hv),by omega⟩,λi x v H' H2 hx s' hy=>?_⟩
 ·obtain⟨v,Qs,_⟩:=kZ pv (aA lt);exact⟨vs,v,dY.of (s' _ _ hv),Qs⟩
 ·obtain⟨T,hT,rfl,hy⟩:=hy;obtain⟨v',Qs,rv⟩:=kZ pv hx;rw[hy vs v' (dY.of (s' _ _ hv)) Qs];have n:=aV (o:=.tup [V.int (0+i:Nat),v']) hT;exact⟨n,T,v',rfl,by rw[aF,Nat.zero_add],sR.same rv (s'.trans n)⟩
end
end Tw
namespace L2
open PySem PySem.Spec PyProof.Rows
def Nt(X:Cx)(σ:St)(E:XK):Prop:=∀pins H s e cls dx,Inv X pins σ H s->Fly X pins H s e cls dx->E cls dx H->X.xe (.ref e) s
def PES(X:Cx)(σ:St)(e:Expr)(t:TE):Prop:=∀pins s H Q,Inv X pins σ H s->t σ H Q->wpAny (model X.prog X.w) X.A (eval e X.env) (EP X pins σ Q) X.xe s
def PSS(X:Cx)(σ:St)(st:dI)(t:TS):Prop:=∀pins s H D,Inv X pins σ H s->t D σ H->wpAny (model X.prog X.w) X.A (exec st X.env) (SP X pins D) X.xe s
def agT(X:Cx)(σ:St)(b:List dI)(t:TS):Prop:=∀pins s H D,Inv X pins σ H s->t D σ H->wpAny (model X.prog X.w) X.A (execs b X.env) (SP X pins D) X.xe s
variable{X:Cx}{x:Str}{pos:Pos}
section
variable{σ:St}{E:XK}{k:Nat}{f:aB}{fd:fH}{ps:List Str}{sp:Sp}{qb:List V}{ds:List aC}{p:Pos}{e:Expr}{es:List Expr}{t:TA}
theorem aak(acc:Nt X σ E)(I:Inv X pins σ H s)(h:fY X.prog X.w X.stack H s E ev s'):X.xe ev s':=by
 obtain⟨e,cls,dx,H',t,rfl,os,bare,un,hok,x,ne,nt,fe,ft,q⟩:=h;have I':Inv X pins σ H' s':=I.call' (ch:=[]) os un hok bare (λb z=>nomatch z);refine acc pins H' s' e cls dx I' ⟨some t,x,⟨ne,(I.jX fe).2⟩,λy z=>?_⟩ q;cases z;exact⟨nt,(I.jX ft).2⟩
theorem VR(F:cM X.prog X.w X.K X.mg X.base (fY X.prog X.w) k f fd ps sp)(hr:eZ k X.A)(hm:X.mg x=some (.ref f))(hk:keepIn X.K (.ref f)=true)(hb:Binds X.K fd ps ds)(hd:Vals qb ds)(acc:Nt X σ E)(ha:PA X (e::es) t)(hg:autoParam (Gl X x) zau0)(hdb:autoParam ((x == ("__debug__":Str))=false) zau1)(he:autoParam (starEach (e::es) X.env=(false,eval e X.env)::starEach es X.env) zau0)(hpl:autoParam ((backTo pos (starEach es X.env)).any (·.1)=false) zau0) : PES X σ (.Call (.Name x p) (e::es) [] pos) (FP sp qb E t):=by
 intro pins s H Q I h;refine wpAny_Call_Name_kw (lK I hg hm ?_ hdb);refine callWith_K (h₀:=X.base) I.ok.mod.Fq hk (f9 (ha pos pins s σ H _ I h) λus s1 ⟨vs,H1,I1,r,q⟩=>⟨I1.oR,?_⟩) he hpl;have r2:Vals (vs++qb) (us++ds):=r.append hd;have hl:(us++ds).length=ps.length:=by rw[<- r2.length];exact F.len _ _ _ _ q
 refine wpAny_call (cY (F.run X.A X.stack s1 H1 ⟨us,[]⟩ (us++ds) (vs++qb) Q E hr I1.env0 (hb s1 us I1.oR hl) r2 q) λr s' hq=>?_);rcases r with ev|fl
 ·exact aak acc I1 hq
 ·cases fl with
  |ret u=>exact I1.after hq
  |next=>exact False.elim hq
  |brk=>exact False.elim hq
  |cont=>exact False.elim hq
theorem aal(hN:X.N.Nodup)(hi:X.N[i]?=some x)(hx:Loc X.env.scope x)(he:PES X σ e te)(hs:autoParam (swapsWith e (some (.Name x pos')) pos.line X.env=pure false) zau0)(hf:autoParam (X.fn x=true\/X.env.scope.names.lookup x=some .local) zau2) : PSS X σ (.Assign [.Name x pos'] e pos) (Zd te (yw i)):=by
 intro pins s H D I h;refine wpAny_Assign_Name (f9 (he pins s H _ I h) λv s1 ⟨y,H1,I1,r1,q1⟩=>?_) hs;exact pW I1 hN hi hx r1 (λs2 I2=>⟨_,H1,I2,q1⟩) hf
theorem V0{st:dI}{t:TS}(h1:PSS X σ st t):agT X σ [st] t:=by
 intro pins s H D I h;refine wpAny_execs_cons (f9 (h1 pins s H D I h) λf s1 q=>?_);cases f with
 |next=>exact wpAny_execs_nil q
 |ret v=>exact q
 |brk=>exact q
 |cont=>exact q
end
noncomputable def agU(N i:Nat)(hit:aC->Prop)(tb:XK->TS)(ts:TS):TS:=λD σ H=>∃E0:XK,(∀cls dx H',E0 cls dx H'->hit cls/\∀e,H' e=none->ts {nx:=λ_ H2=>D.nx (blank N) H2,rt:=D.rt} (σ.set i (some (.ref e))) (upd H' e (Df e cls dx)))/\tb E0 D σ H
section
variable{n:Str}{c:aC}{i:Nat}{np hpos:Pos}{body suite:List dI}{b₀:dI}{tb:XK->TS}{ts:TS}{L:aB}{hit:aC->Prop}
theorem aam(hex:X.ex=[])(F:uh X L)(hN:X.N.Nodup)(hi:X.N[i]?=some n)(hln:X.env.scope.names.lookup n=some .local)(hg:Gl X x)(hm:X.mg x=some c)(ak5:∀cls,hit cls->exmOne X.K cls c=some true)(hb:∀(E':aC->aW->Prop) (rH:List (aB×Obj)) (Eb:XK) (σ:St),Nt (X.Ag E' rH) σ Eb->agT (X.Ag E' rH) σ body (tb Eb))(hs:∀e,Ac (X.hand e) (b₀::suite) ts)(hdb:autoParam ((x == ("__debug__":Str))=false) zau1) : PS X (.Try body [.ExceptHandler (some (.Name x np)) (some n) (b₀::suite) hpos] [] [] pos) (agU X.N.length i hit tb ts):=by
 intro pins s σ H D I h;have hcls:(X.env.scope.kind == .class||(X.env.scope.kind == .module&&X.env.locals != X.env.globals))=false:=by rw[I.ok.kind];rfl
 refine wpAny_Try_except ?_;obtain⟨Eb,met,h⟩:=h
 let E':aC->aW->Prop:=λev s₁=>wpAny (model X.prog X.w) X.A (noteFrame ev X.env) (λ_ s₂=>wpAny (model X.prog X.w) X.A (setFlight ev none) (λ_ s₃ =>
   wpAny (model X.prog X.w) X.A (handleBy ev X.env [.ExceptHandler (some (.Name x np)) (some n) (b₀::suite) hpos]) (SP X pins D) X.xe s₃) X.xe s₂) X.xe s₁
 suffices acc:Nt (X.Ag E' (X.pn++pins)) σ Eb by
  refine cW (hb E' (X.pn++pins) Eb σ acc [] s H D (I.Ag E') h) (λf s1 h1=>?_) λev s1 h1=>h1
  have un:∀{σ':St}{H':Hp},Inv (X.Ag E' (X.pn++pins)) [] σ' H' s1->Inv X pins σ' H' s1:=λJ=>J.Dg I.ok
  cases f with
  |next=>obtain⟨σ',H',J,q⟩:=h1;exact wpAny_execs_nil ⟨σ',H',un J,q⟩
  |brk=>obtain⟨σ',H',J,q⟩:=h1;exact⟨σ',H',un J,q⟩
  |cont=>obtain⟨σ',H',J,q⟩:=h1;exact⟨σ',H',un J,q⟩
  |ret u=>obtain⟨v,σ',H',J,r,q⟩:=h1;exact⟨v,σ',H',un J,r,q⟩
 ·intro pP H' s' e cls dx I' fl q;obtain⟨hh,q⟩:=met cls dx H' q;refine JB (X:=X.Ag E' (X.pn++pins)) I' I'.ok.frames F fl λs1 I1 f1=>?_
  refine um I1 f1 λs2 I2 f2=>?_
  obtain⟨t2,x2,le2,Ad⟩:=f2;have J2:Inv X pins σ H' s2:=I2.Dg I.ok;have J2h:=J2.hand e;refine wpAny_handleBy_cons (codeAny_handlers_test ?_) (by intro z;cases z);refine lK (X:=X.hand e) J2h hg hm ?_ hdb;obtain⟨oe,vs,he,hc,hd,hv,_⟩:=id x2;have ty:Looks (model X.prog X.w) s2.heap (typeOf (.ref e)) cls:=hc ▸ (Looks.ld he).andThen .now;refine(PySem.W.exm_one J2.oR ty (ak5 cls hh)).here ?_;refine codeAny_handlers_suite_as (um I2 ⟨t2,x2,le2,Ad⟩ λs3 I3 f3=>?_);obtain⟨t3,x3,le3,lt3⟩:=f3;obtain⟨oe3,vs3,he3,hc3,hd3,hv3,_⟩:=id x3;have J3:Inv X pins σ H' s3:=I3.Dg I.ok;have lX:Loose X pins H' e:=⟨le3.1,le3.2.1,le3.2.2.1,le3.2.2.2.1,le3.2.2.2.2.1,λp hp=>le3.2.2.2.2.2 p (mem_append_left _ hp)⟩;have J4:Inv X pins σ (upd H' e (Df e cls dx)) s3:=J3.adopt lX (by rw[hex];exact λz=>nomatch z) (by
   refine⟨⟨oe3,vs3,he3,hc3,hd3,hv3⟩,⟨oe3,he3⟩,λh1 h2 p k=>?_⟩;obtain⟨o,v,a,b⟩:=p;exact⟨o,v,k o a,b⟩)
  refine pW (X:=X.hand e) (J4.hand e) hN hi (.inl hln) (show RelV (.ref e) (.ref e) from rfl) (λs4 I4=>?_) (.inr hln);refine cW (hs e pins s4 _ _ _ I4 (q e le3.1)) (λf s5 h5=>?_) λ_ _ z=>z.elim
  have gone:∀{σ5:St}{H5:Hp}(Q:aW->Prop),Inv (X.hand e) pins σ5 H5 s5->(∀s6,Inv X pins (blank X.N.length) H5 s6->Q s6) ->
    wpAny (model X.prog X.w) X.A (do bindName X.env n .none;unbindBehindTheSuite X.env n hpos) (λ_ s6=>Q s6) X.xe s5:=fun{σ5 H5} Q I5 k=>by
   obtain⟨m,hn,_⟩:=I5.loc;exact wpAny_nameGoes hln hn hcls λh' m' hn' sb=>k _ (Inv.Uk (I5.adi I.ok) hn' sb)
  cases f with
  |next =>
   obtain⟨σ5,H5,I5,q5⟩:=h5;exact gone (λs6=>SP X pins D .next s6) I5 λs6 I6=>⟨_,H5,I6,q5⟩
  |ret u =>
   obtain⟨v,σ5,H5,I5,r5,q5⟩:=h5;exact gone (λs6=>SP X pins D (.ret u) s6) I5 λs6 I6=>⟨v,_,H5,I6,r5,q5⟩
  |brk=>obtain⟨_,_,_,z⟩:=h5;exact z.elim
  |cont=>obtain⟨_,_,_,z⟩:=h5;exact z.elim
theorem aan(K:Fg)(hu:X.A.units+64<cLine)(hK:autoParam (X.K=K) zau0):oW X (compareOp .Eq) (adw K false):=by
 subst hK;exact JF hu
theorem rM(K:Fg)(hK:autoParam (X.K=K) zau0):jw X (.type "list") (λxs H Q=>∃p ys,xs=[.ref p]/\(cD K H p ys\/dY K H p ys)/\∀l,H l=none->Q (.ref l) (upd H l (.lst ys))):=by
 subst hK;exact Dc
end
end L2
namespace L2
open PySem
section
variable{prog:cC}{w:World}{A:eE}{E:aC->aW->Prop}{s:aW}
theorem J0{d:aB}(hd:(d == sysModules)=false):MeetsIn prog w (Builtin.«dict.__len__» ⟨[.ref d],[]⟩) (λ_ R s=>∃xs,s.heap.DictOfH (gQ prog w) d xs/\R (.ok (.ret (.int xs.length s.toks))) {s with toks:=s.toks+1}):=by
 refine .of_wp λA R s hx=>?_
 obtain⟨xs,⟨o,es,ep,ho,_,hdat,he,_⟩,q⟩:=hx;have ez:es.size=xs.length:=by
  have:=congrArg List.length he;rw[ak,Array.length_toList]at this;exact this
 show wpAny _ _ (dictSize d >>= (_:Nat->_)) _ _ s
 unfold dictSize;refine aj (aj (wpAny_dictEntries ho hdat (au (?_:_))));refine aj (m:=Builtin.Dict.pendingCount d) (wpAny_pendingCount_other hd (wpAny_ret_mkInt ?_));rw[ez,Nat.add_zero];exact q
theorem V1{d:aB}{xs:List (NK×aB×aC)}{Q:aC->aW->Prop}(hd:(d == sysModules)=false)(hm:s.heap.DictOfH (gQ prog w) d xs)(fit:xs.length<=sizeLine)(q:Q (.int xs.length (s.toks+1)) {s with toks:=s.toks+1+1}):wpAny (model prog w) A (call (.builtin "len") [.ref d]) Q E s:=by
 refine Calls.call_function_entry kind_len plain_len entry_len (args_len1 _) (?_);have f:(xs.length:Int)<2^63:=by
  have:sizeLine<2^62:=by decide
  omega
 unfold Builtin.«len»;have ty:=hm.typeIs;refine aj (m:=oneArg "len" _) (au (aj (m:=callSpecial? _ _) (wpAny_callSpecial?_slot (name:="__len__") ty F.slot_dict_len (call_meetsIn F.slot_dict_len ty F.entry_dict_len (F.args_dict_len_1 _) (J0 hd) ⟨xs,hm,?_⟩))))
 show wpAny _ _ _ _ _ {s with toks:=(s.toks)+1}
 refine aj (wpAny_holding (au (aj (wpAny_letGo (?_)))));have n0:¬((xs.length:Nat):Int)<0:=by omega
 have n1:¬((xs.length:Nat):Int)>=2^63:=by omega
 show wpAny _ _ (if((xs.length:Nat):Int)<0 then _ else _) _ _ _
 rw[if_neg n0]
 show wpAny _ _ (if((xs.length:Nat):Int)>=2^63 then _ else _) _ _ _
 rw[if_neg n1];exact aj (wpAny_mkInt (au ⟨_,rfl,q⟩))
end
section
variable{X:Cx}
theorem BW(P:cC)(w:World)(hP:autoParam (X.prog=P) zau0)(hw:autoParam (X.w=w) zau0):jw X (.builtin "len") (λys H Q=>∃(D:aB)(ks:List m6),ys=[.ref D]/\H D=some (fW P w D ks)/\(∀r∈ks,eU H r.1 r.2.1)/\ks.length<=sizeLine/\Q (.int ks.length) H):=by
 subst hP hw;intro pins s σ H ys us Q I r h;obtain⟨D,ks,rfl,hD,hk,sm,q⟩:=h;obtain⟨u,rfl,rx⟩:=Vals.one r;cases rx;obtain⟨hs,rows,pr,dd⟩:=Nb I hD hk;have e:=Paired.length pr;exact V1 hs dd (by omega) ⟨.int ks.length,H,I.tok _,⟨_,by rw[e]⟩,q⟩
end
end L2
namespace Tw
open PySem L2
abbrev Dz:dI:=top 2
abbrev xY:dI:=top 15
structure Tj(mg:Str->Option aC):Prop where
 isinstance:mg "isinstance"=none
 bool:mg "bool"=none
 int:mg "int"=none
 str:mg "str"=none
 list:mg "list"=none
 tuple:mg "tuple"=none
 len:mg "len"=none
 all:mg "all"=none
 set:mg "set"=none
 zip:mg "zip"=none
 reversed:mg "reversed"=none
 range:mg "range"=none
variable{P:cC}{w:World}{K:Fg}{mg:Str->Option aC}{base:Heap}
def dU(v:V)(l m:Int):Bool:=match v with
 | .int i=>decide (l<=i)&&decide (i<=m)
 |_=>false
inductive DG(K:Fg)(vs:List V)(H:Hp)(Q:VK)(jU:XK):Prop
 |mk:∀v l m k,vs=[v,.int l,.int m]->g8 K H v k->Q (.bl (dU v l m)) H->DG K vs H Q jU
theorem aao:bY ["value","least","most"] ["value","least","most"] (aZ Dz):=d9 (by decide +kernel)
theorem V2(F:mH K "is_whole" "is_whole" Dz f fd)(B:Tj mg):cM P w K mg base (fY P w) 1 f fd ["value","least","most"] (DG K):=by
 refine F.lY aao (λvs H Q E h=>?_) (λcdv A outer s H vs Q E hr h=>?_)
 ·obtain⟨v,l,m,k,rfl,_⟩:=h;rfl
 ·obtain⟨v,l,m,k,rfl,hk,q⟩:=h;refine⟨_,aL (dZ (pw_or (eX (oK .bool B.isinstance B.bool (pv 0))) (pw_or1 (gh (eX (oK .int B.isinstance B.int (pv 0)))))).pt (aU (bU jW)) bZ) (aU (bU (Fy Az Az (pv 1) (pv 0) (pv 2)))),?_⟩;refine⟨_,rfl,v,k,rfl,hk,_,rfl,?_⟩;have no:(∀i,v≠.int i)->dU v l m=false:=λh=>by
   cases v with
   |int i=>exact absurd rfl (h i)
   |_=>rfl
  cases k with
  |bl=>obtain⟨b,rfl⟩:=hk;exact dB (dB q)
  |int =>
   obtain⟨z,rfl⟩:=hk;refine cU ⟨_,rfl,_,.int,rfl,⟨z,rfl⟩,_,rfl,?_⟩;refine cU ⟨_,rfl,_,rfl,_,_,rfl,rfl,_,rfl,?_⟩;have e:dU (.int z) l m=(decide (l<=z)&&decide (z<=m)):=rfl;rw[e]at q
   by_cases h1:l<=z
   ·rw[aK h1]at q⊢;exact dB ⟨_,rfl,_,_,rfl,rfl,q⟩
   ·rw[aD h1]at q⊢;exact cU q
  |non=>cases hk;exact cU ⟨_,rfl,_,.non,rfl,rfl,_,rfl,dB q⟩
  |str=>obtain⟨x,rfl⟩:=hk;exact cU ⟨_,rfl,_,.str,rfl,⟨x,rfl⟩,_,rfl,dB q⟩
  |lst=>obtain⟨a,xs,rfl,e⟩:=hk;exact cU ⟨_,rfl,_,.lst,rfl,⟨a,xs,rfl,e⟩,_,rfl,dB q⟩
  |tup=>obtain⟨a,xs,rfl,e⟩:=hk;exact cU ⟨_,rfl,_,.tup,rfl,⟨a,xs,rfl,e⟩,_,rfl,dB q⟩
  |ins C=>obtain⟨a,dx,fs,rfl,e⟩:=hk;exact cU ⟨_,rfl,_,.ins C,rfl,⟨a,dx,fs,rfl,e⟩,_,rfl,dB q⟩
def letter(c:Nat):Bool:=!decide ([c]<[97])&&!decide ([122]<[c])
def nameV(v:V):Bool:=match v with
 | .str x=>decide (1<=x.length)&&decide (x.length<=12)&&x.cps.toList.all letter
 |_=>false
theorem Rb(a:Array Nat):((List.range a.size).map λi=>letter (a.getD i 0)).all id=a.toList.all letter:=by
 have e:a.toList=(List.range a.size).map λi=>a.getD i 0:=by
  apply ext_getElem?;intro i
  by_cases h:i<a.size
  ·simp[h]
  ·simp[h]
 rw[e,all_map,all_map];rfl
inductive J1(K:Fg)(vs:List V)(H:Hp)(Q:VK)(jU:XK):Prop
 |mk:∀v k,vs=[v]->g8 K H v k->((∀x,v=.str x->x.length<=sizeLine))->(∀H',Same H H'->Q (.bl (nameV v)) H')->J1 K vs H Q jU
theorem adR:bY ["value"] ["value"] (aZ xY):=d9 (by decide +kernel)
theorem aap(F:mH K "is_name" "is_name" xY f fd)(B:Tj mg)(hl:mg "LONGEST_NAME"=some (.int 12 t)):cM P w K mg base (fY P w) 1 f fd ["value"] (J1 K):=by
 refine F.lY adR (λvs H Q E h=>?_) (λcdv A outer s H vs Q E hr h=>?_)
 ·obtain⟨v,k,rfl,_⟩:=h;rfl
 ·obtain⟨v,k,rfl,hk,hz,q⟩:=h;refine⟨_,aL (dZ (pw_or (gh (eX (oK .str B.isinstance B.str (pv 0)))) (pw_or1 (gh (Fz Az Az aP (eO ug B.len PySem.boot_len (ao (pv 0) aG)) (oH (.int 12) hl ⟨t,rfl⟩))))).pt (aU (bU jW)) bZ) (aU (bU (eO (vR rfl) B.all boot_all (ao (gG bN rfl ⟨_,_,rfl,rfl,rfl⟩ (gY.plain (N':=["sign"]) rfl (by decide +kernel) (by decide +kernel)) (adv (pv 0)) (λ_ _ _ _ _=>cR 0 (show [("sign":Str)].Nodup by decide +kernel)) (λ_ _ _ _ _=>gM) (λ_ _ _ _ _ _=>Fy Bu Bu eY (pv 0) eY)) aG)))),?_⟩;refine⟨_,rfl,v,k,rfl,hk,_,rfl,?_⟩;cases k with
  |str =>
   obtain⟨x,rfl⟩:=hk;refine cU ⟨_,rfl,x,rfl,hz x rfl,_,_,rfl,rfl,_,rfl,?_⟩;have en:nameV (.str x)=(decide (1<=x.length)&&decide (x.length<=12)&&x.cps.toList.all letter):=rfl
   by_cases h1:1<=x.length
   ·have h1':(1:Int)<=(x.length:Int):=by omega
    rw[aK h1'];refine dB ⟨_,_,rfl,rfl,_,rfl,?_⟩
    by_cases h2:x.length<=12
    ·have h2':(x.length:Int)<=12:=by omega
     rw[aK h2'];refine cU ⟨_,rfl,x,rfl,λD hD=>?_⟩;rw[aK h1,aK h2]at en;have hD1:Same H (upd H D (.lst ((List.range x.cps.size).map λi=>V.bl (letter (x.cps.getD i 0))))):=aV hD;refine xV x.cps.size (hz x rfl) (λi=>.bl (letter (x.cps.getD i 0))) (λi H'=>H'=upd H D (.lst ((List.range i).map λi=>V.bl (letter (x.cps.getD i 0))))) rfl (λi H' _ e=>by rw[e,aF]) (λH' e=>⟨rfl,?_⟩) (λi H' lt e=>⟨lt,?_⟩)
     ·subst e;refine⟨D,(List.range x.cps.size).map λi=>letter (x.cps.getD i 0),rfl,cD.of (by rw[aF,gj];rfl),?_⟩;rw[Rb];have q':=q _ hD1;rw[en]at q';exact q'
     ·rintro v sZ ⟨rfl,c,hc,rfl⟩ Qc k;subst e;refine⟨gD,_,rfl,_,_,rfl,rfl,_,rfl,?_⟩;have k':=k _ aF (by rw[lH]);have ec:x.cps.getD i 0=c:=by simp[hc]
      have el:letter c=(!decide ([c]<[97])&&!decide ([122]<[c])):=rfl;rw[ec,el]at k'
      change if(!decide ([c]<[97]))=true then _ else _
      cases h3:!decide ([c]<[97]) with
      |false =>
       rw[h3]at k';exact cU k'
      |true =>
       rw[h3]at k';exact dB ⟨_,_,rfl,rfl,k'⟩
    ·have h2':¬(x.length:Int)<=12:=by omega
     rw[aD h2'];have q':=q H (Same.refl _);rw[en,aK h1,aD h2]at q';exact dB q'
   ·have h1':¬(1:Int)<=(x.length:Int):=by omega
    rw[aD h1'];have q':=q H (Same.refl _);rw[en,aD h1]at q';exact cU ⟨_,rfl,dB q'⟩
  |non=>cases hk;exact dB (dB (q H (Same.refl _)))
  |bl=>obtain⟨x,rfl⟩:=hk;exact dB (dB (q H (Same.refl _)))
  |int=>obtain⟨x,rfl⟩:=hk;exact dB (dB (q H (Same.refl _)))
  |lst=>obtain⟨a,xs,rfl,e⟩:=hk;exact dB (dB (q H (Same.refl _)))
  |tup=>obtain⟨a,xs,rfl,e⟩:=hk;exact dB (dB (q H (Same.refl _)))
  |ins C=>obtain⟨a,dx,fs,rfl,e⟩:=hk;exact dB (dB (q H (Same.refl _)))
abbrev qC:dI:=inClass (top 16) 0
abbrev DK:dI:=inClass (top 16) 3
abbrev zj:dI:=inClass (top 17) 0
abbrev DN:dI:=inClass (top 17) 3
abbrev J5:List aC:=[.type "ValueError",.type "Exception",.type "BaseException",.type "object"]
structure Fn(K:Fg)(x qual:Str)(st:dI)(ps:List Str)(f:aB)(fd:fH):Prop where
 F:mH K x qual st f fd
 b:Binds K fd ps []
structure gB where
 (pot cV garden fj tooMany dX gA uQ pK dz:aB)
 (J6 fName V3 fPG fCI fCG V4 V5 V6 YZ V7 apA apB agY apC V8 J7 V9 Wa agZ:aB)
 (Wb dName dPI dPG dCI dCG aaq aar aas dGI ab3 apE apF ag1 apG ab4 Wc aat aau ag2:fH)
structure Exn(K:Fg)(mg:Str->Option aC)(x:Str)(C:aB):Prop where
 m:mg x=some (.ref C)
 q:excIn K C J5 "ValueError.__new__"=true
structure o8(K:Fg)(mg:Str->Option aC)(a:gB):Prop where
 B:Tj mg
 longest:∃t,mg "LONGEST_NAME"=some (.int 12 t)
 aav:∃t,mg "MOST_GAP"=some (.int 60 t)
 fj:Exn K mg "BadPot" a.fj
 wh:Fn K "is_whole" "is_whole" Dz ["value","least","most"] a.J6 a.Wb
 mwh:mg "is_whole"=some (.ref a.J6)
 nm:Fn K "is_name" "is_name" xY ["value"] a.fName a.dName
 mnm:mg "is_name"=some (.ref a.fName)
 aaw:mg "Pot"=some (.ref a.pot)
 ag4:mg "Cactus"=some (.ref a.cV)
 tP:Aj K a.pot
 tC:Aj K a.cV
 nP:∀f∈(["name","gap","rest"]:List Str),jT K a.pot f
 nC:∀f∈(["name","gap","rest"]:List Str),jT K a.cV f
 PI:Fn K "__init__" "Pot.__init__" qC ["self","name","gap"] a.V3 a.dPI
 PG:Fn K "with_gap" "Pot.with_gap" DK ["self","gap"] a.fPG a.dPG
 CI:Fn K "__init__" "Cactus.__init__" zj ["self","name","gap","rest"] a.fCI a.dCI
 CG:Fn K "with_gap" "Cactus.with_gap" DN ["self","gap"] a.fCG a.dCG
 kP:Mk K a.pot a.V3
 kC:Mk K a.cV a.fCI
 gP:Meth K a.pot "with_gap" a.fPG
 gC:Meth K a.cV "with_gap" a.fCG
 cI:agC K a.pot "__init__" a.V3
 ne:a.pot≠a.cV
variable{a:gB}
theorem ag5:¬(("name":Str)="gap"):=by decide +kernel
theorem ag6:¬(("name":Str)="rest"):=by decide +kernel
theorem ag7:¬(("gap":Str)="rest"):=by decide +kernel
theorem aax(u v:V):iK "gap" v [(("name":Str),u)]=([("name",u),("gap",v)]:List (Str×V)):=by
 show(if("name":Str)="gap" then _ else _)=_
 rw[if_neg ag5];rfl
theorem Wd(u v x:V):iK "rest" x ([("name",u),("gap",v)]:List (Str×V))=([("name",u),("gap",v),("rest",x)]:List (Str×V)):=by
 show(if("name":Str)="rest" then _ else(("name":Str),u)::(if("gap":Str)="rest" then _ else(("gap":Str),v)::iK "rest" x []))=_
 rw[if_neg ag6,if_neg ag7];rfl
def But(p:aB)(H H':Hp):Prop:=∀b o,b≠p->H b=some o->H' b=some o
def kj(n g:V):Bool:=nameV n&&dU g 1 60
def zm(v:V):Prop:=∀x,v=.str x->x.length<=sizeLine
inductive vZ(K:Fg)(a:gB)(vs:List V)(H:Hp)(Q:VK)(E:XK):Prop
 |mk:∀p dx C n g kn kg,vs=[.ref p,n,g]->H p=some (.ins C dx [])->((C=a.pot\/C=a.cV))->g8 K H n kn->zm n->g8 K H g kg->((kj n g=false->∀H',Same H H'->E (.ref a.fj) none H'))->((kj n g=true->∀H',But p H H'->H' p=some (.ins C dx [("name",n),("gap",g)])->Q .non H'))->vZ K a vs H Q E
theorem ak6:bY ["self","name","gap"] ["self","name","gap"] (aZ qC):=d9 (by decide +kernel)
theorem o8.cls(T:o8 K mg a)(h:C=a.pot\/C=a.cV):Aj K C/\∀f∈(["name","gap","rest"]:List Str),jT K C f:=by
 rcases h with rfl|rfl
 ·exact⟨T.tP,T.nP⟩
 ·exact⟨T.tC,T.nC⟩
theorem o8.okW(T:o8 K mg a):cM P w K mg base (fY P w) 1 a.J6 a.Wb ["value","least","most"] (DG K):=V2 T.wh.F T.B
theorem o8.okN(T:o8 K mg a):cM P w K mg base (fY P w) 1 a.fName a.dName ["value"] (J1 K):=by
 obtain⟨t,e⟩:=T.longest;exact aap T.nm.F T.B e
theorem tK(T:o8 K mg a):cM P w K mg base (fY P w) 2 a.V3 a.dPI ["self","name","gap"] (vZ K a):=by
 refine T.PI.F.lY ak6 (λvs H Q E h=>?_) (λcdv A outer s H vs Q E hr h=>?_)
 ·obtain⟨p,dx,C,n,g,kn,kg,rfl,_⟩:=h;rfl
 ·obtain⟨p,dx,C,n,g,kn,kg,rfl,hp,hC,hn,sn,hg,bad,good⟩:=h;obtain⟨t,mG⟩:=T.aav;obtain⟨tC,nA⟩:=T.cls hC;refine⟨_,aL (dZ (gh (eX (c7 T.okN hr T.mnm T.nm.F.kp T.nm.b bB (ao (pv 1) aG)))) (aU (iI bN rfl (by rfl) T.fj.m T.fj.q PySem.F.excBase_ValueError (ao eY aG))) bZ) (aL (dZ (gh (eX (c7 T.okW hr T.mwh T.wh.F.kp T.wh.b bB (ao (pv 2) (ao aP (ao (oH (.int 60) mG ⟨t,rfl⟩) aG)))))) (aU (iI bN rfl (by rfl) T.fj.m T.fj.q PySem.F.excBase_ValueError (ao eY aG))) bZ) (aL (pC (pv 0) (pv 1) rfl) (aU (pC (pv 0) (pv 2) rfl)))),?_⟩;refine⟨_,rfl,n,kn,rfl,hn,sn,λH1 s1=>⟨_,rfl,?_⟩⟩;cases en:nameV n with
  |false=>exact dB ⟨by show 1<=sizeLine;decide,bad (by simp[kj,en]) H1 s1⟩
  |true =>
   refine cU ⟨_,rfl,g,1,60,kg,rfl,hg.same s1,_,rfl,?_⟩;cases eg:dU g 1 60 with
   |false=>exact dB ⟨by show 1<=sizeLine;decide,bad (by simp[kj,en,eg]) H1 s1⟩
   |true =>
    refine cU ⟨_,rfl,_,rfl,p,C,dx,_,rfl,s1 _ _ hp,tC.cl,nA _ (by simp),by show 0<1000;decide,?_⟩;refine⟨_,rfl,_,rfl,p,C,dx,_,rfl,aF,tC.cl,nA _ (by simp),by show 1<1000;decide,?_⟩;refine good (by simp[kj,en,eg]) _ (λb o hb e=>?_) ?_
    ·rw[bf hb,bf hb];exact s1 _ _ e
    ·rw[aF];exact congrArg (λl=>some (HO.ins C dx l)) (aax n g)
structure cA where
 nm:Str
 gap:Int
 rest:Option Int
def cA.fs(p:cA):List (Str×V):=match p.rest with
 |none=>[("name",.str p.nm),("gap",.int p.gap)]
 |some r=>[("name",.str p.nm),("gap",.int p.gap),("rest",.int r)]
def cA.cls(a:gB)(p:cA):aB:=match p.rest with
 |none=>a.pot
 |some _=>a.cV
def mQ(a:gB)(H:Hp)(x:aB)(p:cA):Prop:=∃dx,H x=some (.ins (p.cls a) dx p.fs)
structure cA.Ok(p:cA):Prop where
 nm:nameV (.str p.nm)=true
 gap:1<=p.gap/\p.gap<=60
 rest:∀r,p.rest=some r->0<=r/\r<p.gap
theorem mQ.same(h:mQ a H x p)(s:Same H H'):mQ a H' x p:=h.imp λ_ e=>s _ _ e
theorem cA.jE(p:cA):p.cls a=a.pot\/p.cls a=a.cV:=by
 unfold cA.cls;cases p.rest
 ·exact .inl rfl
 ·exact .inr rfl
theorem cA.wg(p:cA):p.fs.lookup ("name":Str)=some (.str p.nm):=by
 unfold cA.fs;cases p.rest<;>rfl
theorem jH{l:List (Str×V)}(h:(k == k')=false):((k',v)::l).lookup k=l.lookup k:=by simp only[List.lookup,h]
theorem wR{l:List (Str×V)}:((k,v)::l).lookup k=some v:=by simp only[List.lookup,beq_self_eq_true]
theorem gn:(("gap":Str) == "name")=false:=by decide +kernel
theorem rn:(("rest":Str) == "name")=false:=by decide +kernel
theorem rg:(("rest":Str) == "gap")=false:=by decide +kernel
theorem Wf(u v:V)(l:List (Str×V)):((("name",u)::("gap",v)::l:List (Str×V))).lookup ("gap":Str)=some v:=by rw[jH gn,wR]
theorem cA.wU(p:cA):p.fs.lookup ("gap":Str)=some (.int p.gap):=by
 unfold cA.fs;cases p.rest with
 |none=>exact Wf _ _ []
 |some r=>exact Wf _ _ [("rest",.int r)]
theorem Nu(u v x:V):([("name",u),("gap",v),("rest",x)]:List (Str×V)).lookup ("rest":Str)=some x:=by rw[jH rn,jH rg,wR]
theorem cA.adS(p:cA){m:Str}(h1:(m == "name")=false)(h2:(m == "gap")=false)(h3:(m == "rest")=false):p.fs.lookup m=none:=by
 unfold cA.fs;cases p.rest with
 |none=>exact(jH h1).trans (jH h2)
 |some r=>exact(jH h1).trans ((jH h2).trans (jH h3))
theorem pL(h:nameV (.str x)=true):zm (.str x):=by
 intro y e;cases e;have e:nameV (.str x)=(decide (1<=x.length)&&decide (x.length<=12)&&x.cps.toList.all letter):=rfl;rw[e]at h;simp only[Bool.and_eq_true,decide_eq_true_eq]at h;exact bx h.1.2 (by decide)
theorem But.made(nx:H x=none)(ndx:H dx=none)(h:But x (upd (upd H dx (.own x)) x (.ins C dx [])) H'):Same H H':=λb o e=>by
 have n1:=dN e nx;have n2:=dN e ndx;exact h b o n1 (by rw[bf n1,bf n2];exact e)
theorem rm(nx:H x=none)(ndx:H dx=none):Same H (upd (upd H dx (.own x)) x (.ins C dx [])):=λb o e=>by
 rw[bf (dN e nx),bf (dN e ndx)];exact e
theorem Wg{Q:aB->Hp->Prop}(hn:g8 K H n kn)(sn:zm n)(hg:g8 K H g kg)(bad:kj n g=false->∀H',Same H H'->E (.ref a.fj) none H')(good:kj n g=true->∀H' x,H x=none->Same H H'->(∃dx,H' x=some (.ins a.pot dx [("name",n),("gap",g)]))->Q x H') : ∀x dx,H x=none->H dx=none->dx≠x->vZ K a [.ref x,n,g] (upd (upd H dx (.own x)) x (.ins a.pot dx [])) (λv H2=>v=.non/\Q x H2) E:=by
 intro x dx nx ndx ne;have s0:=rm (C:=a.pot) nx ndx;exact⟨x,dx,a.pot,n,g,kn,kg,rfl,aF,.inl rfl,hn.same s0,sn,hg.same s0,λe H' s'=>bad e H' (s0.trans s'),λe H' b' hp=>⟨rfl,good e H' x nx (b'.made nx ndx) ⟨dx,hp⟩⟩⟩
def wV(p:cA)(g:V):Bool:=match p.rest with
 |none=>dU g 1 60
 |some r=>dU g 1 60&&match g with
  | .int i=>dU (.int r) 0 (i-1)
  |_=>false
inductive G4(K:Fg)(a:gB)(C:aB)(vs:List V)(H:Hp)(Q:VK)(E:XK):Prop
 |mk:∀x p g kg,vs=[.ref x,g]->p.cls a=C->mQ a H x p->p.Ok->g8 K H g kg->((wV p g=false->∀H',Same H H'->E (.ref a.fj) none H'))->((wV p g=true->∀i H' y,g=.int i->H y=none->Same H H'->mQ a H' y {p with gap:=i}->Q (.ref y) H'))->G4 K a C vs H Q E
theorem ak7:bY ["self","gap"] ["self","gap"] (aZ DK):=d9 (by decide +kernel)
theorem jl(h:dU g l m=true):∃i,g=.int i/\l<=i/\i<=m:=by
 cases g with
 |int i=>exact⟨i,rfl,by simpa[dU]using h⟩
 |_=>exact absurd h (by simp[dU])
theorem Rc(T:o8 K mg a):cM P w K mg base (fY P w) 4 a.fPG a.dPG ["self","gap"] (G4 K a a.pot):=by
 refine T.PG.F.lY ak7 (λvs H Q E h=>?_) (λcdv A outer s H vs Q E hr h=>?_)
 ·obtain⟨x,p,g,kg,rfl,_⟩:=h;rfl
 ·obtain⟨x,p,g,kg,rfl,hc,⟨dx,hx⟩,ok,hg,bad,good⟩:=h;refine⟨_,aU (bU (yQ T.kP (tK T) hr T.aaw T.PI.b (dJ bN) (ao (fJ (pv 0) rfl) (ao (pv 1) aG)))),?_⟩;rw[hc]at hx;have hr0:p.rest=none:=by
   cases e:p.rest with
   |none=>rfl
   |some r=>rw[cA.cls,e]at hc;exact absurd hc.symm T.ne
  refine⟨_,rfl,x,a.pot,dx,_,_,rfl,hx,T.tP.cl,T.nP _ (by simp),p.wg,_,rfl,?_⟩;refine Wg (kn:=.str) ⟨_,rfl⟩ (pL ok.nm) hg (λe=>bad (by simpa[wV,hr0,kj,ok.nm]using e)) (λe H' y hy s' hy'=>?_);have eg:dU g 1 60=true:=by simpa[kj,ok.nm]using e
  obtain⟨i,rfl,_⟩:=jl eg;obtain⟨dy,hy'⟩:=hy';refine good (by simpa[wV,hr0]using eg) i H' y rfl hy s' ⟨dy,?_⟩;rw[hy'];simp only[cA.cls,cA.fs,hr0]
def restOk(g r:V):Bool:=match g with
 | .int i=>dU r 0 (i-1)
 |_=>false
inductive wj(K:Fg)(a:gB)(vs:List V)(H:Hp)(Q:VK)(E:XK):Prop
 |mk:∀p dx n g r kn kg kr,vs=[.ref p,n,g,r]->H p=some (.ins a.cV dx [])->g8 K H n kn->zm n->g8 K H g kg->g8 K H r kr->((∀q,r=.ref q->q≠p))->(((kj n g&&restOk g r)=false->∀H',But p H H'->E (.ref a.fj) none H'))->(((kj n g&&restOk g r)=true->∀H',But p H H'->H' p=some (.ins a.cV dx [("name",n),("gap",g),("rest",r)])->Q .non H'))->wj K a vs H Q E
theorem ak8:bY ["self","name","gap","rest"] ["self","name","gap","rest"] (aZ zj):=d9 (by decide +kernel)
theorem g8.but(h:g8 K H v k)(b:But p H H')(ne:∀q,v=.ref q->q≠p):g8 K H' v k:=by
 cases k with
 |lst =>
  obtain⟨a,xs,rfl,e|⟨o,e⟩⟩:=h
  ·exact⟨a,xs,rfl,.inl (b _ _ (ne _ rfl) e)⟩
  ·exact⟨a,xs,rfl,.inr ⟨o,b _ _ (ne _ rfl) e⟩⟩
 |tup=>obtain⟨a,xs,rfl,e⟩:=h;exact⟨a,xs,rfl,b _ _ (ne _ rfl) e⟩
 |ins C=>obtain⟨a,dx,fs,rfl,e,t⟩:=h;exact⟨a,dx,fs,rfl,b _ _ (ne _ rfl) e,t⟩
 |_=>exact h
theorem Same.but(s:Same H H'):But p H H':=λb o _ e=>s b o e
theorem But.trans(s:But p H H1)(t:But p H1 H2):But p H H2:=λb o n e=>t b o n (s b o n e)
theorem aay :But p H (upd H p o):=λb u n e=>by rw[bf n];exact e
theorem zp(T:o8 K mg a):cM P w K mg base (fY P w) 3 a.fCI a.dCI ["self","name","gap","rest"] (wj K a):=by
 refine T.CI.F.lY ak8 (λvs H Q E h=>?_) (λcdv A outer s H vs Q E hr h=>?_)
 ·obtain⟨p,dx,n,g,r,kn,kg,kr,rfl,_⟩:=h;rfl
 ·obtain⟨p,dx,n,g,r,kn,kg,kr,rfl,hp,hn,sn,hg,hkr,nr,bad,good⟩:=h;refine⟨_,aL (gJ (ZD T.aaw T.cI (tK T) hr T.PI.b (dJ bN) (ao (pv 0) (ao (pv 1) (ao (pv 2) aG))))) (aL (dZ (gh (eX (c7 T.okW (hr.mono (by decide)) T.mwh T.wh.F.kp T.wh.b bB (ao (pv 3) (ao aP (ao (cg pY (pv 2) aP) aG)))))) (aU (iI bN rfl (by rfl) T.fj.m T.fj.q PySem.F.excBase_ValueError (ao eY aG))) bZ) (aU (pC (pv 0) (pv 3) rfl))),?_⟩;refine⟨_,rfl,_,rfl,_,rfl,p,dx,a.cV,n,g,kn,kg,rfl,hp,.inr rfl,hn,sn,hg,λe H' s'=>bad (by simp[e]) H' (Same.but s'),λe H1 b1 hp1=>?_⟩;have eg:dU g 1 60=true:=by
   rw[kj,Bool.and_eq_true]at e;exact e.2
  obtain⟨i,rfl,_⟩:=jl eg;refine⟨_,rfl,_,rfl,_,_,rfl,rfl,r,0,i-1,kr,rfl,hkr.but b1 nr,_,rfl,?_⟩;cases er:dU r 0 (i-1) with
  |false=>exact dB ⟨by show 1<=sizeLine;decide,bad (by simp[restOk,er]) H1 b1⟩
  |true =>
   refine cU ⟨_,rfl,_,rfl,p,a.cV,dx,_,rfl,hp1,T.tC.cl,T.nC _ (by simp),by show 2<1000;decide,?_⟩;refine good (by simp[e,restOk,er]) _ (b1.trans aay) ?_;rw[aF];exact congrArg (λl=>some (HO.ins a.cV dx l)) (Wd n (.int i) r)
theorem Wh{Q:aB->Hp->Prop}(hn:g8 K H n kn)(sn:zm n)(hg:g8 K H g kg)(hr:g8 K H r kr)(bad:(kj n g&&restOk g r)=false->∀H',Same H H'->E (.ref a.fj) none H')(good:(kj n g&&restOk g r)=true->∀H' x,H x=none->Same H H'->(∃dx,H' x=some (.ins a.cV dx [("name",n),("gap",g),("rest",r)]))->Q x H') : ∀x dx,H x=none->H dx=none->dx≠x->wj K a [.ref x,n,g,r] (upd (upd H dx (.own x)) x (.ins a.cV dx [])) (λv H2=>v=.non/\Q x H2) E:=by
 intro x dx nx ndx ne;have s0:=rm (C:=a.cV) nx ndx;refine⟨x,dx,n,g,r,kn,kg,kr,rfl,aF,hn.same s0,sn,hg.same s0,hr.same s0,λq e z=>?_,λe H' s'=>bad e H' (s'.made nx ndx),λe H' b' hp=>⟨rfl,good e H' x nx (b'.made nx ndx) ⟨dx,hp⟩⟩⟩;subst e z;cases kr with
 |lst =>
  obtain⟨_,_,e,h|⟨_,h⟩⟩:=hr
  ·cases e;rw[nx]at h;cases h
  ·cases e;rw[nx]at h;cases h
 |tup=>obtain⟨_,_,e,h⟩:=hr;cases e;rw[nx]at h;cases h
 |ins C=>obtain⟨_,_,_,e,h,_⟩:=hr;cases e;rw[nx]at h;cases h
 |non=>cases hr
 |bl=>obtain⟨_,e⟩:=hr;cases e
 |int=>obtain⟨_,e⟩:=hr;cases e
 |str=>obtain⟨_,e⟩:=hr;cases e
theorem ak9:bY ["self","gap"] ["self","gap"] (aZ DN):=d9 (by decide +kernel)
theorem Rf(T:o8 K mg a):cM P w K mg base (fY P w) 5 a.fCG a.dCG ["self","gap"] (G4 K a a.cV):=by
 refine T.CG.F.lY ak9 (λvs H Q E h=>?_) (λcdv A outer s H vs Q E hr h=>?_)
 ·obtain⟨x,p,g,kg,rfl,_⟩:=h;rfl
 ·obtain⟨x,p,g,kg,rfl,hc,⟨dx,hx⟩,ok,hg,bad,good⟩:=h;refine⟨_,aU (bU (yQ T.kC (zp T) hr T.ag4 T.CI.b (dJ bN) (ao (fJ (pv 0) rfl) (ao (pv 1) (ao (fJ (pv 0) rfl) aG))))),?_⟩;rw[hc]at hx;obtain⟨r,hr0⟩:∃r,p.rest=some r:=by
   cases e:p.rest with
   |none=>rw[cA.cls,e]at hc;exact absurd hc T.ne
   |some r=>exact⟨r,rfl⟩
  have lr:p.fs.lookup ("rest":Str)=some (.int r):=by simp only[cA.fs,hr0];exact Nu _ _ _
  refine⟨_,rfl,x,a.cV,dx,_,_,rfl,hx,T.tC.cl,T.nC _ (by simp),p.wg,_,rfl,_,rfl,x,a.cV,dx,_,_,rfl,hx,T.tC.cl,T.nC _ (by simp),lr,?_⟩;have e0:(kj (.str p.nm) g&&restOk g (.int r))=wV p g:=by
   rw[kj,ok.nm,Bool.true_and,wV,hr0];rfl
  refine Wh (kn:=.str) (kr:=.int) ⟨_,rfl⟩ (pL ok.nm) hg ⟨_,rfl⟩ (λe=>bad (by rw[<- e0];exact e)) (λe H' y hy s' hy'=>?_);obtain⟨i,rfl,_⟩:∃i,g=.int i/\True:=by
   cases g with
   |int i=>exact⟨i,rfl,trivial⟩
   |_=>exact absurd e (by simp[restOk])
  obtain⟨dy,hy'⟩:=hy';refine good (by rw[<- e0];exact e) i H' y rfl hy s' ⟨dy,?_⟩;rw[hy'];simp only[cA.cls,cA.fs,hr0]
theorem o8.gap(T:o8 K mg a):∀C,(C=a.pot\/C=a.cV)->∃f fd,Cls K C/\Meth K C "with_gap" f/\cM P w K mg base (fY P w) 5 f fd ["self","gap"] (G4 K a C)/\Binds K fd ["self","gap"] []:=by
 intro C h;rcases h with rfl|rfl
 ·exact⟨_,_,T.tP.cl,T.gP,(Rc T).mono (by decide),T.PG.b⟩
 ·exact⟨_,_,T.tC.cl,T.gC,Rf T,T.CG.b⟩
theorem adT(he:PE X o ta)(ha:PA X (e::es) t)(T:o8 K mg a)(hr:eZ 5 X.A)(hx:Passes (fY X.prog X.w) X E)(hK:autoParam (X.K=K) zau0)(hm:autoParam (X.mg=mg) zau0)(hst:autoParam (starEach (e::es) X.env=(false,eval e X.env)::starEach es X.env) zau0)(hpl:autoParam ((backTo pos (starEach es X.env)).any (·.1)=false) zau0)(ht:autoParam (eval (.Call (.Attribute o "with_gap" apos) (e::es) [] pos) X.env=(do
   let ov <- eval o X.env
   standAt apos.atName
   let (f,first) <- holding [ov] (getMethod ov "with_gap" pl)
   callWith pos f first (backTo pos (starEach (e::es) X.env)) (backToKw pos (keywordEach [] X.env)))) zau0) :
  PE X (.Call (.Attribute o "with_gap" apos) (e::es) [] pos) (U0 (λC=>C=a.pot\/C=a.cV) "with_gap" (G4 K a) E ta t):=by
 subst hK hm;exact yR he hr T.gap hx ha hst hpl ht
abbrev adU:dI:=top 23
abbrev adV:dI:=top 24
abbrev adW:dI:=top 25
structure Ka(K:Fg)(mg:Str->Option aC)(a:gB):Prop where
 T:o8 K mg a
 kpp:kitOne K (.ref a.pot) (.ref a.pot)=some true
 kcp:kitOne K (.ref a.cV) (.ref a.pot)=some true
 kb:∀k:Kd,(∀C,k≠.ins C)->kitOne K k.ty (.ref a.pot)=some false
 own:Fn K "own_pots" "own_pots" adU ["pots"] a.V4 a.aaq
 adX:mg "own_pots"=some (.ref a.V4)
 cnt:Fn K "refuse_bad_counts" "refuse_bad_counts" adV ["pots","cans","week","closed"] a.V5 a.aar
 adY:mg "refuse_bad_counts"=some (.ref a.V5)
 twc:Fn K "refuse_name_twice" "refuse_name_twice" adW ["pots"] a.V6 a.aas
 adZ:mg "refuse_name_twice"=some (.ref a.V6)
 tooMany:Exn K mg "TooMany" a.tooMany
 Wi:∃t,mg "MOST_POTS"=some (.int 8 t)
 Wj:∃t,mg "MOST_CANS"=some (.int 8 t)
 Wl:∃t,mg "MOST_WEEK"=some (.int 14 t)
 Kc:∃t,mg "MOST_STATES"=some (.int 20000 t)
def Y4(a:gB):Kd->Bool
 | .ins C=>decide (C=a.pot\/C=a.cV)
 |_=>false
def PK(a:gB)(k:Kd):Prop:=∀C,k=.ins C->C=a.pot\/C=a.cV
theorem Ka.Y4(G:Ka K mg a)(h:PK a k):kitOne K k.ty (.ref a.pot)=some (Tw.Y4 a k):=by
 cases k with
 |ins C =>
  have e:Tw.Y4 a (.ins C)=true:=aK (h C rfl);rw[e];rcases h C rfl with rfl|rfl
  ·exact G.kpp
  ·exact G.kcp
 |_=>exact G.kb _ (λC z=>nomatch z)
theorem mQ.upd(h:mQ a H b p)(hD:H D=some (.lst xs)):mQ a (L2.upd H D o) b p:=by
 obtain⟨dx,e⟩:=h;exact⟨dx,by rw[bf (j9 e hD (by intro z;cases z))];exact e⟩
theorem cA.ad0(h:p.Ok):wV p (.int p.gap)=true:=by
 have h1:dU (.int p.gap) 1 60=true:=by simp[dU,h.gap.1,h.gap.2]
 unfold wV;cases e:p.rest with
 |none=>exact h1
 |some r =>
  obtain⟨r0,r1⟩:=h.rest r e;have r1':r<=p.gap-1:=by omega
  rw[h1]
  show(true&&dU (.int r) 0 (p.gap-1))=true
  simp[dU,r0,r1']
theorem ji(s:Same H H')(h:H D=none):Same H (L2.upd H' D o):=λb u e=>by rw[bf (dN e h)];exact s b u e
def m7(a:gB)(H:Hp)(as:List aB)(ps:List cA):Prop:=Paired (mQ a H) as ps
theorem m7.same(h:m7 a H as ps)(s:Same H H'):m7 a H' as ps:=Paired.iB h λ_ _ e=>e.same s
theorem m7.upd(h:m7 a H as ps)(hD:H D=some (.lst xs)):m7 a (L2.upd H D o) as ps:=Paired.iB h λ_ _ e=>e.upd hD
inductive Wm(K:Fg)(a:gB)(vs:List V)(H:Hp)(Q:VK)(E:XK):Prop
 |mk:∀v k,vs=[v]->g8 K H v k->((bi k .list=false->∀H',Same H H'->E (.ref a.fj) none H'))->((bi k .list=true->∃l xs ks,v=.ref l/\cD K H l xs/\xs.length<=1000/\Paired (g8 K H) xs ks/\(∀k∈ks,PK a k)/\(ks.all (Y4 a)=false->∀H',Same H H'->E (.ref a.fj) none H') /\ (ks.all (Y4 a)=true->∃as ps,xs=as.map V.ref/\m7 a H as ps/\(∀p∈ps,p.Ok)/\∀H' l' bs,Same H H'->H l'=none->H' l'=some (.lst (bs.map V.ref))->m7 a H' bs ps->Q (.ref l') H')))->Wm K a vs H Q E
theorem ab7:bY ["pots","pot"] ["pots"] (aZ adU):=d9 (by decide +kernel)
theorem ad1(G:Ka K mg a):cM P w K mg base (fY P w) 6 a.V4 a.aaq ["pots"] (Wm K a):=by
 refine G.own.F.lY ab7 (λvs H Q E h=>?_) (λcdv A outer s H vs Q E hr h=>?_)
 ·obtain⟨v,k,rfl,_⟩:=h;rfl
 ·obtain⟨v,k,rfl,hk,no,yes⟩:=h;have T:=G.T;refine⟨_,aL (dZ (gh (eX (oK .list T.B.isinstance T.B.list (pv 0)))) (aU (iI bN rfl (by rfl) T.fj.m T.fj.q PySem.F.excBase_ValueError (ao eY aG))) bZ) (aL (ju fM rfl (fK (pv 0)) (cR 1 ab7.nd) (aU (dZ (gh (eX (adx T.B.isinstance T.aaw (pv 1)))) (aU (iI bN rfl (by rfl) T.fj.m T.fj.q PySem.F.excBase_ValueError (ao eY aG))) bZ))) (aU (bU (gG bN rfl ⟨_,_,rfl,rfl,rfl⟩ (gY.plain (N':=["pot"]) rfl (by decide +kernel) (by decide +kernel)) (fK (pv 0)) (λ_ _ _ _ _=>cR 0 (show [("pot":Str)].Nodup by decide +kernel)) (λ_ _ _ _ _=>gM) (λ_ _ _ _ _ acc=>adT (pv 0) (ao (wM K (pv 0)) aG) T hr (dJ acc)))))),?_⟩;refine⟨_,rfl,v,k,rfl,hk,_,rfl,?_⟩;cases ek:bi k .list with
  |false=>exact dB ⟨by show 1<=sizeLine;decide,no ek H (Same.refl _)⟩
  |true =>
   obtain⟨l,xs,ks,rfl,hl,hlen,kds,pks,bad,good⟩:=yes ek;refine cU ⟨_,rfl,l,rfl,⟨_,hl⟩,nQ (K:=K) (a:=l) (xs:=xs) (λi σ H'=>∃u,σ=[some (.ref l),u]/\H=H'/\(ks.take i).all (Y4 a)=true) ⟨none,rfl,rfl,rfl⟩ (λi σ H' _ ⟨_,_,e,_⟩=>e ▸ hl) ?_ ?_⟩
   ·rintro i x σ H' hi ⟨u,rfl,rfl,al⟩;obtain⟨kx,hkx,kd⟩:=dW kds hi;refine⟨_,rfl,x,kx,a.pot,_,rfl,kd,G.Y4 (pks kx (aQ hkx)),_,rfl,?_⟩;cases e:Y4 a kx with
    |false =>
     refine dB ⟨by show 1<=sizeLine;decide,bad ?_ _ (Same.refl _)⟩;rw[Bool.eq_false_iff];intro z;rw[all_eq_true]at z;rw[z kx (aQ hkx)]at e;cases e
    |true=>exact cU ⟨_,rfl,rfl,by rw[take_snoc hkx,all_append,al];simp[e]⟩
   ·rintro σ H' ⟨u,rfl,rfl,al⟩;have lk:xs.length=ks.length:=Paired.length kds;rw[lk,cL]at al;obtain⟨as,ps,rfl,pots,nu,q⟩:=good al;refine⟨_,rfl,l,rfl,⟨_,hl⟩,λD hD=>?_⟩;have sD:=aV (o:=.lst []) hD;have lp:as.length=ps.length:=Paired.length pots;refine lZ as.length (by rw[ak]at hlen;exact bx hlen (by decide)) (λi acc H'=>∃bs:List aB,acc=bs.map V.ref/\bs.length=i/\H' D=some (.lst acc)/\Same H H'/\m7 a H' bs (ps.take i)) ⟨[],rfl,rfl,aF,sD,.nil⟩ (λi acc H' _ ⟨bs,e,lb,hd,_⟩=>⟨by rw[e,ak,lb],hd⟩) ?_ ?_
    ·rintro acc H' ⟨bs,rfl,lb,hd,s',pt⟩;refine⟨⟨_,s'.seq hl,by rw[ak];exact aO _⟩,?_⟩;rw[lp,cL]at pt;exact q H' D bs s' hD hd pt
    ·rintro i acc H' lt ⟨bs,rfl,lb,hd,s',pt⟩;have hl':=s'.seq hl;obtain⟨b,hb⟩:∃b,as[i]?=some b:=⟨as[i],aA lt⟩;obtain⟨p,hp,pb⟩:=dW pots hb;have hx:(as.map V.ref)[i]?=some (.ref b):=by rw[aJ,hb];rfl
     refine⟨⟨_,_,hl',hx⟩,?_⟩;rintro x sZ ⟨rfl,hx'⟩ Qc k;have ex:=hx' _ hl';rw[hx]at ex;cases ex;obtain⟨dx,hb'⟩:=pb.same s';have Ke:=nu p (aQ hp);have cT:=T.cls p.jE;refine⟨gD,_,rfl,b,p.cls a,dx,_,rfl,hb',p.jE,p.adS (by decide +kernel) (by decide +kernel) (by decide +kernel),_,rfl,b,p.cls a,dx,_,_,rfl,hb',cT.1.cl,cT.2 _ (by simp),p.wU,?_⟩;refine⟨b,p,.int p.gap,.int,rfl,rfl,⟨dx,hb'⟩,Ke,⟨_,rfl⟩,λz=>(by rw[cA.ad0 Ke]at z;cases z),λ_ j H3 y ej hy s3 py=>?_⟩;cases ej;refine k (.ref y) H3 (s3 _ _ hd) ⟨bs++[y],by rw[aX];rfl,by rw[aY,lb];rfl,aF,ji (s'.trans s3) hD,?_⟩
     ·rw[take_snoc hp];exact Paired.snoc ((pt.same s3).upd (s3 _ _ hd)) (mQ.upd py (s3 _ _ hd))
variable{X:Cx}
section
variable{e:Expr}{p pos:Pos}
theorem qD(hc:jw X (.type T) r)(hm:X.mg x=none)(hv:bootBuiltins x=some (.type T))(ha:PA X (e::es) t)(hg:autoParam (Gl X x) zau0)(hn:autoParam (x≠"__name__") zau1)(hdb:autoParam ((x == ("__debug__":Str))=false) zau1)(he:autoParam (starEach (e::es) X.env=(false,eval e X.env)::starEach es X.env) zau0)(hpl:autoParam ((backTo pos (starEach es X.env)).any (·.1)=false) zau0):PE X (.Call (.Name x p) (e::es) [] pos) (tCB r t):=PX hc hg hm hv ha hn hdb he hpl
end
def uR(w c:V):Bool:=match w with
 | .int i=>dU c 0 (1*2^i.toNat-1)
 |_=>false
def wW(n:Nat)(c w cl:V):Bool:=decide (1<=n)&&decide (n<=8)&&dU c 0 8&&dU w 1 14&&uR w cl
inductive ab8(K:Fg)(a:gB)(vs:List V)(H:Hp)(Q:VK)(E:XK):Prop
 |mk:∀l xs c w cl kc kw kl,vs=[.ref l,c,w,cl]->cD K H l xs->g8 K H c kc->g8 K H w kw->g8 K H cl kl->((wW xs.length c w cl=false->E (.ref a.tooMany) none H))->((wW xs.length c w cl=true->Q .non H))->ab8 K a vs H Q E
theorem ag8:bY ["pots","cans","week","closed"] ["pots","cans","week","closed"] (aZ adV):=d9 (by decide +kernel)
theorem ad3(G:Ka K mg a):cM P w K mg base (fY P w) 2 a.V5 a.aar ["pots","cans","week","closed"] (ab8 K a):=by
 refine G.cnt.F.lY ag8 (λvs H Q E h=>?_) (λcdv A outer s H vs Q E hr h=>?_)
 ·obtain⟨l,xs,c,wk,cl,kc,kw,kl,rfl,_⟩:=h;rfl
 ·obtain⟨l,xs,c,wk,cl,kc,kw,kl,rfl,hl,hc,hw,hcl,bad,good⟩:=h;have T:=G.T;obtain⟨t1,m1⟩:=G.Wi;obtain⟨t2,m2⟩:=G.Wj;obtain⟨t3,m3⟩:=G.Wl;refine⟨_,aL (dZ (gh (Fz Az Az aP (eO bT T.B.len PySem.boot_len (ao (pv 0) aG)) (oH (.int 8) m1 ⟨t1,rfl⟩))) (aU (iI bN rfl (by rfl) G.tooMany.m G.tooMany.q PySem.F.excBase_ValueError (ao eY aG))) bZ) (aL (dZ (gh (eX (c7 T.okW hr T.mwh T.wh.F.kp T.wh.b bB (ao (pv 1) (ao aP (ao (oH (.int 8) m2 ⟨t2,rfl⟩) aG)))))) (aU (iI bN rfl (by rfl) G.tooMany.m G.tooMany.q PySem.F.excBase_ValueError (ao eY aG))) bZ) (aL (dZ (gh (eX (c7 T.okW hr T.mwh T.wh.F.kp T.wh.b bB (ao (pv 2) (ao aP (ao (oH (.int 14) m3 ⟨t3,rfl⟩) aG)))))) (aU (iI bN rfl (by rfl) G.tooMany.m G.tooMany.q PySem.F.excBase_ValueError (ao eY aG))) bZ) (aU (dZ (gh (eX (c7 T.okW hr T.mwh T.wh.F.kp T.wh.b bB (ao (pv 3) (ao aP (ao (cg pY (cg Jq aP (pv 2)) aP) aG)))))) (aU (iI bN rfl (by rfl) G.tooMany.m G.tooMany.q PySem.F.excBase_ValueError (ao eY aG))) bZ)))),?_⟩;refine⟨_,rfl,l,xs,rfl,.inl hl,_,_,rfl,rfl,_,rfl,?_⟩;unfold wW at bad good
  by_cases h1:1<=xs.length
  ·have h1':(1:Int)<=(xs.length:Int):=by omega
   rw[aK h1'];refine dB ⟨_,_,rfl,rfl,_,rfl,?_⟩
   by_cases h2:xs.length<=8
   ·have h2':(xs.length:Int)<=8:=by omega
    rw[aK h2'];rw[aK h1,aK h2]at bad good;refine cU ⟨_,rfl,c,0,8,kc,rfl,hc,_,rfl,?_⟩;cases ec:dU c 0 8 with
    |false=>exact dB ⟨by show 1<=sizeLine;decide,bad (by rw[ec];rfl)⟩
    |true =>
     refine cU ⟨_,rfl,wk,1,14,kw,rfl,hw,_,rfl,?_⟩;cases ew:dU wk 1 14 with
     |false=>exact dB ⟨by show 1<=sizeLine;decide,bad (by rw[ec,ew];rfl)⟩
     |true =>
      obtain⟨i,rfl,i1,i2⟩:=jl ew;refine cU ⟨_,rfl,_,rfl,_,_,rfl,rfl,⟨by omega,by omega,by decide⟩,_,_,rfl,rfl,cl,0,_,kl,rfl,hcl,_,rfl,?_⟩;rw[ec,ew]at bad good;cases el:dU cl 0 (1*2^i.toNat-1) with
      |false=>exact dB ⟨by show 1<=sizeLine;decide,bad (by rw[uR,el];rfl)⟩
      |true=>exact cU (good (by rw[uR,el];rfl))
   ·have h2':¬(xs.length:Int)<=8:=by omega
    rw[aD h2'];exact dB ⟨by show 1<=sizeLine;decide,bad (by rw[aD h2];simp)⟩
  ·have h1':¬(1:Int)<=(xs.length:Int):=by omega
   rw[aD h1'];exact cU ⟨_,rfl,dB ⟨by show 1<=sizeLine;decide,bad (by rw[aD h1];simp)⟩⟩
inductive ab9(K:Fg)(a:gB)(vs:List V)(H:Hp)(Q:VK)(E:XK):Prop
 |mk:∀l as ps,vs=[.ref l]->cD K H l (as.map V.ref)->m7 a H as ps->as.length<=8->((¬(ps.map cA.nm).Nodup->∀H',Same H H'->E (.ref a.fj) none H'))->(((ps.map cA.nm).Nodup->∀H',Same H H'->Q .non H'))->ab9 K a vs H Q E
theorem ag9:bY ["pots"] ["pots"] (aZ adW):=d9 (by decide +kernel)
theorem ad4(G:Ka K mg a):cM P w K mg base (fY P w) 2 a.V6 a.aas ["pots"] (ab9 K a):=by
 refine G.twc.F.lY ag9 (λvs H Q E h=>?_) (λcdv A outer s H vs Q E hr h=>?_)
 ·obtain⟨l,as,ps,rfl,_⟩:=h;rfl
 ·obtain⟨l,as,ps,rfl,hl,pots,h8,bad,good⟩:=h;have T:=G.T;refine⟨_,aU (dZ (cu Fw (eO Qg T.B.len PySem.boot_len (ao (qD (Qf rfl) T.B.set boot_set (ao (gG bN rfl ⟨_,_,rfl,rfl,rfl⟩ (gY.plain (N':=["pot"]) rfl (by decide +kernel) (by decide +kernel)) (fK (pv 0)) (λ_ _ _ _ _=>cR 0 (show [("pot":Str)].Nodup by decide +kernel)) (λ_ _ _ _ _=>gM) (λ_ _ _ _ _ _=>wM K (pv 0))) aG)) aG)) (eO bT T.B.len PySem.boot_len (ao (pv 0) aG)) (cN _)) (aU (iI bN rfl (by rfl) T.fj.m T.fj.q PySem.F.excBase_ValueError (ao eY aG))) bZ),?_⟩;refine⟨_,rfl,l,rfl,⟨_,hl⟩,λD hD=>?_⟩;have lp:as.length=ps.length:=Paired.length pots;refine lZ as.length (bx h8 (by decide)) (λi acc H'=>acc=((ps.take i).map cA.nm).map V.str/\upd H D (.lst acc)=H') ⟨rfl,rfl⟩ (λi acc H' le ⟨e,eh⟩=>⟨?_,by rw[<- eh,aF]⟩) ?_ ?_
  ·rw[e,ak,ak,length_take,<- lp];omega
  ·rintro acc H' ⟨rfl,rfl⟩;have sD:=aV (o:=.lst (((ps.take as.length).map cA.nm).map V.str)) hD;rw[lp,cL]at sD⊢;refine⟨⟨_,sD.seq hl,by rw[ak,lp];exact aO _⟩,D,ps.map cA.nm,rfl,cD.of aF,?_,λS hS=>?_⟩
   ·rw[ak,<- lp];exact Nat.lt_of_le_of_lt (Nat.succ_le_succ h8) (by decide)
   ·have sS:=sD.trans (aV (o:=yN P w S (jY (ps.map cA.nm)).length) hS);refine⟨S,_,rfl,aF,_,rfl,l,_,rfl,.inl (sS.seq hl),rfl,_,rfl,?_⟩;have e1:(V.int ((jY (ps.map cA.nm)).length:Int)=V.int ((as.map V.ref).length:Int))↔(ps.map cA.nm).Nodup:=by
     rw[<- Mw,ak,ak,<- lp];constructor
     ·intro z;injection z with z;exact Int.ofNat.inj z
     ·intro z;rw[z]
    by_cases nd:(ps.map cA.nm).Nodup
    ·rw[aK (e1.mpr nd)];exact cU (good nd _ sS)
    ·rw[aD (λz=>nd (e1.mp z))];exact dB ⟨by show 1<=sizeLine;decide,bad nd _ sS⟩
  ·rintro i acc H' lt ⟨rfl,rfl⟩;have sD:=aV (o:=.lst (((ps.take i).map cA.nm).map V.str)) hD;have hl':=sD.seq hl;obtain⟨b,hb⟩:∃b,as[i]?=some b:=⟨as[i],aA lt⟩;obtain⟨q,hq,pb⟩:=dW pots hb;have hx:(as.map V.ref)[i]?=some (.ref b):=by rw[aJ,hb];rfl
   refine⟨⟨_,_,hl',hx⟩,?_⟩;rintro x sZ ⟨rfl,hx'⟩ Qc k;have ex:=hx' _ hl';rw[hx]at ex;cases ex;obtain⟨dx,hb'⟩:=pb.same sD;have cT:=T.cls q.jE;refine⟨gD,_,rfl,b,q.cls a,dx,_,_,rfl,hb',cT.1.cl,cT.2 _ (by simp),q.wg,?_⟩;refine k _ _ aF ⟨?_,by rw[lH]⟩;rw[take_snoc hq,aX,aX];rfl
abbrev sGI:dI:=inClass (top 28) 0
abbrev Wn:dI:=inClass (top 28) 1
structure zq(K:Fg)(x qual:Str)(st:dI)(dV:aC)(f:aB)(fd:fH):Prop where
 ex:∃(oc:aC)(od:Option aB)(kV doc pm:aC)(an:Option aB)(cdv ct:aC)(osl:Array (Option aC)),fd=fnOf x qual (oA st) (iV st) (aZ st) dV kV doc pm an cdv ct/\K.lookup f=some ⟨oc,od,.func fd,osl⟩/\codeIn K cdv qual=true
 kp:keepIn K (.ref f)=true
theorem zq.lY(F:zq K x qual st dV f fd)(S:bY N ps (aZ st))(len:∀vs H Q E,sp vs H Q E->vs.length=ps.length)(body:∀(cdv:aC) (A:eE) (outer:List Env) (s:aW) (H:Hp) (vs:List V) (Q:VK) (E:XK),eZ k (A.deeper (PyProof.Rows.envOfC qual (aZ st) s.heap.objs.size f cdv))->sp vs H Q E -> ∃t,Ac (qd (fY P w) P w K mg base N qual (aZ st) f cdv A outer s H E) (iV st) t/\t {nx:=λ_ H'=>Q .non H',rt:=Q} (start N vs) H):cM P w K mg base (fY P w) (k+1) f fd ps sp:=by
 obtain⟨oc,od,kV,doc,pm,an,cdv,ct,osl,rfl,lk,hcd⟩:=F.ex;exact Ub lk hcd S len λA outer s H vs Q E hr h=>body cdv A outer s H vs Q E hr h
structure DP(K:Fg)(mg:Str->Option aC)(a:gB)(dV:aC):Prop where
 G:Ka K mg a
 tG:Aj K a.garden
 aha:mg "Garden"=some (.ref a.garden)
 nG:∀f∈(["pots","cans","week","closed"]:List Str),jT K a.garden f
 gi:zq K "__init__" "Garden.__init__" sGI dV a.YZ a.dGI
 b4:Binds K a.dGI ["self","pots","cans","week","closed"] []
 b1:∃t1 t2 t3,Binds K a.dGI ["self","pots","cans","week","closed"] [.int 1 t1,.int 1 t2,.int 0 t3]
 b2:∃t2 t3,Binds K a.dGI ["self","pots","cans","week","closed"] [.int 1 t2,.int 0 t3]
 kG:Mk K a.garden a.YZ
 size:Fn K "size" "Garden.size" Wn ["self"] a.V7 a.ab3
 Nv:Meth K a.garden "size" a.V7
variable{dV:aC}
structure iM where
 pots:List cA
 cans:Int
 week:Int
 closed:Int
def Tn(l:aB)(c w cl:V):List (Str×V):=[("pots",.ref l),("cans",c),("week",w),("closed",cl)]
theorem lB(l:aB)(c w cl:V):(Tn l c w cl).lookup ("pots":Str)=some (.ref l):=wR
theorem Wo(l:aB)(c w cl:V):(Tn l c w cl).lookup ("cans":Str)=some c:=(jH (by decide +kernel)).trans wR
theorem tL(l:aB)(c w cl:V):(Tn l c w cl).lookup ("week":Str)=some w:=(jH (by decide +kernel)).trans ((jH (by decide +kernel)).trans wR)
theorem G5(l:aB)(c w cl:V):(Tn l c w cl).lookup ("closed":Str)=some cl:=(jH (by decide +kernel)).trans ((jH (by decide +kernel)).trans ((jH (by decide +kernel)).trans wR))
theorem G6(l:aB)(c w cl:V){m:Str}(h1:(m == "pots")=false)(h2:(m == "cans")=false)(h3:(m == "week")=false)(h4:(m == "closed")=false):(Tn l c w cl).lookup m=none := (jH h1).trans ((jH h2).trans ((jH h3).trans (jH h4)))
theorem oJ(h:¬g=f):iK f v ((g,x)::r)=(g,x)::iK f v r:=by
 show(if g=f then _ else _)=_
 rw[if_neg h]
theorem ahb(l:aB)(c w cl:V):iK "closed" cl (iK "week" w (iK "cans" c (iK "pots" (.ref l) [])))=Tn l c w cl:=by
 have e1:iK "pots" (V.ref l) []=[(("pots":Str),V.ref l)]:=rfl;have e2:iK "cans" c [(("pots":Str),V.ref l)]=([("pots",V.ref l),("cans",c)]:List (Str×V)):=by rw[oJ (by decide +kernel)];rfl
 have e3:iK "week" w ([("pots",V.ref l),("cans",c)]:List (Str×V))=([("pots",V.ref l),("cans",c),("week",w)]:List (Str×V)):=by rw[oJ (by decide +kernel),oJ (by decide +kernel)];rfl
 have e4:iK "closed" cl ([("pots",V.ref l),("cans",c),("week",w)]:List (Str×V))=([("pots",V.ref l),("cans",c),("week",w),("closed",cl)]:List (Str×V)):=by rw[oJ (by decide +kernel),oJ (by decide +kernel),oJ (by decide +kernel)];rfl
 rw[e1,e2,e3,e4];rfl
def sizeOf(wk:Int)(ps:List cA):Int:=ps.foldl (λs p=>s*p.gap) wk
def fZ(a:gB)(H:Hp)(x:aB)(g:iM):Prop:=∃dx l as,H x=some (.ins a.garden dx (Tn l (.int g.cans) (.int g.week) (.int g.closed)))/\H l=some (.lst (as.map V.ref))/\m7 a H as g.pots
theorem fZ.same(h:fZ a H x g)(s:Same H H'):fZ a H' x g:=by
 obtain⟨dx,l,as,h1,h2,h3⟩:=h;exact⟨dx,l,as,s _ _ h1,s _ _ h2,h3.same s⟩
inductive Wq(K:Fg)(a:gB)(vs:List V)(H:Hp)(Q:VK)(jU:XK):Prop
 |mk:∀x dx l as ps c wk cl,vs=[.ref x]->H x=some (.ins a.garden dx (Tn l c (.int wk) cl))->cD K H l (as.map V.ref)->m7 a H as ps->(∀p∈ps,p.Ok)->Q (.int (sizeOf wk ps)) H->Wq K a vs H Q jU
theorem DQ:bY ["self","states","pot"] ["self"] (aZ Wn):=d9 (by decide +kernel)
theorem xZ(Z:DP K mg a dV):cM P w K mg base (fY P w) 1 a.V7 a.ab3 ["self"] (Wq K a):=by
 refine Z.size.F.lY DQ (λvs H Q E h=>?_) (λcdv A outer s H vs Q E hr h=>?_)
 ·obtain⟨x,dx,l,as,ps,c,wk,cl,rfl,_⟩:=h;rfl
 ·obtain⟨x,dx,l,as,ps,c,wk,cl,rfl,hx,hl,pots,nu,q⟩:=h;have T:=Z.G.T;refine⟨_,aL (bL (i:=1) DQ.nd rfl (Or.inl rfl) (fJ (pv 0) rfl)) (aL (ju fM rfl (fK (fJ (pv 0) rfl)) (cR 2 DQ.nd) (aU (bL (i:=1) DQ.nd rfl (Or.inl rfl) (cg rW (pv 1) (fJ (pv 2) rfl))))) (aU (bU (pv 1)))),?_⟩;refine⟨_,rfl,x,a.garden,dx,_,_,rfl,hx,Z.tG.cl,Z.nG _ (by simp),tL ..,_,rfl,x,a.garden,dx,_,_,rfl,hx,Z.tG.cl,Z.nG _ (by simp),lB ..,l,rfl,⟨_,hl⟩,nQ (K:=K) (a:=l) (xs:=as.map V.ref) (λi σ H'=>∃u,σ=[some (.ref x),some (.int (sizeOf wk (ps.take i))),u]/\H=H') ⟨none,rfl,rfl⟩ (λi σ H' _ ⟨_,_,e⟩=>e ▸ hl) ?_ ?_⟩
  ·rintro i y σ H' hi ⟨u,rfl,rfl⟩;rw[aJ]at hi;obtain⟨b,hb,rfl⟩:=bh.mp hi;obtain⟨p,hp,dy,hb'⟩:=dW pots hb;have Ke:=nu p (aQ hp);have cT:=T.cls p.jE;refine⟨_,rfl,_,rfl,b,p.cls a,dy,_,_,rfl,hb',cT.1.cl,cT.2 _ (by simp),p.wU,_,_,rfl,rfl,.inr ⟨by have:=Ke.gap;omega,by have:=Ke.gap;omega⟩,?_⟩;have e:sizeOf wk (ps.take (i+1))=sizeOf wk (ps.take i)*p.gap:=by
    rw[take_snoc hp,sizeOf,sizeOf,List.foldl_append];rfl
   refine⟨some (.ref b),?_,rfl⟩;rw[e];rfl
  ·rintro σ H' ⟨u,rfl,rfl⟩;refine⟨_,rfl,?_⟩;have lp:as.length=ps.length:=Paired.length pots;rw[ak,lp,cL];exact q
theorem pU(h:R [] H):PN σ H R:=h
inductive ahc where
 |bad|many|ok
 deriving DecidableEq
noncomputable def zu(ps:List cA)(c w cl:V):ahc := if wW ps.length c w cl=false then .many else if ¬(ps.map cA.nm).Nodup then .bad else
 match w with
 | .int wk=>if 20000<sizeOf wk ps then .many else .ok
 |_=>.many
def DR(o:Option (List cA))(c w cl:V):ahc:=match o with
 |none=>.bad
 |some ps=>zu ps c w cl
inductive zx(K:Fg)(a:gB)(H:Hp):V->Option (List cA)->Prop where
 |no {v:V} {k:Kd} (hk:g8 K H v k) (h:bi k .list=false):zx K a H v none
 |mix {l:aB} {xs:List V} {ks:List Kd} (hk:g8 K H (.ref l) .lst) (hl:cD K H l xs) (len:xs.length<=1000) (kds:Paired (g8 K H) xs ks) (pk:∀k∈ks,PK a k) (h:ks.all (Y4 a)=false):zx K a H (.ref l) none
 |pots {l:aB} {as:List aB} {ps:List cA} (hk:g8 K H (.ref l) .lst) (hl:cD K H l (as.map V.ref)) (len:as.length<=1000) (pots:m7 a H as ps) (nu:∀p∈ps,p.Ok):zx K a H (.ref l) (some ps)
theorem Wr(T:o8 K mg a)(h:m7 a H as ps):Paired (g8 K H) (as.map V.ref) (ps.map λp=>Kd.ins (p.cls a)):=by
 induction h with
 |nil=>exact .nil
 |cons r _ ih =>
  obtain⟨dx,e⟩:=r;exact .cons ⟨_,dx,_,rfl,e,(T.cls (cA.jE _)).1⟩ ih
theorem Ws{ps:List cA}:(ps.map λp=>Kd.ins (p.cls a)).all (Y4 a)=true:=by
 rw[all_map,all_eq_true];intro p _;exact aK p.jE
theorem ad5(T:o8 K mg a)(g:zx K a H v o)(bad:o=none->∀H',Same H H'->E (.ref a.fj) none H')(good:∀ps,o=some ps->(∀p∈ps,p.Ok)->∀H' l' bs,Same H H'->H l'=none->H' l'=some (.lst (bs.map V.ref))->m7 a H' bs ps->Q (.ref l') H'):Wm K a [v] H Q E:=by
 cases g with
 |no hk h=>exact⟨v,_,rfl,hk,λ_=>bad rfl,λz=>by rw[h]at z;cases z⟩
 |mix hk hl len kds pk h=>exact⟨_,_,rfl,hk,(λz=>nomatch z),λ_=>⟨_,_,_,rfl,hl,len,kds,pk,λ_=>bad rfl,λz=>by rw[h]at z;cases z⟩⟩
 |pots hk hl len pots nu =>
  refine⟨_,_,rfl,hk,(λz=>nomatch z),λ_=>⟨_,_,_,rfl,hl,by rw[ak];exact len,Wr T pots,?_,λz=>?_,λ_=>⟨_,_,rfl,pots,nu,good _ rfl nu⟩⟩⟩
  ·intro k hk C e;obtain⟨p,_,rfl⟩:=bM.mp hk;cases e;exact p.jE
  ·rw[Ws]at z;cases z
def qF(a:gB)(H H':Hp)(x:aB)(g:iM):Prop:=∃dx l as,H' x=some (.ins a.garden dx (Tn l (.int g.cans) (.int g.week) (.int g.closed)))/\H' l=some (.lst (as.map V.ref))/\m7 a H' as g.pots/\H l=none
theorem qF.at(h:qF a H H' x g):fZ a H' x g:=by
 obtain⟨dx,l,as,h1,h2,h3,_⟩:=h;exact⟨dx,l,as,h1,h2,h3⟩
theorem qF.from(h:qF a H H' x g)(s:Same H0 H):qF a H0 H' x g:=by
 obtain⟨dx,l,as,h1,h2,h3,h4⟩:=h;exact⟨dx,l,as,h1,h2,h3,s.free h4⟩
inductive ad6(K:Fg)(a:gB)(vs:List V)(H:Hp)(Q:VK)(E:XK):Prop
 |mk:∀x dx v c w cl o kc kw kl,vs=[.ref x,v,c,w,cl]->H x=some (.ins a.garden dx [])->zx K a H v o->g8 K H c kc->g8 K H w kw->g8 K H cl kl->((DR o c w cl=.bad->∀H',But x H H'->E (.ref a.fj) none H'))->((DR o c w cl=.many->∀H',But x H H'->E (.ref a.tooMany) none H'))->((DR o c w cl=.ok->∀ps ci wi li H',o=some ps->c=.int ci->w=.int wi->cl=.int li->But x H H'->qF a H H' x ⟨ps,ci,wi,li⟩->Q .non H'))->ad6 K a vs H Q E
theorem ahd:bY ["self","pots","cans","week","closed","copies"] ["self","pots","cans","week","closed"] (aZ sGI):=d9 (by decide +kernel)
theorem acd(Z:DP K mg a dV):cM P w K mg base (fY P w) 7 a.YZ a.dGI ["self","pots","cans","week","closed"] (ad6 K a):=by
 refine Z.gi.lY ahd (λvs H Q E h=>?_) (λcdv A outer s H vs Q E hr h=>?_)
 ·obtain⟨x,dx,v,c,wk,cl,o,kc,kw,kl,rfl,_⟩:=h;rfl
 ·obtain⟨x,dx,v,c,wk,cl,o,kc,kw,kl,rfl,hx,ga,hc,hw,hcl,bad,many,good⟩:=h;have G:=Z.G;have T:=G.T;obtain⟨t1,m1⟩:=G.Kc;have hr2:eZ 2 _:=hr.mono (by decide);refine⟨_,aL (bL (i:=5) ahd.nd rfl (Or.inl rfl) (c7 (ad1 G) hr G.adX G.own.F.kp G.own.b (dJ bN) (ao (pv 1) aG))) (aL (gJ (c7 (ad3 G) hr2 G.adY G.cnt.F.kp G.cnt.b (dJ bN) (ao (pv 5) (ao (pv 2) (ao (pv 3) (ao (pv 4) aG)))))) (aL (gJ (c7 (ad4 G) hr2 G.adZ G.twc.F.kp G.twc.b (dJ bN) (ao (pv 5) aG))) (aL (pC (pv 0) (pv 5) rfl) (aL (pC (pv 0) (pv 2) rfl) (aL (pC (pv 0) (pv 3) rfl) (aL (pC (pv 0) (pv 4) rfl) (aU (dZ (cu Ba (oX (pv 0) Z.tG.cl Z.Nv (xZ Z) (hr.mono (by decide)) Z.size.b .nil bB) (oH (.int 20000) m1 ⟨t1,rfl⟩) (cN _)) (aU (iI bN rfl (by rfl) G.tooMany.m G.tooMany.q PySem.F.excBase_ValueError (ao eY aG))) bZ)))))))),?_⟩;refine⟨_,rfl,pU (ad5 T ga (λe H' s'=>bad (by rw[e];rfl) H' (Same.but s')) (λps eo nu H1 l bs s1 fl hl1 pt1=>?_))⟩;subst eo;have lb:bs.length=ps.length:=Paired.length pt1;have hl1':cD K H1 l (bs.map V.ref):=cD.of hl1;refine⟨_,rfl,_,rfl,_,rfl,_,rfl,l,_,c,wk,cl,kc,kw,kl,rfl,hl1',hc.same s1,hw.same s1,hcl.same s1,λe=>many ?_ H1 (Same.but s1),λe=>?_⟩
  ·rw[ak,lb]at e
   show zu _ _ _ _=_
   unfold zu;rw[if_pos e]
  ·rw[ak,lb]at e;have e':¬wW ps.length c wk cl=false:=by rw[e];exact Bool.noConfusion
   have h8:ps.length<=8/\(∃ci,c=.int ci)/\(∃wi,wk=.int wi)/\∃li,cl=.int li:=by
    unfold wW at e;simp only[Bool.and_eq_true,decide_eq_true_eq]at e;obtain⟨⟨⟨⟨e1,e2⟩,e3⟩,e4⟩,e5⟩:=e;obtain⟨ci,rfl,_⟩:=jl e3;obtain⟨wi,rfl,_⟩:=jl e4;obtain⟨li,rfl,_⟩:=jl e5;exact⟨e2,⟨_,rfl⟩,⟨_,rfl⟩,⟨_,rfl⟩⟩
   obtain⟨h8,⟨ci,rfl⟩,⟨wi,rfl⟩,⟨li,rfl⟩⟩:=h8;refine⟨_,rfl,l,bs,ps,rfl,hl1',pt1,by rw[lb];exact h8,λnd H2 s2=>bad ?_ H2 (Same.but (s1.trans s2)),λnd H2 s2=>?_⟩
   ·show zu _ _ _ _=_
    unfold zu;rw[if_neg e',if_pos nd]
   ·have nxl:x≠l:=dN hx fl;have s12:=s1.trans s2;have hx2:=s12 _ _ hx;refine⟨_,rfl,_,rfl,x,a.garden,dx,_,rfl,hx2,Z.tG.cl,Z.nG _ (by simp),by show 0<1000;decide,?_⟩;refine⟨_,rfl,_,rfl,x,a.garden,dx,_,rfl,aF,Z.tG.cl,Z.nG _ (by simp),by show 1<1000;decide,?_⟩;refine⟨_,rfl,_,rfl,x,a.garden,dx,_,rfl,aF,Z.tG.cl,Z.nG _ (by simp),(by rw[show iK "cans" (V.int ci) (iK "pots" (V.ref l) [])=[(("pots":Str),V.ref l),(("cans":Str),V.int ci)] from oJ (by decide +kernel)];show 2<1000;decide),?_⟩;refine⟨_,rfl,_,rfl,x,a.garden,dx,_,rfl,aF,Z.tG.cl,Z.nG _ (by simp),?_,?_⟩
    ·have:=lW "week" (V.int wi) (iK "cans" (V.int ci) (iK "pots" (V.ref l) []));have:=lW "cans" (V.int ci) (iK "pots" (V.ref l) []);have:=lW "pots" (V.ref l) [];simp at this;omega
    ·rw[lH,lH,lH,ahb];generalize eH:upd H2 x (.ins a.garden dx (Tn l (.int ci) (.int wi) (.int li)))=H3;have Wt:H3 x=some (.ins a.garden dx (Tn l (.int ci) (.int wi) (.int li))):=by rw[<- eH,aF]
     have b3:But x H H3:=λb o n e=>by rw[<- eH,bf n];exact s12 _ _ e
     have hl3:H3 l=some (.lst (bs.map V.ref)):=by rw[<- eH,bf nxl.symm];exact s2 _ _ hl1
     have pt3:m7 a H3 bs ps:=by
      refine Paired.iB (pt1.same s2) λb p e=>?_
      obtain⟨dy,e⟩:=e;refine⟨dy,?_⟩;rw[<- eH,bf ?_]
      ·exact e
      ·intro z;subst z;rw[e]at hx2;have:=(bO hx2);injection this with _ _ e3;unfold cA.fs at e3
       split at e3<;>cases e3
     refine⟨_,rfl,x,dx,_,rfl,Wt,G6 _ _ _ _ (by decide +kernel) (by decide +kernel) (by decide +kernel) (by decide +kernel),x,dx,l,bs,ps,_,wi,_,rfl,Wt,cD.of hl3,pt3,nu,_,_,rfl,rfl,_,rfl,?_⟩
     by_cases big:20000<sizeOf wi ps
     ·rw[aK big];refine dB ⟨by show 1<=sizeLine;decide,many ?_ _ b3⟩
      show zu _ _ _ _=_
      unfold zu;rw[if_neg e',if_neg (λz=>z nd)];exact if_pos big
     ·rw[aD big];refine cU (good ?_ ps ci wi li _ rfl rfl rfl rfl b3 ⟨dx,l,bs,Wt,hl3,pt3,fl⟩)
      show zu _ _ _ _=_
      unfold zu;rw[if_neg e',if_neg (λz=>z nd)];exact if_neg big
theorem oY.mark{o:Option aC}(r:oY k A):oY k (A.mark o):=⟨r.dp,r.un⟩
theorem zx.same(g:zx K a H v o)(s:Same H H'):zx K a H' v o:=by
 cases g with
 |no hk h=>exact .no (hk.same s) h
 |mix hk hl len kds pk h=>exact .mix (hk.same s) (s.seq hl) len (Paired.iB kds λ_ _ e=>e.same s) pk h
 |pots hk hl len pots nu=>exact .pots (hk.same s) (s.seq hl) len (pots.same s) nu
structure Wu(a:gB)(H:Hp)(Q:aB->Hp->Prop)(E:XK)(o:Option (List cA))(c w cl:V):Prop where
 bad:DR o c w cl=.bad->∀H',Same H H'->E (.ref a.fj) none H'
 many:DR o c w cl=.many->∀H',Same H H'->E (.ref a.tooMany) none H'
 ok:DR o c w cl=.ok->∀ps ci wi li H' x,o=some ps->c=.int ci->w=.int wi->cl=.int li->H x=none->Same H H'->qF a H H' x ⟨ps,ci,wi,li⟩->Q x H'
theorem Wv{v c w cl:V}(ga:zx K a H v o)(hc:g8 K H c kc)(hw:g8 K H w kw)(hcl:g8 K H cl kl)(p:Wu a H Q E o c w cl) : ∀x dx,H x=none->H dx=none->dx≠x->ad6 K a [.ref x,v,c,w,cl] (upd (upd H dx (.own x)) x (.ins a.garden dx [])) (λv H2=>v=.non/\Q x H2) E:=by
 intro x dx nx ndx ne;have s0:=rm (C:=a.garden) nx ndx;exact⟨x,dx,v,c,w,cl,o,kc,kw,kl,rfl,aF,ga.same s0,hc.same s0,hw.same s0,hcl.same s0,λe H' b=>p.bad e H' (b.made nx ndx),λe H' b=>p.many e H' (b.made nx ndx),λe ps ci wi li H' h1 h2 h3 h4 b g=>⟨rfl,p.ok e ps ci wi li H' x h1 h2 h3 h4 nx (b.made nx ndx) (g.from s0)⟩⟩
theorem fZ.arg{x l dx:aB}(hl:H l=some (.lst (as.map V.ref)))(h8:as.length<=1000)(pt:m7 a H as ps)(nu:∀p∈ps,p.Ok):zx K a H (.ref l) (some ps) := .pots ⟨l,_,rfl,.inl hl⟩ (cD.of hl) h8 pt nu
theorem eqT{A B:Prop}(e:x=y)(h:A):if decide (V.int x=V.int y)=true then A else B:=by
 rw[aK (by rw[e])];exact dB h
theorem eqF{A B:Prop}(e:x≠y)(h:B):if decide (V.int x=V.int y)=true then A else B:=by
 rw[aD (λz=>e (by injection z))];exact cU h
theorem ace{c w cl:Int}(h:DR (some ps) (.int c) (.int w) (.int cl)=.ok)(k:∀H' x,H x=none->Same H H'->qF a H H' x ⟨ps,c,w,cl⟩->Q x H'):Wu a H Q E (some ps) (.int c) (.int w) (.int cl) := ⟨λe=>(by rw[h]at e;cases e),λe=>(by rw[h]at e;cases e),λ_ ps' ci wi li H' x e1 e2 e3 e4 hx s' g=>by cases e1;cases e2;cases e3;cases e4;exact k H' x hx s' g⟩
theorem qG(h:iR x=true):xU K H n x x true:=by
 have:=xU.flat (K:=K) (H:=H) (n:=n) h h;rw[uo h]at this;exact this
abbrev DW:dI:=top 62
structure XC(K:Fg)(a:gB)(C:aB)(j:Nat):Prop where
 t:ZC K C
 b0:kitOne K (.ref C) (.ref a.fj)=some (0 == j)
 b1:kitOne K (.ref C) (.ref a.tooMany)=some (1 == j)
 b2:kitOne K (.ref C) (.ref a.gA)=some (2 == j)
 b3:kitOne K (.ref C) (.ref a.dz)=some (3 == j)
 b4:kitOne K (.ref C) (.ref a.pK)=some (4 == j)
 b5:kitOne K (.ref C) (.ref a.dX)=some (5 == j)
 v:kitOne K (.ref C) (.type "ValueError")=some true
 m:exmOne K (.ref C) (.ref a.uQ)=some true
structure Kf(mg:Str->Option aC)(a:gB):Prop where
 is:mg "isinstance"=none
 ve:mg "ValueError"=none
 n0:mg "BadPot"=some (.ref a.fj)
 n1:mg "TooMany"=some (.ref a.tooMany)
 n2:mg "NoPot"=some (.ref a.gA)
 n3:mg "BadDay"=some (.ref a.dz)
 n4:mg "BadRow"=some (.ref a.pK)
 n5:mg "NoState"=some (.ref a.dX)
 ge:mg "GardenError"=some (.ref a.uQ)
def hot(j:Nat):List V:=[.bl (0 == j),.bl (1 == j),.bl (2 == j),.bl (3 == j),.bl (4 == j),.bl (5 == j)]
theorem Nx:bY ["_law_error","_law_found"] ["_law_error"] (aZ DW):=d9 (by decide +kernel)
abbrev Ww:dI:=top 26
abbrev Kg:dI:=top 27
abbrev ad7:dI:=inClass (top 28) 2
abbrev ad8:dI:=inClass (top 28) 3
structure Kh(K:Fg)(mg:Str->Option aC)(a:gB)(dV:aC):Prop where
 Z:DP K mg a dV
 ad9:Fn K "is_state" "is_state" Ww ["garden","value"] a.V8 a.ab4
 ahe:mg "is_state"=some (.ref a.V8)
 ref:Fn K "refuse_no_state" "refuse_no_state" Kg ["garden","value"] a.J7 a.Wc
 aaB:mg "refuse_no_state"=some (.ref a.J7)
 num:Fn K "number" "Garden.number" ad7 ["self","state"] a.V9 a.aat
 ald:Meth K a.garden "number" a.V9
 sta:Fn K "state" "Garden.state" ad8 ["self","number"] a.Wa a.aau
 ale:Meth K a.garden "state" a.Wa
 aaC:Exn K mg "NoState" a.dX
theorem aea{A B:Prop}(e:x≠y)(h:A):if(!decide (V.int x=V.int y))=true then A else B:=by
 rw[aD (λz=>e (by injection z))];exact dB h
theorem Rg{A B:Prop}(e:x=y)(h:B):if(!decide (V.int x=V.int y))=true then A else B:=by
 rw[aK (by rw[e])];exact cU h
theorem qH(K:Fg)(hc:X.calm=true)(h:PGs X es t)(hK:autoParam (X.K=K) zau0)(hn:autoParam ((assignEach es X.env).length=n) zau0)(hst:autoParam ((assignEach es X.env).findIdx? (·.1)=none) zau0):PG X (.Tuple es k pos) (af5 K n t):=by
 subst hK;exact nJ hc h hn hst
def tM(ys:List V)(ps:List cA):Bool:=(ys.zip ps).all λc=>dU c.1 0 (c.2.gap-1)
inductive j4(K:Fg)(H:Hp)(wk:Int)(ps:List cA):V->Bool->Prop
 |no {v:V} {k:Kd}:g8 K H v k->bi k .tuple=false->j4 K H wk ps v false
 |len {t:aB} {xs:List V}:H t=some (.tup xs)->xs.length≠2->j4 K H wk ps (.ref t) false
 |day {t:aB} {d s:V} {k:Kd}:H t=some (.tup [d,s])->g8 K H d k->dU d 0 (wk-1)=false->j4 K H wk ps (.ref t) false
 |sn {t:aB} {d s:V} {k:Kd}:H t=some (.tup [d,s])->dU d 0 (wk-1)=true->g8 K H s k->bi k .tuple=false->j4 K H wk ps (.ref t) false
 |sl {t s:aB} {d:V} {ys:List V}:H t=some (.tup [d,.ref s])->dU d 0 (wk-1)=true->H s=some (.tup ys)->ys.length≠ps.length->j4 K H wk ps (.ref t) false
 |all {t s:aB} {d:V} {ys:List V}:H t=some (.tup [d,.ref s])->dU d 0 (wk-1)=true->H s=some (.tup ys)->ys.length=ps.length->(∀y∈ys,∃k,g8 K H y k)->j4 K H wk ps (.ref t) (tM ys ps)
inductive Wx(K:Fg)(a:gB)(vs:List V)(H:Hp)(Q:VK)(jU:XK):Prop
 |mk:∀x g v b,vs=[.ref x,v]->fZ a H x g->g.pots.length<=8->j4 K H g.week g.pots v b->(∀H',Same H H'->Q (.bl b) H')->Wx K a vs H Q jU
theorem Kl:bY ["garden","value","day","since"] ["garden","value"] (aZ Ww):=d9 (by decide +kernel)
theorem zy(h:dU v l m=true):g8 K H v .int:=by
 obtain⟨i,rfl,_⟩:=jl h;exact⟨i,rfl⟩
theorem aaD(S:Kh K mg a dV):cM P w K mg base (fY P w) 2 a.V8 a.ab4 ["garden","value"] (Wx K a):=by
 refine S.ad9.F.lY Kl (λvs H Q E h=>?_) (λcdv A outer s H vs Q E hr h=>?_)
 ·obtain⟨x,g,v,b,rfl,_⟩:=h;rfl
 ·obtain⟨x,g,v,b,rfl,⟨dx,l,as,hx,hl,pt⟩,h8,sa,q⟩:=h;have Z:=S.Z;have T:=Z.G.T;have Rh:[("days":Str),"pot"].Nodup:=by decide +kernel
  refine⟨_,aL (dZ (pw_or (gh (eX (oK .tuple T.B.isinstance T.B.tuple (pv 1)))) (pw_or1 (cu Fw (eO bT T.B.len PySem.boot_len (ao (pv 1) aG)) aP (cN _)))).pt (aU (bU jW)) bZ) (aL (bL (i:=2) Kl.nd rfl (Or.inl rfl) (cH cQ (pv 1) aP (λ_ _=>rfl))) (aL (bL (i:=3) Kl.nd rfl (Or.inl rfl) (cH cQ (pv 1) aP (λ_ _=>rfl))) (aL (dZ (gh (eX (c7 T.okW hr T.mwh T.wh.F.kp T.wh.b bB (ao (pv 2) (ao aP (ao (cg pY (fJ (pv 0) rfl) aP) aG)))))) (aU (bU jW)) bZ) (aL (dZ (pw_or (gh (eX (oK .tuple T.B.isinstance T.B.tuple (pv 3)))) (pw_or1 (cu Fw (eO bT T.B.len PySem.boot_len (ao (pv 3) aG)) (eO bT T.B.len PySem.boot_len (ao (fJ (pv 0) rfl) aG)) (cN _)))).pt (aU (bU jW)) bZ) (aU (bU (eO (vR rfl) T.B.all boot_all (ao (gG bN rfl ⟨_,_,rfl,rfl,rfl⟩ (gY.plain (N':=["days","pot"]) rfl (by decide +kernel) (by decide +kernel)) (JD (by rfl) T.B.zip (ao (pv 3) (ao (fJ (pv 0) rfl) aG))) (λ_ _ _ _ _=>qH K (n:=2) rfl (cj (cR 0 Rh) (cj (cR 1 Rh) gK))) (λ_ _ _ _ _=>gM) (λ_ _ _ _ _ _=>c7 T.okW hr T.mwh T.wh.F.kp T.wh.b bB (ao (pv 0) (ao aP (ao (cg pY (wM K (pv 1)) aP) aG))))) aG)))))))),?_⟩;have la:as.length=g.pots.length:=Paired.length pt;have hL:cD K H l (as.map V.ref):=cD.of hl;cases sa with
  |no hk hb =>
   refine⟨_,rfl,v,_,rfl,hk,_,rfl,?_⟩;rw[hb];exact dB (dB (q H (Same.refl _)))
  | @len t xs h1 h2 =>
   refine⟨_,rfl,_,.tup,rfl,⟨t,_,rfl,h1⟩,_,rfl,cU ⟨_,rfl,t,_,rfl,.inr (dY.of h1),rfl,_,rfl,aea (by omega) (q H (Same.refl _))⟩⟩
  | @day t d s k h1 h2 h3 =>
   refine⟨_,rfl,_,.tup,rfl,⟨t,_,rfl,h1⟩,_,rfl,cU ⟨_,rfl,t,_,rfl,.inr (dY.of h1),rfl,_,rfl,Rg rfl ⟨_,rfl,t,_,0,d,rfl,rfl,dY.of h1,rfl,_,rfl,t,_,1,s,rfl,rfl,dY.of h1,rfl,?_⟩⟩⟩;refine⟨_,rfl,_,rfl,x,a.garden,dx,_,_,rfl,hx,Z.tG.cl,Z.nG _ (by simp),tL ..,_,_,rfl,rfl,d,0,g.week-1,k,rfl,h2,_,rfl,?_⟩;rw[h3];exact dB (q H (Same.refl _))
  | @sn t d s k h1 h2 h3 h4 =>
   refine⟨_,rfl,_,.tup,rfl,⟨t,_,rfl,h1⟩,_,rfl,cU ⟨_,rfl,t,_,rfl,.inr (dY.of h1),rfl,_,rfl,Rg rfl ⟨_,rfl,t,_,0,d,rfl,rfl,dY.of h1,rfl,_,rfl,t,_,1,s,rfl,rfl,dY.of h1,rfl,?_⟩⟩⟩;refine⟨_,rfl,_,rfl,x,a.garden,dx,_,_,rfl,hx,Z.tG.cl,Z.nG _ (by simp),tL ..,_,_,rfl,rfl,d,0,g.week-1,.int,rfl,zy h2,_,rfl,?_⟩;rw[h2];refine cU ⟨_,rfl,s,k,rfl,h3,_,rfl,?_⟩;rw[h4];exact dB (dB (q H (Same.refl _)))
  | @sl t s d ys h1 h2 h3 h4 =>
   refine⟨_,rfl,_,.tup,rfl,⟨t,_,rfl,h1⟩,_,rfl,cU ⟨_,rfl,t,_,rfl,.inr (dY.of h1),rfl,_,rfl,Rg rfl ⟨_,rfl,t,_,0,d,rfl,rfl,dY.of h1,rfl,_,rfl,t,_,1,.ref s,rfl,rfl,dY.of h1,rfl,?_⟩⟩⟩;refine⟨_,rfl,_,rfl,x,a.garden,dx,_,_,rfl,hx,Z.tG.cl,Z.nG _ (by simp),tL ..,_,_,rfl,rfl,d,0,g.week-1,.int,rfl,zy h2,_,rfl,?_⟩;rw[h2];refine cU ⟨_,rfl,.ref s,.tup,rfl,⟨s,_,rfl,h3⟩,_,rfl,cU ⟨_,rfl,s,_,rfl,.inr (dY.of h3),_,rfl,x,a.garden,dx,_,_,rfl,hx,Z.tG.cl,Z.nG _ (by simp),lB ..,l,_,rfl,.inl hL,rfl,_,rfl,?_⟩⟩;exact aea (by rw[ak,la];omega) (q H (Same.refl _))
  | @all t s d ys h1 h2 h3 h4 h5 =>
   refine⟨_,rfl,_,.tup,rfl,⟨t,_,rfl,h1⟩,_,rfl,cU ⟨_,rfl,t,_,rfl,.inr (dY.of h1),rfl,_,rfl,Rg rfl ⟨_,rfl,t,_,0,d,rfl,rfl,dY.of h1,rfl,_,rfl,t,_,1,.ref s,rfl,rfl,dY.of h1,rfl,?_⟩⟩⟩;refine⟨_,rfl,_,rfl,x,a.garden,dx,_,_,rfl,hx,Z.tG.cl,Z.nG _ (by simp),tL ..,_,_,rfl,rfl,d,0,g.week-1,.int,rfl,zy h2,_,rfl,?_⟩;rw[h2];refine cU ⟨_,rfl,.ref s,.tup,rfl,⟨s,_,rfl,h3⟩,_,rfl,cU ⟨_,rfl,s,_,rfl,.inr (dY.of h3),_,rfl,x,a.garden,dx,_,_,rfl,hx,Z.tG.cl,Z.nG _ (by simp),lB ..,l,_,rfl,.inl hL,rfl,_,rfl,Rg (by rw[ak,la,h4]) ?_⟩⟩;refine⟨_,rfl,_,rfl,x,a.garden,dx,_,_,rfl,hx,Z.tG.cl,Z.nG _ (by simp),lB ..,s,l,ys,_,rfl,dY.of h3,hL,λD hD=>?_⟩;refine xV ys.length (bx (by omega:ys.length<=8) (by decide)) (λi=>.bl (((ys.zip g.pots)[i]?.map λc=>dU c.1 0 (c.2.gap-1)).getD true)) (λi H'=>H' D=some (.lst ((List.range i).map λi=>V.bl (((ys.zip g.pots)[i]?.map λc=>dU c.1 0 (c.2.gap-1)).getD true)))/\Same H H') ⟨aF,aV hD⟩ (λi H' _ e=>e.1) (λH' e=>⟨?_,?_⟩) (λi H' lt e=>⟨?_,?_⟩)
   ·exact⟨ys,_,dY.of (e.2 _ _ h3),e.2.seq hL,.inl (aO _)⟩
   ·refine⟨D,(List.range ys.length).map λi=>(((ys.zip g.pots)[i]?.map λc=>dU c.1 0 (c.2.gap-1)).getD true),rfl,cD.of (by rw[e.1,gj];rfl),?_⟩;have ez:((List.range ys.length).map λi=>(((ys.zip g.pots)[i]?.map λc=>dU c.1 0 (c.2.gap-1)).getD true)).all id=tM ys g.pots:=by
     have lz:(ys.zip g.pots).length=ys.length:=by rw[length_zip];omega
     have:=all_range ((ys.zip g.pots).map λc=>dU c.1 0 (c.2.gap-1));rw[ak,lz]at this;rw[all_map]at this⊢;refine Eq.trans ?_ this
     congr 1
     funext i
     simp
    rw[ez];exact q _ e.2
   ·have l2:i<(as.map V.ref).length:=by rw[ak];omega
    exact⟨ys,as.map V.ref,ys[i],(as.map V.ref)[i],dY.of (e.2 _ _ h3),e.2.seq hL,by simp[lt],by simp[l2]⟩
   ·rintro y sZ ⟨t2,Ny,rfl,hu⟩ Qc k;obtain⟨hd,s1⟩:=e;have lb:i<as.length:=by omega
    have hb:as[i]?=some as[i]:=aA lb;obtain⟨p,hp,pb⟩:=dW pt hb;have hy:ys[i]?=some ys[i]:=aA lt;have hbm:(as.map V.ref)[i]?=some (.ref as[i]):=by rw[aJ,hb];rfl
    have e2:=hu ys _ ys[i] (.ref as[i]) (dY.of (s1 _ _ h3)) (s1.seq hL) hy hbm;subst e2;have s2:=s1.trans (aV (o:=.tup [ys[i],V.ref as[i]]) Ny);obtain⟨ky,hky⟩:=h5 ys[i] (List.getElem_mem lt);obtain⟨dy,hb'⟩:=pb.same s2;have cT:=T.cls p.jE;refine⟨t2,_,rfl,dY.of aF,rfl,_,_,rfl,_,_,rfl,rfl,gD,_,rfl,_,rfl,as[i],p.cls a,dy,_,_,rfl,hb',cT.1.cl,cT.2 _ (by simp),p.wU,_,_,rfl,rfl,ys[i],0,p.gap-1,ky,rfl,hky.same s2,?_⟩;have hz:(ys.zip g.pots)[i]?=some (ys[i],p):=by rw[List.getElem?_zip_eq_some];exact⟨hy,hp⟩
    have k':=k (upd H' t2 (.tup [ys[i],V.ref as[i]])) (by rw[bf (dN hd Ny)];exact hd) ⟨aF,ji s2 hD⟩;rw[hz]at k';exact k'
inductive Nz(K:Fg)(a:gB)(vs:List V)(H:Hp)(Q:VK)(E:XK):Prop
 |mk:∀x g v b,vs=[.ref x,v]->fZ a H x g->g.pots.length<=8->j4 K H g.week g.pots v b->((b=false->∀H',Same H H'->E (.ref a.dX) none H'))->((b=true->∀H',Same H H'->Q .non H'))->Nz K a vs H Q E
theorem aaE:bY ["garden","value"] ["garden","value"] (aZ Kg):=d9 (by decide +kernel)
theorem uT(S:Kh K mg a dV):cM P w K mg base (fY P w) 3 a.J7 a.Wc ["garden","value"] (Nz K a):=by
 refine S.ref.F.lY aaE (λvs H Q E h=>?_) (λcdv A outer s H vs Q E hr h=>?_)
 ·obtain⟨x,g,v,b,rfl,_⟩:=h;rfl
 ·obtain⟨x,g,v,b,rfl,gx,h8,sa,bad,good⟩:=h;refine⟨_,aU (dZ (gh (eX (c7 (aaD S) hr S.ahe S.ad9.F.kp S.ad9.b bB (ao (pv 0) (ao (pv 1) aG))))) (aU (iI bN rfl (by rfl) S.aaC.m S.aaC.q PySem.F.excBase_ValueError (ao eY aG))) bZ),?_⟩;refine⟨_,rfl,_,rfl,x,g,v,b,rfl,gx,h8,sa,λH1 s1=>⟨_,rfl,?_⟩⟩;cases b with
  |false=>exact dB ⟨by show 1<=sizeLine;decide,bad rfl H1 s1⟩
  |true=>exact cU (good rfl H1 s1)
def jy(H:Hp)(v:V)(d:Int)(ds:List Int):Prop:=∃t s,v=.ref t/\H t=some (.tup [.int d,.ref s])/\H s=some (.tup (ds.map V.int))
structure jf(wk:Int)(ps:List cA)(d:Int)(ds:List Int):Prop where
 d0:0<=d
 d1:d<wk
 len:ds.length=ps.length
 at_:∀(i:Nat)(y:Int)(p:cA),ds[i]?=some y->ps[i]?=some p->0<=y/\y<p.gap
theorem jy.same(h:jy H v d ds)(s:Same H H'):jy H' v d ds:=by
 obtain⟨t,u,e,h1,h2⟩:=h;exact⟨t,u,e,s _ _ h1,s _ _ h2⟩
theorem wX:∀{ys:List V}{ps:List cA},ys.length=ps.length->tM ys ps=true->∃ds:List Int,ys=ds.map V.int/\∀(i:Nat)(y:Int)(p:cA),ds[i]?=some y->ps[i]?=some p->0<=y/\y<p.gap
 |[],_,_,_=>⟨[],rfl,λi y p h=>by simp at h⟩
 |y::ys,[],h,_=>by simp at h
 |y::ys,p::ps,h,z=>by
  have z':(dU y 0 (p.gap-1)&&tM ys ps)=true:=z;rw[Bool.and_eq_true]at z';obtain⟨i,rfl,h1,h2⟩:=jl z'.1;obtain⟨ds,rfl,hd⟩:=wX (by simpa using h) z'.2;refine⟨i::ds,rfl,λj y q hy hq=>?_⟩;cases j with
  |zero=>cases hy;cases hq;exact⟨h1,by omega⟩
  |succ j=>exact hd j y q hy hq
theorem BX:∀{ds:List Int}{ps:List cA},ds.length=ps.length->(∀(i:Nat)(y:Int)(p:cA),ds[i]?=some y->ps[i]?=some p->0<=y/\y<p.gap)->tM (ds.map V.int) ps=true
 |[],_,_,_=>rfl
 |y::ds,[],h,_=>by simp at h
 |y::ds,p::ps,h,z=>by
  show(dU (.int y) 0 (p.gap-1)&&tM (ds.map V.int) ps)=true
  rw[BX (by simpa using h) λi y q h1 h2=>z (i+1) y q h1 h2];obtain⟨h1,h2⟩:=z 0 y p rfl rfl;have h3:y<=p.gap-1:=by omega
  simp[dU,h1,h3]
theorem j4.good(h:j4 K H wk ps v true):∃d ds,jy H v d ds/\jf wk ps d ds:=by
 generalize e:true=b at h;cases h with
 |no=>cases e
 |len=>cases e
 |day=>cases e
 |sn=>cases e
 |sl=>cases e
 | @all t s d ys h1 h2 h3 h4 h5 =>
  obtain⟨i,rfl,i0,i1⟩:=jl h2;obtain⟨ds,rfl,hd⟩:=wX h4 e.symm;exact⟨i,ds,⟨t,s,rfl,h1,h3⟩,i0,by omega,by simpa using h4,hd⟩
theorem jy.arg(h:jy H v d ds)(ok:jf wk ps d ds):j4 K H wk ps v true:=by
 obtain⟨t,s,rfl,h1,h2⟩:=h;have e:tM (ds.map V.int) ps=true:=BX ok.len ok.at_;rw[<- e];refine .all h1 ?_ h2 (by rw[ak];exact ok.len) λy hy=>?_
 ·have:=ok.d0;have:=ok.d1;have h3:d<=wk-1:=by omega
  simp[dU,ok.d0,h3]
 ·obtain⟨i,_,rfl⟩:=bM.mp hy;exact⟨.int,i,rfl⟩
theorem jy.one(h:jy H v d ds)(h':jy H v d' ds'):d=d'/\ds=ds':=by
 obtain⟨t,s,rfl,h1,h2⟩:=h;obtain⟨t',s',e,h1',h2'⟩:=h';cases e;rw[h1]at h1';cases h1';rw[h2]at h2';injection h2' with h2';injection h2' with h2';exact⟨rfl,(List.map_inj_right (λ_ _ z=>by injection z)).mp h2'⟩
def numOf(d:Int)(ps:List cA)(ds:List Int):Int:=(ps.zip ds).foldl (λc q=>c*q.1.gap+q.2) d
inductive acf(K:Fg)(a:gB)(vs:List V)(H:Hp)(Q:VK)(E:XK):Prop
 |mk:∀x g v b,vs=[.ref x,v]->fZ a H x g->(∀p∈g.pots,p.Ok)->g.pots.length<=8->j4 K H g.week g.pots v b->((b=false->∀H',Same H H'->E (.ref a.dX) none H'))->((b=true->∀d ds H',jy H v d ds->jf g.week g.pots d ds->Same H H'->Q (.int (numOf d g.pots ds)) H'))->acf K a vs H Q E
theorem G7:bY ["self","state","count","days","pot"] ["self","state"] (aZ ad7):=d9 (by decide +kernel)
theorem aeb(S:Kh K mg a dV):cM P w K mg base (fY P w) 4 a.V9 a.aat ["self","state"] (acf K a):=by
 refine S.num.F.lY G7 (λvs H Q E h=>?_) (λcdv A outer s H vs Q E hr h=>?_)
 ·obtain⟨x,g,v,b,rfl,_⟩:=h;rfl
 ·obtain⟨x,g,v,b,rfl,gx,nu,h8,sa,bad,good⟩:=h;have Z:=S.Z;have T:=Z.G.T;refine⟨_,aL (gJ (c7 (uT S) hr S.aaB S.ref.F.kp S.ref.b (dJ bN) (ao (pv 0) (ao (pv 1) aG)))) (aL (bL (i:=2) G7.nd rfl (Or.inl rfl) (cH cQ (pv 1) aP (λ_ _=>rfl))) (aL (ju fM rfl (JD (by rfl) T.B.zip (ao (cH cQ (pv 1) aP (λ_ _=>rfl)) (ao (fJ (pv 0) rfl) aG))) (nJ rfl (cj (cR 3 G7.nd) (cj (cR 4 G7.nd) gK))) (aU (bL (i:=2) G7.nd rfl (Or.inl rfl) (cg gw (cg rW (pv 2) (fJ (pv 4) rfl)) (pv 3))))) (aU (bU (pv 2))))),?_⟩;refine⟨_,rfl,_,rfl,x,g,v,b,rfl,gx,h8,sa,λeb H1 s1=>bad eb H1 s1,λeb H1 s1=>?_⟩;subst eb;obtain⟨d,ds,sv,ok⟩:=sa.good;have sv1:=sv.same s1;have Y5:=gx.same s1;obtain⟨t,u,rfl,ht,hu⟩:=sv1;obtain⟨dx,l,as,hx,hl,pt⟩:=Y5;have la:as.length=g.pots.length:=Paired.length pt;have ln:=ok.len;have hL:cD K H1 l (as.map V.ref):=cD.of hl;refine⟨_,rfl,t,_,0,.int d,rfl,rfl,dY.of ht,rfl,_,rfl,t,_,1,.ref u,rfl,rfl,dY.of ht,rfl,_,rfl,x,a.garden,dx,_,_,rfl,hx,Z.tG.cl,Z.nG _ (by simp),lB ..,u,l,_,_,rfl,dY.of hu,hL,?_⟩;refine MJ (K:=K) (l:=u) (m:=l) (xs:=ds.map V.int) (ys:=as.map V.ref) (λi σ H'=>∃y z,σ=[some (.ref x),some (.ref t),some (.int (numOf d (g.pots.take i) (ds.take i))),y,z]/\Same H1 H') (by rw[ak,ak];omega) ⟨none,none,rfl,Same.refl _⟩ (λi σ H' _ ⟨_,_,_,s'⟩=>⟨dY.of (s' _ _ hu),s'.seq hL⟩) ?_ ?_
  ·rintro i y b' T2 σ H2 hy hb0 ⟨z1,z2,rfl,s2⟩ hT2;rw[aJ]at hy hb0;obtain⟨n,hn,rfl⟩:=bh.mp hy;obtain⟨b,hb,rfl⟩:=bh.mp hb0;obtain⟨p,hp,pb⟩:=dW pt hb;have s3:=s2.trans (aV (o:=.tup [V.int n,.ref b]) hT2);obtain⟨dy,hb'⟩:=pb.same s3;have Ke:=nu p (aQ hp);have cT:=T.cls p.jE;refine⟨T2,_,rfl,dY.of aF,rfl,_,_,rfl,_,_,rfl,rfl,?_⟩;refine⟨_,rfl,_,rfl,b,p.cls a,dy,_,_,rfl,hb',cT.1.cl,cT.2 _ (by simp),p.wU,_,_,rfl,rfl,.inr ⟨by have:=Ke.gap;omega,by have:=Ke.gap;omega⟩,_,rfl,_,_,rfl,rfl,?_⟩;refine⟨some (.int n),some (.ref b),?_,s3⟩;have e:numOf d (g.pots.take (i+1)) (ds.take (i+1))=numOf d (g.pots.take i) (ds.take i)*p.gap+n:=by
    have l1:(g.pots.take i).length=(ds.take i).length:=by rw[length_take,length_take];omega
    rw[take_snoc hp,take_snoc hn,numOf,numOf,List.zip_append l1,List.foldl_append];rfl
   rw[e];rfl
  ·rintro σ H2 ⟨y,z,rfl,s2⟩;refine⟨_,rfl,?_⟩;have q:=good rfl d ds H2 sv ok (s1.trans s2);rw[ak,cL,ln,cL];exact q
abbrev DX:dI:=top 3
abbrev yc:dI:=top 32
abbrev NP:dI:=top 33
abbrev yd:dI:=inClass (top 16) 1
abbrev yg:dI:=inClass (top 17) 1
abbrev Wy:dI:=top 34
abbrev Wz:dI:=top 35
abbrev qI:dI:=top 36
structure xK(K:Fg)(mg:Str->Option aC)(a:gB)(dV:aC):Prop where
 S:Kh K mg a dV
 ahf:∃f fd,Fn K "is_set" "is_set" DX ["number","bit"] f fd/\mg "is_set"=some (.ref f)
 con:∃f fd,Fn K "cans_on" "cans_on" yc ["garden","day"] f fd/\mg "cans_on"=some (.ref f)
 ahg:∃f fd,Fn K "day_behind" "day_behind" NP ["garden","day"] f fd/\mg "day_behind"=some (.ref f)
 alg:∃f fd,Fn K "may" "Pot.may" yd ["self","since"] f fd/\Meth K a.pot "may" f
 alh:∃f fd,Fn K "may" "Cactus.may" yg ["self","since"] f fd/\Meth K a.cV "may" f
 wow:∃f fd,Fn K "without_water" "without_water" Wy ["parts","pot","since"] f fd/\mg "without_water"=some (.ref f)
 wiw:∃f fd,Fn K "with_water" "with_water" Wz ["parts","pot","since","bit"] f fd/\mg "with_water"=some (.ref f)
 cho:∃f fd,Fn K "choices" "choices" qI ["garden","state"] f fd/\mg "choices"=some (.ref f)
inductive yh(vs:List V)(H:Hp)(Q:VK)(jU:XK):Prop
 |mk:∀n b:Int,vs=[.int n,.int b]->0<=b->Q (.bl (gR n b)) H->yh vs H Q jU
theorem aaF:bY ["number","bit"] ["number","bit"] (aZ DX):=d9 (by decide +kernel)
theorem aaG :decide (V.int i=V.int j)=decide (i=j):=by
 by_cases h:i=j
 ·rw[aK h,aK (by rw[h])]
 ·rw[aD h,aD (λz=>h (by injection z))]
theorem G8(F:mH K "is_set" "is_set" DX f fd):cM P w K mg base (fY P w) 1 f fd ["number","bit"] yh:=by
 refine F.lY aaF (λvs H Q E h=>?_) (λcdv A outer s H vs Q E hr h=>?_)
 ·obtain⟨n,b,rfl,_⟩:=h;rfl
 ·obtain⟨n,b,rfl,b0,q⟩:=h;refine⟨_,aU (bU (lO iQ (cg CP (cg CN (pv 0) (pv 1)) aP) aP (cN _))),?_⟩;refine⟨_,rfl,_,rfl,_,_,rfl,rfl,b0,_,_,rfl,rfl,rfl,?_⟩;rw[aaG];exact q
inductive uU(a:gB)(vs:List V)(H:Hp)(Q:VK)(jU:XK):Prop
 |mk:∀x g d,vs=[.ref x,.int d]->fZ a H x g->0<=d->Q (.int (if gR g.closed d then 0 else g.cans)) H->uU a vs H Q jU
theorem WD:bY ["garden","day"] ["garden","day"] (aZ yc):=d9 (by decide +kernel)
theorem BZ(F:mH K "cans_on" "cans_on" yc f fd)(W:xK K mg a dV):cM P w K mg base (fY P w) 2 f fd ["garden","day"] (uU a):=by
 refine F.lY WD (λvs H Q E h=>?_) (λcdv A outer s H vs Q E hr h=>?_)
 ·obtain⟨x,g,d,rfl,_⟩:=h;rfl
 ·obtain⟨x,g,d,rfl,⟨dx,l,as,hx,hl,pt⟩,d0,q⟩:=h;have Z:=W.S.Z;obtain⟨fi,di,iF,mI⟩:=W.ahf;have Ri:cM P w K mg base (fY P w) 1 fi di ["number","bit"] yh:=G8 iF.F;refine⟨_,aU (bU (nH (eX (c7 Ri hr mI iF.F.kp iF.b bB (ao (fJ (pv 0) rfl) (ao (pv 1) aG)))) aP (fJ (pv 0) rfl))),?_⟩;refine⟨_,rfl,x,a.garden,dx,_,_,rfl,hx,Z.tG.cl,Z.nG _ (by simp),G5 ..,_,rfl,_,_,rfl,d0,_,rfl,?_⟩;cases e:gR g.closed d with
  |true=>rw[e]at q;exact dB q
  |false=>rw[e]at q;exact cU ⟨_,rfl,x,a.garden,dx,_,_,rfl,hx,Z.tG.cl,Z.nG _ (by simp),Wo ..,q⟩
inductive DY(a:gB)(vs:List V)(H:Hp)(Q:VK)(jU:XK):Prop
 |mk:∀x g d,vs=[.ref x,.int d]->fZ a H x g->0<g.week->Q (.int ((d+1) % g.week)) H->DY a vs H Q jU
theorem aec:bY ["garden","day"] ["garden","day"] (aZ NP):=d9 (by decide +kernel)
theorem NQ(F:mH K "day_behind" "day_behind" NP f fd)(W:xK K mg a dV):cM P w K mg base (fY P w) 1 f fd ["garden","day"] (DY a):=by
 refine F.lY aec (λvs H Q E h=>?_) (λcdv A outer s H vs Q E hr h=>?_)
 ·obtain⟨x,g,d,rfl,_⟩:=h;rfl
 ·obtain⟨x,g,d,rfl,⟨dx,l,as,hx,hl,pt⟩,w0,q⟩:=h;have Z:=W.S.Z;refine⟨_,aU (bU (cg gO (cg gw (pv 1) aP) (fJ (pv 0) rfl))),?_⟩;exact⟨_,rfl,_,_,rfl,rfl,_,rfl,x,a.garden,dx,_,_,rfl,hx,Z.tG.cl,Z.nG _ (by simp),tL ..,_,_,rfl,rfl,w0,q⟩
def zA(p:cA)(s:Int):Bool:=match p.rest with
 |none=>true
 |some r=>decide (r<=s)
inductive Ca(a:gB)(C:aB)(vs:List V)(H:Hp)(Q:VK)(jU:XK):Prop
 |mk:∀x p s,vs=[.ref x,.int s]->p.cls a=C->mQ a H x p->Q (.bl (zA p s)) H->Ca a C vs H Q jU
theorem ali:bY ["self","since"] ["self","since"] (aZ yd):=d9 (by decide +kernel)
theorem alj:bY ["self","since"] ["self","since"] (aZ yg):=d9 (by decide +kernel)
theorem Rj(F:mH K "may" "Pot.may" yd f fd)(T:o8 K mg a):cM P w K mg base (fY P w) 1 f fd ["self","since"] (Ca a a.pot):=by
 refine F.lY ali (λvs H Q E h=>?_) (λcdv A outer s H vs Q E hr h=>?_)
 ·obtain⟨x,p,n,rfl,_⟩:=h;rfl
 ·obtain⟨x,p,n,rfl,hc,px,q⟩:=h;refine⟨_,aU (bU jW),?_⟩;have e:zA p n=true:=by
   unfold zA;cases e:p.rest with
   |none=>rfl
   |some r=>rw[cA.cls,e]at hc;exact absurd hc.symm T.ne
  rw[e]at q;exact q
theorem Rk(F:mH K "may" "Cactus.may" yg f fd)(T:o8 K mg a):cM P w K mg base (fY P w) 1 f fd ["self","since"] (Ca a a.cV):=by
 refine F.lY alj (λvs H Q E h=>?_) (λcdv A outer s H vs Q E hr h=>?_)
 ·obtain⟨x,p,n,rfl,_⟩:=h;rfl
 ·obtain⟨x,p,n,rfl,hc,⟨dx,hx⟩,q⟩:=h;refine⟨_,aU (bU (lO agc (pv 1) (fJ (pv 0) rfl) (cN _))),?_⟩;obtain⟨r,er⟩:∃r,p.rest=some r:=by
   cases e:p.rest with
   |none=>rw[cA.cls,e]at hc;exact absurd hc T.ne
   |some r=>exact⟨r,rfl⟩
  have lr:p.fs.lookup ("rest":Str)=some (.int r):=by simp only[cA.fs,er];exact Nu _ _ _
  rw[hc]at hx;have e:zA p n=decide (r<=n):=by unfold zA;rw[er]
  rw[e]at q;exact⟨_,rfl,_,rfl,x,a.cV,dx,_,_,rfl,hx,T.tC.cl,T.nC _ (by simp),lr,_,_,rfl,rfl,q⟩
theorem xK.may(W:xK K mg a dV):∀C,(C=a.pot\/C=a.cV)->∃f fd,Cls K C/\Meth K C "may" f/\cM P w K mg base (fY P w) 1 f fd ["self","since"] (Ca a C)/\Binds K fd ["self","since"] []:=by
 intro C h;have T:=W.S.Z.G.T;rcases h with rfl|rfl
 ·obtain⟨f,fd,F,m⟩:=W.alg;exact⟨f,fd,T.tP.cl,m,Rj F.F T,F.b⟩
 ·obtain⟨f,fd,F,m⟩:=W.alh;exact⟨f,fd,T.tC.cl,m,Rk F.F T,F.b⟩
abbrev zB:Rep (Int×Int×List Int):=MP oM oM (Bv oM)
theorem jJ:wN zB:=Gz iY iY (uG iY)
def Cd(p:cA):Int:=match p.rest with
 |none=>-1
 |some r=>r
def uV(p:cA)(s:Int):Cp:=⟨s,p.gap,Cd p⟩
theorem nZ{r:St}:nU (none::none::none::r) ((((none::none::none::r).set 0 x).set 1 y).set 2 z):=by
 intro j v h
 match j,h with
 |0,h=>simp at h
 |1,h=>simp at h
 |2,h=>simp at h
 |j+3,h=>exact h
theorem ints_snoc(p:Paired (oM H) vs b)(n:Int):Paired (oM H') (vs++[.int n]) (b++[n]):=Paired.snoc (Paired.iB p λ_ _ z=>z) rfl
inductive WK(a:gB)(vs:List V)(H:Hp)(Q:VK)(jU:XK):Prop
 |mk:∀l parts x p s,vs=[.ref l,.ref x,.int s]->jD zB H (.ref l) parts->parts.length<=1000->(∀q∈parts,q.2.2.length<=100)->mQ a H x p->(∀H' l',Same H H'->jD zB H' (.ref l') (U5 (uV p s) parts)->Q (.ref l') H')->WK a vs H Q jU
theorem ahh:bY ["parts","pot","since"] ["parts","pot","since"] (aZ Wy):=d9 (by decide +kernel)
theorem aed(F:mH K "without_water" "without_water" Wy f fd)(W:xK K mg a dV):cM P w K mg base (fY P w) 1 f fd ["parts","pot","since"] (WK a):=by
 refine F.lY ahh (λvs H Q E h=>?_) (λcdv A outer s H vs Q E hr h=>?_)
 ·obtain⟨l,parts,x,p,n,rfl,_⟩:=h;rfl
 ·obtain⟨l,parts,x,p,n,rfl,hl,lz,lb,⟨dx,hx⟩,q⟩:=h;have T:=W.S.Z.G.T;have WL:[("choice":Str),"cans","behind","since"].Nodup:=by decide +kernel
  refine⟨_,aL (dZ (cu iQ (cg gw (pv 2) aP) (fJ (pv 1) rfl) (cN _)) (aU (bU (gH aG))) bZ) (aU (bU (gG bN rfl ⟨_,_,rfl,rfl,rfl⟩ (iw (N':=["choice","cans","behind","since"]) (cl:=[("since",s.heap.objs.size+1)]) [none,none,none,some 2] ["parts","pot","since"] (aZ Wy).names [(".0",.local),("choice",.local),("cans",.local),("behind",.local),("since",.cell)] ["since"] rfl (by decide +kernel) (by decide +kernel) rfl (λp hp=>by rw[aH.mp hp];rfl) rfl rfl rfl rfl (by decide +kernel) rfl (by decide +kernel)) (fK (pv 0)) (λ_ _ _ _ _=>qH K (n:=3) rfl (cj (cR 0 WL) (cj (cR 1 WL) (cj (cR 2 WL) gK)))) (λ_ _ _ _ _=>gM) (λ_ _ _ _ _ _=>d8 (ao (pv 0) (ao (pv 1) (ao (cg M4 (pv 2) (d8 (ao (cg gw (pv 3) aP) aG))) aG))))))),?_⟩;have cT:=T.cls p.jE;have big:1000<=sizeLine:=by decide
  refine⟨_,rfl,_,_,rfl,rfl,_,rfl,x,p.cls a,dx,_,_,rfl,hx,cT.1.cl,cT.2 _ (by simp),p.wU,rfl,_,rfl,?_⟩
  by_cases z:n+1=p.gap
  ·refine eqT z ⟨by show 0<=sizeLine;decide,λl' hl'=>q _ l' (aV hl') ?_⟩;have e:U5 (uV p n) parts=[]:=if_pos z;rw[e];exact⟨l',[],rfl,aF,.nil⟩
  ·have e:U5 (uV p n) parts=parts.map λq=>(q.1,q.2.1,q.2.2++[n+1]):=if_neg z
   obtain⟨l0,vs,el,hv,pv0⟩:=id hl;cases el;refine eqF z ⟨_,rfl,l,rfl,⟨_,cD.of hv⟩,λD hD=>nW jJ jJ (λq=>(q.1,q.2.1,q.2.2++[n+1])) hl (by omega) hD ?_ (λH' s' r=>q H' D s' (by rw[e];exact r))⟩;rintro i c v H2 hc ⟨t,u1,u2,u3,rfl,ht,r1,r2,tb,bs,r3,hb,pb⟩ s2 Qc k;cases r1;cases r2;subst r3;have lc:=lb c (aQ hc);refine⟨t,_,rfl,dY.of ht,rfl,_,_,rfl,_,_,rfl,_,_,rfl,rfl,nZ,_,rfl,_,rfl,_,rfl,_,rfl,_,_,rfl,rfl,by show 1<=sizeLine;decide,λt1 h1=>?_⟩;have v1:=aV (o:=.tup [V.int (n+1)]) h1;refine⟨tb,t1,bs,_,rfl,rfl,v1 _ _ hb,aF,by rw[Paired.length pb];show c.2.2.length+1<=sizeLine;omega,λp2 H3 s3 hp2=>⟨by show 3<=sizeLine;decide,λt2 h2=>?_⟩⟩;have v2:=aV (o:=.tup [V.int c.1,.int c.2.1,.ref p2]) h2;exact k _ _ ((v1.trans s3).trans v2) ⟨t2,_,_,_,rfl,aF,rfl,rfl,p2,_,rfl,v2 _ _ hp2,ints_snoc pb (n+1)⟩
theorem G9(h:0<=s):zA p s=decide (Cd p<=s):=by
 unfold zA Cd;cases p.rest with
 |none=>exact(aK (show(-1:Int)<=s by omega)).symm
 |some r=>rfl
inductive WM(a:gB)(vs:List V)(H:Hp)(Q:VK)(jU:XK):Prop
 |mk:∀l parts x p s bit,vs=[.ref l,.ref x,.int s,.int bit]->jD zB H (.ref l) parts->parts.length<=1000->(∀q∈parts,q.2.2.length<=100)->mQ a H x p->0<=s->(∀H' l',Same H H'->jD zB H' (.ref l') (U6 (uV p s) bit parts)->Q (.ref l') H')->WM a vs H Q jU
theorem ahi:bY ["parts","pot","since","bit"] ["parts","pot","since","bit"] (aZ Wz):=d9 (by decide +kernel)
theorem aee(F:mH K "with_water" "with_water" Wz f fd)(W:xK K mg a dV):cM P w K mg base (fY P w) 2 f fd ["parts","pot","since","bit"] (WM a):=by
 refine F.lY ahi (λvs H Q E h=>?_) (λcdv A outer s H vs Q E hr h=>?_)
 ·obtain⟨l,parts,x,p,n,bit,rfl,_⟩:=h;rfl
 ·obtain⟨l,parts,x,p,n,bit,rfl,hl,lz,lb,⟨dx,hx⟩,n0,q⟩:=h;have T:=W.S.Z.G.T;have WL:[("choice":Str),"cans","behind","bit"].Nodup:=by decide +kernel
  refine⟨_,aL (dZ (gh (eX (yR (Cs:=λC=>C=a.pot\/C=a.cV) (sp:=Ca a) (pv 1) hr W.may bB (ao (pv 2) aG)))) (aU (bU (gH aG))) bZ) (aU (bU (gG bN rfl ⟨_,_,rfl,rfl,rfl⟩ (iw (N':=["choice","cans","behind","bit"]) (cl:=[("bit",s.heap.objs.size+1)]) [none,none,none,some 3] ["parts","pot","since","bit"] (aZ Wz).names [(".0",.local),("choice",.local),("cans",.local),("behind",.local),("bit",.cell)] ["bit"] rfl (by decide +kernel) (by decide +kernel) rfl (λp hp=>by rw[aH.mp hp];rfl) rfl rfl rfl rfl (by decide +kernel) rfl (by decide +kernel)) (fK (pv 0)) (λ_ _ _ _ _=>qH K (n:=3) rfl (cj (cR 0 WL) (cj (cR 1 WL) (cj (cR 2 WL) gK)))) (λ_ _ _ _ _=>mZ (cu Ba (pv 1) aP (cN _))) (λ_ _ _ _ _ _=>d8 (ao (cg gw (pv 0) (pv 3)) (ao (cg pY (pv 1) aP) (ao (cg M4 (pv 2) (d8 (uq [.int 0] rfl))) aG))))))),?_⟩;have big:1000<=sizeLine:=by decide
  refine⟨_,rfl,x,p.cls a,dx,_,rfl,hx,p.jE,p.adS (by decide +kernel) (by decide +kernel) (by decide +kernel),_,rfl,x,p,n,rfl,rfl,⟨dx,hx⟩,_,rfl,?_⟩;rw[G9 n0]
  by_cases z:Cd p<=n
  ·rw[aK z];have e:U6 (uV p n) bit parts=(parts.filter λq=>decide (0<q.2.1)).map λq=>(q.1+bit,q.2.1-1,q.2.2++[0]):=if_pos z
   obtain⟨l0,vs,el,hv,pv0⟩:=id hl;cases el;refine cU ⟨_,rfl,l,rfl,⟨_,cD.of hv⟩,λD hD=>yV jJ jJ (λq=>decide (0<q.2.1)) (λq=>(q.1+bit,q.2.1-1,q.2.2++[0])) hl (by omega) hD ?_ (λH' s' r=>q H' D s' (by rw[e];exact r))⟩;rintro i c v H2 hc ⟨t,u1,u2,u3,rfl,ht,r1,r2,tb,bs,r3,hb,pb⟩ s2 Qc Qn k kn;cases r1;cases r2;subst r3;have lc:=lb c (aQ hc);refine⟨t,_,rfl,dY.of ht,rfl,_,_,rfl,_,_,rfl,_,_,rfl,rfl,nZ,_,rfl,_,_,rfl,rfl,_,rfl,?_⟩
   by_cases z2:0<c.2.1
   ·rw[aK z2];refine dB ⟨_,rfl,_,rfl,_,_,rfl,rfl,_,rfl,_,_,rfl,rfl,_,rfl,by show 1<=sizeLine;decide,λt1 h1=>?_⟩;have v1:=aV (o:=.tup [V.int 0]) h1;refine⟨tb,t1,bs,_,rfl,rfl,v1 _ _ hb,aF,by rw[Paired.length pb];show c.2.2.length+1<=sizeLine;omega,λp2 H3 s3 hp2=>⟨by show 3<=sizeLine;decide,λt2 h2=>?_⟩⟩;have v2:=aV (o:=.tup [V.int (c.1+bit),.int (c.2.1-1),.ref p2]) h2;exact k (aK z2) _ _ ((v1.trans s3).trans v2) ⟨t2,_,_,_,rfl,aF,rfl,rfl,p2,_,rfl,v2 _ _ hp2,ints_snoc pb 0⟩
   ·rw[aD z2];exact cU (kn (aD z2) _ (Same.refl _))
  ·rw[aD z];have e:U6 (uV p n) bit parts=[]:=if_neg z;refine dB ⟨by show 0<=sizeLine;decide,λl' hl'=>q _ l' (aV hl') ?_⟩;rw[e];exact⟨l',[],rfl,aF,.nil⟩
abbrev jc:Rep (Int×List Int):=Gw oM (Bv oM)
abbrev xM:Rep (Int×Int×List Int):=Gw oM jc
theorem j5:wN xM:=uH iY (uH iY (uG iY))
theorem jd:wN jc:=uH iY (uG iY)
def cpsOf(ps:List cA)(ds:List Int):List Cp:=(ps.zip ds).map λq=>uV q.1 q.2
theorem qJ{i:Nat}(hp:ps[i]?=some p)(hn:ds[i]?=some n):(cpsOf ps ds)[i]?=some (uV p n):=by
 have:(ps.zip ds)[i]?=some (p,n):=by rw[List.getElem?_zip_eq_some];exact⟨hp,hn⟩
 unfold cpsOf;rw[aJ,this];rfl
theorem lR(h:ds.length=ps.length):(cpsOf ps ds).length=ps.length:=by
 unfold cpsOf;rw[ak,length_zip];omega
theorem rA(cans:Int)(l:List Cp)(i:Nat):(jo cans l i).length<=2^i:=by
 unfold jo;exact bx (List.length_filterMap_le _ _) (by rw[qU];omega)
theorem Rn(h:q∈jo cans l i):q.2.2.length<=i:=by
 unfold jo at h;obtain⟨m,hm,e⟩:=mem_filterMap.mp h;have hl:=nj hm;unfold tE at e
 split at e
 ·cases e;unfold xH;rw[ak,length_zip];omega
 ·cases e
theorem jV :∀{xs:List α}{ys:List β}{us:List α}{ws:List β},Paired R xs ys->Paired R us ws->Paired R (xs++us) (ys++ws)
 |[],[],_,_,_,q=>q
 |_::_,_::_,_,_,.cons h t,q=>.cons h (jV t q)
theorem zE(h:i<=8):2^i<=256:=by
 have:2^i<=2^8:=Nat.pow_le_pow_right (by decide) h;simpa using this
def mX(g:iM)(d:Int)(ds:List Int):List (Int×Int×List Int):=(qu (if gR g.closed d then 0 else g.cans) (cpsOf g.pots ds)).map λq=>(q.1,(d+1) % g.week,q.2)
inductive NT(K:Fg)(a:gB)(vs:List V)(H:Hp)(Q:VK)(E:XK):Prop
 |mk:∀x g v b,vs=[.ref x,v]->fZ a H x g->0<g.week->0<=g.cans->g.pots.length<=8->j4 K H g.week g.pots v b->((b=false->∀H',Same H H'->E (.ref a.dX) none H'))->((b=true->∀d ds H' l,jy H v d ds->jf g.week g.pots d ds->H l=none->Same H H'->jD xM H' (.ref l) (mX g d ds)->Q (.ref l) H'))->NT K a vs H Q E
theorem uW:bY ["garden","state","day","parts","bit","since","pot","tomorrow"] ["garden","state"] (aZ qI):=d9 (by decide +kernel)
theorem WQ(F:mH K "choices" "choices" qI f fd)(W:xK K mg a dV):cM P w K mg base (fY P w) 4 f fd ["garden","state"] (NT K a):=by
 refine F.lY uW (λvs H Q E h=>?_) (λcdv A outer s H vs Q E hr h=>?_)
 ·obtain⟨x,g,v,b,rfl,_⟩:=h;rfl
 ·obtain⟨x,g,v,b,rfl,gx,w0,c0,h8,sa,bad,good⟩:=h;have S:=W.S;have Z:=S.Z;have T:=Z.G.T;obtain⟨fc,dc,cF,mC⟩:=W.con;obtain⟨fd',dd,dF,mD⟩:=W.ahg;obtain⟨fo,do',oF,mO⟩:=W.wow;obtain⟨fi,di,iF,mI⟩:=W.wiw;have uN:cM P w K mg base (fY P w) 2 fc dc ["garden","day"] (uU a):=BZ cF.F W;have okd:cM P w K mg base (fY P w) 1 fd' dd ["garden","day"] (DY a):=NQ dF.F W;have oko:cM P w K mg base (fY P w) 1 fo do' ["parts","pot","since"] (WK a):=aed oF.F W;have Ri:cM P w K mg base (fY P w) 2 fi di ["parts","pot","since","bit"] (WM a):=aee iF.F W;have WL:[("choice":Str),"cans","behind","tomorrow"].Nodup:=by decide +kernel
  refine⟨_,aL (gJ (c7 (uT S) hr S.aaB S.ref.F.kp S.ref.b (dJ bN) (ao (pv 0) (ao (pv 1) aG)))) (aL (bL (i:=2) uW.nd rfl (Or.inl rfl) (cH cQ (pv 1) aP (λ_ _=>rfl))) (aL (bL (i:=3) uW.nd rfl (Or.inl rfl) (gH (ao (d8 (ao aP (ao (c7 uN (hr.mono (by decide)) mC cF.F.kp cF.b bB (ao (pv 0) (ao (pv 2) aG))) (ao (d8 aG) aG)))) aG))) (aL (bL (i:=4) uW.nd rfl (Or.inl rfl) aP) (aL (ju fM rfl (JD (by rfl) T.B.zip (ao (cH cQ (pv 1) aP (λ_ _=>rfl)) (ao (fJ (pv 0) rfl) aG))) (nJ rfl (cj (cR 5 uW.nd) (cj (cR 6 uW.nd) gK))) (aL (bL (i:=3) uW.nd rfl (Or.inl rfl) (cg sX (c7 oko (hr.mono (by decide)) mO oF.F.kp oF.b bB (ao (pv 3) (ao (pv 6) (ao (pv 5) aG)))) (c7 Ri (hr.mono (by decide)) mI iF.F.kp iF.b bB (ao (pv 3) (ao (pv 6) (ao (pv 5) (ao (pv 4) aG))))))) (aU (bL (i:=4) uW.nd rfl (Or.inl rfl) (cg rW (pv 4) aP))))) (aL (bL (i:=7) uW.nd rfl (Or.inr rfl) (c7 okd (hr.mono (by decide)) mD dF.F.kp dF.b bB (ao (pv 0) (ao (pv 2) aG)))) (aU (bU (gG bN rfl ⟨_,_,rfl,rfl,rfl⟩ (iw (N':=["choice","cans","behind","tomorrow"]) (cl:=[("tomorrow",s.heap.objs.size+1)]) [none,none,none,some 7] ["garden","state","day","parts","bit","since","pot","tomorrow"] (aZ qI).names [(".0",.local),("choice",.local),("cans",.local),("behind",.local),("tomorrow",.cell)] ["tomorrow"] rfl (by decide +kernel) (by decide +kernel) rfl (λp hp=>by rw[aH.mp hp];rfl) rfl rfl rfl rfl (by decide +kernel) rfl (by decide +kernel)) (fK (pv 3)) (λ_ _ _ _ _=>qH K (n:=3) rfl (cj (cR 0 WL) (cj (cR 1 WL) (cj (cR 2 WL) gK)))) (λ_ _ _ _ _=>gM) (λ_ _ _ _ _ _=>d8 (ao (pv 0) (ao (d8 (ao (pv 3) (ao (pv 2) aG))) aG))))))))))),?_⟩;refine⟨_,rfl,_,rfl,x,g,v,b,rfl,gx,h8,sa,λeb H1 s1=>bad eb H1 s1,λeb H1 s1=>?_⟩;subst eb;obtain⟨d,ds,sv,ok⟩:=sa.good;have sv1:=sv.same s1;have Y5:=gx.same s1;obtain⟨t,u,rfl,ht,hu⟩:=sv1;obtain⟨dx,l,as,hx,hl,pt⟩:=id Y5;have la:as.length=g.pots.length:=Paired.length pt;have ln:=ok.len;have hL:cD K H1 l (as.map V.ref):=cD.of hl;refine⟨_,rfl,t,_,0,.int d,rfl,rfl,dY.of ht,rfl,_,rfl,_,rfl,x,g,d,rfl,Y5,ok.d0,by show 0<=sizeLine;decide,λt1 h1=>⟨by show 3<=sizeLine;decide,λt2 h2=>⟨by show 1<=sizeLine;decide,λl0 h0=>?_⟩⟩⟩;generalize ec:(if gR g.closed d then(0:Int) else g.cans)=cans at *;have cn:0<=cans:=by rw[<- ec];split<;>omega
  have v1:=aV (o:=.tup []) h1;have v2:=aV (o:=.tup [V.int 0,.int cans,.ref t1]) h2;have v3:=aV (o:=.lst [V.ref t2]) h0;have sH:=(v1.trans v2).trans v3;have r0:jD zB (L2.upd (L2.upd (L2.upd H1 t1 (.tup [])) t2 (.tup [V.int 0,.int cans,.ref t1])) l0 (.lst [V.ref t2])) (.ref l0) (jo cans (cpsOf g.pots ds) 0):=by
   rw[JM cn];exact⟨l0,_,rfl,aF,.cons ⟨t2,_,_,_,rfl,v3 _ _ aF,rfl,rfl,t1,[],rfl,v3 _ _ (v2 _ _ aF),.nil⟩ .nil⟩
  refine⟨_,rfl,t,_,1,.ref u,rfl,rfl,dY.of (sH _ _ ht),rfl,_,rfl,x,a.garden,dx,_,_,rfl,sH _ _ hx,Z.tG.cl,Z.nG _ (by simp),lB ..,u,l,_,_,rfl,dY.of (sH _ _ hu),cD.of (sH _ _ hl),?_⟩;refine MJ (K:=K) (l:=u) (m:=l) (xs:=ds.map V.int) (ys:=as.map V.ref) (λi σ H'=>∃y z q,σ=[some (.ref x),some (.ref t),some (.int d),some (.ref q),some (.int (2^i)),y,z,none]/\Same H1 H'/\jD zB H' (.ref q) (jo cans (cpsOf g.pots ds) i)) (by rw[ak,ak];omega) ⟨none,none,l0,rfl,sH,r0⟩ (λi σ H' _ ⟨_,_,_,_,s',_⟩=>⟨dY.of (s' _ _ hu),s'.seq hL⟩) ?_ ?_
  ·rintro i y b' T2 σ H2 hy hb0 ⟨z1,z2,q,rfl,s2,rq⟩ hT2;rw[aJ]at hy hb0;obtain⟨n,hn,rfl⟩:=bh.mp hy;obtain⟨b,hb,rfl⟩:=bh.mp hb0;obtain⟨p,hp,pb⟩:=dW pt hb;have i8:i<8:=by have:=(aM.mp hp).1;omega
   have s3:=aV (o:=.tup [V.int n,.ref b]) hT2;have n0:=(ok.at_ i n p hn hp).1;have hc:=qJ hp hn;have l1:(jo cans (cpsOf g.pots ds) i).length<=1000:=by
    have:=rA cans (cpsOf g.pots ds) i;have:=zE (i:=i) (by omega);omega
   have l2:∀c∈jo cans (cpsOf g.pots ds) i,c.2.2.length<=100:=λc hc=>by have:=Rn hc;omega
   refine⟨T2,_,rfl,dY.of aF,rfl,_,_,rfl,_,_,rfl,rfl,?_⟩;refine⟨_,rfl,_,rfl,_,rfl,q,_,b,p,n,rfl,rq.same jJ s3,l1,l2,pb.same (s2.trans s3),λH3 q1 s4 r1=>?_⟩;refine⟨_,rfl,_,rfl,_,rfl,_,rfl,q,_,b,p,n,_,rfl,rq.same jJ (s3.trans s4),l1,l2,pb.same ((s2.trans s3).trans s4),n0,λH4 q2 s5 r2=>?_⟩;have r1':=r1.same jJ s5;obtain⟨_,w1,e1,hw1,p1⟩:=r1';cases e1;obtain⟨_,w2,e2,hw2,p2⟩:=r2;cases e2;have st:=JL (cans:=cans) hc;have l3:=rA cans (cpsOf g.pots ds) (i+1);have l4:=zE (i:=i+1) (by omega);have big:1000<=sizeLine:=by decide
   have ln2:w1.length+w2.length=(jo cans (cpsOf g.pots ds) (i+1)).length:=by rw[<- st,aY,Paired.length p1,Paired.length p2]
   refine⟨q1,q2,w1,w2,rfl,rfl,hw1,hw2,by omega,λq3 h3=>?_⟩;have s6:=aV (o:=.lst (w1++w2)) h3;refine⟨_,rfl,_,_,rfl,rfl,.inr ⟨by decide,by decide⟩,?_⟩;refine⟨some (.int n),some (.ref b),q3,?_,(((s2.trans s3).trans s4).trans s5).trans s6,q3,w1++w2,rfl,aF,?_⟩
   ·rw[Int.pow_succ];rfl
   ·rw[<- st];exact jV (Paired.iB p1 λ_ _ z=>jJ.same z s6) (Paired.iB p2 λ_ _ z=>jJ.same z s6)
  ·rintro σ H2 ⟨y,z,q,rfl,s2,rq⟩;rw[ak,ln]at rq;refine⟨_,rfl,_,rfl,x,g,d,rfl,Y5.same s2,w0,?_⟩;obtain⟨_,ws,eq',hq,pq⟩:=id rq;cases eq';refine⟨_,rfl,q,rfl,⟨_,cD.of hq⟩,λD hD=>nW jJ j5 (λc=>(c.1,(d+1) % g.week,c.2.2)) rq ?_ hD ?_ (λH' s' r=>good rfl d ds H' D sv ok ((s1.trans s2).free hD) ((s1.trans s2).trans s') ?_)⟩
   ·have:=rA cans (cpsOf g.pots ds) g.pots.length;have:=zE h8;have big:1000<=sizeLine:=by decide
    omega
   ·rintro i c v H3 hc ⟨t',u1,u2,u3,rfl,ht',r1,r2,tb,bs,r3,hb,pb⟩ s3 Qc k;cases r1;cases r2;subst r3;refine⟨t',_,rfl,dY.of ht',rfl,_,_,rfl,_,_,rfl,_,_,rfl,rfl,nZ,_,rfl,_,rfl,_,rfl,by show 2<=sizeLine;decide,λt3 h3=>⟨by show 2<=sizeLine;decide,λt4 h4=>?_⟩⟩;have v4:=aV (o:=.tup [V.int ((d+1) % g.week),.ref tb]) h3;have v5:=aV (o:=.tup [V.int c.1,.ref t3]) h4;exact k _ _ (v4.trans v5) ⟨t4,_,_,rfl,aF,rfl,t3,_,_,rfl,v5 _ _ aF,rfl,tb,bs,rfl,v5 _ _ (v4 _ _ hb),Paired.iB pb λ_ _ z=>z⟩
   ·have e:mX g d ds=(jo cans (cpsOf g.pots ds) g.pots.length).map λc=>(c.1,(d+1) % g.week,c.2.2):=by
     unfold mX qu;rw[ec,lR ln,gj];rfl
    rw[e];exact r
abbrev aaH:dI:=top 30
structure First(nm:Str)(ps:List cA)(j:Nat)(p:cA):Prop where
 at_:ps[j]?=some p
 is:p.nm=nm
 no:∀i q,i<j->ps[i]?=some q->q.nm≠nm
theorem First.ex :∀{ps:List cA},nm∈ps.map cA.nm->∃j p,First nm ps j p
 |[],h=>nomatch h
 |q::ps,h=>by
  by_cases e:q.nm=nm
  ·exact⟨0,q,rfl,e,λi _ hi=>absurd hi (Nat.not_lt_zero i)⟩
  ·have h':nm∈ps.map cA.nm:=by
    rcases aR.mp h with z|z
    ·exact absurd z.symm e
    ·exact z
   obtain⟨j,p,f⟩:=First.ex h';refine⟨j+1,p,f.at_,f.is,λi r hi hr=>?_⟩;cases i with
   |zero=>cases hr;exact e
   |succ i=>exact f.no i r (by omega) hr
theorem First.mem(f:First nm ps j p):nm∈ps.map cA.nm:=bM.mpr ⟨p,aQ f.at_,f.is⟩
theorem Km(T:o8 K mg a)(hl:cD K H l (as.map V.ref))(pots:m7 a H as ps)(h8:as.length<=1000)(hD:H D=none)(q:Qe (upd H D (.lst ((ps.map cA.nm).map V.str)))) : ∃W:Nat->Nat->List V->Hp->Prop,(∃m,W 0 m [] (upd H D (.lst [])))/\qm D (Te K l) (jB (List.replicate 1 none) σ) (yw 0) Di (ac5 K (TV 0) "name") Qe W:=by
 have lp:as.length=ps.length:=Paired.length pots;refine lZ as.length (bx h8 (by decide)) (λi acc H'=>acc=((ps.take i).map cA.nm).map V.str/\upd H D (.lst acc)=H') ⟨rfl,rfl⟩ (λi acc H' le ⟨e,eh⟩=>⟨?_,by rw[<- eh,aF]⟩) ?_ ?_
 ·rw[e,ak,ak,length_take,<- lp];omega
 ·rintro acc H' ⟨rfl,rfl⟩;have sD:=aV (o:=.lst (((ps.take as.length).map cA.nm).map V.str)) hD;rw[lp,cL]at sD⊢;exact⟨⟨_,sD.seq hl,by rw[ak,lp];exact aO _⟩,q⟩
 ·rintro i acc H' lt ⟨rfl,rfl⟩;have sD:=aV (o:=.lst (((ps.take i).map cA.nm).map V.str)) hD;have hl':=sD.seq hl;obtain⟨b,hb⟩:∃b,as[i]?=some b:=⟨as[i],aA lt⟩;obtain⟨q,hq,pb⟩:=dW pots hb;have hx:(as.map V.ref)[i]?=some (.ref b):=by rw[aJ,hb];rfl
  refine⟨⟨_,_,hl',hx⟩,?_⟩;rintro x sZ ⟨rfl,hx'⟩ Qc k;have ex:=hx' _ hl';rw[hx]at ex;cases ex;obtain⟨dx,hb'⟩:=pb.same sD;have cT:=T.cls q.jE;refine⟨gD,_,rfl,b,q.cls a,dx,_,_,rfl,hb',cT.1.cl,cT.2 _ (by simp),q.wg,?_⟩;refine k _ _ aF ⟨?_,by rw[lH]⟩;rw[take_snoc hq,aX,aX];rfl
theorem WR{ps:List cA}{i:Nat}(h:((ps.map cA.nm).map V.str)[i]?=some z):∃q,ps[i]?=some q/\z=.str q.nm:=by
 rw[aJ,aJ]at h;cases e:ps[i]? with
 |none=>rw[e]at h;cases h
 |some q=>rw[e]at h;cases h;exact⟨q,rfl,rfl⟩
inductive WT(K:Fg)(a:gB)(vs:List V)(H:Hp)(Q:VK)(E:XK):Prop
 |mk:∀x g v o,vs=[.ref x,v]->fZ a H x g->g.pots.length<=8->Ng K H v o->(((∀nm,o=some nm->nm∉g.pots.map cA.nm)->∀H',Same H H'->E (.ref a.gA) none H'))->((∀nm j p,o=some nm->First nm g.pots j p->∀H',Same H H'->Q (.int (j:Nat)) H'))->WT K a vs H Q E
theorem acg:bY ["garden","name","names"] ["garden","name"] (aZ aaH):=d9 (by decide +kernel)
theorem aaI(h:Ng K H v o)(s:Same H H'):Ng K H' v o:=by
 rcases h with h|⟨e,h|⟨l,xs,e2,h⟩⟩
 ·exact .inl h
 ·exact .inr ⟨e,.inl h⟩
 ·exact .inr ⟨e,.inr ⟨l,xs,e2,s.seq h⟩⟩
structure alk(K:Fg)(mg:Str->Option aC)(a:gB):Prop where
 plc:∃f fd,Fn K "place_of" "place_of" aaH ["garden","name"] f fd/\mg "place_of"=some (.ref f)
 gA:Exn K mg "NoPot" a.gA
theorem aef(F:mH K "place_of" "place_of" aaH f fd)(Z:DP K mg a dV)(nP:Exn K mg "NoPot" a.gA):cM P w K mg base (fY P w) 1 f fd ["garden","name"] (WT K a):=by
 refine F.lY acg (λvs H Q E h=>?_) (λcdv A outer s H vs Q E hr h=>?_)
 ·obtain⟨x,g,v,o,rfl,_⟩:=h;rfl
 ·obtain⟨x,g,v,o,rfl,⟨dx,l,as,hx,hl,pt⟩,h8,na,noP,yes⟩:=h;have T:=Z.G.T;refine⟨_,aL (oE (i:=2) acg.nd rfl (Or.inl rfl) bN rfl ⟨_,_,rfl,rfl,rfl⟩ (gY.plain (N':=["pot"]) rfl (by decide +kernel) (by decide +kernel)) (fK (fJ (pv 0) rfl)) (λ_ _ _ _ _=>cR 0 (show [("pot":Str)].Nodup by decide +kernel)) (λ_ _ _ _ _=>gM) (λ_ _ _ _ _ _=>wM K (pv 0))) (aL (dZ (cu (QM hr.units) (pv 1) (pv 2) rfl) (aU (iI bN rfl (by rfl) nP.m nP.q PySem.F.excBase_ValueError (ao eY aG))) bZ) (aU (bU (mL PySem.F.plainAttrs_list PySem.F.slot_list_index PySem.F.type_list_index Gs (pv 2) (ao (pv 1) aG))))),?_⟩;have la:as.length=g.pots.length:=Paired.length pt;have hL:cD K H l (as.map V.ref):=cD.of hl;refine⟨_,rfl,x,a.garden,dx,_,_,rfl,hx,Z.tG.cl,Z.nG _ (by simp),lB ..,l,rfl,⟨_,hL⟩,λD hD=>Km T hL pt (by omega) hD ?_⟩;have sD:=aV (o:=.lst ((g.pots.map cA.nm).map V.str)) hD;refine⟨_,rfl,_,rfl,D,_,o,rfl,cD.of aF,aaI na sD,_,rfl,?_⟩;cases o with
  |none=>exact dB ⟨by show 1<=sizeLine;decide,noP (λ_ z=>nomatch z) _ sD⟩
  |some nm =>
   rcases na with ⟨nm',rfl,e⟩|⟨z,_⟩
   ·cases e
    by_cases hm:nm∈g.pots.map cA.nm
    ·rw[show adG (some nm) (g.pots.map cA.nm)=false by show(!decide _)=false;rw[aK hm];rfl];obtain⟨j,p,f⟩:=First.ex hm;refine cU ⟨_,rfl,.inl ⟨rfl,_,cD.of aF⟩,_,rfl,D,_,.str nm,j,rfl,rfl,aF,rfl,qy _,⟨.str p.nm,?_,?_⟩,λi z hi hz=>?_,yes nm j p rfl f _ sD⟩
     ·rw[aJ,aJ,f.at_];rfl
     ·rw[f.is];exact uo rfl
     ·obtain⟨q,hq,rfl⟩:=WR hz;have ne:=f.no i q hi hq
      show(q.nm == nm)=false
      simp[ne]
    ·rw[show adG (some nm) (g.pots.map cA.nm)=true by show(!decide _)=true;rw[aD hm];rfl];exact dB ⟨by show 1<=sizeLine;decide,noP (λ_ z=>by cases z;exact hm) _ sD⟩
   ·cases z
abbrev WW:dI:=inClass (top 11) 0
abbrev uX:dI:=top 38
structure NZ(K:Fg)(mg:Str->Option aC)(a:gB):Prop where
 gE:mg "GardenError"=some (.ref a.uQ)
 cb:agN K a.uQ "ValueError.__init__"
 bd:∃f fd,Fn K "__init__" "BadDay.__init__" WW ["self","day"] f fd/\adI K a.dz f J5 "ValueError.__new__"/\isFn K (.ref f)=true
 ea:agP K a.dz "day"
 m:mg "BadDay"=some (.ref a.dz)
inductive Hf(a:gB)(vs:List V)(H:Hp)(Q:VK)(jU:XK):Prop
 |mk:∀e d,vs=[.ref e,.int d]->H e=some (ou e a.dz none)->d.natAbs.log2<100->(∀dx,H dx=none->Q .non (upd (upd H dx (.xd [("day",.int d)])) e (ou e a.dz (some dx))))->Hf a vs H Q jU
theorem ahj:bY ["self","day"] ["self","day"] (aZ WW):=d9 (by decide +kernel)
theorem WX(F:mH K "__init__" "BadDay.__init__" WW f fd)(X:NZ K mg a):cM P w K mg base (fY P w) 1 f fd ["self","day"] (Hf a):=by
 refine F.lY ahj (λvs H Q E h=>?_) (λcdv A outer s H vs Q E hr h=>?_)
 ·obtain⟨e,d,rfl,_⟩:=h;rfl
 ·obtain⟨e,d,rfl,he,ld,q⟩:=h;obtain⟨f',fd',_,q',_⟩:=X.bd;refine⟨_,aL (gJ (Vy X.gE X.cb q' PySem.F.excBase_ValueError (ao (pv 0) (ao (Z9 (pv 1)) aG)))) (aU (adL (pv 0) (pv 1) rfl)),?_⟩;refine⟨_,rfl,_,rfl,d,rfl,ld,λz=>⟨e,_,none,rfl,he,?_⟩⟩;exact⟨_,rfl,_,rfl,e,_,rfl,he,X.ea,λdx hdx=>q dx hdx⟩
theorem aaJ(he:H e=none)(hdx:upd H e (ou e C none) dx=none):Same H (del (upd (upd (upd H e (ou e C none)) dx o) e (ou e C (some dx))) e)/\del (upd (upd (upd H e (ou e C none)) dx o) e (ou e C (some dx))) e dx=some o:=by
 have ne:dx≠e:=λz=>by rw[z,aF]at hdx;cases hdx
 have h0:H dx=none:=by rw[bf ne]at hdx;exact hdx
 refine⟨λb u hb=>?_,?_⟩
 ·have be:b≠e:=dN hb he;have bd:b≠dx:=dN hb h0;rw[qz be,bf be,bf bd,bf be];exact hb
 ·rw[qz ne,bf ne,aF]
theorem Ea{E:XK}(ld:d.natAbs.log2<100)(q:∀H' dx,Same H H'->H' dx=some (.xd [("day",.int d)])->E (.ref a.dz) (some dx) H') : 1<=sizeLine/\∀e,H e=none->Hf a [.ref e,.int d] (upd H e (ou e a.dz none)) (λv H2=>v=.non/\∃dx,H2 e=some (ou e a.dz dx)/\E (.ref a.dz) dx (del H2 e)) λ_ _ _=>False:=by
 refine⟨by decide,λe he=>⟨e,d,rfl,aF,ld,λdx hdx=>⟨rfl,some dx,aF,?_⟩⟩⟩;have z:=aaJ (o:=.xd [("day",.int d)]) he hdx;exact q _ dx z.1 z.2
def wu(ps:List cA)(ds:List Int)(js:List Nat):Bool:=js.all λj=>((ps.zip ds)[j]?.map λq=>zA q.1 q.2).getD true
def Hg(g:iM)(d:Int)(ds:List Int)(js:List Nat):Bool:=!decide js.Nodup||decide ((if gR g.closed d then 0 else g.cans)<(js.length:Int))||!wu g.pots ds js
inductive WY(K:Fg)(a:gB)(vs:List V)(H:Hp)(Q:VK)(E:XK):Prop
 |mk:∀x g v d ds p js day,vs=[.ref x,v,.ref p,.int day]->fZ a H x g->jy H v d ds->H p=some (.lst (js.map λj:Nat=>V.int (j:Int)))->(∀j∈js,j<g.pots.length)->ds.length=g.pots.length->js.length<=1000->0<=d->day.natAbs.log2<100->((Hg g d ds js=true->∀H' dx,Same H H'->H' dx=some (.xd [("day",.int day)])->E (.ref a.dz) (some dx) H'))->((Hg g d ds js=false->∀H',Same H H'->Q .non H'))->WY K a vs H Q E
theorem ahk:bY ["garden","state","places","day"] ["garden","state","places","day"] (aZ uX):=d9 (by decide +kernel)
def Ro:Rep Nat:=λ_ v j=>v=.int (j:Int)
def RBl:Rep Bool:=λ_ v b=>v=.bl b
theorem Ec:wN Ro:=⟨λh _=>h,λh _=>h⟩
theorem aeg:wN RBl:=⟨λh _=>h,λh _=>h⟩
theorem ach :∀js:List Nat,Paired (Ro H) (js.map λj:Nat=>V.int (j:Int)) js
 |[]=>.nil
 |_::js=>.cons rfl (ach js)
theorem ahl :∀{vs:List V}{bs:List Bool},Paired (RBl H) vs bs->vs=bs.map V.bl
 |[],[],_=>rfl
 |_::_,_::_,.cons h t=>by rw[ahl t,cJ];cases h;rfl
theorem jg{r:St}:nU (none::r) ((none::r).set 0 x):=by
 intro j v h
 match j,h with
 |0,h=>simp at h
 |j+1,h=>exact h
theorem Hh(js:List Nat):QX (js.map λj:Nat=>(j:Int))=js.length↔js.Nodup:=by
 have:=aae (js.map λj:Nat=>(j:Int));rw[ak]at this;rw[this];constructor
 ·intro h;unfold Nodup at h⊢;rw[pairwise_map]at h;exact h.imp λhab z=>hab (by rw[z])
 ·intro h;unfold Nodup at h⊢;rw[pairwise_map];exact h.imp λhab z=>hab (by omega)
theorem aeh(F:mH K "refuse_bad_day" "refuse_bad_day" uX f fd)(W:xK K mg a dV)(X:NZ K mg a):cM P w K mg base (fY P w) 3 f fd ["garden","state","places","day"] (WY K a):=by
 refine F.lY ahk (λvs H Q E h=>?_) (λcdv A outer s H vs Q E hr h=>?_)
 ·obtain⟨x,g,v,d,ds,p,js,day,rfl,_⟩:=h;rfl
 ·obtain⟨x,g,v,d,ds,p,js,day,rfl,gx,st,hp,jb,ld,l3,d0,aei,bad,good⟩:=h;have Z:=W.S.Z;have B:=Z.G.T.B;obtain⟨fi,di,iF,xi,fni⟩:=X.bd;obtain⟨fc,dc,cF,mC⟩:=W.con;have Ri:cM P w K mg base (fY P w) 1 fi di ["self","day"] (Hf a):=WX iF.F X;have uN:cM P w K mg base (fY P w) 2 fc dc ["garden","day"] (uU a):=BZ cF.F W;have hr2:eZ 2 _:=hr.mono (by decide);have hr1:eZ 1 _:=hr.mono (by decide);have Ko:[("place":Str),"garden","state"].Nodup:=by decide +kernel
  refine⟨_,aL (dZ (cu Fw (eO Q0 B.len PySem.boot_len (ao (qD (QZ rfl) B.set boot_set (ao (pv 2) aG)) aG)) (eO bT B.len PySem.boot_len (ao (pv 2) aG)) (cN _)) (aU (qZ bN rfl (by rfl) X.m xi fni PySem.F.excBase_ValueError Ri hr2 iF.b (ao (pv 3) aG))) bZ) (aL (dZ (cu Ba (eO bT B.len PySem.boot_len (ao (pv 2) aG)) (c7 uN hr2 mC cF.F.kp cF.b bB (ao (pv 0) (ao (cH cQ (pv 1) aP (λ_ _=>rfl)) aG))) (cN _)) (aU (qZ bN rfl (by rfl) X.m xi fni PySem.F.excBase_ValueError Ri hr2 iF.b (ao (pv 3) aG))) bZ) (aU (dZ (gh (eX (eO (vR rfl) B.all boot_all (ao (gG bN rfl ⟨_,_,rfl,rfl,rfl⟩ (iw (N':=["place","garden","state"]) (cl:=[("state",s.heap.objs.size+2),("garden",s.heap.objs.size+1)]) [none,some 0,some 1] ["garden","state","places","day"] (aZ uX).names [(".0",.local),("place",.local),("garden",.cell),("state",.cell)] ["state","garden"] rfl (by decide +kernel) (by decide +kernel) rfl (λp hp=>by simp only[aR,not_mem_nil,or_false]at hp;rcases hp with rfl|rfl<;>rfl) rfl rfl rfl rfl (by decide +kernel) rfl (by decide +kernel)) (fK (pv 2)) (λ_ _ _ _ _=>cR 0 Ko) (λ_ _ _ _ _=>gM) (λ_ _ _ _ _ _=>yR (Cs:=λC=>C=a.pot\/C=a.cV) (sp:=Ca a) (cH (uI K) (wM K (pv 1)) (pv 0) (λ_ _=>rfl)) hr1 W.may bB (ao (cH (uJ K) (cH (uJ K) (pv 2) aP (λ_ _=>rfl)) (pv 0) (λ_ _=>rfl)) aG))) aG)))) (aU (qZ bN rfl (by rfl) X.m xi fni PySem.F.excBase_ValueError Ri hr2 iF.b (ao (pv 3) aG))) bZ))),?_⟩;obtain⟨dx,l,as,hx,hl,pt⟩:=id gx;obtain⟨t,su,rfl,ht,hs⟩:=id st;have ep:(js.map λj:Nat=>V.int (j:Int))=(js.map λj:Nat=>(j:Int)).map V.int:=by rw[gj];rfl
  have sb:2000<scanBound:=by decide
  have big:1000<=sizeLine:=by decide
  refine⟨_,rfl,p,js.map λj:Nat=>(j:Int),rfl,ep ▸ cD.of hp,(by rw[ak];omega),λq S hq=>⟨q,S,_,rfl,aF,_,rfl,p,_,rfl,.inl (cD.of (aV hq _ _ hp)),rfl,_,rfl,?_⟩⟩;have s1:=aV (o:=.set S (QX (js.map λj:Nat=>(j:Int)))) hq;rw[show(js.map λj:Nat=>V.int (j:Int)).length=js.length from ak ..]
  by_cases n1:js.Nodup
  ·refine Rg (by rw[(Hh js).mpr n1]) ?_;refine⟨_,rfl,p,_,rfl,.inl (cD.of (s1 _ _ hp)),_,rfl,_,rfl,t,_,0,.int d,rfl,rfl,dY.of (s1 _ _ ht),rfl,x,g,d,rfl,gx.same s1,d0,_,_,rfl,rfl,_,rfl,?_⟩;rw[show(js.map λj:Nat=>V.int (j:Int)).length=js.length from ak ..]
   by_cases n2:(if gR g.closed d then 0 else g.cans)<(js.length:Int)
   ·rw[aK n2];refine dB ⟨_,rfl,Ea aei λH' W0 s' hd'=>bad ?_ H' W0 (s1.trans s') hd'⟩;unfold Hg;rw[aK n2];simp
   ·rw[aD n2];refine cU ⟨_,rfl,p,rfl,⟨_,cD.of (s1 _ _ hp)⟩,λD hD=>?_⟩;have la:as.length=g.pots.length:=Paired.length pt;refine nW Ec aeg (f:=λj=>((g.pots.zip ds)[j]?.map λq=>zA q.1 q.2).getD true) (H:=upd H q _) (l:=p) (xs:=js) ⟨p,_,rfl,s1 _ _ hp,ach js⟩ (by omega) hD ?_ ?_
    ·intro i j v H2 hj rv s2 Qc k;cases rv;have lj:=jb j (aQ hj);obtain⟨b,hb⟩:∃b,as[j]?=some b:=⟨as[j]'(by omega),aA (by omega)⟩;obtain⟨pp,hpp,pb⟩:=dW pt hb;obtain⟨n,hn⟩:∃n,ds[j]?=some n:=⟨ds[j]'(by omega),aA (by omega)⟩;have s3:=s1.trans s2;have Wt:=s3 _ _ hx;obtain⟨db,hb3⟩:=pb.same s3;have hba:(as.map V.ref)[j]?=some (.ref b):=by rw[aJ,hb];rfl
     have hnd:(ds.map V.int)[j]?=some (.int n):=by rw[aJ,hn];rfl
     refine⟨jg,_,rfl,x,a.garden,dx,_,_,rfl,Wt,Z.tG.cl,Z.nG _ (by simp),lB ..,_,rfl,l,_,_,_,rfl,rfl,cD.of (s3 _ _ hl),gU hba,b,pp.cls a,db,_,rfl,hb3,pp.jE,pp.adS (by decide +kernel) (by decide +kernel) (by decide +kernel),_,rfl,t,_,1,.ref su,rfl,rfl,dY.of (s3 _ _ ht),rfl,_,rfl,su,_,_,_,rfl,rfl,dY.of (s3 _ _ hs),gU hnd,b,pp,n,rfl,rfl,⟨db,hb3⟩,k _ _ (Same.refl _) ?_⟩;have:(g.pots.zip ds)[j]?=some (pp,n):=by rw[List.getElem?_zip_eq_some];exact⟨hpp,hn⟩
     rw[this];rfl
    ·intro H' s2 r;obtain⟨D',vs,eD,hv,Y6⟩:=r;cases eD;obtain rfl:vs=(js.map λj=>((g.pots.zip ds)[j]?.map λq=>zA q.1 q.2).getD true).map V.bl:=ahl Y6;refine⟨D,_,rfl,cD.of hv,_,rfl,?_⟩;have em:(js.map λj=>((g.pots.zip ds)[j]?.map λq=>zA q.1 q.2).getD true).all id=wu g.pots ds js:=by
      unfold wu;rw[all_map];rfl
     rw[em];cases ea:wu g.pots ds js with
     |true =>
      refine cU (good ?_ H' (s1.trans s2));unfold Hg;rw[aK n1,aD n2,ea];rfl
     |false =>
      refine dB ⟨_,rfl,Ea aei λH3 W0 s' hd'=>bad ?_ H3 W0 ((s1.trans s2).trans s') hd'⟩;unfold Hg;rw[ea];simp
  ·refine aea (λz=>n1 ((Hh js).mp (by omega))) ⟨_,rfl,Ea aei λH' W0 s' hd'=>bad ?_ H' W0 (s1.trans s') hd'⟩;unfold Hg;rw[aD n1];simp
abbrev uY:dI:=top 39
abbrev N5:dI:=top 40
theorem Kp(K:Fg)(hK:autoParam (X.K=K) zau0):oW X (compareOp .In) (rIn K false):=by
 subst hK;exact Bp
def nats(js:List Nat):List V:=js.map λj:Nat=>V.int (j:Int)
theorem Ce(js:List Nat):(nats js).all iR=true:=by
 rw[all_eq_true];intro v hv;obtain⟨k,_,rfl⟩:=bM.mp hv;rfl
theorem Ed(k:Nat):∀js:List Nat,inV (.int (k:Int)) (nats js)=decide (k∈js)
 |[]=>rfl
 |j::js=>by
  have e:inV (.int (k:Int)) (nats (j::js))=(sW (.int (j:Int)) (.int (k:Int))||inV (.int (k:Int)) (nats js)):=rfl;rw[e,Ed k js]
  by_cases h:k=j
  ·subst h;have:sW (.int (k:Int)) (.int (k:Int))=true:=by simp[sW]
   simp[this]
  ·have:sW (.int (j:Int)) (.int (k:Int))=false:=by simp[sW];omega
   simp[this,h]
def Kq(ds:List Int)(js:List Nat):List Int:=ds.zipIdx.map λq=>if q.2∈js then 0 else q.1+1
def W2(ps:List cA)(ss:List Int):List Str:=((ps.zip ss).filter λq=>decide (q.2=q.1.gap)).map λq=>q.1.nm
inductive W3(vs:List V)(H:Hp)(Q:VK)(jU:XK):Prop
 |mk:∀v d ds p js,vs=[v,.ref p]->jy H v d ds->H p=some (.lst (nats js))->ds.length<=1000->(∀H' t,Same H H'->H' t=some (.tup ((Kq ds js).map V.int))->Q (.ref t) H')->W3 vs H Q jU
theorem ahn:bY ["state","places"] ["state","places"] (aZ uY):=d9 (by decide +kernel)
theorem W4 :∀gs:List Int,Paired (oM H) (gs.map V.int) gs
 |[]=>.nil
 |_::gs=>.cons rfl (W4 gs)
theorem Cg{r:St}:nU (none::none::r) (((none::none::r).set 0 x).set 1 y):=by
 intro j v h
 match j,h with
 |0,h=>simp at h
 |1,h=>simp at h
 |j+2,h=>exact h
theorem ints_of :∀{vs:List V}{bs:List Int},Paired (oM H) vs bs->vs=bs.map V.int
 |[],[],_=>rfl
 |_::_,_::_,.cons h t=>by rw[ints_of t,cJ];cases h;rfl
theorem rB :∀{vs:List V}{bs:List Str},Paired (xG H) vs bs->vs=bs.map V.str
 |[],[],_=>rfl
 |_::_,_::_,.cons h t=>by rw[rB t,cJ];cases h;rfl
theorem aej(F:mH K "since_behind" "since_behind" uY f fd)(B:Tj mg)(en:mg "enumerate"=none):cM P w K mg base (fY P w) 1 f fd ["state","places"] W3:=by
 refine F.lY ahn (λvs H Q E h=>?_) (λcdv A outer s H vs Q E hr h=>?_)
 ·obtain⟨v,d,ds,p,js,rfl,_⟩:=h;rfl
 ·obtain⟨v,d,ds,p,js,rfl,⟨t,su,rfl,ht,hs⟩,hp,l3,q⟩:=h;have Ko:[("place":Str),"days","places"].Nodup:=by decide +kernel
  refine⟨_,aU (bU (qD jF B.tuple PyProof.Rows.boot_tuple (ao (gG bN rfl ⟨_,_,rfl,rfl,rfl⟩ (iw (N':=["place","days","places"]) (cl:=[("places",s.heap.objs.size+1)]) [none,none,some 1] ["state","places"] (aZ uY).names [(".0",.local),("place",.local),("days",.local),("places",.cell)] ["places"] rfl (by decide +kernel) (by decide +kernel) rfl (λp hp=>by rw[aH.mp hp];rfl) rfl rfl rfl rfl (by decide +kernel) rfl (by decide +kernel)) (VL (by rfl) en (ao (cH cQ (pv 0) aP (λ_ _=>rfl)) aG)) (λ_ _ _ _ _=>qH K (n:=2) rfl (cj (cR 0 Ko) (cj (cR 1 Ko) gK))) (λ_ _ _ _ _=>gM) (λ_ _ _ _ _ _=>nH (cu (Kp K) (pv 0) (pv 2) rfl) aP (cg gw (pv 1) aP))) aG))),?_⟩;have big:1000<=sizeLine:=by decide
  refine⟨_,rfl,t,_,1,.ref su,rfl,rfl,dY.of ht,rfl,su,_,rfl,dY.of hs,λD hD=>?_⟩;obtain⟨go,stop,yl⟩:=adP (K:=K) (R:=oM) iY (H:=H) (l:=su) (xs:=ds) ⟨su,_,rfl,hs,W4 ds⟩;have ll:ds.zipIdx.length=ds.length:=List.length_zipIdx;refine o7 (R:=λH2 v q=>∃T,v=.ref T/\H2 T=some (.tup [.int (q.2:Nat),.int q.1])) (S:=oM) iY (xs:=ds.zipIdx) (λ_=>true) (λq=>if q.2∈js then 0 else q.1+1) (λ_=>True) (by omega) hD (λi H' lt s'=>go i H' (by omega) s') (λH' s'=>by rw[ll];exact stop H' s') ?_ ?_ ?_
  ·intro i q v H' H2 hq s' hy;rw[List.getElem?_zipIdx]at hq;obtain⟨n,hn,rfl⟩:=bh.mp hq;obtain⟨s2,T,u,e1,e2,e3⟩:=yl i n v H' H2 hn s' hy;cases e3;exact⟨s2,T,e1,by rw[e2];simp⟩
  ·rintro i ⟨n,j⟩ v H2 hq ⟨T,rfl,hT⟩ s2 Qc Qn k kn;refine⟨T,_,rfl,dY.of hT,rfl,_,_,rfl,_,_,rfl,rfl,Cg,?_⟩
   show if true=true then _ else Qn H2
   rw[if_pos rfl];refine⟨_,rfl,_,rfl,p,_,rfl,.inl (cD.of (s2 _ _ hp)),rfl,Ce js,_,rfl,?_⟩
   show if(inV (.int (j:Int)) (nats js))=true then _ else _
   rw[Ed];have k':=k rfl trivial
   by_cases hm:j∈js
   ·rw[aK hm];refine dB (k' _ _ (Same.refl _) ?_)
    show V.int 0=V.int (if j∈js then 0 else n+1)
    rw[if_pos hm]
   ·rw[aD hm];refine cU ⟨_,rfl,_,_,rfl,rfl,k' _ _ (Same.refl _) ?_⟩
    show V.int (n+1)=V.int (if j∈js then 0 else n+1)
    rw[if_neg hm]
  ·intro H' s' _ r;obtain⟨D',vs,eD,hv,Y6⟩:=r;cases eD;have e:=ints_of Y6;rw[List.filter_eq_self.mpr λ_ _=>rfl]at e;subst e;exact⟨D,_,rfl,.inl ⟨cD.of hv,λtt htt=>q _ tt (s'.trans (aV htt)) aF⟩⟩
inductive W5(a:gB)(vs:List V)(H:Hp)(Q:VK)(jU:XK):Prop
 |mk:∀x g su ss,vs=[.ref x,.ref su]->fZ a H x g->H su=some (.tup (ss.map V.int))->ss.length=g.pots.length->g.pots.length<=1000->(∀H' l,Same H H'->H' l=some (.lst ((W2 g.pots ss).map V.str))->Q (.ref l) H')->W5 a vs H Q jU
theorem aho:bY ["garden","since"] ["garden","since"] (aZ N5):=d9 (by decide +kernel)
theorem aek(F:mH K "dry_names" "dry_names" N5 f fd)(Z:DP K mg a dV):cM P w K mg base (fY P w) 1 f fd ["garden","since"] (W5 a):=by
 refine F.lY aho (λvs H Q E h=>?_) (λcdv A outer s H vs Q E hr h=>?_)
 ·obtain⟨x,g,su,ss,rfl,_⟩:=h;rfl
 ·obtain⟨x,g,su,ss,rfl,⟨dx,l,as,hx,hl,pt⟩,hs,ls,l3,q⟩:=h;have T:=Z.G.T;have Rh:[("pot":Str),"days"].Nodup:=by decide +kernel
  refine⟨_,aU (bU (gG bN rfl ⟨_,_,rfl,rfl,rfl⟩ (gY.plain (N':=["pot","days"]) rfl (by decide +kernel) (by decide +kernel)) (aaj (by rfl) T.B.zip (ao (fJ (pv 0) rfl) (ao (pv 1) aG))) (λ_ _ _ _ _=>qH K (n:=2) rfl (cj (cR 0 Rh) (cj (cR 1 Rh) gK))) (λ_ _ _ _ _=>mZ (cu iQ (pv 1) (wM K (pv 0)) (cN _))) (λ_ _ _ _ _ _=>wM K (pv 0)))),?_⟩;have big:1000<=sizeLine:=by decide
  have la:as.length=g.pots.length:=Paired.length pt;have lz:(g.pots.zip ss).length=g.pots.length:=by rw[length_zip];omega
  refine⟨_,rfl,x,a.garden,dx,_,_,rfl,hx,Z.tG.cl,Z.nG _ (by simp),lB ..,_,rfl,l,su,_,_,rfl,cD.of hl,dY.of hs,λD hD=>?_⟩;refine o7 (R:=λH2 v (q:cA×Int)=>∃T b,v=.ref T/\H2 T=some (.tup [.ref b,.int q.2])/\mQ a H2 b q.1) (S:=xG) lQ (xs:=g.pots.zip ss) (λq=>decide (q.2=q.1.gap)) (λq=>q.1.nm) (λ_=>True) (by omega) hD ?_ ?_ ?_ ?_ ?_
  ·intro i H' lt s';rw[lz]at lt;exact⟨_,_,.ref (as[i]'(by omega)),.int (ss[i]'(by omega)),cD.of (s' _ _ hl),dY.of (s' _ _ hs),by rw[aJ,aA (by omega)];rfl,by rw[aJ,aA (by omega)];rfl⟩
  ·intro H' s';exact⟨_,_,cD.of (s' _ _ hl),dY.of (s' _ _ hs),.inl (by rw[ak];omega)⟩
  ·rintro i ⟨pp,n⟩ v H' H2 hq s' ⟨T,hT,rfl,hy⟩;obtain⟨h1,h2⟩:=List.getElem?_zip_eq_some.mp hq;obtain⟨b,hb⟩:∃b,as[i]?=some b:=⟨as[i]'(by have:=(aM.mp h1).1;omega),aA _⟩;obtain⟨p',hp',pb⟩:=dW pt hb;rw[h1]at hp';cases hp';rw[hy _ _ (.ref b) (.int n) (cD.of (s' _ _ hl)) (dY.of (s' _ _ hs)) (by rw[aJ,hb];rfl) (by rw[aJ,h2];rfl)];have z:=aV (o:=.tup [V.ref b,.int n]) hT;exact⟨z,T,b,rfl,aF,(pb.same s').same z⟩
  ·rintro i ⟨pp,n⟩ v H2 hq ⟨T2,b,rfl,hT,⟨db,hb⟩⟩ s2 Qc Qn k kn;have cT:=T.cls pp.jE;refine⟨T2,_,rfl,dY.of hT,rfl,_,_,rfl,_,_,rfl,rfl,Cg,_,rfl,_,rfl,b,pp.cls a,db,_,_,rfl,hb,cT.1.cl,cT.2 _ (by simp),pp.wU,rfl,_,rfl,?_⟩
   by_cases z:n=pp.gap
   ·refine eqT z ⟨_,rfl,b,pp.cls a,db,_,_,rfl,hb,cT.1.cl,cT.2 _ (by simp),pp.wg,k (aK z) trivial _ _ (Same.refl _) rfl⟩
   ·exact eqF z (kn (aD z) _ (Same.refl _))
  ·intro H' s' _ r;obtain⟨D',vs,eD,hv,Y6⟩:=r;cases eD;exact q H' D s' (by rw[hv,rB Y6];rfl)
inductive Wk where
 |kept (d:Int) (ds:List Int)
 |dry (n:Nat) (nm:Str)
 |bad (n:Nat)
 |none (n:Nat)
abbrev oN(ps:List cA):List Str:=ps.map cA.nm
noncomputable def wY(nms:List Str)(cans wk cl:Int)(ps:List cA):List (List Str)->Nat->Int->List Int->Wk
 |[],_,d,ds=>.kept d ds
 |r::rs,n,d,ds=>if(r.all λnm=>decide (nm∈nms))=true then
   if(r.map λnm=>nms.idxOf nm).Nodup then
    match fV nms cans (gR cl d) (cpsOf ps ds) (r.map λnm=>nms.idxOf nm) with
    | .no=>.bad n
    | .dry nm=>.dry n nm
    | .st far=>wY nms cans wk cl ps rs (n+1) ((d+1) % wk) far
   else .bad n
  else .none n
abbrev iT(g:iM):List (List Str)->Nat->Int->List Int->Wk:=wY (oN g.pots) g.cans g.week g.closed g.pots
theorem Ci :∀{ps:List cA}{j:Nat}{p:cA},First nm ps j p->(oN ps).idxOf nm=j
 |[],j,p,f=>by have:=f.at_;simp at this
 |q::ps,0,p,f=>by
  have e:q=p:=by have:=f.at_;simpa using this
  have i:=f.is;rw[<- e]at i;simp[oN,idxOf_cons,i]
 |q::ps,j+1,p,f=>by
  have ne:=f.no 0 q (by omega) rfl;have ih:=Ci (ps:=ps) (j:=j) (p:=p) ⟨f.at_,f.is,λi r hi hr=>f.no (i+1) r (by omega) hr⟩;have e:(q.nm == nm)=false:=by simpa using ne
  simp only[oN]at ih⊢;rw[cJ,idxOf_cons,e,ih];rfl
theorem zG{α β:Type}(F:α->Option β):∀xs:List α,xs.findSome? F=(List.range xs.length).findSome? λk=>xs[k]?.bind F
 |[]=>rfl
 |x::xs=>by
  rw[length_cons,range_succ_eq_map,findSome?_cons,findSome?_cons,List.findSome?_map,zG F xs];rfl
theorem head_filter{α β:Type}(p:α->Bool)(f:α->β):∀xs:List α,((xs.filter p).map f).head?=xs.findSome? λx=>if p x=true then some (f x) else Option.none
 |[]=>rfl
 |x::xs=>by
  rw[findSome?_cons];cases h:p x with
  |true=>simp[List.filter_cons,h]
  |false =>
   rw[List.filter_cons_of_neg (by simp[h]),head_filter p f xs];simp
theorem Kr{β:Type}{F G:Nat->Option β}(h:∀k,k<n->F k=G k):(List.range n).findSome? F=(List.range n).findSome? G:=by
 have:∀l:List Nat,(∀k∈l,F k=G k)->l.findSome? F=l.findSome? G:=by
  intro l
  induction l with
  |nil=>intro _;rfl
  |cons k l ih =>
   intro h;rw[findSome?_cons,findSome?_cons,h k (by simp),ih λj hj=>h j (by simp[hj])]
 exact this _ λk hk=>h k (mem_range.mp hk)
theorem rC :(kY l js).length=l.length:=by
 unfold kY;rw[ak,bK]
theorem aaK(js:List Nat)(h:ds.length=ps.length):Kq ds js=kY (cpsOf ps ds) js:=by
 have lc:=lR h;apply ext_getElem?;intro i;unfold Kq;rw[aJ,List.getElem?_zipIdx]
 by_cases lt:i<ds.length
 ·have hd:ds[i]?=some ds[i]:=aA lt;have hp:ps[i]?=some (ps[i]'(by omega)):=aA _;rw[qw (qJ hp hd),hd];simp[uV]
 ·rw[List.getElem?_eq_none (by omega),List.getElem?_eq_none (by rw[rC,lc];omega)];rfl
theorem W6(js:List Nat)(h:ds.length=ps.length):(W2 ps (kY (cpsOf ps ds) js)).head?=uE (oN ps) (cpsOf ps ds) js:=by
 have lc:=lR h;have lf:(kY (cpsOf ps ds) js).length=ps.length:=by rw[rC,lc]
 unfold W2;rw[head_filter,zG];have ln:(ps.zip (kY (cpsOf ps ds) js)).length=(cpsOf ps ds).length:=by rw[length_zip,lf,lc];omega
 rw[ln];unfold uE;refine Kr λk lt=>?_
 rw[lc]at lt;have hd:ds[k]?=some (ds[k]'(by omega)):=aA _;have hp:ps[k]?=some (ps[k]'(by omega)):=aA _;have hc:=qJ hp hd;have hf:=qw (jA:=js) hc;have hz:(ps.zip (kY (cpsOf ps ds) js))[k]?=some (ps[k]'(by omega),if k∈js then 0 else(uV (ps[k]'(by omega)) (ds[k]'(by omega))).s+1):=by rw[List.getElem?_zip_eq_some];exact⟨hp,hf⟩
 have hm:(oN ps)[k]?=some (ps[k]'(by omega)).nm:=by rw[oN,aJ,hp];rfl
 rw[hz,hf,hc,hm];simp[uV]
theorem Hi(c0:0<=g.cans)(ld:ds.length=g.pots.length)(y0:∀y∈ds,0<=y)(jb:∀j∈js,j<g.pots.length):Hg g d ds js=(!decide js.Nodup||!iJ g.cans (gR g.closed d) (cpsOf g.pots ds) js):=by
 unfold Hg iJ;have e1:decide ((if gR g.closed d then 0 else g.cans)<(js.length:Int))=(!js.isEmpty&&(gR g.closed d||decide (g.cans<(js.length:Int)))):=by
  cases js with
  |nil=>cases gR g.closed d<;>simp<;>omega
  |cons j js=>cases gR g.closed d<;>simp<;>omega
 have e2:wu g.pots ds js=js.all λk=>((cpsOf g.pots ds)[k]?.map λc=>decide (c.rest<=c.s)).getD true:=by
  unfold wu;rw[Bool.eq_iff_iff,all_eq_true,all_eq_true];refine forall_congr' λk=>forall_congr' λhk=>?_
  have lk:=jb k hk;have hd:ds[k]?=some (ds[k]'(by omega)):=aA _;have hp:g.pots[k]?=some (g.pots[k]'lk):=aA _;have hz:(g.pots.zip ds)[k]?=some (g.pots[k]'lk,ds[k]'(by omega)):=by rw[List.getElem?_zip_eq_some];exact⟨hp,hd⟩
  rw[hz,qJ hp hd,Option.map_some,Option.map_some,Option.getD_some,Option.getD_some,G9 (y0 _ (List.getElem_mem _))];rfl
 rw[e1,e2];cases (!js.isEmpty&&(gR g.closed d||decide (g.cans<(js.length:Int))))<;>cases decide js.Nodup<;>simp
theorem aaL(y0:∀y∈ds,0<=y):∀y∈kY (cpsOf ps ds) js,0<=y:=by
 intro y hy;unfold kY at hy;obtain⟨k,_,rfl⟩:=bM.mp hy
 split
 ·exact fG _
 ·cases e:(cpsOf ps ds)[k]? with
  |none=>exact fG _
  |some c =>
   have:c∈cpsOf ps ds:=aQ e;unfold cpsOf at this;obtain⟨q,hq,rfl⟩:=bM.mp this;have h0:=y0 q.2 (of_mem_zip hq).2
   show 0<=q.2+1
   omega
theorem Cj(h:n<2^62):n.log2<100:=by
 have:n.log2<62:=by
  by_cases z:n=0
  ·subst z;decide
  ·exact(Nat.log2_lt z).mpr h
 omega
theorem aaM{g:TG}{tb:TS}{D:Ends}(Pv:Nat->St->Hp->Prop)(h0:Pv 0 σ H)(hl:∀i σ H,i<=xs.length->Pv i σ H->cD K H l xs)(hs:∀i x σ H,i<xs.length->xs[xs.length-1-i]?=some x->Pv i σ H->g x σ H λσ2 H2=>tb {D with nx:=Pv (i+1),ct:=Pv (i+1),bk:=D.nx} σ2 H2)(hd:∀σ H,Pv xs.length σ H->D.nx σ H) : ∃W:Nat->Nat->St->Hp->Prop,(∃k,W 0 k σ H)/\∀i k σ H,W i k σ H -> ((Itv K l xs.length).stop i H/\D.nx σ H)\/((Itv K l xs.length).go i H/\∃N:St->Hp->Prop,(∀σ' H',N σ' H'->∃k',k'<k/\W (i+1) k' σ' H')/\∀x H',(Itv K l xs.length).Jm i H x H'->g x σ H' λσ2 H2=>tb {D with nx:=N,ct:=N,bk:=D.nx} σ2 H2):=by
 refine⟨λi k σ H=>k=xs.length-i/\i<=xs.length/\Pv i σ H,⟨xs.length,by simp,dG _,h0⟩,?_⟩;rintro i k σ H ⟨rfl,hi,p⟩;have sq:=hl i σ H hi p
 by_cases lt:i<xs.length
 ·refine .inr ⟨⟨lt,xs,sq,rfl⟩,Pv (i+1),λσ' H' p'=>⟨xs.length-(i+1),by omega,rfl,lt,p'⟩,λx H' y=>?_⟩;obtain⟨rfl,y⟩:=y;exact hs i x σ H' lt (y xs sq) p
 ·have e:i=xs.length:=by omega
  subst e;exact .inl ⟨rfl,hd σ H p⟩
def stOf(gs:List Int)(n:Int):Int×List Int:=gs.foldr (λg r=>(r.1 / g,r.1 % g::r.2)) (n,[])
def fU(ps:List cA):List Int:=ps.map cA.gap
theorem Hj(gs:List Int)(n:Int):(stOf gs n).2.length=gs.length:=by
 induction gs with
 |nil=>rfl
 |cons g gs ih=>show((stOf gs n).2.length+1)=gs.length+1;rw[ih]
theorem Hl :∀(ps:List cA),numOf (stOf (fU ps) n).1 ps (stOf (fU ps) n).2=n
 |[]=>rfl
 |p::ps=>by
  have ih:=Hl (n:=n) ps
  show numOf ((stOf (fU ps) n).1 / p.gap*p.gap+(stOf (fU ps) n).1 % p.gap) ps (stOf (fU ps) n).2=n
  rw[Int.mul_comm,Int.mul_ediv_add_emod];exact ih
theorem Ho(h0:0<=n):∀(ps:List cA)(wk:Int),(∀p∈ps,1<=p.gap)->n<sizeOf wk ps->0<=(stOf (fU ps) n).1/\(stOf (fU ps) n).1<wk
 |[],wk,_,h=>⟨h0,h⟩
 |p::ps,wk,hg,h=>by
  have hp:=hg p (by simp);obtain⟨i0,i1⟩:=Ho h0 ps (wk*p.gap) (λq hq=>hg q (by simp[hq])) h
  show 0<=(stOf (fU ps) n).1 / p.gap/\(stOf (fU ps) n).1 / p.gap<wk
  exact⟨Int.ediv_nonneg i0 (by omega),Int.ediv_lt_of_lt_mul (by omega) i1⟩
theorem N6 :∀{ps:List cA}{i:Nat}{y:Int}{p:cA},(∀p∈ps,1<=p.gap)->(stOf (fU ps) n).2[i]?=some y->ps[i]?=some p->0<=y/\y<p.gap
 |[],_,_,_,_,_,h=>by simp at h
 |q::ps,0,y,p,hg,h1,h2=>by
  have hq:=hg q (by simp);cases h2;have e:some ((stOf (fU ps) n).1 % q.gap)=some y:=h1;cases e;exact⟨Int.emod_nonneg _ (by omega),Int.emod_lt_of_pos _ (by omega)⟩
 |q::ps,i+1,y,p,hg,h1,h2=>N6 (λr hr=>hg r (by simp[hr])) (show(stOf (fU ps) n).2[i]?=some y from h1) (by simpa using h2)
theorem aaN(nu:∀p∈ps,p.Ok)(h0:0<=n)(h1:n<sizeOf wk ps):jf wk ps (stOf (fU ps) n).1 (stOf (fU ps) n).2:=by
 have hg:∀p∈ps,1<=p.gap:=λp hp=>(nu p hp).gap.1
 obtain⟨d0,d1⟩:=Ho h0 ps wk hg h1;exact⟨d0,d1,by rw[Hj,fU,ak],λi y p hy hp=>N6 hg hy hp⟩
inductive aci(K:Fg)(a:gB)(vs:List V)(H:Hp)(Q:VK)(E:XK):Prop
 |mk:∀x g v kv,vs=[.ref x,v]->fZ a H x g->(∀p∈g.pots,p.Ok)->g.pots.length<=8->g8 K H v kv->((dU v 0 (sizeOf g.week g.pots-1)=false->∀H',Same H H'->E (.ref a.dX) none H'))->((dU v 0 (sizeOf g.week g.pots-1)=true->∀n H' t,v=.int n->Same H H'->jy H' (.ref t) (stOf (fU g.pots) n).1 (stOf (fU g.pots) n).2->Q (.ref t) H'))->aci K a vs H Q E
theorem Hq:bY ["self","number","left","since","pot"] ["self","number"] (aZ ad8):=d9 (by decide +kernel)
theorem Rp{α:Type}{xs:List α}{i:Nat}(h:i<xs.length):xs.drop (xs.length-(i+1))=xs[xs.length-1-i]::xs.drop (xs.length-i):=by
 have e:xs.length-(i+1)=xs.length-1-i:=by omega
 rw[e,List.drop_eq_getElem_cons (by omega)]
 congr 1
 congr 1
 omega
theorem ael(S:Kh K mg a dV):cM P w K mg base (fY P w) 2 a.Wa a.aau ["self","number"] (aci K a):=by
 refine S.sta.F.lY Hq (λvs H Q E h=>?_) (λcdv A outer s H vs Q E hr h=>?_)
 ·obtain⟨x,g,v,kv,rfl,_⟩:=h;rfl
 ·obtain⟨x,g,v,kv,rfl,⟨dx,l,as,hx,hl,pt⟩,nu,h8,hv,bad,good⟩:=h;have Z:=S.Z;have T:=Z.G.T;refine⟨_,aL (dZ (gh (eX (c7 T.okW hr T.mwh T.wh.F.kp T.wh.b bB (ao (pv 1) (ao aP (ao (cg pY (oX (pv 0) Z.tG.cl Z.Nv (xZ Z) hr Z.size.b .nil bB) aP) aG)))))) (aU (iI bN rfl (by rfl) S.aaC.m S.aaC.q PySem.F.excBase_ValueError (ao eY aG))) bZ) (aL (bL (i:=2) Hq.nd rfl (Or.inl rfl) (pv 1)) (aL (bL (i:=3) Hq.nd rfl (Or.inl rfl) (gH aG)) (aL (ju fM rfl (adu (by rfl) T.B.reversed (ao (fJ (pv 0) rfl) aG)) (cR 4 Hq.nd) (aL (gJ (mL PySem.F.plainAttrs_list PySem.F.slot_list_append PySem.F.type_list_append iu (pv 3) (ao (cg gO (pv 2) (fJ (pv 4) rfl)) aG))) (aU (bL (i:=2) Hq.nd rfl (Or.inl rfl) (cg jK (pv 2) (fJ (pv 4) rfl)))))) (aU (bU (d8 (ao (pv 2) (ao (Qo rfl T.B.tuple T.B.reversed (ao (pv 3) aG)) aG)))))))),?_⟩;have la:as.length=g.pots.length:=Paired.length pt;have hL:cD K H l (as.map V.ref):=cD.of hl;refine⟨_,rfl,_,rfl,x,dx,_,rfl,hx,G6 _ _ _ _ (by decide +kernel) (by decide +kernel) (by decide +kernel) (by decide +kernel),x,dx,l,as,g.pots,_,g.week,_,rfl,hx,hL,pt,nu,_,_,rfl,rfl,v,0,_,kv,rfl,hv,_,rfl,?_⟩;cases ew:dU v 0 (sizeOf g.week g.pots-1) with
  |false=>exact dB ⟨by show 1<=sizeLine;decide,bad ew H (Same.refl _)⟩
  |true =>
   obtain⟨n,rfl,n0,n1⟩:=jl ew;refine cU ⟨_,rfl,by show 0<=sizeLine;decide,λm hm=>?_⟩;have sm:=aV (o:=.lst []) hm;refine⟨_,rfl,x,a.garden,dx,_,_,rfl,sm _ _ hx,Z.tG.cl,Z.nG _ (by simp),lB ..,l,_,rfl,sm.seq hL,?_⟩;have nml:l≠m:=dN hl hm;refine aaM (K:=K) (l:=l) (xs:=as.map V.ref) (λi σ H'=>∃y,σ=[some (.ref x),some (.int n),some (.int (stOf (fU (g.pots.drop (g.pots.length-i))) n).1),some (.ref m),y]/\H' m=some (.lst ((stOf (fU (g.pots.drop (g.pots.length-i))) n).2.reverse.map V.int))/\Same H H') ⟨none,by rw[Nat.sub_zero,drop_length];rfl,by rw[Nat.sub_zero,drop_length];exact aF,sm⟩ (λi σ H' _ ⟨_,_,_,s'⟩=>s'.seq hL) ?_ ?_
   ·rintro i y σ H1 lt hy ⟨u,rfl,hm1,s1⟩;rw[ak]at lt hy;rw[aJ]at hy;obtain⟨b,hb,rfl⟩:=bh.mp hy;obtain⟨p,hp,pb⟩:=dW pt hb;obtain⟨dy,hb'⟩:=pb.same s1;have Ke:=nu p (aQ hp);have cT:=T.cls p.jE;have lt':i<g.pots.length:=by omega
    have ed:=Rp lt';have ep:g.pots[g.pots.length-1-i]=p:=by
     rw[la,aA (by omega)]at hp;exact bO hp
    rw[ep]at ed;have e1:stOf (fU (g.pots.drop (g.pots.length-(i+1)))) n=((stOf (fU (g.pots.drop (g.pots.length-i))) n).1 / p.gap,(stOf (fU (g.pots.drop (g.pots.length-i))) n).1 % p.gap::(stOf (fU (g.pots.drop (g.pots.length-i))) n).2):=by
     rw[ed];rfl
    have lz:((stOf (fU (g.pots.drop (g.pots.length-i))) n).2.reverse.map V.int).length<sizeLine:=by
     rw[ak,length_reverse,Hj,fU,ak,length_drop];exact Nat.lt_of_le_of_lt (by omega:_<=8) (by decide)
    refine⟨_,rfl,.inl ⟨rfl,_,cD.of hm1⟩,_,rfl,_,rfl,b,p.cls a,dy,_,_,rfl,hb',cT.1.cl,cT.2 _ (by simp),p.wU,_,_,rfl,rfl,by have:=Ke.gap;omega,m,_,_,rfl,rfl,hm1,lz,?_⟩;have hb2:upd H1 m (.lst ((stOf (fU (g.pots.drop (g.pots.length-i))) n).2.reverse.map V.int++[V.int ((stOf (fU (g.pots.drop (g.pots.length-i))) n).1 % p.gap)])) b=some (.ins (p.cls a) dy p.fs):=by
     rw[bf (j9 hb' hm1 (by intro z;cases z))];exact hb'
    refine⟨_,rfl,_,rfl,b,p.cls a,dy,_,_,rfl,hb2,cT.1.cl,cT.2 _ (by simp),p.wU,_,_,rfl,rfl,⟨by have:=Ke.gap;omega,by have:=Ke.gap;omega⟩,?_⟩;refine⟨some (.ref b),?_,?_,ji s1 hm⟩
    ·rw[e1];rfl
    ·rw[aF,e1,List.reverse_cons,aX];rfl
   ·rintro σ H1 ⟨y,rfl,hm1,s1⟩;rw[ak,la,Nat.sub_self,List.drop_zero]at hm1⊢;refine⟨_,rfl,_,rfl,m,_,rfl,cD.of hm1,λt ht=>⟨by show 2<=sizeLine;decide,λu hu=>?_⟩⟩;have nut:t≠u:=dN aF hu;refine good ew n _ u rfl ((s1.trans (aV ht)).trans (aV hu)) ⟨u,t,rfl,aF,?_⟩;rw[bf nut,aF,<- List.map_reverse,List.reverse_reverse]
abbrev Rq:dI:=inClass (top 28) 4
inductive N7(a:gB)(vs:List V)(H:Hp)(Q:VK)(jU:XK):Prop
 |mk:∀x g,vs=[.ref x]->fZ a H x g->g.pots.length<=8->(∀H' t,Same H H'->jy H' (.ref t) 0 (List.replicate g.pots.length 0)->Q (.ref t) H')->N7 a vs H Q jU
theorem ahp:bY ["self"] ["self"] (aZ Rq):=d9 (by decide +kernel)
theorem Rr{α:Type}(y:α)(n:Nat):(List.range n).map (λ_=>y)=List.replicate n y:=by
 induction n with
 |zero=>rfl
 |succ n ih=>rw[dD,aX,ih,List.replicate_succ'];rfl
theorem W7(Z:DP K mg a dV)(F:mH K "fresh" "Garden.fresh" Rq f fd):cM P w K mg base (fY P w) 1 f fd ["self"] (N7 a):=by
 refine F.lY ahp (λvs H Q E h=>?_) (λcdv A outer s H vs Q E hr h=>?_)
 ·obtain⟨x,g,rfl,_⟩:=h;rfl
 ·obtain⟨x,g,rfl,⟨dx,l,as,hx,hl,pt⟩,h8,q⟩:=h;have T:=Z.G.T;refine⟨_,aU (bU (d8 (ao aP (ao (qD jF T.B.tuple PyProof.Rows.boot_tuple (ao (gG bN rfl ⟨_,_,rfl,rfl,rfl⟩ (gY.plain (N':=["pot"]) rfl (by decide +kernel) (by decide +kernel)) (fK (fJ (pv 0) rfl)) (λ_ _ _ _ _=>cR 0 (show [("pot":Str)].Nodup by decide +kernel)) (λ_ _ _ _ _=>gM) (λ_ _ _ _ _ _=>aP)) aG)) aG)))),?_⟩;have la:as.length=g.pots.length:=Paired.length pt;have hL:cD K H l (as.map V.ref):=cD.of hl;refine⟨_,rfl,x,a.garden,dx,_,_,rfl,hx,Z.tG.cl,Z.nG _ (by simp),lB ..,l,rfl,⟨_,hL⟩,λD hD=>?_⟩;refine xV as.length (bx (by omega:as.length<=8) (by decide)) (λ_=>.int 0) (λi H'=>H'=upd H D (.lst ((List.range i).map λ_=>V.int 0))) rfl (λi H' _ e=>by rw[e,aF]) (λH' e=>⟨?_,?_⟩) (λi H' lt e=>⟨?_,?_⟩)
  ·subst e;exact⟨_,(aV hD).seq hL,by rw[ak];exact aO _⟩
  ·subst e;have sD:=aV (o:=.lst ((List.range as.length).map λ_=>V.int 0)) hD;refine⟨D,_,rfl,.inl ⟨cD.of aF,λt ht=>⟨by show 2<=sizeLine;decide,λu hu=>?_⟩⟩⟩;have nut:t≠u:=dN aF hu;refine q _ u ((sD.trans (aV ht)).trans (aV hu)) ⟨u,t,rfl,aF,?_⟩;rw[bf nut,aF,Rr,la,List.map_replicate]
  ·subst e;have sD:=aV (o:=.lst ((List.range i).map λ_=>V.int 0)) hD;exact⟨_,_,sD.seq hL,by rw[aJ,aA lt];rfl⟩
  ·rintro y sZ ⟨rfl,_⟩ Qc k;subst e;exact⟨gD,k _ aF (by rw[lH])⟩
theorem W8(h:1<=wk)(nu:∀p∈ps,p.Ok):jf wk ps 0 (List.replicate ps.length 0):=by
 refine⟨fG _,by omega,by rw[length_replicate],λi y p hy hp=>?_⟩;rw[List.getElem?_replicate]at hy
 split at hy
 ·cases hy;have:=(nu p (aQ hp)).gap;omega
 ·cases hy
abbrev m8:dI:=top 41
abbrev Hr:dI:=top 42
abbrev ahq:List Str:=["garden","rows","state","first","here","day","names","places","since","dry"]
inductive fX(H:Hp)(v:V)(rs:(List (List Str))):Prop
 |mk:∀l ls,v=.ref l->H l=some (.lst (ls.map V.ref))->Paired (λb (r:List Str)=>H b=some (.lst (r.map V.str))) ls rs->fX H v rs
theorem fX.same(h:fX H v rs)(s:Same H H'):fX H' v rs:=by
 obtain⟨l,ls,e,hl,p⟩:=h;exact⟨l,ls,e,s _ _ hl,Paired.iB p λ_ _ z=>s _ _ z⟩
theorem Ef :∀{vs:List V}{js:List Nat},Paired (Ro H) vs js->vs=nats js
 |[],[],_=>rfl
 |_::_,_::_,.cons h t=>by rw[Ef t];cases h;rfl
theorem N8 :∀gs:List Str,Paired (xG H) (gs.map V.str) gs
 |[]=>.nil
 |_::gs=>.cons rfl (N8 gs)
structure Ht(K:Fg)(mg:Str->Option aC)(a:gB)(dV:aC):Prop where
 W:xK K mg a dV
 N:alk K mg a
 X:NZ K mg a
 en:mg "enumerate"=none
 bad:∃f fd,Fn K "refuse_bad_day" "refuse_bad_day" uX ["garden","state","places","day"] f fd/\mg "refuse_bad_day"=some (.ref f)
 sin:∃f fd,Fn K "since_behind" "since_behind" uY ["state","places"] f fd/\mg "since_behind"=some (.ref f)
 dry:∃f fd,Fn K "dry_names" "dry_names" N5 ["garden","since"] f fd/\mg "dry_names"=some (.ref f)
 fol:∃f fd dv t,zq K "followed" "followed" m8 dv f fd/\Binds K fd ["garden","rows","state","first"] []/\Binds K fd ["garden","rows","state","first"] [.int 0 t]/\mg "followed"=some (.ref f)
 fre:∃f fd,Fn K "fresh" "Garden.fresh" Rq ["self"] f fd/\Meth K a.garden "fresh" f
noncomputable def wz(a:gB)(H:Hp)(Q:VK)(E:XK):Wk->Prop
 | .kept d ds=>∀H' t u,Same H H'->H' t=some (.tup [.bl true,u])->jy H' u d ds->Q (.ref t) H'
 | .dry n nm=>∀H' t,Same H H'->H' t=some (.tup [.bl false,.int (n:Nat),.str nm])->Q (.ref t) H'
 | .bad n=>∀H' dx,Same H H'->H' dx=some (.xd [("day",.int (n:Nat))])->E (.ref a.dz) (some dx) H'
 | .none _=>∀H',Same H H'->E (.ref a.gA) none H'
theorem wz.from(h:wz a H Q E k)(s:Same H H1):wz a H1 Q E k:=by
 cases k with
 |kept d ds=>exact λH' t u s'=>h H' t u (s.trans s')
 |dry n nm=>exact λH' t s'=>h H' t (s.trans s')
 |bad n=>exact λH' dx s'=>h H' dx (s.trans s')
 |none n=>exact λH' s'=>h H' (s.trans s')
structure aem(g:iM):Prop where
 w1:1<=g.week
 c0:0<=g.cans
 n8:g.pots.length<=8
inductive Oa(K:Fg)(a:gB)(vs:List V)(H:Hp)(Q:VK)(E:XK):Prop
 |mk:∀x g rv rows v b f,vs=[.ref x,rv,v,.int (f:Nat)]->fZ a H x g->aem g->fX H rv rows->rows.length<=9000->(∀r∈rows,r.length<=1000)->f<2^61->j4 K H g.week g.pots v b->((b=false->∀H',Same H H'->E (.ref a.dX) none H'))->((b=true->∀d ds,jy H v d ds->jf g.week g.pots d ds->wz a H Q E (iT g rows f d ds)))->Oa K a vs H Q E
theorem wZ:bY ahq ["garden","rows","state","first"] (aZ m8):=d9 (by decide +kernel)
theorem Ob{α:Type}{xs:List α}{x:α}(h:xs[i]?=some x):xs.drop i=x::xs.drop (i+1):=by
 obtain⟨lt,e⟩:=aM.mp h;rw[List.drop_eq_getElem_cons lt,e]
theorem W9(F:zq K "followed" "followed" m8 dv f fd)(X:Ht K mg a dV):cM P w K mg base (fY P w) 4 f fd ["garden","rows","state","first"] (Oa K a):=by
 refine F.lY wZ (λvs H Q E h=>?_) (λcdv A outer s H vs Q E hr h=>?_)
 ·obtain⟨x,g,rv,rows,v,b,n,rfl,_⟩:=h;rfl
 ·obtain⟨x,g,rv,rows,v,b,n,rfl,gx,gf,rr,lr,lrr,ln,sa,bad,good⟩:=h;have S:=X.W.S;have Z:=S.Z;have B:=Z.G.T.B;obtain⟨fp,dp,pF,mP⟩:=X.N.plc;obtain⟨fb,db,bF,mB⟩:=X.bad;obtain⟨fs,ds',sF,mS⟩:=X.sin;obtain⟨fy,dy,yF,mY⟩:=X.dry;obtain⟨fd',dd,dF,mD⟩:=X.W.ahg;have Ke:cM P w K mg base (fY P w) 1 fp dp ["garden","name"] (WT K a):=aef pF.F Z X.N.gA;have okb:cM P w K mg base (fY P w) 3 fb db ["garden","state","places","day"] (WY K a):=aeh bF.F X.W X.X;have nu:cM P w K mg base (fY P w) 1 fs ds' ["state","places"] W3:=aej sF.F B X.en;have oky:cM P w K mg base (fY P w) 1 fy dy ["garden","since"] (W5 a):=aek yF.F Z;have okd:cM P w K mg base (fY P w) 1 fd' dd ["garden","day"] (DY a):=NQ dF.F X.W;have hr1:eZ 1 _:=hr.mono (by decide);have hr3:eZ 3 _:=hr.mono (by decide);have kP:=pF.F.kp;have bP:=pF.b;have Rh:[("name":Str),"garden"].Nodup:=by decide +kernel
  refine⟨_,aL (gJ (c7 (uT S) hr3 S.aaB S.ref.F.kp S.ref.b (dJ bN) (ao (pv 0) (ao (pv 2) aG)))) (aL (bL (i:=4) wZ.nd rfl (Or.inl rfl) (pv 2)) (aL (ju fM rfl (VJ (by rfl) X.en (ao (pv 1) aG) (pv 3)) (nJ rfl (cj (cR 5 wZ.nd) (cj (cR 6 wZ.nd) gK))) (aL (oE (i:=7) wZ.nd rfl (Or.inl rfl) bN rfl ⟨_,_,rfl,rfl,rfl⟩ (iw (N':=["name","garden"]) (cl:=[("garden",s.heap.objs.size+1)]) [none,some 0] ahq (aZ m8).names [(".0",.local),("name",.local),("place_of",.globalImplicit),("garden",.cell)] ["garden"] rfl (by decide +kernel) (by decide +kernel) rfl (λp hp=>by rw[aH.mp hp];rfl) rfl rfl rfl rfl (by decide +kernel) rfl (by decide +kernel)) (fK (pv 6)) (λ_ _ _ _ _=>cR 0 Rh) (λ_ _ _ _ _=>gM) (λ_ _ _ _ _ acc=>c7 Ke hr1 mP kP bP (dJ acc) (ao (pv 1) (ao (pv 0) aG)))) (aL (gJ (c7 okb hr3 mB bF.F.kp bF.b (dJ bN) (ao (pv 0) (ao (pv 4) (ao (pv 7) (ao (pv 5) aG)))))) (aL (bL (i:=8) wZ.nd rfl (Or.inl rfl) (c7 nu hr1 mS sF.F.kp sF.b bB (ao (pv 4) (ao (pv 7) aG)))) (aL (bL (i:=9) wZ.nd rfl (Or.inl rfl) (c7 oky hr1 mY yF.F.kp yF.b bB (ao (pv 0) (ao (pv 8) aG)))) (aL (dZ (FJ (pv 9) (λ_=>rfl)) (aU (bU (d8 (ao jW (ao (pv 5) (ao (cH iW (pv 9) aP (λ_ _=>rfl)) aG)))))) bZ) (aU (bL (i:=4) wZ.nd rfl (Or.inl rfl) (d8 (ao (c7 okd hr1 mD dF.F.kp dF.b bB (ao (pv 0) (ao (cH cQ (pv 4) aP (λ_ _=>rfl)) aG))) (ao (pv 8) aG))))))))))) (aU (bU (d8 (ao jW (ao (pv 4) aG))))))),?_⟩;refine⟨_,rfl,_,rfl,x,g,v,b,rfl,gx,gf.n8,sa,bad,λhb H1 s1=>?_⟩;subst hb;obtain⟨d0,ds0,st0,ok0⟩:=sa.good;have post:=(good rfl d0 ds0 st0 ok0).from s1;have Y5:=gx.same s1;have rr1:=rr.same s1;have st1:=st0.same s1;clear good bad;obtain⟨rl,ls,rfl,hrl,prl⟩:=id rr1;have lls:ls.length=rows.length:=Paired.length prl;have n8:=gf.n8;have big:9000<=sizeLine:=by decide
  refine⟨_,rfl,_,rfl,_,rfl,rl,_,n,rfl,rfl,(by omega),cD.of hrl,?_⟩;refine Q8 (K:=K) (l:=rl) (xs:=ls.map V.ref) (tu:=false) (f:=n) (λi σ H'=>∃u d ds u5 u6 u7 u8 u9,σ=[some (.ref x),some (.ref rl),some v,some (.int (n:Nat)),some u,u5,u6,u7,u8,u9]/\jy H' u d ds/\0<=d/\ds.length=g.pots.length/\(∀y∈ds,0<=y)/\Same H1 H'/\iT g rows n d0 ds0=iT g (rows.drop i) (n+i) d ds) ⟨v,d0,ds0,none,none,none,none,none,rfl,st1,ok0.d0,ok0.len,?_,Same.refl _,rfl⟩ ?_ ?_ ?_
  ·intro y hy;obtain⟨k,hk⟩:=mem_iff_getElem?.mp hy;have lt:=(aM.mp hk).1;have l2:=ok0.len;exact(ok0.at_ k y _ hk (aA (by omega))).1
  ·rintro i σ H' _ ⟨u,d,ds,u5,u6,u7,u8,u9,_,_,_,_,_,s',_⟩;exact cD.of (s' _ _ hrl)
  ·rintro i xv T σ H2 hi ⟨u,d,ds,u5,u6,u7,u8,u9,rfl,st,dp0,ld,y0,s2,ew⟩ hT;rw[aJ]at hi;obtain⟨rb,hrb,rfl⟩:=bh.mp hi;obtain⟨r,hr',er⟩:=dW prl hrb;have z:=aV (o:=.tup [V.int (n+i:Nat),.ref rb]) hT;have s3:=s2.trans z;have st3:=st.same z;have lri:=lrr r (aQ hr');have li:i<9000:=by have:=(aM.mp hr').1;omega
   rw[Ob hr']at ew;have post':=post;rw[ew]at post';refine⟨T,_,rfl,dY.of aF,rfl,_,_,rfl,_,_,rfl,rfl,?_⟩;refine⟨_,rfl,rb,rfl,⟨_,cD.of (s3 _ _ er)⟩,λD hD=>?_⟩;obtain⟨go,stop,yl⟩:=VP (K:=K) (R:=xG) lQ (H:=upd H2 T (.tup [V.int (n+i:Nat),.ref rb])) (l:=rb) (xs:=r) ⟨rb,_,rfl,s3 _ _ er,N8 r⟩;refine o7 (R:=xG) (S:=Ro) Ec (xs:=r) (λ_=>true) (λnm=>(oN g.pots).idxOf nm) (λnm=>nm∈oN g.pots) (by omega) hD go stop yl ?_ ?_
   ·intro j nm v3 H3 hj rv s4 Qc Qn k kn;cases rv;refine⟨jg,?_⟩
    show if true=true then _ else Qn H3
    rw[if_pos rfl];refine⟨_,rfl,_,rfl,x,g,.str nm,some nm,rfl,Y5.same (s3.trans s4),n8,.inl ⟨nm,rfl,rfl⟩,λno H4 s5=>?_,λnm' j' p' e1 fst H4 s5=>?_⟩
    ·have nin:=no nm rfl;have e:iT g (r::rows.drop (i+1)) (n+i) d ds=.none (n+i):=by
      unfold iT wY;rw[if_neg];intro h;rw[all_eq_true]at h;exact nin (by simpa using h nm (aQ hj))
     rw[e]at post';exact post' H4 ((s3.trans s4).trans s5)
    ·cases e1;exact k rfl fst.mem _ _ s5 (by show V.int _=V.int _;rw[Ci fst])
   ·intro H3 s4 al r3;obtain⟨D',vs,eD,hv,Y6⟩:=r3;cases eD;rw[List.filter_eq_self.mpr λ_ _=>rfl]at Y6;have ev:vs=nats (r.map λnm=>(oN g.pots).idxOf nm):=Ef Y6;subst ev;have ea:(r.all λnm=>decide (nm∈oN g.pots))=true:=by
     rw[all_eq_true];intro nm hnm;exact aK (al nm hnm rfl)
    generalize ejs:(r.map λnm=>(oN g.pots).idxOf nm)=js at hv;have jb:∀j∈js,j<g.pots.length:=by
     intro j hj;rw[<- ejs]at hj;obtain⟨nm,hnm,rfl⟩:=bM.mp hj;have:=idxOf_lt_length_of_mem (al nm hnm rfl);simpa[oN]using this
    have ljs:js.length<=1000:=by rw[<- ejs,ak];exact lri
    have s34:=s3.trans s4;have st4:=st3.same s4;have eb:=Hi (d:=d) gf.c0 ld y0 jb;have wlk:iT g (r::rows.drop (i+1)) (n+i) d ds=if js.Nodup then(match fV (oN g.pots) g.cans (gR g.closed d) (cpsOf g.pots ds) js with
      | .no=>.bad (n+i)
      | .dry nm=>.dry (n+i) nm
      | .st far=>iT g (rows.drop (i+1)) (n+i+1) ((d+1) % g.week) far) else .bad (n+i):=by
     rw[<- ejs];unfold iT;rw[wY,if_pos ea]<;>rfl
    rw[wlk]at post' ew;have lg:((n+i:Nat):Int).natAbs.log2<100:=by
     rw[Int.natAbs_natCast];exact Cj (by omega)
    refine⟨_,rfl,_,rfl,_,rfl,_,rfl,x,g,u,d,ds,D,js,((n+i:Nat):Int),rfl,Y5.same s34,st4,hv,jb,ld,ljs,dp0,lg,λhb H4 dx s5 hdx=>?_,λhb H4 s5=>?_⟩
    ·have e:(if js.Nodup then(match fV (oN g.pots) g.cans (gR g.closed d) (cpsOf g.pots ds) js with
      | .no=>Wk.bad (n+i)
      | .dry nm=>.dry (n+i) nm
      | .st far=>iT g (rows.drop (i+1)) (n+i+1) ((d+1) % g.week) far) else .bad (n+i))=.bad (n+i):=by
      by_cases nd:js.Nodup
      ·rw[if_pos nd];rw[eb,aK nd]at hb;have:iJ g.cans (gR g.closed d) (cpsOf g.pots ds) js=false:=by simpa using hb
       unfold fV;rw[this];rfl
      ·rw[if_neg nd]
     rw[e]at post';exact post' H4 dx (s34.trans s5) hdx
    ·rw[eb]at hb;have nd:js.Nodup:=by
      rcases Bool.or_eq_false_iff.mp hb with ⟨h1,_⟩;simpa using h1
     have al':iJ g.cans (gR g.closed d) (cpsOf g.pots ds) js=true:=by
      rcases Bool.or_eq_false_iff.mp hb with ⟨_,h1⟩;simpa using h1
     rw[if_pos nd]at post' ew;have s45:=s34.trans s5;have Tg:=st4.same s5;refine⟨_,rfl,_,rfl,u,d,ds,D,js,rfl,Tg,s5 _ _ hv,by omega,λH5 ts s6 hts=>?_⟩;rw[aaK js ld]at hts;have s46:=s45.trans s6;have lf:(kY (cpsOf g.pots ds) js).length=g.pots.length:=by rw[rC,lR ld]
     refine⟨_,rfl,_,rfl,x,g,ts,_,rfl,Y5.same s46,hts,lf,by omega,λH6 ly s7 hly=>?_⟩;have Hu:=s46.trans s7;have st7:=(Tg.same s6).same s7;have hh:=W6 js ld;refine⟨_,rfl,!((W2 g.pots (kY (cpsOf g.pots ds) js)).map V.str).isEmpty,.inl ⟨_,cD.of hly,rfl⟩,?_⟩;cases ed:W2 g.pots (kY (cpsOf g.pots ds) js) with
     |nil =>
      rw[ed]at hh;have dn:uE (oN g.pots) (cpsOf g.pots ds) js=none:=hh.symm;have ebh:fV (oN g.pots) g.cans (gR g.closed d) (cpsOf g.pots ds) js=.st (kY (cpsOf g.pots ds) js):=by
       unfold fV;rw[al',dn];rfl
      rw[ebh]at ew;obtain⟨tu,su,rfl,htu,hsu⟩:=id st7;refine cU ?_;refine⟨_,rfl,_,rfl,tu,_,0,.int d,rfl,rfl,dY.of htu,rfl,x,g,d,rfl,Y5.same Hu,(by have:=gf.w1;omega),_,rfl,by show 2<=sizeLine;decide,λt4 h4=>?_⟩;have z4:=aV (o:=.tup [V.int ((d+1) % g.week),.ref ts]) h4;refine⟨_,_,_,_,_,_,_,_,rfl,⟨t4,ts,rfl,aF,(s7.trans z4) _ _ hts⟩,Int.emod_nonneg _ (by have:=gf.w1;omega),lf,aaL y0,Hu.trans z4,ew⟩
     |cons nm rest =>
      rw[ed]at hh hly;have dn:uE (oN g.pots) (cpsOf g.pots ds) js=some nm:=hh.symm;have ebh:fV (oN g.pots) g.cans (gR g.closed d) (cpsOf g.pots ds) js=.dry nm:=by
       unfold fV;rw[al',dn];rfl
      rw[ebh]at post';refine dB ⟨_,rfl,_,rfl,ly,_,((0:Nat):Int),.str nm,rfl,rfl,cD.of hly,gU rfl,by show 3<=sizeLine;decide,λt4 h4=>?_⟩;exact post' _ t4 (Hu.trans (aV h4)) aF
  ·rintro σ H2 ⟨u,d,ds,u5,u6,u7,u8,u9,rfl,st,dp0,ld,y0,s2,ew⟩;rw[ak,lls,drop_length]at ew;rw[ew]at post;refine⟨_,rfl,by show 2<=sizeLine;decide,λt4 h4=>?_⟩;have z4:=aV (o:=.tup [V.bl true,u]) h4;exact post _ t4 u (s2.trans z4) aF (st.same z4)
inductive Ks(K:Fg)(a:gB)(vs:List V)(H:Hp)(Q:VK)(E:XK):Prop
 |mk:∀x g rv rows,vs=[.ref x,rv]->fZ a H x g->aem g->(∀p∈g.pots,p.Ok)->fX H rv rows->rows.length<=9000->(∀r∈rows,r.length<=1000)->wz a H Q E (iT g rows 0 0 (List.replicate g.pots.length 0))->Ks K a vs H Q E
theorem aen:bY ["garden","rows"] ["garden","rows"] (aZ Hr):=d9 (by decide +kernel)
theorem aaO(F:mH K "kept" "kept" Hr f fd)(X:Ht K mg a dV):cM P w K mg base (fY P w) 5 f fd ["garden","rows"] (Ks K a):=by
 refine F.lY aen (λvs H Q E h=>?_) (λcdv A outer s H vs Q E hr h=>?_)
 ·obtain⟨x,g,rv,rows,rfl,_⟩:=h;rfl
 ·obtain⟨x,g,rv,rows,rfl,gx,gf,nu,rr,lr,lrr,post⟩:=h;have Z:=X.W.S.Z;obtain⟨ff,df,dv,t0,fF,_,b0,mF⟩:=X.fol;obtain⟨fe,de,eF,hF⟩:=X.fre;have okf:cM P w K mg base (fY P w) 4 ff df ["garden","rows","state","first"] (Oa K a):=W9 fF X;have oke:cM P w K mg base (fY P w) 1 fe de ["self"] (N7 a):=W7 Z eF.F;have hr1:eZ 1 _:=hr.mono (by decide);have v0:Vals [V.int ((0:Nat):Int)] [Value.int 0 t0]:=.cons ⟨t0,rfl⟩ .nil;refine⟨_,aU (bU (tY okf hr (by rfl) mF fF.kp b0 v0 (dJ bN) (ao (pv 0) (ao (pv 1) (ao (oX (pv 0) Z.tG.cl hF oke hr1 eF.b .nil bB) aG))))),?_⟩;obtain⟨dx,l,as,hx,hl,pt⟩:=id gx;refine⟨_,rfl,_,rfl,_,rfl,x,dx,_,rfl,hx,G6 _ _ _ _ (by decide +kernel) (by decide +kernel) (by decide +kernel) (by decide +kernel),x,g,rfl,gx,gf.n8,λH1 t s1 st=>?_⟩;have ok1:=W8 (wk:=g.week) gf.w1 nu;refine⟨x,g,rv,rows,_,true,0,rfl,gx.same s1,gf,rr.same s1,lr,lrr,by decide,st.arg ok1,(λz=>nomatch z),λ_ d ds sv _=>?_⟩;obtain⟨rfl,rfl⟩:=sv.one st;exact post.from s1
structure Eh(g:iM):Prop where
 w0:0<g.week
 c0:0<=g.cans
 n8:g.pots.length<=8
 nu:∀p∈g.pots,p.Ok
 sz:sizeOf g.week g.pots<=20000
def iz(g:iM):Nat:=(sizeOf g.week g.pots).toNat
def stN(g:iM)(n:Nat):Int×List Int:=stOf (fU g.pots) (n:Int)
theorem Hv:∀(ps:List cA)(ds:List Int)(d:Int),numOf d ps ds=GC d (fU ps) ds
 |[],_,_=>rfl
 |_::_,[],_=>rfl
 |p::ps,y::ds,d=>Hv ps ds (d*p.gap+y)
theorem Rt(h:jf wk ps d ds):stOf (fU ps) (numOf d ps ds)=(d,ds):=by
 rw[Hv];exact Vd d (InB.of (by rw[fU,ak];exact h.len) λi y g hy hg=>by
  rw[fU,aJ]at hg;obtain⟨p,hp,rfl⟩:=bh.mp hg;exact h.at_ i y p hy hp)
theorem Xa:∀{ps:List cA}{ds:List Int}{wk d:Int},0<=d->d<wk->ds.length=ps.length->(∀(i:Nat)(y:Int)(p:cA),ds[i]?=some y->ps[i]?=some p->0<=y/\y<p.gap)->0<=numOf d ps ds/\numOf d ps ds<sizeOf wk ps
 |[],[],_,_,h0,h1,_,_=>⟨h0,h1⟩
 |[],_::_,_,_,_,_,h,_=>by simp at h
 |_::_,[],_,_,_,_,h,_=>by simp at h
 |p::ps,y::ds,wk,d,h0,h1,h,f=>by
  obtain⟨y0,y1⟩:=f 0 y p rfl rfl;have g0:0<=p.gap:=by omega
  have m0:0<=d*p.gap:=Int.mul_nonneg h0 g0;have m1:(d+1)*p.gap<=wk*p.gap:=Int.mul_le_mul_of_nonneg_right (by omega) g0;rw[Int.add_mul,Int.one_mul]at m1;exact Xa (ps:=ps) (ds:=ds) (wk:=wk*p.gap) (d:=d*p.gap+y) (by omega) (by omega) (by simpa using h) λi y' p' e1 e2=>f (i+1) y' p' (by simpa using e1) (by simpa using e2)
theorem jf.lt(h:jf wk ps d ds):0<=numOf d ps ds/\numOf d ps ds<sizeOf wk ps:=Xa h.d0 h.d1 h.len h.at_
theorem Ku(ok:Eh g)(st:jf g.week g.pots d ds)(h:c∈mX g d ds):jf g.week g.pots c.2.1 c.2.2:=by
 unfold mX at h;obtain⟨q,hq,rfl⟩:=bM.mp h;have w0:=ok.w0;have lc:(cpsOf g.pots ds).length=g.pots.length:=lR st.len;rw[Am (nms:=g.pots) lc.symm ok.c0 (λc hc=>by
  obtain⟨z,hz,rfl⟩:=bM.mp hc;exact(ok.nu _ (of_mem_zip hz).1).gap.1)]at hq
 obtain⟨h1,h2⟩:=Ve lc.symm (λi c hc=>by
  have lt:=(aM.mp hc).1;have l1:i<g.pots.length:=by omega
  have l2:i<ds.length:=by rw[st.len];exact l1
  have e:=qJ (aA l1) (aA l2);rw[hc]at e;cases e;exact st.at_ i _ _ (aA l2) (aA l1)) hq
 refine⟨Int.emod_nonneg _ (by omega),Int.emod_lt_of_pos _ w0,by show q.2.length=_;rw[h1,lc],λi y p hy hp=>?_⟩;have l1:i<g.pots.length:=(aM.mp hp).1;have l2:i<ds.length:=by rw[st.len];exact l1
 exact h2 i y _ hy (qJ hp (aA l2))
theorem aaP(g:iM)(d:Int)(ds:List Int)(h8:g.pots.length<=8):(mX g d ds).length<=256:=by
 unfold mX qu;rw[ak,ak];have h1:=rA (if gR g.closed d then 0 else g.cans) (cpsOf g.pots ds) (cpsOf g.pots ds).length;have h2:(cpsOf g.pots ds).length<=8:=by
  unfold cpsOf;rw[ak,length_zip];omega
 exact bx h1 (zE h2)
theorem yj(ok:Eh g):((iz g:Nat):Int)=sizeOf g.week g.pots:=by
 have h:0<=sizeOf g.week g.pots:=by
  have:∀(ps:List cA)(wk:Int),(∀p∈ps,p.Ok)->0<=wk->0<=sizeOf wk ps:=by
   intro ps
   induction ps with
   |nil=>exact λwk _ h=>h
   |cons p ps ih =>
    intro wk hk h0;exact ih (wk*p.gap) (λq hq=>hk q (by simp[hq])) (Int.mul_nonneg h0 (by have:=(hk p (by simp)).gap;omega))
  exact this _ _ ok.nu (by have:=ok.w0;omega)
 unfold iz;omega
theorem Eh.small(ok:Eh g):iz g<=20000:=by
 have h1:=yj ok;have h2:=ok.sz;omega
theorem aeo(ok:Eh g)(h:n<iz g):jf g.week g.pots (stN g n).1 (stN g n).2:=aaN ok.nu (Int.natCast_nonneg n) (by rw[<- yj ok];omega)
theorem Oc :numOf (stN g n).1 g.pots (stN g n).2=(n:Int):=Hl g.pots
theorem aaQ(h:stN g n=stN g m):n=m:=by
 have h1:numOf (stN g n).1 g.pots (stN g n).2=numOf (stN g m).1 g.pots (stN g m).2:=by rw[h]
 rw[Oc,Oc]at h1;omega
theorem Ei(ok:Eh g)(st:jf g.week g.pots d ds):∃t:Nat,numOf d g.pots ds=(t:Int)/\t<iz g/\stN g t=(d,ds):=by
 obtain⟨h0,h1⟩:=st.lt;have h2:=yj ok;obtain⟨t,et⟩:∃t:Nat,numOf d g.pots ds=(t:Int):=⟨(numOf d g.pots ds).toNat,by omega⟩;refine⟨t,et,by omega,?_⟩;unfold stN;rw[<- et];exact Rt st
def oO(ns:List Nat):List V:=ns.map λn:Nat=>V.int (n:Int)
theorem wA(ns:List Nat)(n:Nat):oO (ns++[n])=oO ns++[V.int (n:Int)]:=by
 unfold oO;rw[aX];rfl
theorem zH(ns:List Nat):(oO ns).length=ns.length:=ak _
def j6(H:Hp)(ls:List aB)(ah:List (List Nat)):Prop:=∀(j:Nat) b,ls[j]?=some b->H b=some (.lst (oO (ah.getD j [])))
theorem Xb{ls:List aB}(nd:ls.Nodup){i j:Nat}(h1:ls[i]?=some b)(h2:ls[j]?=some b):i=j:=by
 obtain⟨l1,e1⟩:=aM.mp h1;obtain⟨l2,e2⟩:=aM.mp h2;exact(List.getElem_inj nd).mp (e1.trans e2.symm)
theorem j6.road{t n:Nat}(h:j6 H ls ah)(nd:ls.Nodup)(hl:ls.length=ah.length)(hb:ls[t]?=some b):j6 (L2.upd H b (.lst (oO (ah.getD t [])++[V.int (n:Int)]))) ls (uK n ah t):=by
 intro j c hc;have lt:t<ah.length:=by rw[<- hl];exact(aM.mp hb).1
 by_cases e:j=t
 ·subst e;rw[hb]at hc;cases hc;have:(uK n ah j).getD j []=ah.getD j []++[n]:=by unfold uK;simp[lt]
  rw[aF,this,wA]
 ·have ne:c≠b:=λz=>e (Xb nd hc (by rw[z];exact hb))
  have e':¬t=j:=λz=>e z.symm
  have:(uK n ah t).getD j []=ah.getD j []:=by unfold uK;simp[getD,e']
  rw[bf ne,this];exact h j c hc
structure Rw(N m:Nat)(rows:List (List Nat)):Prop where
 len:rows.length=N
 short:∀t,(rows.getD t []).length<=m
 inN:∀t n,n∈rows.getD t []->n<N
theorem Rw.zero(N:Nat):Rw N 0 (List.replicate N []):=by
 have e:∀t,(List.replicate N ([]:List Nat)).getD t []=[]:=λt=>by by_cases lt:t<N<;>simp[getD,lt]
 exact⟨length_replicate,λt=>by rw[e];exact aO _,λt n h=>by rw[e]at h;cases h⟩
theorem Rw.up(h:Rw N m rows)(le:m<=k):Rw N k rows:=⟨h.len,λt=>bx (h.short t) le,h.inN⟩
theorem Rw.push(h:Rw N m rows)(ht:t<N)(hn:n<N):Rw N (m+1) (uK n rows t):=by
 have l:=h.len;have e:∀j,(uK n rows t).getD j []=if j=t then rows.getD t []++[n] else rows.getD j []:=λj=>by
  unfold uK
  by_cases z:j=t
  ·subst z;simp[show j<rows.length by omega]
  ·have z':¬t=j:=λy=>z y.symm
   simp[getD,z,z']
 refine⟨by unfold uK;rw[length_set,l],λj=>?_,λj k hk=>?_⟩
 ·rw[e]
  split
  ·rw[aY];have:=h.short t;show _+1<=_;omega
  ·have:=h.short j;omega
 ·rw[e]at hk
  split at hk
  ·rcases bQ.mp hk with z|z
   ·exact h.inN t k z
   ·rw[aH.mp z];exact hn
  ·exact h.inN j k hk
theorem j6.same(h:j6 H ls ah)(s:Same H H'):j6 H' ls ah:=λj b hb=>s _ _ (h j b hb)
theorem j6.upd(h:j6 H ls ah)(nc:c∉ls):j6 (L2.upd H c o) ls ah:=λj b hb=>by
 rw[bf (λz=>nc (by rw[<- z];exact aQ hb))];exact h j b hb
abbrev zJ:dI:=top 45
theorem Kv{r:St}:nU (none::none::r) (((none::none::r).set 0 x).set 1 y):=by
 intro j v h
 match j,h with
 |0,h=>simp at h
 |1,h=>simp at h
 |j+2,h=>exact h
theorem Kw(P:cC)(w:World)(hc:X.calm=true)(hu:X.A.units+64<cLine)(hP:autoParam (X.prog=P) zau0)(hw:autoParam (X.w=w) zau0):jw X (.type "dict") (λxs H Q=>∃(p:aB)(ps:List aB)(ks:List m6),xs=[.ref p]/\H p=some (.lst (ps.map V.ref))/\ks.length=ps.length /\ (∀(j:Nat) r q,ks[j]?=some r->ps[j]?=some q->H q=some (.tup [.ref r.2.1,r.2.2]))/\(∀r∈ks,eU H r.1 r.2.1)/\(ks.map (·.1)).Nodup/\∀l,H l=none->Q (.ref l) (L2.upd H l (rK P w l ks))):=by
 subst hP hw;exact JV hc hu
theorem Xc(P:cC)(w:World)(hu:X.A.units+64<cLine)(hP:autoParam (X.prog=P) zau0)(hw:autoParam (X.w=w) zau0):IxR X (adF P w):=by
 subst hP hw;exact Vr hu
theorem uZ :∀{vs:List V}{ds:List Int},Paired (oM H) vs ds->vs=ds.map V.int
 |_,_,.nil=>rfl
 |_,_,.cons h r=>by rw[cJ,<- uZ r];cases h;rfl
theorem qK :∀{vs:List V}{xs:List (Int×List Int)},Paired (jc H) vs xs->∃ts:List aB,vs=ts.map V.ref/\ts.length=xs.length/\∀(i:Nat) t x,ts[i]?=some t->xs[i]?=some x->eU H x t
 |_,_,.nil=>⟨[],rfl,rfl,λi t x h=>by simp at h⟩
 |_,_,.cons (a:=v) (b:=x) h r=>by
  obtain⟨ts,rfl,l,f⟩:=qK r;obtain⟨t,u,z,rfl,ht,r1,tb,bs,rfl,hb,pb⟩:=h;cases r1;have eb:=uZ pb;refine⟨t::ts,rfl,by rw[length_cons,length_cons,l],λi t' x' h1 h2=>?_⟩;cases i with
  |zero =>
   cases h1;cases h2;exact⟨tb,ht,by rw[hb,eb]⟩
  |succ i=>exact f i t' x' (by simpa using h1) (by simpa using h2)
theorem qL(H:Hp):∀gs:List Int,Paired (oM H) (gs.map V.int) gs
 |[]=>.nil
 |_::gs=>.cons rfl (qL H gs)
theorem aaR(h:jc H v x):∃t,v=.ref t/\eU H x t:=by
 obtain⟨ts,e,l,f⟩:=qK (.cons h .nil)
 match ts,e,l with
 |[t],e,_ =>
  cases e;exact⟨t,rfl,f 0 t x rfl rfl⟩
theorem vg{x:Int×List Int}(h:eU H x t):jy H (.ref t) x.1 x.2:=by
 obtain⟨s,h1,h2⟩:=h;exact⟨t,s,rfl,h1,h2⟩
abbrev Xd:List Str:=["garden","states","numbers","ahead","counts","number","state","found","choice","behind"]
inductive Ej(a:gB)(vs:List V)(H:Hp)(Q:VK)(jU:XK):Prop
 |mk:∀x g,vs=[.ref x]->fZ a H x g->Eh g->(∀H' t A C ls (cs:List Int) rows m,Same H H'->H' t=some (.tup [.ref A,.ref C])->H C=none->H' C=some (.lst (cs.map V.int))->cs.length=iz g ->
 H' A=some (.lst (ls.map V.ref))->ls.length=iz g->j6 H' ls rows->Rw (iz g) m rows->C≠A->C∉ls->Q (.ref t) H')->Ej a vs H Q jU
theorem lU:bY Xd ["garden"] (aZ zJ):=d9 (by decide +kernel)
theorem Xe(F:mH K "roads" "roads" zJ f fd)(W:xK K mg a dV)(en:mg "enumerate"=none)(di:mg "dict"=none):cM P w K mg base (fY P w) 5 f fd ["garden"] (Ej a):=by
 refine F.lY lU (λvs H Q E h=>?_) (λcdv A outer s H vs Q E hr h=>?_)
 ·obtain⟨x,g,rfl,_⟩:=h;rfl
 ·obtain⟨x,g,rfl,gx,ok,q⟩:=h;have S:=W.S;have Z:=S.Z;have T:=Z.G.T;have B:=T.B;obtain⟨fc,dc,cF,mC⟩:=W.cho;have uN:cM P w K mg base (fY P w) 4 fc dc ["garden","state"] (NT K a):=WQ cF.F W;have kC:=cF.F.kp;have bC:=cF.b;have hr1:eZ 1 _:=hr.mono (by decide);have hr2:eZ 2 _:=hr.mono (by decide);have ndA:[("number":Str),"garden"].Nodup:=by decide +kernel
  have ndB:[("number":Str),"state"].Nodup:=by decide +kernel
  refine⟨_,aL (oE (i:=1) lU.nd rfl (Or.inl rfl) bN rfl ⟨_,_,rfl,rfl,rfl⟩ (iw (N':=["number","garden"]) (cl:=[("garden",s.heap.objs.size+1)]) [none,some 0] Xd (aZ zJ).names [(".0",.local),("number",.local),("garden",.cell)] ["garden"] rfl (by decide +kernel) (by decide +kernel) rfl (λp hp=>by rw[aH.mp hp];rfl) rfl rfl rfl rfl (by decide +kernel) rfl (by decide +kernel)) (jz rfl B.range (ao (oX (pv 0) Z.tG.cl Z.Nv (xZ Z) hr1 Z.size.b .nil bB) aG)) (λ_ _ _ _ _=>cR 0 ndA) (λ_ _ _ _ _=>gM) (λ_ _ _ _ _ acc=>qQ (pv 1) Z.tG.cl S.ale (ael S) hr2 S.sta.b .nil (dJ acc) (ao (pv 0) aG))) (aL (bL (i:=2) lU.nd rfl (Or.inl rfl) (qD (Kw P w rfl hr.units) di boot_dict (ao (gG bN rfl ⟨_,_,rfl,rfl,rfl⟩ (gY.plain (N':=["number","state"]) rfl (by decide +kernel) (by decide +kernel)) (xX (by rfl) en (ao (pv 1) aG)) (λ_ _ _ _ _=>qH K (n:=2) rfl (cj (cR 0 ndB) (cj (cR 1 ndB) gK))) (λ_ _ _ _ _=>gM) (λ_ _ _ _ _ _=>d8 (ao (pv 1) (ao (pv 0) aG)))) aG))) (aL (oE (i:=3) lU.nd rfl (Or.inl rfl) bN rfl ⟨_,_,rfl,rfl,rfl⟩ (gY.plain (N':=["state"]) rfl (by decide +kernel) (by decide +kernel)) (fK (pv 1)) (λ_ _ _ _ _=>cR 0 (show [("state":Str)].Nodup by decide +kernel)) (λ_ _ _ _ _=>gM) (λ_ _ _ _ _ _=>gH aG)) (aL (bL (i:=4) lU.nd rfl (Or.inl rfl) (gH aG)) (aL (ju fM rfl (xX (by rfl) en (ao (pv 1) aG)) (nJ rfl (cj (cR 5 lU.nd) (cj (cR 6 lU.nd) gK))) (aL (bL (i:=7) lU.nd rfl (Or.inl rfl) (c7 uN hr mC kC bC (dJ bN) (ao (pv 0) (ao (pv 6) aG)))) (aL (gJ (mL PySem.F.plainAttrs_list PySem.F.slot_list_append PySem.F.type_list_append iu (pv 4) (ao (eO bT B.len PySem.boot_len (ao (pv 7) aG)) aG))) (aU (ju fM rfl (fK (pv 7)) (nJ rfl (cj (cR 8 lU.nd) (cj (cR 9 lU.nd) gK))) (aU (gJ (mL PySem.F.plainAttrs_list PySem.F.slot_list_append PySem.F.type_list_append iu (cH iW (pv 3) (cH (Xc P w hr.units) (pv 2) (pv 9) (λ_ _=>rfl)) (λ_ _=>rfl)) (ao (pv 5) aG))))))))) (aU (bU (d8 (ao (pv 3) (ao (pv 4) aG))))))))),?_⟩;obtain⟨dx,l,as,hx,hl,pt⟩:=id gx;have small:=ok.small;have szi:=yj ok;have big:20000*257<=sizeLine:=by decide
  refine⟨_,rfl,x,dx,_,rfl,hx,G6 _ _ _ _ (by decide +kernel) (by decide +kernel) (by decide +kernel) (by decide +kernel),x,dx,l,as,g.pots,_,g.week,_,rfl,hx,cD.of hl,pt,ok.nu,_,rfl,by omega,by omega,λlS hlS=>?_⟩;refine Vl jd (λn=>stN g n) (n:=iz g) rfl (by omega) hlS ?_ ?_
  ·intro i H2 lt s2 Qc k;obtain⟨dx2,l2,as2,hx2,_,_⟩:=gx.same s2;have ew:dU (.int ((i:Nat):Int)) 0 (sizeOf g.week g.pots-1)=true:=by
    have h1:(0:Int)<=(i:Int):=Int.natCast_nonneg i;have h2:(i:Int)<=sizeOf g.week g.pots-1:=by omega
    simp[dU,h1,h2]
   refine⟨JH,_,rfl,x,dx2,_,rfl,hx2,G6 _ _ _ _ (by decide +kernel) (by decide +kernel) (by decide +kernel) (by decide +kernel),_,rfl,x,g,_,.int,rfl,gx.same s2,ok.nu,ok.n8,⟨_,rfl⟩,λz=>(by rw[ew]at z;cases z),λ_ n H3 t ev s3 st=>?_⟩;cases ev;obtain⟨t',u,e,h1,h2⟩:=st;cases e;exact k _ H3 s3 ⟨t,_,_,rfl,h1,rfl,u,_,rfl,h2,qL _ _⟩
  intro H1 s1 r1;obtain⟨_,vs,el,hv,Jg⟩:=id r1;cases el;obtain⟨ts,rfl,lts,nest⟩:=qK Jg;rw[ak,bK]at lts;have acp:∀(i:Nat) t,ts[i]?=some t->eU H1 (stN g i) t:=λi t h=>by
   have lt:i<iz g:=by rw[<- lts];exact(aM.mp h).1
   exact nest i t _ h (by rw[aJ,List.getElem?_range lt];rfl)
  have kts:∀i,i<iz g->ts[i]?=some (ts.getD i 0):=λi lt=>by
   have:i<ts.length:=by omega
   simp[getD,this]
  have kvs:∀i,i<iz g->(ts.map V.ref)[i]?=some (.ref (ts.getD i 0)):=λi lt=>by rw[aJ,kts i lt];rfl
  obtain⟨ks,eks⟩:∃ks:List m6,ks=(List.range (iz g)).map λj:Nat=>(stN g j,ts.getD j 0,V.int (j:Int)):=⟨_,rfl⟩
  have hks:∀j,j<iz g->ks[j]?=some (stN g j,ts.getD j 0,V.int (j:Int)):=λj lt=>by rw[eks,aJ,List.getElem?_range lt];rfl
  have kl:ks.length=iz g:=by rw[eks,ak,bK]
  have km:∀r∈ks,eU H1 r.1 r.2.1:=λr hr=>by
   rw[eks]at hr;obtain⟨j,hj,rfl⟩:=bM.mp hr;exact acp j _ (kts j (mem_range.mp hj))
  have knd:(ks.map (·.1)).Nodup:=by
   rw[eks,gj];exact Pairwise.map _ (λa b hab h=>hab (aaQ h)) List.nodup_range
  refine⟨_,rfl,lS,_,rfl,cD.of hv,λlP hlP=>?_⟩;refine lZ (iz g) (by omega) (λi acc H'=>Same H1 H'/\H' lP=some (.lst acc)/\∃ps:List aB,acc=ps.map V.ref/\ps.length=i/\∀(j:Nat) p,ps[j]?=some p->H' p=some (.tup [.ref (ts.getD j 0),.int (j:Int)])) ⟨aV hlP,aF,[],rfl,rfl,λj p h=>by simp at h⟩ (λi acc H' le ⟨_,e,ps,ea,lp,_⟩=>⟨by rw[ea,ak,lp],e⟩) ?_ ?_
  rotate_left
  ·rintro i acc H' lt ⟨s',e,ps,rfl,lp,at_⟩;refine⟨⟨_,_,cD.of (s' _ _ hv),kvs i lt⟩,?_⟩;rintro y sZ ⟨t2,Ny,rfl,hu⟩ Qc k;have e2:=hu _ _ (cD.of (s' _ _ hv)) (kvs i lt);subst e2;have s2:=aV (o:=.tup [V.int ((i:Nat):Int),.ref (ts.getD i 0)]) Ny;refine⟨t2,_,rfl,dY.of aF,rfl,_,_,rfl,_,_,rfl,rfl,gD,_,rfl,_,rfl,by show 2<=sizeLine;decide,λp hp=>?_⟩;have s3:=aV (o:=.tup [V.ref (ts.getD i 0),.int ((i:Nat):Int)]) hp;have e3:=s3 _ _ (s2 _ _ e);refine k _ _ e3 ⟨iy ((s'.trans s2).trans s3) hlP,aF,ps++[p],by rw[aX];rfl,by rw[aY,lp];rfl,λj p' h'=>?_⟩
   by_cases lj:j<ps.length
   ·rw[List.getElem?_append_left lj]at h';have f:=s3 _ _ (s2 _ _ (at_ j p' h'));rw[bf (j9 f e3 (by intro z;cases z))];exact f
   ·rw[List.getElem?_append_right (by omega)]at h';have e1:j-ps.length=0:=by
     have:=(aM.mp h').1;simp at this;omega
    rw[e1]at h';cases h';have ej:j=i:=by omega
    subst ej;have f:=aF (H:=upd H' t2 (.tup [V.int ((j:Nat):Int),.ref (ts.getD j 0)])) (a:=p) (o:=.tup [V.ref (ts.getD j 0),.int ((j:Nat):Int)]);rw[bf (j9 f e3 (by intro z;cases z))];exact f
  rintro acc H2' ⟨s2',e2',ps,rfl,lp,at_⟩;refine⟨⟨_,cD.of (s2' _ _ hv),by rw[ak];omega⟩,?_⟩;refine⟨lP,ps,ks,rfl,e2',by rw[kl,lp],λj r p h1 h2=>?_,λr hr=>(km r hr).same s2',knd,λd hd=>?_⟩
  ·have lt:j<iz g:=by rw[<- kl];exact(aM.mp h1).1
   rw[hks j lt]at h1;cases h1;exact at_ j p h2
  have vd:=aV (o:=rK P w d ks) hd;have s12:=s2'.trans vd;have hd2:upd H2' d (rK P w d ks) d=some (rK P w d ks):=aF;have hS2:=s12 _ _ hv;have km2:∀r∈ks,eU (upd H2' d (rK P w d ks)) r.1 r.2.1:=λr hr=>(km r hr).same s12
  generalize upd H2' d (rK P w d ks)=H2 at s12 hd2 hS2 km2⊢;have gx2:=gx.same (s1.trans s12);refine⟨_,rfl,lS,rfl,⟨_,cD.of hS2⟩,λlA hlA=>?_⟩;refine lZ (iz g) (by omega) (λi acc H'=>Same H2 H'/\H' lA=some (.lst acc)/\∃ls:List aB,acc=ls.map V.ref/\ls.length=i/\ls.Nodup/\lA∉ls/\∀b∈ls,H2 b=none/\H' b=some (.lst [])) ⟨aV hlA,aF,[],rfl,rfl,nodup_nil,by simp,λb h=>by simp at h⟩ (λi acc H' le ⟨_,e,ls,ea,ll,_⟩=>⟨by rw[ea,ak,ll],e⟩) ?_ ?_
  rotate_left
  ·rintro i acc H' lt ⟨s',e,ls,rfl,ll,nd,na,mem⟩;refine⟨⟨_,_,cD.of (s' _ _ hS2),kvs i lt⟩,?_⟩;rintro y sZ ⟨rfl,hy⟩ Qc k;refine⟨gD,by show 0<=sizeLine;decide,λb hb=>?_⟩;have s3:=aV (o:=.lst []) hb;have e3:=s3 _ _ e;have nb:b∉ls:=λhm=>by
    have:=(mem b hm).2;rw[hb]at this;cases this
   have nA:b≠lA:=λz=>by rw[z,e]at hb;cases hb
   refine k _ _ e3 ⟨iy (s'.trans s3) hlA,aF,ls++[b],by rw[aX];rfl,by rw[aY,ll];rfl,?_,?_,λc hc=>?_⟩
   ·rw[nodup_append];exact⟨nd,by simp,λx hx y hy z=>nb (by rw[<- aH.mp hy,<- z];exact hx)⟩
   ·intro hm;rcases bQ.mp hm with hm'|hm
    ·exact na hm'
    ·exact nA (aH.mp hm).symm
   ·rcases bQ.mp hc with hm|hm
    ·obtain⟨m1,m2⟩:=mem c hm;exact⟨m1,by rw[bf (λz=>na (by rw[<- z];exact hm)),bf (λz=>nb (by rw[<- z];exact hm))];exact m2⟩
    ·rw[aH.mp hm];exact⟨s'.free hb,by rw[bf nA,aF]⟩
  rintro acc H3 ⟨s3,hA3,ls,rfl,ll,nd,nA,mem⟩;refine⟨⟨_,cD.of (s3 _ _ hS2),by rw[ak];omega⟩,?_⟩;refine⟨by show 0<=sizeLine;decide,λlC hlC=>?_⟩;have vC:=aV (o:=.lst []) hlC;have fC:H2 lC=none:=s3.free hlC;have nCA:lC≠lA:=λz=>by rw[z,hA3]at hlC;cases hlC
  have nC:lC∉ls:=λhm=>by
   have:=(mem lC hm).2;rw[hlC]at this;cases this
  refine⟨_,rfl,lS,_,rfl,cD.of (vC _ _ (s3 _ _ hS2)),?_⟩;refine Vb (K:=K) (l:=lS) (xs:=ts.map V.ref) (λi σ H'=>∃u5 u6 u7 u8 u9 rows cs,σ=[some (.ref x),some (.ref lS),some (.ref d),some (.ref lA),some (.ref lC),u5,u6,u7,u8,u9]/\Same H2 H'/\H' lA=some (.lst (ls.map V.ref))/\j6 H' ls rows/\Rw (iz g) (i*256) rows/\H' lC=some (.lst (List.map V.int cs))/\cs.length=i) ⟨none,none,none,none,none,List.replicate (iz g) [],[],rfl,s3.trans vC,vC _ _ hA3,?_,(Rw.zero _).up (dG _),aF,rfl⟩ (λi σ H' _ ⟨_,_,_,_,_,_,_,_,s',_⟩=>cD.of (s' _ _ hS2)) ?_ ?_
  ·intro j b hb;have e:(List.replicate (iz g) ([]:List Nat)).getD j []=[]:=by
    by_cases lt:j<iz g<;>simp[getD,lt]
   rw[e];exact vC _ _ (mem b (aQ hb)).2
  ·rintro i y T' σ H5 hi ⟨u5,u6,u7,u8,u9,rows,cs,rfl,sA,hA5,hR5,rw5,hC5,lcs⟩ hT;rw[aJ]at hi;obtain⟨t,ht,rfl⟩:=bh.mp hi;have lt:i<iz g:=by rw[<- lts];exact(aM.mp ht).1
   have vT:=aV (o:=.tup [V.int ((i:Nat):Int),.ref t]) hT;refine⟨T',_,rfl,dY.of aF,rfl,_,_,rfl,_,_,rfl,rfl,?_⟩;have sB:=sA.trans vT;have hA6:=vT _ _ hA5;have hR6:=hR5.same vT;have hC6:=vT _ _ hC5;generalize upd H5 T' (.tup [V.int ((i:Nat):Int),.ref t])=H6 at sB hA6 hR6 hC6⊢;have st:=vg ((acp i t ht).same (s12.trans sB));have vJ:=aeo ok lt;refine⟨_,rfl,_,rfl,x,g,_,true,rfl,gx2.same sB,ok.w0,ok.c0,ok.n8,st.arg vJ,(λz=>nomatch z),λ_ d' ds' H7 lf sv _ nf s7 rf=>?_⟩;obtain⟨rfl,rfl⟩:=sv.one st;obtain⟨_,us,eu,hu,pu⟩:=id rf;cases eu;have lu:us.length<=256:=by rw[Paired.length pu];exact aaP g _ _ ok.n8
   have hC7:=s7 _ _ hC6;refine⟨_,rfl,.inl ⟨rfl,_,cD.of hC7⟩,_,rfl,lf,_,rfl,.inl (cD.of hu),lC,_,_,rfl,rfl,hC7,by rw[ak];omega,?_⟩;have nlf:lf≠lC:=Ne.symm (dN hC6 nf);have nls:lf∉ls:=λhm=>by
    obtain⟨jm,hj⟩:=List.getElem?_of_mem hm;have:=hR6 jm lf hj;rw[nf]at this;cases this
   have eC:cs.map V.int++[V.int (us.length:Int)]=(cs++[(us.length:Int)]).map V.int:=by rw[aX];rfl
   rw[eC];have hA8:L2.upd H7 lC (.lst ((cs++[(us.length:Int)]).map V.int)) lA=some (.lst (ls.map V.ref)):=by rw[bf (Ne.symm nCA)];exact s7 _ _ hA6
   have hR8:=(hR6.same s7).upd (o:=.lst ((cs++[(us.length:Int)]).map V.int)) nC;have hu8:L2.upd H7 lC (.lst ((cs++[(us.length:Int)]).map V.int)) lf=some (.lst us):=by rw[bf nlf];exact hu
   have pu8:Paired (xM (L2.upd H7 lC (.lst ((cs++[(us.length:Int)]).map V.int)))) us (mX g (stN g i).1 (stN g i).2):=Paired.iB pu λ_ _ z=>j5.upd z hC7
   have s8:Same H2 (L2.upd H7 lC (.lst ((cs++[(us.length:Int)]).map V.int))):=iy (sB.trans s7) fC;have hC8:L2.upd H7 lC (.lst ((cs++[(us.length:Int)]).map V.int)) lC=some (.lst ((cs++[(us.length:Int)]).map V.int)):=aF;have ahy:(cs++[(us.length:Int)]).length=i+1:=by rw[aY,lcs];rfl
   generalize cs++[(us.length:Int)]=cs' at hA8 hR8 hu8 pu8 s8 hC8 ahy⊢;generalize L2.upd H7 lC (.lst (cs'.map V.int))=H8 at hA8 hR8 hu8 pu8 s8 hC8⊢;refine⟨_,rfl,lf,rfl,⟨_,cD.of hu8⟩,?_⟩;refine nQ (K:=K) (a:=lf) (xs:=us) (λj σ H'=>∃u8 u9 rows,σ=[some (.ref x),some (.ref lS),some (.ref d),some (.ref lA),some (.ref lC),some (.int ((i:Nat):Int)),some (.ref t),some (.ref lf),u8,u9]/\Same H2 H'/\H' lA=some (.lst (ls.map V.ref))/\j6 H' ls rows/\Rw (iz g) (i*256+j) rows/\H' lC=some (.lst (cs'.map V.int))/\H' lf=some (.lst us)/\Paired (xM H') us (mX g (stN g i).1 (stN g i).2)) ⟨_,_,rows,rfl,s8,hA8,hR8,rw5,hC8,hu8,pu8⟩ (λj σ H' _ ⟨_,_,_,_,_,_,_,_,_,e,_⟩=>cD.of e) ?_ ?_
   ·rintro j z σ H9 hj ⟨v8,v9,rows,rfl,s9,hA9,hR9,rw9,hC9,hu9,pu9⟩;obtain⟨c,hc,tp,y1,y2,rfl,htp,r1',r2'⟩:=dW pu9 hj;cases r1';obtain⟨tb,rfl,nb⟩:=aaR r2';obtain⟨m,em,lm,es⟩:=Ei ok (Ku ok vJ (aQ hc));obtain⟨b,hb⟩:∃b,ls[m]?=some b:=⟨_,aA (by omega)⟩;have hbm:(ls.map V.ref)[m]?=some (.ref b):=by rw[aJ,hb];rfl
    have bm:=aQ hb;have hrow:=hR9 m b hb;have lj:=(aM.mp hj).1;have lz:(oO (rows.getD m [])).length<sizeLine:=by
     rw[zH];have:=rw9.short m;have:i*256<=20000*256:=Nat.mul_le_mul_right _ (by omega);omega
    refine⟨tp,_,rfl,dY.of htp,rfl,_,_,rfl,_,_,rfl,rfl,?_⟩;refine⟨_,rfl,_,rfl,_,rfl,d,ks,tb,c.2,m,_,rfl,rfl,s9 _ _ hd2,λr hr=>(km2 r hr).same s9,nb,hks m lm,es,lA,_,((m:Nat):Int),.ref b,rfl,rfl,cD.of hA9,gU hbm,.inl ⟨rfl,_,cD.of hrow⟩,_,rfl,b,_,_,rfl,rfl,hrow,lz,?_⟩;refine⟨_,_,_,rfl,iy s9 (mem b bm).1,?_,hR9.road nd (by rw[ll,rw9.len]) hb,rw9.push lm lt,?_,?_,Paired.iB pu9 λ_ _ z=>j5.upd z hrow⟩
    ·rw[bf (λz=>nA (by rw[z];exact bm))];exact hA9
    ·rw[bf (λz=>nC (by rw[z];exact bm))];exact hC9
    ·rw[bf (λz=>nls (by rw[z];exact bm))];exact hu9
   ·rintro σ H9 ⟨v8,v9,rows,rfl,s9,hA9,hR9,rw9,hC9,hu9,pu9⟩;exact⟨_,_,_,_,_,rows,cs',rfl,s9,hA9,hR9,rw9.up (by rw[Nat.succ_mul];omega),hC9,ahy⟩
  ·rintro σ H5 ⟨u5,u6,u7,u8,u9,rows,cs,rfl,sA,hA5,hR5,rw5,hC5,lcs⟩;rw[ak,lts]at lcs;refine⟨_,rfl,_,rfl,by show 2<=sizeLine;decide,λt ht=>?_⟩;have vt:=aV (o:=.tup [V.ref lA,.ref lC]) ht;exact q _ t lA lC ls cs rows _ ((s1.trans s12).trans (sA.trans vt)) aF ((s1.trans s12).free fC) (vt _ _ hC5) lcs (vt _ _ hA5) ll (hR5.same vt) rw5 nCA nC
abbrev Ek:dI:=top 46
def tO:Option Int->V
 |none=>.non
 |some k=>.int k
theorem Xf(h:j<n):Zo n (j:Int)=some j:=by
 unfold Zo;rw[if_pos (by omega),if_pos (by omega)];simp
structure Xg(K:Fg)(mg:Str->Option aC)(a:gB)(dV:aC):Prop where
 W:xK K mg a dV
 en:mg "enumerate"=none
 di:mg "dict"=none
 ro:∃f fd,Fn K "roads" "roads" zJ ["garden"] f fd/\mg "roads"=some (.ref f)
 ta:∃f fd,Fn K "table" "table" Ek ["garden"] f fd/\mg "table"=some (.ref f)
theorem range_one{α:Type}(y:α)(n:Nat):(List.range n).map (λ_=>y)=List.replicate n y:=by
 rw[List.eq_replicate_iff,ak,bK];refine⟨rfl,λz hz=>?_⟩;obtain⟨_,_,e⟩:=bM.mp hz;exact e.symm
theorem int_at{xs:List Int}(h:o<xs.length):(xs.map V.int)[o]?=some (.int (xs.getD o 0)):=by simp[h]
abbrev aes:List Str:=["garden","found","ahead","left","answer","ending","days","earlier","number","other"]
def posN(xs:List Int):Nat:=xs.countP λx=>decide (0<x)
theorem aaS(h:o<xs.length):posN (xs.set o (xs.getD o 0-1))<=posN xs/\(xs.getD o 0-1=0->posN (xs.set o (xs.getD o 0-1))+1<=posN xs):=by
 have e:xs.getD o 0=xs[o]:=by simp[h]
 rw[e];unfold posN;have c:=List.countP_set (p:=λx=>decide ((0:Int)<x)) (l:=xs) (i:=o) (a:=xs[o]-1) h;have m:(if decide ((0:Int)<xs[o])=true then 1 else 0)<=xs.countP λx=>decide ((0:Int)<x):=by
  split
  ·rename_i z
   exact List.countP_pos_iff.mpr ⟨xs[o],List.getElem_mem h,z⟩
  ·exact dG _
 rw[c]
 by_cases h1:0<xs[o]
 ·rw[aK h1]at m⊢
  by_cases h2:0<xs[o]-1
  ·rw[aK h2];rw[if_pos rfl]at m⊢;exact⟨by omega,λz=>by omega⟩
  ·rw[aD h2];rw[if_pos rfl]at m⊢;rw[if_neg Bool.false_ne_true];exact⟨by omega,λz=>by omega⟩
 ·have h2:¬0<xs[o]-1:=by omega
  rw[aD h1,aD h2,if_neg Bool.false_ne_true];exact⟨by omega,λz=>by omega⟩
inductive El(a:gB)(vs:List V)(H:Hp)(Q:VK)(jU:XK):Prop
 |mk:∀x g,vs=[.ref x]->fZ a H x g->Eh g->(∀H' l (ans:Vc),Same H H'->H l=none->H' l=some (.lst (ans.map tO))->ans.length=iz g->Q (.ref l) H')->El a vs H Q jU
theorem jP:bY aes ["garden"] (aZ Ek):=d9 (by decide +kernel)
theorem Xh(F:mH K "table" "table" Ek f fd)(L:Xg K mg a dV):cM P w K mg base (fY P w) 6 f fd ["garden"] (El a):=by
 refine F.lY jP (λvs H Q E h=>?_) (λcdv A outer s H vs Q E hr h=>?_)
 ·obtain⟨x,g,rfl,_⟩:=h;rfl
 ·obtain⟨x,g,rfl,gx,ok,q⟩:=h;have W:=L.W;have B:=W.S.Z.G.T.B;obtain⟨fr,dr,rF,mR⟩:=L.ro;have Ru:cM P w K mg base (fY P w) 5 fr dr ["garden"] (Ej a):=Xe rF.F W L.en L.di;have kR:=rF.F.kp;have bR:=rF.b;have ndB:[("number":Str),"count"].Nodup:=by decide +kernel
  refine⟨_,aL (bL (i:=1) jP.nd rfl (Or.inl rfl) (c7 Ru hr mR kR bR bB (ao (pv 0) aG))) (aL (bL (i:=2) jP.nd rfl (Or.inl rfl) (cH cQ (pv 1) aP (λ_ _=>rfl))) (aL (bL (i:=3) jP.nd rfl (Or.inl rfl) (cH cQ (pv 1) aP (λ_ _=>rfl))) (aL (oE (i:=4) jP.nd rfl (Or.inl rfl) bN rfl ⟨_,_,rfl,rfl,rfl⟩ (gY.plain (N':=["count"]) rfl (by decide +kernel) (by decide +kernel)) (fK (pv 3)) (λ_ _ _ _ _=>cR 0 (show [("count":Str)].Nodup by decide +kernel)) (λ_ _ _ _ _=>gM) (λ_ _ _ _ _ _=>jR)) (aL (oE (i:=5) jP.nd rfl (Or.inl rfl) bN rfl ⟨_,_,rfl,rfl,rfl⟩ (gY.plain (N':=["number","count"]) rfl (by decide +kernel) (by decide +kernel)) (xX (by rfl) L.en (ao (pv 3) aG)) (λ_ _ _ _ _=>qH K (n:=2) rfl (cj (cR 0 ndB) (cj (cR 1 ndB) gK))) (λ_ _ _ _ _=>mZ (cu iQ (pv 1) aP (cN _))) (λ_ _ _ _ _ _=>pv 0)) (aL (bL (i:=6) jP.nd rfl (Or.inl rfl) aP) (aL (tX fM (FJ (pv 5) (λ_=>rfl)) (aL (bL (i:=7) jP.nd rfl (Or.inl rfl) (gH aG)) (aL (ju fM rfl (fK (pv 5)) (cR 8 jP.nd) (aL (rT (pv 6) (Jl (pv 4) (pv 8) set_list)) (aU (ju fM rfl (fK (cH iW (pv 2) (pv 8) (λ_ _=>rfl))) (cR 9 jP.nd) (aL (Zg (pv 3) (pv 9) Va aP acX set_list) (aU (dZ (cu iQ (cH iW (pv 3) (pv 9) (λ_ _=>rfl)) aP (cN _)) (aU (gJ (mL PySem.F.plainAttrs_list PySem.F.slot_list_append PySem.F.type_list_append iu (pv 7) (ao (pv 9) aG)))) bZ))))))) (aL (bL (i:=5) jP.nd rfl (Or.inl rfl) (pv 7)) (aU (TY (i:=6) jP.nd rfl (Or.inl rfl) aP T3)))))) (aU (bU (pv 4))))))))),?_⟩;have small:=ok.small;have big:20000*257<=sizeLine:=by decide
  refine⟨_,rfl,x,g,rfl,gx,ok,λH1 tf lA lC ls zK rows mR s1 htf fC hC ll0 hA ll hR rw0 nCA nC=>?_⟩;refine⟨_,rfl,tf,_,0,.ref lA,rfl,rfl,dY.of htf,rfl,_,rfl,tf,_,1,.ref lC,rfl,rfl,dY.of htf,rfl,?_⟩;have lCv:(zK.map V.int).length=iz g:=by rw[ak,ll0]
  refine⟨_,rfl,lC,rfl,⟨_,cD.of hC⟩,λlN hlN=>?_⟩;refine xV (iz g) (by omega) (λ_=>.non) (λi H'=>H'=L2.upd H1 lN (.lst ((List.range i).map λ_=>V.non))) rfl (λi H' _ e=>by rw[e,aF]) (λH' e=>⟨?_,?_⟩) (λi H' lt e=>⟨?_,?_⟩)
  ·subst e;exact⟨_,cD.of ((aV hlN) _ _ hC),by rw[ak];omega⟩
  rotate_left
  ·subst e;exact⟨_,_,cD.of ((aV hlN) _ _ hC),by rw[aJ,aA (by omega)];rfl⟩
  ·rintro y sZ ⟨rfl,_⟩ Qc k;subst e;exact⟨gD,k _ aF (by rw[lH])⟩
  subst e;have vN:=aV (o:=.lst ((List.range (iz g)).map λ_=>V.non)) hlN;have eN:L2.upd H1 lN (.lst ((List.range (iz g)).map λ_=>V.non)) lN=some (.lst ((List.replicate (iz g) (none:Option Int)).map tO)):=by
   rw[aF,range_one,List.map_replicate];rfl
  have s2:=s1.trans vN;have hC2:=vN _ _ hC;have hA2:=vN _ _ hA;have hR2:=hR.same vN;have nNC:lN≠lC:=λz=>by rw[z,hC]at hlN;cases hlN
  have nNA:lN≠lA:=λz=>by rw[z,hA]at hlN;cases hlN
  have nN:lN∉ls:=λhm=>by
   obtain⟨jm,hj⟩:=List.getElem?_of_mem hm;have:=hR jm lN hj;rw[hlN]at this;cases this
  have fN:H lN=none:=s1.free hlN;generalize L2.upd H1 lN (.lst ((List.range (iz g)).map λ_=>V.non))=H2 at eN s2 hC2 hA2 hR2⊢;refine⟨_,rfl,lC,_,rfl,cD.of hC2,λlE hlE=>?_⟩;refine qT (iz g) (by omega) (λi acc H'=>(∃E:List Nat,acc=oO E/\E.length<=i/\∀n∈E,n<iz g)/\Same H2 H'/\H' lE=some (.lst acc)) ⟨⟨[],rfl,aO _,λn h=>by cases h⟩,aV hlE,aF⟩ (λi acc H' le ⟨⟨E,e,l,_⟩,_,e'⟩=>⟨by rw[e,zH];exact l,e'⟩) ?_ ?_
  rotate_left
  ·rintro i acc H' lt ⟨⟨E,rfl,lE0,inE⟩,s',e⟩;have hx:(zK.map V.int)[i]?=some (.int (zK.getD i 0)):=int_at (by omega);have sq:cD K H' lC (zK.map V.int):=cD.of (s' _ _ hC2);refine⟨⟨_,_,sq,hx⟩,?_⟩;rintro y sZ ⟨t2,Ny,rfl,hu⟩ Qc Qn k kn;have e2:=hu _ _ sq hx;subst e2;have v2:=aV (o:=.tup [V.int ((i:Nat):Int),.int (zK.getD i 0)]) Ny;have e3:=v2 _ _ e;refine⟨t2,_,rfl,dY.of aF,rfl,_,_,rfl,_,_,rfl,rfl,gD,_,rfl,rfl,_,rfl,?_⟩
   by_cases z:zK.getD i 0=0
   ·exact eqT z ⟨_,rfl,k _ _ e3 ⟨⟨E++[i],(wA E i).symm,by rw[aY];show _+1<=_;omega,λn h=>by
     rcases bQ.mp h with h|h
     ·exact inE n h
     ·rw[aH.mp h];exact lt⟩,iy (s'.trans v2) hlE,aF⟩⟩
   ·exact eqF z (kn _ ⟨⟨E,rfl,by omega,inE⟩,s'.trans v2,e3⟩)
  rintro acc H3 ⟨⟨E0,rfl,lE0,ahA⟩,s3,e3⟩;refine⟨⟨_,cD.of (s3 _ _ hC2),by rw[ak];omega⟩,?_⟩;have nEC:lE≠lC:=λz=>by rw[z,hC2]at hlE;cases hlE
  have nEN:lE≠lN:=λz=>by rw[z,eN]at hlE;cases hlE
  obtain⟨W',eW⟩:∃W':Nat->St->Hp->Prop,W'=λm σ H'=>∃(d:Nat)(ans:Vc)(left:List Int)(E:List Nat)(lE:aB)(u7 u8 u9:Option V),σ=[some (.ref x),some (.ref tf),some (.ref lA),some (.ref lC),some (.ref lN),some (.ref lE),some (.int (d:Int)),u7,u8,u9]/\m=posN left+(if E=[] then 0 else 1)/\ans.length=iz g/\left.length=iz g/\(∀n∈E,n<iz g)/\Same H H' /\ H' lA=some (.lst (ls.map V.ref))/\j6 H' ls rows/\H' lC=some (.lst (left.map V.int))/\H' lN=some (.lst (ans.map tO))/\H' lE=some (.lst (oO E))/\lE≠lC/\lE≠lN:=⟨_,rfl⟩
  refine⟨W',⟨_,by rw[eW];exact⟨0,_,zK,E0,lE,none,none,none,rfl,rfl,length_replicate,ll0,ahA,s2.trans s3,s3 _ _ hA2,hR2.same s3,s3 _ _ hC2,s3 _ _ eN,e3,nEC,nEN⟩⟩,?_⟩;clear e3 nEC nEN ahA lE0;intro m σ H4 hW;rw[eW]at hW;obtain⟨d,ans,left,E,lE',u7,u8,u9,rfl,rfl,ahB,ahC,inE,s4,hA4,hR4,hC4,hN4,hE4,nEC,nEN⟩:=hW;refine⟨_,rfl,!(oO E).isEmpty,.inl ⟨_,cD.of hE4,rfl⟩,?_⟩
  by_cases z:E=[]
  ·subst z;rw[show(!(oO ([]:List Nat)).isEmpty)=false from rfl];exact cU ⟨_,rfl,q H4 lN ans s4 fN hN4 ahB⟩
  have ne:(!(oO E).isEmpty)=true:=by
   cases E with
   |nil=>exact absurd rfl z
   |cons _ _=>rfl
  rw[ne,if_neg z];refine dB ⟨λσ' H'=>∃m',m'<posN left+1/\W' m' σ' H',λ_ _ h=>h,?_⟩;refine⟨by show 0<=sizeLine;decide,λlF Xi=>?_⟩;have vF:=aV (o:=.lst []) Xi;have nFC:lF≠lC:=λz=>by rw[z,hC4]at Xi;cases Xi
  have nFN:lF≠lN:=λz=>by rw[z,hN4]at Xi;cases Xi
  have nFA:lF≠lA:=λz=>by rw[z,hA4]at Xi;cases Xi
  have nFE:lF≠lE':=λz=>by rw[z,hE4]at Xi;cases Xi
  have nFl:lF∉ls:=λhm=>by
   obtain⟨jm,hj⟩:=List.getElem?_of_mem hm;have:=hR4 jm lF hj;rw[Xi]at this;cases this
  have fF:H lF=none:=s4.free Xi;obtain⟨V',eV⟩:∃V':Hp->Prop,V'=λH'=>∃(ans:Vc)(lf:List Int)(F:List Nat),Same H H'/\H' lA=some (.lst (ls.map V.ref))/\j6 H' ls rows/\H' lC=some (.lst (lf.map V.int))/\H' lN=some (.lst (ans.map tO))/\H' lE'=some (.lst (oO E))/\H' lF=some (.lst (oO F))/\ans.length=iz g/\lf.length=iz g/\posN lf+F.length<=posN left/\∀n∈F,n<iz g:=⟨_,rfl⟩
  refine⟨_,rfl,lE',rfl,⟨_,cD.of (vF _ _ hE4)⟩,?_⟩;refine nQ (K:=K) (a:=lE') (xs:=oO E) (λj σ H'=>∃u8 u9,σ=[some (.ref x),some (.ref tf),some (.ref lA),some (.ref lC),some (.ref lN),some (.ref lE'),some (.int (d:Int)),some (.ref lF),u8,u9]/\V' H') ⟨_,_,rfl,by rw[eV];exact⟨ans,left,[],s4.trans vF,vF _ _ hA4,hR4.same vF,vF _ _ hC4,vF _ _ hN4,vF _ _ hE4,aF,ahB,ahC,aO _,λn h=>by cases h⟩⟩ (λj σ H' _ ⟨_,_,_,hv⟩=>by
    rw[eV]at hv;obtain⟨_,_,_,_,_,_,_,_,e,_⟩:=hv;exact cD.of e) ?_ ?_
  ·rintro j y σ H6 hj ⟨v8,v9,rfl,hv⟩;rw[eV]at hv;obtain⟨Rv,lf6,F6,s6,hA6,hR6,hC6,hN6,hE6,hF6,la6,ll6,ps6,in6⟩:=hv;unfold oO at hj;rw[aJ]at hj;obtain⟨n,hn,rfl⟩:=bh.mp hj;have ln:n<iz g:=inE n (aQ hn);refine⟨_,rfl,_,rfl,_,rfl,lN,_,_,n,rfl,rfl,hN6,Xf (by rw[ak,la6];exact ln),?_⟩;have eo:(Rv.map tO).set n (.int (d:Int))=(Rv.set n (some (d:Int))).map tO:=by rw[map_set];rfl
   rw[eo];have la7:(Rv.set n (some (d:Int))).length=iz g:=by rw[length_set,la6]
   generalize Rv.set n (some (d:Int))=aev at la7⊢;have v7:V' (L2.upd H6 lN (.lst (aev.map tO))):=by
    rw[eV];exact⟨aev,lf6,F6,iy s6 fN,by rw[bf (Ne.symm nNA)];exact hA6,hR6.upd nN,by rw[bf (Ne.symm nNC)];exact hC6,aF,by rw[bf nEN];exact hE6,by rw[bf nFN];exact hF6,la7,ll6,ps6,in6⟩
   generalize L2.upd H6 lN (.lst (aev.map tO))=H7 at v7⊢;obtain⟨b,hb⟩:∃b,ls[n]?=some b:=⟨_,aA (by omega)⟩;have hbm:(ls.map V.ref)[n]?=some (.ref b):=by rw[aJ,hb];rfl
   have rowOf:∀{H':Hp},V' H'->H' lA=some (.lst (ls.map V.ref))/\H' b=some (.lst (oO (rows.getD n []))):=λh=>by
    rw[eV]at h;obtain⟨_,_,_,_,h1,h2,_⟩:=h;exact⟨h1,h2 n b hb⟩
   refine⟨_,rfl,_,rfl,lA,_,((n:Nat):Int),.ref b,rfl,rfl,cD.of (rowOf v7).1,gU hbm,b,rfl,⟨_,cD.of (rowOf v7).2⟩,?_⟩;refine nQ (K:=K) (a:=b) (xs:=oO (rows.getD n [])) (λk σ H'=>∃u9,σ=[some (.ref x),some (.ref tf),some (.ref lA),some (.ref lC),some (.ref lN),some (.ref lE'),some (.int (d:Int)),some (.ref lF),some (.int ((n:Nat):Int)),u9]/\V' H') ⟨_,rfl,v7⟩ (λk σ H' _ ⟨_,_,hv⟩=>cD.of (rowOf hv).2) ?_ ?_
   ·rintro k y σ H8 hk ⟨v9,rfl,hv⟩;rw[eV]at hv;obtain⟨aew,Jh,F8,s8,hA8,hR8,hC8,hN8,hE8,hF8,la8,ll8,ps8,in8⟩:=hv;unfold oO at hk;rw[aJ]at hk;obtain⟨o,ho,rfl⟩:=bh.mp hk;have lo:o<iz g:=rw0.inN n o (aQ ho);have lo':o<Jh.length:=by omega
    refine⟨_,rfl,_,rfl,lC,_,o,_,rfl,rfl,cD.of hC8,int_at lo',_,_,rfl,rfl,lC,_,_,o,rfl,rfl,hC8,Xf (by rw[ak];exact lo'),?_⟩;have eo:(Jh.map V.int).set o (.int (Jh.getD o 0-1))=(Jh.set o (Jh.getD o 0-1)).map V.int:=by rw[map_set]
    rw[eo];obtain⟨p1,p2⟩:=aaS lo';have l9:(Jh.set o (Jh.getD o 0-1)).length=iz g:=by rw[length_set,ll8]
    have g9:(Jh.set o (Jh.getD o 0-1)).getD o 0=Jh.getD o 0-1:=by simp[lo']
    generalize Jh.set o (Jh.getD o 0-1)=Od at p1 p2 l9 g9⊢;have hC9:L2.upd H8 lC (.lst (Od.map V.int)) lC=some (.lst (Od.map V.int)):=aF;have s9:Same H (L2.upd H8 lC (.lst (Od.map V.int))):=iy s8 fC;have hA9:L2.upd H8 lC (.lst (Od.map V.int)) lA=some (.lst (ls.map V.ref)):=by rw[bf (Ne.symm nCA)];exact hA8
    have hR9:=hR8.upd (o:=.lst (Od.map V.int)) nC;have hN9:L2.upd H8 lC (.lst (Od.map V.int)) lN=some (.lst (aew.map tO)):=by rw[bf nNC];exact hN8
    have hE9:L2.upd H8 lC (.lst (Od.map V.int)) lE'=some (.lst (oO E)):=by rw[bf nEC];exact hE8
    have hF9:L2.upd H8 lC (.lst (Od.map V.int)) lF=some (.lst (oO F8)):=by rw[bf nFC];exact hF8
    generalize L2.upd H8 lC (.lst (Od.map V.int))=H9 at hC9 s9 hA9 hR9 hN9 hE9 hF9⊢;refine⟨_,rfl,_,rfl,lC,_,((o:Nat):Int),_,rfl,rfl,cD.of hC9,gU (int_at (by omega)),rfl,_,rfl,?_⟩;rw[g9]
    by_cases z0:Jh.getD o 0-1=0
    ·have p3:=p2 z0;refine eqT z0 ⟨_,rfl,.inl ⟨rfl,_,cD.of hF9⟩,_,rfl,lF,_,_,rfl,rfl,hF9,by rw[zH];have:posN left<=left.length:=List.countP_le_length;omega,?_⟩;rw[<- wA];refine⟨_,rfl,?_⟩;rw[eV];exact⟨aew,Od,F8++[o],iy s9 fF,by rw[bf (Ne.symm nFA)];exact hA9,hR9.upd nFl,by rw[bf (Ne.symm nFC)];exact hC9,by rw[bf (Ne.symm nFN)];exact hN9,by rw[bf (Ne.symm nFE)];exact hE9,aF,la8,l9,by rw[aY];show _+(_+1)<=_;omega,λm h=>by
      rcases bQ.mp h with h|h
      ·exact in8 m h
      ·rw[aH.mp h];exact lo⟩
    ·refine eqF z0 ⟨_,rfl,?_⟩;rw[eV];exact⟨aew,Od,F8,s9,hA9,hR9,hC9,hN9,hE9,hF9,la8,l9,by omega,in8⟩
   ·rintro σ H8 ⟨v9,rfl,hv⟩;exact⟨_,_,rfl,hv⟩
  ·rintro σ H6 ⟨v8,v9,rfl,hv⟩;rw[eV]at hv;obtain⟨Rv,lf6,F6,s6,hA6,hR6,hC6,hN6,hE6,hF6,la6,ll6,ps6,in6⟩:=hv;refine⟨_,rfl,_,rfl,_,_,rfl,rfl,posN lf6+(if F6=[] then 0 else 1),?_,?_⟩
   rotate_left
   ·rw[eW];exact⟨d+1,Rv,lf6,F6,lF,_,_,_,rfl,rfl,la6,ll6,in6,s6,hA6,hR6,hC6,hN6,hF6,nFC,nFN⟩
   ·split
    ·rename_i zF
     omega
    ·rename_i zF
     have:0<F6.length:=List.length_pos_iff.mpr zF;omega
abbrev Oe:dI:=top 29
inductive Ky(K:Fg)(a:gB)(vs:List V)(H:Hp)(Q:VK)(E:XK):Prop
 |mk:∀x g c kc,vs=[.ref x,c]->fZ a H x g->(∀p∈g.pots,p.Ok)->g.pots.length<=8->g8 K H c kc->Wu a H (λx=>Q (.ref x)) E (some g.pots) c (.int g.week) (.int g.closed)->Ky K a vs H Q E
theorem aex:bY ["garden","cans"] ["garden","cans"] (aZ Oe):=d9 (by decide +kernel)
theorem Xj(Z:DP K mg a dV)(F:mH K "with_cans" "with_cans" Oe f fd):cM P w K mg base (fY P w) 9 f fd ["garden","cans"] (Ky K a):=by
 refine F.lY aex (λvs H Q E h=>?_) (λcdv A outer s H vs Q E hr h=>?_)
 ·obtain⟨x,g,c,kc,rfl,_⟩:=h;rfl
 ·obtain⟨x,g,c,kc,rfl,⟨dx,l,as,hx,hl,pt⟩,nu,h8,hc,post⟩:=h;refine⟨_,aU (bU (yQ Z.kG (acd Z) hr Z.aha Z.b4 (dJ bN) (ao (fJ (pv 0) rfl) (ao (pv 1) (ao (fJ (pv 0) rfl) (ao (fJ (pv 0) rfl) aG)))))),?_⟩;refine⟨_,rfl,x,a.garden,dx,_,_,rfl,hx,Z.tG.cl,Z.nG _ (by simp),lB ..,_,rfl,_,rfl,x,a.garden,dx,_,_,rfl,hx,Z.tG.cl,Z.nG _ (by simp),tL ..,_,rfl,x,a.garden,dx,_,_,rfl,hx,Z.tG.cl,Z.nG _ (by simp),G5 ..,?_⟩;have la:as.length=g.pots.length:=Paired.length pt;exact Wv (kw:=.int) (kl:=.int) (fZ.arg (x:=x) (dx:=dx) hl (by omega) pt nu) hc ⟨_,rfl⟩ ⟨_,rfl⟩ post
abbrev aaV:dI:=inClass (top 47) 0
abbrev aaW:dI:=inClass (top 47) 1
structure Og(g:iM):Prop where
 ok:Eh g
 out:DR (some g.pots) (.int g.cans) (.int g.week) (.int g.closed)=.ok
structure Xk(K:Fg)(mg:Str->Option aC)(a:gB)(dV:aC)(lv:aB):Prop where
 L:Xg K mg a dV
 cans:∃f fd,Fn K "with_cans" "with_cans" Oe ["garden","cans"] f fd/\mg "with_cans"=some (.ref f)
 t:Aj K lv
 m:mg "Lives"=some (.ref lv)
 n:∀f∈(["garden","counts"]:List Str),jT K lv f
 ini:∃f fd,Fn K "__init__" "Lives.__init__" aaV ["self","garden"] f fd/\Mk K lv f
 day:∃f fd,Fn K "days" "Lives.days" aaW ["self","state"] f fd/\Meth K lv "days" f
variable{lv:aB}
def lfs(y l:aB):List (Str×V):=[("garden",.ref y),("counts",.ref l)]
theorem Xl(y l:aB):(lfs y l).lookup ("garden":Str)=some (.ref y):=wR
theorem ahF(y l:aB):(lfs y l).lookup ("counts":Str)=some (.ref l):=(jH (by decide +kernel)).trans wR
theorem aaX(y l:aB){m:Str}(h1:(m == "garden")=false)(h2:(m == "counts")=false):(lfs y l).lookup m=none:=(jH h1).trans (jH h2)
theorem ahG(y l:aB):iK "counts" (V.ref l) (iK "garden" (.ref y) [])=lfs y l:=by
 have e1:iK "garden" (V.ref y) []=[(("garden":Str),V.ref y)]:=rfl;rw[e1,oJ (by decide +kernel)];rfl
theorem fZ.aey(h:fZ a H y g)(hx:H x=some (.ins C dx fs))(hf:fs.length<=1):fZ a (L2.upd H x o) y g:=by
 obtain⟨d,l,as,h1,h2,h3⟩:=h;refine⟨d,l,as,?_,?_,Paired.iB h3 λb p hb=>?_⟩
 ·rw[bf ?_]
  ·exact h1
  ·intro z;rw[z,hx]at h1;injection h1 with h1;injection h1 with _ _ h1;rw[h1]at hf;exact absurd hf (by simp[Tn])
 ·rw[bf (j9 h2 hx (by intro z;cases z))];exact h2
 ·obtain⟨dy,e⟩:=hb;refine⟨dy,?_⟩;rw[bf ?_]
  ·exact e
  ·intro z;rw[z,hx]at e;injection e with e;injection e with _ _ e;rw[e]at hf;unfold cA.fs at hf
   split at hf<;>exact absurd hf (by simp)
def vh(a:gB)(lv:aB)(H:Hp)(x:aB)(g:iM)(ans:Vc):Prop:=∃dx y l,H x=some (.ins lv dx (lfs y l))/\fZ a H y g/\H l=some (.lst (ans.map tO))
theorem vh.same(h:vh a lv H x g ans)(s:Same H H'):vh a lv H' x g ans:=by
 obtain⟨dx,y,l,h1,h2,h3⟩:=h;exact⟨dx,y,l,s _ _ h1,h2.same s,s _ _ h3⟩
inductive Oh(a:gB)(lv:aB)(vs:List V)(H:Hp)(Q:VK)(jU:XK):Prop
 |mk:∀x dx y g,vs=[.ref x,.ref y]->H x=some (.ins lv dx [])->fZ a H y g->Og g->(∀H' ans,But x H H'->vh a lv H' x g ans->List.length ans=iz g->Q .non H')->Oh a lv vs H Q jU
theorem ahH:bY ["self","garden"] ["self","garden"] (aZ aaV):=d9 (by decide +kernel)
theorem aez(F:mH K "__init__" "Lives.__init__" aaV f fd)(V:Xk K mg a dV lv):cM P w K mg base (fY P w) 10 f fd ["self","garden"] (Oh a lv):=by
 refine F.lY ahH (λvs H Q E h=>?_) (λcdv A outer s H vs Q E hr h=>?_)
 ·obtain⟨x,dx,y,g,rfl,_⟩:=h;rfl
 ·obtain⟨x,dx,y,g,rfl,hx,gy,good,q⟩:=h;have Z:=V.L.W.S.Z;obtain⟨fc,dc,cF,mC⟩:=V.cans;obtain⟨ft,dt,tF,mT⟩:=V.L.ta;have uN:cM P w K mg base (fY P w) 9 fc dc ["garden","cans"] (Ky K a):=Xj Z cF.F;have okt:cM P w K mg base (fY P w) 6 ft dt ["garden"] (El a):=Xh tF.F V.L;have hr6:eZ 6 _:=hr.mono (by decide);refine⟨_,aL (pC (pv 0) (c7 uN hr mC cF.F.kp cF.b (dJ bN) (ao (pv 1) (ao (fJ (pv 1) rfl) aG))) rfl) (aU (pC (pv 0) (c7 okt hr6 mT tF.F.kp tF.b bB (ao (pv 1) aG)) rfl)),?_⟩;obtain⟨dy,ly,as,hy,_,_⟩:=id gy;refine⟨_,rfl,_,rfl,y,a.garden,dy,_,_,rfl,hy,Z.tG.cl,Z.nG _ (by simp),Wo ..,y,g,_,.int,rfl,gy,good.ok.nu,good.ok.n8,⟨_,rfl⟩,ace good.out (λH1 z hz s1 gn=>?_)⟩;have hx1:=s1 _ _ hx;refine⟨_,rfl,x,lv,dx,_,rfl,hx1,V.t.cl,V.n _ (by simp),by show 0<1000;decide,?_⟩;have gy2:=(gy.same s1).aey (o:=.ins lv dx (iK "garden" (.ref z) [])) hx1 (by decide);have gz2:=gn.at.aey (o:=.ins lv dx (iK "garden" (.ref z) [])) hx1 (by decide);have b2:But x H (L2.upd H1 x (.ins lv dx (iK "garden" (.ref z) []))):=λb o nb e=>by rw[bf nb];exact s1 _ _ e
  have hx2:L2.upd H1 x (.ins lv dx (iK "garden" (.ref z) [])) x=some (.ins lv dx (iK "garden" (.ref z) [])):=aF;generalize L2.upd H1 x (.ins lv dx (iK "garden" (.ref z) []))=H2 at gy2 gz2 b2 hx2⊢;refine⟨_,rfl,y,g,rfl,gy2,good.ok,λH3 l ans s3 fl hl told=>?_⟩;have Wt:=s3 _ _ hx2;refine⟨_,rfl,x,lv,dx,_,rfl,Wt,V.t.cl,V.n _ (by simp),by show 1<1000;decide,?_⟩;rw[ahG];refine q _ ans (λb o nb e=>by rw[bf nb];exact s3 _ _ (b2 b o nb e)) ⟨dx,z,l,aF,(gz2.same s3).aey Wt (by show 1<=1;exact aO _),?_⟩ told;rw[bf (j9 hl Wt (by intro z;cases z))];exact hl
theorem Xm{Q:aB->Hp->Prop}(gy:fZ a H y g)(good:Og g)(p:∀x H' ans,H x=none->Same H H'->vh a lv H' x g ans->List.length ans=iz g->Q x H') : ∀x dx,H x=none->H dx=none->dx≠x->Oh a lv [.ref x,.ref y] (L2.upd (L2.upd H dx (.own x)) x (.ins lv dx [])) (λv H2=>v=.non/\Q x H2) E:=by
 intro x dx nx ndx ne;have s0:=rm (C:=lv) nx ndx;exact⟨x,dx,y,g,rfl,aF,gy.same s0,good,λH' ans b la told=>⟨rfl,p x H' ans nx (b.made nx ndx) la told⟩⟩
inductive Xn(K:Fg)(a:gB)(lv:aB)(vs:List V)(H:Hp)(Q:VK)(E:XK):Prop
 |mk:∀x g ans v b,vs=[.ref x,v]->vh a lv H x g ans->Eh g->ans.length=iz g->j4 K H g.week g.pots v b->((b=false->∀H',Same H H'->E (.ref a.dX) none H'))->((b=true->∀d ds (n:Nat) H',jy H v d ds->jf g.week g.pots d ds->numOf d g.pots ds=(n:Int)->n<iz g->Same H H'->Q (tO (ans.getD n none)) H'))->Xn K a lv vs H Q E
theorem ahI:bY ["self","state"] ["self","state"] (aZ aaW):=d9 (by decide +kernel)
theorem aeA{ans:Vc}(h:n<ans.length):(ans.map tO)[n]?=some (tO (ans.getD n none)):=by simp[h]
theorem aeB(F:mH K "days" "Lives.days" aaW f fd)(V:Xk K mg a dV lv):cM P w K mg base (fY P w) 5 f fd ["self","state"] (Xn K a lv):=by
 refine F.lY ahI (λvs H Q E h=>?_) (λcdv A outer s H vs Q E hr h=>?_)
 ·obtain⟨x,g,ans,v,b,rfl,_⟩:=h;rfl
 ·obtain⟨x,g,ans,v,b,rfl,⟨dx,y,l,hx,gy,hl⟩,ok,la,sa,bad,good⟩:=h;have S:=V.L.W.S;have Z:=S.Z;refine⟨_,aU (bU (cH iW (fJ (pv 0) rfl) (qQ (fJ (pv 0) rfl) Z.tG.cl S.ald (aeb S) hr S.num.b .nil (dJ bN) (ao (pv 1) aG)) (λ_ _=>rfl))),?_⟩;obtain⟨dy,ly,as,hy,_,_⟩:=id gy;refine⟨_,rfl,x,lv,dx,_,_,rfl,hx,V.t.cl,V.n _ (by simp),ahF ..,_,rfl,x,lv,dx,_,_,rfl,hx,V.t.cl,V.n _ (by simp),Xl ..,y,dy,_,rfl,hy,G6 _ _ _ _ (by decide +kernel) (by decide +kernel) (by decide +kernel) (by decide +kernel),_,rfl,y,g,v,b,rfl,gy,ok.nu,ok.n8,sa,bad,λeb d ds H1 sv vJ s1=>?_⟩;obtain⟨n,en,ln,_⟩:=Ei ok vJ;rw[en];exact⟨l,_,_,_,rfl,rfl,cD.of (s1 _ _ hl),gU (aeA (by rw[la];exact ln)),good eb d ds n H1 sv vJ en ln s1⟩
abbrev Oi:dI:=top 48
structure ahJ(K:Fg)(mg:Str->Option aC)(a:gB)(dV:aC):Prop where
 L:Xg K mg a dV
 fre:∃f fd,Fn K "fresh" "Garden.fresh" Rq ["self"] f fd/\Meth K a.garden "fresh" f
 to:∃f fd,Fn K "told_or_fresh" "told_or_fresh" Oi ["garden","state"] f fd/\mg "told_or_fresh"=some (.ref f)
theorem zL(ok:Eh g):jf g.week g.pots 0 (List.replicate g.pots.length 0):=by
 refine⟨fG _,ok.w0,length_replicate,λi y p hy hp=>?_⟩;have e:y=0:=(List.mem_replicate.mp (aQ hy)).2;have:=(ok.nu p (aQ hp)).gap.1;omega
inductive Em(K:Fg)(a:gB)(vs:List V)(H:Hp)(Q:VK)(E:XK):Prop
 |mk:∀x g v,vs=[.ref x,v]->fZ a H x g->g.pots.length<=8->(((v=.non/\∀H' t,Same H H'->jy H' (.ref t) 0 (List.replicate g.pots.length 0)->Q (.ref t) H') \/
 (v≠.non/\∃b,j4 K H g.week g.pots v b/\(b=false->∀H',Same H H'->E (.ref a.dX) none H')/\(b=true->∀H',Same H H'->Q v H'))))->Em K a vs H Q E
theorem aeC:bY ["garden","state"] ["garden","state"] (aZ Oi):=d9 (by decide +kernel)
theorem aaY(F:mH K "told_or_fresh" "told_or_fresh" Oi f fd)(S:Kh K mg a dV)(fF:Fn K "fresh" "Garden.fresh" Rq ["self"] ff df)(hF:Meth K a.garden "fresh" ff):cM P w K mg base (fY P w) 4 f fd ["garden","state"] (Em K a):=by
 refine F.lY aeC (λvs H Q E h=>?_) (λcdv A outer s H vs Q E hr h=>?_)
 ·obtain⟨x,g,v,rfl,_⟩:=h;rfl
 ·obtain⟨x,g,v,rfl,gx,h8,h⟩:=h;have Z:=S.Z;have okf:cM P w K mg base (fY P w) 1 ff df ["self"] (N7 a):=W7 Z fF.F;have hr1:eZ 1 _:=hr.mono (by decide);refine⟨_,aL (dZ (cu yC (pv 1) jR (cN _)) (aU (bU (oX (pv 0) Z.tG.cl hF okf hr1 fF.b .nil bB))) bZ) (aL (gJ (c7 (uT S) hr S.aaB S.ref.F.kp S.ref.b (dJ bN) (ao (pv 0) (ao (pv 1) aG)))) (aU (bU (pv 1)))),?_⟩;obtain⟨dx,l,as,hx,_,_⟩:=id gx;refine⟨_,rfl,rfl,_,rfl,?_⟩;rcases h with ⟨rfl,q⟩|⟨nn,b,sa,bad,good⟩
  ·rw[aK rfl];exact dB ⟨_,rfl,x,dx,_,rfl,hx,G6 _ _ _ _ (by decide +kernel) (by decide +kernel) (by decide +kernel) (by decide +kernel),x,g,rfl,gx,h8,q⟩
  ·rw[aD nn];exact cU ⟨_,rfl,_,rfl,x,g,v,b,rfl,gx,h8,sa,bad,λeb H1 s1=>⟨_,rfl,good eb H1 s1⟩⟩
abbrev aaZ:dI:=inClass (top 47) 2
abbrev Kz:dI:=inClass (top 47) 3
theorem Rx:rG jc:=GF uL (Vn uL)
theorem aa0:rG xM:=GF uL Rx
theorem m7.off(h:m7 a H as ps):m7 a (pR H) as ps:=Paired.iB h λ_ _ e=>e.imp λ_ z=>iZ z (λ_ y=>by cases y)
theorem fZ.off(h:fZ a H x g):fZ a (pR H) x g:=by
 obtain⟨dx,l,as,h1,h2,h3⟩:=h;exact⟨dx,l,as,iZ h1 (λ_ z=>by cases z),iZ h2 (λ_ z=>by cases z),h3.off⟩
theorem vh.off(h:vh a lv H x g ans):vh a lv (pR H) x g ans:=by
 obtain⟨dx,y,l,h1,h2,h3⟩:=h;exact⟨dx,y,l,iZ h1 (λ_ z=>by cases z),h2.off,iZ h3 (λ_ z=>by cases z)⟩
def Oj(g:iM):Option Int->Int
 |none=>sizeOf g.week g.pots
 |some k=>k
structure aeD(K:Fg)(mg:Str->Option aC)(a:gB)(dV:aC)(lv:aB)(cB:aB):Prop where
 V:Xk K mg a dV lv
 mx:mg "max"=none
 rank:∃f fd,Fn K "rank" "Lives.rank" aaZ ["self","state"] f fd/\Meth K lv "rank" f
 best:∃f fd,Fn K "best" "Lives.best" Kz ["self","state"] f fd/\Meth K lv "best" f/\fd.code=.ref cB
variable{cB:aB}
inductive KC(a:gB)(lv:aB)(vs:List V)(H:Hp)(Q:VK)(jU:XK):Prop
 |mk:∀x g ans v d ds n,vs=[.ref x,v]->vh a lv H x g ans->Eh g->ans.length=iz g->jy H v d ds->jf g.week g.pots d ds->numOf d g.pots ds=((n:Nat):Int)->(∀H',Same H H'->Q (.int (Oj g (ans.getD n none))) H')->KC a lv vs H Q jU
theorem Xo:bY ["self","state","days"] ["self","state"] (aZ aaZ):=d9 (by decide +kernel)
theorem aa1(F:mH K "rank" "Lives.rank" aaZ f fd)(Vt:Xk K mg a dV lv):cM P w K mg base (fY P w) 6 f fd ["self","state"] (KC a lv):=by
 refine F.lY Xo (λvs H Q E h=>?_) (λcdv A outer s H vs Q E hr h=>?_)
 ·obtain⟨x,g,ans,v,d,ds,n,rfl,_⟩:=h;rfl
 ·obtain⟨x,g,ans,v,d,ds,n,rfl,la,ok,len,st,vJ,en,q⟩:=h;have Z:=Vt.L.W.S.Z;obtain⟨fd',dd,dF,hD⟩:=Vt.day;have okd:cM P w K mg base (fY P w) 5 fd' dd ["self","state"] (Xn K a lv):=aeB dF.F Vt;have hr1:eZ 1 _:=hr.mono (by decide);refine⟨_,aL (bL (i:=2) Xo.nd rfl (Or.inl rfl) (qQ (pv 0) Vt.t.cl hD okd hr dF.b .nil bB (ao (pv 1) aG))) (aU (bU (nH (cu yC (pv 2) jR (cN _)) (oX (fJ (pv 0) rfl) Z.tG.cl Z.Nv (xZ Z) hr1 Z.size.b .nil bB) (pv 2)))),?_⟩;obtain⟨dx,y,l,hx,gy,hl⟩:=id la;refine⟨_,rfl,x,dx,_,rfl,hx,aaX _ _ (by decide +kernel) (by decide +kernel),_,rfl,x,g,ans,v,true,rfl,la,ok,len,st.arg vJ,(λz=>nomatch z),λ_ d' ds' n' H1 sv alK en' ln s1=>?_⟩;obtain⟨rfl,rfl⟩:=sv.one st;have e:n'=n:=by
   rw[en]at en';omega
  subst e;obtain⟨dy,ly,as,hy,hly,pty⟩:=gy.same s1;refine⟨_,rfl,rfl,_,rfl,?_⟩;cases ea:ans.getD n' none with
  |none =>
   rw[show decide (tO (none:Option Int)=V.non)=true from aK rfl];refine dB ⟨_,rfl,x,lv,dx,_,_,rfl,s1 _ _ hx,Vt.t.cl,Vt.n _ (by simp),Xl ..,y,dy,_,rfl,hy,G6 _ _ _ _ (by decide +kernel) (by decide +kernel) (by decide +kernel) (by decide +kernel),y,dy,ly,as,g.pots,_,g.week,_,rfl,hy,cD.of hly,pty,ok.nu,?_⟩;have:=q H1 s1;rw[ea]at this;exact this
  |some k =>
   rw[show decide (tO (some k)=V.non)=false from aD (λz=>nomatch z)];refine cU ⟨_,rfl,?_⟩;have:=q H1 s1;rw[ea]at this;exact this
def ROf{α:Type}(R:Rep α):Rep (Option α):=λH v o=>match o with
 |none=>v=.non
 |some c=>R H v c
def aeE(g:iM)(ans:Vc)(c:Int×Int×List Int):Int:=Oj g (ans.getD (numOf c.2.1 g.pots c.2.2).toNat none)
abbrev n6:Str:="Lives.best.<locals>.<lambda>"
abbrev lG:Pos:=match iV Kz with
 |[.Return (some (.Call _ _ (⟨_,.Lambda _ _ _ p,_⟩::_) _)) _]=>p
 |_=>⟨0,0,0,0⟩
theorem Ry(h:jc H v c):jy H v c.1 c.2:=by
 obtain⟨t,u,w,rfl,ht,rfl,t',vs,rfl,ht',p⟩:=h;rw[uZ p]at ht';exact⟨t,t',rfl,ht,ht'⟩
inductive En(K:Fg)(a:gB)(lv PB:aB)(vs:List V)(H:Hp)(Q:VK)(E:XK):Prop
 |mk:∀x g ans v b,vs=[.ref x,v]->vh a lv H x g ans->Eh g->ans.length=iz g->m5 PB lG n6 H->j4 K H g.week g.pots v b->((b=false->∀H',Same H H'->E (.ref a.dX) none H'))->((b=true->∀d ds H' u o,jy H v d ds->jf g.week g.pots d ds->lq PB H H'->m5 PB lG n6 H'->yW (mX g d ds) (aeE g ans) o->ROf xM H' u o->Q u H'))->En K a lv PB vs H Q E
theorem aeF:bY ["self","state"] ["self","state"] (aZ Kz):=d9 (by decide +kernel)
theorem aa2{f PB:aB}(F:mH K "best" "Lives.best" Kz f fd)(T:aeD K mg a dV lv cB)(hcd:fd.code=.ref cB)(C:CodeHd base cB PB)(hB:base.BuiltinsAt mg PB):cM P w K mg base (fY P w) 9 f fd ["self","state"] (En K a lv PB):=by
 refine F.Qp hcd aeF (λvs H Q E h=>?_) (λA outer s H vs Q E hr h=>?_)
 ·obtain⟨x,g,ans,v,b,rfl,_⟩:=h;rfl
 ·obtain⟨x,g,ans,v,b,rfl,la,ok,len,lt,sa,bad,good⟩:=h;have Vt:=T.V;have W:=Vt.L.W;obtain⟨fc,dc,cF,mC⟩:=W.cho;obtain⟨fr,dr,rF,hR⟩:=T.rank;have uN:cM P w K mg base (fY P w) 4 fc dc ["garden","state"] (NT K a):=WQ cF.F W;have Ru:cM P w K mg base (fY P w) 6 fr dr ["self","state"] (KC a lv):=aa1 rF.F Vt;have hr4:eZ 4 _:=hr.mono (by decide);have hr8:eZ 8 _:=hr.mono (by decide);refine⟨_,aU (bU (QB (c:=cB) (P:=PB) (qual:=n6) (x:="pair") (N':=["self"]) (cap:=[some 0]) (cl:=[("self",s.heap.objs.size+1)]) rfl T.mx (ao (c7 uN hr4 mC cF.F.kp cF.b (dJ bN) (ao (fJ (pv 0) rfl) (ao (pv 1) aG))) aG) rfl rfl C hB rfl (show(Str.ofString "Lives.best"++".<locals>."++"<lambda>":Str)=n6 from by decide +kernel) (Bx.one rfl rfl rfl (by decide +kernel) rfl rfl rfl rfl (by decide +kernel) rfl) (λf' cd' s₀ H₀ E'=>qQ (pv 1) Vt.t.cl hR Ru ((hr8.in1).deeper _) rF.b .nil bB (ao (cH (uJ K) (pv 0) aP (λ_ _=>rfl)) aG)) (by have h9:=hr.dp;change (A.deeper _).depth<_;omega) (λpm c' ctv u=>rfl))),?_⟩;obtain⟨dx,y,l,hx,gy,hl⟩:=id la;refine⟨_,rfl,x,lv,dx,_,_,rfl,hx,Vt.t.cl,Vt.n _ (by simp),Xl ..,_,rfl,y,g,v,b,rfl,gy,ok.w0,ok.c0,ok.n8,sa,bad,λeb d ds H1 lc sv vJ fl s1 rl=>?_⟩;obtain⟨_,us,e,hlc,pu⟩:=rl;cases e;have Mt:=lt.same s1;refine⟨lc,us,λj=>match (mX g d ds)[j]? with|some c=>aeE g ans c|none=>0,rfl,cD.of hlc,Mt,λH2 c' b2 Ad hc'=>?_⟩;have sT:=b2.lam Mt;have la2:vh a lv H2 x g ans:=((la.same s1).off.same sT).same ig;have alM:H2 lc=some (.lst us):=ig _ _ (sT _ _ (iZ hlc (λ_ z=>by cases z)));have pu2:Paired (xM H2) us (mX g d ds):=Paired.iB pu λ_ _ z=>j5.same (j5.same (aa0.of z) sT) ig
  refine⟨λ_ H'=>Same H2 H',λ_ _ z=>z,λj H' s3=>cD.of (s3 _ _ alM),λj H' s3=>s3 _ _ hc',λj u H' hu s3=>?_,λeu H' s3=>?_,λH' i u s3 hu mx=>?_⟩
  ·obtain⟨c,hcj,rc⟩:=dW pu2 hu;obtain⟨t0,u0,w0,rfl,ht0,e0,rs⟩:=id rc;obtain⟨dx3,y3,l3,Wt,_,_⟩:=id (la2.same s3);have ahL:=Ku ok vJ (aQ hcj);obtain⟨n,en,ln,_⟩:=Ei ok ahL;refine⟨_,rfl,x,dx3,_,rfl,Wt,aaX _ _ (by decide +kernel) (by decide +kernel),_,rfl,t0,_,_,w0,rfl,rfl,dY.of (s3 _ _ ht0),rfl,x,g,ans,w0,c.2.1,c.2.2,n,rfl,la2.same s3,ok,len,(Ry rs).same s3,ahL,en,λH4 s4=>⟨?_,s3.trans s4⟩⟩;dsimp only;rw[hcj]
   show V.int (Oj g (ans.getD n none))=.int (Oj g (ans.getD (numOf c.2.1 g.pots c.2.2).toNat none))
   rw[en];rfl
  ·have ec:mX g d ds=[]:=by
    cases hh:mX g d ds with
    |nil=>rfl
    |cons c cs =>
     rw[eu,hh]at pu2;cases pu2
   exact good eb d ds H' .non none sv vJ ((s1.but.trans b2).trans s3.but) (Ad.same s3) (.inl ⟨ec,rfl⟩) rfl
  ·obtain⟨c,hci,rc⟩:=dW pu2 hu;refine good eb d ds H' u (some c) sv vJ ((s1.but.trans b2).trans s3.but) (Ad.same s3) (.inr ⟨i,c,hci,rfl,λj c' hj=>?_⟩) (j5.same rc s3);have ll:us.length=(mX g d ds).length:=Paired.length pu2;have:=mx j (by rw[ll];exact(aM.mp hj).1);dsimp only at this;rw[hj,hci]at this;exact this
abbrev qM:dI:=top 49
abbrev m9:dI:=top 50
def mJ(ns:List Str)(c:Int):List Str:=((List.range ns.length).filter λk:Nat=>gR c (k:Int)).map λk=>ns.getD k ""
def mq(g:iM):List Str:=g.pots.map (·.nm)
inductive Eo(a:gB)(vs:List V)(H:Hp)(Q:VK)(jU:XK):Prop
 |mk:∀x g c,vs=[.ref x,.int c]->fZ a H x g->g.pots.length<=8->(∀H' l,Same H H'->H l=none->H' l=some (.lst ((mJ (mq g) c).map V.str))->Q (.ref l) H')->Eo a vs H Q jU
theorem aa3:bY ["garden","choice"] ["garden","choice"] (aZ qM):=d9 (by decide +kernel)
theorem Xp(F:mH K "names_in" "names_in" qM f fd)(L:Xg K mg a dV):cM P w K mg base (fY P w) 2 f fd ["garden","choice"] (Eo a):=by
 refine F.lY aa3 (λvs H Q E h=>?_) (λcdv A outer s H vs Q E hr h=>?_)
 ·obtain⟨x,g,c,rfl,_⟩:=h;rfl
 ·obtain⟨x,g,c,rfl,gx,n8,q⟩:=h;have T:=L.W.S.Z.G.T;have Z:=L.W.S.Z;obtain⟨fi,di,iF,mI⟩:=L.W.ahf;have Ri:cM P w K mg base (fY P w) 1 fi di ["number","bit"] yh:=G8 iF.F;have kI:=iF.F.kp;have bI:=iF.b;have Ko:[("place":Str),"pot","choice"].Nodup:=by decide +kernel
  refine⟨_,aU (bU (gG bN rfl ⟨_,_,rfl,rfl,rfl⟩ (iw (N':=["place","pot","choice"]) (cl:=[("choice",s.heap.objs.size+1)]) [none,none,some 1] ["garden","choice"] (aZ qM).names [(".0",.local),("place",.local),("pot",.local),("is_set",.globalImplicit),("choice",.cell)] ["choice"] rfl (by decide +kernel) (by decide +kernel) rfl (λp hp=>by rw[aH.mp hp];rfl) rfl rfl rfl rfl (by decide +kernel) rfl (by decide +kernel)) (xX (by rfl) L.en (ao (fJ (pv 0) rfl) aG)) (λ_ _ _ _ _=>qH K (n:=2) rfl (cj (cR 0 Ko) (cj (cR 1 Ko) gK))) (λ_ _ _ _ _=>mZ (eX (c7 Ri hr mI kI bI bB (ao (pv 2) (ao (pv 0) aG))))) (λ_ _ _ _ _ _=>wM K (pv 1) rfl))),?_⟩;obtain⟨dx,l,as,hx,hl,pt⟩:=id gx;have big:1000<=sizeLine:=by decide
  have lp:as.length=g.pots.length:=Paired.length pt;have ln:(mq g).length=g.pots.length:=by rw[mq,ak]
  refine⟨_,rfl,x,a.garden,dx,_,_,rfl,hx,Z.tG.cl,Z.nG _ (by simp),lB ..,l,_,rfl,cD.of hl,λD hD=>?_⟩;refine qT g.pots.length (by omega) (λi acc H'=>acc=(((List.range i).filter λk:Nat=>gR c (k:Int)).map λk=>(mq g).getD k "").map V.str/\Same H H'/\H' D=some (.lst acc)) ⟨rfl,aV hD,aF⟩ (λi acc H' le ⟨e,_,e'⟩=>⟨by rw[e,ak,ak];exact bx (length_filter_le _ _) (by rw[bK];exact aO _),e'⟩) ?_ ?_
  ·rintro acc H' ⟨rfl,s',e⟩;refine⟨⟨_,cD.of (s' _ _ hl),by rw[ak];omega⟩,q H' D s' hD ?_⟩;rw[e,mJ,ln]
  ·rintro i acc H' lt ⟨rfl,s',e⟩;have hp:g.pots[i]?=some g.pots[i]:=aA lt;have lti:i<as.length:=by omega
   have hai:as[i]?=some as[i]:=aA lti;obtain⟨p,hp',⟨dp,hat⟩⟩:=dW pt hai;have ep:(mq g).getD i ""=p.nm:=by
    simp only[mq,getD,aJ,hp'];rfl
   have hxi:(as.map V.ref)[i]?=some (.ref as[i]):=by rw[aJ,hai];rfl
   have sq:cD K H' l (as.map V.ref):=cD.of (s' _ _ hl);refine⟨⟨_,_,sq,hxi⟩,?_⟩;rintro y sZ ⟨t2,Ny,rfl,hu⟩ Qc Qn k kn;have e2:=hu _ _ sq hxi;subst e2;have v2:=aV (o:=.tup [V.int ((i:Nat):Int),.ref as[i]]) Ny;have e3:=v2 _ _ e;have cT:=T.cls p.jE;refine⟨t2,_,rfl,dY.of aF,rfl,_,_,rfl,_,_,rfl,rfl,Kv,_,rfl,_,rfl,c,((i:Nat):Int),rfl,Int.natCast_nonneg i,_,rfl,?_⟩;cases z:gR c ((i:Nat):Int) with
   |true =>
    refine dB ⟨_,rfl,as[i],p.cls a,dp,_,_,rfl,v2 _ _ (s' _ _ hat),cT.1.cl,cT.2 _ (by simp),p.wg,k _ _ e3 ⟨?_,iy (s'.trans v2) hD,aF⟩⟩;rw[dD,cZ];have ef:([i]:List Nat).filter (λk:Nat=>gR c (k:Int))=[i]:=by simp[z]
    rw[ef,aX,aX,cJ,ep];rfl
   |false =>
    refine cU (kn _ ⟨?_,s'.trans v2,e3⟩);rw[dD,cZ];simp[z]
structure aeH(K:Fg)(mg:Str->Option aC)(a:gB)(dV:aC)(lv cB:aB):Prop where
 B:aeD K mg a dV lv cB
 E:ahJ K mg a dV
 nin:∃f fd,Fn K "names_in" "names_in" qM ["garden","choice"] f fd/\mg "names_in"=some (.ref f)
 rof:∃f fd dv,zq K "rounds_of" "rounds_of" m9 dv f fd/\Binds K fd ["garden","state"] []/\Binds K fd ["garden","state"] [.none]/\mg "rounds_of"=some (.ref f)
def bF(g:iM)(ans:Vc)(s:NK):Option (Int×NK):=GD (aeE g ans) (mX g s.1 s.2)
def ahM(H H':Hp)(ns:List Str)(rows:List aB)(cs:List Int):Prop:=Paired (λr c=>H r=none/\H' r=some (.lst ((mJ ns c).map V.str))) rows cs
noncomputable def ahN(H:Hp)(t:aB)(rows:List aB):Option Nat->Prop
 |none=>∃l,H t=some (.tup [.ref l,.non])/\H l=some (.lst (rows.map V.ref))
 |some j=>∃l1 l2,H t=some (.tup [.ref l1,.ref l2])/\H l1=some (.lst ((rows.take j).map V.ref))/\H l2=some (.lst ((rows.drop j).map V.ref))
theorem eU.off(h:eU H k b):eU (pR H) k b:=by
 obtain⟨s,h1,h2⟩:=h;exact⟨s,iZ h1 (λ_ z=>by cases z),iZ h2 (λ_ z=>by cases z)⟩
theorem eU.upd(h:eU H k b)(hD:H D=some o)(no:∀xs,HO.tup xs≠o):eU (L2.upd H D o') k b:=by
 obtain⟨s,h1,h2⟩:=h;exact⟨s,by rw[bf (j9 h1 hD (no _))];exact h1,by rw[bf (j9 h2 hD (no _))];exact h2⟩
inductive vm(K:Fg)(a:gB)(PB:aB)(vs:List V)(H:Hp)(Q:VK)(E:XK):Prop
 |mk:∀x g v,vs=[.ref x,v]->fZ a H x g->Og g->m5 PB lG n6 H->∀done:NK->Prop,((∀s0,done s0->∀H' t ans cs o rows,lq PB H H'->m5 PB lG n6 H'->List.length ans=iz g->vW (bF g ans) (iz g+1) s0 [] []=(cs,o)->cs.length<=iz g->ahM H H' (mq g) rows cs->ahN H' t rows o->Q (.ref t) H'))->(((v=.non/\done (0,List.replicate g.pots.length 0))\/(v≠.non/\∃b,j4 K H g.week g.pots v b/\(b=false->∀H',Same H H'->E (.ref a.dX) none H')/\(b=true->∀d ds,jy H v d ds->jf g.week g.pots d ds->done (d,ds)))))->vm K a PB vs H Q E
theorem Hw{c:NK}(h:jc H v c):∃t,v=.ref t/\eU H c t:=by
 obtain⟨t,u,w,rfl,ht,rfl,t',vs,rfl,ht',p⟩:=h;rw[uZ p]at ht';exact⟨t,rfl,t',ht,ht'⟩
theorem aa4{done:NK->Prop}(gx:fZ a H x g)(ok:Eh g)(h:(v=.non/\done (0,List.replicate g.pots.length 0))\/(v≠.non/\∃b,j4 K H g.week g.pots v b/\(b=false->∀H',Same H H'->E (.ref a.dX) none H')/\(b=true->∀d ds,jy H v d ds->jf g.week g.pots d ds->done (d,ds))))(k:∀H1 t (s0:NK),Same H H1->eU H1 s0 t->jf g.week g.pots s0.1 s0.2->done s0->Q (.ref t) H1):Em K a [.ref x,v] H Q E:=by
 refine⟨x,g,v,rfl,gx,ok.n8,?_⟩;rcases h with ⟨rfl,dn⟩|⟨nn,b,sa,bad,dn⟩
 ·refine .inl ⟨rfl,λH1 t s1 st=>?_⟩;obtain⟨_,u,e,h1,h2⟩:=st;cases e;exact k H1 t (0,List.replicate g.pots.length 0) s1 ⟨u,h1,h2⟩ (zL ok) dn
 ·refine .inr ⟨nn,b,sa,bad,λeb H1 s1=>?_⟩;subst eb;obtain⟨d,ds,st,vJ⟩:=sa.good;obtain⟨t,u,rfl,h1,h2⟩:=id st;exact k H1 t (d,ds) s1 ⟨u,s1 _ _ h1,s1 _ _ h2⟩ vJ (dn rfl d ds st vJ)
theorem Ol(la:vh a lv H x g ans)(ok:Eh g)(len:ans.length=iz g)(lt:m5 PB lG n6 H)(nv:eU H s t)(vJ:jf g.week g.pots s.1 s.2)(k:∀H' fv,lq PB H H'->m5 PB lG n6 H'->ROf xM H' fv (bF g ans s)->Q fv H'):En K a lv PB [.ref x,.ref t] H Q E:=by
 refine⟨x,g,ans,.ref t,true,rfl,la,ok,len,lt,(vg nv).arg vJ,(λz=>nomatch z),λ_ d ds H' u o sv alK bp lt' ib ro=>?_⟩;obtain⟨rfl,rfl⟩:=sv.one (vg nv);have e:bF g ans s=o:=(Dn _ _).one ib;exact k H' u bp lt' (by rw[e];exact ro)
inductive RI(P:cC)(w:World)(PB:aB)(Hs:Hp)(x xl lD lS:aB)(g:iM)(ans:Vc)(s0:NK)(v:V)(i:Nat)(σ:St)(H':Hp):Prop
 |mk:∀(t:aB)(fv:V)(u7:Option V)(s:NK)(met:List NK)(cs:List Int)(rows:List aB)(ks:List m6),σ=[some (.ref x),some v,some (.ref t),some (.ref xl),some (.ref lD),some (.ref lS),some fv,u7]->lq PB Hs H'->m5 PB lG n6 H'->H' lD=some (.lst (rows.map V.ref))->H' lS=some (fW P w lS ks)->Paired (λr c=>Hs r=none/\r≠lD/\H' r=some (.lst ((mJ (mq g) c).map V.str))) rows cs->ks.map (·.1)=met->(∀r∈ks,eU H' r.1 r.2.1)->((∀(k:Nat) r,ks[k]?=some r->r.2.2=.int (k:Int)))->met.Nodup->(∀s∈met,jf g.week g.pots s.1 s.2)->(∀s∈met,bF g ans s≠none)->met.length=i->cs.length=i->eU H' s t->jf g.week g.pots s.1 s.2->ROf xM H' fv (bF g ans s)->vW (bF g ans) (iz g+1-i) s met cs=vW (bF g ans) (iz g+1) s0 [] []->RI P w PB Hs x xl lD lS g ans s0 v i σ H'
theorem wB(ok:Eh g){met:List NK}(nd:met.Nodup)(h:∀s∈met,jf g.week g.pots s.1 s.2):met.length<=iz g:=by
 refine JN (λs:NK=>(numOf s.1 g.pots s.2).toNat) (λn=>stN g n) nd λs hs=>?_
 obtain⟨t,e,lt,es⟩:=Ei ok (h s hs)
 show(numOf s.1 g.pots s.2).toNat<iz g/\stN g (numOf s.1 g.pots s.2).toNat=s
 rw[e];exact⟨lt,es⟩
theorem aeI(h:j<=n):HT.yH n n (some (j:Int))=j:=by
 rw[HT.tZ];omega
theorem aeJ(h:j<=n):HT.yH n 0 (some (j:Int))=j:=by
 rw[HT.tZ];omega
theorem Xq{j:Nat}(h:j<=xs.length):uc xs none (some (j:Int))=xs.take j:=by
 unfold uc;rw[aeI h];simp[HT.yH]
theorem Xr{j:Nat}(h:j<=xs.length):uc xs (some (j:Int)) none=xs.drop j:=by
 unfold uc;rw[aeJ h];simp[HT.yH,List.take_of_length_le]
abbrev alN:List Str:=["garden","state","here","lives","days","seen","found","first"]
theorem j7:bY alN ["garden","state"] (aZ m9):=d9 (by decide +kernel)
theorem Rz(F:zq K "rounds_of" "rounds_of" m9 dv f fd)(X:aeH K mg a dV lv cB)(bF':Fn K "best" "Lives.best" Kz ["self","state"] fb db)(hB':Meth K lv "best" fb)(okb:cM P w K mg base (fY P w) 9 fb db ["self","state"] (En K a lv PB)):cM P w K mg base (fY P w) 12 f fd ["garden","state"] (vm K a PB):=by
 refine F.lY j7 (λvs H Q E h=>?_) (λcdv A outer s H vs Q E hr h=>?_)
 ·obtain⟨x,g,v,rfl,_⟩:=h;rfl
 ·obtain⟨x,g,v,rfl,gx,good,lt,done,fin,h⟩:=h;have Vt:=X.B.V;have S:=Vt.L.W.S;have B:=S.Z.G.T.B;obtain⟨fi,di,iF,mk⟩:=Vt.ini;obtain⟨ff,df,fF,hF⟩:=X.E.fre;obtain⟨ft,dt,tF,mT⟩:=X.E.to;obtain⟨fn,dn,nF,mN⟩:=X.nin;have Ri:cM P w K mg base (fY P w) 10 fi di ["self","garden"] (Oh a lv):=aez iF.F Vt;have okt:cM P w K mg base (fY P w) 4 ft dt ["garden","state"] (Em K a):=aaY tF.F S fF hF;have okn:cM P w K mg base (fY P w) 2 fn dn ["garden","choice"] (Eo a):=Xp nF.F Vt.L;have hr4:eZ 4 _:=hr.mono (by decide);have hr2:eZ 2 _:=hr.mono (by decide);have hr9:eZ 9 _:=hr.mono (by decide);refine⟨_,aL (bL (i:=2) j7.nd rfl (Or.inl rfl) (c7 okt hr4 mT tF.F.kp tF.b (dJ bN) (ao (pv 0) (ao (pv 1) aG)))) (aL (bL (i:=3) j7.nd rfl (Or.inl rfl) (yQ mk Ri hr Vt.m iF.b bB (ao (pv 0) aG))) (aL (bL (i:=4) j7.nd rfl (Or.inl rfl) (gH aG)) (aL (bL (i:=5) j7.nd rfl (Or.inl rfl) (GP P w)) (aL (bL (i:=6) j7.nd rfl (Or.inl rfl) (qQ (pv 3) Vt.t.cl hB' okb hr9 bF'.b .nil bB (ao (pv 2) aG))) (aL (tX fM (pw_and (cu CQ (pv 6) jR (cN _)) (pw_and1 (cu (BL P w hr.units) (pv 2) (pv 5) rfl))).pt (aL (rT (eO bT B.len PySem.boot_len (ao (pv 4) aG)) (Jl (pv 5) (pv 2) (BP P w hr.units))) (aL (gJ (mL PySem.F.plainAttrs_list PySem.F.slot_list_append PySem.F.type_list_append iu (pv 4) (ao (c7 okn hr2 mN nF.F.kp nF.b bB (ao (pv 0) (ao (cH cQ (pv 6) aP (λ_ _=>rfl)) aG))) aG))) (aL (bL (i:=2) j7.nd rfl (Or.inl rfl) (cH cQ (pv 6) aP (λ_ _=>rfl))) (aU (bL (i:=6) j7.nd rfl (Or.inl rfl) (qQ (pv 3) Vt.t.cl hB' okb hr9 bF'.b .nil bB (ao (pv 2) aG)))))))) (aL (dZ (cu yC (pv 6) jR (cN _)) (aU (bU (d8 (ao (pv 4) (ao jR aG))))) bZ) (aL (bL (i:=7) j7.nd rfl (Or.inl rfl) (cH (GQ P w hr.units) (pv 5) (pv 2) (λ_ _=>rfl))) (aU (bU (d8 (ao (jh jO (pv 4) jM (jN (pv 7))) (ao (jh jO (pv 4) (jN (pv 7)) jM) aG)))))))))))),?_⟩;have ok:=good.ok;have small:=ok.small;have big:20000*257<=sizeLine:=by decide
  refine⟨_,rfl,_,rfl,pU (aa4 gx ok h (λH1 t s0 s1 nv vJ dn=>?_))⟩;refine⟨_,rfl,pU (Xm (gx.same s1) good (λxl Hs ans hx s2 la told=>?_))⟩;have len:ans.length=iz g:=told;have s12:=s1.trans s2;have ltS:=lt.same s12;have gxS:=gx.same s12;have nvS:=nv.same s2;have at_:∀H',lq PB Hs H'->vh a lv H' xl g ans/\fZ a H' x g:=λH' b=>⟨(la.off.same (b.lam ltS)).same ig,(gxS.off.same (b.lam ltS)).same ig⟩
  refine⟨by show 0<=sizeLine;decide,λlD hlD=>?_⟩;intro lS hlS;have nDS:lS≠lD:=λz=>by rw[z,aF]at hlS;cases hlS
  have fS:Hs lS=none:=by rw[bf nDS]at hlS;exact hlS
  have vD:=aV (o:=.lst []) hlD;have vS:=aV (o:=fW P w lS []) hlS;have sA:=vD.trans vS;have hD0:=vS _ _ (aF (H:=Hs) (a:=lD) (o:=.lst []));have hS0:L2.upd (L2.upd Hs lD (.lst [])) lS (fW P w lS []) lS=some (fW P w lS []):=aF;generalize L2.upd (L2.upd Hs lD (.lst [])) lS (fW P w lS [])=H2 at sA hD0 hS0⊢;obtain⟨la2,gx2⟩:=at_ H2 sA.but;obtain⟨dxl,yl,ll,hxl,_,_⟩:=id la2;refine⟨_,rfl,xl,dxl,_,rfl,hxl,aaX _ _ (by decide +kernel) (by decide +kernel),_,rfl,pU (Ol la2 ok len (ltS.same sA) (nvS.same sA) vJ (λH3 fv b3 lt3 rf=>?_))⟩;have nPD:∀{H':Hp},m5 PB lG n6 H'->∀{b u},H' b=some u->(∀ps,HO.wK ps≠u)->b≠PB:=λl b u hb n z=>by
   obtain⟨ps,hp,_⟩:=l;rw[z,hp]at hb;exact n ps (bO hb)
  have sT:=b3.lam (ltS.same sA);have nP:∀{b u},H2 b=some u->(∀ps,u≠HO.wK ps)->H3 b=some u:=λhb n=>ig _ _ (sT _ _ (iZ hb n))
  refine⟨λm σ H'=>∃i,m=iz g+1-i/\RI P w PB Hs x xl lD lS g ans s0 v i σ H',⟨_,0,rfl,t,fv,none,s0,[],[],[],[],rfl,sA.but.trans b3,lt3,nP hD0 (λ_ z=>by cases z),nP hS0 (λ_ z=>by cases z),.nil,rfl,(λr hr=>by simp at hr),(λk r hr=>by simp at hr),nodup_nil,(λs hs=>by simp at hs),(λs hs=>by simp at hs),rfl,rfl,((eU.off (nvS.same sA)).same sT).same ig,vJ,rf,rfl⟩,?_⟩;rintro m σ H4 ⟨i,rfl,t4,fv4,u7,s4,met,cs,rows,ks,rfl,b4,lt4,hD,hS,pr,Tp,kn,kv,nd,mok,mb,lm,lc,nv4,ahO,rf4,due⟩;have li:i<=iz g:=by rw[<- lm];exact wB ok nd mok
  have lr:rows.length=i:=by rw[Paired.length pr,lc]
  rw[show iz g+1-i=(iz g-i)+1 by omega]at due;have aeK:(ks.any λr=>decide (r.1=s4))=decide (s4∈met):=by
   rw[<- Tp]
   by_cases z:s4∈ks.map (·.1)
   ·obtain⟨r,hr,e⟩:=bM.mp z;rw[aK z];exact any_eq_true.mpr ⟨r,hr,aK e⟩
   ·rw[aD z];exact any_eq_false.mpr λr hr e=>z (bM.mpr ⟨r,hr,of_decide_eq_true e⟩)
  have bH:lq PB H H4:=s12.but.trans b4;refine⟨_,rfl,rfl,_,rfl,?_⟩;cases eb:bF g ans s4 with
  |none =>
   rw[eb]at rf4;have e4:fv4=.non:=rf4;subst e4;have nm:s4∉met:=λz=>mb s4 z eb
   rw[M6 nm eb]at due;refine cU (cU ⟨_,rfl,rfl,_,rfl,dB ⟨_,rfl,by show 2<=sizeLine;decide,λtt htt=>?_⟩⟩);have vt:=aV (o:=.tup [.ref lD,.non]) htt;exact fin s0 dn _ tt ans cs none rows (bH.trans vt.but) (lt4.same vt) told due.symm (by omega) (Paired.iB pr λr c z=>⟨s12.free z.1,vt _ _ z.2.2⟩) ⟨lD,aF,vt _ _ hD⟩
  |some c =>
   rw[eb]at rf4;obtain⟨tf,u0,w',rfl,htf,e0,rs⟩:=id (show xM H4 fv4 c from rf4);have e0':u0=.int c.1:=e0;subst e0';have dec:decide (V.ref tf=V.non)=false:=aD (λz=>by cases z);rw[dec];refine dB ⟨_,rfl,_,rfl,lS,ks,t4,s4,rfl,rfl,hS,kn,nv4,_,rfl,?_⟩;rw[aeK]
   by_cases z:s4∈met
   ·
    rw[aK z];obtain⟨j,hj,_,dj⟩:=Qw (B:=bF g ans) z;rw[dj]at due;have lj:j<met.length:=(aM.mp hj).1;rw[<- Tp,aJ]at hj;obtain⟨r,hr',er⟩:=bh.mp hj;have ev:=kv _ r hr';refine cU ⟨_,rfl,rfl,_,rfl,?_⟩;rw[dec];refine cU ⟨_,rfl,_,rfl,lS,ks,t4,s4,j,r,rfl,rfl,hS,kn,nv4,hr',er,?_⟩;rw[ev];have lx:j<=(rows.map V.ref).length:=by rw[ak];omega
    refine⟨_,rfl,_,rfl,_,rfl,lD,_,rfl,cD.of hD,λl1 hl1=>?_⟩;rw[Xq lx];have v1:=aV (o:=.lst ((rows.map V.ref).take (j))) hl1;refine⟨_,rfl,_,rfl,_,rfl,lD,_,rfl,cD.of (v1 _ _ hD),λl2 hl2=>?_⟩;rw[Xr lx];have v2:=aV (o:=.lst ((rows.map V.ref).drop (j))) hl2;refine⟨by show 2<=sizeLine;decide,λtt htt=>?_⟩;have vt:=aV (o:=.tup [.ref l1,.ref l2]) htt;have vv:=(v1.trans v2).trans vt;refine fin s0 dn _ tt ans cs (some (j)) rows (bH.trans vv.but) (lt4.same vv) told due.symm (by omega) (Paired.iB pr λr c z=>⟨s12.free z.1,vv _ _ z.2.2⟩) ⟨l1,l2,aF,?_,?_⟩
    ·rw[map_take];exact vt _ _ (v2 _ _ aF)
    ·rw[List.map_drop];exact vt _ _ aF
   ·
    rw[aD z];rw[Vg z eb]at due;have lk:ks.length=i:=by rw[<- lm,<- Tp,ak]
    obtain⟨tw,rfl,nw⟩:=Hw rs;have nd':(met++[s4]).Nodup:=nodup_append.mpr ⟨nd,by simp,λb hb b' hb' e=>by
     rw[aH]at hb';subst hb';subst e;exact z hb⟩
    have Hx:∀s∈met++[s4],jf g.week g.pots s.1 s.2:=λs hs=>by
     rcases bQ.mp hs with h|h
     ·exact mok s h
     ·rw[aH.mp h];exact ahO
    have mb':∀s∈met++[s4],bF g ans s≠none:=λs hs=>by
     rcases bQ.mp hs with h|h
     ·exact mb s h
     ·rw[aH.mp h,eb];exact λy=>by cases y
    have li':=wB ok nd' Hx;rw[aY,lm]at li';have li1:i+1<=iz g:=li';have ahP:jf g.week g.pots c.2.1 c.2.2:=Ku ok ahO (Vf eb);have kv':∀(k:Nat) r,(ks++[(s4,t4,V.int ((rows.map V.ref).length:Int))])[k]?=some r->r.2.2=.int (k:Int):=λk r hk=>by
     by_cases lt:k<ks.length
     ·rw[List.getElem?_append_left lt]at hk;exact kv k r hk
     ·rw[List.getElem?_append_right (by omega)]at hk;obtain⟨e1,e2⟩:=aM.mp hk;have ek:k=ks.length:=by simp at e1;omega
      subst ek;simp at e2;rw[<- e2]
      show V.int _=V.int _
      rw[lr,lk]
    have nSt:∀xs,HO.tup xs≠fW P w lS ks:=λ_ y=>by cases y
    have nSl:∀xs,HO.lst xs≠fW P w lS ks:=λ_ y=>by cases y
    refine dB ⟨λσ' H'=>∃m',m'<iz g+1-i/\∃i',m'=iz g+1-i'/\RI P w PB Hs x xl lD lS g ans s0 v i' σ' H',λ_ _ h=>h,?_⟩;refine⟨_,rfl,lD,_,rfl,.inl (cD.of hD),_,rfl,_,rfl,lS,ks,t4,s4,rfl,rfl,hS,kn,nv4,(λr hr e=>z (by rw[<- Tp];exact bM.mpr ⟨r,hr,e⟩)),by omega,?_⟩;have b5:=b4.upd (o:=fW P w lS (ks++[(s4,t4,.int ((rows.map V.ref).length:Int))])) fS;have lt5:=lt4.upd (o:=fW P w lS (ks++[(s4,t4,.int ((rows.map V.ref).length:Int))])) hS (λ_ y=>by cases y) QK;have hD5:L2.upd H4 lS (fW P w lS (ks++[(s4,t4,.int ((rows.map V.ref).length:Int))])) lD=some (.lst (rows.map V.ref)):=by rw[bf (j9 hD hS (nSl _))];exact hD
    have aa5:L2.upd H4 lS (fW P w lS (ks++[(s4,t4,.int ((rows.map V.ref).length:Int))])) tf=some (.tup [.int c.1,.ref tw]):=by rw[bf (j9 htf hS (nSt _))];exact htf
    have hS5:L2.upd H4 lS (fW P w lS (ks++[(s4,t4,.int ((rows.map V.ref).length:Int))])) lS=some (fW P w lS (ks++[(s4,t4,.int ((rows.map V.ref).length:Int))])):=aF;have kn5:∀r∈ks++[(s4,t4,V.int ((rows.map V.ref).length:Int))],eU (L2.upd H4 lS (fW P w lS (ks++[(s4,t4,.int ((rows.map V.ref).length:Int))]))) r.1 r.2.1:=λr hr=>by
     rcases bQ.mp hr with h|h
     ·exact eU.upd (kn r h) hS nSt
     ·rw[aH.mp h];exact eU.upd nv4 hS nSt
    have nw5:=eU.upd (o':=fW P w lS (ks++[(s4,t4,.int ((rows.map V.ref).length:Int))])) nw hS nSt;have pr5:Paired (λr c=>Hs r=none/\r≠lD/\L2.upd H4 lS (fW P w lS (ks++[(s4,t4,.int ((rows.map V.ref).length:Int))])) r=some (.lst ((mJ (mq g) c).map V.str))) rows cs:=Paired.iB pr λr c y=>⟨y.1,y.2.1,by rw[bf (j9 y.2.2 hS (nSl _))];exact y.2.2⟩
    have Xu:(ks++[(s4,t4,V.int ((rows.map V.ref).length:Int))]).map (·.1)=met++[s4]:=by rw[aX,Tp];rfl
    generalize L2.upd H4 lS (fW P w lS (ks++[(s4,t4,.int ((rows.map V.ref).length:Int))]))=H5 at b5 lt5 hD5 aa5 hS5 kn5 nw5 pr5⊢;generalize ks++[(s4,t4,V.int ((rows.map V.ref).length:Int))]=ks' at hS5 kn5 Xu kv'⊢;obtain⟨la5,gx5⟩:=at_ H5 b5;refine⟨_,rfl,.inl ⟨rfl,_,cD.of hD5⟩,_,rfl,_,rfl,tf,_,0,.int c.1,rfl,rfl,dY.of aa5,rfl,pU ⟨x,g,c.1,rfl,gx5,ok.n8,λH6 lw s6 fw hw=>⟨lD,_,.ref lw,rfl,rfl,s6 _ _ hD5,by rw[ak];omega,?_⟩⟩⟩;have hD6:=s6 _ _ hD5;have nwD:lw≠lD:=Ne.symm (dN hD5 fw);have fwS:Hs lw=none:=b5.new fw λy=>by
     obtain⟨ps,hp,_⟩:=lt5;rw[y,hp]at fw;cases fw
    have nL:∀ys,HO.tup ys≠HO.lst (rows.map V.ref):=λ_ y=>by cases y
    have b7:=(b5.trans s6.but).upd (o:=.lst (rows.map V.ref++[.ref lw])) hlD;have lt7:=(lt5.same s6).upd (o:=.lst (rows.map V.ref++[.ref lw])) hD6 (λ_ y=>by cases y) (λy=>by cases y);have hS7:L2.upd H6 lD (.lst (rows.map V.ref++[.ref lw])) lS=some (fW P w lS ks'):=by rw[bf nDS];exact s6 _ _ hS5
    have ahQ:L2.upd H6 lD (.lst (rows.map V.ref++[.ref lw])) tf=some (.tup [.int c.1,.ref tw]):=by rw[bf (j9 (s6 _ _ aa5) hD6 (nL _))];exact s6 _ _ aa5
    have kn7:∀r∈ks',eU (L2.upd H6 lD (.lst (rows.map V.ref++[.ref lw]))) r.1 r.2.1:=λr hr=>eU.upd ((kn5 r hr).same s6) hD6 nL
    have nw7:=eU.upd (o':=.lst (rows.map V.ref++[.ref lw])) (nw5.same s6) hD6 nL;have pr7:Paired (λr c=>Hs r=none/\r≠lD/\L2.upd H6 lD (.lst (rows.map V.ref++[.ref lw])) r=some (.lst ((mJ (mq g) c).map V.str))) (rows++[lw]) (cs++[c.1]) :=
     Paired.snoc (Paired.iB pr5 λr c y=>⟨y.1,y.2.1,by rw[bf y.2.1];exact s6 _ _ y.2.2⟩) ⟨fwS,nwD,by rw[bf nwD];exact hw⟩
    have hD7:L2.upd H6 lD (.lst (rows.map V.ref++[.ref lw])) lD=some (.lst ((rows++[lw]).map V.ref)):=by rw[aX];exact aF
    generalize L2.upd H6 lD (.lst (rows.map V.ref++[.ref lw]))=H7 at b7 lt7 hS7 ahQ kn7 nw7 pr7 hD7⊢;obtain⟨la7,gx7⟩:=at_ H7 b7;obtain⟨dx7,y7,l7,hx7,_,_⟩:=id la7;refine⟨_,rfl,tf,_,1,.ref tw,rfl,rfl,dY.of ahQ,rfl,?_⟩;refine⟨_,rfl,xl,dx7,_,rfl,hx7,aaX _ _ (by decide +kernel) (by decide +kernel),_,rfl,pU (Ol la7 ok len lt7 nw7 ahP (λH8 fv8 b8 lt8 rf8=>?_))⟩;have sT8:=b8.lam lt7;have nP8:∀{b u},H7 b=some u->(∀ps,u≠HO.wK ps)->H8 b=some u:=λhb n=>ig _ _ (sT8 _ _ (iZ hb n))
    refine⟨iz g+1-(i+1),by omega,i+1,rfl,tw,fv8,u7,c.2,met++[s4],cs++[c.1],rows++[lw],ks',rfl,b7.trans b8,lt8,nP8 hD7 (λ_ y=>by cases y),nP8 hS7 (λ_ y=>by cases y),Paired.iB pr7 (λr c y=>⟨y.1,y.2.1,nP8 y.2.2 (λ_ y'=>by cases y')⟩),Xu,λr hr=>((eU.off (kn7 r hr)).same sT8).same ig,kv',nd',Hx,mb',?_,?_,((eU.off nw7).same sT8).same ig,ahP,rf8,?_⟩
    ·rw[aY,lm];rfl
    ·rw[aY,lc];rfl
    ·rw[show iz g+1-(i+1)=iz g-i by omega];exact due
abbrev yp:dI:=top 43
abbrev alW:List Str:=["garden","lead","rows","answer","first","seen"]
inductive Ev where
 |ever (n:Nat)
 |dry (n:Nat) (nm:Str)
 |bad (n:Nat)
 |none (n:Nat)
noncomputable def Ji(W:Nat->NK->Wk)(len:Nat):Nat->Nat->Wk->List NK->Ev
 |_,_,.dry n nm,_=>.dry n nm
 |_,_,.bad n,_=>.bad n
 |_,_,.none n,_=>.none n
 |0,_,.kept _ _,_=>.ever 0
 |k+1,m,.kept d ds,met=>if(d,ds)∈met then .ever (met.length-met.idxOf (d,ds)) else Ji W len k (m+len) (W m (d,ds)) (met++[(d,ds)])
theorem Xv :Ji W len k m (.dry n nm) met=.dry n nm:=by cases k<;>rfl
theorem Xw :Ji W len k m (.bad n) met=.bad n:=by cases k<;>rfl
theorem Om :Ji W len k m (.none n) met=.none n:=by cases k<;>rfl
theorem Hy(h:s∈met):Ji W len (k+1) m (.kept s.1 s.2) met=.ever (met.length-met.idxOf s):=by
 unfold Ji;rw[if_pos h]
theorem acw(h:s∉met):Ji W len (k+1) m (.kept s.1 s.2) met=Ji W len k (m+len) (W m s) (met++[s]):=by
 conv=>lhs;unfold Ji
 rw[if_neg h]
noncomputable def aeL(g:iM)(lead rows:List (List Str)):Wk->Ev
 | .bad n=>.bad n
 | .none n=>.none n
 |k=>if rows.length=0 then .bad lead.length else Ji (λm s=>iT g rows m s.1 s.2) rows.length (iz g+1) lead.length k []
def Hz(g:iM)(lead rows:List (List Str)):Ev:=aeL g lead rows (iT g lead 0 0 (List.replicate g.pots.length 0))
theorem aeM{nms:List Str}(ln:nms.length=ps.length)(w0:0<wk)(nu:∀p∈ps,p.Ok)(ok:jf wk ps d ds)(h:fV nms cans sh (cpsOf ps ds) js=.st far):jf wk ps ((d+1) % wk) far:=by
 have lc:=lR ok.len;unfold fV at h
 split at h
 ·cases e:uE nms (cpsOf ps ds) js with
  |some nm=>rw[e]at h;cases h
  |none =>
   rw[e]at h;cases h;have dn:=(yU (by rw[ln,lc])).mp e;refine⟨Int.emod_nonneg _ (by omega),Int.emod_lt_of_pos _ w0,by rw[rC,lc],λi y p hy hp=>?_⟩;obtain⟨z,hz⟩:∃z,ds[i]?=some z:=by
    have:=(aM.mp hp).1;have l2:=ok.len;exact⟨ds[i]'(by omega),aA _⟩
   have hc:=qJ hp hz;rw[qw hc]at hy;cases hy;have nd:=dn i _ hc;have b:=ok.at_ i z p hz hp;have g1:=(nu p (aQ hp)).gap.1;have e1:(uV p z).s=z:=rfl;have e2:(uV p z).gap=p.gap:=rfl;rw[e1,e2]at nd;rw[e1]
   split at nd
   ·rename_i y
    rw[if_pos y];omega
   ·rename_i y
    rw[if_neg y];omega
 ·cases h
theorem vo(gk:Eh g):∀{rows:List (List Str)}{n:Nat}{d:Int}{ds:List Int}{d':Int}{ds':List Int},jf g.week g.pots d ds->iT g rows n d ds=.kept d' ds'->jf g.week g.pots d' ds'
 |[],n,d,ds,d',ds',ok,h=>by
  cases h;exact ok
 |r::rs,n,d,ds,d',ds',ok,h=>by
  unfold iT at h;rw[wY]at h
  split at h
  ·split at h
   ·split at h
    ·cases h
    ·cases h
    ·rename_i far e
     exact vo gk (aeM (by rw[oN,ak]) gk.w0 gk.nu ok e) h
   ·cases h
  ·cases h
noncomputable def Xx(a:gB)(H:Hp)(Q:VK)(E:XK):Ev->Prop
 | .ever n=>∀H' t,Same H H'->H' t=some (.tup [.bl true,.int (n:Nat)])->Q (.ref t) H'
 | .dry n nm=>∀H' t,Same H H'->H' t=some (.tup [.bl false,.int (n:Nat),.str nm])->Q (.ref t) H'
 | .bad n=>∀H' dx,Same H H'->H' dx=some (.xd [("day",.int (n:Nat))])->E (.ref a.dz) (some dx) H'
 | .none _=>∀H',Same H H'->E (.ref a.gA) none H'
def Xy(H:Hp)(t:aB):Wk->Prop
 | .kept d ds=>∃u,H t=some (.tup [.bl true,.ref u])/\eU H (d,ds) u
 | .dry n nm=>H t=some (.tup [.bl false,.int (n:Nat),.str nm])
 |_=>False
theorem Xy.same(h:Xy H t k)(s:Same H H'):Xy H' t k:=by
 cases k with
 |kept d ds =>
  obtain⟨u,h1,h2⟩:=h;exact⟨u,s _ _ h1,h2.same s⟩
 |dry n nm=>exact s _ _ h
 |bad n=>exact h
 |none n=>exact h
theorem RB(h:jy H v d ds):∃t,v=.ref t/\eU H (d,ds) t:=by
 obtain⟨t,u,e,h1,h2⟩:=h;exact⟨t,e,u,h1,h2⟩
theorem Oo(h1:∀H' t,Same H H'->Xy H' t k->Q (.ref t) H')(h2:∀n,k=.bad n->∀H' dx,Same H H'->H' dx=some (.xd [("day",.int (n:Nat))])->E (.ref a.dz) (some dx) H')(h3:∀n,k=.none n->∀H',Same H H'->E (.ref a.gA) none H'):wz a H Q E k:=by
 cases k with
 |kept d ds =>
  intro H' t u s ht st;obtain⟨u',rfl,nv⟩:=RB st;exact h1 H' t s ⟨u',ht,nv⟩
 |dry n nm=>exact λH' t s ht=>h1 H' t s ht
 |bad n=>exact h2 n rfl
 |none n=>exact h3 n rfl
inductive Xz(a:gB)(vs:List V)(H:Hp)(Q:VK)(E:XK):Prop
 |mk:∀x g lv lead rv rows,vs=[.ref x,lv,rv]->fZ a H x g->Eh g->iz g<=20000->fX H lv lead->lead.length<=9000->(∀r∈lead,r.length<=1000)->fX H rv rows->rows.length<=9000->(∀r∈rows,r.length<=1000)->Xx a H Q E (Hz g lead rows)->Xz a vs H Q E
inductive KI(P:cC)(w:World)(Hs:Hp)(x lS:aB)(lv rv:V)(g:iM)(lead rows:List (List Str))(k0:Wk)(i:Nat)(σ:St)(H':Hp):Prop
 |mk:∀(ta:aB)(k:Wk)(ks:List m6)(met:List NK),σ=[some (.ref x),some lv,some rv,some (.ref ta),some (.int ((lead.length+i*rows.length:Nat):Int)),some (.ref lS)]->Same Hs H'->H' lS=some (fW P w lS ks)->ks.map (·.1)=met->(∀r∈ks,eU H' r.1 r.2.1)->((∀(j:Nat) r,ks[j]?=some r->r.2.2=.int (j:Int)))->met.Nodup->(∀s∈met,jf g.week g.pots s.1 s.2)->met.length=i->Xy H' ta k->((∀d ds,k=.kept d ds->jf g.week g.pots d ds))->Ji (λm s=>iT g rows m s.1 s.2) rows.length (iz g+1-i) (lead.length+i*rows.length) k met=Ji (λm s=>iT g rows m s.1 s.2) rows.length (iz g+1) lead.length k0 []->KI P w Hs x lS lv rv g lead rows k0 i σ H'
theorem Ck:bY alW ["garden","lead","rows"] (aZ yp):=d9 (by decide +kernel)
theorem aeN(F:mH K "kept_for_ever" "kept_for_ever" yp f fd)(X:Ht K mg a dV)(kF:Fn K "kept" "kept" Hr ["garden","rows"] fk dk)(mK:mg "kept"=some (.ref fk)):cM P w K mg base (fY P w) 6 f fd ["garden","lead","rows"] (Xz a):=by
 refine F.lY Ck (λvs H Q E h=>?_) (λcdv A outer s H vs Q E hr h=>?_)
 ·obtain⟨x,g,lv,lead,rv,rows,rfl,_⟩:=h;rfl
 ·obtain⟨x,g,lv,lead,rv,rows,rfl,gx,gk,sz,rl,ll,llr,rr,lr,lrr,post⟩:=h;have B:=X.W.S.Z.G.T.B;obtain⟨ff,df,dv,t0,fF,b1,b0,mF⟩:=X.fol;obtain⟨fi,di,iF,xi,fni⟩:=X.X.bd;have okk:cM P w K mg base (fY P w) 5 fk dk ["garden","rows"] (Ks K a):=aaO kF.F X;have okf:cM P w K mg base (fY P w) 4 ff df ["garden","rows","state","first"] (Oa K a):=W9 fF X;have Ri:cM P w K mg base (fY P w) 1 fi di ["self","day"] (Hf a):=WX iF.F X.X;have hr5:eZ 5 _:=hr.mono (by decide);have hr4:eZ 4 _:=hr.mono (by decide);have hr2:eZ 2 _:=hr.mono (by decide);refine⟨_,aL (bL (i:=3) Ck.nd rfl (Or.inl rfl) (c7 okk hr5 mK kF.F.kp kF.b (dJ bN) (ao (pv 0) (ao (pv 1) aG)))) (aL (dZ (cu iQ (eO bT B.len PySem.boot_len (ao (pv 2) aG)) aP (cN _)) (aU (qZ bN rfl (by rfl) X.X.m xi fni PySem.F.excBase_ValueError Ri hr2 iF.b (ao (eO bT B.len PySem.boot_len (ao (pv 1) aG)) aG))) bZ) (aL (bL (i:=4) Ck.nd rfl (Or.inl rfl) (eO bT B.len PySem.boot_len (ao (pv 1) aG))) (aL (bL (i:=5) Ck.nd rfl (Or.inl rfl) (GP P w)) (aL (tX fM (pw_and (eX (cH cQ (pv 3) aP (λ_ _=>rfl))) (pw_and1 (cu (BL P w hr.units) (cH cQ (pv 3) aP (λ_ _=>rfl)) (pv 5) rfl))).pt (aL (rT (eO (BW P w) B.len PySem.boot_len (ao (pv 5) aG)) (Jl (pv 5) (cH cQ (pv 3) aP (λ_ _=>rfl)) (BP P w hr.units))) (aL (bL (i:=3) Ck.nd rfl (Or.inl rfl) (tY okf hr4 (by rfl) mF fF.kp b1 .nil (dJ bN) (ao (pv 0) (ao (pv 2) (ao (cH cQ (pv 3) aP (λ_ _=>rfl)) (ao (pv 4) aG)))))) (aU (TY (i:=4) Ck.nd rfl (Or.inl rfl) (eO bT B.len PySem.boot_len (ao (pv 2) aG)) T3))))) (aL (dZ (gh (eX (cH cQ (pv 3) aP (λ_ _=>rfl)))) (aU (bU (pv 3))) bZ) (aU (bU (d8 (ao jW (ao (cg pY (eO (BW P w) B.len PySem.boot_len (ao (pv 5) aG)) (cH (GQ P w hr.units) (pv 5) (cH cQ (pv 3) aP (λ_ _=>rfl)) (λ_ _=>rfl))) aG)))))))))),?_⟩;have big:20000*257<=sizeLine:=by decide
  have fit:aem g:=⟨by have:=gk.w0;omega,gk.c0,gk.n8⟩;refine⟨_,rfl,_,rfl,x,g,lv,lead,rfl,gx,fit,gk.nu,rl,ll,llr,?_⟩;unfold Hz at post;have XD:∀d ds,iT g lead 0 0 (List.replicate g.pots.length 0)=.kept d ds->jf g.week g.pots d ds:=λd ds e=>vo gk (zL gk) e
  generalize iT g lead 0 0 (List.replicate g.pots.length 0)=k0 at post XD⊢;refine Oo (λH1 ta s1 ra=>?_) (λn e=>?_) (λn e=>?_)
  rotate_left
  ·subst e;exact post
  ·subst e;exact post
  have pe:aeL g lead rows k0=if rows.length=0 then .bad lead.length else Ji (λm s=>iT g rows m s.1 s.2) rows.length (iz g+1) lead.length k0 []:=by
   cases k0 with
   |kept d ds=>rfl
   |dry n nm=>rfl
   |bad n=>exact ra.elim
   |none n=>exact ra.elim
  rw[pe]at post;obtain⟨lp,ls,rfl,hlp,pls⟩:=id (rl.same s1);obtain⟨rp,rs,rfl,hrp,prs⟩:=id (rr.same s1);have lls:ls.length=lead.length:=Paired.length pls;have lrs:rs.length=rows.length:=Paired.length prs;refine⟨_,rfl,rp,_,rfl,.inl (cD.of hrp),rfl,_,rfl,?_⟩;rw[show(rs.map V.ref).length=rows.length by rw[ak,lrs]]
  by_cases z:rows.length=0
  ·rw[if_pos z]at post;rw[z];refine dB ⟨_,rfl,lp,_,rfl,.inl (cD.of hlp),Ea (d:=((ls.map V.ref).length:Int)) ?_ λH' dx s' hd'=>post H' dx (s1.trans s') ?_⟩
   ·rw[Int.natAbs_natCast];exact Cj (by rw[ak];omega)
   ·rw[<- lls];rw[ak]at hd';exact hd'
  ·rw[if_neg z]at post;rw[aD (show ¬V.int ((rows.length:Nat):Int)=V.int 0 from λy=>z (by injection y with y;omega))];refine cU ⟨_,rfl,lp,_,rfl,.inl (cD.of hlp),λlS hlS=>?_⟩;have vS:=aV (o:=fW P w lS []) hlS;have hS0:L2.upd H1 lS (fW P w lS []) lS=some (fW P w lS []):=aF;refine⟨λm σ H'=>∃i,m=iz g+1-i/\KI P w H1 x lS (.ref lp) (.ref rp) g lead rows k0 i σ H',⟨_,0,rfl,ta,k0,[],[],?_,vS,hS0,rfl,(λr hr=>by simp at hr),(λk r hr=>by simp at hr),nodup_nil,(λs hs=>by simp at hs),rfl,?_,XD,?_⟩,?_⟩
   ·simp[lls];rfl
   ·exact ra.same vS
   ·simp
   rintro m σ H2 ⟨i,rfl,tb,k,ks,met,rfl,s2,hS,Tp,kn,kv,nd,mok,lm,rb,kok,ev⟩;have li:i<=iz g:=by rw[<- lm];exact wB gk nd mok
   have lk:ks.length=i:=by rw[<- lm,<- Tp,ak]
   have s12:=s1.trans s2;rw[show iz g+1-i=(iz g-i)+1 by omega]at ev;have aeK:∀s4:NK,(ks.any λr=>decide (r.1=s4))=decide (s4∈met):=λs4=>by
    rw[<- Tp]
    by_cases z:s4∈ks.map (·.1)
    ·obtain⟨r,hr,e⟩:=bM.mp z;rw[aK z];exact any_eq_true.mpr ⟨r,hr,aK e⟩
    ·rw[aD z];exact any_eq_false.mpr λr hr e=>z (bM.mpr ⟨r,hr,of_decide_eq_true e⟩)
   cases k with
   |bad n=>exact rb.elim
   |none n=>exact rb.elim
   |dry n nm =>
    have rb':H2 tb=some (.tup [.bl false,.int (n:Nat),.str nm]):=rb;rw[Xv]at ev;rw[<- ev]at post;refine⟨_,rfl,tb,_,0,.bl false,rfl,rfl,dY.of rb',rfl,false,rfl,cU (cU ?_)⟩;refine⟨_,rfl,tb,_,0,.bl false,rfl,rfl,dY.of rb',rfl,false,rfl,dB ?_⟩;exact⟨_,rfl,post H2 tb s12 rb'⟩
   |kept d ds =>
    obtain⟨u,hb,nv⟩:=id rb;have vJ:=kok d ds rfl;refine⟨_,rfl,tb,_,0,.bl true,rfl,rfl,dY.of hb,rfl,true,rfl,dB ?_⟩;refine⟨_,rfl,tb,_,1,.ref u,rfl,rfl,dY.of hb,rfl,_,rfl,lS,ks,u,(d,ds),rfl,rfl,hS,kn,nv,_,rfl,?_⟩;rw[aeK]
    by_cases z:(d,ds)∈met
    ·rw[aK z];rw[Hy (s:=(d,ds)) z]at ev;rw[<- ev]at post;have lj:met.idxOf (d,ds)<met.length:=idxOf_lt_length_of_mem z;have hj:met[met.idxOf (d,ds)]?=some (d,ds):=by rw[aA lj,List.getElem_idxOf]
     have hj':=hj;rw[<- Tp,aJ]at hj';obtain⟨r,hr',er⟩:=bh.mp hj';rw[Tp]at hr';have evr:=kv _ r hr';refine cU ⟨_,rfl,tb,_,0,.bl true,rfl,rfl,dY.of hb,rfl,true,rfl,cU ?_⟩;refine⟨_,rfl,lS,ks,rfl,hS,kn,by omega,_,rfl,_,rfl,tb,_,1,.ref u,rfl,rfl,dY.of hb,rfl,lS,ks,u,(d,ds),_,r,rfl,rfl,hS,kn,nv,hr',er,?_⟩;rw[evr];refine⟨_,_,rfl,rfl,by show 2<=sizeLine;decide,λtt htt=>?_⟩;have vt:=aV (o:=.tup [.bl true,.int ((ks.length:Int)-((met.idxOf (d,ds):Nat):Int))]) htt;refine post _ tt (s12.trans vt) ?_;rw[show((met.length-met.idxOf (d,ds):Nat):Int)=(ks.length:Int)-((met.idxOf (d,ds):Nat):Int) by omega];exact aF
    ·rw[aD z];rw[acw (s:=(d,ds)) z]at ev;have nd':(met++[(d,ds)]).Nodup:=nodup_append.mpr ⟨nd,by simp,λb hb b' hb' e=>by
      rw[aH]at hb';rw[e,hb']at hb;exact z hb⟩
     have Hx:∀s∈met++[(d,ds)],jf g.week g.pots s.1 s.2:=λs hs=>by
      rcases bQ.mp hs with h|h
      ·exact mok s h
      ·rw[aH.mp h];exact vJ
     have li':=wB gk nd' Hx;have lm':(met++[(d,ds)]).length=i+1:=by rw[aY,lm];rfl
     rw[lm']at li';have nSt:∀xs,HO.tup xs≠fW P w lS ks:=λ_ y=>by cases y
     have kv':∀(k:Nat) r,(ks++[((d,ds),u,V.int (ks.length:Int))])[k]?=some r->r.2.2=.int (k:Int):=λk r hk=>by
      by_cases lt:k<ks.length
      ·rw[List.getElem?_append_left lt]at hk;exact kv k r hk
      ·rw[List.getElem?_append_right (by omega)]at hk;obtain⟨e1,e2⟩:=aM.mp hk;have ek:k=ks.length:=by simp at e1;omega
       subst ek;simp at e2;rw[<- e2]
     have Xu:(ks++[((d,ds),u,V.int (ks.length:Int))]).map (·.1)=met++[(d,ds)]:=by rw[aX,Tp];rfl
     refine dB ⟨λσ' H'=>∃m',m'<iz g+1-i/\∃i',m'=iz g+1-i'/\KI P w H1 x lS (.ref lp) (.ref rp) g lead rows k0 i' σ' H',λ_ _ h=>h,?_⟩;refine⟨_,rfl,lS,ks,rfl,hS,kn,by omega,_,rfl,_,rfl,tb,_,1,.ref u,rfl,rfl,dY.of hb,rfl,lS,ks,u,(d,ds),rfl,rfl,hS,kn,nv,(λr hr e=>z (by rw[<- Tp];exact bM.mpr ⟨r,hr,e⟩)),by omega,?_⟩;have s3:Same H1 (L2.upd H2 lS (fW P w lS (ks++[((d,ds),u,V.int (ks.length:Int))]))):=ji s2 hlS;have hb3:L2.upd H2 lS (fW P w lS (ks++[((d,ds),u,V.int (ks.length:Int))])) tb=some (.tup [.bl true,.ref u]):=by rw[bf (j9 hb hS (nSt _))];exact hb
     have nv3:=eU.upd (o':=fW P w lS (ks++[((d,ds),u,V.int (ks.length:Int))])) nv hS nSt;have hS3:L2.upd H2 lS (fW P w lS (ks++[((d,ds),u,V.int (ks.length:Int))])) lS=some (fW P w lS (ks++[((d,ds),u,V.int (ks.length:Int))])):=aF;have kn3:∀r∈ks++[((d,ds),u,V.int (ks.length:Int))],eU (L2.upd H2 lS (fW P w lS (ks++[((d,ds),u,V.int (ks.length:Int))]))) r.1 r.2.1:=λr hr=>by
      rcases bQ.mp hr with h|h
      ·exact eU.upd (kn r h) hS nSt
      ·rw[aH.mp h];exact nv3
     generalize ks++[((d,ds),u,V.int (ks.length:Int))]=ks' at kv' Xu s3 hb3 nv3 hS3 kn3⊢;generalize L2.upd H2 lS (fW P w lS ks')=H3 at s3 hb3 nv3 hS3 kn3⊢;have XF:=s1.trans s3;have bnd:lead.length+i*rows.length<2^61:=by
      have:=Nat.mul_le_mul (show i<=20000 by omega) lr;omega
     refine⟨_,rfl,_,rfl,_,rfl,tb,_,1,.ref u,rfl,rfl,dY.of hb3,rfl,_,rfl,x,g,.ref rp,rows,.ref u,true,lead.length+i*rows.length,rfl,gx.same XF,fit,rr.same XF,lr,lrr,bnd,(vg nv3).arg vJ,(λy=>nomatch y),λ_ d' ds' sv _=>?_⟩;obtain⟨rfl,rfl⟩:=sv.one (vg nv3);refine Oo (λH4 tc s4 rc=>?_) (λn e=>?_) (λn e=>?_)
     ·refine⟨_,rfl,_,rfl,rp,_,rfl,.inl (cD.of (s4 _ _ (s3 _ _ hrp))),_,_,rfl,rfl,?_⟩;refine⟨iz g+1-(i+1),by omega,i+1,rfl,tc,_,ks',_,?_,s3.trans s4,s4 _ _ hS3,Xu,(λr hr=>(kn3 r hr).same s4),kv',nd',Hx,lm',rc,λd2 ds2 e2=>vo gk vJ e2,?_⟩
      ·have e:(((lead.length+i*rows.length:Nat):Int)+((rs.map V.ref).length:Int))=((lead.length+(i+1)*rows.length:Nat):Int):=by
        rw[ak,lrs,Nat.succ_mul];omega
       rw[<- e];rfl
      ·rw[show iz g+1-(i+1)=iz g-i by omega,Nat.succ_mul,<- Nat.add_assoc];exact ev
     ·rw[show iT g rows (lead.length+i*rows.length) (d',ds').1 (d',ds').2=.bad n from e,Xw]at ev;rw[<- ev]at post;exact λH4 dx s4 hd=>post H4 dx (XF.trans s4) hd
     ·rw[show iT g rows (lead.length+i*rows.length) (d',ds').1 (d',ds').2=.none n from e,Om]at ev;rw[<- ev]at post;exact λH4 s4=>post H4 (XF.trans s4)
abbrev vq:dI:=top 63
theorem zM(x:ExcAt H e C fs)(s:Same H H'):ExcAt H' e C fs:=by
 obtain⟨dx,h1,h2⟩:=x;exact⟨dx,s _ _ h1,s _ _ h2⟩
theorem tQ(x:wQ H e C)(s:Same H H'):wQ H' e C:=by
 rcases x with h|⟨fs,h⟩
 ·exact .inl (s _ _ h)
 ·exact .inr ⟨fs,zM h s⟩
inductive HS(K:Fg)(a:gB)(vs:List V)(H:Hp)(Q:VK)(jU:XK):Prop
 |mk:∀e C j,vs=[.ref e]->wQ H e C->XC K a C j->(∀H' l,Same H H'->H' l=some (.lst (hot j))->Q (.ref l) H')->HS K a vs H Q jU
theorem RD(F:mH K "_law_sorts" "_law_sorts" DW f fd)(N:Kf mg a):yL P w K mg base (fY P w) 1 f fd ["_law_error"] (HS K a):=by
 refine F.okH Nx (λvs H Q E h=>?_) (λcdv A outer s H vs Q E hr h=>?_)
 ·obtain⟨e,C,j,rfl,_⟩:=h;rfl
 ·obtain⟨e,C,j,rfl,he,x,q⟩:=h;refine⟨_,aL (bL (i:=1) Nx.nd rfl (Or.inl rfl) (gH (ao (eO (jZ K) N.is boot_isinstance (ao (pv 0) (ao (oH (.ref a.fj) N.n0 rfl) aG))) (ao (eO (jZ K) N.is boot_isinstance (ao (pv 0) (ao (oH (.ref a.tooMany) N.n1 rfl) aG))) (ao (eO (jZ K) N.is boot_isinstance (ao (pv 0) (ao (oH (.ref a.gA) N.n2 rfl) aG))) aG))))) (aU (bU (cg sX (pv 1) (gH (ao (eO (jZ K) N.is boot_isinstance (ao (pv 0) (ao (oH (.ref a.dz) N.n3 rfl) aG))) (ao (eO (jZ K) N.is boot_isinstance (ao (pv 0) (ao (oH (.ref a.pK) N.n4 rfl) aG))) (ao (eO (jZ K) N.is boot_isinstance (ao (pv 0) (ao (oH (.ref a.dX) N.n5 rfl) aG))) aG))))))),?_⟩;refine⟨_,rfl,e,C,_,_,_,rfl,rfl,⟨_,.inl rfl⟩,he,x.t,x.b0,_,rfl,e,C,_,_,_,rfl,rfl,⟨_,.inl rfl⟩,he,x.t,x.b1,_,rfl,e,C,_,_,_,rfl,rfl,⟨_,.inl rfl⟩,he,x.t,x.b2,by show 3<=sizeLine;decide,λl1 h1=>?_⟩;have s1:=aV (o:=.lst [V.bl (0 == j),.bl (1 == j),.bl (2 == j)]) h1;have he1:=tQ he s1;refine⟨_,rfl,_,rfl,e,C,_,_,_,rfl,rfl,⟨_,.inl rfl⟩,he1,x.t,x.b3,_,rfl,e,C,_,_,_,rfl,rfl,⟨_,.inl rfl⟩,he1,x.t,x.b4,_,rfl,e,C,_,_,_,rfl,rfl,⟨_,.inl rfl⟩,he1,x.t,x.b5,by show 3<=sizeLine;decide,λl2 h2=>?_⟩;have s2:=aV (o:=.lst [V.bl (3 == j),.bl (4 == j),.bl (5 == j)]) h2;refine⟨l1,l2,_,_,rfl,rfl,s2 _ _ aF,aF,by show 6<=sizeLine;decide,λl3 h3=>?_⟩;exact q _ l3 ((s1.trans s2).trans (aV h3)) aF
structure aeP(K:Fg)(mg:Str->Option aC)(a:gB):Prop where
 N:Kf mg a
 x2:XC K a a.gA 2
 x3:XC K a a.dz 3
 x5:XC K a a.dX 5
 dh:hasDictIn K a.dz=true
 dn:findIn K (.ref a.dz) "day"=some none
 so:∃f fd,Fn K "_law_sorts" "_law_sorts" DW ["_law_error"] f fd/\mg "_law_sorts"=some (.ref f)
 rf:∃f fd,Fn K "_law_refusal" "_law_refusal" vq ["_law_error"] f fd/\mg "_law_refusal"=some (.ref f)
inductive Rfs(a:gB)(H:Hp)(e:aB):Str->Int->Prop
 |bad {n:Int}:ExcAt H e a.dz [("day",.int n)]->Rfs a H e "bad" n
 |none:H e=some (Df e (.ref a.gA) none)->Rfs a H e "none" (-1)
inductive wC(a:gB)(vs:List V)(H:Hp)(Q:VK)(jU:XK):Prop
 |mk:∀e z n,vs=[.ref e]->Rfs a H e z n->(∀H' t,Same H H'->H' t=some (.tup [.str z,.int n])->Q (.ref t) H')->wC a vs H Q jU
theorem RG:bY ["_law_error"] ["_law_error"] (aZ vq):=d9 (by decide +kernel)
theorem Oq(h:j<6):(hot j).countP (λz=>sW z (.bl true))=1:=by
 have:j=0\/j=1\/j=2\/j=3\/j=4\/j=5:=by omega
 rcases this with rfl|rfl|rfl|rfl|rfl|rfl<;>decide
theorem KD(F:mH K "_law_refusal" "_law_refusal" vq f fd)(Z:aeP K mg a):yL P w K mg base (fY P w) 2 f fd ["_law_error"] (wC a):=by
 refine F.okH RG (λvs H Q E h=>?_) (λcdv A outer s H vs Q E hr h=>?_)
 ·obtain⟨e,z,n,rfl,_⟩:=h;rfl
 ·obtain⟨e,z,n,rfl,rf,q⟩:=h;have N:=Z.N;obtain⟨fs,ds,sF,mS⟩:=Z.so;refine⟨_,aL (dZ (pw_or (cu Fw (mL PySem.F.plainAttrs_list PySem.F.slot_list_count PySem.F.type_list_count UG (Gh (RD sF.F N) hr (by rfl) mS sF.F.kp sF.b .nil bB (ao (pv 0) aG)) (ao jW aG)) aP (cN _)) (pw_or1 (gh (eX (eO (jZ K) N.is boot_isinstance (ao (pv 0) (ao (MK (T:="ValueError") (by rfl) N.ve (by decide +kernel)) aG))))))).pt (aU (bU jR)) bZ) (aL (dZ (eX (eO (jZ K) N.is boot_isinstance (ao (pv 0) (ao (oH (.ref a.dz) N.n3 rfl) aG)))) (aU (bU (d8 (ao eY (ao (aad K (pv 0)) aG))))) bZ) (aU (bU (nH (eX (eO (jZ K) N.is boot_isinstance (ao (pv 0) (ao (oH (.ref a.gA) N.n2 rfl) aG)))) (d8 (ao eY (ao (Fv yx aP) aG))) jR)))),?_⟩;cases rf with
  |bad he =>
   have hx:wQ H e a.dz:=.inr ⟨_,he⟩;refine⟨_,rfl,e,_,3,rfl,hx,Z.x3,λH1 l s1 hl=>?_⟩;have hx1:=tQ hx s1;have he1:=zM he s1;refine⟨.inl ⟨rfl,_,cD.of hl⟩,l,_,_,rfl,rfl,hl,rfl,(show(hot 3).all iR=true from rfl),rfl,_,rfl,?_⟩;rw[Oq (by decide)];refine cU ⟨_,rfl,e,_,.ty "ValueError",_,_,rfl,rfl,⟨e,.inr ⟨_,rfl⟩⟩,hx1,Z.x3.t,Z.x3.v,_,rfl,?_⟩;refine cU ⟨_,rfl,e,_,_,_,_,rfl,rfl,⟨_,.inl rfl⟩,hx1,Z.x3.t,Z.x3.b3,_,rfl,dB ?_⟩;refine⟨_,rfl,e,_,_,_,rfl,he1,Z.x3.t,Z.dh,Z.dn,rfl,by show 2<=sizeLine;decide,λt ht=>q _ t (s1.trans (aV ht)) aF⟩
  |none he =>
   have hx:wQ H e a.gA:=.inl he;refine⟨_,rfl,e,_,2,rfl,hx,Z.x2,λH1 l s1 hl=>?_⟩;have hx1:=tQ hx s1;refine⟨.inl ⟨rfl,_,cD.of hl⟩,l,_,_,rfl,rfl,hl,rfl,(show(hot 2).all iR=true from rfl),rfl,_,rfl,?_⟩;rw[Oq (by decide)];refine cU ⟨_,rfl,e,_,.ty "ValueError",_,_,rfl,rfl,⟨e,.inr ⟨_,rfl⟩⟩,hx1,Z.x2.t,Z.x2.v,_,rfl,?_⟩;refine cU ⟨_,rfl,e,_,_,_,_,rfl,rfl,⟨_,.inl rfl⟩,hx1,Z.x2.t,Z.x2.b3,_,rfl,cU ?_⟩;refine⟨_,rfl,e,_,_,_,_,rfl,rfl,⟨_,.inl rfl⟩,hx1,Z.x2.t,Z.x2.b2,_,rfl,dB ?_⟩;exact⟨_,rfl,by show 2<=sizeLine;decide,λt ht=>q _ t (s1.trans (aV ht)) aF⟩
abbrev Ot:dI:=top 52
abbrev Ou:dI:=top 53
inductive zN(K:Fg)(vs:List V)(H:Hp)(Q:VK)(jU:XK):Prop
 |mk:∀(s:aB)(ns:List Int)(k:Nat),vs=[.ref s,.int k]->cD K H s (ns.map V.int)->Q (.int (ns.getD k 0)) H->zN K vs H Q jU
theorem aeQ:bY ["_law_script","_law_k"] ["_law_script","_law_k"] (aZ Ot):=d9 (by decide +kernel)
theorem Ep(F:mH K "_law_cell_at" "_law_cell_at" Ot f fd)(B:Tj mg):cM P w K mg base (fY P w) 1 f fd ["_law_script","_law_k"] (zN K):=by
 refine F.lY aeQ (λvs H Q E h=>?_) (λcdv A outer s H vs Q E hr h=>?_)
 ·obtain⟨x,ns,k,rfl,_⟩:=h;rfl
 ·obtain⟨x,ns,k,rfl,hs,q⟩:=h;refine⟨_,aL (dZ (cu Fx (pv 1) (eO bT B.len PySem.boot_len (ao (pv 0) aG)) (cN _)) (aU (bU (cH iW (pv 0) (pv 1) (λ_ _=>rfl)))) bZ) (aU (bU aP)),?_⟩;refine⟨_,rfl,_,rfl,x,_,rfl,.inl hs,_,_,rfl,rfl,_,rfl,?_⟩
  by_cases lt:k<ns.length
  ·rw[aK (by rw[ak];omega)];have e:(ns.map V.int)[k]?=some (.int (ns.getD k 0)):=by simp[lt]
   exact dB ⟨_,rfl,_,rfl,x,_,_,_,rfl,rfl,hs,gU e,q⟩
  ·rw[aD (by rw[ak];omega)];have e:ns.getD k 0=0:=by simp[getD,List.getElem?_eq_none (by omega:ns.length<=k)]
   rw[e]at q;exact cU q
def Er:List Int:=[1000003,1000033,1000037,1000039,1000081,1000099,1000117,1000121]
def yq(k:Int):Int:=Er.getD (k % 8).toNat 1
def pQ(c k m:Int):Int:=(c*48271+k*69621+c / 1000003 % 1000003*40692) % yq k % m
theorem Es(c k:Int)(h:0<m):0<=pQ c k m:=Int.emod_nonneg _ (by omega)
theorem Et(c k:Int)(h:0<m):pQ c k m<m:=Int.emod_lt_of_pos _ h
theorem XH(k:Int):Uc (Er.map V.int) (k % 8)=some (.int (yq k))/\0<yq k:=by
 have h0:0<=k % 8:=Int.emod_nonneg _ (by decide);have h1:k % 8<8:=Int.emod_lt_of_pos _ (by decide);unfold yq;have h:k % 8=0\/k % 8=1\/k % 8=2\/k % 8=3\/k % 8=4\/k % 8=5\/k % 8=6\/k % 8=7:=by omega
 rcases h with e|e|e|e|e|e|e|e<;>rw[e]<;>exact⟨rfl,by decide⟩
inductive Eu(vs:List V)(H:Hp)(Q:VK)(jU:XK):Prop
 |mk:∀c k m:Int,vs=[.int c,.int k,.int m]->0<m->(∀H',Same H H'->Q (.int (pQ c k m)) H')->Eu vs H Q jU
theorem KJ:bY ["_law_cell","_law_k","_law_many","_law_primes","_law_blend"] ["_law_cell","_law_k","_law_many"] (aZ Ou):=d9 (by decide +kernel)
theorem Ov(F:mH K "_law_draw" "_law_draw" Ou f fd):cM P w K mg base (fY P w) 1 f fd ["_law_cell","_law_k","_law_many"] Eu:=by
 refine F.lY KJ (λvs H Q E h=>?_) (λcdv A outer s H vs Q E hr h=>?_)
 ·obtain⟨c,k,m,rfl,_⟩:=h;rfl
 ·obtain⟨c,k,m,rfl,m0,q⟩:=h;refine⟨_,aL (bL (i:=3) KJ.nd rfl (Or.inl rfl) (d8 (uq [.int 1000003,.int 1000033,.int 1000037,.int 1000039,.int 1000081,.int 1000099,.int 1000117,.int 1000121] rfl))) (aL (bL (i:=4) KJ.nd rfl (Or.inl rfl) (cg gw (cg gw (cg rW (pv 0) aP) (cg rW (pv 1) aP)) (cg rW (cg gO (cg jK (pv 0) aP) aP) aP))) (aU (bU (cg gO (cg gO (pv 4) (cH cQ (pv 3) (cg gO (pv 1) aP) (λ_ _=>rfl))) (pv 2))))),?_⟩;refine⟨by show 8<=sizeLine;decide,λt ht=>?_⟩;have st:=aV (o:=.tup (Er.map V.int)) ht;refine⟨_,rfl,_,_,rfl,rfl,.inr ⟨by decide,by decide⟩,_,rfl,_,_,rfl,rfl,.inr ⟨by decide,by decide⟩,_,_,rfl,rfl,_,rfl,_,_,rfl,rfl,⟨by decide,by decide⟩,_,_,rfl,rfl,(by show(0:Int)<1000003;decide),_,_,rfl,rfl,.inr ⟨by decide,by decide⟩,_,_,rfl,rfl,?_⟩;obtain⟨pa,p0⟩:=XH k;refine⟨_,rfl,_,rfl,_,rfl,_,_,rfl,rfl,(by show(0:Int)<8;decide),t,_,_,_,rfl,rfl,dY.of aF,pa,_,_,rfl,rfl,p0,_,rfl,_,_,rfl,rfl,m0,?_⟩;exact q _ st
abbrev rO:dI:=top 54
structure jr where
 pots:List (Str×Int×Int)
 cans:Int
 week:Int
 closed:Int
abbrev KN:Rep (Str×Int×Int):=MP xG oM oM
theorem jt:wN KN:=Gz lQ iY iY
inductive j8(H:Hp)(v:V)(sp:jr):Prop
 |mk:∀t l,v=.ref t->H t=some (.tup [.ref l,.int sp.cans,.int sp.week,.int sp.closed])->jD KN H (.ref l) sp.pots->j8 H v sp
theorem j8.same(h:j8 H v sp)(s:Same H H'):j8 H' v sp:=by
 obtain⟨t,l,e,ht,r⟩:=h;exact⟨t,l,e,s _ _ ht,r.same jt s⟩
def acy(s:Str):Bool:=s.cps.toList.getLast? == some 113
structure HW(q:Str×Int×Int):Prop where
 nm:nameV (.str q.1)=true
 g1:1<=q.2.1
 g2:q.2.1<=9
 r1:-1<=q.2.2
 r2:q.2.2<q.2.1
 nq:acy q.1=false
def qN(q:Str×Int×Int):cA:=⟨q.1,q.2.1,if q.2.2<0 then none else some q.2.2⟩
def d7(qs:List (Str×Int×Int)):List cA:=qs.map qN
structure iG(sp:jr):Prop where
 n1:1<=sp.pots.length
 n8:sp.pots.length<=8
 nd:(sp.pots.map λq=>q.1).Nodup
 row:∀q∈sp.pots,HW q
 c1:0<=sp.cans
 c2:sp.cans<=8
 w1:1<=sp.week
 w2:sp.week<=14
 l1:0<=sp.closed
 l2:sp.closed<2^sp.week.toNat
 sz:sizeOf sp.week (d7 sp.pots)<=4000
structure RJ(K:Fg)(mg:Str->Option aC):Prop where
 B:Tj mg
 ce:∃f fd,Fn K "_law_cell_at" "_law_cell_at" Ot ["_law_script","_law_k"] f fd/\mg "_law_cell_at"=some (.ref f)
 dr:∃f fd,Fn K "_law_draw" "_law_draw" Ou ["_law_cell","_law_k","_law_many"] f fd/\mg "_law_draw"=some (.ref f)
theorem size_le(hm:0<=m):∀(ps:List cA)(wk:Int),0<=wk->(∀p∈ps,0<=p.gap/\p.gap<=m)->0<=sizeOf wk ps/\sizeOf wk ps<=wk*m^ps.length
 |[],wk,h0,_=>by
  show 0<=wk/\wk<=wk*m^0
  rw[Int.pow_zero,Int.mul_one];exact⟨h0,fG _⟩
 |p::ps,wk,h0,h=>by
  obtain⟨g0,g1⟩:=h p (by simp);have h1:0<=wk*p.gap:=Int.mul_nonneg h0 g0;obtain⟨i1,i2⟩:=size_le hm ps (wk*p.gap) h1 λq hq=>h q (by simp[hq])
  refine⟨i1,Int.le_trans i2 ?_⟩;rw[length_cons,Int.pow_succ,Int.mul_comm (m^ps.length) m,<- Int.mul_assoc];have p0:0<=m^ps.length:=Int.pow_nonneg hm;exact Int.mul_le_mul_of_nonneg_right (Int.mul_le_mul_of_nonneg_left g1 h0) p0
theorem XJ{m:Int}(hm:1<=m):∀{i n:Nat},i<=n->m^i<=m^n
 |i,0,h=>by
  have:i=0:=by omega
  rw[this];exact fG _
 |i,n+1,h=>by
  by_cases e:i=n+1
  ·rw[e];exact fG _
  ·have ih:=XJ hm (i:=i) (n:=n) (by omega);have p0:0<=m^n:=Int.pow_nonneg (by omega);rw[Int.pow_succ];have:=Int.mul_le_mul_of_nonneg_left hm p0;omega
theorem Ow(hm:1<=m)(w1:1<=wk)(w2:wk<=14)(hl:qs.length<=n)(h:∀q∈qs,HW q/\q.2.1<=m)(hb:14*m^n<=4000):sizeOf wk (d7 qs)<=4000:=by
 have h1:=(size_le (m:=m) (by omega) (d7 qs) wk (by omega) λp hp=>by
  obtain⟨q,hq,rfl⟩:=bM.mp hp;have:=(h q hq).1.g1;exact⟨by show 0<=q.2.1;omega,(h q hq).2⟩).2
 rw[d7,ak]at h1;have p1:m^qs.length<=m^n:=XJ (by omega) hl;have p2:0<=m^qs.length:=Int.pow_nonneg (by omega);have h2:wk*m^qs.length<=14*m^n:=Int.le_trans (Int.mul_le_mul_of_nonneg_right w2 p2) (Int.mul_le_mul_of_nonneg_left p1 (by decide))
 show sizeOf wk (qs.map qN)<=4000
 omega
def Tq(j:Int):Str:=([("ivy":Str),"iv","fern","fernz","a"]).getD j.toNat "a"
theorem ahT(z:Int):z % 5=0\/z % 5=1\/z % 5=2\/z % 5=3\/z % 5=4:=by omega
theorem aeR(z:Int):Uc [V.str "ivy",.str "iv",.str "fern",.str "fernz",.str "a"] (z % 5)=some (.str (Tq (z % 5)))/\nameV (.str (Tq (z % 5)))=true/\acy (Tq (z % 5))=false:=by
 rcases ahT z with e|e|e|e|e<;>rw[e]<;>exact⟨rfl,by decide +kernel,by decide +kernel⟩
theorem aeS(z:Int)(h:n<=3):((List.range n).map λk:Nat=>Tq ((z+k) % 5)).Nodup:=by
 have e:(λk:Nat=>Tq ((z+k) % 5))=λk:Nat=>Tq ((z % 5+k) % 5):=by
  funext k
  congr 1
  omega
 rw[e];have hn:n=0\/n=1\/n=2\/n=3:=by omega
 rcases ahT z with e|e|e|e|e<;>rw[e]<;>rcases hn with rfl|rfl|rfl|rfl<;>decide +kernel
theorem aa6(z:Int):∃c,Uc [V.int 1,.int 2,.int 1,.int 0,.int 3,.int 1] (z % 6)=some (.int c)/\0<=c/\c<=8:=by
 have h:z % 6=0\/z % 6=1\/z % 6=2\/z % 6=3\/z % 6=4\/z % 6=5:=by omega
 rcases h with e|e|e|e|e|e<;>rw[e]<;>exact⟨_,rfl,by decide,by decide⟩
abbrev XM:List Str:=["_law_script","_law_first","_law_cell","_law_other","_law_third","_law_count","_law_most","_law_names","_law_pots","_law_k","_law_gap","_law_rest","_law_week","_law_closed"]
inductive KQ(K:Fg)(vs:List V)(H:Hp)(Q:VK)(jU:XK):Prop
 |mk:∀(s:aB)(ns:List Int)(k:Nat),vs=[.ref s,.int k]->cD K H s (ns.map V.int)->(∀H' v sp,Same H H'->j8 H' v sp->iG sp->Q v H')->KQ K vs H Q jU
theorem je:bY XM ["_law_script","_law_first"] (aZ rO):=d9 (by decide +kernel)
theorem ahU(T:RJ K mg)(hr:eZ 1 (A.deeper (PyProof.Rows.envOfC "_law_spec" (aZ rO) s.heap.objs.size f cdv))) : ∃t,Ac (qd (fY P w) P w K mg base XM "_law_spec" (aZ rO) f cdv A outer s H₀ E) ((iV rO).drop 13) t/\∀(D:Ends)(H:Hp)(l:aB)(qs:List (Str×Int×Int))(third wk:Int)(s0 s1 s2 s3 s5 s6 s7 s9 Mu Um XF:Option V),jD KN H (.ref l) qs->1<=wk->wk<=14->(∀H' t c cl,Same H H'->j8 H' (.ref t) ⟨qs,c,wk,cl⟩->0<=c->c<=8->0<=cl->cl<2^wk.toNat->D.rt (.ref t) H') -> t D [s0,s1,s2,s3,some (.int third),s5,s6,s7,some (.ref l),s9,Mu,Um,some (.int wk),XF] H:=by
 refine⟨_,aL (bL (i:=13) je.nd rfl (Or.inl rfl) aP) (aL (dZ (cu iQ (cg gO (cg jK (pv 4) aP) aP) aP (cN _)) (aU (bL (i:=13) je.nd rfl (Or.inl rfl) (cg gO (cg jK (pv 4) aP) (cg Jq aP (pv 12))))) bZ) (aU (bU (d8 (ao (pv 8) (ao (cH cQ (d8 (uq [.int 1,.int 2,.int 1,.int 0,.int 3,.int 1] rfl)) (cg gO (cg jK (pv 4) aP) aP) (λ_ _=>rfl)) (ao (pv 12) (ao (pv 13) aG)))))))),?_⟩;intro D H l qs third wk s0 s1 s2 s3 s5 s6 s7 s9 Mu Um XF rl w1 w2 q;have p0:(0:Int)<2^wk.toNat:=Int.pow_pos (by decide);refine⟨_,rfl,_,_,rfl,rfl,⟨by decide,by decide⟩,_,_,rfl,rfl,(by show(0:Int)<3;decide),rfl,_,rfl,?_⟩;obtain⟨c,ca,c1,c2⟩:=aa6 (third / 5);have fin:∀cl:Int,0<=cl->cl<2^wk.toNat->∀t1:aB,H t1=none->∀t2:aB,(upd H t1 (.tup [V.int 1,.int 2,.int 1,.int 0,.int 3,.int 1])) t2=none->D.rt (.ref t2) (upd (upd H t1 (.tup [V.int 1,.int 2,.int 1,.int 0,.int 3,.int 1])) t2 (.tup [.ref l,.int c,.int wk,.int cl])):=by
  intro cl h0 h1 t1 h2 t2 h3;have v1:=aV (o:=.tup [V.int 1,.int 2,.int 1,.int 0,.int 3,.int 1]) h2;have v2:=aV (o:=.tup [V.ref l,.int c,.int wk,.int cl]) h3;exact q _ t2 c cl (v1.trans v2) ⟨t2,l,rfl,aF,rl.same jt (v1.trans v2)⟩ c1 c2 h0 h1
 refine Ga (λ_=>?_) (λ_=>?_)
 ·refine⟨_,rfl,_,_,rfl,rfl,⟨by decide,by decide⟩,_,rfl,_,_,rfl,rfl,⟨by omega,by omega,by decide⟩,_,_,rfl,rfl,(by show(0:Int)<1*2^wk.toNat;omega),?_⟩;refine⟨_,rfl,by show 6<=sizeLine;decide,λt1 h1=>⟨_,rfl,_,_,rfl,rfl,⟨by decide,by decide⟩,_,_,rfl,rfl,(by show(0:Int)<6;decide),t1,_,_,_,rfl,rfl,dY.of aF,ca,_,rfl,_,rfl,by show 4<=sizeLine;decide,λt2 h2=>?_⟩⟩;exact fin _ (Int.emod_nonneg _ (by omega)) (by have:=Int.emod_lt_of_pos (third / 216) (show(0:Int)<1*2^wk.toNat by omega);omega) t1 h1 t2 h2
 ·refine⟨_,rfl,by show 6<=sizeLine;decide,λt1 h1=>⟨_,rfl,_,_,rfl,rfl,⟨by decide,by decide⟩,_,_,rfl,rfl,(by show(0:Int)<6;decide),t1,_,_,_,rfl,rfl,dY.of aF,ca,_,rfl,_,rfl,by show 4<=sizeLine;decide,λt2 h2=>?_⟩⟩;exact fin 0 (by decide) p0 t1 h1 t2 h2
abbrev XQ:List V:=[V.str "ivy",.str "iv",.str "fern",.str "fernz",.str "a"]
theorem ahV(T:RJ K mg)(hr:eZ 1 (A.deeper (PyProof.Rows.envOfC "_law_spec" (aZ rO) s.heap.objs.size f cdv))) : ∃t,Ac (qd (fY P w) P w K mg base XM "_law_spec" (aZ rO) f cdv A outer s H₀ E) ((iV rO).drop 7) t/\∀(D:Ends)(H:Hp)(cell other third cnt most:Int)(s0 s1 s7 s8 s9 Mu Um s12 XF:Option V),1<=cnt->1<=most->((cnt<=3/\most<=3)\/(cnt<=1/\most<=9))->(∀H' v sp,Same H H'->j8 H' v sp->iG sp->D.rt v H') -> t D [s0,s1,some (.int cell),some (.int other),some (.int third),some (.int cnt),some (.int most),s7,s8,s9,Mu,Um,s12,XF] H:=by
 have B:=T.B;obtain⟨fd',dd,dF,mD⟩:=T.dr;have okd:cM P w K mg base (fY P w) 1 fd' dd ["_law_cell","_law_k","_law_many"] Eu:=Ov dF.F;have kD:=dF.F.kp;have bD:=dF.b;obtain⟨tc,hC,aa7⟩:=ahU (P:=P) (w:=w) (base:=base) (f:=f) (cdv:=cdv) (A:=A) (outer:=outer) (s:=s) (H₀:=H₀) (E:=E) T hr;refine⟨_,aL (bL (i:=7) je.nd rfl (Or.inl rfl) (d8 (uq XQ rfl))) (aL (bL (i:=8) je.nd rfl (Or.inl rfl) (gH aG)) (aL (ju fM rfl (jz rfl B.range (ao (pv 5) aG)) (cR 9 je.nd) (aL (bL (i:=10) je.nd rfl (Or.inl rfl) (cg gw aP (c7 okd hr mD kD bD bB (ao (pv 3) (ao (pv 9) (ao (pv 6) aG)))))) (aL (bL (i:=11) je.nd rfl (Or.inl rfl) (Fv yx aP)) (aL (dZ (cu iQ (c7 okd hr mD kD bD bB (ao (pv 3) (ao (cg gw (pv 9) aP) (uq [.int 4] rfl)))) aP (cN _)) (aU (bL (i:=11) je.nd rfl (Or.inl rfl) (c7 okd hr mD kD bD bB (ao (pv 3) (ao (cg gw (pv 9) aP) (ao (pv 10) aG)))))) bZ) (aU (gJ (mL PySem.F.plainAttrs_list PySem.F.slot_list_append PySem.F.type_list_append iu (pv 8) (ao (d8 (ao (cH cQ (pv 7) (cg gO (cg gw (cg jK (pv 2) aP) (pv 9)) aP) (λ_ _=>rfl)) (ao (pv 10) (ao (pv 11) aG)))) aG)))))))) (aL (bL (i:=12) je.nd rfl (Or.inl rfl) (cg gw aP (qD PJ B.int boot_int (ao (lO iQ (cg gO (pv 4) aP) aP (cN _)) aG)))) (aL (dZ (cu iQ (cg gO (cg jK (pv 4) aP) aP) aP (cN _)) (aU (bL (i:=12) je.nd rfl (Or.inl rfl) (cg gw aP (cg gO (cg jK (pv 4) aP) aP)))) bZ) (aL (dZ (cu iQ (cg gO (cg jK (pv 2) aP) aP) aP (cN _)) (aU (bL (i:=12) je.nd rfl (Or.inl rfl) (cg gw aP (cg gO (pv 4) aP)))) bZ) hC))))),?_⟩;intro D H cell other third cnt most s0 s1 s7 s8 s9 Mu Um s12 XF c1 m1 hcm q;refine⟨by show 5<=sizeLine;decide,λtn htn=>⟨by show 0<=sizeLine;decide,λl hl=>?_⟩⟩;have v1:=aV (o:=.tup XQ) htn;have v2:=aV (o:=.lst []) hl;refine⟨_,rfl,_,rfl,by omega,by omega,?_⟩;refine oV (lo:=0) (n:=cnt.toNat) (λi σ H'=>∃qs u9 u10 XR,σ=[s0,s1,some (.int cell),some (.int other),some (.int third),some (.int cnt),some (.int most),some (.ref tn),some (.ref l),u9,u10,XR,s12,XF]/\(qs.map λq=>q.1)=((List.range i).map λk:Nat=>Tq ((cell / 54+k) % 5))/\(∀q∈qs,HW q/\q.2.1<=most)/\jD KN H' (.ref l) qs/\Same (upd H tn (.tup XQ)) H') ⟨[],s9,Mu,Um,rfl,rfl,(λq hq=>by cases hq),⟨l,[],rfl,aF,.nil⟩,v2⟩ ?_ ?_
 ·rintro i σ H1 lt ⟨qs,u9,u10,XR,rfl,nms,rows,rl,s1'⟩;have e0:(0+(i:Int))=((i:Nat):Int):=Int.zero_add _;rw[e0];have ln:qs.length=i:=by
   have:=congrArg List.length nms
   rwa [ak,ak,bK]at this
  refine⟨_,rfl,_,rfl,_,rfl,_,_,_,rfl,by omega,λH2 s2=>⟨_,_,rfl,rfl,?_⟩⟩;have d0:=Es other (i:Int) (m:=most) (by omega);have d1:=Et other (i:Int) (m:=most) (by omega);generalize pQ other (i:Int) most=dr at d0 d1⊢;obtain⟨na,nn,nq⟩:=aeR (cell / 54+(i:Int));have big:1000<=sizeLine:=by decide
  have fin:∀(r:Int)(H3:Hp),Same H2 H3->-1<=r->r<1+dr->∃vs,H3 l=some (.lst vs)/\H3 tn=some (.tup XQ)/\vs.length<sizeLine/\∀t3:aB,H3 t3=none->∃qs',(qs'.map λq=>q.1)=((List.range (i+1)).map λk:Nat=>Tq ((cell / 54+k) % 5))/\(∀q∈qs',HW q/\q.2.1<=most)/\jD KN (upd (upd H3 t3 (.tup [V.str (Tq ((cell / 54+(i:Int)) % 5)),.int (1+dr),.int r])) l (.lst (vs++[V.ref t3]))) (.ref l) qs'/\Same (upd H tn (.tup XQ)) (upd (upd H3 t3 (.tup [V.str (Tq ((cell / 54+(i:Int)) % 5)),.int (1+dr),.int r])) l (.lst (vs++[V.ref t3]))):=by
   intro r H3 s3 r1 r2;obtain⟨_,vs,el,hv,Jg⟩:=rl.same jt (s2.trans s3);cases el;refine⟨vs,hv,(s1'.trans (s2.trans s3)) _ _ aF,by rw[Paired.length Jg,ln];omega,λt3 h3=>?_⟩;have v3:=aV (o:=.tup [V.str (Tq ((cell / 54+(i:Int)) % 5)),.int (1+dr),.int r]) h3;have hv3:=v3 _ _ hv;refine⟨qs++[(Tq ((cell / 54+(i:Int)) % 5),1+dr,r)],?_,λq hq=>?_,⟨l,_,rfl,aF,?_⟩,ji ((s1'.trans (s2.trans s3)).trans v3) hl⟩
   ·rw[aX,nms,dD,aX];rfl
   ·rcases bQ.mp hq with h|h
    ·exact rows q h
    ·rw[aH.mp h];exact⟨⟨nn,by show 1<=1+dr;omega,by show 1+dr<=9;omega,r1,r2,nq⟩,by show 1+dr<=most;omega⟩
   ·refine jV (Paired.iB Jg λ_ _ z=>jt.upd (jt.same z v3) hv3) (.cons ?_ .nil);exact jt.upd ⟨t3,_,_,_,rfl,aF,rfl,rfl,rfl⟩ hv3
  refine⟨_,rfl,_,rfl,_,rfl,_,_,rfl,rfl,_,_,_,rfl,by decide,λH3 s3=>⟨rfl,_,rfl,?_⟩⟩;refine Ga (λ_=>?_) (λ_=>?_)
  ·refine⟨_,rfl,_,rfl,_,_,rfl,rfl,_,rfl,_,_,_,rfl,by omega,λH4 s4=>?_⟩;have e1:=Es other ((i:Int)+5) (m:=1+dr) (by omega);have e2:=Et other ((i:Int)+5) (m:=1+dr) (by omega);generalize pQ other ((i:Int)+5) (1+dr)=r at e1 e2⊢;obtain⟨vs,hv,ht,lz,k⟩:=fin r H4 (s3.trans s4) (by omega) e2;refine⟨_,rfl,.inl ⟨rfl,_,cD.of hv⟩,_,rfl,_,rfl,_,_,rfl,rfl,⟨by decide,by decide⟩,_,rfl,_,_,rfl,rfl,_,_,rfl,rfl,(by show(0:Int)<5;decide),tn,_,_,_,rfl,rfl,dY.of ht,na,_,rfl,_,rfl,by show 3<=sizeLine;decide,λt3 h3=>?_⟩;obtain⟨qs',a1,a2,a3,a4⟩:=k t3 h3;exact⟨l,vs,_,rfl,rfl,(aV h3) _ _ hv,lz,qs',_,_,_,rfl,a1,a2,a3,a4⟩
  ·obtain⟨vs,hv,ht,lz,k⟩:=fin (-1) H3 s3 (by omega) (by omega);refine⟨_,rfl,.inl ⟨rfl,_,cD.of hv⟩,_,rfl,_,rfl,_,_,rfl,rfl,⟨by decide,by decide⟩,_,rfl,_,_,rfl,rfl,_,_,rfl,rfl,(by show(0:Int)<5;decide),tn,_,_,_,rfl,rfl,dY.of ht,na,_,rfl,_,rfl,by show 3<=sizeLine;decide,λt3 h3=>?_⟩;obtain⟨qs',a1,a2,a3,a4⟩:=k t3 h3;exact⟨l,vs,_,rfl,rfl,(aV h3) _ _ hv,lz,qs',_,_,_,rfl,a1,a2,a3,a4⟩
 ·rintro σ H1 ⟨qs,u9,u10,XR,rfl,nms,rows,rl,s1'⟩;have ln:qs.length=cnt.toNat:=by
   have:=congrArg List.length nms
   rwa [ak,ak,bK]at this
  have fin:∀wk:Int,1<=wk->wk<=14->∀H' t c cl,Same H1 H'->j8 H' (.ref t) ⟨qs,c,wk,cl⟩->0<=c->c<=8->0<=cl->cl<2^wk.toNat->D.rt (.ref t) H':=by
   intro wk w1 w2 H' t c cl s' r c0 c8 l0 l1;refine q H' _ _ ((v1.trans s1').trans s') r ⟨by show 1<=qs.length;omega,by show qs.length<=8;omega,?_,λz hz=>(rows z hz).1,c0,c8,w1,w2,l0,l1,?_⟩
   ·show(qs.map λq=>q.1).Nodup
    rw[nms];exact aeS _ (by omega)
   ·rcases hcm with ⟨x1,x2⟩|⟨x1,x2⟩
    ·exact Ow (m:=3) (n:=3) (by decide) w1 w2 (by show qs.length<=3;omega) (λz hz=>⟨(rows z hz).1,by have:=(rows z hz).2;omega⟩) (by decide)
    ·exact Ow (m:=9) (n:=1) (by decide) w1 w2 (by show qs.length<=1;omega) (λz hz=>⟨(rows z hz).1,by have:=(rows z hz).2;omega⟩) (by decide)
  refine⟨_,rfl,_,_,rfl,rfl,(by show(0:Int)<3;decide),rfl,.inr ⟨_,rfl,_,_,rfl,rfl,?_⟩⟩;have b0:∀b:Bool,1<=1+(if b then(1:Int) else 0)/\1+(if b then(1:Int) else 0)<=14:=λb=>by cases b<;>decide
  have b1:0<=third / 24 % 3:=Int.emod_nonneg _ (by decide);have b2:third / 24 % 3<3:=Int.emod_lt_of_pos _ (by decide);have b3:0<=third % 14:=Int.emod_nonneg _ (by decide);have b4:third % 14<14:=Int.emod_lt_of_pos _ (by decide);refine⟨_,rfl,_,_,rfl,rfl,⟨by decide,by decide⟩,_,_,rfl,rfl,(by show(0:Int)<8;decide),rfl,_,rfl,?_⟩;refine Ga (λ_=>⟨_,rfl,_,_,rfl,rfl,⟨by decide,by decide⟩,_,_,rfl,rfl,(by show(0:Int)<3;decide),_,_,rfl,rfl,_,rfl,_,_,rfl,rfl,⟨by decide,by decide⟩,_,_,rfl,rfl,(by show(0:Int)<6;decide),rfl,_,rfl,Ga (λ_=>⟨_,rfl,_,_,rfl,rfl,(by show(0:Int)<14;decide),_,_,rfl,rfl,?_⟩) (λ_=>?_)⟩) (λ_=>⟨_,rfl,_,_,rfl,rfl,⟨by decide,by decide⟩,_,_,rfl,rfl,(by show(0:Int)<6;decide),rfl,_,rfl,Ga (λ_=>⟨_,rfl,_,_,rfl,rfl,(by show(0:Int)<14;decide),_,_,rfl,rfl,?_⟩) (λ_=>?_)⟩)
  ·exact aa7 D H1 l qs third _ _ _ _ _ _ _ _ _ _ _ _ rl (by omega) (by omega) (fin _ (by omega) (by omega))
  ·exact aa7 D H1 l qs third _ _ _ _ _ _ _ _ _ _ _ _ rl (by omega) (by omega) (fin _ (by omega) (by omega))
  ·exact aa7 D H1 l qs third _ _ _ _ _ _ _ _ _ _ _ _ rl (by omega) (by omega) (fin _ (by omega) (by omega))
  ·exact aa7 D H1 l qs third _ _ _ _ _ _ _ _ _ _ _ _ rl (b0 _).1 (b0 _).2 (fin _ (b0 _).1 (b0 _).2)
abbrev vA:dI:=top 55
theorem aa8(F:mH K "_law_spec" "_law_spec" rO f fd)(T:RJ K mg):cM P w K mg base (fY P w) 2 f fd ["_law_script","_law_first"] (KQ K):=by
 refine F.lY je (λvs H Q E h=>?_) (λcdv A outer s H vs Q E hr h=>?_)
 ·obtain⟨s,ns,k,rfl,_⟩:=h;rfl
 ·obtain⟨sc,ns,k,rfl,hS,q⟩:=h;have B:=T.B;obtain⟨fc,dc,cF,mC⟩:=T.ce;have uN:cM P w K mg base (fY P w) 1 fc dc ["_law_script","_law_k"] (zN K):=Ep cF.F B;have kC:=cF.F.kp;have bC:=cF.b;obtain⟨tb,hB,Ew⟩:=ahV (P:=P) (w:=w) (base:=base) (f:=f) (cdv:=cdv) (A:=A) (outer:=outer) (s:=s) (H₀:=H) (E:=E) T hr;refine⟨_,aL (bL (i:=2) je.nd rfl (Or.inl rfl) (c7 uN hr mC kC bC bB (ao (pv 0) (ao (pv 1) aG)))) (aL (bL (i:=3) je.nd rfl (Or.inl rfl) (c7 uN hr mC kC bC bB (ao (pv 0) (ao (cg gw (pv 1) aP) aG)))) (aL (bL (i:=4) je.nd rfl (Or.inl rfl) (c7 uN hr mC kC bC bB (ao (pv 0) (ao (cg gw (pv 1) aP) aG)))) (aL (bL (i:=5) je.nd rfl (Or.inl rfl) (cg gw aP (cg gO (pv 2) aP))) (aL (bL (i:=6) je.nd rfl (Or.inl rfl) aP) (aL (dZ (pw_and (cu iQ (pv 5) aP (cN _)) (pw_and1 (cu Ba (cg gO (cg jK (pv 2) aP) aP) aP (cN _)))).pt (aU (bL (i:=6) je.nd rfl (Or.inl rfl) aP)) bZ) (aL (dZ (cu iQ (cg gO (cg jK (pv 2) aP) aP) aP (cN _)) (aL (bL (i:=5) je.nd rfl (Or.inl rfl) aP) (aU (bL (i:=6) je.nd rfl (Or.inl rfl) aP))) bZ) hB)))))),?_⟩;refine⟨_,rfl,_,rfl,sc,ns,k,rfl,hS,_,rfl,_,rfl,_,_,rfl,rfl,sc,ns,k+1,rfl,hS,_,rfl,_,rfl,_,_,rfl,rfl,sc,ns,k+2,rfl,hS,_,rfl,_,_,rfl,rfl,(by show(0:Int)<3;decide),_,_,rfl,rfl,_,rfl,rfl,_,rfl,?_⟩;generalize ns.getD k 0=cell;generalize ns.getD (k+1) 0=other;generalize ns.getD (k+2) 0=third;have c0:0<=cell % 3:=Int.emod_nonneg _ (by decide);have c1:cell % 3<3:=Int.emod_lt_of_pos _ (by decide);refine Ga (λ_=>⟨_,rfl,_,_,rfl,rfl,⟨by decide,by decide⟩,_,_,rfl,rfl,(by show(0:Int)<3;decide),_,_,rfl,rfl,_,rfl,Ga (λ_=>?_) (λ_=>?_)⟩) (λ_=>cU ?_)
  all_goals refine⟨_,rfl,_,_,rfl,rfl,⟨by decide,by decide⟩,_,_,rfl,rfl,(by show(0:Int)<6;decide),rfl,_,rfl,Ga (λ_=>?_) (λ_=>?_)⟩
  ·exact Ew _ H cell other third 1 9 _ _ _ _ _ _ _ _ _ (by decide) (by decide) (.inr ⟨by decide,by decide⟩) q
  ·exact Ew _ H cell other third _ 2 _ _ _ _ _ _ _ _ _ (by omega) (by decide) (.inl ⟨by omega,by decide⟩) q
  ·exact Ew _ H cell other third 1 9 _ _ _ _ _ _ _ _ _ (by decide) (by decide) (.inr ⟨by decide,by decide⟩) q
  ·exact Ew _ H cell other third _ 3 _ _ _ _ _ _ _ _ _ (by omega) (by decide) (.inl ⟨by omega,by decide⟩) q
  ·exact Ew _ H cell other third 1 9 _ _ _ _ _ _ _ _ _ (by decide) (by decide) (.inr ⟨by decide,by decide⟩) q
  ·exact Ew _ H cell other third _ 3 _ _ _ _ _ _ _ _ _ (by omega) (by decide) (.inl ⟨by omega,by decide⟩) q
def iU(sp:jr):iM:=⟨d7 sp.pots,sp.cans,sp.week,sp.closed⟩
theorem HX(h:HW q):(qN q).Ok:=by
 refine⟨h.nm,⟨h.g1,by have:=h.g2;show q.2.1<=60;omega⟩,λr hr=>?_⟩;unfold qN at hr;dsimp only at hr
 split at hr
 ·cases hr
 ·cases hr;exact⟨by omega,h.r2⟩
theorem iG.nu(h:iG sp):∀p∈(iU sp).pots,p.Ok:=by
 intro p hp;obtain⟨q,hq,rfl⟩:=bM.mp hp;exact HX (h.row q hq)
theorem gW(qs:List (Str×Int×Int)):(d7 qs).length=qs.length:=by rw[d7,ak]
theorem iG.out(h:iG sp):DR (some (d7 sp.pots)) (.int sp.cans) (.int sp.week) (.int sp.closed)=.ok:=by
 show zu _ _ _ _=_
 unfold zu;have n1:=h.n1;have n8:=h.n8;have w1:=h.w1;have w2:=h.w2;have c1:=h.c1;have c2:=h.c2;have l1:=h.l1;have l2:=h.l2;have c:wW (d7 sp.pots).length (.int sp.cans) (.int sp.week) (.int sp.closed)=true:=by
  unfold wW uR dU;rw[gW];simp[n1,n8,w1,w2,c1,c2,l1];omega
 have nd:((d7 sp.pots).map cA.nm).Nodup:=by
  have:(d7 sp.pots).map cA.nm=sp.pots.map λq=>q.1:=by rw[d7,gj];rfl
  rw[this];exact h.nd
 rw[if_neg (by rw[c];decide),if_neg (λz=>z nd)];have:sizeOf sp.week (d7 sp.pots)<=20000:=Int.le_trans h.sz (by decide);exact if_neg (by omega)
abbrev ahW:List Str:=["_law_spec_here","_law_pots","_law_name","_law_gap","_law_rest"]
inductive KR(a:gB)(vs:List V)(H:Hp)(Q:VK)(jU:XK):Prop
 |mk:∀v sp,vs=[v]->j8 H v sp->iG sp->(∀H' x,Same H H'->fZ a H' x (iU sp)->Q (.ref x) H')->KR a vs H Q jU
theorem zO:bY ahW ["_law_spec_here"] (aZ vA):=d9 (by decide +kernel)
theorem aa9(F:mH K "_law_garden" "_law_garden" vA f fd)(Z:DP K mg a dV):cM P w K mg base (fY P w) 9 f fd ["_law_spec_here"] (KR a):=by
 refine F.lY zO (λvs H Q E h=>?_) (λcdv A outer s H vs Q E hr h=>?_)
 ·obtain⟨v,sp,rfl,_⟩:=h;rfl
 ·obtain⟨v,sp,rfl,⟨t,l,rfl,ht,rl⟩,ok,q⟩:=h;have T:=Z.G.T;have B:=T.B;have hr3:eZ 3 _:=hr.mono (by decide);have hr4:eZ 4 _:=hr.mono (by decide);refine⟨_,aL (bL (i:=1) zO.nd rfl (Or.inl rfl) (gH aG)) (aL (ju fM rfl (fK (cH cQ (pv 0) aP (λ_ _=>rfl))) (nJ rfl (cj (cR 2 zO.nd) (cj (cR 3 zO.nd) (cj (cR 4 zO.nd) gK)))) (aU (dZ (cu Fx (pv 4) aP (cN _)) (aU (gJ (mL PySem.F.plainAttrs_list PySem.F.slot_list_append PySem.F.type_list_append iu (pv 1) (ao (yQ T.kP (tK T) hr3 T.aaw T.PI.b (dJ bN) (ao (pv 2) (ao (pv 3) aG))) aG)))) (aU (gJ (mL PySem.F.plainAttrs_list PySem.F.slot_list_append PySem.F.type_list_append iu (pv 1) (ao (yQ T.kC (zp T) hr4 T.ag4 T.CI.b (dJ bN) (ao (pv 2) (ao (pv 3) (ao (pv 4) aG)))) aG))))))) (aU (bU (yQ Z.kG (acd Z) hr Z.aha Z.b4 (dJ bN) (ao (pv 1) (ao (cH cQ (pv 0) aP (λ_ _=>rfl)) (ao (cH cQ (pv 0) aP (λ_ _=>rfl)) (ao (cH cQ (pv 0) aP (λ_ _=>rfl)) aG)))))))),?_⟩;refine⟨by show 0<=sizeLine;decide,λlp hlp=>?_⟩;have vp:=aV (o:=.lst []) hlp;obtain⟨_,vs,el,hv,Jg⟩:=id rl;cases el;have big:1000<=sizeLine:=by decide
  have n8:=ok.n8;refine⟨_,rfl,t,_,0,.ref l,rfl,rfl,dY.of (vp _ _ ht),rfl,l,rfl,⟨_,cD.of (vp _ _ hv)⟩,?_⟩;refine nQ (K:=K) (a:=l) (xs:=vs) (λi σ H'=>∃u2 u3 u4 bs,σ=[some (.ref t),some (.ref lp),u2,u3,u4]/\bs.length=i/\H' lp=some (.lst (bs.map V.ref))/\m7 a H' bs ((d7 sp.pots).take i)/\Same H H') ⟨none,none,none,[],rfl,rfl,aF,.nil,vp⟩ (λi σ H' _ ⟨_,_,_,_,_,_,_,_,s'⟩=>cD.of (s' _ _ hv)) ?_ ?_
  ·rintro i x σ H2 hi ⟨u2,u3,u4,bs,rfl,lb,hp2,pt2,s2⟩;obtain⟨c,hc,rc⟩:=dW Jg hi;have uN:=ok.row c (aQ hc);have li:i<sp.pots.length:=(aM.mp hc).1;have al2:(d7 sp.pots)[i]?=some (qN c):=by rw[d7,aJ,hc];rfl
   obtain⟨tc,y1,y2,y3,rfl,htc,r1,r2,r3⟩:=jt.same rc s2;cases r1;cases r2;cases r3;have lz:(bs.map V.ref).length<sizeLine:=by rw[ak];omega
   have Ke:=HX uN;have g1:=uN.g1;have g2:=uN.g2;have g3:c.2.1<=60:=by omega
   have hnm:=uN.nm;have a1:kj (.str c.1) (.int c.2.1)=true:=by simp[kj,hnm,dU,g1,g3]
   have fin:∀H3 y,H2 y=none->Same H2 H3->mQ a H3 y (qN c)->∃u2 u3 u4 bs',[some (V.ref t),some (V.ref lp),some (V.str c.1),some (V.int c.2.1),some (V.int c.2.2)]=[some (V.ref t),some (V.ref lp),u2,u3,u4]/\bs'.length=i+1/\(upd H3 lp (.lst (bs.map V.ref++[V.ref y]))) lp=some (.lst (bs'.map V.ref))/\m7 a (upd H3 lp (.lst (bs.map V.ref++[V.ref y]))) bs' ((d7 sp.pots).take (i+1))/\Same H (upd H3 lp (.lst (bs.map V.ref++[V.ref y]))):=by
    intro H3 y hy s3 py;have hp3:=s3 _ _ hp2;refine⟨_,_,_,bs++[y],rfl,by rw[aY,lb];rfl,by rw[aF,aX];rfl,?_,ji (s2.trans s3) hlp⟩;rw[take_snoc al2];exact Paired.snoc ((pt2.same s3).upd hp3) (mQ.upd py hp3)
   refine⟨tc,_,rfl,dY.of htc,rfl,_,_,rfl,_,_,rfl,_,_,rfl,rfl,?_⟩;refine⟨_,rfl,_,_,rfl,rfl,_,rfl,?_⟩
   by_cases neg:c.2.2<0
   ·rw[aK neg];refine dB ⟨_,rfl,.inl ⟨rfl,_,cD.of hp2⟩,_,rfl,_,rfl,pU ?_⟩;refine Wg (kn:=.str) (kg:=.int) ⟨_,rfl⟩ (pL hnm) ⟨_,rfl⟩ (λe=>absurd e ?_) (λ_ H3 y hy s3 py=>⟨lp,_,_,rfl,rfl,s3 _ _ hp2,lz,fin H3 y hy s3 ?_⟩)
    ·rw[a1];decide
    ·obtain⟨dy,hy'⟩:=py;refine⟨dy,?_⟩;rw[hy'];simp only[cA.cls,cA.fs,qN,if_pos neg]
   ·rw[aD neg];refine cU ⟨_,rfl,.inl ⟨rfl,_,cD.of hp2⟩,_,rfl,_,rfl,_,rfl,pU ?_⟩;refine Wh (kn:=.str) (kg:=.int) (kr:=.int) ⟨_,rfl⟩ (pL hnm) ⟨_,rfl⟩ ⟨_,rfl⟩ (λe=>absurd e ?_) (λ_ H3 y hy s3 py=>⟨lp,_,_,rfl,rfl,s3 _ _ hp2,lz,fin H3 y hy s3 ?_⟩)
    ·have r2:=uN.r2;have r0:0<=c.2.2:=by omega
     have r3:c.2.2<=c.2.1-1:=by omega
     have a2:restOk (.int c.2.1) (.int c.2.2)=true:=by simp[restOk,dU,r0,r3]
     rw[a1,a2]
     decide
    ·obtain⟨dy,hy'⟩:=py;refine⟨dy,?_⟩;rw[hy'];simp only[cA.cls,cA.fs,qN,if_neg neg]
  rintro σ H2 ⟨u2,u3,u4,bs,rfl,lb,hp2,pt2,s2⟩;have lv:vs.length=sp.pots.length:=Paired.length Jg;rw[lv,<- gW,cL]at pt2;have Ny:=s2 _ _ ht;refine⟨_,rfl,_,rfl,t,_,1,.int sp.cans,rfl,rfl,dY.of Ny,rfl,_,rfl,t,_,2,.int sp.week,rfl,rfl,dY.of Ny,rfl,_,rfl,t,_,3,.int sp.closed,rfl,rfl,dY.of Ny,rfl,?_⟩;exact Wv (kc:=.int) (kw:=.int) (kl:=.int) (zx.pots (as:=bs) (ps:=d7 sp.pots) ⟨lp,_,rfl,.inl hp2⟩ (cD.of hp2) (by omega) pt2 ok.nu) ⟨_,rfl⟩ ⟨_,rfl⟩ ⟨_,rfl⟩ (ace ok.out (λH4 x hx s4 gn=>q H4 x (s2.trans s4) (by obtain⟨d4,l4,a4,e1,e2,e3,_⟩:=gn;exact⟨d4,l4,a4,e1,e2,e3⟩)))
abbrev lV:dI:=top 56
def ahX(H:Hp)(r:V)(tm:Int):Bh Str->Prop
 | .no=>r=.non
 | .dry nm=>r=.str nm
 | .st far=>jc H r (tm,far)
abbrev cX(sp:jr):List Str:=sp.pots.map λq=>q.1
abbrev zP(jA:List Nat):List V:=jA.map λk=>V.int ((k:Nat):Int)
theorem XS(jA:List Nat):(zP jA).all iR=true:=by
 rw[all_eq_true];intro v hv;obtain⟨k,_,rfl⟩:=bM.mp hv;rfl
theorem X3(k:Nat):∀jA:List Nat,inV (.int (k:Int)) (zP jA)=decide (k∈jA)
 |[]=>rfl
 |j::jA=>by
  have ih:=X3 k jA;have e:inV (.int (k:Int)) (zP (j::jA))=(sW (.int (j:Int)) (.int (k:Int))||inV (.int (k:Int)) (zP jA)):=rfl;rw[e,ih]
  by_cases h:k=j
  ·subst h;have:sW (.int (k:Int)) (.int (k:Int))=true:=by simp[sW]
   simp[this]
  ·have:sW (.int (j:Int)) (.int (k:Int))=false:=by simp[sW];omega
   simp[this,h]
theorem X4(h:-1<=q.2.2):Cd (qN q)=q.2.2:=by
 unfold Cd qN;dsimp only
 by_cases z:q.2.2<0
 ·rw[if_pos z];show(-1:Int)=q.2.2;omega
 ·rw[if_neg z]
theorem abb{i:Nat}(hc:qs[i]?=some c)(hn:ds[i]?=some n)(h:-1<=c.2.2):(cpsOf (d7 qs) ds)[i]?=some ⟨n,c.2.1,c.2.2⟩:=by
 have hp:(d7 qs)[i]?=some (qN c):=by rw[d7,aJ,hc];rfl
 rw[qJ hp hn,uV,X4 h];rfl
theorem Ox{ν:Type}{f:Nat->Option ν}{y:ν}(lt:i<n)(hn:∀j,j<i->f j=none)(hi:f i=some y):(List.range n).findSome? f=some y:=by
 have e:List.range n=List.range i++(List.range (n-i)).map (i + ·):=by
  have:n=i+(n-i):=by omega
  conv=>lhs;rw[this,List.range_add]
 have e2:n-i=(n-i-1)+1:=by omega
 rw[e,List.findSome?_append,e2,range_succ_eq_map,cJ,findSome?_cons];have:(List.range i).findSome? f=none:=by
  rw[List.findSome?_eq_none_iff];intro j hj;exact hn j (mem_range.mp hj)
 rw[this];simp[hi]
theorem X5 :∀gs:List Int,Paired (oM H) (gs.map V.int) gs
 |[]=>.nil
 |g::gs=>.cons rfl (X5 gs)
abbrev ahY:List Str:=["_law_spec_here","_law_state","_law_wet","_law_pots","_law_cans","_law_week","_law_closed","_law_day","_law_since","_law_k","_law_found","_law_far"]
inductive Oz(vs:List V)(H:Hp)(Q:VK)(jU:XK):Prop
 |mk:∀v sp u d ds wl jA,vs=[v,u,.ref wl]->j8 H v sp->iG sp->jy H u d ds->0<=d->ds.length=sp.pots.length->H wl=some (.lst (zP jA))->(∀k∈jA,k<sp.pots.length)->jA.length<=8->(∀H' r,Same H H'->ahX H' r ((d+1) % sp.week) (fV (cX sp) sp.cans (gR sp.closed d) (cpsOf (d7 sp.pots) ds) jA)->Q r H')->Oz vs H Q jU
theorem qO:bY ahY ["_law_spec_here","_law_state","_law_wet"] (aZ lV):=d9 (by decide +kernel)
theorem al3(B:Tj mg) : ∃t,Ac (qd (fY P w) P w K mg base ahY "_law_behind" (aZ lV) f cdv A outer s H₀ E) ((iV lV).drop 3) t/\∀(D:Ends)(H:Hp)(l wl su:aB)(sp:jr)(d:Int)(ds:List Int)(jA:List Nat)(s0 s1 s4 s6 s9 Mu Um:Option V),jD KN H (.ref l) sp.pots->iG sp->H su=some (.tup (ds.map V.int))->ds.length=sp.pots.length->H wl=some (.lst (zP jA))->(∀k∈jA,k<sp.pots.length)->(!(!jA.isEmpty&&(gR sp.closed d||decide (sp.cans<(jA.length:Int)))))=true -> (∀H' r,Same H H'->ahX H' r ((d+1) % sp.week) (fV (cX sp) sp.cans (gR sp.closed d) (cpsOf (d7 sp.pots) ds) jA)->D.rt r H') -> t D [s0,s1,some (.ref wl),some (.ref l),s4,some (.int sp.week),s6,some (.int d),some (.ref su),s9,Mu,Um] H:=by
 refine⟨_,aL (ju fM rfl (fK (pv 2)) (cR 9 qO.nd) (aU (dZ (cu Fx (cH cQ (pv 8) (pv 9) (λ_ _=>rfl)) (cH cQ (cH iW (pv 3) (pv 9) (λ_ _=>rfl)) aP (λ_ _=>rfl)) (cN _)) (aU (bU jR)) bZ))) (aL (bL (i:=10) qO.nd rfl (Or.inl rfl) (gH aG)) (aL (ju fM rfl (jz rfl B.range (ao (eO bT B.len PySem.boot_len (ao (pv 3) aG)) aG)) (cR 9 qO.nd) (aL (bL (i:=11) qO.nd rfl (Or.inl rfl) (nH (cu Bp (pv 9) (pv 2) rfl) aP (cg gw (cH cQ (pv 8) (pv 9) (λ_ _=>rfl)) aP))) (aL (dZ (cu iQ (pv 11) (cH cQ (cH iW (pv 3) (pv 9) (λ_ _=>rfl)) aP (λ_ _=>rfl)) (cN _)) (aU (bU (cH cQ (cH iW (pv 3) (pv 9) (λ_ _=>rfl)) aP (λ_ _=>rfl)))) bZ) (aU (gJ (mL PySem.F.plainAttrs_list PySem.F.slot_list_append PySem.F.type_list_append iu (pv 10) (ao (pv 11) aG))))))) (aU (bU (d8 (ao (cg gO (cg gw (pv 7) aP) (pv 5)) (ao (qD jF B.tuple PyProof.Rows.boot_tuple (ao (pv 10) aG)) aG))))))),?_⟩;intro D H l wl su sp d ds jA s0 s1 s4 s6 s9 Mu Um rl ok hs ld hw wb c0 q;obtain⟨_,vs,el,hv,Jg⟩:=id rl;cases el;have lv:vs.length=sp.pots.length:=Paired.length Jg;have n8:=ok.n8;have w1:=ok.w1;have big:1000<=sizeLine:=by decide
 have lc:(cpsOf (d7 sp.pots) ds).length=sp.pots.length:=by rw[lR (by rw[gW];exact ld),gW]
 have row:∀{H':Hp}(k:Nat),Same H H'->k<sp.pots.length->∃(tc:aB)(c:Str×Int×Int)(n:Int),vs[k]?=some (.ref tc)/\sp.pots[k]?=some c/\ds[k]?=some n/\H' tc=some (.tup [.str c.1,.int c.2.1,.int c.2.2])/\(cpsOf (d7 sp.pots) ds)[k]?=some ⟨n,c.2.1,c.2.2⟩:=by
  intro H' k s' lt;have hc:sp.pots[k]?=some sp.pots[k]:=aA lt;have hn:ds[k]?=some (ds[k]'(by omega)):=aA (by omega);obtain⟨x,hx,rx⟩:=kZ Jg hc;obtain⟨tc,y1,y2,y3,rfl,htc,r1,r2,r3⟩:=jt.same rx s';cases r1;cases r2;cases r3;exact⟨tc,_,_,hx,hc,hn,htc,abb hc hn (ok.row _ (List.getElem_mem lt)).r1⟩
 refine⟨_,rfl,wl,rfl,⟨_,cD.of hw⟩,?_⟩;refine nQ (K:=K) (a:=wl) (xs:=zP jA) (λi σ H'=>∃u9,σ=[s0,s1,some (.ref wl),some (.ref l),s4,some (.int sp.week),s6,some (.int d),some (.ref su),u9,Mu,Um]/\H'=H/\((jA.take i).all λk=>((cpsOf (d7 sp.pots) ds)[k]?.map λc=>decide (c.rest<=c.s)).getD true)=true) ⟨s9,rfl,rfl,rfl⟩ (λi σ H' _ ⟨_,_,e,_⟩=>by rw[e];exact cD.of hw) ?_ ?_
 ·rintro i x σ H1 hi ⟨u9,rfl,rfl,ha⟩;rw[aJ]at hi;obtain⟨k,hk,rfl⟩:=bh.mp hi;have lk:=wb k (aQ hk);obtain⟨tc,c,n,hx,hc,hn,htc,hcp⟩:=row k (Same.refl _) lk;have hdn:(ds.map V.int)[k]?=some (.int n):=by rw[aJ,hn];rfl
  refine⟨_,rfl,_,rfl,su,_,_,_,rfl,rfl,dY.of hs,gU hdn,_,rfl,_,rfl,l,_,_,_,rfl,rfl,cD.of hv,gU hx,tc,_,2,.int c.2.2,rfl,rfl,dY.of htc,rfl,_,_,rfl,rfl,_,rfl,?_⟩
  by_cases z:n<c.2.2
  ·rw[aK z];refine dB (q H1 _ (Same.refl _) ?_);have:iJ sp.cans (gR sp.closed d) (cpsOf (d7 sp.pots) ds) jA=false:=by
    unfold iJ;rw[Bool.and_eq_false_iff];refine .inr ?_;rw[List.all_eq_false];refine⟨k,aQ hk,?_⟩;rw[hcp];simp;exact z
   unfold fV;rw[this];rfl
  ·rw[aD z];refine cU ⟨_,rfl,rfl,?_⟩;rw[take_snoc hk,all_append,ha];simp[hcp];omega
 rintro σ H1 ⟨u9,rfl,rfl,ha⟩;rw[ak,cL]at ha;have al:iJ sp.cans (gR sp.closed d) (cpsOf (d7 sp.pots) ds) jA=true:=by
  unfold iJ;rw[Bool.and_eq_true];exact⟨c0,ha⟩
 refine⟨by show 0<=sizeLine;decide,λlf hlf=>?_⟩;have vf:=aV (o:=.lst []) hlf;refine⟨_,rfl,l,_,rfl,.inl (cD.of (vf _ _ hv)),_,rfl,by omega,by omega,?_⟩;refine oV (lo:=0) (n:=((vs.length:Nat):Int).toNat) (λi σ H'=>∃u9 XR,σ=[s0,s1,some (.ref wl),some (.ref l),s4,some (.int sp.week),s6,some (.int d),some (.ref su),u9,some (.ref lf),XR]/\H' lf=some (.lst (((kY (cpsOf (d7 sp.pots) ds) jA).take i).map V.int))/\(∀j,j<i->(kY (cpsOf (d7 sp.pots) ds) jA)[j]?≠(cpsOf (d7 sp.pots) ds)[j]?.map Cp.gap)/\Same H1 H') ⟨_,_,rfl,aF,(λj h=>by omega),vf⟩ ?_ ?_
 ·rintro i σ H2 lt ⟨u9,XR,rfl,hf,nd,s2⟩;have e0:(0+(i:Int))=((i:Nat):Int):=Int.zero_add _;rw[e0];have lk:i<sp.pots.length:=by omega
  obtain⟨tc,c,n,hx,hc,hn,htc,hcp⟩:=row i s2 lk;have hdn:(ds.map V.int)[i]?=some (.int n):=by rw[aJ,hn];rfl
  have HY:=qw (jA:=jA) hcp;have lz:(((kY (cpsOf (d7 sp.pots) ds) jA).take i).map V.int).length<sizeLine:=by
   rw[ak,length_take];omega
  refine⟨_,rfl,_,rfl,wl,_,rfl,.inl (cD.of (s2 _ _ hw)),rfl,XS jA,_,rfl,?_⟩
  show if(inV (.int (i:Int)) (zP jA))=true then _ else _
  rw[X3]
  by_cases hm:i∈jA
  ·rw[if_pos hm]at HY;rw[aK hm];refine dB ?_;refine⟨_,rfl,_,rfl,_,rfl,l,_,_,_,rfl,rfl,cD.of (s2 _ _ hv),gU hx,tc,_,1,.int c.2.1,rfl,rfl,dY.of htc,rfl,rfl,_,rfl,?_⟩
   by_cases z:(0:Int)=c.2.1
   ·refine eqT z ⟨_,rfl,_,rfl,l,_,_,_,rfl,rfl,cD.of (s2 _ _ hv),gU hx,tc,_,0,.str c.1,rfl,rfl,dY.of htc,rfl,q H2 _ s2 ?_⟩;have dr:uE (cX sp) (cpsOf (d7 sp.pots) ds) jA=some c.1:=by
     refine Ox (i:=i) (by omega) (λj hj=>if_neg (nd j hj)) ?_;rw[HY,hcp,Option.map_some,z,if_pos rfl,cX,aJ,hc];rfl
    unfold fV;rw[al,dr];rfl
   ·refine eqF z ⟨_,rfl,.inl ⟨rfl,_,cD.of hf⟩,_,rfl,lf,_,_,rfl,rfl,hf,lz,?_⟩;refine⟨_,_,rfl,by rw[aF,take_snoc HY,aX];rfl,λj hj=>?_,ji s2 hlf⟩
    by_cases e:j=i
    ·subst e;rw[HY,hcp,Option.map_some];intro e;exact z (bO e)
    ·exact nd j (by omega)
  ·rw[if_neg hm]at HY;rw[aD hm];refine cU ⟨_,rfl,_,rfl,su,_,_,_,rfl,rfl,dY.of (s2 _ _ hs),gU hdn,_,_,rfl,rfl,?_⟩;refine⟨_,rfl,_,rfl,_,rfl,l,_,_,_,rfl,rfl,cD.of (s2 _ _ hv),gU hx,tc,_,1,.int c.2.1,rfl,rfl,dY.of htc,rfl,rfl,_,rfl,?_⟩
   by_cases z:n+1=c.2.1
   ·refine eqT z ⟨_,rfl,_,rfl,l,_,_,_,rfl,rfl,cD.of (s2 _ _ hv),gU hx,tc,_,0,.str c.1,rfl,rfl,dY.of htc,rfl,q H2 _ s2 ?_⟩;have dr:uE (cX sp) (cpsOf (d7 sp.pots) ds) jA=some c.1:=by
     refine Ox (i:=i) (by omega) (λj hj=>if_neg (nd j hj)) ?_;rw[HY,hcp,Option.map_some,z,if_pos rfl,cX,aJ,hc];rfl
    unfold fV;rw[al,dr];rfl
   ·refine eqF z ⟨_,rfl,.inl ⟨rfl,_,cD.of hf⟩,_,rfl,lf,_,_,rfl,rfl,hf,lz,?_⟩;refine⟨_,_,rfl,by rw[aF,take_snoc HY,aX];rfl,λj hj=>?_,ji s2 hlf⟩
    by_cases e:j=i
    ·subst e;rw[HY,hcp,Option.map_some];intro e;exact z (bO e)
    ·exact nd j (by omega)
 ·rintro σ H2 ⟨u9,XR,rfl,hf,nd,s2⟩;have fl:(kY (cpsOf (d7 sp.pots) ds) jA).length=((vs.length:Nat):Int).toNat:=by
   unfold kY;rw[ak,bK,lc,lv];simp
  rw[<- fl,cL]at hf;have dr:uE (cX sp) (cpsOf (d7 sp.pots) ds) jA=none:=by
   unfold uE;rw[List.findSome?_eq_none_iff];intro j hj;have:=mem_range.mp hj;exact if_neg (nd j (by omega))
  refine⟨_,rfl,_,_,rfl,rfl,_,rfl,_,_,rfl,rfl,(by show 0<sp.week;omega),_,rfl,lf,_,rfl,.inl ⟨cD.of hf,λtt htt=>⟨by show 2<=sizeLine;decide,λtr htr=>?_⟩⟩⟩;have v3:=aV (o:=.tup ((kY (cpsOf (d7 sp.pots) ds) jA).map V.int)) htt;have v4:=aV (o:=.tup [V.int ((d+1) % sp.week),.ref tt]) htr;refine q _ _ ((s2.trans v3).trans v4) ?_;unfold fV;rw[al,dr];exact⟨tr,_,_,rfl,aF,rfl,tt,_,rfl,v4 _ _ aF,X5 _⟩
theorem X6(F:mH K "_law_behind" "_law_behind" lV f fd)(B:Tj mg):cM P w K mg base (fY P w) 1 f fd ["_law_spec_here","_law_state","_law_wet"] Oz:=by
 refine F.lY qO (λvs H Q E h=>?_) (λcdv A outer s H vs Q E hr h=>?_)
 ·obtain⟨v,sp,u,d,ds,wl,jA,rfl,_⟩:=h;rfl
 ·obtain⟨v,sp,u,d,ds,wl,jA,rfl,⟨t,l,rfl,ht,rl⟩,ok,⟨t2,s2,rfl,Ny,hs2⟩,d0,ld,hw,wb,w8,q⟩:=h;obtain⟨_,vs,el,hv,Jg⟩:=id rl;cases el;have lv:vs.length=sp.pots.length:=Paired.length Jg;have n8:=ok.n8;have w1:=ok.w1;have big:1000<=sizeLine:=by decide
  obtain⟨tb,hB,Ew⟩:=al3 (P:=P) (w:=w) (K:=K) (base:=base) (f:=f) (cdv:=cdv) (A:=A) (outer:=outer) (s:=s) (H₀:=H) (E:=E) B;refine⟨_,aL (rT (pv 0) (nJ rfl (cj (cR 3 qO.nd) (cj (cR 4 qO.nd) (cj (cR 5 qO.nd) (cj (cR 6 qO.nd) gK)))))) (aL (rT (pv 1) (nJ rfl (cj (cR 7 qO.nd) (cj (cR 8 qO.nd) gK)))) (aL (dZ (pw_and (cu (JG hr.units) (pv 2) (gH aG) (cN _)) (pw_and1 (pw_or (cu iQ (cg CP (cg CN (pv 6) (pv 7)) aP) aP (cN _)) (pw_or1 (cu Ba (eO bT B.len PySem.boot_len (ao (pv 2) aG)) (pv 4) (cN _)))).pt)).pt (aU (bU jR)) bZ) hB)),?_⟩;refine⟨_,rfl,t,_,rfl,dY.of ht,rfl,_,_,rfl,_,_,rfl,_,_,rfl,_,_,rfl,rfl,?_⟩;refine⟨_,rfl,t2,_,rfl,dY.of Ny,rfl,_,_,rfl,_,_,rfl,rfl,?_⟩;refine⟨_,rfl,by show 0<=sizeLine;decide,λle hle=>?_⟩;have ve:=aV (o:=.lst []) hle;have rw0:jD oM (upd H le (.lst [])) (.ref wl) (jA.map λk:Nat=>(k:Int)):=⟨wl,_,rfl,ve _ _ hw,by
   rw[show zP jA=(jA.map λk:Nat=>(k:Int)).map V.int by rw[gj];rfl];exact X5 _⟩
  refine adA eq_int (n:=0) (by decide) rw0 ⟨le,[],rfl,aF,.nil⟩ ⟨_,rfl,?_⟩;cases jA with
  |nil =>
   refine cU (cU ?_);exact Ew _ (upd H le (.lst [])) l wl s2 sp d ds [] _ _ _ _ _ _ _ (rl.same jt ve) ok (ve _ _ hs2) ld (ve _ _ hw) wb rfl (λH' r s'=>q H' r (ve.trans s'))
  |cons k0 jA =>
   have no:∀H',Same H H'->(gR sp.closed d||decide (sp.cans<((k0::jA).length:Int)))=true->Q .non H':=by
    intro H' s' c;refine q H' _ s' ?_;have:iJ sp.cans (gR sp.closed d) (cpsOf (d7 sp.pots) ds) (k0::jA)=false:=by
     unfold iJ;rw[c];rfl
    unfold fV;rw[this];rfl
   refine dB ⟨_,rfl,_,rfl,_,_,rfl,rfl,d0,_,_,rfl,rfl,rfl,_,rfl,?_⟩;rw[aaG];cases eb:gR sp.closed d with
   |true =>
    have eb':decide (Builtin.bitAnd (sp.closed / 2^d.toNat) 1=1)=true:=eb;rw[eb'];exact dB (dB (no _ ve (by rw[eb];rfl)))
   |false =>
    have eb':decide (Builtin.bitAnd (sp.closed / 2^d.toNat) 1=1)=false:=eb;rw[eb'];refine cU ⟨_,rfl,wl,_,rfl,.inl (cD.of (ve _ _ hw)),_,rfl,_,_,rfl,rfl,_,rfl,?_⟩;rw[ak]
    by_cases z:sp.cans<((k0::jA).length:Int)
    ·rw[aK z];exact dB (no _ ve (by rw[eb,aK z];rfl))
    ·rw[aD z];refine cU ?_;exact Ew _ (upd H le (.lst [])) l wl s2 sp d ds (k0::jA) _ _ _ _ _ _ _ (rl.same jt ve) ok (ve _ _ hs2) ld (ve _ _ hw) wb (by rw[eb,aD z];rfl) (λH' r s'=>q H' r (ve.trans s'))
abbrev wD:dI:=top 57
theorem KY{r:St}:nU (none::r) ((none::r).set 0 x):=by
 intro j v h
 match j,h with
 |0,h=>simp at h
 |j+1,h=>exact h
def tR(sp:jr)(d:Int)(ds:List Int):List (Int×Int×List Int):=(tH (cX sp) sp.cans (gR sp.closed d) (cpsOf (d7 sp.pots) ds)).map λq=>(q.1,(d+1) % sp.week,q.2)
theorem zQ(n j:Nat):jq (n+1) j=jq n j++if j.testBit n then [n] else []:=by
 unfold jq;rw[dD,cZ];cases h:j.testBit n<;>simp[h]
abbrev acz:List Str:=["_law_spec_here","_law_state","_law_found","_law_chosen","_law_wet","_law_ahead"]
inductive Ey(vs:List V)(H:Hp)(Q:VK)(jU:XK):Prop
 |mk:∀v sp u d ds,vs=[v,u]->j8 H v sp->iG sp->jy H u d ds->0<=d->ds.length=sp.pots.length->(∀H' l,Same H H'->jD xM H' (.ref l) (tR sp d ds)->Q (.ref l) H')->Ey vs H Q jU
theorem vB:bY acz ["_law_spec_here","_law_state"] (aZ wD):=d9 (by decide +kernel)
theorem X7(F:mH K "_law_steps" "_law_steps" wD f fd)(B:Tj mg)(Bh':Fn K "_law_behind" "_law_behind" lV ["_law_spec_here","_law_state","_law_wet"] fb db)(mB:mg "_law_behind"=some (.ref fb)) : cM P w K mg base (fY P w) 2 f fd ["_law_spec_here","_law_state"] Ey:=by
 refine F.lY vB (λvs H Q E h=>?_) (λcdv A outer s H vs Q E hr h=>?_)
 ·obtain⟨v,sp,u,d,ds,rfl,_⟩:=h;rfl
 ·obtain⟨v,sp,u,d,ds,rfl,rs,ok,st,d0,ld,q⟩:=h;have okb:cM P w K mg base (fY P w) 1 fb db ["_law_spec_here","_law_state","_law_wet"] Oz:=X6 Bh'.F B;have Rh:[("_law_k":Str),"_law_chosen"].Nodup:=by decide +kernel
  refine⟨_,aL (bL (i:=2) vB.nd rfl (Or.inl rfl) (gH aG)) (aL (ju fM rfl (jz rfl B.range (ao (cg Jq aP (eO bT B.len PySem.boot_len (ao (cH cQ (pv 0) aP (λ_ _=>rfl)) aG))) aG)) (cR 3 vB.nd rfl (Or.inr rfl)) (aL (oE (i:=4) vB.nd rfl (Or.inl rfl) bN rfl ⟨_,_,rfl,rfl,rfl⟩ (iw (N':=["_law_k","_law_chosen"]) (cl:=[("_law_chosen",s.heap.objs.size+1)]) [none,some 3] acz (aZ wD).names [(".0",.local),("_law_k",.local),("_law_chosen",.cell)] ["_law_chosen"] rfl (by decide +kernel) (by decide +kernel) rfl (λp hp=>by rw[aH.mp hp];rfl) rfl rfl rfl rfl (by decide +kernel) rfl (by decide +kernel)) (jz rfl B.range (ao (eO bT B.len PySem.boot_len (ao (cH cQ (pv 0) aP (λ_ _=>rfl)) aG)) aG)) (λ_ _ _ _ _=>cR 0 Rh) (λ_ _ _ _ _=>mZ (cu iQ (cg CP (cg CN (pv 1) (pv 0)) aP) aP (cN _))) (λ_ _ _ _ _ _=>pv 0)) (aL (bL (i:=5) vB.nd rfl (Or.inl rfl) (c7 okb hr mB Bh'.F.kp Bh'.b bB (ao (pv 0) (ao (pv 1) (ao (pv 4) aG))))) (aU (dZ (eX (oK .tuple B.isinstance B.tuple (pv 5))) (aU (gJ (mL PySem.F.plainAttrs_list PySem.F.slot_list_append PySem.F.type_list_append iu (pv 2) (ao (d8 (ao (pv 3) (ao (pv 5) aG))) aG)))) bZ))))) (aU (bU (pv 2)))),?_⟩;obtain⟨t,l,rfl,ht,rl⟩:=id rs;obtain⟨_,vs,el,hv,Jg⟩:=id rl;cases el;have lv:vs.length=sp.pots.length:=Paired.length Jg;have n8:=ok.n8;have big:1000<=sizeLine:=by decide
  have lc:(cpsOf (d7 sp.pots) ds).length=sp.pots.length:=by rw[lR (by rw[gW];exact ld),gW]
  have asC:=zE n8;refine⟨by show 0<=sizeLine;decide,λlf hlf=>?_⟩;have vf:=aV (o:=.lst []) hlf;have e2:(1:Int)*2^((vs.length:Nat):Int).toNat=((2^sp.pots.length:Nat):Int):=by
   rw[lv,Int.one_mul];simp
  refine⟨_,rfl,t,_,0,.ref l,rfl,rfl,dY.of (vf _ _ ht),rfl,l,_,rfl,.inl (cD.of (vf _ _ hv)),_,_,rfl,rfl,⟨by omega,by omega,by decide⟩,_,rfl,?_⟩;have en:((1:Int)*2^((vs.length:Nat):Int).toNat).toNat=2^sp.pots.length:=by rw[e2,eG]
  have b1:-2^62<=(1:Int)*2^((vs.length:Nat):Int).toNat/\(1:Int)*2^((vs.length:Nat):Int).toNat<2^62:=by rw[e2];omega
  refine⟨b1.1,b1.2,?_⟩;refine oV (lo:=0) (n:=((1:Int)*2^((vs.length:Nat):Int).toNat).toNat) (λi σ H'=>∃u3 u4 u5,σ=[some (.ref t),some u,some (.ref lf),u3,u4,u5]/\jD xM H' (.ref lf) (((List.range i).filterMap (mj (cX sp) sp.cans (gR sp.closed d) (cpsOf (d7 sp.pots) ds))).map λq=>(q.1,(d+1) % sp.week,q.2))/\Same H H') ⟨none,none,none,rfl,⟨lf,[],rfl,aF,.nil⟩,vf⟩ ?_ ?_
  ·rintro j σ H1 lt ⟨u3,u4,u5,rfl,rf,s1⟩;rw[en]at lt;have e0:(0+(j:Int))=((j:Nat):Int):=Int.zero_add _;rw[e0];have ht1:=s1 _ _ ht;have hv1:=s1 _ _ hv;refine⟨_,rfl,t,_,0,.ref l,rfl,rfl,dY.of ht1,rfl,l,_,rfl,.inl (cD.of hv1),_,rfl,by omega,by omega,λD hD=>?_⟩;refine qT sp.pots.length (by omega) (λi acc H'=>acc=zP (jq i j)/\H'=upd H1 D (.lst acc)) ⟨rfl,rfl⟩ (λi acc H' le ⟨ea,eh⟩=>⟨?_,by rw[eh,aF]⟩) ?_ ?_
   ·rw[ea,ak];unfold jq;exact bx (length_filter_le _ _) (by rw[bK];exact aO _)
   ·rintro acc H' ⟨rfl,rfl⟩;refine⟨(by show((vs.length:Nat):Int).toNat<=sp.pots.length;omega),?_⟩;have vD:=aV (o:=.lst (zP (jq sp.pots.length j))) hD;have s2:=s1.trans vD;have wb:∀k∈jq sp.pots.length j,k<sp.pots.length:=λk hk=>(pJ.mp hk).1
    have w8:(jq sp.pots.length j).length<=8:=by
     unfold jq;exact bx (length_filter_le _ _) (by rw[bK];exact n8)
    refine⟨_,rfl,_,rfl,_,rfl,_,sp,_,d,ds,D,_,rfl,rs.same s2,ok,st.same s2,d0,ld,aF,wb,w8,λH3 r s3 hb=>?_⟩;have rf3:=rf.same j5 (vD.trans s3);have s4:=s2.trans s3;obtain⟨_,us,eu,hu,pu⟩:=id rf3;cases eu;have lu:us.length<sizeLine:=by
     rw[Paired.length pu,ak];have:=List.length_filterMap_le (mj (cX sp) sp.cans (gR sp.closed d) (cpsOf (d7 sp.pots) ds)) (List.range j);rw[bK]at this;omega
    have es:(List.range (j+1)).filterMap (mj (cX sp) sp.cans (gR sp.closed d) (cpsOf (d7 sp.pots) ds))=(List.range j).filterMap (mj (cX sp) sp.cans (gR sp.closed d) (cpsOf (d7 sp.pots) ds))++(mj (cX sp) sp.cans (gR sp.closed d) (cpsOf (d7 sp.pots) ds) j).toList:=by
     rw[dD,List.filterMap_append];cases h:mj (cX sp) sp.cans (gR sp.closed d) (cpsOf (d7 sp.pots) ds) j<;>simp[h]
    cases eb:fV (cX sp) sp.cans (gR sp.closed d) (cpsOf (d7 sp.pots) ds) (jq sp.pots.length j) with
    |no =>
     have ej:mj (cX sp) sp.cans (gR sp.closed d) (cpsOf (d7 sp.pots) ds) j=none:=by
      unfold mj;rw[lc,eb]
     rw[eb]at hb;cases hb;refine⟨_,rfl,.non,.non,rfl,rfl,_,rfl,cU ⟨_,_,_,rfl,?_,s4⟩⟩;rw[es,ej];simp;exact rf3
    |dry nm =>
     have ej:mj (cX sp) sp.cans (gR sp.closed d) (cpsOf (d7 sp.pots) ds) j=none:=by
      unfold mj;rw[lc,eb]
     rw[eb]at hb;cases hb;refine⟨_,rfl,.str nm,.str,rfl,⟨_,rfl⟩,_,rfl,cU ⟨_,_,_,rfl,?_,s4⟩⟩;rw[es,ej];simp;exact rf3
    |st far =>
     have ej:mj (cX sp) sp.cans (gR sp.closed d) (cpsOf (d7 sp.pots) ds) j=some ((j:Int),far):=by
      unfold mj;rw[lc,eb]
     rw[eb]at hb;obtain⟨tr,y1,y2,rfl,htr,r1,r2⟩:=id hb;refine⟨_,rfl,.ref tr,.tup,rfl,⟨tr,_,rfl,htr⟩,_,rfl,dB ⟨_,rfl,.inl ⟨rfl,_,cD.of hu⟩,_,rfl,_,rfl,by show 2<=sizeLine;decide,λtp htp=>?_⟩⟩;have v5:=aV (o:=.tup [V.int (j:Int),.ref tr]) htp;have hu5:=v5 _ _ hu;refine⟨lf,us,_,rfl,rfl,hu5,lu,_,_,_,rfl,⟨lf,_,rfl,aF,?_⟩,ji (s4.trans v5) hlf⟩;rw[es,ej,aX];refine jV (Paired.iB pu λ_ _ z=>j5.upd (j5.same z v5) hu5) (.cons ?_ .nil);exact j5.upd ⟨tp,_,_,rfl,aF,rfl,(uH iY (uG iY)).same hb v5⟩ hu5
   ·rintro i acc H' Ad ⟨rfl,rfl⟩;refine⟨(by show i<((vs.length:Nat):Int).toNat;omega),?_⟩;rintro x sZ ⟨rfl,rfl⟩ Qc Qn k kn;have e1:(0+(i:Int))=((i:Nat):Int):=Int.zero_add _;rw[e1];refine⟨KY,_,rfl,_,rfl,_,_,rfl,rfl,(by show(0:Int)<=(i:Int);omega),_,_,rfl,rfl,rfl,_,rfl,?_⟩;rw[aaG];have eb:=U4 j i;unfold gR at eb;rw[eb];cases tb:j.testBit i with
    |true =>
     refine dB ⟨_,rfl,k _ _ aF ⟨?_,by rw[lH]⟩⟩;rw[zQ,tb];simp
    |false =>
     refine cU (kn _ ⟨?_,rfl⟩);rw[zQ,tb];simp
  ·rintro σ H1 ⟨u3,u4,u5,rfl,rf,s1⟩;refine⟨_,rfl,q H1 lf s1 ?_⟩;unfold tR tH;rw[lc];rw[en]at rf;exact rf
abbrev pO:dI:=top 60
theorem Cm{α:Type}{p q:α->Bool}:∀{l:List α},(∀x∈l,p x=true->q x=false)->l.countP (λx=>p x||q x)=l.countP p+l.countP q
 |[],_=>rfl
 |x::l,h=>by
  have ih:=Cm (p:=p) (q:=q) (l:=l) λy hy=>h y (by simp[hy])
  rw[countP_cons,countP_cons,countP_cons,ih];cases hp:p x with
  |true =>
   have:=h x (by simp) hp;simp[this];omega
  |false=>simp;omega
theorem count_at(j:Nat):∀n:Nat,(List.range n).countP (λk=>decide (k=j))=if j<n then 1 else 0
 |0=>rfl
 |n+1=>by
  rw[dD,List.countP_append,count_at j n]
  by_cases e:n=j
  ·subst e;simp
  ·by_cases lt:j<n
   ·simp[lt,e];omega
   ·have:¬j<n+1:=by omega
    simp[lt,e,this]
def Fo(n:Nat)(js:List Nat):List Nat:=(List.range n).filter λk=>decide (k∈js)
theorem OD :∀{js:List Nat},(∀j∈js,j<n)->(Fo n js).length<=js.length/\((Fo n js).length=js.length↔js.Nodup)
 |[],_=>by
  have:Fo n []=[]:=by unfold Fo;simp
  rw[this];simp
 |j::js,h=>by
  obtain⟨h1,h2⟩:=OD (n:=n) (js:=js) λk hk=>h k (by simp[hk])
  have hj:=h j (by simp);unfold Fo at h1 h2⊢;rw[<- List.countP_eq_length_filter]at h1 h2⊢
  by_cases m:j∈js
  ·have e:(λk=>decide (k∈j::js))=λk=>decide (k∈js):=by
    funext k
    by_cases z:k=j
    ·subst z;simp[m]
    ·simp[z]
   rw[e,length_cons,nodup_cons];refine⟨by omega,λz=>by omega,λz=>absurd m z.1⟩
  ·have e:(λk=>decide (k∈j::js))=λk=>decide (k=j)||decide (k∈js):=by
    funext k
    simp
   rw[e,Cm,count_at,if_pos hj,length_cons,nodup_cons]
   ·refine⟨by omega,λz=>⟨m,h2.mp (by omega)⟩,λz=>?_⟩;have:=h2.mpr z.2;omega
   ·intro k _ hk;have:k=j:=by simpa using hk
    rw[this];simpa using m
theorem X8(n:Nat)(js:List Nat):(Fo n js).length<=n:=by
 unfold Fo;exact bx (length_filter_le _ _) (by rw[bK];exact aO _)
theorem tV{α:Type}{p:α->Bool}:∀{l:List α},(l.filter p).length<l.length↔l.all p=false
 |[]=>by simp
 |x::l=>by
  have ih:=tV (p:=p) (l:=l);have le:=length_filter_le p l;cases h:p x with
  |true=>rw[List.filter_cons_of_pos h];simp[h]
  |false=>rw[List.filter_cons_of_neg (by simp[h])];simp[h];omega
theorem OJ(x:Str):∀ns:List Str,inV (.str x) (ns.map V.str)=decide (x∈ns)
 |[]=>rfl
 |n::ns=>by
  have e:inV (.str x) ((n::ns).map V.str)=(sW (.str n) (.str x)||inV (.str x) (ns.map V.str)):=rfl;rw[e,OJ x ns]
  by_cases h:x=n
  ·subst h;have:sW (.str x) (.str x)=true:=uo rfl;simp[this]
  ·have:sW (.str n) (.str x)=false:=by
    show(n == x)=false
    simpa using λz=>h z.symm
   simp[this,h]
theorem Ia(n:Nat)(js:List Nat):Fo (n+1) js=Fo n js++(if decide (n∈js)=true then [n] else []):=by
 unfold Fo;rw[dD,cZ]
 congr 1
 by_cases m:n∈js<;>simp[m]
theorem O1 :∀{ns:List Str},x∈ns->ns[ns.idxOf x]?=some x
 |n::ns,h=>by
  rw[idxOf_cons]
  by_cases e:n=x
  ·subst e;simp
  ·have e2:(n == x)=false:=by simpa using e
   rw[e2];have hm:x∈ns:=by
    rcases aR.mp h with z|z
    ·exact absurd z.symm e
    ·exact z
   simpa using O1 hm
theorem Yb :∀{ns:List Str}{i:Nat},i<ns.idxOf x->ns[i]?=some y->(y == x)=false
 |n::ns,i,hi,hy=>by
  rw[idxOf_cons]at hi
  by_cases e:n=x
  ·subst e;simp at hi
  ·have e2:(n == x)=false:=by simpa using e
   rw[e2]at hi;cases i with
   |zero =>
    have:n=y:=by simpa using hy
    rw[<- this];exact e2
   |succ i=>exact Yb (ns:=ns) (i:=i) (by simpa using hi) (by simpa using hy)
theorem oh :∀{xs:List α}{ys:List β}{i:Nat}{y:β},Paired R xs ys->ys[i]?=some y->∃x,xs[i]?=some x/\R x y
 |[],[],_,_,_,e=>by simp at e
 |_::_,_::_,0,y,.cons h t,e=>⟨_,rfl,by cases e;exact h⟩
 |_::_,_::_,i+1,y,.cons h t,e=>by
  obtain⟨x,hx,r⟩:=oh (i:=i) t (by simpa using e);exact⟨x,by simpa using hx,r⟩
theorem zR(h:jc H v (d,ds)):jy H v d ds:=by
 obtain⟨t,u,w,rfl,ht,r1,r2⟩:=h;cases r1;obtain⟨s,vs,rfl,hs,p⟩:=r2;have e:=ints_of p;subst e;exact⟨t,s,rfl,ht,hs⟩
theorem O2{nms:List ν}(h:fV nms cans sh l js=.st far):far=kY l js:=by
 unfold fV at h
 split at h
 ·split at h
  ·cases h
  ·cases h;rfl
 ·cases h
theorem aeV(sp:jr):oN (iU sp).pots=cX sp:=by
 show(d7 sp.pots).map cA.nm=sp.pots.map λq=>q.1
 unfold d7;rw[gj];rfl
theorem aeW(K:Fg){id:String}(pa:PlainAttrs T)(slot:Slot T name id)(hty:typeOf (.builtin id)=pure (.type "method_descriptor"))(hm:MtR X id r)(ho:PE X o to)(ha:PA X (e::es) t)(hK:autoParam (X.K=K) zau0)(hbase:autoParam (attributeBase o name X.env (eval o X.env)=eval o X.env) zau0)(hfew:autoParam (((backTo cpos (starEach (e::es) X.env)).all (λx=>!x.1)&&(backToKw cpos (keywordEach [] X.env)).all (λx=>x.1.isSome)&&decide ((e::es).length+([]:List Keyword).length+(if([]:List Keyword).isEmpty then 0 else 1)<30))=true) zau0)(hline:autoParam ((apos.endLine == cpos.line)=true) zau0)(hs:autoParam (starEach (e::es) X.env=(false,eval e X.env)::starEach es X.env) zau0)(hplain:autoParam ((backTo cpos (starEach es X.env)).any (·.1)=false) zau0) : PE X (.Call (.Attribute o name apos) (e::es) [] cpos) (tBM K T r to t):=by
 subst hK;exact mL pa slot hty hm ho ha hbase hfew hline hs hplain
noncomputable def Ib(H:Hp)(t:aB):Wk->Prop
 | .kept d ds=>∃u,H t=some (.tup [.str "kept",u])/\jy H u d ds
 | .dry n nm=>H t=some (.tup [.str "dry",.int (n:Nat),.str nm])
 | .bad n=>H t=some (.tup [.str "bad",.int (n:Nat)])
 | .none n=>H t=some (.tup [.str "none",.int (n:Nat)])
abbrev rP(sp:jr):List (List Str)->Nat->Int->List Int->Wk:=wY (cX sp) sp.cans sp.week sp.closed (d7 sp.pots)
abbrev aeX:List Str:=["_law_spec_here","_law_rows_here","_law_state","_law_first","_law_names","_law_k","_law_wet","_law_ahead"]
inductive zT(vs:List V)(H:Hp)(Q:VK)(jU:XK):Prop
 |mk:∀v sp rv rows u d ds f,vs=[v,rv,u,.int ((f:Nat):Int)]->j8 H v sp->iG sp->fX H rv rows->rows.length<=9000->(∀r∈rows,r.length<=1000)->jy H u d ds->0<=d->ds.length=sp.pots.length->(∀H' t,Same H H'->Ib H' t (rP sp rows f d ds)->Q (.ref t) H')->zT vs H Q jU
theorem o9:bY aeX ["_law_spec_here","_law_rows_here","_law_state","_law_first"] (aZ pO):=d9 (by decide +kernel)
theorem RK(F:mH K "_law_walked" "_law_walked" pO f fd)(B:Tj mg)(Bh':Fn K "_law_behind" "_law_behind" lV ["_law_spec_here","_law_state","_law_wet"] fb db)(mB:mg "_law_behind"=some (.ref fb)) : cM P w K mg base (fY P w) 2 f fd ["_law_spec_here","_law_rows_here","_law_state","_law_first"] zT:=by
 refine F.lY o9 (λvs H Q E h=>?_) (λcdv A outer s H vs Q E hr h=>?_)
 ·obtain⟨v,sp,rv,rows,u,d,ds,n,rfl,_⟩:=h;rfl
 ·obtain⟨v,sp,rv,rows,u,d0,ds0,n,rfl,rs,ok,rr,lr,lrr,st0,dp0,ld0,q⟩:=h;have okb:cM P w K mg base (fY P w) 1 fb db ["_law_spec_here","_law_state","_law_wet"] Oz:=X6 Bh'.F B;have Ko:[("_law_name":Str),"_law_gap","_law_rest"].Nodup:=by decide +kernel
  have Rh:[("_law_name":Str),"_law_names"].Nodup:=by decide +kernel
  have al6:[("_law_k":Str),"_law_wet"].Nodup:=by decide +kernel
  refine⟨_,aL (bL (i:=4) o9.nd rfl (Or.inr rfl) (gG bN rfl ⟨_,_,rfl,rfl,rfl⟩ (gY.plain (N':=["_law_name","_law_gap","_law_rest"]) rfl (by decide +kernel) (by decide +kernel)) (fK (cH cQ (pv 0) aP (λ_ _=>rfl))) (λ_ _ _ _ _=>qH K (n:=3) rfl (cj (cR 0 Ko) (cj (cR 1 Ko) (cj (cR 2 Ko) gK)))) (λ_ _ _ _ _=>gM) (λ_ _ _ _ _ _=>pv 0))) (aL (ju fM rfl (jz rfl B.range (ao (eO bT B.len PySem.boot_len (ao (pv 1) aG)) aG)) (cR 5 o9.nd) (aL (bL (i:=6) o9.nd rfl (Or.inr rfl) (gG bN rfl ⟨_,_,rfl,rfl,rfl⟩ (iw (N':=["_law_name","_law_names"]) (cl:=[("_law_names",s.heap.objs.size+1)]) [none,some 4] aeX (aZ pO).names [(".0",.local),("_law_name",.local),("_law_names",.cell)] ["_law_names"] rfl (by decide +kernel) (by decide +kernel) rfl (λp hp=>by rw[aH.mp hp];rfl) rfl rfl rfl rfl (by decide +kernel) rfl (by decide +kernel)) (fK (cH iW (pv 1) (pv 5) (λ_ _=>rfl))) (λ_ _ _ _ _=>cR 0 Rh) (λ_ _ _ _ _=>mZ (cu (Kp K) (pv 0) (pv 1) rfl)) (λ_ _ _ _ _ _=>aeW K PySem.F.plainAttrs_list PySem.F.slot_list_index PySem.F.type_list_index Gs (pv 1) (ao (pv 0) aG)))) (aL (dZ (cu Fx (eO bT B.len PySem.boot_len (ao (pv 6) aG)) (eO bT B.len PySem.boot_len (ao (cH iW (pv 1) (pv 5) (λ_ _=>rfl)) aG)) (cN _)) (aU (bU (d8 (ao eY (ao (cg gw (pv 3) (pv 5)) aG))))) bZ) (aL (dZ (cu Fx (eO bT B.len PySem.boot_len (ao (gG bN rfl ⟨_,_,rfl,rfl,rfl⟩ (iw (N':=["_law_k","_law_wet"]) (cl:=[("_law_wet",s.heap.objs.size+2)]) [none,some 6] aeX (aZ pO).names [(".0",.local),("_law_k",.local),("_law_wet",.cell)] ["_law_wet"] rfl (by decide +kernel) (by decide +kernel) rfl (λp hp=>by rw[aH.mp hp];rfl) rfl rfl rfl rfl (by decide +kernel) rfl (by decide +kernel)) (jz rfl B.range (ao (eO bT B.len PySem.boot_len (ao (pv 4) aG)) aG)) (λ_ _ _ _ _=>cR 0 al6) (λ_ _ _ _ _=>mZ (cu (Kp K) (pv 0) (pv 1) rfl)) (λ_ _ _ _ _ _=>pv 0)) aG)) (eO bT B.len PySem.boot_len (ao (pv 6) aG)) (cN _)) (aU (bU (d8 (ao eY (ao (cg gw (pv 3) (pv 5)) aG))))) bZ) (aL (bL (i:=7) o9.nd rfl (Or.inl rfl) (c7 okb hr mB Bh'.F.kp Bh'.b bB (ao (pv 0) (ao (pv 2) (ao (pv 6) aG))))) (aL (dZ (cu yC (pv 7) jR (cN _)) (aU (bU (d8 (ao eY (ao (cg gw (pv 3) (pv 5)) aG))))) bZ) (aL (dZ (gh (eX (oK .tuple B.isinstance B.tuple (pv 7)))) (aU (bU (d8 (ao eY (ao (cg gw (pv 3) (pv 5)) (ao (pv 7) aG)))))) bZ) (aU (bL (i:=2) o9.nd rfl (Or.inl rfl) (pv 7)))))))))) (aU (bU (d8 (ao eY (ao (pv 2) aG)))))),?_⟩;obtain⟨t,l,rfl,ht,rl⟩:=id rs;obtain⟨_,vs,el,hv,Jg⟩:=id rl;cases el;have n8:=ok.n8;have big:9000<=sizeLine:=by decide
  refine⟨_,rfl,t,_,0,.ref l,rfl,rfl,dY.of ht,rfl,l,rfl,⟨_,cD.of hv⟩,λnl hnl=>?_⟩;refine nW jt lQ (λq=>q.1) rl (by omega) hnl ?_ ?_
  ·rintro i c v H2 hc ⟨t',u1,u2,u3,rfl,ht',r1,r2,r3⟩ s2 Qc k;cases r1;exact⟨t',_,rfl,dY.of ht',rfl,_,_,rfl,_,_,rfl,_,_,rfl,rfl,nZ,_,rfl,k _ _ (Same.refl _) rfl⟩
  intro H1 s1 rN;obtain⟨nl',nvs,en,hN,pN⟩:=rN;cases en;have eN:=rB pN;rw[show(sp.pots.map λq=>q.1)=cX sp from rfl]at eN;subst eN;have lN:(cX sp).length=sp.pots.length:=ak ..;have rs1:=rs.same s1;have rr1:=rr.same s1;have st1:=st0.same s1;obtain⟨rl',ls,rfl,hrl,prl⟩:=id rr1;have lls:ls.length=rows.length:=Paired.length prl;refine⟨_,rfl,rl',_,rfl,.inl (cD.of hrl),_,rfl,by rw[ak];omega,by rw[ak];omega,?_⟩;rw[show(ls.map V.ref).length=rows.length by rw[ak,lls]];refine oV (lo:=0) (n:=((rows.length:Nat):Int).toNat) (λi σ H'=>∃u d ds u5 u6 u7,σ=[some (.ref t),some (.ref rl'),some u,some (.int ((n:Nat):Int)),some (.ref nl),u5,u6,u7]/\jy H' u d ds/\0<=d/\ds.length=sp.pots.length/\Same H1 H'/\rP sp rows n d0 ds0=rP sp (rows.drop i) (n+i) d ds) ⟨u,d0,ds0,none,none,none,rfl,st1,dp0,ld0,Same.refl _,rfl⟩ ?_ ?_
  ·rintro i σ H2 lt ⟨u,d,ds,u5,u6,u7,rfl,st,dp,ld,s2,ew⟩;have lt':i<rows.length:=by omega
   have e0:(0+(i:Int))=((i:Nat):Int):=Int.zero_add _;rw[e0];obtain⟨r,hr'⟩:∃r,rows[i]?=some r:=⟨rows[i],aA lt'⟩;obtain⟨rb,hrb,er⟩:=oh prl hr';have lri:=lrr r (aQ hr');rw[Ob hr']at ew;have hla:(ls.map V.ref)[i]?=some (.ref rb):=by rw[aJ,hrb];rfl
   have er2:=s2 _ _ er;have hN2:=s2 _ _ hN;refine⟨_,rfl,_,rfl,rl',_,_,_,rfl,rfl,cD.of (s2 _ _ hrl),gU hla,rb,rfl,⟨_,cD.of er2⟩,λD hD=>?_⟩;obtain⟨go,stop,yl⟩:=VP (K:=K) (R:=xG) lQ (H:=H2) (l:=rb) (xs:=r) ⟨rb,_,rfl,er2,N8 r⟩;refine o7 (R:=xG) (S:=Ro) Ec (xs:=r) (λnm=>decide (nm∈cX sp)) (λnm=>(cX sp).idxOf nm) (λ_=>True) (by omega) hD go stop yl ?_ ?_
   ·intro j nm v3 H3 hj rv s4 Qc Qn k kn;cases rv;have hN3:=s4 _ _ hN2;refine⟨jg,_,rfl,_,rfl,nl,_,rfl,.inl (cD.of hN3),rfl,qy _,_,rfl,?_⟩
    show if(inV (.str nm) ((cX sp).map V.str))=true then _ else _
    rw[OJ]
    by_cases m:nm∈cX sp
    ·rw[aK m];have li:=idxOf_lt_length_of_mem m;refine dB ⟨_,rfl,.inl ⟨rfl,_,cD.of hN3⟩,_,rfl,nl,_,.str nm,(cX sp).idxOf nm,rfl,rfl,hN3,rfl,qy _,⟨.str nm,?_,uo rfl⟩,λi' z hi hz=>?_,k (aK m) trivial _ _ (Same.refl _) rfl⟩
     ·rw[aJ,O1 m];rfl
     ·rw[aJ]at hz;obtain⟨y,hy,rfl⟩:=bh.mp hz
      show(y == nm)=false
      exact Yb hi hy
    ·rw[aD m];exact cU (kn (aD m) _ (Same.refl _))
   intro H3 s4 _ r3;obtain⟨D',vs3,eD,hw,Y6⟩:=r3;cases eD;have ev:=Ef Y6;subst ev;have s24:=s2.trans s4;have al8:=s24 _ _ hrl;have er3:=s4 _ _ er2;have lw:(nats ((r.filter λnm=>decide (nm∈cX sp)).map λnm=>(cX sp).idxOf nm)).length=(r.filter λnm=>decide (nm∈cX sp)).length:=by unfold nats;rw[ak,ak]
   refine⟨_,rfl,D,_,rfl,.inl (cD.of hw),_,rfl,_,rfl,rl',_,_,_,rfl,rfl,cD.of al8,gU hla,rb,_,rfl,.inl (cD.of er3),_,_,rfl,rfl,_,rfl,?_⟩;rw[lw,show(r.map V.str).length=r.length from ak ..]
   by_cases al:(r.all λnm=>decide (nm∈cX sp))=true
   ·have nlt:¬(((r.filter λnm=>decide (nm∈cX sp)).length:Int)<(r.length:Int)):=λz=>by
     have:=tV.mp (show(r.filter λnm=>decide (nm∈cX sp)).length<r.length by omega);rw[al]at this;cases this
    rw[aD nlt];refine cU ?_;have ef:(r.filter λnm=>decide (nm∈cX sp))=r:=List.filter_eq_self.mpr (all_eq_true.mp al);rw[ef]at hw;generalize ejs:(r.map λnm=>(cX sp).idxOf nm)=js at hw;have jb:∀j∈js,j<sp.pots.length:=by
     intro j hj;rw[<- ejs]at hj;obtain⟨nm,hnm,rfl⟩:=bM.mp hj;have m:=all_eq_true.mp al nm hnm;have:=idxOf_lt_length_of_mem (show nm∈cX sp by simpa using m);omega
    have wlk:rP sp (r::rows.drop (i+1)) (n+i) d ds=if js.Nodup then(match fV (cX sp) sp.cans (gR sp.closed d) (cpsOf (d7 sp.pots) ds) js with
      | .no=>.bad (n+i)
      | .dry nm=>.dry (n+i) nm
      | .st far=>rP sp (rows.drop (i+1)) (n+i+1) ((d+1) % sp.week) far) else .bad (n+i):=by
     rw[<- ejs];unfold rP;rw[wY,if_pos al]<;>rfl
    rw[wlk]at ew;have hN3:=s24 _ _ hN;refine⟨_,rfl,nl,_,rfl,.inl (cD.of hN3),_,rfl,by rw[ak];omega,by rw[ak];omega,λD2 hD2=>?_⟩;rw[show((cX sp).map V.str).length=sp.pots.length by rw[ak,lN]];have hw3:=hw;refine qT sp.pots.length (by omega) (λi acc H'=>acc=nats (Fo i js)/\H'=upd H3 D2 (.lst acc)) ⟨rfl,rfl⟩ (λi acc H' le ⟨ea,eh⟩=>⟨?_,by rw[eh,aF]⟩) ?_ ?_
    ·rw[ea];unfold nats;rw[ak];exact X8 _ _
    ·rintro acc H' ⟨rfl,rfl⟩;refine⟨(by show((sp.pots.length:Nat):Int).toNat<=sp.pots.length;omega),?_⟩;have z2:=aV (o:=.lst (nats (Fo sp.pots.length js))) hD2;have s5:=s24.trans z2;have hw5:=z2 _ _ hw;refine⟨D2,_,rfl,.inl (cD.of aF),_,rfl,D,_,rfl,.inl (cD.of hw5),_,_,rfl,rfl,_,rfl,?_⟩;rw[show(nats (Fo sp.pots.length js)).length=(Fo sp.pots.length js).length from ak ..,show(nats js).length=js.length from ak ..];obtain⟨le1,ah1⟩:=OD jb;have le2:=X8 sp.pots.length js
     by_cases nd:js.Nodup
     ·have e1:=ah1.mpr nd;rw[if_pos nd]at ew;rw[aD (show ¬(((Fo sp.pots.length js).length:Int)<(js.length:Int)) by omega)];refine cU ?_;refine⟨_,rfl,_,rfl,_,rfl,_,sp,u,d,ds,D,js,rfl,rs1.same s5,ok,st.same (s4.trans z2),dp,ld,hw5,jb,by omega,λH4 rr4 s6 hb=>?_⟩;have s7:=s5.trans s6;cases eb:fV (cX sp) sp.cans (gR sp.closed d) (cpsOf (d7 sp.pots) ds) js with
      |no =>
       rw[eb]at hb ew;cases hb;refine⟨_,rfl,rfl,_,rfl,dB ⟨_,rfl,_,rfl,_,_,rfl,rfl,by show 2<=sizeLine;decide,λt4 h4=>q _ t4 ((s1.trans s7).trans (aV h4)) ?_⟩⟩;rw[ew];exact aF
      |dry nm =>
       rw[eb]at hb ew;cases hb;refine⟨_,rfl,rfl,_,rfl,cU ⟨_,rfl,.str nm,.str,rfl,⟨_,rfl⟩,_,rfl,dB ⟨_,rfl,_,rfl,_,_,rfl,rfl,_,rfl,by show 3<=sizeLine;decide,λt4 h4=>q _ t4 ((s1.trans s7).trans (aV h4)) ?_⟩⟩⟩;rw[ew];exact aF
      |st far =>
       rw[eb]at hb ew;obtain⟨tr,y1,y2,rfl,htr,r1,r2⟩:=id hb;refine⟨_,rfl,rfl,_,rfl,cU ⟨_,rfl,.ref tr,.tup,rfl,⟨tr,_,rfl,htr⟩,_,rfl,cU ⟨_,rfl,?_⟩⟩⟩;refine⟨_,_,_,_,_,_,rfl,zR hb,Int.emod_nonneg _ (by have:=ok.w1;omega),?_,s7,?_⟩
       ·have:=O2 eb;rw[this,rC,lR (by rw[gW];exact ld),gW]
       ·rw[ew];rfl
     ·have ne1:(Fo sp.pots.length js).length≠js.length:=λz=>nd (ah1.mp z)
      rw[if_neg nd]at ew;rw[aK (show((Fo sp.pots.length js).length:Int)<(js.length:Int) by omega)];refine dB ⟨_,rfl,_,rfl,_,_,rfl,rfl,by show 2<=sizeLine;decide,λt4 h4=>q _ t4 ((s1.trans s5).trans (aV h4)) ?_⟩;rw[ew];exact aF
    ·rintro i2 acc H' Ad ⟨rfl,rfl⟩;refine⟨(by show i2<((sp.pots.length:Nat):Int).toNat;omega),?_⟩;rintro x sZ ⟨rfl,rfl⟩ Qc Qn k kn;have e1:(0+(i2:Int))=((i2:Nat):Int):=Int.zero_add _;rw[e1];have hw5:=aV (o:=.lst (nats (Fo i2 js))) hD2 _ _ hw;refine⟨jg,_,rfl,_,rfl,D,_,rfl,.inl (cD.of hw5),rfl,Ce js,_,rfl,?_⟩
     show if(inV (.int (i2:Int)) (nats js))=true then _ else _
     rw[Ed]
     by_cases m:i2∈js
     ·rw[aK m];refine dB ⟨_,rfl,k _ _ aF ⟨?_,by rw[lH]⟩⟩;rw[Ia,aK m];unfold nats;simp
     ·rw[aD m];refine cU (kn _ ⟨?_,rfl⟩);rw[Ia,aD m];simp
   ·have Ad:((r.filter λnm=>decide (nm∈cX sp)).length:Int)<(r.length:Int):=by
     have:=tV.mpr (show(r.all λnm=>decide (nm∈cX sp))=false by simpa using al);omega
    rw[aK Ad];have wlk:rP sp (r::rows.drop (i+1)) (n+i) d ds=.none (n+i):=by
     unfold rP;rw[wY,if_neg al]
    rw[wlk]at ew;refine dB ⟨_,rfl,_,rfl,_,_,rfl,rfl,by show 2<=sizeLine;decide,λt4 h4=>q _ t4 ((s1.trans s24).trans (aV h4)) ?_⟩;rw[ew];exact aF
  ·rintro σ H2 ⟨u,d,ds,u5,u6,u7,rfl,st,dp,ld,s2,ew⟩;rw[eG,drop_length]at ew;refine⟨_,rfl,by show 2<=sizeLine;decide,λt4 h4=>q _ t4 ((s1.trans s2).trans (aV h4)) ?_⟩;rw[ew];exact⟨u,aF,st.same (aV h4)⟩
abbrev wG:dI:=top 64
def al9(lr:aB)(H:Hp)(b:aB)(r:List Str):Prop:=b≠lr/\H b=some (.lst (r.map V.str))/\r.length<=20
inductive aeY(bw:Bool)(sp:jr)(H2:Hp)(t RL nl lr:aB)(n many i:Nat)(σ:St)(H':Hp):Prop
 |mk:∀(u:V)(d:Int)(ds:List Int)(ls:List aB)(rows:List (List Str))(u8 u9 u10 XR u12:Option V),σ=[some (.ref t),some (.ref RL),some (.int ((n:Nat):Int)),some (.int ((many:Nat):Int)),some (.bl bw),some (.ref nl),some u,some (.ref lr),u8,u9,u10,XR,u12]->jc H' u (d,ds)->0<=d->ds.length=sp.pots.length->H' lr=some (.lst (ls.map V.ref))->Paired (al9 lr H') ls rows->rows.length=i->Same H2 H'->aeY bw sp H2 t RL nl lr n many i σ H'
theorem abe(h:nameV (.str nm)=true):nm.length<=12:=by
 have e:nameV (.str nm)=(decide (1<=nm.length)&&decide (nm.length<=12)&&nm.cps.toList.all letter):=rfl;rw[e,Bool.and_eq_true,Bool.and_eq_true]at h;exact of_decide_eq_true h.1.2
theorem ama(xs:List V):uc xs none (some 2)=xs.take 2:=by
 unfold uc;rw[show(2:Int)=((2:Nat):Int) from rfl,HT.tZ];simp[HT.yH]
theorem Yc(w1:1<=sp.week)(ld:ds.length=sp.pots.length)(h:c∈tR sp d ds):0<=c.2.1/\c.2.2.length=sp.pots.length:=by
 unfold tR tH at h;obtain⟨q,hq,rfl⟩:=bM.mp h;obtain⟨j,_,hj⟩:=mem_filterMap.mp hq;refine⟨Int.emod_nonneg _ (by omega),?_⟩;unfold mj at hj
 split at hj
 ·rename_i far e
  cases hj
  show far.length=_
  rw[O2 e,rC,lR (by rw[gW];exact ld),gW]
 ·cases hj
def amb(t u:TS):TS:=λD σ H=>∃R:St->Hp->Prop,(∀σ' H',R σ' H'->u D σ' H')/\((∀σ' H',R σ' H'->u D σ' H')->t {D with nx:=u D} σ H)
theorem vG(h1:PS X st t)(h2:Ac X rest u):Ac X (st::rest) (amb t u):=λpins s σ H D I h=>by
 obtain⟨R,a,b⟩:=h;exact aL h1 h2 pins s σ H D I (b a)
abbrev aeZ:List Str:=["_law_spec_here","_law_script","_law_first","_law_many","_law_wild","_law_names","_law_state","_law_rows_here","_law_at","_law_cell","_law_steps_here","_law_row","_law_chosen"]
inductive Ez(K:Fg)(vs:List V)(H:Hp)(Q:VK)(jU:XK):Prop
 |mk:∀(v:V)(sp:jr)(RL:aB)(ns:List Int)(f many:Nat)(bw:Bool),vs=[v,.ref RL,.int ((f:Nat):Int),.int ((many:Nat):Int),.bl bw]->j8 H v sp->iG sp->cD K H RL (ns.map V.int)->many<=100->(∀H' l rows,Same H H'->fX H' (.ref l) rows->rows.length=many->(∀r∈rows,r.length<=20)->Q (.ref l) H')->Ez K vs H Q jU
theorem jQ:bY aeZ ["_law_spec_here","_law_script","_law_first","_law_many","_law_wild"] (aZ wG):=d9 (by decide +kernel)
theorem Yd(F:mH K "_law_rows" "_law_rows" wG f fd)(D:RJ K mg)(Bh':Fn K "_law_behind" "_law_behind" lV ["_law_spec_here","_law_state","_law_wet"] fb db)(mB:mg "_law_behind"=some (.ref fb))(St':Fn K "_law_steps" "_law_steps" wD ["_law_spec_here","_law_state"] fst dst)(mSt:mg "_law_steps"=some (.ref fst)) : cM P w K mg base (fY P w) 3 f fd ["_law_spec_here","_law_script","_law_first","_law_many","_law_wild"] (Ez K):=by
 refine F.lY jQ (λvs H Q E h=>?_) (λcdv A outer s H vs Q E hr h=>?_)
 ·obtain⟨v,sp,RL,ns,n,many,bw,rfl,_⟩:=h;rfl
 ·obtain⟨v,sp,RL,ns,n,many,bw,rfl,rs,ok,amd,lm,q⟩:=h;have B:=D.B;obtain⟨fc,dc,cF,mC⟩:=D.ce;obtain⟨fr,dr,rF,mR⟩:=D.dr;have uN:cM P w K mg base (fY P w) 1 fc dc ["_law_script","_law_k"] (zN K):=Ep cF.F B;have Ru:cM P w K mg base (fY P w) 1 fr dr ["_law_cell","_law_k","_law_many"] Eu:=Ov rF.F;have nu:cM P w K mg base (fY P w) 2 fst dst ["_law_spec_here","_law_state"] Ey:=X7 St'.F B Bh' mB;have hr1:eZ 1 _:=hr.mono (by decide);have hr2:eZ 2 _:=hr.mono (by decide);have kR:=rF.F.kp;have bR:=rF.b;have nd1:[("_law_name":Str)].Nodup:=by decide +kernel
  have Ko:[("_law_name":Str),"_law_gap","_law_rest"].Nodup:=by decide +kernel
  have Rh:[("_law_name":Str),"_law_cell"].Nodup:=by decide +kernel
  have ame:[("_law_k":Str),"_law_chosen","_law_names"].Nodup:=by decide +kernel
  refine⟨_,aL (bL (i:=5) jQ.nd rfl (Or.inr rfl) (gG bN rfl ⟨_,_,rfl,rfl,rfl⟩ (gY.plain (N':=["_law_name","_law_gap","_law_rest"]) rfl (by decide +kernel) (by decide +kernel)) (fK (cH cQ (pv 0) aP (λ_ _=>rfl))) (λ_ _ _ _ _=>qH K (n:=3) rfl (cj (cR 0 Ko) (cj (cR 1 Ko) (cj (cR 2 Ko) gK)))) (λ_ _ _ _ _=>gM) (λ_ _ _ _ _ _=>pv 0))) (aL (bL (i:=6) jQ.nd rfl (Or.inl rfl) (d8 (ao aP (ao (qD jF B.tuple PyProof.Rows.boot_tuple (ao (gG bN rfl ⟨_,_,rfl,rfl,rfl⟩ (gY.plain (N':=["_law_name"]) rfl (by decide +kernel) (by decide +kernel)) (fK (pv 5)) (λ_ _ _ _ _=>cR 0 nd1) (λ_ _ _ _ _=>gM) (λ_ _ _ _ _ _=>aP)) aG)) aG)))) (aL (bL (i:=7) jQ.nd rfl (Or.inl rfl) (gH aG)) (aL (ju fM rfl (jz rfl B.range (ao (pv 3) aG)) (cR 8 jQ.nd) (aL (bL (i:=9) jQ.nd rfl (Or.inr rfl) (cg gw (c7 uN hr1 mC cF.F.kp cF.b bB (ao (pv 1) (ao (cg gw (pv 2) (pv 8)) aG))) (cg rW aP (pv 8)))) (aL (bL (i:=10) jQ.nd rfl (Or.inl rfl) (c7 nu hr2 mSt St'.F.kp St'.b bB (ao (pv 0) (ao (pv 6) aG)))) (aL (bL (i:=11) jQ.nd rfl (Or.inl rfl) (jh jO (gG bN rfl ⟨_,_,rfl,rfl,rfl⟩ (iw (N':=["_law_name","_law_cell"]) (cl:=[("_law_cell",s.heap.objs.size+2)]) [none,some 9] aeZ (aZ wG).names [(".0",.local),("_law_name",.local),("_law_draw",.globalImplicit),("len",.globalImplicit),("_law_cell",.cell)] ["_law_cell"] rfl (by decide +kernel) (by decide +kernel) rfl (λp hp=>by rw[aH.mp hp];rfl) rfl rfl rfl rfl (by decide +kernel) rfl (by decide +kernel)) (fK (pv 5)) (λ_ _ _ _ _=>cR 0 Rh) (λ_ _ _ _ _=>mZ (cu iQ (c7 Ru hr1 mR kR bR bB (ao (pv 1) (ao (eO ug B.len PySem.boot_len (ao (pv 0) aG)) (ao aP aG)))) aP (cN _))) (λ_ _ _ _ _ _=>pv 0)) jM (jN aP))) (vG (dZ (pw_and (cu (JG hr.units) (pv 10) (gH aG) (cN _)) (pw_and1 (cu Ba (c7 Ru hr1 mR kR bR bB (ao (pv 9) (ao aP (ao aP aG)))) aP (cN _)))).pt (aL (rT (cH iW (pv 10) (c7 Ru hr1 mR kR bR bB (ao (pv 9) (ao aP (ao (eO bT B.len PySem.boot_len (ao (pv 10) aG)) aG)))) (λ_ _=>rfl)) (nJ rfl (cj (cR 12 jQ.nd rfl (Or.inr rfl)) (cj (cR 6 jQ.nd) gK)))) (aU (oE (i:=11) jQ.nd rfl (Or.inl rfl) bN rfl ⟨_,_,rfl,rfl,rfl⟩ (iw (N':=["_law_k","_law_chosen","_law_names"]) (cl:=[("_law_names",s.heap.objs.size+1),("_law_chosen",s.heap.objs.size+3)]) [none,some 12,some 5] aeZ (aZ wG).names [(".0",.local),("_law_k",.local),("_law_chosen",.cell),("_law_names",.cell)] ["_law_names","_law_chosen"] rfl (by decide +kernel) (by decide +kernel) rfl (λp hp=>by simp only[aR,not_mem_nil,or_false]at hp;rcases hp with rfl|rfl<;>rfl) rfl rfl rfl rfl (by decide +kernel) rfl (by decide +kernel)) (jz rfl B.range (ao (eO bT B.len PySem.boot_len (ao (pv 5) aG)) aG)) (λ_ _ _ _ _=>cR 0 ame) (λ_ _ _ _ _=>mZ (cu iQ (cg CP (cg CN (pv 1) (pv 0)) aP) aP (cN _))) (λ_ _ _ _ _ _=>cH (uI K) (pv 2) (pv 0) (λ_ _=>rfl))))) bZ) (vG (dZ (pw_and (eX (pv 4)) (pw_and1 (cu iQ (c7 Ru hr1 mR kR bR bB (ao (pv 9) (ao aP (ao aP aG)))) aP (cN _)))).pt (aU (bL (i:=11) jQ.nd rfl (Or.inl rfl) (cg sX (pv 11) (cH cQ (d8 (ao (gH (ao (cH iW (pv 5) aP (λ_ _=>rfl)) aG)) (ao (gH (ao eY aG)) (ao (gH (ao (cH iW (pv 5) aP (λ_ _=>rfl)) (ao (cH iW (pv 5) aP (λ_ _=>rfl)) (ao eY aG)))) aG)))) (cg gO (pv 9) aP) (λ_ _=>rfl))))) bZ) (aU (gJ (mL PySem.F.plainAttrs_list PySem.F.slot_list_append PySem.F.type_list_append iu (pv 7) (ao (nH (cu iQ (cg gO (pv 9) aP) aP (cN _)) (ZG (pv 11)) (pv 11)) aG)))))))))) (aU (bU (pv 7)))))),?_⟩;obtain⟨t,l,rfl,ht,rl⟩:=id rs;obtain⟨_,vs,el,hv,Jg⟩:=id rl;cases el;have n8:=ok.n8;have n1:=ok.n1;have big:1000<=sizeLine:=by decide
  refine⟨_,rfl,t,_,0,.ref l,rfl,rfl,dY.of ht,rfl,l,rfl,⟨_,cD.of hv⟩,λnl hnl=>?_⟩;refine nW jt lQ (λq=>q.1) rl (by omega) hnl ?_ ?_
  ·rintro i c v H2 hc ⟨t',u1,u2,u3,rfl,ht',r1,r2,r3⟩ s2 Qc k;cases r1;exact⟨t',_,rfl,dY.of ht',rfl,_,_,rfl,_,_,rfl,_,_,rfl,rfl,nZ,_,rfl,k _ _ (Same.refl _) rfl⟩
  intro H1 s1 rN;obtain⟨nl',nvs,en,hN,pN⟩:=id rN;cases en;have eN:=rB pN;rw[show(sp.pots.map λq=>q.1)=cX sp from rfl]at eN rN;subst eN;have lN:(cX sp).length=sp.pots.length:=ak ..;have amf:∀nm∈cX sp,nm.length<=12:=λnm h=>by
   obtain⟨q,hq,rfl⟩:=bM.mp h;exact abe (ok.row q hq).nm
  refine⟨_,rfl,nl,rfl,⟨_,cD.of hN⟩,λD0 hD0=>?_⟩;refine nW lQ iY (λ_=>(0:Int)) rN (by omega) hD0 ?_ ?_
  ·intro i c v H2 hc rv s2 Qc k;exact⟨gD,k _ _ (Same.refl _) rfl⟩
  intro H1' s1' rZ;obtain⟨D0',zvs,ez,hZ,pZ⟩:=id rZ;cases ez;refine⟨D0,_,rfl,.inl ⟨cD.of hZ,λtt htt=>⟨by show 2<=sizeLine;decide,λt0 ht0=>?_⟩⟩⟩;have w1:=aV (o:=.tup zvs) htt;have w2:=aV (o:=.tup [V.int 0,.ref tt]) ht0;generalize hH2:upd (upd H1' tt (.tup zvs)) t0 (.tup [V.int 0,.ref tt])=H2;have st2:jc H2 (.ref t0) (0,(cX sp).map λ_=>(0:Int)):=by
   rw[<- hH2];exact⟨t0,_,_,rfl,aF,rfl,tt,_,rfl,w2 _ _ aF,Paired.iB pZ λ_ _ z=>z⟩
  have Y7:Same H1 H2:=by rw[<- hH2];exact(s1'.trans w1).trans w2
  have hN2:=Y7 _ _ hN;have s0:=s1.trans Y7;have ah2:=s0.seq amd;have rs2:=rs.same s0;refine⟨by show 0<=sizeLine;decide,λlr hlr=>?_⟩;have wl:=aV (o:=.lst []) hlr;refine⟨_,rfl,_,rfl,by omega,by omega,?_⟩;refine oV (lo:=0) (n:=((many:Nat):Int).toNat) (λi σ H'=>aeY bw sp H2 t RL nl lr n many i σ H') ⟨.ref t0,0,_,[],[],none,none,none,none,none,rfl,jd.same st2 wl,by decide,by rw[ak,lN],aF,.nil,rfl,wl⟩ ?_ ?_
  ·rintro i σ H3 lt ⟨u,d,ds,ls,rows,u8,u9,u10,XR,u12,rfl,st,dp,ld,hl3,pr,lrw,s3⟩;have e0:(0+(i:Int))=((i:Nat):Int):=Int.zero_add _;rw[e0];refine⟨_,rfl,_,rfl,_,rfl,_,_,rfl,rfl,RL,ns,n+i,rfl,s3.seq ah2,_,rfl,_,_,rfl,rfl,.inl ⟨by decide,by decide⟩,_,_,rfl,rfl,?_⟩;obtain⟨cell,hcell⟩:∃c:Int,V.int (ns.getD (n+i) 0+7*(i:Int))=V.int c:=⟨_,rfl⟩;rw[hcell];refine⟨_,rfl,_,rfl,_,sp,u,d,ds,rfl,rs2.same s3,ok,zR st,dp,ld,λH4 l4 s4 rl4=>?_⟩;have hN4:=s4 _ _ (s3 _ _ hN2);have rN4:jD xG H4 (.ref nl) (cX sp):=⟨nl,_,rfl,hN4,N8 _⟩;refine⟨_,rfl,nl,rfl,⟨_,cD.of hN4⟩,λD hD=>?_⟩;refine yV lQ lQ (λnm=>decide (pQ cell nm.length 2=0)) (λnm=>nm) rN4 (by omega) hD ?_ ?_
   ·intro j nm v5 H5 hj rv s5 Qc Qn k kn;cases rv;have lnm:=amf nm (aQ hj);refine⟨jg,_,rfl,_,rfl,nm,rfl,by omega,cell,_,2,rfl,by decide,λH6 s6=>⟨rfl,_,rfl,?_⟩⟩
    by_cases z:pQ cell nm.length 2=0
    ·exact eqT z ⟨_,rfl,k (aK z) _ _ s6 rfl⟩
    ·exact eqF z (kn (aD z) _ s6)
   intro H5 s5 r5;obtain⟨D',rvs,eD,hr5,p5⟩:=r5;cases eD;have e5:=rB p5;rw[map_id' _]at e5;generalize er:(cX sp).filter (λnm=>decide (pQ cell nm.length 2=0))=r5 at e5;have lr5:r5.length<=8:=by
    rw[<- er];exact bx (length_filter_le _ _) (by omega)
   subst e5;refine⟨_,rfl,D,_,rfl,cD.of hr5,λrb hrb=>?_⟩;rw[ama,<- map_take];have w5:=aV (o:=.lst ((r5.take 2).map V.str)) hrb;have s35:=(s4.trans s5).trans w5;have nrb:rb≠lr:=λz=>by
    have:=(s4.trans s5) _ _ hl3;rw[<- z,hrb]at this;cases this
   refine⟨λσ' H'=>∃(rb:aB)(r:List Str)(u:V)(d:Int)(ds:List Int)(u12:Option V),σ'=[some (.ref t),some (.ref RL),some (.int ((n:Nat):Int)),some (.int ((many:Nat):Int)),some (.bl bw),some (.ref nl),some u,some (.ref lr),some (.int (i:Int)),some (.int cell),some (.ref l4),some (.ref rb),u12]/\jc H' u (d,ds)/\0<=d/\ds.length=sp.pots.length/\Same H3 H'/\rb≠lr/\H' rb=some (.lst (r.map V.str))/\r.length<=8,?_,?_⟩
   ·
    clear st dp ld s35 w5 nrb hrb rb hr5 p5 s5 H5 D hD rN4 hN4 rl4 s4 H4;rintro σ' H4 ⟨rb,r,u,d,ds,u12,rfl,st,dp,ld,s4,nrb,hrb,lrb⟩;have hN4:=s4 _ _ (s3 _ _ hN2);refine⟨λσ' H'=>∃(rb:aB)(r:List Str),σ'=[some (.ref t),some (.ref RL),some (.int ((n:Nat):Int)),some (.int ((many:Nat):Int)),some (.bl bw),some (.ref nl),some u,some (.ref lr),some (.int (i:Int)),some (.int cell),some (.ref l4),some (.ref rb),u12]/\Same H4 H'/\rb≠lr/\H' rb=some (.lst (r.map V.str))/\r.length<=20,?_,?_⟩
    ·clear nrb hrb lrb r rb;rintro σ' H5 ⟨rb,r,rfl,s5,nrb,hrb,lrb⟩;have s35:=s4.trans s5;have hl5:=s35 _ _ hl3;have ll:ls.length=i:=by rw[Paired.length pr];exact lrw
     have fin:∀H6 rx (r':List Str),Same H5 H6->rx≠lr->H6 rx=some (.lst (r'.map V.str))->r'.length<=20->aeY bw sp H2 t RL nl lr n many (i+1) [some (.ref t),some (.ref RL),some (.int ((n:Nat):Int)),some (.int ((many:Nat):Int)),some (.bl bw),some (.ref nl),some u,some (.ref lr),some (.int (i:Int)),some (.int cell),some (.ref l4),some (.ref rb),u12] (upd H6 lr (.lst (ls.map V.ref++[.ref rx]))):=by
      intro H6 rx r' s6 nrx hrx lrx;have hl6:=s6 _ _ hl5;have s36:=s35.trans s6;refine⟨u,d,ds,ls++[rx],rows++[r'],_,_,_,_,_,rfl,jd.upd (jd.same st (s5.trans s6)) hl6,dp,ld,by rw[aF,aX];rfl,?_,by rw[aY,lrw];rfl,ji (s3.trans s36) hlr⟩;refine jV (Paired.iB pr λb r h=>?_) (.cons ?_ .nil)
      ·exact⟨h.1,by rw[bf h.1];exact s36 _ _ h.2.1,h.2.2⟩
      ·exact⟨nrx,by rw[bf nrx];exact hrx,lrx⟩
     have lz:(ls.map V.ref).length<sizeLine:=by rw[ak,ll];omega
     refine⟨_,rfl,.inl ⟨rfl,_,cD.of hl5⟩,_,rfl,_,_,rfl,rfl,(by show(0:Int)<3;decide),rfl,_,rfl,?_⟩
     by_cases z:cell % 3=0
     ·refine eqT z ⟨_,rfl,rb,_,rfl,cD.of hrb,λq hq=>⟨lr,_,_,rfl,rfl,aV hq _ _ hl5,lz,?_⟩⟩;have nq:q≠lr:=λz=>by rw[z,hl5]at hq;cases hq
      exact fin _ q r.reverse (aV hq) nq (by rw[aF,List.map_reverse]) (by rw[length_reverse];exact lrb)
     ·exact eqF z ⟨_,rfl,lr,_,_,rfl,rfl,hl5,lz,fin _ rb r (Same.refl _) nrb hrb lrb⟩
    ·intro fin;cases bw with
     |false=>exact⟨_,rfl,false,rfl,cU (cU (fin _ _ ⟨rb,r,rfl,Same.refl _,nrb,hrb,by omega⟩))⟩
     |true =>
     refine⟨_,rfl,true,rfl,dB ⟨_,rfl,cell,7,12,rfl,by decide,λH5 s5=>⟨rfl,_,rfl,?_⟩⟩⟩;have hN5:=s5 _ _ hN4
     by_cases z:pQ cell 7 12=0
     ·obtain⟨n0,hn0⟩:∃n0,(cX sp)[0]?=some n0:=⟨(cX sp)[0]'(by omega),aA _⟩;have at0:((cX sp).map V.str)[0]?=some (.str n0):=by rw[aJ,hn0];rfl
      have a0:Uc ((cX sp).map V.str) 0=some (.str n0):=gU (j:=0) at0;refine eqT z ?_;refine⟨_,rfl,_,rfl,nl,_,0,.str n0,rfl,rfl,cD.of hN5,a0,by show 1<=sizeLine;decide,λl1 h1=>⟨by show 1<=sizeLine;decide,λl2 h2=>?_⟩⟩;have v1:=aV (o:=.lst [V.str n0]) h1;have v2:=aV (o:=.lst [V.str "zz"]) h2;have hN7:=v2 _ _ (v1 _ _ hN5);refine⟨_,rfl,nl,_,0,.str n0,rfl,rfl,cD.of hN7,a0,_,rfl,nl,_,0,.str n0,rfl,rfl,cD.of hN7,a0,by show 3<=sizeLine;decide,λl3 h3=>⟨by show 3<=sizeLine;decide,λt3 h4=>?_⟩⟩;have v3:=aV (o:=.lst [V.str n0,.str n0,.str "zz"]) h3;have v4:=aV (o:=.tup [V.ref l1,.ref l2,.ref l3]) h4;generalize hH9:upd (upd (upd (upd H5 l1 (.lst [V.str n0])) l2 (.lst [V.str "zz"])) l3 (.lst [V.str n0,.str n0,.str "zz"])) t3 (.tup [V.ref l1,.ref l2,.ref l3])=H9;have s59:Same H5 H9:=by rw[<- hH9];exact((v1.trans v2).trans v3).trans v4
      have e9:∃(lx:aB)(zs:List Str),Uc [V.ref l1,.ref l2,.ref l3] (cell % 3)=some (.ref lx)/\H9 lx=some (.lst (zs.map V.str))/\zs.length<=3:=by
       have hm:cell % 3=0\/cell % 3=1\/cell % 3=2:=by omega
       rcases hm with e|e|e<;>rw[e]
       ·exact⟨l1,[n0],rfl,by rw[<- hH9];exact(v2.trans (v3.trans v4)) _ _ aF,by simp⟩
       ·exact⟨l2,["zz"],rfl,by rw[<- hH9];exact(v3.trans v4) _ _ aF,by decide⟩
       ·exact⟨l3,[n0,n0,"zz"],rfl,by rw[<- hH9];exact v4 _ _ aF,by simp⟩
      have ht9:H9 t3=some (.tup [V.ref l1,.ref l2,.ref l3]):=by rw[<- hH9,aF]
      obtain⟨lx,zs,ex,hx9,lzs⟩:=e9;refine⟨_,rfl,_,_,rfl,rfl,(by show(0:Int)<3;decide),t3,_,_,_,rfl,rfl,dY.of ht9,ex,rb,lx,_,_,rfl,rfl,(s5.trans s59) _ _ hrb,hx9,by rw[ak,ak];omega,λp hp=>?_⟩;have np:p≠lr:=λz=>by rw[z,(s4.trans (s5.trans s59)) _ _ hl3]at hp;cases hp
      exact fin _ _ ⟨p,r++zs,rfl,(s5.trans s59).trans (aV hp),np,by rw[aF,aX],by rw[aY];omega⟩
     ·exact eqF z (fin _ _ ⟨rb,r,rfl,s5,nrb,s5 _ _ hrb,by omega⟩)
   ·intro fin;obtain⟨_,vs4,e4,hv4,p4⟩:=id rl4;cases e4;have s45:=s5.trans w5;have hv5:=s45 _ _ hv4;have Tg:=jd.same st s35;refine⟨_,rfl,by show 0<=sizeLine;decide,λl5 h5=>⟨l4,l5,vs4,[],0,λ_=>true,rfl,rfl,cD.of (aV h5 _ _ hv5),cD.of aF,by decide,(λ_ j x y _ hy=>by simp at hy),λle=>⟨false,?_,cU (cU ?_)⟩,λne=>⟨true,rfl,dB ?_⟩⟩⟩
    ·simp
    ·have w6:=aV (o:=.lst []) h5;exact fin _ _ ⟨rb,r5.take 2,u,d,ds,_,rfl,jd.same Tg w6,dp,ld,s35.trans w6,nrb,w6 _ _ aF,by rw[length_take];omega⟩
    have w6:=aV (o:=.lst []) h5;have l4p:0<vs4.length:=by
     have:vs4.length≠0:=ne;omega
    refine⟨_,rfl,cell,5,8,rfl,by decide,λH6 s6=>⟨_,_,rfl,rfl,_,rfl,?_⟩⟩;have s36:=s35.trans (w6.trans s6);have hv6:=(w6.trans s6) _ _ hv5
    by_cases z:0<pQ cell 5 8
    ·rw[aK z];refine dB ?_;refine⟨_,rfl,_,rfl,_,rfl,l4,_,rfl,.inl (cD.of hv6),cell,6,_,rfl,by omega,λH7 s7=>?_⟩;have s37:=s36.trans s7;have d0:=Es cell 6 (m:=((vs4.length:Nat):Int)) (by omega);have d1:=Et cell 6 (m:=((vs4.length:Nat):Int)) (by omega);obtain⟨jn,ej⟩:∃jn:Nat,pQ cell 6 ((vs4.length:Nat):Int)=(jn:Int):=⟨(pQ cell 6 ((vs4.length:Nat):Int)).toNat,by omega⟩;have lv4:vs4.length=(tR sp d ds).length:=Paired.length p4;obtain⟨c,hc⟩:∃c,(tR sp d ds)[jn]?=some c:=⟨(tR sp d ds)[jn]'(by omega),aA _⟩;obtain⟨cv,hcv,rc⟩:=oh p4 hc;have cok:=Yc ok.w1 ld (aQ hc);have rc7:=j5.same rc (s45.trans ((w6.trans s6).trans s7));obtain⟨tc,c1,c2,rfl,htc,rc1,rc2⟩:=id rc7;cases rc1;refine⟨l4,_,_,_,rfl,rfl,cD.of (s7 _ _ hv6),?_,tc,_,rfl,dY.of htc,rfl,_,_,rfl,_,_,rfl,rfl,?_⟩
     ·rw[ej];exact gU hcv
     have hN7:=s37 _ _ (s3 _ _ hN2);refine⟨_,rfl,nl,_,rfl,.inl (cD.of hN7),_,rfl,by rw[ak];omega,by rw[ak];omega,λD2 hD2=>?_⟩;rw[show((cX sp).map V.str).length=sp.pots.length by rw[ak,lN]];refine o7 (R:=Ro) (S:=xG) lQ (xs:=List.range sp.pots.length) (λk=>gR c.1 (k:Int)) (λk=>(cX sp).getD k "") (λ_=>True) (by rw[bK];omega) hD2 (λk H' lt _=>by rw[bK]at lt;show k<((sp.pots.length:Nat):Int).toNat;omega) (λH' _=>by rw[bK];show((sp.pots.length:Nat):Int).toNat<=sp.pots.length;omega) ?_ ?_ ?_
     ·rintro k x v H8 H9 hx _ ⟨rfl,rfl⟩;rw[List.getElem?_range (by have:=(aM.mp hx).1;rw[bK]at this;exact this)]at hx;cases hx;exact⟨Same.refl _,by show V.int (0+(k:Int))=V.int (k:Int);rw[Int.zero_add]⟩
     ·intro k x v H8 hx rv s8 Qc Qn kk kn;cases rv;have lx:x<sp.pots.length:=mem_range.mp (aQ hx);refine⟨jg,_,rfl,_,rfl,_,_,rfl,rfl,(by show(0:Int)<=(x:Int);omega),_,_,rfl,rfl,rfl,_,rfl,?_⟩;rw[aaG]
      show if gR c.1 (x:Int)=true then _ else _
      cases hb:gR c.1 (x:Int) with
      |true =>
       have ha:((cX sp).map V.str)[x]?=some (.str ((cX sp).getD x "")):=by
        rw[aJ,aA (by omega)];simp[lx]
       exact dB ⟨_,rfl,_,rfl,nl,_,_,_,rfl,rfl,cD.of (s8 _ _ hN7),gU ha,kk hb trivial _ _ (Same.refl _) rfl⟩
      |false=>exact cU (kn hb _ (Same.refl _))
     intro H8 s8 _ r8;obtain⟨D2',vs8,e8,hv8,p8⟩:=r8;cases e8;have e8:=rB p8;subst e8;have nD:D2≠lr:=λz=>by rw[z,s37 _ _ hl3]at hD2;cases hD2
     refine fin _ _ ⟨D2,_,c2,c.2.1,c.2.2,_,rfl,jd.same rc2 s8,cok.1,cok.2,s37.trans s8,nD,hv8,?_⟩;rw[ak];exact bx (length_filter_le _ _) (by rw[bK];exact n8)
    ·rw[aD z];exact cU (fin _ _ ⟨rb,r5.take 2,u,d,ds,_,rfl,jd.same Tg (w6.trans s6),dp,ld,s36,nrb,(w6.trans s6) _ _ aF,by rw[length_take];omega⟩)
  ·rintro σ H3 ⟨u,d,ds,ls,rows,u8,u9,u10,XR,u12,rfl,st,dp,ld,hl3,pr,lrw,s3⟩;refine⟨_,rfl,q H3 lr rows (s0.trans s3) ⟨lr,ls,rfl,hl3,Paired.iB pr λ_ _ z=>z.2.1⟩ (by rw[lrw];simp) λr hr=>?_⟩;obtain⟨k,hk⟩:=mem_iff_getElem?.mp hr;obtain⟨b,_,hb⟩:=oh pr hk;exact hb.2.2
theorem abg(K:Fg)(hu:X.A.units+64<cLine)(hK:autoParam (X.K=K) zau0):oW X (compareOp .Eq) (Qj K false):=by
 subst hK;exact Uy hu
abbrev O3:dI:=top 65
theorem iG.gk(ok:iG sp):Eh (iU sp) := ⟨by have:=ok.w1;show 0<sp.week;omega,ok.c1,by show(d7 sp.pots).length<=8;rw[gW];exact ok.n8,ok.nu,Int.le_trans ok.sz (by decide)⟩
theorem iG.szb(ok:iG sp):iz (iU sp)<=4000:=by
 have h:sizeOf sp.week (d7 sp.pots)<=4000:=ok.sz
 show(sizeOf sp.week (d7 sp.pots)).toNat<=4000
 omega
theorem O4(sp:jr):iT (iU sp)=rP sp:=by
 unfold iT rP;rw[aeV];rfl
noncomputable def REv(H:Hp)(t:aB):Ev->Prop
 | .ever n=>H t=some (.tup [.str "ever",.int (n:Nat)])
 | .dry n nm=>H t=some (.tup [.str "dry",.int (n:Nat),.str nm])
 | .bad n=>H t=some (.tup [.str "bad",.int (n:Nat)])
 | .none n=>H t=some (.tup [.str "none",.int (n:Nat)])
theorem Ib.to(h:Ib H t k)(s:Same H H'):Ib H' t k:=by
 cases k with
 |kept d ds =>
  obtain⟨u,h1,h2⟩:=h;exact⟨u,s _ _ h1,h2.same s⟩
 |dry n nm=>exact s _ _ h
 |bad n=>exact s _ _ h
 |none n=>exact s _ _ h
theorem ae2(h:jy H v d ds):jc H v (d,ds):=by
 obtain⟨t,u,rfl,h1,h2⟩:=h;exact⟨t,_,_,rfl,h1,rfl,u,_,rfl,h2,qL _ _⟩
theorem O5(H:Hp)(v:V)(c:Int×List Int)(h:jc H v c):∃t,v=.ref t:=by
 obtain⟨t,_,_,rfl,_⟩:=h;exact⟨t,rfl⟩
abbrev ami:List Str:=["_law_spec_here","_law_lead","_law_rows_here","_law_fresh","_law_due_here","_law_met","_law_at"]
inductive DJ(H:Hp)(v lv rv u3:V)(lM:aB)(sp:jr)(lead rows:List (List Str))(k0:Wk)(i:Nat)(σ:St)(H':Hp):Prop
 |mk:∀(td:aB)(k:Wk)(met:List NK)(vs:List V),σ=[some v,some lv,some rv,some u3,some (.ref td),some (.ref lM),some (.int ((lead.length+i*rows.length:Nat):Int))]->Same H H'->H' lM=some (.lst vs)->Paired (jc H') vs met->met.Nodup->(∀s∈met,jf (iU sp).week (iU sp).pots s.1 s.2)->met.length=i->Ib H' td k->((∀d ds,k=.kept d ds->jf (iU sp).week (iU sp).pots d ds))->Ji (λm s=>iT (iU sp) rows m s.1 s.2) rows.length (iz (iU sp)+1-i) (lead.length+i*rows.length) k met=Ji (λm s=>iT (iU sp) rows m s.1 s.2) rows.length (iz (iU sp)+1) lead.length k0 []->DJ H v lv rv u3 lM sp lead rows k0 i σ H'
theorem acC:ur K 2 jc:=ZK eq_int (ZJ eq_int)
inductive Ye(vs:List V)(H:Hp)(Q:VK)(jU:XK):Prop
 |mk:∀v sp lv lead rv rows,vs=[v,lv,rv]->j8 H v sp->iG sp->fX H lv lead->lead.length<=9000->(∀r∈lead,r.length<=1000)->fX H rv rows->rows.length<=9000->(∀r∈rows,r.length<=1000)->(∀H' t,Same H H'->REv H' t (Hz (iU sp) lead rows)->Q (.ref t) H')->Ye vs H Q jU
theorem zU:bY ami ["_law_spec_here","_law_lead","_law_rows_here"] (aZ O3):=d9 (by decide +kernel)
theorem ae3(F:mH K "_law_due" "_law_due" O3 f fd)(B:Tj mg)(wF:Fn K "_law_walked" "_law_walked" pO ["_law_spec_here","_law_rows_here","_law_state","_law_first"] fw dw)(mW:mg "_law_walked"=some (.ref fw))(bF:Fn K "_law_behind" "_law_behind" lV ["_law_spec_here","_law_state","_law_wet"] fb db)(mB:mg "_law_behind"=some (.ref fb)):cM P w K mg base (fY P w) 3 f fd ["_law_spec_here","_law_lead","_law_rows_here"] Ye:=by
 refine F.lY zU (λvs H Q E h=>?_) (λcdv A outer s H vs Q E hr h=>?_)
 ·obtain⟨v,sp,lv,lead,rv,rows,rfl,_⟩:=h;rfl
 ·obtain⟨v,sp,lv,lead,rv,rows,rfl,rs,ok,rl,ll,llr,rr,lr,lrr,q⟩:=h;have okw:cM P w K mg base (fY P w) 2 fw dw ["_law_spec_here","_law_rows_here","_law_state","_law_first"] zT:=RK wF.F B bF mB;have kW:=wF.F.kp;have bW:=wF.b;have nd1:[("_law_one":Str)].Nodup:=by decide +kernel
  refine⟨_,aL (bL (i:=3) zU.nd rfl (Or.inl rfl) (d8 (ao aP (ao (qD jF B.tuple PyProof.Rows.boot_tuple (ao (gG bN rfl ⟨_,_,rfl,rfl,rfl⟩ (gY.plain (N':=["_law_one"]) rfl (by decide +kernel) (by decide +kernel)) (fK (cH cQ (pv 0) aP (λ_ _=>rfl))) (λ_ _ _ _ _=>cR 0 nd1) (λ_ _ _ _ _=>gM) (λ_ _ _ _ _ _=>aP)) aG)) aG)))) (aL (bL (i:=4) zU.nd rfl (Or.inl rfl) (c7 okw hr mW kW bW bB (ao (pv 0) (ao (pv 1) (ao (pv 3) (ao aP aG)))))) (vG (dZ (pw_or (cu iQ (cH cQ (pv 4) aP (λ_ _=>rfl)) eY (cN _)) (pw_or1 (cu iQ (cH cQ (pv 4) aP (λ_ _=>rfl)) eY (cN _)))).pt (aU (bU (pv 4))) bZ) (aL (dZ (cu (Uy hr.units) (pv 2) (gH aG) (cN _)) (aU (bU (d8 (ao eY (ao (eO bT B.len PySem.boot_len (ao (pv 1) aG)) aG))))) bZ) (aL (bL (i:=5) zU.nd rfl (Or.inl rfl) (gH aG)) (aL (bL (i:=6) zU.nd rfl (Or.inl rfl) (eO bT B.len PySem.boot_len (ao (pv 1) aG))) (aL (tX fM (pw_and (cu iQ (cH cQ (pv 4) aP (λ_ _=>rfl)) eY (cN _)) (pw_and1 (cu (QS (R:=jc) (acC (K:=K)) (by decide) hr.units O5) (cH cQ (pv 4) aP (λ_ _=>rfl)) (pv 5) rfl))).pt (aL (gJ (mL PySem.F.plainAttrs_list PySem.F.slot_list_append PySem.F.type_list_append iu (pv 5) (ao (cH cQ (pv 4) aP (λ_ _=>rfl)) aG))) (aL (bL (i:=4) zU.nd rfl (Or.inl rfl) (c7 okw hr mW kW bW bB (ao (pv 0) (ao (pv 2) (ao (cH cQ (pv 4) aP (λ_ _=>rfl)) (ao (pv 6) aG)))))) (aU (bL (i:=6) zU.nd rfl (Or.inl rfl) (cg gw (pv 6) (eO bT B.len PySem.boot_len (ao (pv 2) aG)))))))) (aL (dZ (cu iQ (cH cQ (pv 4) aP (λ_ _=>rfl)) eY (cN _)) (aU (bU (d8 (ao eY (ao (cg pY (eO bT B.len PySem.boot_len (ao (pv 5) aG)) (mL PySem.F.plainAttrs_list PySem.F.slot_list_index PySem.F.type_list_index (QT (R:=jc) (acC (K:=K)) (by decide) hr.units O5) (pv 5) (ao (cH cQ (pv 4) aP (λ_ _=>rfl)) aG))) aG))))) bZ) (aU (bU (pv 4)))))))))),?_⟩;have gk:=ok.gk;have sz:=ok.szb;have big:20000*257<=sizeLine:=by decide
  have n8:=ok.n8;obtain⟨tv,lp,rfl,htv,rlp⟩:=id rs;obtain⟨_,ps,el,hps,pps⟩:=id rlp;cases el;have lps:ps.length=sp.pots.length:=Paired.length pps;refine⟨_,rfl,tv,_,0,.ref lp,rfl,rfl,dY.of htv,rfl,lp,rfl,⟨_,cD.of hps⟩,λD0 hD0=>?_⟩;refine nW jt iY (λ_=>(0:Int)) rlp (by omega) hD0 ?_ ?_
  ·intro i c v H2 hc rv s2 Qc k;exact⟨gD,k _ _ (Same.refl _) rfl⟩
  intro H1 s1 rZ;obtain⟨D0',zvs,ez,hZ,pZ⟩:=id rZ;cases ez;refine⟨D0,_,rfl,.inl ⟨cD.of hZ,λtt htt=>⟨by show 2<=sizeLine;decide,λt0 ht0=>?_⟩⟩⟩;have w1:=aV (o:=.tup zvs) htt;have w2:=aV (o:=.tup [V.int 0,.ref tt]) ht0;have Y7:=(s1.trans w1).trans w2;have ezv:zvs=(List.replicate (iU sp).pots.length (0:Int)).map V.int:=by
   have e1:=uZ pZ;rw[e1]
   congr 1
   show sp.pots.map (λ_=>(0:Int))=List.replicate (d7 sp.pots).length 0
   rw[gW,List.map_const']
  have st0:jy (upd (upd H1 tt (.tup zvs)) t0 (.tup [V.int 0,.ref tt])) (.ref t0) 0 (List.replicate (iU sp).pots.length 0):=by
   rw[ezv]at w2⊢;exact⟨t0,tt,rfl,aF,w2 _ _ aF⟩
  generalize upd (upd H1 tt (.tup zvs)) t0 (.tup [V.int 0,.ref tt])=H2 at Y7 st0⊢;have lz:(List.replicate (iU sp).pots.length (0:Int)).length=sp.pots.length:=by
   rw[length_replicate];exact gW _
  refine⟨_,rfl,_,rfl,_,rfl,.ref tv,sp,lv,lead,.ref t0,0,_,0,rfl,rs.same Y7,ok,rl.same Y7,ll,llr,st0,by decide,lz,λH3 td s3 rw3=>?_⟩;have s03:=Y7.trans s3;rw[<- O4]at rw3;unfold Hz at q;have XD:∀d ds,iT (iU sp) lead 0 0 (List.replicate (iU sp).pots.length 0)=.kept d ds->jf (iU sp).week (iU sp).pots d ds:=λd ds e=>vo gk (zL gk) e
  generalize iT (iU sp) lead 0 0 (List.replicate (iU sp).pots.length 0)=k0 at q XD rw3⊢;refine⟨λσ' H'=>σ'=[some (.ref tv),some lv,some rv,some (.ref t0),some (.ref td),none,none]/\H'=H3/\aeL (iU sp) lead rows k0=(if rows.length=0 then .bad lead.length else Ji (λm s=>iT (iU sp) rows m s.1 s.2) rows.length (iz (iU sp)+1) lead.length k0 []),?_,?_⟩
  ·rintro σ' H' ⟨rfl,rfl,pe⟩;rw[pe]at q;obtain⟨lpp,lss,rfl,hlp,pls⟩:=id (rl.same s03);obtain⟨rp,rss,rfl,hrp,prs⟩:=id (rr.same s03);have lls:lss.length=lead.length:=Paired.length pls;have lrs:rss.length=rows.length:=Paired.length prs;refine⟨_,rfl,by show 0<=sizeLine;decide,λl5 h5=>⟨rp,l5,_,[],0,λ_=>true,rfl,rfl,cD.of (aV h5 _ _ hrp),cD.of aF,by decide,(λ_ j x y _ hy=>by simp at hy),λle=>⟨true,?_,dB ?_⟩,λne=>⟨false,rfl,cU ?_⟩⟩⟩
   ·simp
   ·have z:rows.length=0:=by
     rw[ak]at le;rw[<- lrs,le];rfl
    rw[if_pos z]at q;have w5:=aV (o:=.lst []) h5;refine⟨_,rfl,lpp,_,rfl,.inl (cD.of (w5 _ _ hlp)),by show 2<=sizeLine;decide,λt6 h6=>?_⟩;have w6:=aV (o:=.tup [V.str "bad",.int ((lss.map V.ref).length:Int)]) h6;refine q _ t6 (s03.trans (w5.trans w6)) ?_
    show _=some (HO.tup [.str "bad",.int ((lead.length:Nat):Int)])
    rw[aF,ak,lls]
   ·have z:¬rows.length=0:=by
     rw[ak,lrs]at ne;exact ne
    rw[if_neg z]at q;have w5:=aV (o:=.lst []) h5;generalize upd H' l5 (.lst [])=H4 at w5⊢;have Yg:=s03.trans w5;refine⟨by show 0<=sizeLine;decide,λlM hlM=>?_⟩;have w6:=aV (o:=.lst []) hlM;refine⟨_,rfl,lpp,_,rfl,.inl (cD.of ((w5.trans w6) _ _ hlp)),?_⟩;refine⟨λm σ H'=>∃i,m=iz (iU sp)+1-i/\DJ H4 (.ref tv) (.ref lpp) (.ref rp) (.ref t0) lM sp lead rows k0 i σ H',⟨_,0,rfl,td,k0,[],[],?_,w6,aF,.nil,nodup_nil,(λs hs=>by simp at hs),rfl,(rw3.to w5).to w6,XD,?_⟩,?_⟩
    ·simp[lls]
    ·simp
    rintro m σ H5 ⟨i,rfl,tb,k,met,vs,rfl,s5,hM,pm,nd,mok,lm,rb,kok,ev⟩;have li:i<=iz (iU sp):=by rw[<- lm];exact wB gk nd mok
    have lvs:vs.length=i:=by rw[Paired.length pm,lm]
    have s05:=Yg.trans s5;rw[show iz (iU sp)+1-i=(iz (iU sp)-i)+1 by omega]at ev;cases k with
    |kept d ds =>
     obtain⟨u,hb,st⟩:=id rb;have vJ:=kok d ds rfl;have ru:=ae2 st;refine⟨_,rfl,tb,_,0,.str "kept",rfl,rfl,dY.of hb,rfl,rfl,_,rfl,?_⟩;rw[aK rfl]
     by_cases z':(d,ds)∈met
     ·refine dB ⟨_,rfl,tb,_,1,u,rfl,rfl,dY.of hb,rfl,_,rfl,met,(d,ds),⟨lM,vs,rfl,hM,pm⟩,ru,false,by simp[z'],?_⟩;rw[Hy (s:=(d,ds)) z']at ev;rw[<- ev]at q;have lj:met.idxOf (d,ds)<met.length:=idxOf_lt_length_of_mem z';have hj:met[met.idxOf (d,ds)]?=some (d,ds):=by rw[aA lj,List.getElem_idxOf]
      refine cU ⟨_,rfl,tb,_,0,.str "kept",rfl,rfl,dY.of hb,rfl,rfl,_,rfl,?_⟩;rw[aK rfl];refine dB ⟨_,rfl,lM,_,rfl,.inl (cD.of hM),_,rfl,.inl ⟨rfl,_,cD.of hM⟩,_,rfl,tb,_,1,u,rfl,rfl,dY.of hb,rfl,u,met,(d,ds),_,rfl,⟨lM,vs,rfl,hM,pm⟩,ru,hj,?_,_,_,rfl,rfl,by show 2<=sizeLine;decide,λt6 h6=>?_⟩
      ·intro j y lj' hy e;subst e;have:=List.not_of_lt_findIdx (p:=(· == (d,ds))) (xs:=met) (i:=j) lj';have lt:j<met.length:=by omega
       rw[aA lt]at hy;have hy':=bO hy;rw[hy']at this;simp at this
      ·have w7:=aV (o:=.tup [V.str "ever",.int ((vs.length:Int)-((met.idxOf (d,ds):Nat):Int))]) h6;refine q _ t6 (s05.trans w7) ?_
       show _=some (HO.tup [.str "ever",.int ((met.length-met.idxOf (d,ds):Nat):Int)])
       rw[show((met.length-met.idxOf (d,ds):Nat):Int)=(vs.length:Int)-((met.idxOf (d,ds):Nat):Int) by omega];exact aF
     ·refine dB ⟨_,rfl,tb,_,1,u,rfl,rfl,dY.of hb,rfl,_,rfl,met,(d,ds),⟨lM,vs,rfl,hM,pm⟩,ru,true,by simp[z'],?_⟩;rw[acw (s:=(d,ds)) z']at ev;have nd':(met++[(d,ds)]).Nodup:=nodup_append.mpr ⟨nd,by simp,λb hb b' hb' e=>by
       rw[aH]at hb';rw[e,hb']at hb;exact z' hb⟩
      have Hx:∀s∈met++[(d,ds)],jf (iU sp).week (iU sp).pots s.1 s.2:=λs hs=>by
       rcases bQ.mp hs with h|h
       ·exact mok s h
       ·rw[aH.mp h];exact vJ
      have li':=wB gk nd' Hx;have lm':(met++[(d,ds)]).length=i+1:=by rw[aY,lm];rfl
      rw[lm']at li';refine dB ⟨λσ' H'=>∃m',m'<iz (iU sp)+1-i/\∃i',m'=iz (iU sp)+1-i'/\DJ H4 (.ref tv) (.ref lpp) (.ref rp) (.ref t0) lM sp lead rows k0 i' σ' H',λ_ _ h=>h,?_⟩;refine⟨_,rfl,.inl ⟨rfl,_,cD.of hM⟩,_,rfl,tb,_,1,u,rfl,rfl,dY.of hb,rfl,lM,_,_,rfl,rfl,hM,by omega,?_⟩;have nLt:∀xs,HO.tup xs≠HO.lst vs:=λ_ y=>by cases y
      have s6:Same H4 (upd H5 lM (.lst (vs++[u]))):=ji s5 hlM;have hM6:upd H5 lM (.lst (vs++[u])) lM=some (.lst (vs++[u])):=aF;have hb6:upd H5 lM (.lst (vs++[u])) tb=some (.tup [.str "kept",u]):=by rw[bf (j9 hb hM (nLt _))];exact hb
      have ru6:jc (upd H5 lM (.lst (vs++[u]))) u (d,ds):=jd.upd ru hM;have pm6:Paired (jc (upd H5 lM (.lst (vs++[u])))) (vs++[u]) (met++[(d,ds)]):=Paired.snoc (Paired.iB pm λ_ _ y=>jd.upd y hM) ru6;generalize upd H5 lM (.lst (vs++[u]))=H6 at s6 hM6 hb6 ru6 pm6⊢;have s06:=Yg.trans s6;have lds:ds.length=sp.pots.length:=by rw[vJ.len];exact gW _
      refine⟨_,rfl,_,rfl,_,rfl,tb,_,1,u,rfl,rfl,dY.of hb6,rfl,_,rfl,.ref tv,sp,.ref rp,rows,u,d,ds,lead.length+i*rows.length,rfl,rs.same s06,ok,rr.same s06,lr,lrr,zR ru6,vJ.d0,lds,λH7 tc s7 rc=>?_⟩;rw[<- O4]at rc;refine⟨_,rfl,_,rfl,rp,_,rfl,.inl (cD.of ((w5.trans (s6.trans s7)) _ _ hrp)),_,_,rfl,rfl,?_⟩;refine⟨iz (iU sp)+1-(i+1),by omega,i+1,rfl,tc,_,_,_,?_,s6.trans s7,s7 _ _ hM6,Paired.iB pm6 (λ_ _ y=>jd.same y s7),nd',Hx,lm',rc,λd2 ds2 e2=>vo gk vJ e2,?_⟩
      ·have e:(((lead.length+i*rows.length:Nat):Int)+((rss.map V.ref).length:Int))=((lead.length+(i+1)*rows.length:Nat):Int):=by
        rw[ak,lrs,Nat.succ_mul];omega
       rw[<- e];rfl
      ·rw[show iz (iU sp)+1-(i+1)=iz (iU sp)-i by omega,Nat.succ_mul,<- Nat.add_assoc];exact ev
    |dry n nm =>
     rw[Xv]at ev;rw[<- ev]at q;have hb:H5 tb=some (.tup [.str "dry",.int (n:Nat),.str nm]):=rb;refine⟨_,rfl,tb,_,0,.str "dry",rfl,rfl,dY.of hb,rfl,rfl,_,rfl,?_⟩;rw[aD (by decide)];refine cU (cU ⟨_,rfl,tb,_,0,.str "dry",rfl,rfl,dY.of hb,rfl,rfl,_,rfl,?_⟩);rw[aD (by decide)];exact cU ⟨_,rfl,q H5 tb s05 hb⟩
    |bad n =>
     rw[Xw]at ev;rw[<- ev]at q;have hb:H5 tb=some (.tup [.str "bad",.int (n:Nat)]):=rb;refine⟨_,rfl,tb,_,0,.str "bad",rfl,rfl,dY.of hb,rfl,rfl,_,rfl,?_⟩;rw[aD (by decide)];refine cU (cU ⟨_,rfl,tb,_,0,.str "bad",rfl,rfl,dY.of hb,rfl,rfl,_,rfl,?_⟩);rw[aD (by decide)];exact cU ⟨_,rfl,q H5 tb s05 hb⟩
    |none n =>
     rw[Om]at ev;rw[<- ev]at q;have hb:H5 tb=some (.tup [.str "none",.int (n:Nat)]):=rb;refine⟨_,rfl,tb,_,0,.str "none",rfl,rfl,dY.of hb,rfl,rfl,_,rfl,?_⟩;rw[aD (by decide)];refine cU (cU ⟨_,rfl,tb,_,0,.str "none",rfl,rfl,dY.of hb,rfl,rfl,_,rfl,?_⟩);rw[aD (by decide)];exact cU ⟨_,rfl,q H5 tb s05 hb⟩
  ·intro fin;cases k0 with
   |bad n =>
    have hb:H3 td=some (.tup [.str "bad",.int (n:Nat)]):=rw3;refine⟨_,rfl,td,_,0,.str "bad",rfl,rfl,dY.of hb,rfl,rfl,_,rfl,?_⟩;rw[aK rfl];exact dB (dB ⟨_,rfl,q H3 td s03 hb⟩)
   |none n =>
    have hb:H3 td=some (.tup [.str "none",.int (n:Nat)]):=rw3;refine⟨_,rfl,td,_,0,.str "none",rfl,rfl,dY.of hb,rfl,rfl,_,rfl,?_⟩;rw[aD (by decide)];refine cU ⟨_,rfl,td,_,0,.str "none",rfl,rfl,dY.of hb,rfl,rfl,_,rfl,?_⟩;rw[aK rfl];exact dB ⟨_,rfl,q H3 td s03 hb⟩
   |kept d ds =>
    obtain⟨u,hb,_⟩:=id rw3;refine⟨_,rfl,td,_,0,.str "kept",rfl,rfl,dY.of hb,rfl,rfl,_,rfl,?_⟩;rw[aD (by decide)];refine cU ⟨_,rfl,td,_,0,.str "kept",rfl,rfl,dY.of hb,rfl,rfl,_,rfl,?_⟩;rw[aD (by decide)];exact cU (fin _ _ ⟨rfl,rfl,rfl⟩)
   |dry n nm =>
    have hb:H3 td=some (.tup [.str "dry",.int (n:Nat),.str nm]):=rw3;refine⟨_,rfl,td,_,0,.str "dry",rfl,rfl,dY.of hb,rfl,rfl,_,rfl,?_⟩;rw[aD (by decide)];refine cU ⟨_,rfl,td,_,0,.str "dry",rfl,rfl,dY.of hb,rfl,rfl,_,rfl,?_⟩;rw[aD (by decide)];exact cU (fin _ _ ⟨rfl,rfl,rfl⟩)
abbrev yr:dI:=top 66
abbrev amk:List Str:=["_law_garden_here","_law_spec_here","_law_lead","_law_rows_here","_law_due_here","_law_handed","_law_found","_law_error","_law_told_here"]
theorem O6(n:Nat):(List.range n).all (λ_=>true)=true:=by
 rw[all_eq_true];intro _ _;rfl
theorem abh{r:List Str}(hb:H b=some (.lst (r.map V.str)))(hc:H c=some (.lst (r.map V.str))):xU K H 1 (.ref b) (.ref c) true:=by
 by_cases e:b=c
 ·subst e;exact .self
 ·have:=xU.lst (K:=K) (H:=H) (n:=0) (e:=λ_=>true) e (cD.of hb) (cD.of hc) rfl λj x y hx hy=>by
   rw[hx]at hy;cases hy;rw[aJ]at hx;obtain⟨s,_,rfl⟩:=bh.mp hx;exact qG rfl
  rw[O6]at this;exact this
theorem abj(hl:fX H (.ref l) rows)(hm:fX H (.ref m) rows):∃ls ms:List aB,cD K H l (ls.map V.ref)/\cD K H m (ms.map V.ref)/\(ls.map V.ref).length=(ms.map V.ref).length/\∀(j:Nat) x y,(ls.map V.ref)[j]?=some x->(ms.map V.ref)[j]?=some y->xU K H 1 x y true:=by
 obtain⟨_,ls,e1,h1,p1⟩:=hl;obtain⟨_,ms,e2,h2,p2⟩:=hm;cases e1;cases e2;refine⟨ls,ms,cD.of h1,cD.of h2,by rw[ak,ak,Paired.length p1,Paired.length p2],λj x y hx hy=>?_⟩;rw[aJ]at hx hy;obtain⟨b,hb,rfl⟩:=bh.mp hx;obtain⟨c,hc,rfl⟩:=bh.mp hy;obtain⟨r,hr,er⟩:=dW p1 hb;obtain⟨r',hr',er'⟩:=dW p2 hc;rw[hr]at hr';cases hr';exact abh er er'
theorem Ie(hl:fX H (.ref l) rows)(hm:fX H (.ref m) rows):xU K H 2 (.ref l) (.ref m) true:=by
 by_cases e:l=m
 ·subst e;exact .self
 ·obtain⟨ls,ms,h1,h2,le,d⟩:=abj (K:=K) hl hm;have:=xU.lst (K:=K) (H:=H) (n:=1) (e:=λ_=>true) e h1 h2 le d;rw[O6]at this;exact this
def PR2(D:aB)(H:Hp)(b:aB)(r:List Str):Prop:=b≠D/\H b=some (.lst (r.map V.str))
theorem Cq{σ0:St}(e0:σ0=[none])(rr:fX H1 (.ref lp) rows)(le:rows.length<=sizeLine)(hD:H1 D=none)(fin:∀H2,Same H1 H2->fX H2 (.ref D) rows->Qe H2) : ∃W:Nat->Nat->List V->Hp->Prop,(∃m,W 0 m [] (upd H1 D (.lst [])))/\qm D (Te K lp) σ0 (yw 0) Di (tCB (λxs H Q=>∃p ys,xs=[V.ref p]/\(cD K H p ys\/dY K H p ys)/\∀l,H l=none->Q (V.ref l) (upd H l (.lst ys))) (Bf (TV 0) PN)) Qe W:=by
 subst e0;obtain⟨_,ls,e,hrl,prl⟩:=rr;cases e;have lls:ls.length=rows.length:=Paired.length prl;refine lZ rows.length le (λi acc H'=>Same H1 H'/\H' D=some (.lst acc)/\∃ms:List aB,acc=ms.map V.ref/\Paired (PR2 D H') ms (rows.take i)) ⟨aV hD,aF,[],rfl,by rw[take_zero];exact .nil⟩ (λi acc H' le ⟨_,e,ms,ea,p⟩=>⟨by rw[ea,ak,Paired.length p,length_take];omega,e⟩) ?_ ?_
 ·rintro acc H2 ⟨s2,hD2,ms,rfl,p⟩;rw[cL]at p;exact⟨⟨_,cD.of (s2 _ _ hrl),by rw[ak,lls];exact aO _⟩,fin H2 s2 ⟨D,ms,rfl,hD2,Paired.iB p λ_ _ z=>z.2⟩⟩
 ·rintro i acc H' lt ⟨s',e,ms,rfl,p⟩;obtain⟨r,hr'⟩:∃r,rows[i]?=some r:=⟨rows[i],aA lt⟩;obtain⟨rb,hrb,er⟩:=oh prl hr';have hla:(ls.map V.ref)[i]?=some (.ref rb):=by rw[aJ,hrb];rfl
  refine⟨⟨_,.ref rb,cD.of (s' _ _ hrl),hla⟩,?_⟩;rintro y sZ ⟨rfl,hy⟩ Qc k;have ey:=hy _ (cD.of (s' _ _ hrl));rw[hla]at ey;cases ey;refine⟨jg,_,rfl,rb,_,rfl,.inl (cD.of (s' _ _ er)),λl' hl'=>?_⟩;have z:=aV (o:=.lst (r.map V.str)) hl';have nl:l'≠D:=λy=>by rw[y,e]at hl';cases hl'
  refine k _ _ (z _ _ e) ⟨ji (s'.trans z) hD,aF,ms++[l'],by rw[aX];rfl,?_⟩;rw[take_snoc hr'];exact jV (Paired.iB p λb r h=>⟨h.1,by rw[bf h.1];exact z _ _ h.2⟩) (.cons ⟨nl,by rw[bf nl,aF]⟩ .nil)
def O7(a:gB)(H:Hp)(k:Ev):XK:=λcls dx H'=>Same H H'/\((∃n W0,k=.bad n/\cls=.ref a.dz/\dx=some W0/\H' W0=some (.xd [("day",.int (n:Nat))]))\/(∃n,k=.none n/\cls=.ref a.gA/\dx=none))
def KZ(H:Hp)(t:aB):Ev->Prop
 | .ever n=>H t=some (.tup [.bl true,.int (n:Nat)])
 | .dry n nm=>H t=some (.tup [.bl false,.int (n:Nat),.str nm])
 |_=>False
theorem abk(h:∀t' H',Same H H'->KZ H' t' k->Q (.ref t') H'):Xx a H Q (O7 a H k) k:=by
 cases k with
 |ever n=>exact λH' t s ht=>h t H' s ht
 |dry n nm=>exact λH' t s ht=>h t H' s ht
 |bad n=>exact λH' dx s hd=>⟨s,.inl ⟨n,dx,rfl,rfl,rfl,hd⟩⟩
 |none n=>exact λH' s=>⟨s,.inr ⟨n,rfl,rfl,rfl⟩⟩
theorem REv.to(h:REv H t k)(s:Same H H'):REv H' t k:=by
 cases k<;>exact s _ _ h
theorem EY(h1:fX H (.ref l) xs)(h2:fX H (.ref l') xs)(h3:fX H (.ref m) ys)(h4:fX H (.ref m') ys):∀(j:Nat) x y,([V.ref l,.ref m]:List V)[j]?=some x->([V.ref l',.ref m']:List V)[j]?=some y->xU K H 2 x y true:=by
 intro j x y hx hy
 match j with
 |0=>cases hx;cases hy;exact Ie h1 h2
 |1=>cases hx;cases hy;exact Ie h3 h4
 |j+2=>simp at hx
structure Yh(K:Fg)(mg:Str->Option aC)(a:gB)(dV:aC):Prop where
 Pl:Ht K mg a dV
 Z:aeP K mg a
 wa:∃f fd,Fn K "_law_walked" "_law_walked" pO ["_law_spec_here","_law_rows_here","_law_state","_law_first"] f fd/\mg "_law_walked"=some (.ref f)
 be:∃f fd,Fn K "_law_behind" "_law_behind" lV ["_law_spec_here","_law_state","_law_wet"] f fd/\mg "_law_behind"=some (.ref f)
 du:∃f fd,Fn K "_law_due" "_law_due" O3 ["_law_spec_here","_law_lead","_law_rows_here"] f fd/\mg "_law_due"=some (.ref f)
 ke:∃f fd,Fn K "kept" "kept" Hr ["garden","rows"] f fd/\mg "kept"=some (.ref f)
 kv:∃f fd,Fn K "kept_for_ever" "kept_for_ever" yp ["garden","lead","rows"] f fd/\mg "kept_for_ever"=some (.ref f)
inductive vH(a:gB)(vs:List V)(H:Hp)(Q:VK)(jU:XK):Prop
 |mk:∀x v sp lv lead rv rows,vs=[.ref x,v,lv,rv]->j8 H v sp->iG sp->fZ a H x (iU sp)->fX H lv lead->lead.length<=9000->(∀r∈lead,r.length<=1000)->fX H rv rows->rows.length<=9000->(∀r∈rows,r.length<=1000)->(∀H',Same H H'->Q (.bl true) H')->vH a vs H Q jU
theorem rD:bY amk ["_law_garden_here","_law_spec_here","_law_lead","_law_rows_here"] (aZ yr):=d9 (by decide +kernel)
theorem RM(F:mH K "_law_right" "_law_right" yr f fd)(X:Yh K mg a dV):cM P w K mg base (fY P w) 7 f fd ["_law_garden_here","_law_spec_here","_law_lead","_law_rows_here"] (vH a):=by
 refine F.lY rD (λvs H Q E h=>?_) (λcdv A outer s H vs Q E hr h=>?_)
 ·obtain⟨x,v,sp,lv,lead,rv,rows,rfl,_⟩:=h;rfl
 ·obtain⟨x,v,sp,lv,lead,rv,rows,rfl,rs,ok,gx,rl,ll,llr,rr,lr,lrr,q⟩:=h;have Zt:=X.Z;have N:=Zt.N;have B:=X.Pl.W.S.Z.G.T.B;obtain⟨fw,dw,wF,mW⟩:=X.wa;obtain⟨fb,db,bF,mB⟩:=X.be;obtain⟨fu,du,uF,mU⟩:=X.du;obtain⟨fk,dk,kF,mK⟩:=X.ke;obtain⟨fv,dv,vF,mV⟩:=X.kv;obtain⟨fr,dr,rF,mR⟩:=Zt.rf;have oku:cM P w K mg base (fY P w) 3 fu du ["_law_spec_here","_law_lead","_law_rows_here"] Ye:=ae3 uF.F B wF mW bF mB;have okv:cM P w K mg base (fY P w) 6 fv dv ["garden","lead","rows"] (Xz a):=aeN vF.F X.Pl kF mK;have Ru:yL P w K mg base (fY P w) 2 fr dr ["_law_error"] (wC a):=KD rF.F Zt;have hr3:eZ 3 _:=hr.mono (by decide);have hr6:eZ 6 _:=hr.mono (by decide);have nd1:[("_law_row":Str)].Nodup:=by decide +kernel
  have kV:=vF.F.kp;have bV:=vF.b;refine⟨_,aL (bL (i:=4) rD.nd rfl (Or.inl rfl) (c7 oku hr3 mU uF.F.kp uF.b bB (ao (pv 1) (ao (pv 2) (ao (pv 3) aG))))) (aL (bL (i:=5) rD.nd rfl (Or.inl rfl) (gH (ao (gG bN rfl ⟨_,_,rfl,rfl,rfl⟩ (gY.plain (N':=["_law_row"]) rfl (by decide +kernel) (by decide +kernel)) (fK (pv 2)) (λ_ _ _ _ _=>cR 0 nd1) (λ_ _ _ _ _=>gM) (λ_ _ _ _ _ _=>qD (rM K) B.list boot_list (ao (pv 0) aG))) (ao (gG bN rfl ⟨_,_,rfl,rfl,rfl⟩ (gY.plain (N':=["_law_row"]) rfl (by decide +kernel) (by decide +kernel)) (fK (pv 3)) (λ_ _ _ _ _=>cR 0 nd1) (λ_ _ _ _ _=>gM) (λ_ _ _ _ _ _=>qD (rM K) B.list boot_list (ao (pv 0) aG))) aG)))) (vG (aam (hit:=λcls=>exmOne K cls (.ref a.uQ)=some true) rfl ⟨_,_,rfl,rfl,rfl⟩ rD.nd (i:=7) rfl rfl (by rfl) N.ge (λ_ h=>h) (λE' rH Eb σ acc=>V0 (aal (i:=6) rD.nd rfl (Or.inl rfl) (VR okv hr6 mV kV bV .nil acc (ao (pv 0) (ao (cH (uI K) (pv 5) aP (λ_ _=>rfl)) (ao (cH (uI K) (pv 5) aP (λ_ _=>rfl)) aG)))))) (λe=>aL (bL (i:=8) rD.nd rfl (Or.inl rfl) (Gh Ru (oY.mark (hr.mono (by decide)).toH) (by rfl) mR rF.F.kp rF.b .nil bB (ao (pv 7) aG))) (aU (bU (Jk (lO CQ (pv 8) jR (cN _)) (Jk (lO (aan K hr.units) (pv 8) (nH (cu iQ (cH (uJ K) (pv 4) aP (λ_ _=>rfl)) eY (cN _)) (pv 4) (d8 (ao (cH (uJ K) (pv 4) aP (λ_ _=>rfl)) (ao (Fv yx aP) aG)))) (cN _)) (TX (lO (abg K hr.units) (pv 5) (gH (ao (pv 2) (ao (pv 3) aG))) (cN _))))))))) (aL (dZ (pw_or (cu (JG hr.units) (pv 5) (gH (ao (pv 2) (ao (pv 3) aG))) (cN _)) (pw_or (gh (eX (oK .tuple B.isinstance B.tuple (pv 6)))) (pw_or1 (gh (eX (oK .bool B.isinstance B.bool (cH cQ (pv 6) aP (λ_ _=>rfl)))))))).pt (aU (bU jW)) bZ) (aL (dZ (cu iQ (cH cQ (pv 4) aP (λ_ _=>rfl)) eY (cN _)) (aU (bU (lO (JF hr.units) (pv 6) (d8 (ao jW (ao (cH cQ (pv 4) aP (λ_ _=>rfl)) aG))) (cN _)))) bZ) (aU (bU (Jk (lO iQ (cH cQ (pv 4) aP (λ_ _=>rfl)) eY (cN _)) (TX (lO (JF hr.units) (pv 6) (d8 (ao jW (ao (cH cQ (pv 4) aP (λ_ _=>rfl)) (ao (cH cQ (pv 4) aP (λ_ _=>rfl)) aG)))) (cN _)))))))))),?_⟩;have big:9000<=sizeLine:=by decide
  refine⟨_,rfl,_,rfl,_,rfl,v,sp,lv,lead,rv,rows,rfl,rs,ok,rl,ll,llr,rr,lr,lrr,λH1 t s1 hw=>?_⟩;obtain⟨lp,ls,rfl,hlp,pls⟩:=id (rl.same s1);refine⟨_,rfl,lp,rfl,⟨_,cD.of hlp⟩,λD hD=>?_⟩;refine Cq rfl (rl.same s1) (by omega) hD λH2 s2 r1=>?_
  obtain⟨rp,rs',rfl,hrp,prs⟩:=id ((rr.same s1).same s2);refine⟨_,rfl,rp,rfl,⟨_,cD.of hrp⟩,λD' hD'=>?_⟩;refine Cq rfl ((rr.same s1).same s2) (by omega) hD' λH3 s3 r2=>⟨by show 2<=sizeLine;decide,λlh hlh=>?_⟩
  have w3:=aV (o:=.lst [V.ref D,.ref D']) hlh;have hh4:upd H3 lh (.lst [V.ref D,.ref D']) lh=some (.lst [V.ref D,.ref D']):=aF;have s4:=(s2.trans s3).trans w3;have Yg:=s1.trans s4;have r1':=(r1.same s3).same w3;have r2':=r2.same w3;have hw4:=hw.to s4;generalize upd H3 lh (.lst [V.ref D,.ref D'])=H4 at w3 hh4 s4 Yg r1' r2' hw4⊢;have rl4:=rl.same Yg;have rr4:=rr.same Yg;have gx4:=gx.same Yg;generalize hk:Hz (iU sp) lead rows=k at hw4;refine⟨λσ' H'=>∃t',σ'=[some (.ref x),some v,some (.ref lp),some (.ref rp),some (.ref t),some (.ref lh),some (.ref t'),none,none]/\Same H4 H'/\KZ H' t' k,?_,?_⟩
  ·
   rintro σ' H5 ⟨t',rfl,s5,rf⟩;have hw5:=hw4.to s5;refine⟨_,rfl,_,rfl,_,rfl,by show 2<=sizeLine;decide,λl6 h6=>?_⟩;have w6:=aV (o:=.lst [V.ref lp,.ref rp]) h6;have s56:=s5.trans w6;have e6:upd H5 l6 (.lst [V.ref lp,.ref rp]) l6=some (.lst [V.ref lp,.ref rp]):=aF;have hw6:=hw5.to w6;have rf6:KZ (upd H5 l6 (.lst [V.ref lp,.ref rp])) t' k:=by cases k<;>first|exact w6 _ _ rf|exact rf
   generalize upd H5 l6 (.lst [V.ref lp,.ref rp])=H6 at w6 s56 e6 hw6 rf6⊢;refine⟨lh,l6,_,_,2,λ_=>true,rfl,rfl,cD.of (s56 _ _ hh4),cD.of e6,by decide,λ_=>EY (r1'.same s56) (rl4.same s56) (r2'.same s56) (rr4.same s56),λ_=>⟨false,?_,cU ?_⟩,λz=>absurd rfl z⟩
   ·rfl
   cases k with
   |ever n =>
    have hb:H6 t=some (.tup [.str "ever",.int (n:Nat)]):=hw6;have ht:H6 t'=some (.tup [.bl true,.int (n:Nat)]):=rf6;refine⟨_,rfl,.ref t',.tup,rfl,⟨t',_,rfl,ht⟩,true,rfl,cU ⟨_,rfl,t',_,0,.bl true,rfl,rfl,dY.of ht,rfl,.bl true,.bl,rfl,⟨true,rfl⟩,true,rfl,cU ?_⟩⟩;refine⟨_,rfl,t,_,0,.str "ever",rfl,rfl,dY.of hb,rfl,rfl,_,rfl,?_⟩;rw[aK rfl];refine dB ⟨_,rfl,_,rfl,t,_,1,.int (n:Nat),rfl,rfl,dY.of hb,rfl,by show 2<=sizeLine;decide,λt7 h7=>?_⟩;have w7:=aV (o:=.tup [V.bl true,.int (n:Nat)]) h7;refine⟨t',t7,_,_,0,λ_=>true,rfl,rfl,dY.of (w7 _ _ ht),dY.of aF,by decide,λj x y hx hy=>?_,q _ ((Yg.trans s56).trans w7)⟩;rw[hx]at hy;cases hy;exact qG (all_eq_true.mp (show([V.bl true,.int (n:Nat)]:List V).all iR=true from rfl) x (aQ hx))
   |dry m nm =>
    have hb:H6 t=some (.tup [.str "dry",.int (m:Nat),.str nm]):=hw6;have ht:H6 t'=some (.tup [.bl false,.int (m:Nat),.str nm]):=rf6;refine⟨_,rfl,.ref t',.tup,rfl,⟨t',_,rfl,ht⟩,true,rfl,cU ⟨_,rfl,t',_,0,.bl false,rfl,rfl,dY.of ht,rfl,.bl false,.bl,rfl,⟨false,rfl⟩,true,rfl,cU ?_⟩⟩;refine⟨_,rfl,t,_,0,.str "dry",rfl,rfl,dY.of hb,rfl,rfl,_,rfl,?_⟩;rw[aD (by decide)];refine cU ⟨_,rfl,t,_,0,.str "dry",rfl,rfl,dY.of hb,rfl,rfl,true,rfl,dB ?_⟩;refine⟨_,rfl,_,rfl,t,_,1,.int (m:Nat),rfl,rfl,dY.of hb,rfl,_,rfl,t,_,2,.str nm,rfl,rfl,dY.of hb,rfl,by show 3<=sizeLine;decide,λt7 h7=>?_⟩;have w7:=aV (o:=.tup [V.bl false,.int (m:Nat),.str nm]) h7;refine⟨t',t7,_,_,0,λ_=>true,rfl,rfl,dY.of (w7 _ _ ht),dY.of aF,by decide,λj x y hx hy=>?_,q _ ((Yg.trans s56).trans w7)⟩;rw[hx]at hy;cases hy;exact qG (all_eq_true.mp (show([V.bl false,.int (m:Nat),.str nm]:List V).all iR=true from rfl) x (aQ hx))
   |bad m=>exact rf6.elim
   |none m=>exact rf6.elim
  ·intro fin;refine⟨O7 a H4 k,?_,?_⟩
   ·rintro cls dx H5 ⟨s5,h5⟩;rcases h5 with ⟨m,W0,ek,rfl,rfl,hdx⟩|⟨m,ek,rfl,rfl⟩
    ·refine⟨Zt.x3.m,λe he=>?_⟩;have w5:=aV (o:=Df e (.ref a.dz) (some W0)) he;rw[ek]at hw4;refine⟨_,rfl,e,"bad",_,rfl,.bad ⟨W0,aF,w5 _ _ hdx⟩,λH6 t5 s6 ht5=>?_⟩;have s46:=(s5.trans w5).trans s6;have hb:H6 t=some (.tup [.str "bad",.int (m:Nat)]):=s46 _ _ hw4;refine⟨_,rfl,rfl,true,rfl,dB ⟨_,rfl,_,rfl,t,_,0,.str "bad",rfl,rfl,dY.of hb,rfl,rfl,_,rfl,?_⟩⟩;rw[aK rfl];refine dB ⟨_,rfl,t5,t,_,_,0,λ_=>true,rfl,rfl,dY.of ht5,dY.of hb,by decide,λj x y hx hy=>?_,true,rfl,dB ?_⟩
     ·rw[hx]at hy;cases hy;exact qG (all_eq_true.mp (show([V.str "bad",.int (m:Nat)]:List V).all iR=true from rfl) x (aQ hx))
     refine⟨_,rfl,_,rfl,_,rfl,by show 2<=sizeLine;decide,λl7 h7=>?_⟩;have Hu:=s46.trans (aV (o:=.lst [V.ref lp,.ref rp]) h7);refine⟨lh,l7,_,_,2,λ_=>true,rfl,rfl,cD.of (Hu _ _ hh4),cD.of aF,by decide,λ_=>EY (r1'.same Hu) (rl4.same Hu) (r2'.same Hu) (rr4.same Hu),λ_=>q _ (Yg.trans Hu),λz=>absurd rfl z⟩
    ·refine⟨Zt.x2.m,λe he=>?_⟩;have w5:=aV (o:=Df e (.ref a.gA) none) he;rw[ek]at hw4;refine⟨_,rfl,e,"none",_,rfl,.none aF,λH6 t5 s6 ht5=>?_⟩;have s46:=(s5.trans w5).trans s6;have hb:H6 t=some (.tup [.str "none",.int (m:Nat)]):=s46 _ _ hw4;refine⟨_,rfl,rfl,true,rfl,dB ⟨_,rfl,_,rfl,t,_,0,.str "none",rfl,rfl,dY.of hb,rfl,rfl,_,rfl,?_⟩⟩;rw[aD (by decide)];refine cU ⟨_,rfl,t,_,0,.str "none",rfl,rfl,dY.of hb,rfl,_,rfl,by show 2<=sizeLine;decide,λt6 h6=>?_⟩;have w6:=aV (o:=.tup [V.str "none",.int (-1)]) h6;refine⟨t5,t6,_,_,0,λ_=>true,rfl,rfl,dY.of (w6 _ _ ht5),dY.of aF,by decide,λj x y hx hy=>?_,true,rfl,dB ?_⟩
     ·rw[hx]at hy;cases hy;exact qG (all_eq_true.mp (show([V.str "none",.int (-1)]:List V).all iR=true from rfl) x (aQ hx))
     refine⟨_,rfl,_,rfl,_,rfl,by show 2<=sizeLine;decide,λl7 h7=>?_⟩;have Hu:=(s46.trans w6).trans (aV (o:=.lst [V.ref lp,.ref rp]) h7);refine⟨lh,l7,_,_,2,λ_=>true,rfl,rfl,cD.of (Hu _ _ hh4),cD.of aF,by decide,λ_=>EY (r1'.same Hu) (rl4.same Hu) (r2'.same Hu) (rr4.same Hu),λ_=>q _ (Yg.trans Hu),λz=>absurd rfl z⟩
   ·refine⟨_,rfl,_,rfl,lh,_,0,.ref D,rfl,rfl,cD.of hh4,rfl,_,rfl,lh,_,1,.ref D',rfl,rfl,cD.of hh4,rfl,x,iU sp,.ref D,lead,.ref D',rows,rfl,gx4,ok.gk,bx ok.szb (by decide),r1',ll,llr,r2',lr,lrr,?_⟩;rw[hk];exact abk λt' H' s' rf=>fin _ _ ⟨t',rfl,s',rf⟩
theorem Yi[DecidableEq σ] :∀{n:Nat}{s:σ}{met:List σ}{cs cs':List ρ}{j:Nat},met.length=cs.length->vW B n s met cs=(cs',some j)->j<cs'.length
 |0,_,_,_,_,_,_,hd=>by cases hd
 |n+1,s,met,cs,cs',j,e,h=>by
  by_cases z:s∈met
  ·rw[M5 z]at h;cases h;rw[<- e];exact idxOf_lt_length_of_mem z
  ·cases eb:B s with
   |none =>
    rw[M6 z eb]at h;cases h
   |some c =>
    rw[Vg z eb]at h;exact Yi (by rw[aY,aY,e];rfl) h
theorem Ig(ns:List Str)(c:Int):(mJ ns c).length<=ns.length:=by
 unfold mJ;rw[ak];exact bx (length_filter_le _ _) (by rw[bK];exact aO _)
theorem wH :∀{xs:List α}{ys:List β}(j:Nat),Paired R xs ys->Paired R (xs.take j) (ys.take j)
 |_,_,0,_=>by rw[take_zero,take_zero];exact .nil
 |_,_,_+1,.nil=>.nil
 |_,_,j+1,.cons h t=>.cons h (wH j t)
theorem wI :∀{xs:List α}{ys:List β}(j:Nat),Paired R xs ys->Paired R (xs.drop j) (ys.drop j)
 |_,_,0,h=>h
 |_,_,_+1,.nil=>.nil
 |_,_,j+1,.cons _ t=>wI j t
def K1(gs:List (List Str)):Prop:=gs.length<=4000/\∀r∈gs,r.length<=20
theorem K1.take(h:K1 gs)(j:Nat):K1 (gs.take j):=⟨by rw[length_take];have:=h.1;omega,λr hr=>h.2 r (List.mem_of_mem_take hr)⟩
theorem K1.drop(h:K1 gs)(j:Nat):K1 (gs.drop j):=⟨by rw[length_drop];have:=h.1;omega,λr hr=>h.2 r (List.mem_of_mem_drop hr)⟩
theorem O8:K1 []:=⟨by decide,λr hr=>by cases hr⟩
noncomputable def ah9(H:Hp)(t:aB):Prop:=(∃l g1,H t=some (.tup [.ref l,.non])/\fX H (.ref l) g1/\K1 g1)\/(∃l1 l2 g1 g2,H t=some (.tup [.ref l1,.ref l2])/\fX H (.ref l1) g1/\fX H (.ref l2) g2/\K1 g1/\K1 g2/\0<g2.length)
section
variable{P:cC}{w:World}{K:Fg}{mg:Str->Option aC}{base:Heap}{a:gB}{dV:aC}{lv cB PB:aB}
theorem Cr(gx:fZ a H x g)(good:Og g)(sz:iz g<=4000)(lt:m5 PB lG n6 H)(k:∀H' t,lq PB H H'->m5 PB lG n6 H'->ah9 H' t->Q (.ref t) H'):vm K a PB [.ref x,.non] H Q E:=by
 refine⟨x,g,.non,rfl,gx,good,lt,λ_=>True,λs0 _ H' t ans cs o rows bp lt' told due lcs rn da=>k H' t bp lt' ?_,.inl ⟨rfl,trivial⟩⟩;have pr:Paired (λb (r:List Str)=>H' b=some (.lst (r.map V.str))) rows (cs.map (mJ (mq g))):=by
  have:∀{xs:List aB}{ys:List Int},Paired (λr c=>H r=none/\H' r=some (.lst ((mJ (mq g) c).map V.str))) xs ys->Paired (λb (r:List Str)=>H' b=some (.lst (r.map V.str))) xs (ys.map (mJ (mq g))):=by
   intro xs ys p
   induction p with
   |nil=>exact .nil
   |cons h _ ih=>exact .cons h.2 ih
  exact this rn
 have n8:=good.ok.n8;have few:K1 (cs.map (mJ (mq g))):=⟨by rw[ak];omega,λr hr=>by
  obtain⟨c,_,rfl⟩:=bM.mp hr;have:=Ig (mq g) c;have e:(mq g).length=g.pots.length:=by rw[mq,ak]
  omega⟩
 cases o with
 |none =>
  obtain⟨l,ht,hl⟩:=da;exact .inl ⟨l,_,ht,⟨l,rows,rfl,hl,pr⟩,few⟩
 |some j =>
  obtain⟨l1,l2,ht,h1,h2⟩:=da;have lj:=Yi (σ:=NK) (ρ:=Int) (B:=bF g ans) (met:=[]) (cs:=[]) rfl due;refine .inr ⟨l1,l2,_,_,ht,⟨l1,_,rfl,h1,wH j pr⟩,⟨l2,_,rfl,h2,wI j pr⟩,few.take j,few.drop j,?_⟩;rw[length_drop,ak];omega
theorem zV(r:fX H (.ref l) gs)(q:∀p H',Same H H'->fX H' (.ref p) (gs.take m)->Q (.ref p) H'):Zr K (.ref l) none (some ((m:Nat):Int)) H Q:=by
 obtain⟨_,ls,e,hl,pr⟩:=r;cases e;refine⟨l,_,rfl,cD.of hl,λp hp=>?_⟩;have e:uc (ls.map V.ref) none (some ((m:Nat):Int))=(ls.take m).map V.ref:=by
  unfold uc;rw[HT.tZ,map_take];simp only[HT.yH,List.drop_zero,Nat.sub_zero];rcases Nat.le_total m (ls.map V.ref).length with h|h
  ·rw[Nat.min_eq_left h]
  ·rw[Nat.min_eq_right h,cL,List.take_of_length_le h]
 rw[e];have z:=aV (o:=.lst ((ls.take m).map V.ref)) hp;exact q p _ z ⟨p,_,rfl,aF,wH m (Paired.iB pr λ_ _ y=>z _ _ y)⟩
theorem Fb(r:fX H (.ref l) gs)(q:∀p H',Same H H'->fX H' (.ref p) (gs.drop m)->Q (.ref p) H'):Zr K (.ref l) (some ((m:Nat):Int)) none H Q:=by
 obtain⟨_,ls,e,hl,pr⟩:=r;cases e;refine⟨l,_,rfl,cD.of hl,λp hp=>?_⟩;have e:uc (ls.map V.ref) (some ((m:Nat):Int)) none=(ls.drop m).map V.ref:=by
  unfold uc;rw[HT.tZ,List.map_drop];simp only[HT.yH];rcases Nat.le_total m (ls.map V.ref).length with h|h
  ·rw[Nat.min_eq_left h,List.take_of_length_le (by rw[length_drop];exact aO _)]
  ·rw[Nat.min_eq_right h,drop_length,List.drop_eq_nil_of_le h];simp
 rw[e];have z:=aV (o:=.lst ((ls.drop m).map V.ref)) hp;exact q p _ z ⟨p,_,rfl,aF,wI m (Paired.iB pr λ_ _ y=>z _ _ y)⟩
theorem Fd(r:fX H (.ref l) gs)(r':fX H (.ref b) hs)(f:gs.length+hs.length<=9000)(q:∀p H',Same H H'->fX H' (.ref p) (gs++hs)->Q (.ref p) H'):ade (.ref l) (.ref b) H Q:=by
 obtain⟨_,ls,e,hl,pr⟩:=r;cases e;obtain⟨_,ms,e,hb,pm⟩:=r';cases e;have l1:=Paired.length pr;have l2:=Paired.length pm;have big:9000<=sizeLine:=by decide
 refine⟨l,b,_,_,rfl,rfl,hl,hb,by rw[ak,ak];omega,λp hp=>?_⟩;have z:=aV (o:=.lst (ls.map V.ref++ms.map V.ref)) hp;exact q p _ z ⟨p,ls++ms,rfl,by rw[aX];exact aF,jV (Paired.iB pr λ_ _ y=>z _ _ y) (Paired.iB pm λ_ _ y=>z _ _ y)⟩
theorem O9{r:V->Option Int->Option Int->Hp->VK->Prop}(h:r x l none H Q):Ml σ H λu H3=>r x l u H3 Q:=h
theorem cD.off(h:cD K H b xs):cD K (pR H) b xs:=by
 rcases h with (h|⟨o,h⟩)|h
 ·exact .inl (.inl (iZ h (λ_ z=>by cases z)))
 ·exact .inl (.inr ⟨o,iZ h (λ_ z=>by cases z)⟩)
 ·exact .inr h
theorem abl:rG KN:=Vo ZV uL uL
theorem j8.off(h:j8 H v sp):j8 (pR H) v sp:=by
 obtain⟨t,l,e,ht,r⟩:=h;exact⟨t,l,e,iZ ht (λ_ z=>by cases z),(ZW abl).of r⟩
theorem fX.off(h:fX H v gs):fX (pR H) v gs:=by
 obtain⟨l,ls,e,hl,p⟩:=h;exact⟨l,ls,e,iZ hl (λ_ z=>by cases z),Paired.iB p λ_ _ y=>iZ y (λ_ z=>by cases z)⟩
structure L7(K:Fg)(a:gB)(PB:aB)(H:Hp)(sc x rl:aB)(v:V)(ns:List Int)(sp:jr)(rows:List (List Str)):Prop where
 sc:cD K H sc (ns.map V.int)
 gx:fZ a H x (iU sp)
 rs:j8 H v sp
 rr:fX H (.ref rl) rows
 lt:m5 PB lG n6 H
section
variable{sc x rl:aB}{v:V}{ns:List Int}{sp:jr}{rows:List (List Str)}{H H':Hp}
theorem L7.same(h:L7 K a PB H sc x rl v ns sp rows)(s:Same H H'):L7 K a PB H' sc x rl v ns sp rows:=⟨s.seq h.sc,h.gx.same s,h.rs.same s,h.rr.same s,h.lt.same s⟩
theorem L7.but(h:L7 K a PB H sc x rl v ns sp rows)(b:lq PB H H')(l:m5 PB lG n6 H'):L7 K a PB H' sc x rl v ns sp rows:=by
 have s:=b.lam h.lt;exact⟨ig.seq (s.seq (cD.off h.sc)),(h.gx.off.same s).same ig,(h.rs.off.same s).same ig,(h.rr.off.same s).same ig,l⟩
theorem L7.right(h:L7 K a PB H sc x rl v ns sp rows)(ok:iG sp)(r1:fX H (.ref l1) g1)(r2:fX H (.ref l2) g2)(f1:g1.length<=9000)(f2:g2.length<=9000)(f3:∀r∈g1,r.length<=20)(f4:∀r∈g2,r.length<=20)(q:∀H',Same H H'->Q (.bl true) H'):vH a [.ref x,v,.ref l1,.ref l2] H Q E := ⟨x,v,sp,.ref l1,g1,.ref l2,g2,rfl,h.rs,ok,h.gx,r1,f1,λr hr=>bx (f3 r hr) (by decide),r2,f2,λr hr=>bx (f4 r hr) (by decide),q⟩
end
theorem Pa:∀(ps:List cA){m n:Int},0<=m->m<=n->(∀p∈ps,p.Ok)->sizeOf m ps<=sizeOf n ps
 |[],m,n,_,h,_=>h
 |p::ps,m,n,h0,h,ok=>by
  have g1:=(ok p (by simp)).gap.1;exact Pa ps (Int.mul_nonneg h0 (by omega)) (Int.mul_le_mul_of_nonneg_right h (by omega)) λq hq=>ok q (by simp[hq])
def acE(sp:jr):jr:={sp with week:=1,closed:=0}
theorem iG.flat(ok:iG sp):iG (acE sp) := ⟨ok.n1,ok.n8,ok.nd,ok.row,ok.c1,ok.c2,by show(1:Int)<=1;decide,by show(1:Int)<=14;decide,by show(0:Int)<=0;decide,by show(0:Int)<2^(1:Int).toNat;decide,Int.le_trans (Pa _ (show(0:Int)<=1 by decide) ok.w1 ok.nu) ok.sz⟩
end
abbrev K3:dI:=top 67
abbrev amn:List Str:=["_law_script","_law_spec_here","_law_garden_here","_law_many","_law_rows_here","_law_plain","_law_at","_law_lead","_law_again"]
structure acF(K:Fg)(mg:Str->Option aC)(a:gB)(dV:aC)(lv cB:aB):Prop where
 R:Yh K mg a dV
 D:RJ K mg
 C:aeH K mg a dV lv cB
 sp:∃f fd,Fn K "_law_spec" "_law_spec" rO ["_law_script","_law_first"] f fd/\mg "_law_spec"=some (.ref f)
 gar:∃f fd,Fn K "_law_garden" "_law_garden" vA ["_law_spec_here"] f fd/\mg "_law_garden"=some (.ref f)
 st:∃f fd,Fn K "_law_steps" "_law_steps" wD ["_law_spec_here","_law_state"] f fd/\mg "_law_steps"=some (.ref f)
 ro:∃f fd,Fn K "_law_rows" "_law_rows" wG ["_law_spec_here","_law_script","_law_first","_law_many","_law_wild"] f fd/\mg "_law_rows"=some (.ref f)
 ri:∃f fd,Fn K "_law_right" "_law_right" yr ["_law_garden_here","_law_spec_here","_law_lead","_law_rows_here"] f fd/\mg "_law_right"=some (.ref f)
structure OkA(P:cC)(w:World)(K:Fg)(mg:Str->Option aC)(base:Heap)(a:gB)(dV:aC)(lv cB PB:aB):Prop where
 R:acF K mg a dV lv cB
 C:CodeHd base cB PB
 hB:base.BuiltinsAt mg PB
theorem OkA.rounds(O:OkA P w K mg base a dV lv cB PB):∃f fd dv,zq K "rounds_of" "rounds_of" m9 dv f fd/\Binds K fd ["garden","state"] []/\Binds K fd ["garden","state"] [.none]/\mg "rounds_of"=some (.ref f)/\cM P w K mg base (fY P w) 12 f fd ["garden","state"] (vm K a PB):=by
 obtain⟨f,fd,dv,F,b0,b1,m⟩:=O.R.C.rof;obtain⟨fb,db,bF,hB,e⟩:=O.R.C.B.best;exact⟨f,fd,dv,F,b0,b1,m,Rz F O.R.C bF hB (aa2 bF.F O.R.C.B e O.C O.hB)⟩
inductive zW(K:Fg)(PB:aB)(vs:List V)(H:Hp)(Q:VK)(jU:XK):Prop
 |mk:∀(l:aB)(ns:List Int),vs=[.ref l]->cD K H l (ns.map V.int)->m5 PB lG n6 H->(∀H',Q (.bl true) H')->zW K PB vs H Q jU
def aia(t u:TS):TS:=λD σ H=>∀N:St->Hp->Prop,(∀σ' H',u D σ' H'->N σ' H')->t {D with nx:=N} σ H
theorem qP(h1:PS X st t)(h2:Ac X rest u):Ac X (st::rest) (aia t u):=λpins s σ H D I h=>aL h1 h2 pins s σ H D I (h (u D) λ_ _ z=>z)
theorem rQ:bY amn ["_law_script"] (aZ K3):=d9 (by decide +kernel)
theorem ae6(F:mH K "law" "law" K3 f fd)(O:OkA P w K mg base a dV lv cB PB):cM P w K mg base (fY P w) 14 f fd ["_law_script"] (zW K PB):=by
 refine F.lY rQ (λvs H Q E h=>?_) (λcdv A outer s H vs Q E hr h=>?_)
 ·obtain⟨l,ns,rfl,_⟩:=h;rfl
 ·obtain⟨sc,ns,rfl,hS,lt,q⟩:=h;have X:=O.R;have Zh:=X.R.Pl.W.S.Z;have B:=Zh.G.T.B;obtain⟨fsp,dsp,spF,mSp⟩:=X.sp;obtain⟨fg,dg,gF,mG⟩:=X.gar;obtain⟨fst,dst,stF,mSt⟩:=X.st;obtain⟨fro,dro,roF,mRo⟩:=X.ro;obtain⟨fri,dri,riF,mRi⟩:=X.ri;obtain⟨fb,db,bF,mB⟩:=X.R.be;obtain⟨fc,dc,cF,mC⟩:=X.D.ce;obtain⟨fr,dr,dvr,rF,b0,b1,mR,Ru⟩:=O.rounds;have amt:cM P w K mg base (fY P w) 2 fsp dsp ["_law_script","_law_first"] (KQ K):=aa8 spF.F X.D;have okg:cM P w K mg base (fY P w) 9 fg dg ["_law_spec_here"] (KR a):=aa9 gF.F Zh;have amu:cM P w K mg base (fY P w) 3 fro dro ["_law_spec_here","_law_script","_law_first","_law_many","_law_wild"] (Ez K):=Yd roF.F X.D bF mB stF mSt;have Ih:cM P w K mg base (fY P w) 7 fri dri ["_law_garden_here","_law_spec_here","_law_lead","_law_rows_here"] (vH a):=RM riF.F X.R;have uN:cM P w K mg base (fY P w) 1 fc dc ["_law_script","_law_k"] (zN K):=Ep cF.F B;have hr1:eZ 1 _:=hr.mono (by decide);have hr2:eZ 2 _:=hr.mono (by decide);have hr3:eZ 3 _:=hr.mono (by decide);have hr7:eZ 7 _:=hr.mono (by decide);have hr9:eZ 9 _:=hr.mono (by decide);have aib:eZ 12 _:=hr.mono (by decide);have kC:=cF.F.kp;have bC:=cF.b;have kG:=gF.F.kp;have bG:=gF.b;have kRi:=riF.F.kp;have bRi:=riF.b;have kR:=rF.kp;have v0:Vals [V.non] [Value.none]:=.cons rfl .nil;refine⟨_,qP (bL (i:=1) rQ.nd rfl (Or.inl rfl) (c7 amt hr2 mSp spF.F.kp spF.b bB (ao (pv 0) (ao aP aG)))) (qP (bL (i:=2) rQ.nd rfl (Or.inl rfl) (c7 okg hr9 mG kG bG bB (ao (pv 1) aG))) (qP (bL (i:=3) rQ.nd rfl (Or.inl rfl) (cg gO (c7 uN hr1 mC kC bC bB (ao (pv 0) (ao aP aG))) aP)) (qP (bL (i:=4) rQ.nd rfl (Or.inl rfl) (c7 amu hr3 mRo roF.F.kp roF.b bB (ao (pv 1) (ao (pv 0) (ao aP (ao (cg gw (pv 3) (cg gO (cg jK (c7 uN hr1 mC kC bC bB (ao (pv 0) (ao aP aG))) aP) aP)) (ao (lO iQ (cg gO (c7 uN hr1 mC kC bC bB (ao (pv 0) (ao aP aG))) aP) aP (cN _)) aG))))))) (qP (dZ (pw_or (gh (eX (c7 Ih hr7 mRi kRi bRi bB (ao (pv 2) (ao (pv 1) (ao (jh jO (pv 4) jM (jN (pv 3))) (ao (jh jO (pv 4) (jN (pv 3)) jM) aG))))))) (pw_or1 (gh (eX (c7 Ih hr7 mRi kRi bRi bB (ao (pv 2) (ao (pv 1) (ao (gH aG) (ao (pv 4) aG))))))))).pt (aU (bU jW)) bZ) (qP (bL (i:=5) rQ.nd rfl (Or.inl rfl) (tY Ru aib rfl mR kR b1 v0 (dJ bN) (ao (c7 okg hr9 mG kG bG bB (ao (d8 (ao (cH cQ (pv 1) aP (λ_ _=>rfl)) (ao (cH cQ (pv 1) aP (λ_ _=>rfl)) (ao aP (ao aP aG))))) aG)) aG))) (vG (dZ (cu CQ (cH cQ (pv 5) aP (λ_ _=>rfl)) jR (cN _)) (aL (bL (i:=6) rQ.nd rfl (Or.inl rfl) (cg gO (c7 uN hr1 mC kC bC bB (ao (pv 0) (ao aP aG))) (eO bT B.len PySem.boot_len (ao (cH cQ (pv 5) aP (λ_ _=>rfl)) aG)))) (aL (dZ (gh (eX (c7 Ih hr7 mRi kRi bRi bB (ao (pv 2) (ao (pv 1) (ao (cH cQ (pv 5) aP (λ_ _=>rfl)) (ao (cH cQ (pv 5) aP (λ_ _=>rfl)) aG))))))) (aU (bU jW)) bZ) (aU (dZ (gh (eX (c7 Ih hr7 mRi kRi bRi bB (ao (pv 2) (ao (pv 1) (ao (gH aG) (ao (cg sX (jh jO (cH cQ (pv 5) aP (λ_ _=>rfl)) (jN (pv 6)) jM) (jh jO (cH cQ (pv 5) aP (λ_ _=>rfl)) jM (jN (pv 6)))) aG))))))) (aU (bU jW)) bZ)))) bZ) (qP (rT (tY Ru aib rfl mR kR b1 v0 (dJ bN) (ao (pv 2) aG)) (nJ rfl (cj (cR 7 rQ.nd) (cj (cR 8 rQ.nd) gK)))) (qP (dZ (cu yC (pv 8) jR (cN _)) (aU (bU (c7 Ih hr7 mRi kRi bRi bB (ao (pv 2) (ao (pv 1) (ao (pv 7) (ao (pv 4) aG))))))) bZ) (qP (bL (i:=6) rQ.nd rfl (Or.inl rfl) (cg gO (c7 uN hr1 mC kC bC bB (ao (pv 0) (ao aP aG))) (eO bT B.len PySem.boot_len (ao (pv 8) aG)))) (qP (dZ (gh (eX (c7 Ih hr7 mRi kRi bRi bB (ao (pv 2) (ao (pv 1) (ao (pv 7) (ao (pv 8) aG))))))) (aU (bU jW)) bZ) (qP (dZ (gh (eX (c7 Ih hr7 mRi kRi bRi bB (ao (pv 2) (ao (pv 1) (ao (cg sX (pv 7) (jh jO (pv 8) jM (jN (pv 6)))) (ao (cg sX (jh jO (pv 8) (jN (pv 6)) jM) (jh jO (pv 8) jM (jN (pv 6)))) aG))))))) (aU (bU jW)) bZ) (aU (bU (c7 Ih hr7 mRi kRi bRi bB (ao (pv 2) (ao (pv 1) (ao (pv 7) (ao (cg sX (jh jO (pv 8) jM (jN (pv 6))) (jh jO (pv 8) (jN (cg gw (pv 6) aP)) jM)) aG)))))))))))))))))),?_⟩;refine λN hN=>⟨_,rfl,sc,ns,0,rfl,hS,λH1 v sp s1 rs ok=>hN _ _ ?_⟩
  refine λN hN=>⟨_,rfl,v,sp,rfl,rs,ok,λH2 x s2 gx=>hN _ _ ?_⟩
  have Y7:=s1.trans s2;have hS2:=Y7.seq hS;refine λN hN=>⟨_,rfl,sc,ns,3,rfl,hS2,_,_,rfl,rfl,(by show(0:Int)<6;decide),hN _ _ ?_⟩
  obtain⟨m,em,lm⟩:∃m:Nat,V.int (ns.getD 3 0 % 6)=V.int ((m:Nat):Int)/\m<=5:=⟨(ns.getD 3 0 % 6).toNat,by show V.int _=V.int _;rw[Int.toNat_of_nonneg (by omega)],by omega⟩;rw[em];obtain⟨n2,en2,ln2⟩:∃n2:Nat,(m:Int)+ns.getD 3 0 / 6 % 6=(n2:Int)/\n2<=10:=⟨((m:Int)+ns.getD 3 0 / 6 % 6).toNat,by omega,by omega⟩;refine λN hN=>⟨_,rfl,_,rfl,_,rfl,_,rfl,sc,ns,3,rfl,hS2,_,_,rfl,rfl,⟨by decide,by decide⟩,_,_,rfl,rfl,(by show(0:Int)<6;decide),_,_,rfl,rfl,_,rfl,sc,ns,3,rfl,hS2,_,_,rfl,rfl,(by show(0:Int)<4;decide),rfl,v,sp,sc,ns,4,n2,decide ((λi j:Int=>V.int (i % j)) (ns.getD 3 0) 4=V.int 1),?_,rs.same s2,ok,hS2,by omega,λH3 rl rows s3 rr lrw lrr=>hN _ _ ?_⟩
  ·rw[<- en2];rfl
  have lf3:L7 K a PB H3 sc x rl v ns sp rows:=⟨s3.seq hS2,gx.same s3,(rs.same s2).same s3,rr,lt.same (Y7.trans s3)⟩;have few:K1 rows:=⟨by omega,lrr⟩;have two:∀{g:List (List Str)},K1 g->g.length<=9000:=λh=>by have:=h.1;omega
  refine λN hN=>⟨_,rfl,_,rfl,_,rfl,_,rfl,_,rfl,zV lf3.rr (λp4 H4 s4 r4=>?_)⟩
  refine⟨_,rfl,_,rfl,_,rfl,O9 (Fb (lf3.same s4).rr (λp5 H5 s5 r5=>?_))⟩;have lf5:=(lf3.same s4).same s5;refine pU (lf5.right ok (r4.same s5) r5 (two (few.take m)) (two (few.drop m)) (few.take m).2 (few.drop m).2 λH6 s6=>⟨true,rfl,cU ?_⟩);have lf6:=lf5.same s6;refine⟨_,rfl,_,rfl,by show 0<=sizeLine;decide,λl7 h7=>⟨_,rfl,?_⟩⟩;have w7:=aV (o:=.lst []) h7;have rn7:fX (upd H6 l7 (.lst [])) (.ref l7) []:=⟨l7,[],rfl,aF,.nil⟩;have lf7:=lf6.same w7;generalize upd H6 l7 (.lst [])=H7 at w7 rn7 lf7⊢;refine pU (lf7.right ok rn7 lf7.rr (by decide) (two few) O8.2 few.2 λH8 s8=>⟨true,rfl,cU (hN _ _ ?_)⟩);have Jh:=lf7.same s8;obtain⟨tv,lp,rfl,htv,rlp⟩:=id Jh.rs;refine λN hN=>⟨_,rfl,tv,_,0,.ref lp,rfl,rfl,dY.of htv,rfl,_,rfl,tv,_,1,.int sp.cans,rfl,rfl,dY.of htv,rfl,by show 4<=sizeLine;decide,λtp htp=>?_⟩
  have w8:=aV (o:=.tup [V.ref lp,.int sp.cans,.int 1,.int 0]) htp;refine⟨.ref tp,acE sp,rfl,⟨tp,lp,rfl,aF,rlp.same jt w8⟩,ok.flat,λH9 y s9 gy=>?_⟩;have Od:=(Jh.same w8).same s9;refine pU (Cr gy ⟨ok.flat.gk,ok.flat.out⟩ ok.flat.szb Od.lt (λHA ta bA ltA rnA=>hN _ _ ?_));have lfA:=Od.but bA ltA;refine⟨λσ' H'=>∃u6,σ'=[some (.ref sc),some (.ref tv),some (.ref x),some (.int ((m:Nat):Int)),some (.ref rl),some (.ref ta),u6,none,none]/\L7 K a PB H' sc x rl (.ref tv) ns sp rows,?_,?_⟩
  ·rintro σ' HB ⟨u6,rfl,lfB⟩;refine λN hN=>⟨_,rfl,pU (Cr lfB.gx ⟨ok.gk,ok.out⟩ ok.szb lfB.lt (λHC tc bC' ltC rnC=>?_))⟩
   have lfC:=lfB.but bC' ltC;rcases rnC with ⟨l1,g1,htc,r1,f1⟩|⟨l1,l2,g1,g2,htc,r1,r2,f1,f2,pos⟩
   ·refine⟨tc,_,rfl,dY.of htc,rfl,_,_,rfl,_,_,rfl,rfl,hN _ _ ?_⟩;refine λN hN=>⟨_,rfl,rfl,_,rfl,dB ?_⟩
    exact⟨_,rfl,_,rfl,_,rfl,_,rfl,pU (lfC.right ok r1 lfC.rr (two f1) (two few) f1.2 few.2 λHD sD=>q HD)⟩
   ·refine⟨tc,_,rfl,dY.of htc,rfl,_,_,rfl,_,_,rfl,rfl,hN _ _ ?_⟩;refine λN hN=>⟨_,rfl,rfl,_,rfl,cU (hN _ _ ?_)⟩
    obtain⟨_,K4,e2,hl2,p2⟩:=id r2;cases e2;have ll2:K4.length=g2.length:=Paired.length p2;refine λN hN=>⟨_,rfl,sc,ns,4,rfl,lfC.sc,_,rfl,l2,_,rfl,.inl (cD.of hl2),_,_,rfl,rfl,(by show(0:Int)<((K4.map V.ref).length:Int);rw[ak];omega),?_⟩
    obtain⟨j,ej,lj⟩:∃j:Nat,V.int (ns.getD 4 0 % ((K4.map V.ref).length:Int))=V.int ((j:Nat):Int)/\j<=4000:=by
     have a0:0<=ns.getD 4 0 % ((K4.map V.ref).length:Int):=Int.emod_nonneg _ (by rw[ak];omega);have a1:ns.getD 4 0 % ((K4.map V.ref).length:Int)<((K4.map V.ref).length:Int):=Int.emod_lt_of_pos _ (by rw[ak];omega);have:=f2.1;rw[ak]at a0 a1;exact⟨(ns.getD 4 0 % (K4.length:Int)).toNat,by show V.int _=V.int _;rw[ak,Int.toNat_of_nonneg a0],by omega⟩
    rw[ej];refine hN _ _ ?_;refine λN hN=>⟨_,rfl,_,rfl,_,rfl,_,rfl,pU (lfC.right ok r1 r2 (two f1) (two f2) f1.2 f2.2 λHD sD=>⟨true,rfl,cU (hN _ _ ?_)⟩)⟩
    have lfD:=lfC.same sD;have r1D:=r1.same sD;have r2D:=r2.same sD;refine λN hN=>⟨_,rfl,_,rfl,_,rfl,_,rfl,_,rfl,_,rfl,zV (m:=j) r2D (λp1 HE sE q1=>?_)⟩
    refine Fd (r1D.same sE) q1 (by have:=f1.1;have:=(f2.take j).1;omega) λp2' HF sF q2=>?_
    have sDF:=sE.trans sF;refine⟨_,rfl,_,rfl,_,rfl,O9 (Fb (m:=j) (r2D.same sDF) (λp3 HG sG q3=>?_))⟩;refine⟨_,rfl,_,rfl,_,rfl,zV (m:=j) ((r2D.same sDF).same sG) (λp4' HI sI q4=>?_)⟩;refine Fd (q3.same sI) q4 (by have:=(f2.drop j).1;have:=(f2.take j).1;omega) λp5' HJ sJ q5=>?_
    have sDJ:=((sDF.trans sG).trans sI).trans sJ;have lfJ:=lfD.same sDJ;have app:∀{g h:List (List Str)},K1 g->K1 h->(g++h).length<=9000/\∀r∈g++h,r.length<=20:=λa b=>⟨by rw[aY];have:=a.1;have:=b.1;omega,λr hr=>by
     rcases bQ.mp hr with h|h
     ·exact a.2 r h
     ·exact b.2 r h⟩
    refine pU (lfJ.right ok (((q2.same sG).same sI).same sJ) q5 (app f1 (f2.take j)).1 (app (f2.drop j) (f2.take j)).1 (app f1 (f2.take j)).2 (app (f2.drop j) (f2.take j)).2 λHK sK=>⟨true,rfl,cU (hN _ _ ?_)⟩);have lfK:=lfJ.same sK;have r2K:=(r2D.same sDJ).same sK;refine⟨_,rfl,_,rfl,_,rfl,_,rfl,_,rfl,_,rfl,zV (m:=j) r2K (λp6 HL sL q6=>?_)⟩;refine⟨_,rfl,_,rfl,_,_,rfl,rfl,_,rfl,?_⟩;refine O9 (Fb (m:=j+1) (r2K.same sL) (λp7 HM sM q7=>?_));refine Fd (q6.same sM) q7 (by have:=(f2.drop (j+1)).1;have:=(f2.take j).1;omega) λp8 HN sN q8=>?_
    have lfN:=((lfK.same sL).same sM).same sN;have r1N:=(((((r1D.same sDJ).same sK).same sL).same sM).same sN);exact pU (lfN.right ok r1N q8 (two f1) (app (f2.take j) (f2.drop (j+1))).1 f1.2 (app (f2.take j) (f2.drop (j+1))).2 λHO sO=>q HO)
  ·intro fin;rcases rnA with ⟨l1,g1,hta,r1,f1⟩|⟨l1,l2,g1,g2,hta,r1,r2,f1,f2,pos⟩
   ·refine⟨_,rfl,ta,_,1,.non,rfl,rfl,dY.of hta,rfl,rfl,_,rfl,cU (fin _ _ ⟨none,rfl,lfA⟩)⟩
   ·refine⟨_,rfl,ta,_,1,.ref l2,rfl,rfl,dY.of hta,rfl,rfl,_,rfl,dB ?_⟩;obtain⟨_,K4,e2,hl2,p2⟩:=id r2;cases e2;have ll2:K4.length=g2.length:=Paired.length p2;refine⟨_,rfl,sc,ns,5,rfl,lfA.sc,_,rfl,ta,_,1,.ref l2,rfl,rfl,dY.of hta,rfl,l2,_,rfl,.inl (cD.of hl2),_,_,rfl,rfl,(by show(0:Int)<((K4.map V.ref).length:Int);rw[ak];omega),?_⟩;obtain⟨j,ej,lj⟩:∃j:Nat,V.int (ns.getD 5 0 % ((K4.map V.ref).length:Int))=V.int ((j:Nat):Int)/\j<=4000:=by
     have a0:0<=ns.getD 5 0 % ((K4.map V.ref).length:Int):=Int.emod_nonneg _ (by rw[ak];omega);have a1:ns.getD 5 0 % ((K4.map V.ref).length:Int)<((K4.map V.ref).length:Int):=Int.emod_lt_of_pos _ (by rw[ak];omega);have:=f2.1;rw[ak]at a0 a1;exact⟨(ns.getD 5 0 % (K4.length:Int)).toNat,by show V.int _=V.int _;rw[ak,Int.toNat_of_nonneg a0],by omega⟩
    rw[ej];refine⟨_,rfl,_,rfl,_,rfl,ta,_,0,.ref l1,rfl,rfl,dY.of hta,rfl,_,rfl,ta,_,1,.ref l2,rfl,rfl,dY.of hta,rfl,pU (lfA.right ok r1 r2 (two f1) (two f2) f1.2 f2.2 λHD sD=>⟨true,rfl,cU ?_⟩)⟩;have lfD:=lfA.same sD;have r2D:=r2.same sD;have htD:=sD _ _ hta;refine⟨_,rfl,_,rfl,by show 0<=sizeLine;decide,λlE hE=>?_⟩;have wE:=aV (o:=.lst []) hE;have rnE:fX (upd HD lE (.lst [])) (.ref lE) []:=⟨lE,[],rfl,aF,.nil⟩;have lfE:=lfD.same wE;generalize upd HD lE (.lst [])=HE at wE rnE lfE⊢;refine⟨_,rfl,ta,_,1,.ref l2,rfl,rfl,dY.of (wE _ _ htD),rfl,_,rfl,_,rfl,O9 (Fb (m:=j) (r2D.same wE) (λp3 HG sG q3=>?_))⟩;refine⟨_,rfl,ta,_,1,.ref l2,rfl,rfl,dY.of (sG _ _ (wE _ _ htD)),rfl,_,rfl,_,rfl,zV (m:=j) ((r2D.same wE).same sG) (λp4' HI sI q4=>?_)⟩;refine Fd (q3.same sI) q4 (by have:=(f2.drop j).1;have:=(f2.take j).1;omega) λp5' HJ sJ q5=>?_
    have sEJ:=(sG.trans sI).trans sJ;have lfJ:=lfE.same sEJ;exact pU (lfJ.right ok (rnE.same sEJ) q5 (by decide) (by rw[aY];have:=(f2.drop j).1;have:=(f2.take j).1;omega) O8.2 (λr hr=>by
     rcases bQ.mp hr with h|h
     ·exact(f2.drop j).2 r h
     ·exact(f2.take j).2 r h) λHK sK=>⟨true,rfl,cU (fin _ _ ⟨_,rfl,lfJ.same sK⟩)⟩)
theorem len1{us:List aC}(h:us.length=1):∃x,us=[x]:=match us,h with|[x],_=>⟨x,rfl⟩
theorem len2{us:List aC}(h:us.length=2):∃x y,us=[x,y]:=match us,h with|[x,y],_=>⟨x,y,rfl⟩
theorem aif{us:List aC}(h:us.length=3):∃x y z,us=[x,y,z]:=match us,h with|[x,y,z],_=>⟨x,y,z,rfl⟩
theorem ul1{P:List aC->Prop}(h:∀x,P [x]):∀us,us.length=1->P us
 |[x],_=>h x
theorem ul2{P:List aC->Prop}(h:∀x y,P [x,y]):∀us,us.length=2->P us
 |[x,y],_=>h x y
theorem ul3{P:List aC->Prop}(h:∀x y z,P [x,y,z]):∀us,us.length=3->P us
 |[x,y,z],_=>h x y z
theorem ul4{P:List aC->Prop}(h:∀x y z u,P [x,y,z,u]):∀us,us.length=4->P us
 |[x,y,z,u],_=>h x y z u
theorem ul5{P:List aC->Prop}(h:∀x y z u v,P [x,y,z,u,v]):∀us,us.length=5->P us
 |[x,y,z,u,v],_=>h x y z u v
abbrev fN(x q:Str)(s:dI)(dv kV dc pm:aC)(an:Option aB)(cd ct:aC):fH:=fnOf x q (oA s) (iV s) (aZ s) dv kV dc pm an cd ct
def jj(K:Fg)(x:Str)(st:dI)(ps:List Str):Prop:=∃f fd,nsIn K mainGlobals x=some (some (.ref f))/\Fn K x x st ps f fd
def pA(K:Fg)(C:aB)(x q:Str)(st:dI)(ps:List Str):Prop:=∃f fd,Fn K x q st ps f fd/\Meth K C x f
theorem jk(X:K.In h)(G:h.Ns mainGlobals mg)(t:jj K x st ps):∃f fd,Fn K x x st ps f fd/\mg x=some (.ref f):=by
 obtain⟨f,fd,a,F⟩:=t;exact⟨f,fd,F,mg_of X G a⟩
section
variable{C f:aB}{x q:Str}{st:dI}{ps:List Str}{od an:Option aB}{sl:Array (Option aC)}{oc kV dc pm cd ct:aC}
theorem amC(a:nsIn K mainGlobals x=some (some (.ref f)))(l:K.lookup f=some ⟨oc,od,.func (fN x x st .none kV dc pm an cd ct),sl⟩)(c:codeIn K cd x=true)(k:keepIn K (.ref f)=true)(hb:mH K x x st f (fN x x st .none kV dc pm an cd ct)->Binds K (fN x x st .none kV dc pm an cd ct) ps []):jj K x st ps := ⟨f,_,a,⟨qg l c k,hb (qg l c k)⟩⟩
theorem aii(a:findIn K (.ref C) x=some (some (.ref f)))(i:isFn K (.ref f)=true)(l:K.lookup f=some ⟨oc,od,.func (fN x q st .none kV dc pm an cd ct),sl⟩)(c:codeIn K cd q=true)(k:keepIn K (.ref f)=true)(hb:mH K x q st f (fN x q st .none kV dc pm an cd ct)->Binds K (fN x q st .none kV dc pm an cd ct) ps []):pA K C x q st ps := ⟨f,_,⟨qg l c k,hb (qg l c k)⟩,⟨a,i,k⟩⟩
end
theorem all_mk{l:PySem.W.OpenLaw}{fa:aB}{PB cB:aB}(X:K.In h)(G:h.Ns mainGlobals mg)(hfa:mg "law"=some (.ref fa)){uQ fj pK tooMany dX gA dz pot cV garden V3 Td YZ lv abm abn Tr abo Tf fBI ae9:aB}{amJ ail odT ain K5 aio aip acK Ii aiq acL Ij air amK amL amM ais Pb amN:Option aB}{amO slT ait aiu acM aiv acN aiw amP aix amQ:Array (Option aC)}{amR aiy aiz aiA afa aiB ocT aiC K6 K7 K8 Ik K9 aiD aiE aiF aiG Yj aiH acO Il Im Io Cu Ip aiI acP Ir Iu Iv Cv Iw aiJ amS amT amU amV aiK amW aiL Pg Ph Pj Iz Pk:aC}{am1 aiM am2:List aC}{afb:aB}{am7 am8 am9 ana anb:Option aC}{vsB:Array aC}(vI:nsIn K mainGlobals "isinstance"=some none)(afc:nsIn K mainGlobals "bool"=some none)(aiN:nsIn K mainGlobals "int"=some none)(aiO:nsIn K mainGlobals "str"=some none)(afd:nsIn K mainGlobals "list"=some none)(abp:nsIn K mainGlobals "tuple"=some none)(aiP:nsIn K mainGlobals "len"=some none)(aiQ:nsIn K mainGlobals "all"=some none)(aiR:nsIn K mainGlobals "set"=some none)(aiS:nsIn K mainGlobals "zip"=some none)(La:nsIn K mainGlobals "reversed"=some none)(abq:nsIn K mainGlobals "range"=some none)(Fe:nsIn K mainGlobals "ValueError"=some none)(xg:nsIn K mainGlobals "enumerate"=some none)(afe:nsIn K mainGlobals "dict"=some none)(aiT:nsIn K mainGlobals "max"=some none)(anc:nsIn K mainGlobals "LONGEST_NAME"=some (some (.int 12 amD)))(ane:nsIn K mainGlobals "MOST_GAP"=some (some (.int 60 amE)))(anf:nsIn K mainGlobals "MOST_POTS"=some (some (.int 8 amF)))(ang:nsIn K mainGlobals "MOST_CANS"=some (some (.int 8 amG)))(anh:nsIn K mainGlobals "MOST_WEEK"=some (some (.int 14 amH)))(ani:nsIn K mainGlobals "MOST_STATES"=some (some (.int 20000 amI)))(afg:nsIn K mainGlobals "GardenError"=some (some (.ref uQ)))(Yk:nsIn K mainGlobals "BadPot"=some (some (.ref fj)))(Yl:nsIn K mainGlobals "BadRow"=some (some (.ref pK)))(RN:nsIn K mainGlobals "TooMany"=some (some (.ref tooMany)))(RP:nsIn K mainGlobals "NoState"=some (some (.ref dX)))(abr:nsIn K mainGlobals "NoPot"=some (some (.ref gA)))(Ym:nsIn K mainGlobals "BadDay"=some (some (.ref dz)))(aiU:nsIn K mainGlobals "Pot"=some (some (.ref pot)))(Yn:nsIn K mainGlobals "Cactus"=some (some (.ref cV)))(Yo:nsIn K mainGlobals "Garden"=some (some (.ref garden)))(ne:pot≠cV)(tWh:jj K "is_whole" Dz ["value","least","most"])(tNm:jj K "is_name" xY ["value"])(aPI:findIn K (.ref pot) "__init__"=some (some (.ref V3)))(iPI:isFn K (.ref V3)=true)(lPI:K.lookup V3=some ⟨amR,amJ,.func (fN "__init__" "Pot.__init__" qC .none aiy aiz aiA ail afa aiB),amO⟩)(cPI:codeIn K afa "Pot.__init__"=true)(kPI:keepIn K (.ref V3)=true)(tPG:pA K pot "with_gap" "Pot.with_gap" DK ["self","gap"])(tCI:pA K cV "__init__" "Cactus.__init__" zj ["self","name","gap","rest"])(tCG:pA K cV "with_gap" "Cactus.with_gap" DN ["self","gap"])(anj:jj K "own_pots" adU ["pots"])(ank:jj K "refuse_bad_counts" adV ["pots","cans","week","closed"])(anl:jj K "refuse_name_twice" adW ["pots"])(aGI:findIn K (.ref garden) "__init__"=some (some (.ref YZ)))(iGI:isFn K (.ref YZ)=true)(lGI:K.lookup YZ=some ⟨aiC,ain,.func (fN "__init__" "Garden.__init__" sGI (.ref Td) K6 K7 K8 K5 Ik K9),ait⟩)(cGI:codeIn K Ik "Garden.__init__"=true)(kGI:keepIn K (.ref YZ)=true)(lT:K.lookup Td=some ⟨ocT,odT,.seq #[.int 1 u1,.int 1 u2,.int 0 u3] nT,slT⟩)(tSz:pA K garden "size" "Garden.size" Wn ["self"])(anm:jj K "is_state" Ww ["garden","value"])(ano:jj K "refuse_no_state" Kg ["garden","value"])(anp:pA K garden "number" "Garden.number" ad7 ["self","state"])(anq:pA K garden "state" "Garden.state" ad8 ["self","number"])(afh:pA K garden "fresh" "Garden.fresh" Rq ["self"])(aiV:jj K "with_cans" Oe ["garden","cans"])(aiW:jj K "place_of" aaH ["garden","name"])(anr:jj K "is_set" DX ["number","bit"])(ant:jj K "cans_on" yc ["garden","day"])(anu:jj K "day_behind" NP ["garden","day"])(anv:pA K pot "may" "Pot.may" yd ["self","since"])(anw:pA K cV "may" "Cactus.may" yg ["self","since"])(anx:jj K "without_water" Wy ["parts","pot","since"])(anz:jj K "with_water" Wz ["parts","pot","since","bit"])(anA:jj K "choices" qI ["garden","state"])(anB:jj K "roads" zJ ["garden"])(anC:jj K "table" Ek ["garden"])(anD:nsIn K mainGlobals "Lives"=some (some (.ref lv)))(anE:pA K lv "__init__" "Lives.__init__" aaV ["self","garden"])(anF:pA K lv "days" "Lives.days" aaW ["self","state"])(anG:pA K lv "rank" "Lives.rank" aaZ ["self","state"])(anH:findIn K (.ref lv) "best"=some (some (.ref abm)))(anI:isFn K (.ref abm)=true)(anJ:K.lookup abm=some ⟨aiD,aio,.func (fN "best" "Lives.best" Kz .none aiE aiF aiG aip Yj aiH),aiu⟩)(anK:codeIn K Yj "Lives.best"=true)(aiX:keepIn K (.ref abm)=true)(anL:jj K "told_or_fresh" Oi ["garden","state"])(anM:jj K "names_in" qM ["garden","choice"])(anN:nsIn K mainGlobals "rounds_of"=some (some (.ref abn)))(anO:K.lookup abn=some ⟨acO,acK,.func (fN "rounds_of" "rounds_of" m9 (.ref Tr) Il Im Io Ii Cu Ip),acM⟩)(anP:codeIn K Cu "rounds_of"=true)(anQ:keepIn K (.ref abn)=true)(aiY:K.lookup Tr=some ⟨aiI,aiq,.seq #[.none] amX,aiv⟩)(anR:jj K "refuse_bad_day" uX ["garden","state","places","day"])(anS:jj K "since_behind" uY ["state","places"])(anT:jj K "dry_names" N5 ["garden","since"])(anU:nsIn K mainGlobals "followed"=some (some (.ref abo)))(anV:K.lookup abo=some ⟨acP,acL,.func (fN "followed" "followed" m8 (.ref Tf) Ir Iu Iv Ij Cv Iw),acN⟩)(anW:codeIn K Cv "followed"=true)(anY:keepIn K (.ref abo)=true)(aiZ:K.lookup Tf=some ⟨aiJ,air,.seq #[.int 0 aik] amY,aiw⟩)(anZ:jj K "kept" Hr ["garden","rows"])(aBI:findIn K (.ref dz) "__init__"=some (some (.ref fBI)))(iBI:isFn K (.ref fBI)=true)(lBI:K.lookup fBI=some ⟨amS,amK,.func (fN "__init__" "BadDay.__init__" WW .none amT amU amV amL aiK amW),amP⟩)(cBI:codeIn K aiK "BadDay.__init__"=true)(kBI:keepIn K (.ref fBI)=true)(an0:K.lookup dz=some ⟨.type "type",amM,.cls ⟨amZ,am1,.ref dz::aiM,afb,am0,am3,am5,am2,am4,am6,false⟩,#[am7,am8,am9,ana,some (.builtin "ValueError.__new__"),anb]⟩)(an1:tailIn K J5 aiM=true)(an2:nsOkIn K afb=true)(an3:nsIn K afb "__init__"=some (some (.ref fBI)))(an4:findIn K (.ref dz) "__setattr__"=some (some (.builtin "object.__setattr__")))(an5:Dy K dz=true)(an6:takerIn K dz "day"=some none)(acR:hasDictIn K dz=true)(an7:findIn K (.ref dz) "day"=some none)(rdG:readsIn K uQ (.type "type")=true)(gaG:specialIn K (.ref uQ) "__getattribute__"=some (some (.builtin "type.__getattribute__")))(atG:findCls K (.ref uQ) (.type "type") "__init__"=some (.val (.builtin "ValueError.__init__")))(an8:jj K "_law_sorts" DW ["_law_error"])(an9:jj K "_law_cell_at" Ot ["_law_script","_law_k"])(aoa:jj K "_law_draw" Ou ["_law_cell","_law_k","_law_many"])(aob:jj K "_law_spec" rO ["_law_script","_law_first"])(aoc:jj K "_law_garden" vA ["_law_spec_here"])(aod:jj K "_law_behind" lV ["_law_spec_here","_law_state","_law_wet"])(aoe:jj K "_law_steps" wD ["_law_spec_here","_law_state"])(aof:jj K "kept_for_ever" yp ["garden","lead","rows"])(aog:jj K "_law_walked" pO ["_law_spec_here","_law_rows_here","_law_state","_law_first"])(aoh:jj K "_law_refusal" vq ["_law_error"])(aoi:jj K "_law_rows" wG ["_law_spec_here","_law_script","_law_first","_law_many","_law_wild"])(aoj:jj K "_law_due" O3 ["_law_spec_here","_law_lead","_law_rows_here"])(aok:jj K "_law_right" yr ["_law_garden_here","_law_spec_here","_law_lead","_law_rows_here"])(ai0:nsIn K mainGlobals "law"=some (some (.ref ae9)))(aol:K.lookup ae9=some ⟨aiL,ais,.func (fN "law" "law" K3 .none Pg Ph Pj Pb Iz Pk),aix⟩)(aom:codeIn K Iz "law"=true)(aon:keepIn K (.ref ae9)=true)(lcB:K.lookup cB=some ⟨.type "code",amN,.fields vsB,amQ⟩)(v11:vsB[11]?=some (.ref PB))(aoo:vsB.getD 11 .none=.ref PB)(v18:vsB.getD 18 .none=.str flB tfB)(v7:vsB.getD 7 .none=.int fgB tgB)(v9:vsB.getD 9 .none=.bool inB)(v10:vsB.getD 10 .none=.int txB ttB)(ncP:cB≠PB)(eB:Yj=.ref cB)(gt:specialIn K (.builtin "object.__class__") "__get__"=some (some (.builtin "getset_descriptor.__get__")))(tk:takesIn K (.builtin "object.__class__")=some true)(afi:plainGet K pot Str.empty=true)(afj:hasDictIn K pot=true)(afk:plainOver K pot=true)(afl:findIn K (.ref pot) "__setattr__"=some (some (.builtin "object.__setattr__")))(afm:findIn K (.ref pot) "__class__"=some (some (.builtin "object.__class__")))(afn:mroIn K pot (.type "object")=some true)(IK:kitOne K (.ref pot) (.type "bool")=some false)(Lb:kitOne K (.ref pot) (.type "int")=some false)(Ld:kitOne K (.ref pot) (.type "str")=some false)(IV:kitOne K (.ref pot) (.type "list")=some false)(Fi:kitOne K (.ref pot) (.type "tuple")=some false)(afo:makesIn K pot=true)(afp:keepIn K (.ref pot)=true)(RQ:plainGet K cV Str.empty=true)(RT:hasDictIn K cV=true)(RV:plainOver K cV=true)(RW:findIn K (.ref cV) "__setattr__"=some (some (.builtin "object.__setattr__")))(RX:findIn K (.ref cV) "__class__"=some (some (.builtin "object.__class__")))(RZ:mroIn K cV (.type "object")=some true)(zX:kitOne K (.ref cV) (.type "bool")=some false)(Aq:kitOne K (.ref cV) (.type "int")=some false)(Ar:kitOne K (.ref cV) (.type "str")=some false)(zY:kitOne K (.ref cV) (.type "list")=some false)(xO:kitOne K (.ref cV) (.type "tuple")=some false)(R0:makesIn K cV=true)(R3:keepIn K (.ref cV)=true)(R4:plainGet K garden Str.empty=true)(R5:hasDictIn K garden=true)(R6:plainOver K garden=true)(R7:findIn K (.ref garden) "__setattr__"=some (some (.builtin "object.__setattr__")))(R8:findIn K (.ref garden) "__class__"=some (some (.builtin "object.__class__")))(R9:mroIn K garden (.type "object")=some true)(zZ:kitOne K (.ref garden) (.type "bool")=some false)(Av:kitOne K (.ref garden) (.type "int")=some false)(Aw:kitOne K (.ref garden) (.type "str")=some false)(z6:kitOne K (.ref garden) (.type "list")=some false)(xP:kitOne K (.ref garden) (.type "tuple")=some false)(Sd:makesIn K garden=true)(Sg:keepIn K (.ref garden)=true)(IW:findIn K (.ref pot) "name"=some none)(Le:findIn K (.ref pot) "gap"=some none)(Ja:findIn K (.ref pot) "rest"=some none)(z7:findIn K (.ref cV) "name"=some none)(Ax:findIn K (.ref cV) "gap"=some none)(z8:findIn K (.ref cV) "rest"=some none)(z9:findIn K (.ref garden) "pots"=some none)(Aa:findIn K (.ref garden) "cans"=some none)(Ab:findIn K (.ref garden) "week"=some none)(wJ:findIn K (.ref garden) "closed"=some none)(rdP:readsIn K pot (.type "type")=true)(gaP:specialIn K (.ref pot) "__getattribute__"=some (some (.builtin "type.__getattribute__")))(atP:findCls K (.ref pot) (.type "type") "__init__"=some (.val (.ref V3)))(kpp:kitOne K (.ref pot) (.ref pot)=some true)(kcp:kitOne K (.ref cV) (.ref pot)=some true)(Jb:kitOne K (.type "NoneType") (.ref pot)=some false)(abt:kitOne K (.type "bool") (.ref pot)=some false)(afq:kitOne K (.type "int") (.ref pot)=some false)(afr:kitOne K (.type "str") (.ref pot)=some false)(abu:kitOne K (.type "list") (.ref pot)=some false)(Yp:kitOne K (.type "tuple") (.ref pot)=some false)(Sh:excIn K fj J5 "ValueError.__new__"=true)(Lf:excIn K tooMany J5 "ValueError.__new__"=true)(Lg:excIn K dX J5 "ValueError.__new__"=true)(Yq:excIn K gA J5 "ValueError.__new__"=true)(Yr:findIn K (.ref gA) "__getattribute__"=some (some (.builtin "BaseException.__getattribute__")))(Ys:findIn K (.ref gA) "__getattr__"=some none)(Yt:isClsIn K gA=true)(Yu:findIn K (.ref gA) "__class__"=some (some (.builtin "object.__class__")))(Yv:mroIn K gA (.type "object")=some true)(Yw:subIn K (.ref gA) (.type "BaseException")=some true)(Yx:kitOne K (.ref gA) (.ref fj)=some false)(Yy:kitOne K (.ref gA) (.ref tooMany)=some false)(Yz:kitOne K (.ref gA) (.ref gA)=some true)(YB:kitOne K (.ref gA) (.ref dz)=some false)(YC:kitOne K (.ref gA) (.ref pK)=some false)(YD:kitOne K (.ref gA) (.ref dX)=some false)(YF:kitOne K (.ref gA) (.type "ValueError")=some true)(YG:exmOne K (.ref gA) (.ref uQ)=some true)(Sq:findIn K (.ref dz) "__getattribute__"=some (some (.builtin "BaseException.__getattribute__")))(Ss:findIn K (.ref dz) "__getattr__"=some none)(Sv:isClsIn K dz=true)(Sw:findIn K (.ref dz) "__class__"=some (some (.builtin "object.__class__")))(Sx:mroIn K dz (.type "object")=some true)(Sy:subIn K (.ref dz) (.type "BaseException")=some true)(SJ:kitOne K (.ref dz) (.ref fj)=some false)(SM:kitOne K (.ref dz) (.ref tooMany)=some false)(SN:kitOne K (.ref dz) (.ref gA)=some false)(SQ:kitOne K (.ref dz) (.ref dz)=some true)(SX:kitOne K (.ref dz) (.ref pK)=some false)(S5:kitOne K (.ref dz) (.ref dX)=some false)(S6:kitOne K (.ref dz) (.type "ValueError")=some true)(S7:exmOne K (.ref dz) (.ref uQ)=some true)(Lh:findIn K (.ref dX) "__getattribute__"=some (some (.builtin "BaseException.__getattribute__")))(Li:findIn K (.ref dX) "__getattr__"=some none)(Lj:isClsIn K dX=true)(Lk:findIn K (.ref dX) "__class__"=some (some (.builtin "object.__class__")))(Ln:mroIn K dX (.type "object")=some true)(Lp:subIn K (.ref dX) (.type "BaseException")=some true)(Lq:kitOne K (.ref dX) (.ref fj)=some false)(Lr:kitOne K (.ref dX) (.ref tooMany)=some false)(Ls:kitOne K (.ref dX) (.ref gA)=some false)(Lw:kitOne K (.ref dX) (.ref dz)=some false)(Lx:kitOne K (.ref dX) (.ref pK)=some false)(Ly:kitOne K (.ref dX) (.ref dX)=some true)(Lz:kitOne K (.ref dX) (.type "ValueError")=some true)(LC:exmOne K (.ref dX) (.ref uQ)=some true)(ai1:plainGet K lv Str.empty=true)(ai2:hasDictIn K lv=true)(ai3:plainOver K lv=true)(ai4:findIn K (.ref lv) "__setattr__"=some (some (.builtin "object.__setattr__")))(ai5:findIn K (.ref lv) "__class__"=some (some (.builtin "object.__class__")))(ai6:mroIn K lv (.type "object")=some true)(LK:kitOne K (.ref lv) (.type "bool")=some false)(S8:kitOne K (.ref lv) (.type "int")=some false)(S9:kitOne K (.ref lv) (.type "str")=some false)(LQ:kitOne K (.ref lv) (.type "list")=some false)(Jc:kitOne K (.ref lv) (.type "tuple")=some false)(ai7:makesIn K lv=true)(ai8:keepIn K (.ref lv)=true)(Fj:findIn K (.ref lv) "garden"=some none)(Fl:findIn K (.ref lv) "counts"=some none) : ∃fd:fH,(∀(s:aW)(v:aC),BindsTo s fd ⟨[v],[]⟩ [("_law_script",v)])/\(∀base:Heap,K.In base->CodeHd base cB PB)/\∀base:Heap,K.In base->base.Ns mainGlobals mg->base.BuiltinsAt mg PB->cM l.prog w K mg base (fY l.prog w) 14 fa fd ["_law_script"] (zW K PB):=by
 have e:=hfa.symm.trans (mg_of X G ai0);cases e;have YH:=mg_of X G afg;have Jd:=mg_of X G Yk;have YJ:=mg_of X G Yl;have Cw:=mg_of X G RN;have Cy:=mg_of X G RP;have Pn:=mg_of X G abr;have Je:=mg_of X G Ym;have ai9:=mg_of X G aiU;have YK:=mg_of X G Yn;have YL:=mg_of X G Yo;obtain⟨fWh,dWh,bWh,mWh⟩:=jk X G tWh;obtain⟨fNm,dNm,bNm,mNm⟩:=jk X G tNm;have FPI:=qg (st:=qC) lPI cPI kPI;have bPI:=FPI.binds (ps:=["self","name","gap"]) λ_ _ _ _ _ _=>ul3 λ_ _ _=>rfl
 obtain⟨fPG,dPG,bPG,⟨aPG,iPG,kPG⟩⟩:=id tPG;obtain⟨fCI,dCI,bCI,⟨aCI,iCI,kCI⟩⟩:=id tCI;obtain⟨fCG,dCG,bCG,⟨aCG,iCG,kCG⟩⟩:=id tCG;obtain⟨V4,aaq,aop,adX⟩:=jk X G anj;obtain⟨V5,aar,aoq,adY⟩:=jk X G ank;obtain⟨V6,aas,aor,adZ⟩:=jk X G anl;obtain⟨fSz,dSz,bSz,⟨aSz,iSz,kSz⟩⟩:=id tSz;obtain⟨aos,aot,aou,aov⟩:=jk X G anm;obtain⟨aow,aox,aoy,aoz⟩:=jk X G ano;obtain⟨V9,aat,aoA,⟨aoB,aoC,aoD⟩⟩:=id anp;obtain⟨Wa,aau,aoE,⟨aoF,aoG,aoH⟩⟩:=id anq;obtain⟨agZ,ag2,auF,⟨auG,auH,auI⟩⟩:=id afh;obtain⟨aoI,aoJ,auJ,auK⟩:=jk X G aiV;obtain⟨agY,ag1,auL,auM⟩:=jk X G aiW;have aoK:=mg_of X G anD;obtain⟨auN,auO,aoL,⟨aoM,aoN,auP⟩⟩:=id anE;have aja:=qg (st:=Kz) anJ anK aiX;have aoO:=aja.binds (ps:=["self","state"]) λ_ _ _ _ _ _=>ul2 λ_ _=>rfl
 have aoP:zq K "rounds_of" "rounds_of" m9 (.ref Tr) abn (fN "rounds_of" "rounds_of" m9 (.ref Tr) Il Im Io Ii Cu Ip):=⟨⟨acO,acK,Il,Im,Io,Ii,Cu,Ip,acM,rfl,anO,anP⟩,anQ⟩;have ajb:Binds K (fN "rounds_of" "rounds_of" m9 (.ref Tr) Il Im Io Ii Cu Ip) ["garden","state"] []:=λs us hK hl=>match us,hl with|[_,_],_=>binds_K hK rfl aiY rfl rfl rfl
 have ajc:Binds K (fN "rounds_of" "rounds_of" m9 (.ref Tr) Il Im Io Ii Cu Ip) ["garden","state"] [.none]:=λs us hK hl=>(by obtain⟨x,rfl⟩:=len1 (show us.length=1 by simpa using hl);exact binds_K hK rfl aiY rfl rfl rfl)
 have aoQ:=mg_of X G anN;have aoR:zq K "followed" "followed" m8 (.ref Tf) abo (fN "followed" "followed" m8 (.ref Tf) Ir Iu Iv Ij Cv Iw):=⟨⟨acP,acL,Ir,Iu,Iv,Ij,Cv,Iw,acN,rfl,anV,anW⟩,anY⟩;have ajd:Binds K (fN "followed" "followed" m8 (.ref Tf) Ir Iu Iv Ij Cv Iw) ["garden","rows","state","first"] []:=λs us hK hl=>match us,hl with|[_,_,_,_],_=>binds_K hK rfl aiZ rfl rfl rfl
 have aje:Binds K (fN "followed" "followed" m8 (.ref Tf) Ir Iu Iv Ij Cv Iw) ["garden","rows","state","first"] [.int 0 aik]:=λs us hK hl=>(by obtain⟨x,y,z,rfl⟩:=aif (show us.length=3 by simpa using hl);exact binds_K hK rfl aiZ rfl rfl rfl)
 have aoS:=mg_of X G anU;have FBI:=qg (st:=WW) lBI cBI kBI;have bBI:=FBI.binds (ps:=["self","day"]) λ_ _ _ _ _ _=>ul2 λ_ _=>rfl
 have ajf:=qg (st:=K3) aol aom aon;have auR:=ajf.binds (ps:=["_law_script"]) λ_ _ _ _ _ _=>ul1 λ_=>rfl
 have auS:=mg_of X G ai0;have ajg:Aj K pot:=⟨⟨afi,afj,afk,afl⟩,afm,gt,tk,afn,λb=>(by cases b;exact IK;exact Lb;exact Ld;exact IV;exact Fi)⟩;have YM:Aj K cV:=⟨⟨RQ,RT,RV,RW⟩,RX,gt,tk,RZ,λb=>(by cases b;exact zX;exact Aq;exact Ar;exact zY;exact xO)⟩;have YQ:Aj K garden:=⟨⟨R4,R5,R6,R7⟩,R8,gt,tk,R9,λb=>(by cases b;exact zZ;exact Av;exact Aw;exact z6;exact xP)⟩;have ajh:∀f∈(["name","gap","rest"]:List Str),jT K pot f:=λf hf=>(by simp only[aR,mem_nil_iff,or_false]at hf;rcases hf with rfl|rfl|rfl;exact IW;exact Le;exact Ja)
 have YS:∀f∈(["name","gap","rest"]:List Str),jT K cV f:=λf hf=>(by simp only[aR,mem_nil_iff,or_false]at hf;rcases hf with rfl|rfl|rfl;exact z7;exact Ax;exact z8)
 have YT:∀f∈(["pots","cans","week","closed"]:List Str),jT K garden f:=λf hf=>(by simp only[aR,mem_nil_iff,or_false]at hf;rcases hf with rfl|rfl|rfl|rfl;exact z9;exact Aa;exact Ab;exact wJ)
 obtain⟨a,ea⟩:∃a:gB,a=⟨pot,cV,garden,fj,tooMany,dX,gA,uQ,pK,dz,fWh,fNm,V3,fPG,fCI,fCG,V4,V5,V6,YZ,fSz,aoI,fa,agY,fa,aos,aow,V9,Wa,agZ,dWh,dNm,(fN "__init__" "Pot.__init__" qC .none aiy aiz aiA ail afa aiB),dPG,dCI,dCG,aaq,aar,aas,(fN "__init__" "Garden.__init__" sGI (.ref Td) K6 K7 K8 K5 Ik K9),dSz,aoJ,(fN "law" "law" K3 .none Pg Ph Pj Pb Iz Pk),ag1,(fN "law" "law" K3 .none Pg Ph Pj Pb Iz Pk),aot,aox,aat,aau,ag2⟩:=⟨_,rfl⟩;have B:Tj mg:=⟨mg_none_of X G vI,mg_none_of X G afc,mg_none_of X G aiN,mg_none_of X G aiO,mg_none_of X G afd,mg_none_of X G abp,mg_none_of X G aiP,mg_none_of X G aiQ,mg_none_of X G aiR,mg_none_of X G aiS,mg_none_of X G La,mg_none_of X G abq⟩;have T:o8 K mg a:=by subst ea;exact⟨B,⟨_,mg_of X G anc⟩,⟨_,mg_of X G ane⟩,⟨Jd,Sh⟩,bWh,mWh,bNm,mNm,ai9,YK,ajg,YM,ajh,YS,⟨FPI,bPI⟩,bPG,bCI,bCG,⟨afo,aPI,iPI,afp⟩,⟨R0,aCI,iCI,R3⟩,⟨aPG,iPG,kPG⟩,⟨aCG,iCG,kCG⟩,⟨rdP,gaP,atP,kPI⟩,ne⟩
 have kb:∀k:Kd,(∀C,k≠.ins C)->kitOne K k.ty (.ref pot)=some false:=λk hk=>(by cases k;exact Jb;exact abt;exact afq;exact afr;exact abu;exact Yp;exact absurd rfl (hk _))
 have U:Ka K mg a:=by subst ea;exact⟨T,kpp,kcp,kb,aop,adX,aoq,adY,aor,adZ,⟨Cw,Lf⟩,⟨_,mg_of X G anf⟩,⟨_,mg_of X G ang⟩,⟨_,mg_of X G anh⟩,⟨_,mg_of X G ani⟩⟩
 have FGI:zq K "__init__" "Garden.__init__" sGI (.ref Td) YZ (fN "__init__" "Garden.__init__" sGI (.ref Td) K6 K7 K8 K5 Ik K9):=⟨⟨aiC,ain,K6,K7,K8,K5,Ik,K9,ait,rfl,lGI,cGI⟩,kGI⟩;have b4:Binds K (fN "__init__" "Garden.__init__" sGI (.ref Td) K6 K7 K8 K5 Ik K9) ["self","pots","cans","week","closed"] []:=λs us hK hl=>match us,hl with|[_,_,_,_,_],_=>binds_K hK rfl lT rfl rfl rfl
 have b1:Binds K (fN "__init__" "Garden.__init__" sGI (.ref Td) K6 K7 K8 K5 Ik K9) ["self","pots","cans","week","closed"] [.int 1 u1,.int 1 u2,.int 0 u3]:=λs us hK hl=>(by obtain⟨x,y,rfl⟩:=len2 (show us.length=2 by simpa using hl);exact binds_K hK rfl lT rfl rfl rfl)
 have b2:Binds K (fN "__init__" "Garden.__init__" sGI (.ref Td) K6 K7 K8 K5 Ik K9) ["self","pots","cans","week","closed"] [.int 1 u2,.int 0 u3]:=λs us hK hl=>(by obtain⟨x,y,z,rfl⟩:=aif (show us.length=3 by simpa using hl);exact binds_K hK rfl lT rfl rfl rfl)
 have Z:DP K mg a (.ref Td):=by subst ea;exact⟨U,YQ,YL,YT,FGI,b4,⟨_,_,_,b1⟩,⟨_,_,b2⟩,⟨Sd,aGI,iGI,Sg⟩,bSz,⟨aSz,iSz,kSz⟩⟩
 have S:Kh K mg a (.ref Td):=by subst ea;exact⟨Z,aou,aov,aoy,aoz,aoA,⟨aoB,aoC,aoD⟩,aoE,⟨aoF,aoG,aoH⟩,⟨Cy,Lg⟩⟩
 have N:Kf mg a:=by subst ea;exact⟨mg_none_of X G vI,mg_none_of X G Fe,Jd,Cw,Pn,Je,YJ,Cy,YH⟩
 have abv:XC K a gA 2:=by subst ea;exact⟨⟨Yr,Ys,Yt,Yu,gt,tk,Yv,Yw⟩,Yx,Yy,Yz,YB,YC,YD,YF,YG⟩
 have YW:XC K a dz 3:=by subst ea;exact⟨⟨Sq,Ss,Sv,Sw,gt,tk,Sx,Sy⟩,SJ,SM,SN,SQ,SX,S5,S6,S7⟩
 have Tc:XC K a dX 5:=by subst ea;exact⟨⟨Lh,Li,Lj,Lk,gt,tk,Ln,Lp⟩,Lq,Lr,Ls,Lw,Lx,Ly,Lz,LC⟩
 have W:xK K mg a (.ref Td):=by subst ea;exact⟨S,jk X G anr,jk X G ant,jk X G anu,anv,anw,jk X G anx,jk X G anz,jk X G anA⟩
 have D:RJ K mg:=⟨B,jk X G an9,jk X G aoa⟩;have L:Xg K mg a (.ref Td):=⟨W,mg_none_of X G xg,mg_none_of X G afe,jk X G anB,jk X G anC⟩;have aoT:Aj K lv:=⟨⟨ai1,ai2,ai3,ai4⟩,ai5,gt,tk,ai6,λb=>(by cases b;exact LK;exact S8;exact S9;exact LQ;exact Jc)⟩;have aoU:∀f∈(["garden","counts"]:List Str),jT K lv f:=λf hf=>(by simp only[aR,mem_nil_iff,or_false]at hf;rcases hf with rfl|rfl;exact Fj;exact Fl)
 have Vv:Xk K mg a (.ref Td) lv:=⟨L,jk X G aiV,aoT,aoK,aoU,⟨_,_,aoL,⟨ai7,aoM,aoN,ai8⟩⟩,anF⟩;have Bb:aeD K mg a (.ref Td) lv cB:=⟨Vv,mg_none_of X G aiT,anG,⟨_,_,⟨aja,aoO⟩,⟨anH,anI,aiX⟩,eB⟩⟩;have Ee:ahJ K mg a (.ref Td):=by subst ea;exact⟨L,afh,jk X G anL⟩
 have Cc:aeH K mg a (.ref Td) lv cB:=⟨Bb,Ee,jk X G anM,⟨_,_,_,aoP,ajb,ajc,aoQ⟩⟩;have BD:NZ K mg a:=by subst ea;exact⟨YH,⟨rdG,gaG,atG,rfl⟩,⟨_,_,⟨FBI,bBI⟩,⟨⟨_,_,_,_,_,_,_,_,_,_,_,_,_,_,_,_,an0,an1,an2,an3⟩⟩,iBI⟩,⟨an4,an5,an6,acR⟩,Je⟩
 have Pl:Ht K mg a (.ref Td):=by subst ea;exact⟨W,⟨jk X G aiW,⟨Pn,Yq⟩⟩,BD,mg_none_of X G xg,jk X G anR,jk X G anS,jk X G anT,⟨_,_,_,_,aoR,ajd,aje,aoS⟩,afh⟩
 have Zz:aeP K mg a:=by subst ea;exact⟨N,abv,YW,Tc,acR,an7,jk X G an8,jk X G aoh⟩
 have Rm:Yh K mg a (.ref Td):=⟨Pl,Zz,jk X G aog,jk X G aod,jk X G aoj,jk X G anZ,jk X G aof⟩;have R:acF K mg a (.ref Td) lv cB:=⟨Rm,D,Cc,jk X G aob,jk X G aoc,jk X G aoe,jk X G aoi,jk X G aok⟩;have HC:∀base:Heap,K.In base->CodeHd base cB PB:=λbase Kb=>⟨_,vsB,flB,tfB,fgB,tgB,inB,txB,ttB,Kb cB _ lcB,rfl,rfl,v11,aoo,v18,v7,v9,v10,ncP⟩
 exact⟨(fN "law" "law" K3 .none Pg Ph Pj Pb Iz Pk),λs v=>.of_eq rfl,HC,λbase Kb _ hbm=>ae6 ajf ⟨R,HC base Kb,hbm⟩⟩
theorem walk{l:PySem.W.OpenLaw}{q:cC}{XP:(Str->Option aC)->Heap->Prop}{K:Params->Fg}{PB cB:aB}(hn:l.most=some 63)(hdf:d.params.defaults=[])(hY:∀(w:World) (h:Heap),YP w h->(K w.params).In h/\h.get? PB=some (tabObj #[]))(nP:∀p,(K p).lookup PB=none)(F:∀(w:World) (mg:Str->Option aC) (fa:aB) (h:Heap),(K w.params).In h->h.Ns mainGlobals mg->mg d.name=some (.ref fa) -> ∃fd:fH,(∀(s:aW) (u:aC),BindsTo s fd ⟨[u],[]⟩ [("_law_script",u)])/\(∀base:Heap,(K w.params).In base->CodeHd base cB PB)/\∀base:Heap,(K w.params).In base->base.Ns mainGlobals mg->base.BuiltinsAt mg PB->cM l.prog w (K w.params) mg base (fY l.prog w) 14 fa fd ["_law_script"] (zW (K w.params) PB)) : PySem.W.WalkO q loose XP YP l.row.toRowW d [] (λf vs=>PySem.call f vs) := L2.Vu (cB:=cB) (n:=63) (k:=14) (x:="_law_script") (CX:=λw=>fY l.prog w) (sp:=λw=>zW (K w.params) PB) hn (by decide) hdf ⟨rfl,by decide,by decide⟩ hY nP F (λ_ _ a ns hl hP hS=>⟨a,ns,rfl,hS,⟨#[],hP,trivial,.inl rfl⟩,λ_=>rfl⟩) λ_ _ _ _ _ z=>by
 obtain⟨_,_,_,_,_,_,_,_,_,_,_,_,_,_,_,z⟩:=z;exact z
end Tw
open PySem PySem.W PyProof.Rows
set_option maxRecDepth 100000 in
set_option maxHeartbeats 0 in
theorem PySem.Challenge.cw_thirstwise_k07_whole_rounds_kept_holds : PySem.Challenge.rw_thirstwise_k07_whole_rounds_kept.Holds := by
 w_on;refine PySem.W.holds_law Tw.ws λsaid=>?_
 refine PySem.W.holds_open (q:=Tw.view) (loose:=Tw.LO) (Xt:=λs=>xlAt Tw.view [] s&&recOk (RowW.records (OpenRow.toRowW (OpenLaw.row PySem.Challenge.rw_thirstwise_k07_whole_rounds_kept))) s) (XP:=XL Tw.view []) (Yf:=Hook.obs (PySem.W.kHook Tw.KF Tw.addrs (λ_=>by kernel_rfl))) (Ya:=Hook.val (PySem.W.kHook Tw.KF Tw.addrs (λ_=>by kernel_rfl))) (YP:=Hook.says (PySem.W.kHook Tw.KF Tw.addrs (λ_=>by kernel_rfl))) (N:=8762) Tw.hl (Hook.of (PySem.W.kHook Tw.KF Tw.addrs (λ_=>by kernel_rfl))) (Hook.keeps (PySem.W.kHook Tw.KF Tw.addrs (λ_=>by kernel_rfl))) (λs e=>xl_of s (Bool.and_eq_true_iff.mp e).1) XL.keeps (by rfl) (by rfl) (by rfl) (λs e=>recFacts_of (Bool.and_eq_true_iff.mp e).2) (by rfl) (by first|assumption|decide +kernel) (by decide +kernel) ⟨rfl,rfl,rfl,rfl,rfl,by decide +kernel⟩ ?hw ?hc
 case hw=>w_witness2
 refine Tw.walk (l:=PySem.Challenge.rw_thirstwise_k07_whole_rounds_kept) (PB:=Tw.aPB) (cB:=Tw.aCB) (K:=Tw.KK) rfl rfl (λw h Y=>L2.Z4 (by kernel_rfl) (PySem.W.kIn_of Y)) (λ_=>by kernel_rfl) ?F
 case F =>
  intro w mg fa h KX G hmg
  k_fill
  refine' Tw.all_mk (PB:=Tw.aPB) (cB:=Tw.aCB) KX G hmg ..
  all_goals first|k_is|kit_is|k_exc|kts_exm|decide|rfl|kernel_rfl|(refine' Tw.amC ?a ?l ?c ?k λF=>F.binds λ_ _ _ _ _ _=>?b;(case a|l|c|k=>k_is);(case b=>first|exact Tw.ul1 λ_=>rfl|exact Tw.ul2 λ_ _=>rfl|exact Tw.ul3 λ_ _ _=>rfl|exact Tw.ul4 λ_ _ _ _=>rfl|exact Tw.ul5 λ_ _ _ _ _=>rfl))|(refine' Tw.aii ?a ?i ?l ?c ?k λF=>F.binds λ_ _ _ _ _ _=>?b;(case a|i|l|c|k=>k_is);(case b=>first|exact Tw.ul1 λ_=>rfl|exact Tw.ul2 λ_ _=>rfl|exact Tw.ul3 λ_ _ _=>rfl|exact Tw.ul4 λ_ _ _ _=>rfl|exact Tw.ul5 λ_ _ _ _ _=>rfl))|skip
