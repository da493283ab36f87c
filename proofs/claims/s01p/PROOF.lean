import PyProof.Rows.All
import PyProof.ExcArgsOwn
import PyProof.InstStoreFacts
import PyProof.StationsW
import PyProof.RulesAs
import PyProof.ExcAttrAll.Exception
import PyProof.Commute
import OpenK.KMake
import Wide.All
import OpenK.AllK
import Wide.FinOn
import PyProof.EqAt
import PyProof.EqKinds
import PyProof.TupleCall
import KE.BitLaws
import KE.OsHead
import Open.SpecLaws
import Open.Tops
import PySem.Challenge.RW_lotprograms_s01_answers
set_option Elab.async false
set_option linter.all false
set_option maxRecDepth 100000
set_option maxHeartbeats 0
def U.{u} {a:Sort u} {b:a}:b=b:=rfl
local macro_rules | `(tactic| exists $xs,*) => `(tactic| refine ⟨$xs,*⟩)
local macro_rules | `(#[$x,$xs,*]) => `(⟨$x,$xs,*⟩)
def ao:=@List.length_append
def aC:=@List.length_singleton
def ae:=@if_neg
def ah:=@if_pos
def aB:=@List.length_map
def bj:=@List.getElem?_eq_some_iff
def aO:=@Bool.false_ne_true
def aE:=@List.mem_cons
def aw:=@Nat.le_refl
def bc:=@List.mem_of_getElem?
def aW:=@List.mem_cons_of_mem
def bB:=@List.getElem?_eq_getElem
def aH:=@PySem.Heap.lt_size
def az:=@PySem.wpAny_bind
def bC:=@PySem.Heap.get?_push_of_some
def aT:=@List.length_cons
def aD:=@Nat.zero_le
def bi:=@List.mem_cons_self
def bq:=@Nat.lt_of_lt_of_le
def bw:=@List.append_assoc
def bz:=@List.getElem?_map
def aP:=@Nat.le_trans
def bS:=@beq_eq_false_iff_ne
def a9:=@Nat.ne_of_lt
def bF:=@Option.some.inj
def bH:=@List.append_nil
def bI:=@List.map_cons
def cg:=@List.size_toArray
def ef:=@List.take_succ_eq_append_getElem
def bo:=@PySem.wpAny_pure
def cD:=@PySem.Heap.get?_push_size
def b9:=@Bool.eq_iff_iff
def ci:=@List.mem_append
def bO:=@beq_iff_eq
def cM:=@List.take_length
def bA:=@congrArg
def cj:=@List.mem_map
def dQ:=@List.mem_append_right
def cT:=@List.length_drop
def cU:=@List.not_mem_nil
def bU:=@PySem.wpAny_mono
def dC:=@List.flatMap_append
def c6:=@Bool.and_eq_true
def c7:=@List.all_eq_true
def dr:=@decide_eq_true_eq
def eh:=@List.contains_iff_mem
def du:=@Nat.lt_succ_self
def cV:=@PySem.Heap.size_push
def cN:=@Nat.lt_irrefl
def dR:=@List.flatMap_cons
def cO:=@List.map_nil
def ej:=@List.mem_singleton
def dD:=@decide_eq_false
def fH:=@Nat.le_of_ble_eq_true
def dS:=@Nat.le_add_right
def em:=@PySem.wpAny_loadPart_at
def gm:=@Option.map_eq_some_iff
def dU:=@List.find?_cons
def dW:=@List.map_append
def c9:=@List.map_map
def fJ:=@List.contains_cons
def et:=@UInt8.toNat.inj
def eO:=@List.lookup_cons
def eP:=@Nat.succ_le_succ
def bY:=@Ne.symm
def g9:=@Bool.and_eq_true_iff
def fK:=@List.drop_length
def jc:=@PySem.Heap.get?_update_other
def jd:=@List.drop_eq_nil_of_le
def fL:=@List.length_nil
def kC:=@List.mem_of_find?_eq_some
def g_:=@PySem.wpAny_Call_Name_kw
def je:=@PySem.F.attrBase_Exception
def fM:=@List.drop_drop
def eQ:=@Nat.le_of_eq
def m5:=@List.takeWhile_cons_of_pos
def hJ:=@List.length_take
def kD:=@PySem.wpAny_typeLookup_exc
def fO:=@Nat.ne_of_gt
def hX:=@List.mem_filter
def hZ:=@PySem.wpAny_execs_nil
def kE:=@List.filterMap_cons
def kF:=@Array.length_toList
def jf:=@PySem.wpAny_passesOwn
def h_:=@Bool.or_false
def m6:=@List.mem_append_left
def m8:=@Nat.mul_le_mul_right
def ia:=@Nat.le_of_lt
def kG:=@PySem.wpAny_execs_cons
def kH:=@beq_self_eq_true
def xt:=@PySem.plainObj_wpAny_Assign_Attribute
def jg:=@Bool.false_or
def kI:=@List.nodup_cons
def m9:=@Bool.false_eq_true
def ib:=@PySem.wpAny_field
def rO:=@List.getElem?_set_self
def m_:=@PySem.wpAny_truthy_bool
def nb:=@Option.isSome_map
def kJ:=@List.contains_nil
def gO:=@PySem.codeAny_mono
def iY:=@List.nodup_nil
def kK:=@List.cons_append
def kL:=@List.cons_ne_nil
def fY:=@Nat.max_le
def tS:=@Array.getElem?_eq_some_iff
def tT:=@List.getElem?_append_right
def tU:=@PySem.wpAny_newFunctionEnv_cells
def iZ:=@List.all_cons
def i5:=@List.any_cons
def oV:=@List.map_congr_left
def kM:=@List.of_mem_zip
def tV:=@List.getElem?_append_left
def kN:=@PySem.pushCells_keeps
def kO:=@Bool.or_eq_true
def tW:=@List.drop_eq_getElem_cons
def tX:=@List.getElem?_eq_none_iff
def kP:=@List.nil_append
def tY:=@Option.isSome_iff_exists
def oW:=@PySem.tupleKind_room_in1
def oX:=@List.getElem?_drop
def kQ:=@List.drop_zero
def kR:=@List.take_zero
def tZ:=@PySem.F.plainAttrs_list
def t9:=@PySem.F.slot_list_index
def t_:=@Nat.add_sub_cancel_left
def oY:=@Int.toNat_natCast
def oZ:=@Nat.le_of_succ_le
def o0:=@Nat.lt_succ_of_lt
def o3:=@of_decide_eq_true
def o5:=@Nat.le_succ_of_le
def ua:=@List.takeWhile_sublist
def zS:=@List.findIdx?_eq_some_iff_getElem
def uc:=@PySem.Str.ofString_eq_toList
def kS:=@PySem.wpAny_standAt
def kU:=@List.sum_cons
def fZ:=@or_false
def o6:=@List.getElem_mem
def o7:=@List.any_eq_true
def o8:=@List.flatMap_map
def ud:=@PySem.codeAny_call_function
def e_:=@if_true
def zT:=@List.takeWhile_append_dropWhile
def i9:=@PySem.wpAny_call
def kW:=@Nat.add_comm
def ue:=@PySem.Heap.get?_none_of_le
def uf:=@List.getElem?_set_ne
def o9:=@Option.map_some
def kX:=@Nat.lt_trans
def o_:=@Nat.min_eq_left
def pf:=@Nat.le_add_left
def ph:=@List.length_zip
def zU:=@List.find?_eq_some_iff_getElem
def zW:=@List.Nodup.length_le_of_subset
def ug:=@PySem.wpAny_isSubtype_exc
def uh:=@List.length_flatMap
def gP:=@if_false
def pj:=@decide_eq_true
def zX:=@PySem.W.length_le_weightAllW
def pk:=@Option.or_none
def kY:=@PySem.sizeLine_eq
def ui:=@Array.find?_toList
def uj:=@List.all_takeWhile
def uk:=@of_decide_eq_false
def pq:=@PySem.Paired.length
def zY:=@List.takeWhile_cons_of_neg
def pz:=@List.cons.inj
def ul:=@PySem.wpAny_newObj_type
def um:=@PySem.wpAny_assign_Name
def uo:=@PySem.wpAny_pyIter_list
def ur:=@List.foldl_append
def uv:=@List.find?_append
def zZ:=@PySem.F.slot_dict_getitem
def uw:=@PySem.wpAny_lookBehind
def ux:=@PySem.pastItsLine_dict
def uz:=@List.getElem_inj
def pA:=@Bool.true_or
def pB:=@Nat.zero_add
def uA:=@Nat.lt_of_not_le
def uB:=@Bool.not_eq_true
def uC:=@List.flatMap_nil
def z3:=@List.getElem?_replicate
def z4:=@PySem.F.type_list_index
def uD:=@List.find?_some
def pC:=@Nat.le_succ
def z5:=@Array.getElem?_eq_none
def z6:=@List.dropWhile_sublist
def z7:=@List.length_replicate
def z8:=@List.takeWhile_prefix
def uE:=@Option.none_or
def uF:=@Nat.sub_self
def uG:=@Nat.gcd_comm
def au:=True.intro
section
namespace Lot
open PySem PySem.W
open_shared sh for Challenge.pw_lotprograms_s01_answers leaving 0
end Lot
end
section
namespace Lot
open PySem PySem.W
abbrev pr:Program:=Challenge.pw_lotprograms_s01_answers
abbrev p0:Pos:={line:=0,col:=0,endLine:=0,endCol:=0}
noncomputable abbrev hp0 (P:Params):Heap:=absHeap (sh.tree_4 P) 15 {}
noncomputable abbrev hp1 (P:Params):Heap:=absHeap (sh.tree_1160 P) 1096 {}
def Lx (w:World) (os:OsState):topGo treeTable pr w 11 (some (Value.ref 6)) 12 {heap:=boot_heap w.params,gens:= #[],drawn:=boot_drawn,toks:=boot_toks,os:=os} (topStub pr)=
 some ({heap:=hp0 w.params,gens:= #[],drawn:={},toks:=187,os:=os},{cur:=denote treeTable (Code.body (behindTheImports pr) sh.env_1),code:=Code.body (behindTheImports pr) sh.env_1,pos:=p0,stack:= [topFrame p0]}):=by kernel_rfl
def G2 (w:World) (os:OsState):segRun treeTable pr w 11 (some (Value.ref 6)) 1 1 {heap:=hp0 w.params,gens:= #[],drawn:={},toks:=187,os:=os} (blockOf (behindTheImports pr) sh.env_1 (Code.body (behindTheImports pr) sh.env_1) p0 [topFrame p0])=
 some (Flow.next,{heap:=hp0 w.params,gens:= #[],drawn:={},toks:=187,os:=os},Code.body (behindTheImports pr) sh.env_1,p0):=by kernel_rfl
def fin_run (w:World) (os:OsState):topRun treeTable pr w 11 (some (Value.ref 6)) 2 {heap:=hp1 w.params,gens:= #[],drawn:={},toks:=1888,os:=os}
 (restOf [] sh.env_1 (Code.body (behindTheImports pr) sh.env_1) {line:=900,col:=0,endLine:=901,endCol:=48} [topFrame p0])=some {heap:=hp1 w.params,gens:= #[],drawn:={},toks:=1888,os:=os}:=by kernel_rfl
def whole_run:∃M,Nat.ble M 100000=true/\∀(w:World) (os:OsState),topRun treeTable pr w 11 (some (Value.ref 6)) M {heap:=boot_heap w.params,gens:= #[],drawn:=boot_drawn,toks:=boot_toks,os:=os} (topStub pr)=
 some {heap:=hp1 w.params,gens:= #[],drawn:={},toks:=1888,os:=os}:=
 #[_,by decide+kernel,λw os=>go_top (Lx w os) (piece_block (G2 w os) (sh.chain pr (behindTheImports pr) w os [] _ _ (fin_run w os)))]
end Lot
end
section
namespace Lot
open PySem PySem.W
def Ly (w:World) (os:OsState):gensDone {heap:=hp1 w.params,gens:= #[],drawn:={},toks:=1888,os:=os}=true:=by kernel_rfl
def Iw (w:World):namesBound pr (hp1 w.params)=true:=by kernel_rfl
def Eb (w:World):staticsOk (importedModules pr.main.body) (boot_heap w.params) (hp1 w.params)=true:=by kernel_rfl
def Lz (w:World):laidKept (boot_heap w.params) (hp1 w.params)=true:=by kernel_rfl
end Lot
end
section
namespace Lot
open PySem PySem.W PySem.Calls PyProof.Rows
abbrev qv:Program:={pr with main:={pr.main with body:= [pr.main.body.getD 171 (.Pass #[0,0,0,0])]}}
abbrev Tl:List Str:=(pr.main.scope.names.map (·.1)).filter λx=>x != "answers" && x != "__name__" && x != "Exception"
abbrev Xt:Shared->Bool:=λs=>xlAt qv [] s && recOk [] s
def LA (w:World) (os:OsState):openSeen qv Tl (importedModules pr.main.body) Xt true {heap:=hp1 w.params,gens:= #[],drawn:={},toks:=1888,os:=os}=openGood qv Tl:=by kernel_rfl
def Ec:opening pr=plainProg pr.main.scope.names:=by kernel_rfl
def Ix:∀s,fenceModules? pr s=some s:=λs=>by kernel_rfl
def LC (w:World):((boot_heap w.params).isNs mainGlobals && (#[]:Array GenState).size == 0,(boot_heap w.params).objs.size,(boot_heap w.params).nsMap mainGlobals "__annotations__")=(true,11,some (.ref 6)):=by kernel_rfl
def left:LeftO pr qv Tl Xt (λs=>s.heap) (λw=>hp1 w.params) 100000:=by
 obtain ⟨M,le,run⟩:=whole_run;refine LeftO.of_pieces (boot_open Ec (by decide) Ix) LC run le λw=>?_;funext os;refine Prod.ext ?_ (Prod.ext ?_ rfl)
 . show (staticsOk (importedModules pr.main.body) (boot_heap w.params) (hp1 w.params) && namesBound pr (hp1 w.params) && gensDone {heap:=hp1 w.params,gens:= #[],drawn:={},toks:=1888,os:=os} && laidKept (boot_heap w.params) (hp1 w.params))=true;rw [Eb,Iw,Ly,Lz];rfl
 . exact LA w os
end Lot
end
section
open PySem PySem.W PyProof.Rows
namespace Sd
abbrev pr:Program:=Challenge.pw_lotprograms_s01_answers
def a1:sreFenced pr.main=true:=by decide+kernel
def a2:((moduleNames pr.main.body).isEmpty || lookedIntoSs (moduleNames pr.main.body) pr.main.body)=true:=by decide+kernel
def a3:namesResolve pr=true:=by decide+kernel
def a4:pr.boundNames.all (λn=>!worldNames.contains n)=true:=by decide+kernel
def a5:noRoadLSs {strict:= !(importedModules pr.main.body).all cThrough.contains,foot:=none,bare:=(["vars","dir","locals"]:List Str).filter (readsOut pr pr.main.body)} pr.main.body=true:=by decide+kernel
def a6:(namesMeet pr pr.main.body λ_ n=>attrL n)=true:=by decide+kernel
def a7:pr.boundNames.contains "answers" = true:=by decide+kernel
def said:Challenge.rw_lotprograms_s01_answers.wellSaid=true:=by
 show (looksOpen pr && _ && _ && _ && _ && _)=true;have lo:looksOpen pr=true:=by
  show (sreFenced pr.main && _ && namesResolve pr && _ && _ && _)=true;rw [a1,a2,a3,a4,a5,a6];rfl
 rw [lo];decide+kernel
end Sd
end
section
namespace XE
open PySem
open Sem (wp)
open Builtin Builtin.ObjectAttr
abbrev BM:List Value:= [.type "Exception",.type "BaseException",.type "object"]
section
variable {prog:Program} {w:World} {A:Around} {E:Value->Shared->Prop} {h:Heap} {g:Array GenState} {d:Drawn} {t:Nat} {os:OsState} {a:Addr} {o:Obj}
 {nm q:Str} {C N:Addr} {bs:List Value} {sn:List Str} {sub:List Value} {ab:Bool} {col:Option Bool} {dd:Option Addr} {k0 k1 k2 k3 k5:Option Value} {newId:String} {mN mA:Str->Option Value}
 {name:Str} {v:Value}
def Iy {M:Model} {nv:Value} {Q:Unit->Shared->Prop} (hC:h.get? C=some (excClassObj nm q C N bs BM true sn sub ab col dd k0 k1 k2 k3 k5 newId))
 (hx:h.get? a=some o) (hc:o.cls= .ref C) (hq:Q () #[h,g,d,t,os]):wpAny M A (checkBuiltinCall "BaseException.__getattribute__" #[[.ref a,nv],[]]) Q E #[h,g,d,t,os]:=by
 have hk1:builtinKind "BaseException.__getattribute__" = some .slot:=by decide+kernel
 have hsp:splitId "BaseException.__getattribute__" = some ("BaseException","__getattribute__"):=by decide+kernel
 have hcB:(Value.ref C :: BM).contains (.type "BaseException")=true:=by rw [fJ];rfl
 have har:=F.args_bexc_ga (.ref a) nv;simp only [checkBuiltinCall,hk1,hsp];refine az ?_
 . unfold isInstance;repeat (first | (with_reducible refine em hx ?_;rw [hc]) | (with_reducible refine ug hC ?_;rw [hcB]) | wp_step)
   exact hq
def Iz {tk:Tok} {Q:Fin->Shared->Prop} (hC:h.get? C=some (excClassObj nm q C N bs BM true sn sub ab col dd k0 k1 k2 k3 k5 newId)) (hN:h.Ns N mN)
 (hna:mN name=none) (hB:typeLookup (.type "Exception") name=pure none) (I:h.Inst a C mA) (hv:mA name=some v) (hq:Q (.done (.ret v)) #[h,g,d,t,os]):
 wpAny (model prog w) A (Builtin.«object.__getattribute__» #[[.ref a,.str name tk],[]]) Q E #[h,g,d,t,os]:=by
 obtain ⟨o,hx,hc,hnc,hd⟩:=I;rcases hd with ⟨_,hmA⟩ | ⟨dx,hdx,kg,hns⟩
 . rw [hmA name] at hv;cases hv
 unfold Builtin.«object.__getattribute__»;repeat (first | (with_reducible refine em hx ?_;rw [hc]) | (with_reducible refine kD hC hN je.mro hB ?_;rw [hna]) | wp_step)
 split
 . rename_i c hcd;exact absurd hcd (hnc c)
 unfold instanceDict;repeat (first | (with_reducible refine em hx ?_;rw [hc]) | with_reducible refine em hC ?_ | wp_step)
 rw [hdx];repeat (first | (with_reducible refine wpAny_nsGet hns.ns ?_;rw [hv]) | wp_step)
 exact hq
def LD {tk:Tok} {R:Result->Shared->Prop} (hC:h.get? C=some (excClassObj nm q C N bs BM true sn sub ab col dd k0 k1 k2 k3 k5 newId)) (hN:h.Ns N mN)
 (hna:mN name=none) (hB:typeLookup (.type "Exception") name=pure none) (I:h.Inst a C mA) (hv:mA name=some v) (hq:R (.ok (.ret v)) #[h,g,d,t,os]):
 codeAny (model prog w) A (.call (.builtin "BaseException.__getattribute__") #[[.ref a,.str name tk],[]]) R #[h,g,d,t,os]:=by
 obtain ⟨o,hx,hc,_⟩:=id I;exact codeAny_call_builtin je.ga.plain F.entry_bexc_ga (Iy hC hx hc (Iz hC hN hna hB I hv hq))
def QD {tk:Tok} {fill expr:Bool} {Q:Value->Shared->Prop} (hC:h.get? C=some (excClassObj nm q C N bs BM true sn sub ab col dd k0 k1 k2 k3 k5 newId)) (hN:h.Ns N mN)
 (hg1:mN "__getattribute__" = none) (hg2:mN "__getattr__" = none)
 (hna:mN name=none) (hB:typeLookup (.type "Exception") name=pure none) (I:h.Inst a C mA) (hv:mA name=some v) (hh:handedOut v=pure v) (hq:Q v #[h,g,d,t,os]):
 wpAny (model prog w) A (getAttrBy (.ref a) (.str name tk) fill expr) Q E #[h,g,d,t,os]:=by
 obtain ⟨o,hx,hc,_⟩:=id I;have f3:=je.ga.bind (.ref a);have hx0:(expr && onTheHeap (Value.builtin "BaseException.__getattribute__"))=false:=by cases expr <;> rfl
 have hx2:(Value.builtin "BaseException.__getattribute__" == Value.builtin "object.__getattribute__")=false:=by decide+kernel
 have hx1:(onTheHeap (Value.ref C) && Value.builtin "BaseException.__getattribute__" == Value.builtin "object.__getattribute__")=false:=by rw [hx2];rfl
 repeat (any_goals (first | assumption | (with_reducible refine em hx ?_;rw [hc]) | (with_reducible refine kD hC hN je.mro je.ga.lookup ?_;rw [hg1]) | (with_reducible refine kD hC hN je.mro je.noGetattr ?_;rw [hg2]) | wp_step))
 refine LD hC hN hna hB I hv ?_;repeat (any_goals (first | assumption | (rw [hh];exact bo hq) | wp_step))
def LI {expr:Bool} {Q:Value->Shared->Prop} (hC:h.get? C=some (excClassObj nm q C N bs BM true sn sub ab col dd k0 k1 k2 k3 k5 newId)) (hN:h.Ns N mN)
 (hg1:mN "__getattribute__" = none) (hg2:mN "__getattr__" = none)
 (hna:mN name=none) (hB:typeLookup (.type "Exception") name=pure none) (I:h.Inst a C mA) (hv:mA name=some v) (hh:handedOut v=pure v) (hq:Q v #[h,g,d,t+1,os]):
 wpAny (model prog w) A (getAttr (.ref a) name expr) Q E #[h,g,d,t,os]:=by
 unfold getAttr;repeat (any_goals (first | assumption | with_reducible apply QD hC hN hg1 hg2 hna hB I hv hh | wp_step))
end
section
variable {M:Model} {A:Around} {E:Value->Shared->Prop} {env:Env} {s:Shared}
variable {nm q:Str} {C N:Addr} {bs:List Value} {sn:List Str} {sub:List Value} {ab:Bool} {col:Option Bool} {dd:Option Addr} {k0 k1 k2 k3 k5:Option Value} {newId:String}
def G3 {x:Sem Value} {Q:Flow->Shared->Prop} (hh:A.handled=none)
 (h:wpAny M A x (λv s1=> ∃e oe vs,v= .ref e/\s1.heap.get? C=some (excClassObj nm q C N bs BM true sn sub ab col dd k0 k1 k2 k3 k5 newId)/\
  s1.heap.get? e=some oe/\oe.cls= .ref C/\oe.data= .fields vs/\vs[1]? = some .none/\E (.ref e) s1) E s):
 wpAny M A (raiseStmt env (some x) none) Q E s:=by
 have hcB:(Value.ref C :: BM).contains (.type "BaseException")=true:=by rw [fJ];rfl
 unfold raiseStmt;refine az (bU h (λv s1 h1=>?_) λ_ _ y=>y);obtain ⟨e,oe,vs,rfl,hC,he,hcls,hd,h1',hE⟩:=h1;obtain ⟨hp,g,d,tk,os⟩:=s1;repeat (first | (with_reducible refine em he ?_;rw [hcls]) | with_reducible refine em hC ?_ | (with_reducible refine ug hC ?_;rw [hcB]) | with_reducible refine ib he hd h1' ?_ | wp_step)
 exact wpAny_raiseNew_none hh hE
end
end XE
end
section
namespace XE
open PySem
open Sem (wp)
structure ng (h:Heap) (C e dx:Addr) (tb:Value):Prop where
 ex:∃(sl:Array (Option Value)) (vs:Array Value) (a0:Value),h.get? e=some {cls:= .ref C,dict:=some dx,data:= .fields vs,slots:=sl}/\vs[0]? = some a0/\vs[1]? = some tb
structure qF (h:Heap) (T:Addr) (fl:Value):Prop where
 ex:∃oT ts,h.get? T=some oT/\oT.data= .fields ts/\ts[3]? = some fl
structure jM (fr:List Addr) (chg:Addr->Prop) (h h':Heap):Prop where
 keep:∀b o,h.get? b=some o->b∉fr->¬chg b->h'.get? b=some o
 slot:∀b o,h.get? b=some o->b∈fr->∃sl,h'.get? b=some {o with slots:=sl}
 there:∀b o,h.get? b=some o->∃o',h'.get? b=some o'
def jM.trans {fr:List Addr} {c1 c2 c3:Addr->Prop} {h h1 h2:Heap} (x:jM fr c1 h h1) (y:jM fr c2 h1 h2) (s1:∀b,c1 b->c3 b) (s2:∀b o,h.get? b=some o->c2 b->c3 b):jM fr c3 h h2 where
 keep:=λb o e hb hc=>y.keep b o (x.keep b o e hb λz=>hc (s1 b z)) hb λz=>hc (s2 b o e z)
 slot:=λb o e hb=>by
  obtain ⟨sl,e1⟩:=x.slot b o e hb;obtain ⟨sl',e2⟩:=y.slot b _ e1 hb;exists sl',e2
 there:=λb o e=>by
  obtain ⟨o1,e1⟩:=x.there b o e;exact y.there b o1 e1
section
variable {M:Model} {A:Around} {E:Value->Shared->Prop} {s:Shared} {base:Heap} {env:Env} {outer:List Env} {L e C dx T:Addr} {Q:Unit->Shared->Prop}
def wZ {h:Heap} {a:Addr} {o:Obj} {vs:Array Value} (i:Nat) (x:Value) (he:h.get? a=some o) (hd:o.data= .fields vs):
 (h.update a (Obj.mapFields (·.setIfInBounds i x))).get? a=some {o with data:= .fields (vs.setIfInBounds i x)}:=by
 have Wb:=Obj.data_mapFields hd (·.setIfInBounds i x);rw [Heap.get?_update_self (Obj.mapFields (·.setIfInBounds i x)) he (Obj.isFreed_of_fields Wb)];obtain ⟨oc,od,odt,osl⟩:=o;dsimp only at hd;subst hd;rfl
def ent {tb head:Value} {hadNext:Bool} (hfr:A.frames=some (env :: outer)) (hl:s.heap.FunFrames base (env :: outer)) (hf:env.frame=some L) (R:ng s.heap C e dx tb)
 (k:∀h' T',jM ((env :: outer).filterMap (·.frame)) (λb=>b=e) s.heap h'->s.heap.objs.size<=T'->ng h' C e dx (.ref T')->qF h' T' (rawInt L)->T'≠e->Q () {s with heap:=h'}):
 wpAny M A (do let a<-frameOf env;let pl<-entryPlaceOf L hadNext;let b<-EntryCells.newEntry head a .none (rawInt L) .none pl;setField (.ref e) 1 b) Q E s:=by
 obtain ⟨sl,vs,a0,he,h0,h1⟩:=R;have kg:e∉(env :: outer).filterMap (·.frame):=λhm=>by
  obtain ⟨_,o,ho,hnf⟩:=hl.mem hm;rw [he] at ho;cases ho;exact hnf vs rfl
 refine az (wpAny_frameOf_fun hfr hl hf λh1' hs1=>?_);refine az (wpAny_entryPlaceOf λpl gQ=>?_);unfold EntryCells.newEntry newFields;refine az (ul ?_ (gQ.sizeOk5 _ _ _ _ _));have Vo:h1'.get? e=some _:=(hs1.2.1 e kg).trans he;generalize hoT:({cls:= .type "traceback",dict:=none,data:= .fields ([head,.ref L,.none,rawInt L,.none]++(if pl.isEmpty then List.replicate 6 Value.none else pl)).toArray}:Obj)=oT;have hTd:oT.data= .fields ([head,.ref L,.none,rawInt L,.none]++(if pl.isEmpty then List.replicate 6 Value.none else pl)).toArray:=by rw [<-hoT]
 have hTf:oT.isFreed=false:=by rw [<-hoT];rfl
 have he2:=bC (h:=h1') oT Vo;have hsz:1 < vs.size:=(tS.mp h1).1;have hTe:h1'.objs.size≠e:=fO (aH Vo);refine wpAny_setField he2 rfl hsz (k _ h1'.objs.size #[λb o hb hbf hbe=>?_,λb o hb hbf=>?_,λb o hb=>?_] ?_ #[sl,_,a0,wZ 1 _ he2 rfl,?_,?_] #[oT,_,?_,hTd,?_] hTe)
 . rw [jc _ _ (bY hbe)];exact bC _ ((hs1.2.1 b hbf).trans hb)
 . obtain ⟨sl',hb'⟩:=hs1.2.2 b o hb;exists sl',?_;rw [jc _ _ (show e≠b from λz=>kg (z.symm ▸ hbf))];exact bC _ hb'
 . by_cases z:b=e
   . subst z;exists _,wZ 1 _ he2 U
   . obtain ⟨sl',hb'⟩:=hs1.2.2 b o hb;exists {o with slots:=sl'},?_;rw [jc _ _ (bY z)];exact bC _ hb'
 . rw [hs1.1];exact aw _
 . rw [Array.getElem?_setIfInBounds_ne (by decide)];exact h0
 . simp [hsz]
 . rw [jc _ _ (bY hTe)];exact cD h1' hTf
 . first | (simp;done) | (rcases gQ with rfl | ⟨_,_,_,_,_,_,_,rfl⟩ <;> simp)
def QE (hfr:A.frames=some (env :: outer)) (hl:s.heap.FunFrames base (env :: outer)) (hf:env.frame=some L) (R:ng s.heap C e dx .none)
 (k:∀h' T',jM ((env :: outer).filterMap (·.frame)) (λb=>b=e) s.heap h'->s.heap.objs.size<=T'->ng h' C e dx (.ref T')->qF h' T' (rawInt L)->T'≠e->Q () {s with heap:=h'}):
 wpAny M A (noteFrame (.ref e) env) Q E s:=by
 obtain ⟨sl,vs,a0,he,h0,h1⟩:=id R;unfold noteFrame;simp only [hf];refine az (ib he rfl h1 ?_);rw [ae (by decide)];exact ent hfr hl hf R k
def IA {fl:Value} (hfr:A.frames=some (env :: outer)) (hl:s.heap.FunFrames base (env :: outer)) (hf:env.frame=some L) (R:ng s.heap C e dx (.ref T)) (TR:qF s.heap T fl) (hfl:(fl == rawInt L)=false) (hTe:T≠e)
 (k:∀h' T',jM ((env :: outer).filterMap (·.frame)) (λb=>b=e\/b=T) s.heap h'->s.heap.objs.size<=T'->ng h' C e dx (.ref T')->qF h' T' (rawInt L)->T'≠e->Q () {s with heap:=h'}):
 wpAny M A (noteFrame (.ref e) env) Q E s:=by
 obtain ⟨sl,vs,a0,he,h0,h1⟩:=id R;obtain ⟨oT,ts,hT,hdT,h3⟩:=TR;unfold noteFrame;simp only [hf];refine az (ib he rfl h1 ?_);rw [ah (show (Value.ref T != Value.none)=true from by simp)];refine az (ib hT hdT h3 ?_);rw [ae (by rw [hfl];exact aO)];refine az (wpAny_setField hT hdT (tS.mp h3).1 ?_);have oth:∀b,b≠T->(s.heap.update T (Obj.mapFields (·.setIfInBounds 3 Value.none))).get? b=s.heap.get? b:=λb hb=>jc _ _ (bY hb);have Sy:=wZ 3 Value.none hT hdT;have Ot:T∉(env :: outer).filterMap (·.frame):=λhm=>by
  obtain ⟨_,o,ho,hnf⟩:=hl.mem hm;rw [hT] at ho;cases ho;exact hnf ts hdT
 have N1:jM ((env :: outer).filterMap (·.frame)) (λb=>b=T) s.heap (s.heap.update T (Obj.mapFields (·.setIfInBounds 3 Value.none))):=⟨λb o hb _ hc=>(oth b hc).trans hb,λb o hb hbf=>#[o.slots,(oth b (λz=>Ot (z ▸ hbf))).trans hb],λb o hb=>by
  by_cases z:b=T
  . subst z;exists _,Sy
  . exact #[o,(oth b z).trans hb]⟩
 refine ent (s:={s with heap:=s.heap.update T (Obj.mapFields (·.setIfInBounds 3 Value.none))}) hfr (hl.of_keeps λb o hb hnf=>#[o,(oth b λz=>?_).trans hb,rfl]) hf #[sl,vs,a0,(oth e (bY hTe)).trans he,h0,h1] λh' T' N2 hn R' Tn ne=>k h' T' (N1.trans N2 (λb z=> .inr z) λb o _ z=> .inl z) ?_ R' Tn ne
 . subst z;rw [hT] at hb;cases hb;exact hnf ts hdT
 . have hn:(s.heap.update T (Obj.mapFields (·.setIfInBounds 3 Value.none))).objs.size<=T':=hn;rw [Heap.size_update] at hn;exact hn
def Ci (L:Addr):(Value.none == rawInt L)=false:=by simp [rawInt]
def QF (hf:env.frame=some L) (R:ng s.heap C e dx (.ref T)) (TR:qF s.heap T (rawInt L)) (k:Q () s):wpAny M A (noteFrame (.ref e) env) Q E s:=by
 obtain ⟨sl,vs,a0,he,h0,h1⟩:=id R;obtain ⟨oT,ts,hT,hdT,h3⟩:=TR;unfold noteFrame;simp only [hf];refine az (ib he rfl h1 ?_);rw [ah (show (Value.ref T != Value.none)=true from by simp)];refine az (ib hT hdT h3 ?_);rw [ah (show (rawInt L == rawInt L)=true from by simp)];exact bo k
def Sz {fr:List Addr} {fl:Value} {to:Option Addr} (R:ng s.heap C e dx (.ref T)) (TR:qF s.heap T fl) (hTe:T≠e) (hTf:T∉fr)
 (k:∀h',jM fr (λb=>b=T) s.heap h'->ng h' C e dx (.ref T)->qF h' T (to.elim .none λf=>rawInt f)->Q () {s with heap:=h'}):
 wpAny M A (setFlight (.ref e) to) Q E s:=by
 obtain ⟨sl,vs,a0,he,h0,h1⟩:=id R;obtain ⟨oT,ts,hT,hdT,h3⟩:=TR;have hsz3:3 < ts.size:=(tS.mp h3).1;unfold setFlight;refine az (ib he rfl h1 ?_);rw [ah (show (Value.ref T != Value.none)=true from by simp)];have oth:∀b x,b≠T->(s.heap.update T (Obj.mapFields (·.setIfInBounds 3 x))).get? b=s.heap.get? b:=λb x hb=>jc _ _ (bY hb);have Sy:=λx=>wZ 3 x hT hdT;refine wpAny_setField hT hdT hsz3 (k _ #[λb o hb _ hc=>(oth b _ hc).trans hb,λb o hb hbf=>#[o.slots,(oth b _ (λz=>hTf (z ▸ hbf))).trans hb],λb o hb=>?_] #[sl,vs,a0,(oth e _ (bY hTe)).trans he,h0,h1] #[_,_,Sy _,rfl,by simp [hsz3]]);by_cases z:b=T
 . subst z;exists _,Sy _
 . exists o,(oth b _ z).trans hb
end
end XE
end
section
namespace XE
open PySem PySem.W
open Sem (wp)
section
variable {prog:Program} {w:World} {A:Around} {R:Result->Shared->Prop} {h:Heap} {g:Array GenState} {d:Drawn} {t:Nat} {os:OsState}
variable {nm q:Str} {C N fI:Addr} {bs:List Value} {sn:List Str} {sub:List Value} {ab:Bool} {col:Option Bool} {dd:Option Addr} {k0 k1 k2 k3 k5:Option Value} {mN:Str->Option Value} {rest:List Value}
abbrev newExc (C:Addr) (t:Addr):Obj:={cls:= .ref C,data:= .fields (List.toArray [.ref t,.none,.none,.none,.bool false,.none])}
abbrev jh (rest:List Value):Obj:={cls:= .type "tuple",data:= .seq rest.toArray}
def Ou {K:Frag} {Q:Fin->Shared->Prop} {E:Value->Shared->Prop} (hC:h.get? C=some (excClassObj nm q C N bs BM true sn sub ab col dd k0 k1 k2 k3 k5 "Exception.__new__")) (hn:h.Ns N mN) (hni:mN "__init__" = some (.ref fI))
 (X:K.In h) (hf:typeIn K (.ref fI)=some (.type "function"))
 (hq:codeAny (model prog w) A (.call (.ref fI) #[.ref (h.objs.size+1) :: rest,[]]) (λr s'=>match r with
  | .ok (.ret v)=>v= .none/\Q (.done (.ret (.ref (h.objs.size+1)))) s'
  | .ok _=>False
  | .error e=>E e s') #[(h.push (jh rest)).push (newExc C h.objs.size),g,d,t,os]) (hrest:rest.length<=sizeLine):
 wpAny (model prog w) A (Builtin.«type.__call__» #[.ref C :: rest,[]]) Q E #[h,g,d,t,os]:=by
 have Fx:=F.excBase_Exception;repeat (first | with_reducible refine em hC ?_ | with_reducible refine wpAny_madeBy_exc hC ?_ | wp_step)
 refine codeAny_call_builtin_code (Code.quiet_builtin _ Fx.quiet) (wpAny_check_new_sub Fx hC ?_);refine codeAny_exc_new_sub Fx hC ?_ hrest;show wpAny _ _ _ _ _ _;have k2':∀b o,h.get? b=some o->((h.push (jh rest)).push (newExc C h.objs.size)).get? b=some o:=λb o e=>bC _ (bC _ e);have Vp:=k2' _ _ hC;have lR:((h.push (jh rest)).push (newExc C h.objs.size)).Ns N mN:=let #[o,es,ep,e,r]:=hn;#[o,es,ep,k2' _ _ e,r];have hget:((h.push (jh rest)).push (newExc C h.objs.size)).get? (h.objs.size+1)=some (newExc C h.objs.size):=by
  have:=cD (h.push (jh rest)) (o:=newExc C h.objs.size) rfl;rwa [cV] at this
 have hcC:(Value.ref C :: BM).contains (.ref C)=true:=by simp
 unfold isInstance;repeat (first | with_reducible refine em hget ?_ | (with_reducible refine ug Vp ?_;rw [hcC]) | wp_step)
 show wpAny _ _ (typeLookup (.ref C) _) _ _ _;refine kD Vp lR Fx.mroIs Fx.init.lookup ?_;rw [hni];have b1:=bind_fn (M:=model prog w) (X.keeps k2') (.ref (h.objs.size+1)) hf;refine wpAny_holding (az (b1.at ?_));refine az (i9 (gO hq λr s' z=>?_));rcases r with e | (v | _ | _ | _) <;> first | exact z | exact z.elim | skip
 obtain ⟨rfl,z⟩:=z;wp_walk;exact z
def LJ {K:Frag} (hC:h.get? C=some (excClassObj nm q C N bs BM true sn sub ab col dd k0 k1 k2 k3 k5 "Exception.__new__")) (hn:h.Ns N mN) (hni:mN "__init__" = some (.ref fI))
 (X:K.In h) (hf:typeIn K (.ref fI)=some (.type "function"))
 (hq:codeAny (model prog w) (A.under (.builtin "type.__call__" #[.ref C :: rest,[]])) (.call (.ref fI) #[.ref (h.objs.size+1) :: rest,[]]) (InitBack (h.objs.size+1) R) #[(h.push (jh rest)).push (newExc C h.objs.size),g,d,t,os]) (hrest:rest.length<=sizeLine):
 codeAny (model prog w) A (.call (.ref C) #[rest,[]]) R #[h,g,d,t,os]:=by
 have f1:=tc_lookup;have f2:=tc_bind (.ref C);have hT:(#[h,g,d,t,os]:Shared).TypeIs (.ref C) "type" :=#[_,hC,rfl];refine codeAny_of_tree ?_;show wpAny _ _ (callAny (.ref C) _) _ _ _;repeat (any_goals (first | assumption | with_reducible refine em hC ?_ | wp_step))
 exists U,?_;refine codeAny_call_builtin_at (Code.quiet_builtin _ (by decide+kernel)) entry_typeCall (wpAny_check_type_call_sub hC (Ou hC hn hni X hf (gO hq λr s' z=>?_) hrest));rcases r with e | (v | _ | _ | _) <;> exact z
end
end XE
end
section
namespace XE
open PySem
open Sem (wp)
open Builtin Builtin.ObjectAttr
section
variable {prog:Program} {w:World} {A:Around} {E:Value->Shared->Prop} {h:Heap} {g:Array GenState} {d:Drawn} {t:Nat} {os:OsState} {x:Addr} {o:Obj}
 {nm q:Str} {C N:Addr} {bs:List Value} {sn:List Str} {sub:List Value} {ab:Bool} {col:Option Bool} {dd:Option Addr} {k0 k1 k2 k3 k5:Option Value} {newId:String} {mN mA:Str->Option Value}
 {name:Str} {v:Value} {sa owner:String}
def Ed (x:Addr) (o:Obj) (mA:Str->Option Value) (name:Str) (v:Value) (h h':Heap):Prop:=
 (o.dict=none/\h'.get? x=some {o with dict:=some h.objs.size}/\h'.Ns1 h.objs.size (λy=>if y=name then some v else none)/\∀b ob,b≠x->h.get? b=some ob->h'.get? b=some ob)\/
 (∃dx,o.dict=some dx/\dx≠x/\h'.Ns1 dx (λy=>if y=name then some v else mA y)/\Heap.SameBut dx h h')
def IB {tk:Tok} {Q:Fin->Shared->Prop} {ns:List Str} (SF:StoreFacts "Exception" BM sa owner)
 (hC:h.get? C=some (excClassObj nm q C N bs BM true sn sub ab col dd k0 k1 k2 k3 k5 newId)) (hn:h.Ns N mN) (hna:mN name=none)
 (hB:typeLookup (.type "Exception") name=pure none) (hx:h.get? x=some o) (hc:o.cls= .ref C) (hnc:∀c,o.data≠ .cls c) (hfr:o.isFreed=false) (hd:o.dict=none\/∃dx,o.dict=some dx/\dx≠x/\h.Ns1 dx mA)
 (hq:∀h' tk',Ed x o mA name v h h'->Q (.done (.ret .none)) #[h',g,d,tk',os]) (hw:Within mA ns) (hsz:ns.length<=sizeLine):
 wpAny (model prog w) A (Builtin.«object.__setattr__» #[[.ref x,.str name tk,v],[]]) Q E #[h,g,d,t,os]:=by
 have hpass:=SF.passes (.ref x);unfold Builtin.«object.__setattr__»;repeat (first | rw [refuse_eq] | (rw [refuseLoop_ref,hpass]) | (with_reducible refine em hx ?_;rw [hc]) | with_reducible refine wpAny_mroOf_exc hC ?_ | (with_reducible refine kD hC hn SF.mro hB ?_;rw [hna]) | wp_step)
 rcases hd with hdn | ⟨dx,hdx,kg,hns⟩
 . rw [hdn,ae (by simp [typeHasDict])];split
   . rename_i hcd;cases hcd
   split
   . rename_i c hcd;exact absurd hcd (hnc c)
   . have hx1:(h.push {cls:= .type "dict",data:= .dict #[]}).get? x=some o:=bC _ hx;have hxs:x≠h.objs.size:=a9 (aH hx);refine az (wpAny_alloc' (az (wpAny_update' hx1 (bo ?_))));have hgd:((h.push {cls:= .type "dict",data:= .dict #[]}).update x λo=>{cls:=o.cls,dict:=some h.objs.size,data:=o.data,slots:=o.slots}).get? h.objs.size=some {cls:= .type "dict",data:= .dict #[]}:=
      (Heap.get?_update_ne _ _ _ _ hxs.symm).trans (Heap.get?_push_at rfl rfl)
     have hnd:((h.push {cls:= .type "dict",data:= .dict #[]}).update x λo=>{cls:=o.cls,dict:=some h.objs.size,data:=o.data,slots:=o.slots}).Ns h.objs.size (λ_=>none):=
      #[_,#[],_,hgd,rfl,λe he=>absurd he (by simp),λ_=>rfl]
     show wpAny _ _ (storeInDict h.objs.size (.str name tk) name v) _ _ _;unfold storeInDict newKeyGuard;refine az (bo (az (wpAny_nsSet1 (Heap.Ns1.of_empty hnd) λh' hn' hs=>?_)));obtain ⟨oD,esD,epD,hoD,hdD,hcD⟩:=hn'.count (Within.cons name v Within.nil);refine az (uw hoD (by rw [hdD];exact ux (aP hcD (by rw [aT,fL,kY];omega))) ?_);wp_walk;refine hq h' _ (.inl #[hdn,?_,hn',λb ob hbx hb=>?_])
     . refine (hs.2 x hxs).trans (Heap.get?_update_self _ hx1 ?_);obtain ⟨oc,od,odt,osl⟩:=o;cases odt <;> first | rfl | exact hfr
     . exact (hs.2 b (a9 (aH hb))).trans ((Heap.get?_update_ne _ _ _ _ hbx).trans (bC _ hb))
 . rw [hdx];refine bo ?_;show wpAny _ _ (storeInDict dx (.str name tk) name v) _ _ _;unfold storeInDict newKeyGuard;refine az (bo (az (wpAny_nsSet1 hns λh' hn' hs=>?_)));obtain ⟨oD,esD,epD,hoD,hdD,hcD⟩:=hn'.count (Within.cons name v hw);refine az (uw hoD (by rw [hdD];exact ux (aP hcD (by rw [aT];omega))) ?_);wp_walk;exact hq h' _ (.inr #[dx,hdx,kg,hn',hs])
def LK {tk:Tok} {R:Result->Shared->Prop} {ns:List Str} (SF:StoreFacts "Exception" BM sa owner)
 (hC:h.get? C=some (excClassObj nm q C N bs BM true sn sub ab col dd k0 k1 k2 k3 k5 newId)) (hn:h.Ns N mN) (hna:mN name=none)
 (hB:typeLookup (.type "Exception") name=pure none) (hx:h.get? x=some o) (hc:o.cls= .ref C) (hnc:∀c,o.data≠ .cls c) (hfr:o.isFreed=false) (hd:o.dict=none\/∃dx,o.dict=some dx/\dx≠x/\h.Ns1 dx mA)
 (hq:∀h' tk',Ed x o mA name v h h'->R (.ok (.ret .none)) #[h',g,d,tk',os]) (hw:Within mA ns) (hsz:ns.length<=sizeLine):
 codeAny (model prog w) A (.call (.builtin sa) #[[.ref x,.str name tk,v],[]]) R #[h,g,d,t,os]:=
 codeAny_call_builtin SF.slot.plain SF.entry (wpAny_check_sa SF hC hx hc (IB SF hC hn hna hB hx hc hnc hfr hd hq hw hsz))
def FJ {Q:Unit->Shared->Prop} {ns:List Str} (SF:StoreFacts "Exception" BM sa owner)
 (hC:h.get? C=some (excClassObj nm q C N bs BM true sn sub ab col dd k0 k1 k2 k3 k5 newId)) (hn:h.Ns N mN) (hns:mN "__setattr__" = none) (hna:mN name=none)
 (hB:typeLookup (.type "Exception") name=pure none) (hx:h.get? x=some o) (hc:o.cls= .ref C) (hnc:∀c,o.data≠ .cls c) (hfr:o.isFreed=false) (hd:o.dict=none\/∃dx,o.dict=some dx/\dx≠x/\h.Ns1 dx mA)
 (hq:∀h' tk',Ed x o mA name v h h'->Q () #[h',g,d,tk',os]) (hw:Within mA ns) (hsz:ns.length<=sizeLine):
 wpAny (model prog w) A (setAttr (.ref x) name v) Q E #[h,g,d,t,os]:=by
 have f3:=SF.slot.bind (.ref x);unfold setAttr callSpecial? specialOf;repeat (any_goals (first | assumption | (with_reducible refine em hx ?_;rw [hc]) | (with_reducible refine kD hC hn SF.mro SF.slot.lookup ?_;rw [hns]) | wp_step))
 refine LK SF hC hn hna hB hx hc hnc hfr hd (λh' tk' z=>?_) hw hsz;repeat (any_goals (first | wp_step | assumption))
 exact hq _ _ z
end
end XE
end
namespace HT
open PySem PyProof.Rows
section
variable {prog:Program} {w:World} {A:Around} {E:Value->Shared->Prop} {s:Shared}
def D4 (n d:Nat):Option Int->Nat
 | none=>d
 | some v=>if v < 0 then (v+(n:Int)).toNat else min v.toNat n
def w6 (n d k:Nat):D4 n d (some (k:Int))=min k n:=by
 show (if (k:Int) < 0 then ((k:Int)+(n:Int)).toNat else min (k:Int).toNat n)=min k n;rw [ae (by omega),oY]
end
end HT
namespace To
open PySem PyProof.Rows
end To
namespace TL
open PySem PySem.Builtin PySem.Builtin.Str StrLaws
abbrev tl (x:Str):List Nat:=x.cps.toList
def Ov (x:Str):x.length=(tl x).length:=by simp [tl,Str.length]
def Ow {x y:Str} (h:tl x=tl y):x=y:=Str.ext' (Array.toList_inj.mp h)
def z9 (x y:Str):tl (x++y)=tl x++tl y:=by
 show (x++y).cps.toList=_;rw [Str.cps_append,Array.toList_append]
def pre (S l:List Nat):Bool:=l.take S.length == S
def par (S:List Nat):List Nat->List Nat->Option (List Nat×List Nat)
 | _,[]=>none
 | acc,c :: r=>if pre S (c :: r)=true then some (acc,(c :: r).drop S.length) else par S (acc++ [c]) r
def xu (L:List Nat) (a b:Nat):(L.drop a).drop b=L.drop (a+b):=by
 first
  | rw [fM]
  | rw [fM,kW]
def IC {y:Str} (hy:tl y≠ []):1<=y.length:=by
 have e2:0 < (tl y).length:=List.length_pos_iff.mpr hy;rw [Ov y];exact e2
def z_ (S:List Nat):List (List Nat)->List Nat
 | []=> []
 | [p]=>p
 | p :: q :: r=>p++(S++z_ S (q :: r))
def FK (y:Str):∀parts:List Str,tl (Str.join y parts)=z_ (tl y) (parts.map tl)
 | []=>rfl
 | [_]=>rfl
 | x :: z :: r=>by
  show tl (x++y++Str.join y (z :: r))=tl x++(tl y++z_ (tl y) ((z :: r).map tl));rw [z9,z9,FK y (z :: r),bw]
def join_eq (y:Str) (parts:List Str):Txt.join y parts=Str.join y parts:=glued_eq_join y parts
end TL
namespace Wc
open PySem PySem.W PySem.Calls PyProof.Rows
end Wc
namespace L2
open PySem Spec PyProof.Rows
open PySem.W (Frag)
open PySem.W (instObj methodObj lookIn plainGet hasDictIn findIn handedIn plainGet_of isFn plainOver takerIn Looks makesIn emptyDict keepIn mroIn kitOne kia_one kitx_list kitx_dict callWith_K methodCall_KW callWith_K0 cellsFrom_some fnOf codeIn codeRec_of nsOkIn nsIn isNs_of_in nsMap_none_of_in WRecords WalkOS)
open PySem.F (slot_list_getattribute)
variable {us bV:List Value} {x m qual:Str} {u v cd eA:Value} {a b f dx C l CF fI:Addr} {P prog:Program} {w:World} {h h' base:Heap} {α:Type} {e c tg iter elt:Expr} {pins:List (Addr×Obj)} {s s' s1:Shared} {t' i j n kk iy:Nat} {ch fp:List Addr} {N ps:List Str} {M:Model} {A:Around} {E Q Qf:Value->Shared->Prop} {pos pos' p tpos apos p2 eR py p1 p3 p4 pa np hpos:Pos} {K:Frag} {st:Stmt} {es ifs elts:List Expr} {body:List Stmt} {vs items:Array Value} {mA mg:Str->Option Value} {pl:Sem Bool} {R:Result->Shared->Prop} {kw:List (Str×Value)} {env:Env} {fd:FuncData} {outer:List Env} {kindOf:Str->Option NameKind} {sc scope:Scope} {T:String} {cells:List (Str×Addr)} {own:List (Str×Nat)} {z:Int} {ds:List WData}
abbrev Key:=Sum Int Str
def kZ:Key->Value->Bool
 | .inl k,v=>Value.isInt k v
 | .inr x,v=>Value.isStrOf x v
def QG (w:World):Key->Int
 | .inl k=>hashInt k
 | .inr x=>hashStr w x
def dE:∀{k:Key} {v:Value},kZ k v=true->(∃i t,k=Sum.inl i/\v=Value.int i t)\/(∃x t,k=Sum.inr x/\v=Value.str x t)
 | .inl i,v,h=>by
  obtain ⟨t,e⟩:=Value.isInt_shape (k:=i) (v:=v) h;exact .inl #[i,t,rfl,e]
 | .inr x,v,h=>by
  obtain ⟨t,e⟩:=Value.isStrOf_shape (x:=x) (v:=v) h;exact .inr #[x,t,rfl,e]
def Aa (i:Int) (t:Tok):kZ (.inl i) (.int i t)=true:=by simp [kZ,Value.isInt]
def Ab (x:Str) (t:Tok):kZ (.inr x) (.str x t)=true:=by simp [kZ,Value.isStrOf]
def Ox (a b:Int):decide ((Sum.inl a:Key)=Sum.inl b)=(a == b):=by
 by_cases e:a=b
 . subst e;simp
 . have h:¬(Sum.inl a:Key)=Sum.inl b:=λq=>e (Sum.inl.inj q);rw [dD h];exact (bS.mpr e).symm
def Oy (a b:Str):decide ((Sum.inr a:Key)=Sum.inr b)=decide (a=b):=by
 by_cases e:a=b
 . subst e;simp
 . have h:¬(Sum.inr a:Key)=Sum.inr b:=λq=>e (Sum.inr.inj q);rw [dD h,dD e]
def Oz (a:Int) (b:Str):decide ((Sum.inl a:Key)=Sum.inr b)=false:=dD (λq=>nomatch q)
def OA (a:Str) (b:Int):decide ((Sum.inr a:Key)=Sum.inl b)=false:=dD (λq=>nomatch q)
def cC (prog:Program) (w:World):KeyKind prog w Key where
 is:=kZ
 hash:=QG w
 inj:=λv a b ha hb=>by
  rcases dE ha with ⟨i,t,rfl,rfl⟩ | ⟨x,t,rfl,rfl⟩
  . rcases dE hb with ⟨j,u,rfl,e⟩ | ⟨y,u,rfl,e⟩
    . injection e with e1 _;rw [e1]
    . exact nomatch e
  . rcases dE hb with ⟨j,u,rfl,e⟩ | ⟨y,u,rfl,e⟩
    . exact nomatch e
    . injection e with e1 _;rw [e1]
 byValue:=λk v h=>by
  rcases dE h with ⟨i,t,rfl,rfl⟩ | ⟨x,t,rfl,rfl⟩ <;> rfl
 pyHash:=λhv h=>by
  rcases dE hv with ⟨i,t,rfl,rfl⟩ | ⟨x,t,rfl,rfl⟩
  . exact wpAny_pyHash_int h
  . exact wpAny_pyHash_str h
 eqBool:=λhu hv h=>by
  rcases dE hu with ⟨i,t,rfl,rfl⟩ | ⟨x,t,rfl,rfl⟩
  . rcases dE hv with ⟨j,u,rfl,rfl⟩ | ⟨y,u,rfl,rfl⟩
    . rw [Ox] at h;exact wpAny_eqBool_int h
    . rw [Oz] at h;exact SeqAt.EqAt.int_str i t y u _ _ _ _ h
  . rcases dE hv with ⟨j,u,rfl,rfl⟩ | ⟨y,u,rfl,rfl⟩
    . rw [OA] at h;exact SeqAt.EqAt.str_int x t j u _ _ _ _ h
    . rw [Oy] at h;exact wpAny_eqBool_str h
 «strs» :=λk x t v h=>by
  rcases dE h with ⟨i,u,rfl,e⟩ | ⟨y,u,rfl,e⟩
  . exact nomatch e
  . injection e with e1 _;subst e1;cases v <;> rfl
def Cj (prog:Program) (w:World) (i:Int) (t:Tok):(cC prog w).is (.inl i) (.int i t)=true:=Aa i t
def Ck (prog:Program) (w:World) (x:Str) (t:Tok):(cC prog w).is (.inr x) (.str x t)=true:=Ab x t
inductive V where
 | cp | bl (b:Bool) | int (i:Int) | str (x:Str) | Ce (b:Array UInt8) | flt (b:UInt64) | ref (a:Addr) | ty (n:String)
 deriving DecidableEq
variable {xs ys:List V} {y:V} {aG:List (List Key×V)}
def RelV:V->Value->Prop
 | .cp,u=>u=Value.none
 | .bl b,u=>u=Value.bool b
 | .int i,u=> ∃t,u=Value.int i t
 | .str x,u=> ∃t,u=Value.str x t
 | .Ce b,u=> ∃t,u=Value.bytes b t
 | .flt b,u=> ∃t,u=Value.float b t
 | .ref a,u=>u=Value.ref a
 | .ty n,u=>u=Value.type n
abbrev Vals:List V->List Value->Prop:=Paired RelV
def Vals.length (r:Vals xs us):xs.length=us.length:=pq r
def Vals.get:∀{xs:List V} {us:List Value} {i:Nat} {x:V},Vals xs us->xs[i]? = some x->∃u,us[i]? = some u/\RelV x u
 | _,_,_,_,.nil,e=>by simp at e
 | _,_,0,_,.cons r _,e=>by simp at e;subst e;exists _,U,r
 | _,_,i+1,x,.cons _ t,e=>by
  obtain ⟨u,h1,h2⟩:=Vals.get (i:=i) (x:=x) t (by simpa using e);exists u,by simpa using h1,h2
def Vals.append:∀{xs ys:List V} {us ws:List Value},Vals xs us->Vals ys ws->Vals (xs++ys) (us++ws)
 | _,_,_,_,.nil,s=>s
 | _,_,_,_,.cons r t,s=> .cons r (Vals.append t s)
def Vals.take:∀{xs:List V} {us:List Value} (n:Nat),Vals xs us->Vals (xs.take n) (us.take n)
 | _,_,0,_=> .nil
 | _,_,_+1,.nil=> .nil
 | _,_,n+1,.cons r t=> .cons r (Vals.take n t)
def Vals.drop:∀{xs:List V} {us:List Value} (n:Nat),Vals xs us->Vals (xs.drop n) (us.drop n)
 | _,_,0,r=>r
 | _,_,_+1,.nil=> .nil
 | _,_,n+1,.cons _ t=>Vals.drop n t
def ji:Option V->Option Value->Prop
 | some v,some u=>RelV v u
 | none,none=>True
 | _,_=>False
def KV {κ:Type}:List (κ×V)->List (κ×Value)->Prop:=Paired λ(p:κ×V) (q:κ×Value)=>p.1=q.1/\RelV p.2 q.2
def kV:Key->V
 | .inl i=> .int i
 | .inr x=> .str x
inductive HO where
 | lst (xs:List V)
 | tup (xs:List V)
 | dK (aG:List (Key×V)) | dT (aG:List (List Key×V))
 | set (S:Int->Bool) (n:Nat)
 | ins (C dx:Addr) (fs:List (Str×V))
 | own (x:Addr)
 | xd (fs:List (Str×V))
 | met (f x:Addr)
 | Tp (lo hi:Int)
 | gR (o:Obj) (u:HO)
 | OB (ps:Array Value)
 | ext (φ:Heap->Prop)
variable {o:HO}
abbrev Hp:=Addr->Option HO
variable {H H' H1 H2:Hp} {Qd:Hp->Prop}
def upd (H:Hp) (a:Addr) (o:HO):Hp:=λb=>if b=a then some o else H b
def aa:upd H a o a=some o:=by unfold upd;rw [ah rfl]
def aA (h:b≠a):upd H a o b=H b:=by unfold upd;rw [ae h]
def QH {u:HO} (h:H a=some o) (h':H b=some u) (d:o≠u):a≠b:=by
 intro e;subst e;rw [h] at h';exact d (bF h')
def bp (h:H a=some o) (h':H b=none):a≠b:=by
 intro e;subst e;rw [h] at h';cases h'
section
variable (P:Program) (w:World)
def dc (H:Hp) (h:Heap) (a:Addr):HO->Prop
 | .lst xs=>xs.length<=sizeLine/\∃(bV:List Value) (n:Nat),Vals xs bV/\h.get? a=some {cls:= .type "list",data:= .seq bV.toArray n}
 | .tup xs=>xs.length<=sizeLine/\∃bV:List Value,Vals xs bV/\IsTup h a bV.toArray
 | .dK aG=>aG.length<=sizeLine/\(a == sysModules)=false/\∃vs,KV aG vs/\h.DictOf (cC P w) a vs
 | .dT aG=>aG.length<=sizeLine/\(a == sysModules)=false/\∃xs:List (List Key×Addr×Value),
  Paired (λ(p:List Key×V) (q:List Key×Addr×Value)=>p.1=q.1/\H q.2.1=some (.tup (p.1.map kV))/\RelV p.2 q.2.2) aG xs/\
  ∃o es ep,h.get? a=some o/\o.ExactDict/\o.data= .dict es ep/\es.toList=xs.map (entryOfKey (tupleKind (cC P w)))/\(xs.map (·.1)).Nodup
 | .set S n=>h.SetOf (intKind P w) a S n
 | .ins C dx fs=>H dx=some (.own a)/\fs.length<=1000/\dx≠a/\h.get? a=some (instObj C dx)/\
  ∃mA,h.Ns1 dx mA/\(∀f,ji (fs.lookup f) (mA f))/\PySem.Within mA (fs.map (·.1))
 | .own _=> ∃o,h.get? a=some o
 | .xd fs=> ∃mA,h.Ns1 a mA/\∀f,ji (fs.lookup f) (mA f)
 | .Tp lo hi=> ∃t u v,h.get? a=some {cls:= .type "range",data:= .fields (List.toArray [.int lo t,.int hi u,.int 1 v])}
 | .gR o u=>h.get? a=some o/\dc H h a u
 | .OB ps=>h.get? a=some {cls:= .none,data:= .fields ps}
 | .met f x=>h.get? a=some (methodObj (.ref f) (.ref x))
 | .ext φ=>φ h/\(∃o,h.get? a=some o)/\∀h1 h2:Heap,φ h1->(∀o,h1.get? a=some o->h2.get? a=some o)->φ h2
def k4 (H:Hp) (h:Heap):= ∀a o,H a=some o->dc P w H h a o
end
section
def dc.lt (x:dc P w H h a o):a < h.objs.size:=by
 cases o with
 | lst xs=>obtain ⟨_,_,_,_,e⟩:=x;exact aH e
 | tup xs=>obtain ⟨_,_,_,p⟩:=x;exact p.lt
 | dK aG=>obtain ⟨_,_,_,_,o,_,_,e,_⟩:=x;exact aH e
 | dT aG=>obtain ⟨_,_,_,_,o,_,_,e,_⟩:=x;exact aH e
 | set S n=>obtain ⟨o,_,_,_,e,_⟩:=x;exact aH e
 | ins C dx fs=>obtain ⟨_,_,_,e,_⟩:=x;exact aH e
 | own y=>obtain ⟨_,e⟩:=x;exact aH e
 | xd fs=>obtain ⟨_,⟨_,_,_,e,_⟩,_⟩:=x;exact aH e
 | Tp lo hi=>obtain ⟨_,_,_,e⟩:=x;exact aH e
 | gR ob u=>obtain ⟨e,_⟩:=x;exact aH e
 | OB ps=>exact aH (show h.get? a=some _ from x)
 | met f y=>exact aH (show h.get? a=some _ from x)
 | ext φ=>obtain ⟨_,⟨_,e⟩,_⟩:=x;exact aH e
def Paired.OC {β:Type} {F G:α->β->Prop}:∀{l₁:List α} {l₂:List β},Paired F l₁ l₂->(∀a b,F a b->G a b)->Paired G l₁ l₂
 | _,_,.nil,_=> .nil
 | _,_,.cons r t,f=> .cons (f _ _ r) (Paired.OC t f)
def dc.stay (x:dc P w H h a o) (k:∀b u,(b=a\/H b=some (.own a))->h.get? b=some u->h'.get? b=some u) (ho:∀b,H b=some (.own a)->H' b=some (.own a)) (ht:∀b xs,H b=some (.tup xs)->H' b=some (.tup xs)):dc P w H' h' a o:=by
 induction o with
 | lst xs=>obtain ⟨z,bV,n,r,e⟩:=x;exists z,bV,n,r,k _ _ (.inl U) e
 | tup xs=>obtain ⟨z,bV,r,ob,e,c⟩:=x;exists z,bV,r,ob,k _ _ (.inl U) e,c
 | dK aG=>obtain ⟨z,y,vs,r,ob,es,ep,e,c⟩:=x;exists z,y,vs,r,ob,es,ep,k _ _ (.inl U) e,c
 | dT aG=>
  obtain ⟨z,y,xs,r,ob,es,ep,e,c⟩:=x;exists z,y,xs,Paired.OC r λp q z=>#[z.1,ht _ _ z.2.1,z.2.2],ob,es,ep,k _ _ (.inl U) e,c
 | set S n=>obtain ⟨ob,es,ep,t,e,c⟩:=x;exists ob,es,ep,t,k _ _ (.inl U) e,c
 | ins C dx fs=>
  obtain ⟨d,z,ne,e,mA,⟨od,es,ep,e2,c⟩,r⟩:=x;exists ho _ d,z,ne,k _ _ (.inl U) e,mA,#[od,es,ep,k _ _ (.inr d) e2,c],r
 | own y=>obtain ⟨ob,e⟩:=x;exists ob,k _ _ (.inl U) e
 | xd fs=>obtain ⟨mA,⟨od,es,ep,e,c⟩,r⟩:=x;exists mA,#[od,es,ep,k _ _ (.inl U) e,c],r
 | Tp lo hi=>obtain ⟨t,u,v,e⟩:=x;exists t,u,v,k _ _ (.inl U) e
 | gR ob u ih=>obtain ⟨e,q⟩:=x;exists k _ _ (.inl U) e,ih q
 | OB ps=>
  have e:h.get? a=some {cls:= .none,data:= .fields ps}:=x;show h'.get? a=some {cls:= .none,data:= .fields ps};exact k a _ (.inl rfl) e
 | met f y=>
  have e:h.get? a=some (methodObj (.ref f) (.ref y)):=x;show h'.get? a=some (methodObj (.ref f) (.ref y));exact k a _ (.inl rfl) e
 | ext φ=>obtain ⟨p,⟨o,e⟩,st⟩:=x;exists st _ _ p λo q=>k _ _ (.inl U) q,#[o,k _ _ (.inl U) e],st
def k4.lt (x:k4 P w H h) (e:H a=some o):a < h.objs.size:=(x a o e).lt
def k4.fresh (x:k4 P w H h) (e:h.objs.size<=a):H a=none:=by
 cases q:H a with
 | none=>rfl
 | some u=>exact absurd (bq (x.lt q) e) (cN _)
def k4.kept (x:k4 P w H h) (k:∀b u,h.get? b=some u->h'.get? b=some u):k4 P w H h':=λa o e=>
 (x a o e).stay (λb u _ q=>k b u q) (λ_ q=>q) λ_ _ q=>q
def k4.laid (x:k4 P w H h) (k:∀b u,h.get? b=some u->h'.get? b=some u) (hp:h.objs.size<=a) (new:dc P w (upd H a o) h' a o):k4 P w (upd H a o) h':=λb u e=>by
 have hn:=x.fresh hp;by_cases hb:b=a
 . subst hb;rw [aa] at e;cases e;exact new
 . rw [aA hb] at e;exact (x b u e).stay (λc v _ q=>k c v q) (λc q=>by rw [aA (bp q hn)];exact q) λc xs q=>by rw [aA (bp q hn)];exact q
end
def Rd (H:Hp) (a:Addr) (u:HO):=H a=some u\/∃o,H a=some (.gR o u)
def Rd.of {u:HO} (h:H a=some u):Rd H a u:= .inl h
def Rd.ok {u:HO} (r:Rd H a u) (x:k4 P w H h):dc P w H h a u:=by
 rcases r with r | ⟨o,r⟩
 . exact x a u r
 . obtain ⟨_,q⟩:=x a _ r;exact q
def OD:Option HO->Prop
 | some (.lst _)=>True
 | some (.dK _)=>True
 | some (.dT _)=>True
 | some (.set _ _)=>True
 | some (.ins _ _ _)=>True
 | some (.ext _)=>True
 | _=>False
section
variable {x e:Addr} {o':HO}
def k4.write (ok:k4 P w H h) (mu:OD (H x)) (he:e=x\/H e=some (.own x)) (k:∀b u,b≠e->h.get? b=some u->h'.get? b=some u) (heo:∃u,h'.get? e=some u) (new:dc P w (upd H x o') h' x o'):k4 P w (upd H x o') h':=λb u q=>by
 have QI:∀c y,H c=some (.own y)->c≠x:=λc y r z=>by subst z;rw [r] at mu;exact mu
 have Tq:∀c xs,H c=some (.tup xs)->c≠x:=λc xs r z=>by subst z;rw [r] at mu;exact mu
 by_cases hb:b=x
 . subst hb;rw [aa] at q;cases q;exact new
 . rw [aA hb] at q;by_cases hbe:b=e
   . have q':H b=some (.own x):=by
      rcases he with z | z
      . exact absurd (hbe.trans z) hb
      . rw [hbe];exact z
     rw [q] at q';cases q';obtain ⟨v,hv⟩:=heo;exists v,by rw [hbe];exact hv
   . refine (ok b u q).stay (λc v hc r=>k c v ?_ r) (λc r=>by rw [aA (QI c b r)];exact r) λc xs r=>by rw [aA (Tq c xs r)];exact r
     rcases hc with rfl | hc
     . exact hbe
     . rintro rfl;rcases he with z | z
       . exact QI c b hc z
       . rw [hc] at z;cases z;exact hb rfl
end
structure Un (fs ex:List Addr) (H H':Hp) (h h':Heap):Prop where
 keep:∀b o,h.get? b=some o->H b=none->b∉fs->b∉ex->h'.get? b=some o
 slot:∀b o,h.get? b=some o->H b=none->b∈fs->b∉ex->∃sl,h'.get? b=some {o with slots:=sl}
 free:∀b o,h.get? b=some o->H b=none->b∉ex->H' b=none
 there:∀b o,h.get? b=some o->b∉ex->∃o',h'.get? b=some o'
 tups:∀b xs,H b=some (.tup xs)->H' b=some (.tup xs)
 pW:∀b o u,H b=some (.gR o u)->H' b=some (.gR o u)
 qG:∀b ps,H b=some (.OB ps)->∃more,H' b=some (.OB (ps++more))
section
variable {fs fs' ex ex':List Addr} {h1 h2:Heap} {x e:Addr}
def Un.any (u:Un fs ex H H1 h h1) {ob:Obj} (q:h.get? b=some ob) (n:H b=none) (hx:b∉ex):∃sl,h1.get? b=some {ob with slots:=sl}:=by
 by_cases hb:b∈fs
 . exact u.slot b ob q n hb hx
 . exists ob.slots,u.keep b ob q n hb hx
def Un.trans (a:Un fs ex H H1 h h1) (b:Un fs ex H1 H2 h1 h2):Un fs ex H H2 h h2 where
 keep:=λc ob q n hc hx=>b.keep c ob (a.keep c ob q n hc hx) (a.free c ob q n hx) hc hx
 slot:=λc ob q n hc hx=>by
  obtain ⟨sl,e1⟩:=a.slot c ob q n hc hx;obtain ⟨sl',e2⟩:=b.slot c _ e1 (a.free c ob q n hx) hc hx;exists sl',e2
 free:=λc ob q n hx=>by
  obtain ⟨o',e1⟩:=a.there c ob q hx;exact b.free c o' e1 (a.free c ob q n hx) hx
 there:=λc ob q hx=>by
  obtain ⟨o',e1⟩:=a.there c ob q hx;exact b.there c o' e1 hx
 tups:=λc xs q=>b.tups c xs (a.tups c xs q)
 pW:=λc ob xs q=>b.pW c ob xs (a.pW c ob xs q)
 qG:=λc ps q=>by
  obtain ⟨m1,e1⟩:=a.qG c ps q;obtain ⟨m2,e2⟩:=b.qG c _ e1;exists m1++m2,by rw [e2,Array.append_assoc]
def Un.kept (k:∀b u,h.get? b=some u->h'.get? b=some u):Un fs ex H H h h':=
 #[λb ob q _ _ _=>k b ob q,λb ob q _ _ _=>#[ob.slots,k b ob q],λ_ _ _ n _=>n,λb ob q _=>#[ob,k b ob q],λ_ _ q=>q,λ_ _ _ q=>q,λ_ ps q=>#[#[],by rw [q];simp]]
def Un.refl:Un fs ex H H h h:=Un.kept λ_ _ q=>q
def Un.laid (k:∀b u,h.get? b=some u->h'.get? b=some u) (hp:h.objs.size<=a) (hn:H a=none):Un fs ex H (upd H a o) h h' where
 keep:=λb u q _ _ _=>k b u q
 slot:=λb u q _ _ _=>#[u.slots,k b u q]
 free:=λb u q n _=>by rw [aA (a9 (bq (aH q) hp))];exact n
 there:=λb u q _=>#[u,k b u q]
 tups:=λb xs q=>by rw [aA (bp q hn)];exact q
 pW:=λb u xs q=>by rw [aA (bp q hn)];exact q
 qG:=λb ps q=>#[#[],by rw [aA (bp q hn),q];simp]
def Un.write (mu:OD (H x)) (he:e=x\/H e=some (.own x)) (k:∀b u,b≠e->h.get? b=some u->h'.get? b=some u) (heo:∃u,h'.get? e=some u):Un fs ex H (upd H x o) h h':=by
 have hx:∀b,H b=none->b≠x:=λb n z=>by subst z;rw [n] at mu;exact mu
 have hb:∀b,H b=none->b≠e:=λb n z=>by
  subst z;rcases he with r | r
  . exact hx b n r
  . rw [n] at r;cases r
 have hm:∀b u,H b=some u->¬OD (some u)->b≠x:=λb u q nm z=>by subst z;rw [q] at mu;exact nm mu
 exists λb u q n _ _=>k b u (hb b n) q,λb u q n _ _=>#[u.slots,k b u (hb b n) q],λb u q n _=>by rw [aA (hx b n)];exact n,λb u q _=>?_,
  λb xs q=>by rw [aA (hm b _ q λz=>z)];exact q,λb u xs q=>by rw [aA (hm b _ q λz=>z)];exact q,λb ps q=>#[#[],by rw [aA (hm b _ q λz=>z),q];simp]
 by_cases hbe:b=e
 . subst hbe;exact heo
 . exists u,k b u hbe q
def Un.mono (u:Un fs ex H H1 h h1) (hs:∀b∈fs,b∈fs') (hx:∀b∈ex,b∈ex'):Un fs' ex' H H1 h h1:=
 #[λb ob q n hb he=>u.keep b ob q n (λz=>hb (hs b z)) λz=>he (hx b z),λ_ _ q n _ he=>u.any q n λz=>he (hx _ z),λb ob q n he=>u.free b ob q n λz=>he (hx b z),λb ob q he=>u.there b ob q λz=>he (hx b z),u.tups,u.pW,u.qG]
end
def SA (h:Heap) (H:Hp):List Addr:=(List.range h.objs.size).filter λa=>(H a).isSome
def AU (h:Heap) (H:Hp):Heap:=PySem.W.hideAll h (SA h H)
def G4 (h:Heap) (H:Hp):(AU h H).objs.size=h.objs.size:=PySem.W.hideAll_size _ _
def IE {o:Obj} (e:h.get? b=some o) (n:H b=none):(AU h H).get? b=some o:=
 PySem.W.hideAll_get _ e λhm=>by
  have q:(H b).isSome=true:=(hX.mp hm).2;rw [n] at q;simp at q
def LL {o:Obj} (e:(AU h H).get? b=some o):h.get? b=some o/\H b=none:=by
 have e':h.get? b=some o:=PySem.W.of_hideAll (SA h H) e;exists e',?_;cases q:H b with
 | none=>rfl
 | some x=>
  have hm:b∈SA h H:=hX.mpr #[List.mem_range.mpr (aH e'),by simp [q]];have z:(AU h H).get? b=none:=PySem.W.hideAll_none (SA h H) hm;rw [z] at e;cases e
def LN (g h:Heap) (L:Addr):List (Addr×Obj):=(List.range h.objs.size).filterMap λa=>if a=L\/(g.get? a).isSome=true then none else (h.get? a).map λo=>(a,o)
def rest (g h:Heap) (L d:Addr):List (Addr×Obj):=(LN g h L).filter λp=>decide (p.1≠d)
structure Mod (K:Frag) (mg:Str->Option Value) (base:Heap):Prop where
 LO:K.In base
 glob:base.Ns mainGlobals mg
 blt:∃mb,base.Ns builtinsNs mb/\∀x:Str,x≠ "__name__" ->mb x=bootBuiltins x
 nolimit:base.NoLimit
structure Cx where
 prog:Program
 w:World
 K:Frag
 mg:Str->Option Value
 base:Heap
 A:Around
 N:List Str
 pE:Shared
 Lq:Hp
 env:Env
 outer:List Env
 stack:List Env
 ex:List Addr
 fn:Str->Bool
 calm:Bool
 pn:List (Addr×Obj)
 xe:Value->Shared->Prop
variable {X:Cx}
def frs (l:List Env):List Addr:=l.filterMap (·.frame)
abbrev Cx.fs (X:Cx):List Addr:=frs X.outer
def Ik (sc:Scope) (x:Str):=sc.names.lookup x=some .local\/sc.names.lookup x=some .cell\/sc.names.lookup x=some .free
def Loc (sc:Scope) (x:Str):=sc.names.lookup x=some .local\/sc.names.lookup x=some .cell
def Look (env:Env) (h:Heap) (m:Str->Option Value) (x:Str) (u:Value):Prop:=
 (env.kindOf x=some .local/\m x=some u)\/((env.kindOf x=some .cell\/env.kindOf x=some .free)/\∃c,env.cells.lookup x=some c/\h.IsCell c (some u))
structure Cx.Ok (X:Cx):Prop where
 mod:Mod X.K X.mg X.base
 kind:X.env.scope.kind= .function
 glob:X.env.globals=mainGlobals
 blt:X.env.builtins=builtinsNs
 above:X.pE.heap.objs.size<=X.env.locals
 inj:∀x y c,X.env.cells.lookup x=some c->X.env.cells.lookup y=some c->x=y
 has:∀x,(X.env.kindOf x=some .cell\/X.env.kindOf x=some .free)->∃c,X.env.cells.lookup x=some c
 cab:∀x c,X.fn x=true->X.env.cells.lookup x=some c->X.pE.heap.objs.size<=c
 hd:X.calm=true->X.A.handled=none
 frames:X.A.frames=some X.stack
 Ac:X.stack=X.outer\/(X.stack=X.env :: X.outer/\X.env.frame=some X.env.locals)
 Il:∀b∈X.ex,b≠X.env.locals/\∀x c,X.env.cells.lookup x=some c->c≠b
 bs:∀b o,X.base.get? b=some o->X.pE.heap.get? b=some o/\X.Lq b=none
 D5:X.base.objs.size<=X.pE.heap.objs.size
 zt:∀b o,X.base.get? b=some o->b∉X.ex
 uH:∀b∈X.ex,b∉X.fs
 funs:X.pE.heap.FunFrames X.base X.outer
 G5:∀b∈X.fs,X.Lq b=none
structure Inv (X:Cx) (pins:List (Addr×Obj)) (σ:List (Option V)) (H:Hp) (s:Shared):Prop where
 ok:X.Ok
 os:s.os=X.pE.os
 bare:AllBare s.gens
 base:Un X.fs X.ex X.Lq H X.pE.heap s.heap
 loc:∃m,s.heap.Ns X.env.locals m/\∀(i:Nat) (x:Str) (v:V),X.N[i]? = some x->σ[i]? = some (some v)->Ik X.env.scope x->∃u,RelV v u/\Look X.env s.heap m x u
 cell:∀x c,X.env.cells.lookup x=some c->∃v,s.heap.IsCell c v
 free:H X.env.locals=none
 gf:∀x c,X.env.cells.lookup x=some c->H c=none
 pin:∀p∈X.pn++pins,s.heap.get? p.1=some p.2/\H p.1=none/\p.1≠X.env.locals/\p.1∉X.fs/\∀v,p.2.data≠ .cell v
 bQ:k4 X.prog X.w H s.heap
 len:σ.length=X.N.length
section
variable {σ:List (Option V)}
def Cx.Ok.Ot (ok:X.Ok) {o:Obj} (e:X.base.get? b=some o):b∉X.fs:=λhb=>by
 have:=(ok.funs.mem hb).1;rw [e] at this;cases this
def Inv.bs (I:Inv X pins σ H s):∀b o,X.base.get? b=some o->s.heap.get? b=some o/\H b=none:=λb o e=>
 #[I.base.keep b o (I.ok.bs b o e).1 (I.ok.bs b o e).2 (I.ok.Ot e) (I.ok.zt b o e),I.base.free b o (I.ok.bs b o e).1 (I.ok.bs b o e).2 (I.ok.zt b o e)]
def Inv.bk (I:Inv X pins σ H s):∀b o,X.base.get? b=some o->s.heap.get? b=some o:=λb o e=>(I.bs b o e).1
def Inv.mod (I:Inv X pins σ H s):Mod X.K X.mg X.base:=I.ok.mod
def Inv.k6 (I:Inv X pins σ H s):X.K.In s.heap:=I.ok.mod.LO.keeps I.bk
def Inv.nolimit (I:Inv X pins σ H s):s.heap.NoLimit:=I.ok.mod.nolimit.keeps I.bk
def Inv.fr (I:Inv X pins σ H s):∃m,Fr X.base X.env.locals s.heap m:=
 let #[m,hn,_]:=I.loc
 #[m,hn,I.bk,aP I.ok.D5 I.ok.above]
def Inv.lt (I:Inv X pins σ H s):X.env.locals < s.heap.objs.size:=let #[_,hn,_]:=I.loc;hn.lt
def Inv.sz (I:Inv X pins σ H s):X.pE.heap.objs.size<=s.heap.objs.size:=aP I.ok.above (ia I.lt)
def Inv.Tr (I:Inv X pins σ H s) (h:s.heap.objs.size<=a):a∉X.fs:=λhb=>by
 obtain ⟨_,o,ho,_⟩:=I.ok.funs.mem hb;exact absurd (bq (aH ho) (aP I.sz h)) (cN _)
def Inv.Nv (I:Inv X pins σ H s):∀x c,X.env.cells.lookup x=some c->c≠X.env.locals:=λx c e z=>by
 obtain ⟨v,o,ho,hd⟩:=I.cell x c e;obtain ⟨m,⟨o',es,ep,ho',hd',_⟩,_⟩:=I.loc;rw [z,ho'] at ho;cases ho;rw [hd'] at hd;cases hd
def Inv.funs (I:Inv X pins σ H s):s.heap.FunFrames X.base X.outer:=by
 have all:∀(l:List Env),(∀b∈frs l,b∈X.fs)->X.pE.heap.FunFrames X.base l->s.heap.FunFrames X.base l:=by
  intro l;induction l with
  | nil=>intro _ _;trivial
  | cons env r ih=>
   intro hs hl;obtain ⟨hk,⟨L,o,hf,hn,ho,hd⟩,hr⟩:=hl;have hL:L∈X.fs:=hs L (by unfold frs;rw [kE,hf];exact bi);obtain ⟨sl,e⟩:=I.base.slot L o ho (I.ok.G5 L hL) hL λz=>I.ok.uH L z hL;exists hk,#[L,_,hf,hn,e,hd],ih (λb hb=>hs b (by unfold frs;rw [kE,hf];exact aW _ hb)) hr
 exact all X.outer (λ_ hb=>hb) I.ok.funs
def Inv.stack (I:Inv X pins σ H s):s.heap.FunFrames X.base X.stack:=by
 rcases I.ok.Ac with e | ⟨e,hf⟩
 . rw [e];exact I.funs
 . rw [e];obtain ⟨m,hn,_⟩:=I.loc;refine .cons (by rw [I.ok.kind];decide) hf hn ?_ I.funs;exact ue (aP I.ok.D5 I.ok.above)
def Inv.AV (I:Inv X pins σ H s):∀b∈frs X.stack,b∈X.env.locals :: X.fs:=λb hb=>by
 rcases I.ok.Ac with e | ⟨e,hf⟩
 . rw [e] at hb;exact aW _ hb
 . rw [e] at hb;unfold frs at hb;rw [kE,hf] at hb;exact hb
def Inv.rP (I:Inv X pins σ H s):∀b∈frs X.stack,H b=none:=λb hb=>by
 rcases aE.mp (I.AV b hb) with e | hb
 . rw [e];exact I.free
 . obtain ⟨_,o,ho,_⟩:=I.ok.funs.mem hb;exact I.base.free b o ho (I.ok.G5 b hb) λz=>I.ok.uH b z hb
def Inv.step {g':Array GenState} {d':Drawn} (I:Inv X pins σ H s) (hch:∀b∈ch,(b∈X.ex\/X.pE.heap.objs.size<=b)/\b≠X.env.locals/\(∀x c,X.env.cells.lookup x=some c->c≠b)/\∀p∈X.pn++pins,p.1≠b) (keep:∀b o,b≠X.env.locals->b∉X.fs->b∉ch->s.heap.get? b=some o->H b=none->h'.get? b=some o) (slot:∀b o,b≠X.env.locals->b∈X.fs->b∉ch->s.heap.get? b=some o->H b=none->∃sl,h'.get? b=some {o with slots:=sl}) (free:∀b o,b∉ch->s.heap.get? b=some o->H b=none->H' b=none) (there:∀b o,b∉ch->s.heap.get? b=some o->∃o',h'.get? b=some o') (tups:∀b xs,H b=some (.tup xs)->H' b=some (.tup xs)) (pW:∀b o u,H b=some (.gR o u)->H' b=some (.gR o u)) (qG:∀b ps,H b=some (.OB ps)->∃more,H' b=some (.OB (ps++more))) (ns:∀m,s.heap.Ns X.env.locals m->h'.Ns X.env.locals m) (bQ:k4 X.prog X.w H' h') (hg:AllBare g'):
 Inv X pins σ H' {s with heap:=h',gens:=g',drawn:=d',toks:=t'}:=by
 have Vq:∀b o,X.pE.heap.get? b=some o->b≠X.env.locals:=λb o e=>a9 (bq (aH e) I.ok.above);have SD:∀b o,X.pE.heap.get? b=some o->b∉X.ex->b∉ch:=λb o e hx hb=>by
  rcases (hch b hb).1 with z | z
  . exact hx z
  . exact absurd (bq (aH e) z) (cN _)
 have cellK:∀x c,X.env.cells.lookup x=some c->∀v,s.heap.IsCell c v->h'.IsCell c v:=λx c e v #[o,ho,hd]=>by
  have QJ:c∉ch:=λz=>(hch c z).2.2.1 x c e rfl;by_cases hc:c∈X.fs
  . obtain ⟨sl,q⟩:=slot c o (I.Nv x c e) hc QJ ho (I.gf x c e);exists _,q,hd
  . exists o,keep c o (I.Nv x c e) hc QJ ho (I.gf x c e),hd
 exists I.ok,I.os,hg,#[λb o e n hb hx=>?_,λb o e n hb hx=>?_,λb o e n hx=>?_,λb o e hx=>?_,λb xs e=>tups b xs (I.base.tups b xs e),λb o xs e=>pW b o xs (I.base.pW b o xs e),λb ps e=>?_],?_,λx c e=>?_,?_,λx c e=>?_,λp hp=>?_,bQ,I.len
 . exact keep b o (Vq b o e) hb (SD b o e hx) (I.base.keep b o e n hb hx) (I.base.free b o e n hx)
 . obtain ⟨sl,e1⟩:=I.base.slot b o e n hb hx;obtain ⟨sl',e2⟩:=slot b _ (Vq b o e) hb (SD b o e hx) e1 (I.base.free b o e n hx);exists sl',e2
 . obtain ⟨o',e1⟩:=I.base.there b o e hx;exact free b o' (SD b o e hx) e1 (I.base.free b o e n hx)
 . obtain ⟨o',e1⟩:=I.base.there b o e hx;exact there b o' (SD b o e hx) e1
 . obtain ⟨m1,e1⟩:=I.base.qG b ps e;obtain ⟨m2,e2⟩:=qG b _ e1;exists m1++m2,by rw [e2,Array.append_assoc]
 . obtain ⟨m,hn,hl⟩:=I.loc;exists m,ns m hn,λi x v e1 e2 e3=>?_;obtain ⟨u,r,l⟩:=hl i x v e1 e2 e3;exists u,r,?_;rcases l with l | ⟨k,c,e,z⟩
   . exact .inl l
   . exact .inr #[k,c,e,cellK x c e _ z]
 . obtain ⟨v,z⟩:=I.cell x c e;exists v,cellK x c e v z
 . obtain ⟨m,⟨o,_,_,ho,_⟩,_⟩:=I.loc;exact free _ o (λz=>(hch _ z).2.1 rfl) ho I.free
 . obtain ⟨v,o,ho,hd⟩:=I.cell x c e;exact free c o (λz=>(hch c z).2.2.1 x c e rfl) ho (I.gf x c e)
 . obtain ⟨e,n,ne,nf,d⟩:=I.pin p hp;have QJ:p.1∉ch:=λz=>(hch p.1 z).2.2.2 p hp rfl;exists keep p.1 p.2 ne nf QJ e n,free p.1 p.2 QJ e n,ne,nf,d
def Inv.un (I:Inv X pins σ H s) (u:Un X.fs [] H H' s.heap h') (bQ:k4 X.prog X.w H' h'):Inv X pins σ H' {s with heap:=h',toks:=t'}:=by
 obtain ⟨m,⟨o,es,ep,ho,r⟩,_⟩:=id I.loc;obtain ⟨sl,hL⟩:=u.any ho I.free (by simp);exact I.step (g':=s.gens) (d':=s.drawn) (ch:= []) (λ_ z=>nomatch z) (λb o _ hb _ e n=>u.keep b o e n hb (by simp)) (λb o _ hb _ e n=>u.slot b o e n hb (by simp)) (λb o _ e n=>u.free b o e n (by simp)) (λb o _ e=>u.there b o e (by simp)) u.tups u.pW u.qG (λm' hm=>by
  obtain ⟨o',es',ep',ho',r'⟩:=hm;rw [ho] at ho';cases ho';exists _,es',ep',hL,r') bQ I.bare
def Inv.call {g':Array GenState} {d':Drawn} (I:Inv X pins σ H s) (u:Un (frs X.stack) ch H H' s.heap h') (bQ:k4 X.prog X.w H' h') (hg:AllBare g') (hch:∀b∈ch,(b∈X.ex\/X.pE.heap.objs.size<=b)/\b≠X.env.locals/\(∀x c,X.env.cells.lookup x=some c->c≠b)/\∀p∈X.pn++pins,p.1≠b):
 Inv X pins σ H' {s with heap:=h',gens:=g',drawn:=d',toks:=t'}:=by
 obtain ⟨m,⟨o,es,ep,ho,r⟩,_⟩:=id I.loc;obtain ⟨sl,hL⟩:=u.any ho I.free λz=>(hch _ z).2.1 rfl;exact I.step (ch:=ch) hch (λb o hL hb hc e n=>u.keep b o e n (λz=>(aE.mp (I.AV b z)).elim hL hb) hc) (λb o _ _ hc e n=>u.any e n hc) (λb o hc e n=>u.free b o e n hc) (λb o hc e=>u.there b o e hc) u.tups u.pW u.qG (λm' hm=>by
  obtain ⟨o',es',ep',ho',r'⟩:=hm;rw [ho] at ho';cases ho';exists _,es',ep',hL,r') bQ hg
def Inv.turned {it:Addr} (I:Inv X pins σ H s) (k:∀b o,b≠it->s.heap.get? b=some o->h'.get? b=some o) (hn:H it=none) (hL:it≠X.env.locals) (h1:it∈X.ex\/X.pE.heap.objs.size<=it) (h2:∀x c,X.env.cells.lookup x=some c->c≠it) (h3:∀p∈X.pn++pins,p.1≠it):Inv X pins σ H {s with heap:=h',toks:=t'}:=by
 have Nw:∀b u,H b=some u->b≠it:=λb u e z=>by rw [z,hn] at e;cases e
 refine I.step (g':=s.gens) (d':=s.drawn) (ch:= [it]) (λb hb=>?_) (λb o _ _ hc e _=>k b o (λz=>hc (by simp [z])) e) (λb o _ _ hc e _=>#[o.slots,k b o (λz=>hc (by simp [z])) e]) (λ_ _ _ _ n=>n)
  (λb o hc e=>#[o,k b o (λz=>hc (by simp [z])) e]) (λ_ _ e=>e) (λ_ _ _ e=>e) (λb ps e=>#[#[],by rw [e];simp]) (λm hm=>?_) (λb u e=>?_) I.bare
 . have e:b=it:=by simpa using hb
   subst e;exists h1,hL,h2,h3
 . obtain ⟨o,es,ep,ho,r⟩:=hm;exists o,es,ep,k _ o (bY hL) ho,r
 . refine (I.bQ b u e).stay (λc v hc q=>k c v ?_ q) (λ_ q=>q) λ_ _ q=>q;rcases hc with z | z
   . rw [z];exact Nw b u e
   . exact Nw c _ z
def Inv.tok (I:Inv X pins σ H s) (t:Nat):Inv X pins σ H {s with toks:=t}:=I.un (h':=s.heap) (t':=t) Un.refl I.bQ
def Inv.kept (I:Inv X pins σ H s) (k:∀b u,s.heap.get? b=some u->h'.get? b=some u):Inv X pins σ H {s with heap:=h',toks:=t'}:=I.un (Un.kept k) (I.bQ.kept k)
def Inv.laid (I:Inv X pins σ H s) (k:∀b u,s.heap.get? b=some u->h'.get? b=some u) (hp:s.heap.objs.size<=a) (new:dc X.prog X.w (upd H a o) h' a o):
 Inv X pins σ (upd H a o) {s with heap:=h',toks:=t'}:=I.un (Un.laid k hp (I.bQ.fresh hp)) (I.bQ.laid k hp new)
def Inv.write {x e:Addr} (I:Inv X pins σ H s) (mu:OD (H x)) (he:e=x\/H e=some (.own x)) (k:∀b u,b≠e->s.heap.get? b=some u->h'.get? b=some u) (heo:∃u,h'.get? e=some u) (new:dc X.prog X.w (upd H x o) h' x o):Inv X pins σ (upd H x o) {s with heap:=h',toks:=t'}:=I.un (Un.write mu he k heo) (I.bQ.write mu he k heo new)
def Inv.weak {σ':List (Option V)} (I:Inv X pins σ H s) (hl:σ'.length=σ.length) (w:∀(i:Nat) v,σ'[i]? = some (some v)->σ[i]? = some (some v)):Inv X pins σ' H s:=
 #[I.ok,I.os,I.bare,I.base,let #[m,hn,hl']:=I.loc;#[m,hn,λi x v e1 e2 e3=>hl' i x v e1 (w i v e2) e3],I.cell,I.free,I.gf,I.pin,I.bQ,hl.trans I.len]
def Inv.lS {FM:List (Addr×Obj)} (I:Inv X pins σ H s) (h:∀p∈FM,s.heap.get? p.1=some p.2/\H p.1=none/\p.1≠X.env.locals/\p.1∉X.fs/\∀v,p.2.data≠ .cell v):Inv X FM σ H s:=
 #[I.ok,I.os,I.bare,I.base,I.loc,I.cell,I.free,I.gf,λp hp=>(ci.mp hp).elim (λz=>I.pin p (m6 _ z)) (h p),I.bQ,I.len]
def xz (hN:N.Nodup) (a:N[i]? = some x) (b:N[j]? = some x):i=j:=by
 obtain ⟨h1,e1⟩:=bj.mp a;obtain ⟨h2,e2⟩:=bj.mp b;exact (uz hN).mp (e1.trans e2.symm)
def uI {v:V} {Q:Unit->Shared->Prop} (I:Inv X pins σ H s) (hN:X.N.Nodup) (hi:X.N[i]? = some x) (hx:Loc X.env.scope x) (r:RelV v u) (h:∀s',Inv X pins (σ.set i (some v)) H s'->(∃a,Heap.SameBut a s.heap s'.heap/\(a=X.env.locals\/X.env.cells.lookup x=some a))->Q () s') (hf:X.fn x=true\/X.env.scope.names.lookup x=some .local:=by first | exact .inl rfl | exact .inr rfl | assumption):wpAny M A (storeName X.env x u) Q E s:=by
 obtain ⟨m,hn,hl⟩:=id I.loc;have hcls:(X.env.scope.kind == .class || (X.env.scope.kind == .module && X.env.locals != X.env.globals))=false:=by rw [I.ok.kind];rfl
 have Vr:i < σ.length:=by rw [I.len];exact (bj.mp hi).1
 have Nv:=I.Nv;have tracked:∀{a:Addr} {h':Heap},(∃o,s.heap.get? a=some o/\H a=none)->Heap.SameBut a s.heap h'->k4 X.prog X.w H h':=λ{a h'} ha hs b ob e=>by
  obtain ⟨_,_,hfree⟩:=ha;refine (I.bQ b ob e).stay (λc w' hc q=>(hs.2 c ?_).trans q) (λ_ q=>q) λ_ _ q=>q;rintro rfl;rcases hc with rfl | hc
  . rw [hfree] at e;cases e
  . rw [hfree] at hc;cases hc
 rcases hx with hk | hk
 . refine wpAny_storeName_local hk hn (λh' hn' hs=>?_) hcls;obtain ⟨oL,_,_,hoL,_⟩:=id hn;refine h _ #[I.ok,I.os,I.bare,#[λb o e n hb hx=>?_,λb o e n hb hx=>?_,I.base.free,λb o e hx=>?_,I.base.tups,I.base.pW,I.base.qG],#[_,hn',λj y v' e1 e2 e3=>?_],λy c e=>?_,I.free,I.gf,λp hp=>?_,tracked #[oL,hoL,I.free] hs,by simpa using I.len] #[_,hs,.inl rfl]
   . exact (hs.2 b (a9 (bq (aH e) I.ok.above))).trans (I.base.keep b o e n hb hx)
   . obtain ⟨sl,e1⟩:=I.base.slot b o e n hb hx;exists sl,(hs.2 b (a9 (bq (aH e) I.ok.above))).trans e1
   . obtain ⟨o',e1⟩:=I.base.there b o e hx;exists o',(hs.2 b (a9 (bq (aH e) I.ok.above))).trans e1
   . by_cases hj:j=i
     . subst hj;rw [hi] at e1;cases e1;rw [rO Vr] at e2;cases e2;exists u,r,.inl #[hk,by simp]
     . rw [uf (bY hj)] at e2;obtain ⟨u',r',q⟩:=hl j y v' e1 e2 e3;exists u',r',?_;rcases q with ⟨k,e⟩ | ⟨k,c,e,z⟩
       . refine .inl #[k,?_];have:y≠x:=λe=>hj (xz hN e1 (e ▸ hi));simp [this,e]
       . exact .inr #[k,c,e,z.sameBut hs (Nv y c e)]
   . obtain ⟨w',z⟩:=I.cell y c e;exists w',z.sameBut hs (Nv y c e)
   . obtain ⟨e,n,ne,nf,d⟩:=I.pin p hp;exists (hs.2 p.1 ne).trans e,n,ne,nf,d
 . have hfn:X.fn x=true:=by
    rcases hf with z | z
    . exact z
    . rw [z] at hk;cases hk
   obtain ⟨c,hc⟩:=I.ok.has x (.inl hk);obtain ⟨w',z⟩:=I.cell x c hc;refine wpAny_storeName_cell I.ok.kind hk hc z (λh' hc' hs=>?_);obtain ⟨oc,hoc,Ts⟩:=id z;refine h {s with heap:=h'} #[I.ok,I.os,I.bare,#[λb o e n hb hx=>?_,λb o e n hb hx=>?_,I.base.free,λb o e hx=>?_,I.base.tups,I.base.pW,I.base.qG],#[m,hn.sameBut hs (bY (Nv x c hc)),λj y v' e1 e2 e3=>?_],λy c' e=>?_,I.free,I.gf,λp hp=>?_,tracked #[oc,hoc,I.gf x c hc] hs,by simpa using I.len] #[c,hs,.inr hc]
   . exact (hs.2 b (a9 (bq (aH e) (I.ok.cab x c hfn hc)))).trans (I.base.keep b o e n hb hx)
   . obtain ⟨sl,e1⟩:=I.base.slot b o e n hb hx;exists sl,(hs.2 b (a9 (bq (aH e) (I.ok.cab x c hfn hc)))).trans e1
   . obtain ⟨o',e1⟩:=I.base.there b o e hx;exists o',(hs.2 b (a9 (bq (aH e) (I.ok.cab x c hfn hc)))).trans e1
   . by_cases hj:j=i
     . subst hj;rw [hi] at e1;cases e1;rw [rO Vr] at e2;cases e2;exists u,r,.inr #[.inl hk,c,hc,hc']
     . rw [uf (bY hj)] at e2;obtain ⟨u',r',q⟩:=hl j y v' e1 e2 e3;exists u',r',?_;rcases q with q | ⟨k,c',e,z'⟩
       . exact .inl q
       . refine .inr #[k,c',e,z'.sameBut hs ?_];rintro rfl;exact hj (xz hN e1 (I.ok.inj _ _ _ e hc ▸ hi))
   . by_cases hcc:c'=c
     . subst hcc;exists _,hc'
     . obtain ⟨w2,z2⟩:=I.cell y c' e;exists w2,z2.sameBut hs hcc
   . obtain ⟨e,n,ne,nf,d⟩:=I.pin p hp;exists (hs.2 p.1 ?_).trans e,n,ne,nf,d;intro q;rw [q,hoc] at e;have q':oc=p.2:=bF e;exact d w' (by rw [<-q'];exact Ts)
def nh {v:V} {Q:Unit->Shared->Prop} (I:Inv X pins σ H s) (hN:X.N.Nodup) (hi:X.N[i]? = some x) (hx:Loc X.env.scope x) (r:RelV v u) (h:∀s',Inv X pins (σ.set i (some v)) H s'->Q () s') (hf:X.fn x=true\/X.env.scope.names.lookup x=some .local:=by first | exact .inl rfl | exact .inr rfl | assumption):wpAny M A (storeName X.env x u) Q E s:=
 uI I hN hi hx r (λs' I' _=>h s' I') hf
def Inv.call' (I:Inv X pins σ H s) (ho:s'.os=s.os) (u:Un (frs X.stack) ch H H' s.heap s'.heap) (bQ:k4 X.prog X.w H' s'.heap) (hg:AllBare s'.gens) (hch:∀b∈ch,(b∈X.ex\/X.pE.heap.objs.size<=b)/\b≠X.env.locals/\(∀x c,X.env.cells.lookup x=some c->c≠b)/\∀p∈X.pn++pins,p.1≠b):Inv X pins σ H' s':=by
 obtain ⟨h',g',d',t',o'⟩:=s';have e:o'=s.os:=ho;subst e;exact I.call (g':=g') (t':=t') (d':=d') u bQ hg hch
end
abbrev XK:=Value->Option Addr->Hp->Prop
abbrev St:=List (Option V)
variable {σ:St}
abbrev VK:=V->Hp->Prop
abbrev TE:=St->Hp->VK->Prop
variable {ta tb te:TE}
abbrev TT:=St->Hp->(Bool->Hp->Prop)->Prop
variable {tt:TT}
abbrev TA:=St->Hp->(List V->Hp->Prop)->Prop
structure Ends where
 nx:St->Hp->Prop
 rt:VK
 bk:St->Hp->Prop:=λ_ _=>False
 ct:St->Hp->Prop:=λ_ _=>False
variable {D:Ends}
abbrev TS:=Ends->St->Hp->Prop
def EP (X:Cx) (pins:List (Addr×Obj)) (σ:St) (Q:VK) (u:Value) (s':Shared):= ∃v H',Inv X pins σ H' s'/\RelV v u/\Q v H'
def TP (X:Cx) (pins:List (Addr×Obj)) (σ:St) (Q:Bool->Hp->Prop) (b:Bool) (s':Shared):= ∃H',Inv X pins σ H' s'/\Q b H'
def AP (X:Cx) (pins:List (Addr×Obj)) (σ:St) (Q:List V->Hp->Prop) (us:List Value) (s':Shared):= ∃vs H',Inv X pins σ H' s'/\Vals vs us/\Q vs H'
def SP (X:Cx) (pins:List (Addr×Obj)) (D:Ends) (f:Flow) (s':Shared):Prop:=
 match f with
 | .next=> ∃σ' H',Inv X pins σ' H' s'/\D.nx σ' H'
 | .brk=> ∃σ' H',Inv X pins σ' H' s'/\D.bk σ' H'
 | .cont=> ∃σ' H',Inv X pins σ' H' s'/\D.ct σ' H'
 | .ret u=> ∃v σ' H',Inv X pins σ' H' s'/\RelV v u/\D.rt v H'
def PE (X:Cx) (e:Expr) (t:TE):Prop:=
 ∀(pins:List (Addr×Obj)) (s:Shared) (σ:St) (H:Hp) (Q:VK),Inv X pins σ H s->t σ H Q->wpAny (model X.prog X.w) X.A (eval e X.env) (EP X pins σ Q) X.xe s
def PT (X:Cx) (e:Expr) (t:TT):Prop:=
 ∀(pins:List (Addr×Obj)) (s:Shared) (σ:St) (H:Hp) (Q:Bool->Hp->Prop),Inv X pins σ H s->t σ H Q->wpAny (model X.prog X.w) X.A (isTrue e X.env (eval e X.env)) (TP X pins σ Q) X.xe s
def PW (X:Cx) (e:Expr) (t:TT):Prop:=
 ∀(whole:Sem Value) (pins:List (Addr×Obj)) (s:Shared) (σ:St) (H:Hp) (Q:Bool->Hp->Prop),Inv X pins σ H s->t σ H Q->wpAny (model X.prog X.w) X.A (isTrue e X.env whole) (TP X pins σ Q) X.xe s
def PW.pt {t:TT} (h:PW X e t):PT X e t:=h _
def PA (X:Cx) (es:List Expr) (t:TA):Prop:=
 ∀(pos:Pos) (pins:List (Addr×Obj)) (s:Shared) (σ:St) (H:Hp) (Q:List V->Hp->Prop),Inv X pins σ H s->t σ H Q->wpAny (model X.prog X.w) X.A (spliced (backTo pos (starEach es X.env))) (AP X pins σ Q) X.xe s
def PS (X:Cx) (st:Stmt) (t:TS):Prop:=
 ∀(pins:List (Addr×Obj)) (s:Shared) (σ:St) (H:Hp) (D:Ends),Inv X pins σ H s->t D σ H->wpAny (model X.prog X.w) X.A (exec st X.env) (SP X pins D) X.xe s
def rQ (X:Cx) (st:List Stmt) (t:TS):Prop:=
 ∀(pins:List (Addr×Obj)) (s:Shared) (σ:St) (H:Hp) (D:Ends),Inv X pins σ H s->t D σ H->wpAny (model X.prog X.w) X.A (execs st X.env) (SP X pins D) X.xe s
def dX {t:Sem α} {Q Q':α->Shared->Prop} (h:wpAny M A t Q E s) (hQ:∀a s,Q a s->Q' a s):wpAny M A t Q' E s:=bU h hQ λ_ _ x=>x
section
def bin {a b:Expr} (ha:PE X a ta) (hb:PE X b tb) {R:V->V->Hp->Prop} (I:Inv X pins σ H s) (h:ta σ H λx H1=>tb σ H1 λy H2=>R x y H2) {Q:α->Shared->Prop} {f:Value->Value->Sem α} (hf:∀v u s2 x y H2,Inv X pins σ H2 s2->RelV x v->RelV y u->R x y H2->wpAny (model X.prog X.w) X.A (f v u) Q X.xe s2):
 wpAny (model X.prog X.w) X.A (eval a X.env) (λv s₁=>wpAny (model X.prog X.w) X.A (eval b X.env) (λu s₂=>wpAny (model X.prog X.w) X.A (f v u) Q X.xe s₂) X.xe s₁) X.xe s:=by
 refine dX (ha pins s σ H _ I h) λv s1 #[x,H1,I1,r1,q1]=>?_;refine dX (hb pins s1 σ H1 _ I1 q1) λu s2 #[y,H2,I2,r2,q2]=>?_;exact hf v u s2 x y H2 I2 r1 r2 q2
def OG (i:Nat):TE:=λσ H Q=> ∃v,σ[i]? = some (some v)/\Q v H
def tC (v:V):TE:=λ_ H Q=>Q v H
def xA (hN:X.N[i]? = some x) (hv:Ik X.env.scope x) (hd:(x == ("__debug__" :Str))=false:=by decide) (hcd:(x == ("__classdict__" :Str))=false:=by decide):PE X (.Name x pos) (OG i):=by
 intro pins s σ H Q I h;obtain ⟨v,e,h⟩:=h;obtain ⟨m,hn,hl⟩:=I.loc;obtain ⟨u,r,l⟩:=hl i x v hN e hv;have fin:EP X pins σ Q u s:=#[v,H,I,r,h];rcases l with ⟨hk,hm⟩ | ⟨hk,c,hc,hcell⟩
 . exact wpAny_Name (wpAny_loadName_local I.ok.kind hk hn hm fin) hd
 . rcases hk with hk | hk
   . exact wpAny_Name (wpAny_loadName_cell I.ok.kind hk hc hcell fin) hd
   . exact wpAny_Name (wpAny_loadName_free I.ok.kind hk hc hcell fin hcd) hd
def uJ {i j pos}:PE X (.Constant (.int i) j pos) (tC (.int i)):=λ_ _ _ H _ I h=>wpAny_Constant_int #[.int i,H,I.tok _,#[_,rfl],h]
def Cm {b j pos}:PE X (.Constant (.bool b) j pos) (tC (.bl b)):=λ_ _ _ H _ I h=>Constant_bool #[.bl b,H,I,rfl,h]
def OH {j pos}:PE X (.Constant .none j pos) (tC .cp):=λ_ _ _ H _ I h=>Constant_none #[.cp,H,I,rfl,h]
def uK {x j pos}:PE X (.Constant (.str x) j pos) (tC (.str x)):=λ_ _ _ H _ I h=>Calls.Constant_str #[.str x,H,I.tok _,#[_,rfl],h]
def Gl (X:Cx) (x:Str):=X.env.kindOf x=some .globalImplicit
def jN (I:Inv X pins σ H s) (hg:Gl X x) (hm:X.mg x=some u) (h:Q u s) (hd:(x == ("__debug__" :Str))=false:=by decide):wpAny (model X.prog X.w) X.A (eval (.Name x pos) X.env) Q E s:=
 Calls.Name_function_global I.ok.kind hg (Calls.loadGlobal_global (by rw [I.ok.glob];exact I.mod.glob.keeps I.bk) hm h) hd
def xB (I:Inv X pins σ H s) (hg:Gl X x) (hm:X.mg x=none) (hv:bootBuiltins x=some u) (h:Q u s) (hn:x≠ "__name__" :=by decide) (hd:(x == ("__debug__" :Str))=false:=by decide):wpAny (model X.prog X.w) X.A (eval (.Name x pos) X.env) Q E s:=by
 obtain ⟨mb,h1,h2⟩:=I.mod.blt;exact Calls.Name_function_global I.ok.kind hg (Calls.loadGlobal_builtin (by rw [I.ok.glob];exact I.mod.glob.keeps I.bk) hm (by rw [I.ok.blt];exact h1.keeps I.bk) ((h2 x hn).trans hv) h) hd
def w8 {v:V} (hg:Gl X x) (hm:X.mg x=some u) (r:RelV v u) (hd:(x == ("__debug__" :Str))=false:=by decide):PE X (.Name x pos) (tC v):=
 λ_ _ _ H _ I h=>jN I hg hm #[v,H,I,r,h] hd
variable {a b:Expr}
variable {tA SE:TT} {rest:List Expr}
def Tt (t u:TT):TT:=λσ H Q=>t σ H λc H1=>if c=true then u σ H1 Q else Q false H1
def Wd (t u:TT):TT:=λσ H Q=>t σ H λc H1=>if c=true then Q true H1 else u σ H1 Q
def Tu (t:TT):TT:=λσ H Q=>t σ H λc H1=>Q (!c) H1
def pw_and1 (ha:PT X a tA):PW X (.BoolOp .And [a] pos) tA:=by
 intro wh pins s σ H Q I h;refine isTrue_and (dX (ha pins s σ H Q I h) λc s1 e=>?_);cases c with
 | true=>exact isTrue_and_nil e
 | false=>exact e
def pw_or1 (ha:PT X a tA):PW X (.BoolOp .Or [a] pos) tA:=by
 intro wh pins s σ H Q I h;refine isTrue_or (dX (ha pins s σ H Q I h) λc s1 e=>?_);cases c with
 | false=>exact isTrue_or_nil e
 | true=>exact e
def pw_and (ha:PT X a tA) (hb:PW X (.BoolOp .And (b :: rest) pos) SE):PW X (.BoolOp .And (a :: b :: rest) pos) (Tt tA SE):=by
 intro wh pins s σ H Q I h;refine isTrue_and (dX (ha pins s σ H _ I h) λc s1 #[H1,I1,q1]=>?_);cases c with
 | true=>exact hb wh pins s1 σ H1 Q I1 q1
 | false=>exists H1,I1,q1
def pw_or (ha:PT X a tA) (hb:PW X (.BoolOp .Or (b :: rest) pos) SE):PW X (.BoolOp .Or (a :: b :: rest) pos) (Wd tA SE):=by
 intro wh pins s σ H Q I h;refine isTrue_or (dX (ha pins s σ H _ I h) λc s1 #[H1,I1,q1]=>?_);cases c with
 | true=>exists H1,I1,q1
 | false=>exact hb wh pins s1 σ H1 Q I1 q1
def OI (ha:PT X a tA):PT X (.UnaryOp .Not a pos) (Tu tA):=by
 intro pins s σ H Q I h;exact isTrue_not (ha pins s σ H (λc H1=>Q (!c) H1) I h)
def QK (ta tb:TE):TE:=λσ H Q=>ta σ H λx H1=> ∃c,x= .bl c/\if c=true then tb σ H1 Q else Q (.bl false) H1
def Tv (ta tb:TE):TE:=λσ H Q=>ta σ H λx H1=> ∃c,x= .bl c/\if c=true then Q (.bl true) H1 else tb σ H1 Q
def uL {op} {t:TE} (h:PE X a t):PE X (.BoolOp op [a] pos) t:=λpins s σ H Q I hw=>BoolOp_one (h pins s σ H Q I hw)
def AW (ha:PE X a ta) (hb:PE X (.BoolOp .And (b :: rest) pos) tb):PE X (.BoolOp .And (a :: b :: rest) pos) (QK ta tb):=by
 intro pins s σ H Q I h;refine BoolOp_and (dX (ha pins s σ H _ I h) λv s1 #[x,H1,I1,r1,q1]=>?_);obtain ⟨c,rfl,q1⟩:=q1;cases r1;refine m_ ?_;cases c with
 | true=>exact hb pins s1 σ H1 Q I1 q1
 | false=>exists .bl false,H1,I1,U,q1
def FO (ha:PE X a ta) (hb:PE X (.BoolOp .Or (b :: rest) pos) tb):PE X (.BoolOp .Or (a :: b :: rest) pos) (Tv ta tb):=by
 intro pins s σ H Q I h;refine BoolOp_or (dX (ha pins s σ H _ I h) λv s1 #[x,H1,I1,r1,q1]=>?_);obtain ⟨c,rfl,q1⟩:=q1;cases r1;refine m_ ?_;cases c with
 | false=>exact hb pins s1 σ H1 Q I1 q1
 | true=>exists .bl true,H1,I1,U,q1
def We (t:TT) (ta tb:TE):TE:=λσ H Q=>t σ H λc H1=>if c=true then ta σ H1 Q else tb σ H1 Q
def IG (hc:PT X c tA) (ha:PE X a ta) (hb:PE X b tb):PE X (.IfExp c a b pos) (We tA ta tb):=by
 intro pins s σ H Q I h;refine wpAny_IfExp (dX (hc pins s σ H _ I h) λd s1 #[H1,I1,q1]=>?_);cases d with
 | true=>exact ha pins s1 σ H1 Q I1 q1
 | false=>exact hb pins s1 σ H1 Q I1 q1
end
def cz (K:Frag) (H:Hp) (a:Addr) (xs:List V):Prop:=
 Rd H a (.lst xs)\/
  ∃(o:Obj) (bV:Array Value) (n:Nat),K.lookup a=some o/\o.cls= .type "list" /\o.dict=none/\o.data= .seq bV n/\bV.size<=sizeLine/\Vals xs bV.toList
def gS (K:Frag) (H:Hp) (a:Addr) (xs:List V):Prop:=
 Rd H a (.tup xs)\/
  ∃(o:Obj) (bV:Array Value) (n:Nat),K.lookup a=some o/\o.cls= .type "tuple" /\o.data= .seq bV n/\bV.size<=sizeLine/\Vals xs bV.toList
def Tw:Value->Option V
 | .none=>some .cp
 | .bool b=>some (.bl b)
 | .int i _=>some (.int i)
 | .str x _=>some (.str x)
 | .bytes b _=>some (.Ce b)
 | .float b _=>some (.flt b)
 | .ref a=>some (.ref a)
 | .type n=>some (.ty n)
 | _=>none
def RelV.abs {x:V} (r:RelV x u):Tw u=some x:=by
 cases x with
 | cp=>cases r;rfl
 | bl _=>cases r;rfl
 | int _=>obtain ⟨t,rfl⟩:=r;rfl
 | str _=>obtain ⟨t,rfl⟩:=r;rfl
 | Ce _=>obtain ⟨t,rfl⟩:=r;rfl
 | flt _=>obtain ⟨t,rfl⟩:=r;rfl
 | ref _=>cases r;rfl
 | ty _=>cases r;rfl
def RelV.inj {x:V} (r:RelV x u) (q:RelV y u):x=y:=bF (r.abs.symm.trans q.abs)
def Vals.inj:∀{xs ys:List V} {us:List Value},Vals xs us->Vals ys us->xs=ys
 | _,_,_,.nil,.nil=>rfl
 | _,_,_,.cons r t,.cons r' t'=>by rw [r.inj r',Vals.inj t t']
section
def cz.of (h:H a=some (.lst xs)):cz K H a xs:= .inl (.inl h)
def gS.of (h:H a=some (.tup xs)):gS K H a xs:= .inl (.inl h)
def Inv.list (I:Inv X pins σ H s) (h:cz X.K H a xs):∃bV:List Value,Vals xs bV/\PlainL s.heap a bV.toArray/\xs.length<=sizeLine:=by
 rcases h with h | ⟨o,bV,n,hk,hc,hd,hs,hz,r⟩
 . obtain ⟨z,bV,n,r,e⟩:=h.ok I.bQ;exists bV,r,#[_,n,e,U,U,U],z
 . exists bV.toList,r,#[o,n,I.k6 a o hk,hc,hd,by simpa using hs],?_;have e:=r.length;simp only [kF] at e;omega
def Inv.tuple (I:Inv X pins σ H s) (h:gS X.K H a xs):∃bV:List Value,Vals xs bV/\IsTup s.heap a bV.toArray/\xs.length<=sizeLine:=by
 rcases h with h | ⟨o,bV,n,hk,hc,hs,hz,r⟩
 . obtain ⟨z,bV,r,p⟩:=h.ok I.bQ;exists bV,r,p,z
 . exists bV.toList,r,#[o,I.k6 a o hk,hc,n,by simpa using hs],?_;have e:=r.length;simp only [kF] at e;omega
def Inv.rR (I:Inv X pins σ H s) (h:cz X.K H a xs) (h':cz X.K H a ys):xs=ys:=by
 obtain ⟨bV,r,⟨o,n,e,_,_,d⟩,_⟩:=I.list h;obtain ⟨its',r',⟨o',n',e',_,_,d'⟩,_⟩:=I.list h';rw [e] at e';cases e';rw [d] at d';injection d' with d1 _;have:bV=its':=by simpa using bA Array.toList d1
 subst this;exact r.inj r'
end
abbrev Cx.wish (X:Cx) (E:Value->Shared->Prop):Cx:={X with xe:=E}
abbrev Cx.FP (X:Cx):Cx:=X.wish λ_ _=>False
def Cx.Ok.wish (ok:X.Ok) (E:Value->Shared->Prop):(X.wish E).Ok:=
 #[ok.mod,ok.kind,ok.glob,ok.blt,ok.above,ok.inj,ok.has,ok.cab,ok.hd,ok.frames,ok.Ac,ok.Il,ok.bs,ok.D5,ok.zt,ok.uH,ok.funs,ok.G5]
def Cx.Ok.iG (ok:(X.wish E).Ok):X.Ok:=
 #[ok.mod,ok.kind,ok.glob,ok.blt,ok.above,ok.inj,ok.has,ok.cab,ok.hd,ok.frames,ok.Ac,ok.Il,ok.bs,ok.D5,ok.zt,ok.uH,ok.funs,ok.G5]
section
def Inv.wish (I:Inv X pins σ H s) (E:Value->Shared->Prop):Inv (X.wish E) pins σ H s:=#[I.ok.wish E,I.os,I.bare,I.base,I.loc,I.cell,I.free,I.gf,I.pin,I.bQ,I.len]
def Inv.iG (I:Inv (X.wish E) pins σ H s):Inv X pins σ H s:=#[I.ok.iG,I.os,I.bare,I.base,I.loc,I.cell,I.free,I.gf,I.pin,I.bQ,I.len]
def SP.iG {f:Flow} (h:SP (X.wish E) pins D f s'):SP X pins D f s':=by
 cases f with
 | next=>obtain ⟨σ',H',I,q⟩:=h;exists σ',H',I.iG,q
 | brk=>obtain ⟨σ',H',I,q⟩:=h;exists σ',H',I.iG,q
 | cont=>obtain ⟨σ',H',I,q⟩:=h;exists σ',H',I.iG,q
 | ret u=>obtain ⟨v,σ',H',I,r,q⟩:=h;exists v,σ',H',I.iG,r,q
def PE.FP {t:TE} (h:PE X.FP e t):PE X e t:=λpins s σ H Q I hw=>
 bU (h pins s σ H Q (I.wish _) hw) (λ_ _ #[v,H',I',r,q]=>#[v,H',I'.iG,r,q]) λ_ _ z=>False.elim z
def PT.FP {t:TT} (h:PT X.FP e t):PT X e t:=λpins s σ H Q I hw=>
 bU (h pins s σ H Q (I.wish _) hw) (λ_ _ #[H',I',q]=>#[H',I'.iG,q]) λ_ _ z=>False.elim z
def rQ.FP {st:List Stmt} {t:TS} (h:rQ X.FP st t):rQ X st t:=λpins s σ H D I hw=>
 bU (h pins s σ H D (I.wish _) hw) (λ_ _ q=>q.iG) λ_ _ z=>False.elim z
end
section
variable {rest:List Stmt} {t u:TS}
def Ny:TS:=λD σ H=>D.nx σ H
def Tx (t u:TS):TS:=λD σ H=>t {D with nx:=u D} σ H
def FQ:rQ X [] Ny:=λ_ _ σ H _ I h=>hZ #[σ,H,I,h]
def rS (h1:PS X st t) (h2:rQ X rest u):rQ X (st :: rest) (Tx t u):=by
 intro pins s σ H D I h;refine kG (dX (h1 pins s σ H {D with nx:=u D} I h) λf s1 q=>?_);cases f with
 | next=>
  obtain ⟨σ',H',I',q⟩:=q;exact h2 pins s1 σ' H' D I' q
 | ret v=>exact q
 | brk=>exact q
 | cont=>exact q
def w9 (h1:PS X st t):rQ X [st] t:=by
 intro pins s σ H D I h;refine kG (dX (h1 pins s σ H D I h) λf s1 q=>?_);cases f with
 | next=>exact hZ q
 | ret v=>exact q
 | brk=>exact q
 | cont=>exact q
def Inv.quiet (I:Inv X pins σ H s):interactive X.env=false:=by simp [interactive,I.ok.kind]
def QL (te:TE):TS:=λD σ H=>te σ H λ_ H1=>D.nx σ H1
def LQ (he:PE X e te) (hs:swapsWith e none pos.line X.env=pure false:=by rfl):PS X (.Expr e pos) (QL te):=by
 intro pins s σ H D I h;exact wpAny_Expr_any (dX (he pins s σ H _ I h) λv s1 #[x,H1,I1,r1,q1]=>#[σ,H1,I1,q1]) I.quiet hs
def QM (te:TE):TS:=λD σ H=>te σ H D.rt
def qH (he:PE X e te):PS X (.Return (some e) pos) (QM te):=by
 intro pins s σ H D I h;exact wpAny_Return_some (dX (he pins s σ H _ I h) λv s1 #[x,H1,I1,r1,q1]=>#[x,σ,H1,I1,r1,q1])
def QN (c:TT) (t u:TS):TS:=λD σ H=>c σ H λb H1=>if b=true then t D σ H1 else u D σ H1
def Nz {a b:List Stmt} {tc:TT} (hc:PT X c tc) (ha:rQ X a t) (hb:rQ X b u):PS X (.If c a b pos) (QN tc t u):=by
 intro pins s σ H D I h;refine wpAny_If (dX (hc pins s σ H _ I h) λd s1 #[H1,I1,q1]=>?_);cases d with
 | true=>exact ha pins s1 σ H1 D I1 q1
 | false=>exact hb pins s1 σ H1 D I1 q1
end
abbrev TG:=V->St->Hp->(St->Hp->Prop)->Prop
variable {g:TG}
abbrev NA:=List V->St->Hp->(St->Hp->Prop)->Prop
def PG (X:Cx) (target:Expr) (t:TG):Prop:=
 ∀(pins:List (Addr×Obj)) (s:Shared) (σ:St) (H:Hp) (v:V) (u:Value) (Q:St->Hp->Prop),Inv X pins σ H s->RelV v u->t v σ H Q->
  wpAny (model X.prog X.w) X.A (assign target X.env u) (λ_ s'=> ∃σ' H',Inv X pins σ' H' s'/\Q σ' H') X.xe s
def QO (X:Cx) (ts:List Expr) (t:NA):Prop:=
 ∀(pins:List (Addr×Obj)) (s:Shared) (σ:St) (H:Hp) (vs:List V) (us:List Value) (Q:St->Hp->Prop),Inv X pins σ H s->Vals vs us->t vs σ H Q->
  wpAny (model X.prog X.w) X.A (assignInOrder ((assignEach ts X.env).map (·.2)) us) (λ_ s'=> ∃σ' H',Inv X pins σ' H' s'/\Q σ' H') X.xe s
abbrev QP:=V->V->Hp->VK->Prop
def Tz (X:Cx) (op:Operator) (t:QP):Prop:=
 ∀(pins:List (Addr×Obj)) (s:Shared) (σ:St) (H:Hp) (x y:V) (v u:Value) (Q:VK),Inv X pins σ H s->RelV x v->RelV y u->t x y H Q->
  wpAny (model X.prog X.w) X.A (inplaceOp op v u) (EP X pins σ Q) X.xe s
section
def xC (i:Nat):TG:=λv σ H Q=>Q (σ.set i (some v)) H
def bL (i:Nat) (hN:X.N.Nodup:=by assumption) (hi:X.N[i]? = some x:=by rfl) (hx:Loc X.env.scope x:=by first | exact .inl rfl | exact .inr rfl) (hf:X.fn x=true\/X.env.scope.names.lookup x=some .local:=by first | exact .inl rfl | exact .inr rfl | assumption):PG X (.Name x pos) (xC i):=by
 intro pins s σ H v u Q I r h;exact um (nh I hN hi hx r (λs' I'=>#[_,H,I',h]) hf)
def TB:NA:=λvs σ H Q=>vs= []/\Q σ H
def QQ (t:TG) (u:NA):NA:=λvs σ H Q=> ∃v r,vs=v :: r/\t v σ H λσ' H'=>u r σ' H' Q
def rT:QO X [] TB:=by
 intro pins s σ H vs us Q I r h;obtain ⟨e,h⟩:=h;subst e;cases r;exact assignInOrder_nil #[σ,H,I,h]
def fP {t:TG} {u:NA} (h1:PG X e t) (h2:QO X es u) (hs:(assignEach (e :: es) X.env).map (·.2)=assign e X.env :: (assignEach es X.env).map (·.2):=by rfl):QO X (e :: es) (QQ t u):=by
 intro pins s σ H vs us Q I r h;obtain ⟨v,vr,e1,h⟩:=h;subst e1;cases r with
 | cons r rr=>
  rw [hs];refine assignInOrder_cons (dX (h1 pins s σ H _ _ _ I r h) λ_ s1 #[σ1,H1,I1,q1]=>?_);exact h2 pins s1 σ1 H1 _ _ Q I1 rr q1
def QR (K:Frag) (n:Nat) (t:NA):TG:=λv σ H Q=> ∃a xs,v= .ref a/\gS K H a xs/\xs.length=n/\t xs σ H Q
def AX {k:Nat} {t:NA} (hc:X.calm=true) (h:QO X es t) (hn:(assignEach es X.env).length=n:=by rfl) (fU:(assignEach es X.env).findIdx? (·.1)=none:=by rfl):PG X (.Tuple es k pos) (QR X.K n t):=by
 intro pins s σ H v u Q I r hw;obtain ⟨a,xs,e1,hq,hl,hw⟩:=hw;subst e1;cases r;obtain ⟨bV,rv,ht,hz⟩:=I.tuple hq;refine assign_Tuple_tuple (I.ok.hd hc) ht (by simp [hn,<-hl,rv.length]) fU λh' hx=>?_;have I1:Inv X pins σ H {s with heap:=h'}:=I.kept (t':=s.toks) λb o e=>hx b o (a9 (aH e)) e;exact h pins _ σ H xs _ Q I1 (by simpa using rv) hw
def OJ (te:TE) (g:TG):TS:=λD σ H=>te σ H λx H1=>g x σ H1 D.nx
def AY (i:Nat) (he:PE X e te) (hN:X.N.Nodup:=by assumption) (hi:X.N[i]? = some x:=by rfl) (hx:Loc X.env.scope x:=by first | exact .inl rfl | exact .inr rfl) (hs:swapsWith e (some (.Name x pos')) pos.line X.env=pure false:=by rfl) (hf:X.fn x=true\/X.env.scope.names.lookup x=some .local:=by first | exact .inl rfl | exact .inr rfl | assumption):
 PS X (.Assign [.Name x pos'] e pos) (OJ te (xC i)):=by
 intro pins s σ H D I h;refine wpAny_Assign_Name (dX (he pins s σ H _ I h) λv s1 #[y,H1,I1,r1,q1]=>?_) hs;exact nh I1 hN hi hx r1 (λs2 I2=>#[_,H1,I2,q1]) hf
def TC (i:Nat) (te:TE) (ti:QP):TS:=λD σ H=> ∃x,σ[i]? = some (some x)/\te σ H λy H1=>ti x y H1 λz H2=>D.nx (σ.set i (some z)) H2
def AZ {op:Operator} {ti:QP} (i:Nat) (he:PE X e te) (ho:Tz X op ti) (hN:X.N.Nodup:=by assumption) (hi:X.N[i]? = some x:=by rfl) (hx:Loc X.env.scope x:=by first | exact .inl rfl | exact .inr rfl) (hf:X.fn x=true\/X.env.scope.names.lookup x=some .local:=by first | exact .inl rfl | exact .inr rfl | assumption):
 PS X (.AugAssign (.Name x pos') op e pos) (TC i te ti):=by
 intro pins s σ H D I h;obtain ⟨v,e1,h⟩:=h;obtain ⟨m,hn,hl⟩:=I.loc;have Qi:Ik X.env.scope x:=by rcases hx with k | k;exact .inl k;exact .inr (.inl k)
 obtain ⟨u,r,l⟩:=hl i x v hi e1 Qi;refine wpAny_AugAssign_Name ?_;have go:wpAny (model X.prog X.w) X.A (eval e X.env) (λw s₂=>wpAny (model X.prog X.w) X.A (inplaceOp op u w) (λr s₃=>wpAny (model X.prog X.w) X.A (storeName X.env x r) (λ_=>SP X pins D .next) X.xe s₃) X.xe s₂) X.xe s:=by
  refine dX (he pins s σ H _ I h) λw s1 #[y,H1,I1,r1,q1]=>?_;refine dX (ho pins s1 σ H1 v y u w _ I1 r r1 q1) λz s2 #[zv,H2,I2,r2,q2]=>?_;exact nh I2 hN hi hx r2 (λs3 I3=>#[_,H2,I3,q2]) hf
 rcases l with ⟨hk,hm⟩ | ⟨hk,c,hc,hcell⟩
 . exact wpAny_loadName_local I.ok.kind hk hn hm go
 . rcases hk with hk | hk
   . exact wpAny_loadName_cell I.ok.kind hk hc hcell go
   . rcases hx with k | k
     . have:X.env.scope.names.lookup x=some .free:=hk;rw [k] at this;cases this
     . have:X.env.scope.names.lookup x=some .free:=hk;rw [k] at this;cases this
def Wf (f:Int->Int->Int):QP:=λx y H Q=> ∃i j,x= .int i/\y= .int j/\Q (.int (f i j)) H
def qI:Tz X .Add (Wf λi j=>i+j):=by
 intro pins s σ H x y v u Q I r1 r2 h;obtain ⟨i,j,e1,e2,q⟩:=h;subst e1;subst e2;obtain ⟨t,rfl⟩:=r1;obtain ⟨t',rfl⟩:=r2;exact iadd_int #[.int _,H,I.tok _,#[_,rfl],q]
end
section
def OL (c:TT) (tb:TS):TS:=λD σ H=> ∃W:Nat->St->Hp->Prop,(∃m,W m σ H)/\∀m σ H,W m σ H->
 c σ H λb H1=>if b=true then∃N:St->Hp->Prop,(∀σ' H',N σ' H'->∃m',m' < m/\W m' σ' H')/\tb {D with nx:=N,ct:=N,bk:=D.nx} σ H1 else D.nx σ H1
def IH {tc:TT} {tb:TS} (hc:PT X c tc) (hb:rQ X body tb) (hp:PassesOwn (model X.prog X.w) X.A X.env X.xe:=by first | exact PassesOwn.never | exact QS gn):PS X (.While c body [] pos) (OL tc tb):=by
 intro pins s σ H D I h;obtain ⟨W,⟨m0,w0⟩,turn⟩:=h;refine wpAny_While (codeAny_whileLoop (λn s'=> ∃σ' H',Inv X pins σ' H' s'/\W n σ' H') ?_ m0 #[σ,H,I,w0]);rintro n s1 ⟨σ1,H1,I1,w1⟩;refine jf hp (dX (hc pins s1 σ1 H1 _ I1 (turn n σ1 H1 w1)) λb s2 #[H2,I2,q2]=>?_);cases b with
 | true=>
  obtain ⟨N,hN,q2⟩:=q2;rw [ah rfl];refine jf hp (dX (hb pins s2 σ1 H2 _ I2 q2) λf s3 q3=>?_);cases f with
  | next=>
   obtain ⟨σ3,H3,I3,n3⟩:=q3;obtain ⟨m',hm,w3⟩:=hN σ3 H3 n3;exists m',hm,σ3,H3,I3,w3
  | cont=>
   obtain ⟨σ3,H3,I3,n3⟩:=q3;obtain ⟨m',hm,w3⟩:=hN σ3 H3 n3;exists m',hm,σ3,H3,I3,w3
  | brk=>exact q3
  | ret v=>exact q3
 | false=>
  rw [ae aO];exact hZ #[σ1,H2,I2,q2]
end
structure It where
 go:Nat->Hp->Prop
 D6:Nat->Hp->V->Hp->Prop
 stop:Nat->Hp->Prop
variable {J:It}
def k7 (X:Cx) (pins:List (Addr×Obj)) (H:Hp) (b:Addr):Prop:=
 H b=none/\b≠X.env.locals/\b∉X.fs/\(b∈X.ex\/X.pE.heap.objs.size<=b)/\(∀x c,X.env.cells.lookup x=some c->c≠b)/\∀p∈X.pn++pins,p.1≠b
def Inv.xD (I:Inv X pins σ H s) (hb:s.heap.objs.size<=b) (hn:H' b=none):k7 X pins H' b:=by
 exists hn,fO (bq I.lt hb),I.Tr hb,.inr (aP I.sz hb),λx c e z=>?_,λp hp z=>?_
 . obtain ⟨v,q⟩:=I.cell x c e;exact absurd (bq q.lt (by rw [z];exact hb)) (cN _)
 . exact absurd (bq (aH (I.pin p hp).1) (by rw [z];exact hb)) (cN _)
structure Turn (P:Program) (w:World) (K:Frag) (tg:Expr) (J:It) (fp:List Addr) (it:Addr) (tn:Nat->Heap->Prop):Prop where
 mem:it∈fp
 obj:∀i h,tn i h->∀b∈fp,∃o,h.get? b=some o/\∀v,o.data≠ .cell v
 keep:∀i h h',tn i h->(∀b∈fp,∀o,h.get? b=some o->h'.get? b=some o)->tn i h'
 item:∀(X:Cx),X.prog=P->X.w=w->X.K=K->X.calm=true->∀(i:Nat) (pins:List (Addr×Obj)) (s:Shared) (σ:St) (H:Hp) (E:Value->Shared->Prop),Inv X pins σ H s->(∀b∈fp,k7 X pins H b)->tn i s.heap->J.go i H->
  wpAny (model P w) X.A (pyNext (.ref it)) (λr s1=> ∃u,r=some u/\
   wpAny (model P w) X.A (letOwnedTupleGo tg (.ref it) u) (λ_ s2=> ∃x H',Inv X pins σ H' s2/\RelV x u/\J.D6 i H x H'/\tn (i+1) s2.heap/\∀b∈fp,H' b=none) E s1) E s
 done:∀(X:Cx),X.prog=P->X.w=w->X.K=K->X.calm=true->∀(i:Nat) (pins:List (Addr×Obj)) (s:Shared) (σ:St) (H:Hp) (E:Value->Shared->Prop),Inv X pins σ H s->(∀b∈fp,k7 X pins H b)->tn i s.heap->J.stop i H->
  wpAny (model P w) X.A (pyNext (.ref it)) (λr s1=>r=none/\Inv X pins σ H s1) E s
 self:∀(A:Around) (i:Nat) (s:Shared) (Q:Value->Shared->Prop) (E:Value->Shared->Prop),tn i s.heap->Q (.ref it) s->wpAny (model P w) A (pyIter (.ref it)) Q E s
abbrev TI:=St->Hp->(It->Hp->Prop)->Prop
def PIE (X:Cx) (pins:List (Addr×Obj)) (σ:St) (tg:Expr) (R:It->Hp->Prop) (itv:Value) (s2:Shared):Prop:=
 ∃(it:Addr) (fp:List Addr) (tn:Nat->Heap->Prop) (J:It) (H':Hp),itv= .ref it/\Inv X pins σ H' s2/\Turn X.prog X.w X.K tg J fp it tn/\tn 0 s2.heap/\(∀b∈fp,k7 X pins H' b)/\R J H'
def PI (X:Cx) (tg iter:Expr) (wi:TI):Prop:=
 ∀(pins:List (Addr×Obj)) (s:Shared) (σ:St) (H:Hp) (R:It->Hp->Prop),Inv X pins σ H s->wi σ H R->
  wpAny (model X.prog X.w) X.A (eval iter X.env) (λv s1=>wpAny (model X.prog X.w) X.A (pyIter v) (PIE X pins σ tg R) X.xe s1) X.xe s
def II {it:Addr} {o:Obj} {n:String} {Q:Unit->Shared->Prop} (ho:s.heap.get? it=some o) (hc:o.cls= .type n) (hd:o.data= .fields vs) (hn: ["enumerate","zip","dict_itemiterator","dict_reverseitemiterator","odict_iterator","itertools.zip_longest","itertools.pairwise"].contains n=false) (hQ:Q () s):wpAny M A (letOwnedTupleGo tg (.ref it) u) Q E s:=by
 unfold letOwnedTupleGo;cases tg <;> first
  | exact bo hQ
  | (cases u <;> first
   | exact bo hQ
   | (refine az (wpAny_load ho ?_);rw [hc,hd];show wpAny M A (if (["enumerate","zip","dict_itemiterator","dict_reverseitemiterator","odict_iterator","itertools.zip_longest","itertools.pairwise"].contains n && vs[0]? == some (rawInt _))=true then _ else _) Q E s;rw [ae (by intro h;rw [hn,Bool.false_and] at h;cases h)];exact bo hQ))
def Cp (K:Frag) (a:Addr):It:=
 #[λi H=> ∃xs x,cz K H a xs/\xs[i]? = some x,λi H x H'=>H'=H/\∀xs,cz K H a xs->xs[i]? = some x,λi H=> ∃xs,cz K H a xs/\xs.length<=i]
def TD (lo:Int) (n:Nat):It:=#[λi _=>i < n,λi H x H'=>H'=H/\x= .int (lo+i),λi _=>n<=i]
def G6 (a it:Addr):Turn P w K tg (Cp K a) [it] it (λi h=>h.IsListIter it a i) where
 mem:=by simp
 obj:=λi h st b hb=>by
  have e:b=it:=by simpa using hb
  subst e;obtain ⟨o,e,c,d⟩:=st;exists o,e,λv z=>by rw [d] at z;cases z
 keep:=λi h h' st k=>st.at λo e=>k it (by simp) o e
 item:=by
  intro X hP hw hK hc i pins s σ H E I hf st hg;subst hP hw hK;obtain ⟨xs,x,hq,hx⟩:=hg;obtain ⟨bV,rv,p,hz⟩:=I.list hq;obtain ⟨u,hu,ru⟩:=rv.get hx;obtain ⟨f0,f1,f2,f3,f4,f5⟩:=hf it (by simp);refine wpAny_pyNext_list_item st p.isList (x:=u) (by simpa using hu) λh' st' sb=>?_;have I1:Inv X pins σ H {s with heap:=h'}:=I.turned (t':=s.toks) (λb o hb e=>(sb.2 b hb).trans e) f0 f1 f3 f4 f5;obtain ⟨o,e,c,d⟩:=id st';exists u,U,II (s:={s with heap:=h'}) e c d (by decide) #[x,H,I1,ru,#[U,λys hy=>by rw [I.rR hy hq];exact hx],st',λb hb=>(hf b hb).1]
 done:=by
  intro X hP hw hK hc i pins s σ H E I hf st hg;subst hP hw hK;obtain ⟨xs,hq,hx⟩:=hg;obtain ⟨bV,rv,p,hz⟩:=I.list hq;obtain ⟨f0,f1,f2,f3,f4,f5⟩:=hf it (by simp);have hl:=rv.length;exact wpAny_pyNext_list_end (I.ok.hd hc) st p.isList (by simp;omega) λh' eb=>#[rfl,I.turned (t':=s.toks) (λb o hb e=>eb b o hb e) f0 f1 f3 f4 f5]
 self:=λ_ _ _ _ _ st h=>wpAny_pyIter_listiter st h
def Ee (it:Addr) (lo:Int) (n:Nat):Turn P w K tg (TD lo n) [it] it (λi h=>IsRangeIter h it (lo+(i:Nat) * 1) ((n:Int) - (i:Nat)) 1) where
 mem:=by simp
 obj:=λi h st b hb=>by
  have e:b=it:=by simpa using hb
  subst e;exists _,st,λv z=>by
   have z':Data.fields _=Data.cell v:=z;cases z'
 keep:=λi h h' st k=>k it (by simp) _ st
 item:=by
  intro X hP hw hK hc i pins s σ H E I hf st hg;subst hP hw hK;obtain ⟨f0,f1,f2,f3,f4,f5⟩:=hf it (by simp);have W:=Walks.range (prog:=X.prog) (w:=X.w) (I.ok.hd hc) it lo 1 n;refine W.item i s _ _ hg st λv h' tk hv st' kk=>?_;obtain ⟨t,rfl⟩:=hv;have I1:Inv X pins σ H {s with heap:=h',toks:=tk}:=I.turned (λb o hb e=>kk b o (by simpa using hb) e) f0 f1 f3 f4 f5;exists _,U,II (s:={s with heap:=h',toks:=tk}) (n:= "range_iterator") st' U U (by decide) #[.int (lo+i),H,I1,#[t,?_],#[U,U],st',λb hb=>(hf b hb).1];rw [Int.mul_one]
 done:=by
  intro X hP hw hK hc i pins s σ H E I hf st hg;subst hP hw hK;obtain ⟨f0,f1,f2,f3,f4,f5⟩:=hf it (by simp);exact wpAny_pyNext_range_end (I.ok.hd hc) st (by have:n<=i:=hg;omega) λh' eb=>#[rfl,I.turned (t':=s.toks) (λb o hb e=>eb b o hb e) f0 f1 f3 f4 f5]
 self:=λ_ _ _ _ _ st h=>wpAny_pyIter_rangeiter st h
section
def QT (K:Frag) (tl:TE):TI:=λσ H R=>tl σ H λx H1=> ∃a,x= .ref a/\(∃xs,cz K H1 a xs)/\R (Cp K a) H1
def bE {l:Expr} {tl:TE} (hl:PE X l tl):PI X tg l (QT X.K tl):=by
 intro pins s σ H R I h;refine dX (hl pins s σ H _ I h) λv s1 #[x,H1,I1,r1,q1]=>?_;obtain ⟨a,e,⟨xs,hq⟩,q⟩:=q1;subst e;cases r1;obtain ⟨bV,rv,p,hz⟩:=I1.list hq;refine uo p.isList ?_;exists s1.heap.objs.size,[s1.heap.objs.size],_,_,H1,U,I1.kept (t':=s1.toks) λb o e=>bC _ e,G6 a _,#[_,cD _ U,U,U],λb hb=>?_,q;have e:b=s1.heap.objs.size:=by simpa using hb
 subst e;exact I1.xD (aw _) (I1.bQ.fresh (aw _))
def IJ {R:It->Hp->Prop} {lo hi:Int} {t u v:Tok} {tk:Nat} (I:Inv X pins σ H s) (h1: -(2 ^ 62)<=lo) (h2:lo < 2 ^ 62) (h3: -(2 ^ 62)<=hi) (h4:hi < 2 ^ 62) (q:R (TD lo (hi - lo).toNat) H):wpAny (model X.prog X.w) X.A (pyIter (.ref s.heap.objs.size)) (PIE X pins σ tg R) E {s with heap:=s.heap.push {cls:= .type "range",data:= .fields (List.toArray [.int lo t,.int hi u,.int 1 v])},toks:=tk}:=by
 refine wpAny_pyIter_range (IsRange.new ..) (small_one h1 h2 h3 h4) ?_;have I1:Inv X pins σ H {s with heap:=s.heap.push {cls:= .type "range",data:= .fields (List.toArray [.int lo t,.int hi u,.int 1 v])},toks:=tk}:=I.kept λb o e=>bC _ e;exists (s.heap.push {cls:= .type "range",data:= .fields (List.toArray [.int lo t,.int hi u,.int 1 v])}).objs.size,[(s.heap.push {cls:= .type "range",data:= .fields (List.toArray [.int lo t,.int hi u,.int 1 v])}).objs.size],_,_,H,U,
  I1.kept (t':=tk) λb o e=>bC _ e,Ee _ lo (hi - lo).toNat,?_,λb hb=>?_,q
 . have e1:lo+((0:Nat):Int) * 1=lo:=by simp
   have e2:(((hi - lo).toNat:Nat):Int) - ((0:Nat):Int)=Builtin.Range.rangeSize lo hi 1:=by rw [rangeSize_one];split <;> omega
   show IsRangeIter _ _ (lo+((0:Nat):Int) * 1) ((((hi - lo).toNat:Nat):Int) - ((0:Nat):Int)) 1;rw [e1,e2];exact cD _ rfl
 . have e:b=(s.heap.push {cls:= .type "range",data:= .fields (List.toArray [.int lo t,.int hi u,.int 1 v])}).objs.size:=by simpa using hb
   subst e;exact I1.xD (aw _) (I1.bQ.fresh (aw _))
def QU (ta:TA):TI:=λσ H R=>ta σ H λvs H1=> ∃j:Int,vs= [.int j]/\ -(2 ^ 62)<=j/\j < 2 ^ 62/\R (TD 0 j.toNat) H1
def G7 {a:Expr} {ta:TA} (ha:PA X [a] ta) (hg:Gl X "range" :=by exact rfl) (hm:X.mg "range" = none:=by walk_at "m") (hs:starEach [a] X.env= [(false,eval a X.env)]:=by rfl):PI X tg (.Call (.Name "range" p) [a] [] pos) (QU ta):=by
 intro pins s σ H R I h;refine Call_ (xB I hg hm boot_range (callWith_type1 (dX (ha pos pins s σ H _ I h) λus s1 #[vs,H1,I1,r1,q1]=>?_) hs rfl));obtain ⟨j,e,q1,q2,q⟩:=q1;subst e;cases r1 with
 | cons r rr=>
  cases rr;obtain ⟨t,rfl⟩:=r;exact call_range_1 (IJ I1 (by omega) (by omega) q1 q2 (by simpa using q))
def TF (wi:TI) (g:TG) (tb:TS):TS:=λD σ H=>wi σ H λJ H1=> ∃W:Nat->Nat->St->Hp->Prop,(∃m,W 0 m σ H1)/\∀i m σ H,W i m σ H->
 (J.stop i H/\D.nx σ H)\/(J.go i H/\∃N:St->Hp->Prop,(∀σ' H',N σ' H'->∃m',m' < m/\W (i+1) m' σ' H')/\∀x H',J.D6 i H x H'->g x σ H' λσ2 H2=>tb {D with nx:=N,ct:=N,bk:=D.nx} σ2 H2)
def uM (fp:List Addr) (h:Heap):List (Addr×Obj):=fp.filterMap λb=>(h.get? b).map λo=>(b,o)
def lT {o:Obj} (hb:b∈fp) (e:h.get? b=some o):(b,o)∈uM fp h:=List.mem_filterMap.mpr #[b,hb,by rw [e];rfl]
def G8 {p:Addr×Obj} (hp:p∈uM fp h):p.1∈fp/\h.get? p.1=some p.2:=by
 obtain ⟨b,hb,e⟩:=List.mem_filterMap.mp hp;cases q:h.get? b with
 | none=>rw [q] at e;cases e
 | some o=>
  rw [q] at e;have e':(b,o)=p:=bF e;subst e';exists hb,q
def Inv.pinned (I:Inv X pins σ H s) (hf:∀b∈fp,k7 X pins H b) (ho:∀b∈fp,∃o,s.heap.get? b=some o/\∀v,o.data≠ .cell v):Inv X (pins++uM fp s.heap) σ H s:=
 I.lS λp hp=>(ci.mp hp).elim (λz=>I.pin p (dQ _ z)) λz=>by
  obtain ⟨hb,e⟩:=G8 z;obtain ⟨f0,f1,f2,_⟩:=hf p.1 hb;obtain ⟨o,e',d⟩:=ho p.1 hb;rw [e] at e';cases e';exists e,f0,f1,f2,d
def Inv.jj {pl:List (Addr×Obj)} (I:Inv X (pins++pl) σ H s):Inv X pins σ H s:=I.lS λp hp=>I.pin p (dQ _ (m6 _ hp))
def OM {wi:TI} {tb:TS} (hi:PI X tg iter wi) (hg:PG X tg g) (hb:rQ X body tb) (hp:PassesOwn (model X.prog X.w) X.A X.env X.xe:=by first | exact PassesOwn.never | exact QS gn) (hc:X.calm=true:=by exact rfl) (hs:∀x,foldedSetIterable iter X.env x=pure x:=by intro _;rfl):PS X (.For tg iter body [] pos) (TF wi g tb):=by
 intro pins s σ H D I h;refine wpAny_For (dX (hi pins s σ H _ I h) λv s1 h1=>dX h1 λitv s2 h2=>?_) hs;obtain ⟨it,fp,tn,J,H2,e,I2,T,st2,f2,W,⟨m0,w0⟩,turn⟩:=h2;subst e;have stat:∀{H':Hp},(∀b∈fp,H' b=none)->∀b∈fp,k7 X pins H' b:=λhn b hb=>#[hn b hb,(f2 b hb).2];refine codeAny_forLoop_any (λn s'=> ∃i σ' H',Inv X pins σ' H' s'/\tn i s'.heap/\(∀b∈fp,H' b=none)/\W i n σ' H') ?_ m0 #[0,σ,H2,I2,st2,λb hb=>(f2 b hb).1,w0];rintro n s3 ⟨i,σ3,H3,I3,st3,Vs,w3⟩;rcases turn i n σ3 H3 w3 with ⟨stop,qn⟩ | ⟨go,N,hN,step⟩
 . refine jf hp (dX (T.done X rfl rfl rfl hc i pins s3 σ3 H3 X.xe I3 (stat Vs) st3 stop) λr s4 #[hr,I4]=>?_);subst hr;exact hZ #[σ3,H3,I4,qn]
 . refine jf hp (dX (T.item X rfl rfl rfl hc i pins s3 σ3 H3 X.xe I3 (stat Vs) st3 go) λr s4 #[u,hr,h4]=>?_);subst hr;refine jf hp (dX h4 λ_ s5 #[x,H5,I5,r5,y5,st5,Wg]=>?_);have Wh:=I5.pinned (stat Wg) (T.obj _ _ st5);refine jf hp (dX (hg _ s5 σ3 H5 x u _ Wh r5 (step x H5 y5)) λ_ s6 #[σ6,H6,I6,q6]=>?_);refine jf hp (dX (hb _ s6 σ6 H6 _ I6 q6) λf s7 q7=>?_);have again:∀{σ7:St} {H7:Hp},Inv X (pins++uM fp s5.heap) σ7 H7 s7->N σ7 H7->∃m,m < n/\∃i σ' H',Inv X pins σ' H' s7/\tn i s7.heap/\(∀b∈fp,H' b=none)/\W i m σ' H':=λ{σ7 H7} I7 n7=>by
    obtain ⟨m',hm,w7⟩:=hN σ7 H7 n7;exists m',hm,i+1,σ7,H7,I7.jj,T.keep _ _ _ st5 λb hb o e=>(I7.pin (b,o) (dQ _ (dQ _ (lT hb e)))).1,λb hb=>?_,w7;obtain ⟨o,e,d⟩:=T.obj _ _ st5 b hb;exact (I7.pin (b,o) (dQ _ (dQ _ (lT hb e)))).2.1
   cases f with
   | next=>obtain ⟨σ7,H7,I7,n7⟩:=q7;exact again I7 n7
   | cont=>obtain ⟨σ7,H7,I7,n7⟩:=q7;exact again I7 n7
   | brk=>obtain ⟨σ7,H7,I7,q7⟩:=q7;exists σ7,H7,I7.jj,q7
   | ret v=>obtain ⟨x7,σ7,H7,I7,r7,q7⟩:=q7;exists x7,σ7,H7,I7.jj,r7,q7
end
def cE {tb:TS} (Pv:Nat->St->Hp->Prop) (h0:Pv 0 σ H) (hl:∀i σ H,i<=xs.length->Pv i σ H->cz K H a xs) (hs:∀i x σ H,xs[i]? = some x->Pv i σ H->g x σ H λσ2 H2=>tb {D with nx:=Pv (i+1),ct:=Pv (i+1),bk:=D.nx} σ2 H2) (hd:∀σ H,Pv xs.length σ H->D.nx σ H):
 ∃W:Nat->Nat->St->Hp->Prop,(∃m,W 0 m σ H)/\∀i m σ H,W i m σ H->
  ((Cp K a).stop i H/\D.nx σ H)\/((Cp K a).go i H/\∃N:St->Hp->Prop,(∀σ' H',N σ' H'->∃m',m' < m/\W (i+1) m' σ' H')/\∀x H',(Cp K a).D6 i H x H'->g x σ H' λσ2 H2=>tb {D with nx:=N,ct:=N,bk:=D.nx} σ2 H2):=by
 exists λi m σ H=>m=xs.length - i/\i<=xs.length/\Pv i σ H,#[xs.length,by simp,aD _,h0],?_;rintro i m σ H ⟨rfl,hi,p⟩;have q:=hl i σ H hi p;by_cases gZ:i < xs.length
 . refine .inr #[#[xs,xs[i],q,by simp [gZ]],Pv (i+1),λσ' H' p'=>#[xs.length - (i+1),by omega,rfl,gZ,p'],λx H' y=>?_];obtain ⟨e,y⟩:=y;subst e;exact hs i x σ _ (y xs q) p
 . have e:i=xs.length:=by omega
   subst e;exact .inl #[#[xs,q,aw _],hd σ H p]
abbrev R2:=V->V->Hp->VK->Prop
variable {r:R2}
def qh (X:Cx) (f:Value->Value->Sem Value) (r:R2):Prop:=
 ∀(pins:List (Addr×Obj)) (s:Shared) (σ:St) (H:Hp) (x y:V) (v u:Value) (Q:VK),Inv X pins σ H s->RelV x v->RelV y u->r x y H Q->
  wpAny (model X.prog X.w) X.A (f v u) (EP X pins σ Q) X.xe s
def TH (X:Cx) (f:Value->Sem Value) (r:V->Hp->VK->Prop):Prop:=
 ∀(pins:List (Addr×Obj)) (s:Shared) (σ:St) (H:Hp) (x:V) (v:Value) (Q:VK),Inv X pins σ H s->RelV x v->r x H Q->
  wpAny (model X.prog X.w) X.A (f v) (EP X pins σ Q) X.xe s
def gh (X:Cx) (f:Value) (r:List V->Hp->VK->Prop):Prop:=
 ∀(pins:List (Addr×Obj)) (s:Shared) (σ:St) (H:Hp) (xs:List V) (us:List Value) (Q:VK),Inv X pins σ H s->Vals xs us->r xs H Q->
  wpAny (model X.prog X.w) X.A (call f us) (EP X pins σ Q) X.xe s
def TJ (X:Cx) (r:V->Hp->(Bool->Hp->Prop)->Prop):Prop:=
 ∀(pins:List (Addr×Obj)) (s:Shared) (σ:St) (H:Hp) (x:V) (v:Value) (Q:Bool->Hp->Prop),Inv X pins σ H s->RelV x v->r x H Q->
  wpAny (model X.prog X.w) X.A (truthy v) (TP X pins σ Q) X.xe s
def SG (r:R2) (ta tb:TE):TE:=λσ H Q=>ta σ H λx H1=>tb σ H1 λy H2=>r x y H2 Q
def Wi (r:V->Hp->VK->Prop) (ta:TE):TE:=λσ H Q=>ta σ H λx H1=>r x H1 Q
def rI (C:Int->Int->Prop) (g:Int->Int->V):R2:=λx y H Q=> ∃i j,x= .int i/\y= .int j/\C i j/\Q (g i j) H
def NB (g:Int->Int->V):R2:=λx y H Q=> ∃i j,x= .int i/\y= .int j/\Q (g i j) H
def rU (g:Int->V):V->Hp->VK->Prop:=λx H Q=> ∃i,x= .int i/\Q (g i) H
section
variable {a b:Expr} {tc:TE}
def OO (ha:PE X a ta) (hb:PE X b tb) {R:V->V->Hp->Prop} (I:Inv X pins σ H s) (h:ta σ H λx H1=>tb σ H1 λy H2=>R x y H2) {f:Value->Value->Sem Value} (hf:∀v u s2 x y H2,Inv X pins σ H2 s2->RelV x v->RelV y u->R x y H2->wpAny (model X.prog X.w) X.A (f v u) Q X.xe s2):
 wpAny (model X.prog X.w) X.A (eval a X.env) (λv s₁=>wpAny (model X.prog X.w) X.A (eval b X.env) (λu s₂=>wpAny (model X.prog X.w) X.A (f v u) Q X.xe s₂) X.xe s₁) X.xe s:=by
 refine dX (ha pins s σ H _ I h) λv s1 #[x,H1,I1,r1,q1]=>?_;refine dX (hb pins s1 σ H1 _ I1 q1) λu s2 #[y,H2,I2,r2,q2]=>?_;exact hf v u s2 x y H2 I2 r1 r2 q2
def xE {op:Operator} (ho:qh X (binaryOp op) r) (ha:PE X a ta) (hb:PE X b tb):PE X (.BinOp a op b pos) (SG r ta tb):=by
 intro pins s σ H Q I h;exact wpAny_BinOp (OO ha hb I h λv u s2 x y H2 I2 rx ry q=>ho pins s2 σ H2 x y v u Q I2 rx ry q)
def FR {op:UnaryOp} {r:V->Hp->VK->Prop} (ho:TH X (unaryOp op) r) (ha:PE X a ta):PE X (.UnaryOp op a pos) (Wi r ta):=by
 intro pins s σ H Q I h;exact UnaryOp_ (dX (ha pins s σ H _ I h) λv s1 #[x,H1,I1,r1,q1]=>ho pins s1 σ H1 x v Q I1 r1 q1)
def TK {f:Value->Value->Sem Value} {C:Int->Int->Prop} {g:Int->Int->Int} (rule:∀(i j:Int) (t u:Tok) (s:Shared) (Q:Value->Shared->Prop) (E:Value->Shared->Prop),C i j->Q (.int (g i j) s.toks) {s with toks:=s.toks+1}->wpAny (model X.prog X.w) X.A (f (.int i t) (.int j u)) Q E s):
 qh X f (rI C λi j=> .int (g i j)):=by
 intro pins s σ H x y v u Q I rx ry h;obtain ⟨i,j,rfl,rfl,hc,q⟩:=h;obtain ⟨t,rfl⟩:=rx;obtain ⟨t',rfl⟩:=ry;exact rule i j t t' s _ _ hc #[.int (g i j),H,I.tok _,#[_,rfl],q]
def QV {f:Value->Value->Sem Value} {g:Int->Int->Int} (rule:∀(i j:Int) (t u:Tok) (s:Shared) (Q:Value->Shared->Prop) (E:Value->Shared->Prop),Q (.int (g i j) s.toks) {s with toks:=s.toks+1}->wpAny (model X.prog X.w) X.A (f (.int i t) (.int j u)) Q E s):
 qh X f (NB λi j=> .int (g i j)):=by
 intro pins s σ H x y v u Q I rx ry h;obtain ⟨i,j,rfl,rfl,q⟩:=h;obtain ⟨t,rfl⟩:=rx;obtain ⟨t',rfl⟩:=ry;exact rule i j t t' s _ _ #[.int (g i j),H,I.tok _,#[_,rfl],q]
def LR {f:Value->Value->Sem Value} {g:Int->Int->Bool} (rule:∀(i j:Int) (t u:Tok) (s:Shared) (Q:Value->Shared->Prop) (E:Value->Shared->Prop),Q (.bool (g i j)) s->wpAny (model X.prog X.w) X.A (f (.int i t) (.int j u)) Q E s):
 qh X f (NB λi j=> .bl (g i j)):=by
 intro pins s σ H x y v u Q I rx ry h;obtain ⟨i,j,rfl,rfl,q⟩:=h;obtain ⟨t,rfl⟩:=rx;obtain ⟨t',rfl⟩:=ry;exact rule i j t t' s _ _ #[.bl (g i j),H,I,rfl,q]
def TN (i j:Int):Prop:=0 < j/\j < 1073741824
def LU (i j:Int):=(-(2 ^ 64) < i/\i < 2 ^ 64)\/(-(2 ^ 64) < j/\j < 2 ^ 64)
def LU.ok {i j:Int} (h:LU i j):IntMulOk i j:=by
 rcases h with ⟨h1,h2⟩ | ⟨h1,h2⟩
 . exact .of_left (intBits_le_64 h1 h2)
 . exact .of_right (intBits_le_64 h1 h2)
def dY:qh X (binaryOp .Add) (NB λi j=> .int (i+j)):=QV λ_ _ _ _ _ _ _ q=>add_int q
def jm:qh X (binaryOp .Sub) (NB λi j=> .int (i - j)):=QV λ_ _ _ _ _ _ _ q=>sub_int q
def xF:qh X (binaryOp .Mult) (rI LU λi j=> .int (i * j)):=TK λ_ _ _ _ _ _ _ hc q=>mul_int q hc.ok
def FU:qh X (binaryOp .FloorDiv) (rI TN λi j=> .int (i / j)):=TK λi j _ _ _ _ _ hc q=>by
 have h1:(0:Int) < j:=hc.1;have h2:j < 1073741824:=hc.2;exact floordiv_int (by omega) (by rw [Int.fdiv_eq_ediv_of_nonneg i (by omega)];exact q) (.inl (PyProof.noPylong_small (by omega)))
def OQ:qh X (binaryOp .Mod) (rI (λ_ j=>0 < j) λi j=> .int (i % j)):=TK λi j _ _ _ _ _ hc q=>by
 have h1:(0:Int) < j:=hc;exact mod_int' (by omega) (by rw [Int.fmod_eq_emod_of_nonneg i (by omega)];exact q)
def Wj {f:Value->Sem Value} {g:Int->Int} (rule:∀(i:Int) (t:Tok) (s:Shared) (Q:Value->Shared->Prop) (E:Value->Shared->Prop),Q (.int (g i) s.toks) {s with toks:=s.toks+1}->wpAny (model X.prog X.w) X.A (f (.int i t)) Q E s):
 TH X f (rU λi=> .int (g i)):=by
 intro pins s σ H x v Q I rx h;obtain ⟨i,rfl,q⟩:=h;obtain ⟨t,rfl⟩:=rx;exact rule i t s _ _ #[.int (g i),H,I.tok _,#[_,rfl],q]
def A0:TH X (unaryOp .USub) (rU λi=> .int (-i)):=Wj λ_ _ _ _ _ q=>neg_int q
end
def QW:V->V->Bool
 | .cp,.cp=>true | .cp,.int _=>true | .int _,.cp=>true | .cp,.bl _=>true | .bl _,.cp=>true | .cp,.str _=>true | .str _,.cp=>true
 | .int _,.int _=>true | .bl _,.bl _=>true | .str _,.str _=>true | .Ce _,.Ce _=>true
 | .int _,.str _=>true | .str _,.int _=>true | .bl _,.str _=>true | .str _,.bl _=>true
 | _,_=>false
def Wk:R2:=λx y H Q=>QW x y=true/\Q (.bl (decide (x=y))) H
def Wl:R2:=λx y H Q=>QW x y=true/\Q (.bl (!decide (x=y))) H
def FV {i j:Int}:decide (V.int i=V.int j)=(i == j):=by
 rw [b9];simp
def IK {i j:Bool}:decide (V.bl i=V.bl j)=(i == j):=by
 rw [b9];simp
def FW {i j:Str}:decide (V.str i=V.str j)=(i == j):=by
 rw [b9];simp
def FX {i j:Array UInt8}:decide (V.Ce i=V.Ce j)=(i.toList == j.toList):=by
 rw [b9];cases i;cases j;simp
section
variable {a b:Expr} {tc:TE}
def cx {Q:VK} {k k':Bool} (I:Inv X pins σ H s) (q:Q (.bl k) H) (e:k=k'):EP X pins σ Q (.bool k') s:=by
 subst e;exists .bl k,H,I,U,q
def bK:qh X (compareOp .Eq) Wk:=by
 intro pins s σ H x y v u Q I rx ry h;obtain ⟨hs,q⟩:=h;cases x with
 | cp=>
  cases rx;cases y with
  | cp=>cases ry;exact EqNone.eq_none_none (cx I q (by simp))
  | bl j=>cases ry;exact EqNone.eq_none_bool (cx I q (by simp))
  | int j=>obtain ⟨t',rfl⟩:=ry;exact EqNone.eq_none_int (cx I q (by simp))
  | str j=>obtain ⟨t',rfl⟩:=ry;exact EqNone.eq_none_str (cx I q (by simp))
  | _=>exact absurd (show false=true from hs) aO
 | bl i=>
  cases rx;cases y with
  | cp=>cases ry;exact EqNone.eq_bool_none (cx I q (by simp))
  | bl j=>cases ry;exact eq_bool (cx I q IK)
  | str j=>obtain ⟨t',rfl⟩:=ry;exact EqMixed.eq_bool_str (cx I q (by simp))
  | _=>exact absurd (show false=true from hs) aO
 | int i=>
  obtain ⟨t,rfl⟩:=rx;cases y with
  | cp=>cases ry;exact EqNone.eq_int_none (cx I q (by simp))
  | int j=>obtain ⟨t',rfl⟩:=ry;exact eq_int (cx I q FV)
  | str j=>obtain ⟨t',rfl⟩:=ry;exact EqMixed.eq_int_str (cx I q (by simp))
  | _=>exact absurd (show false=true from hs) aO
 | str i=>
  obtain ⟨t,rfl⟩:=rx;cases y with
  | cp=>cases ry;exact EqNone.eq_str_none (cx I q (by simp))
  | bl j=>cases ry;exact EqMixed.eq_str_bool (cx I q (by simp))
  | int j=>obtain ⟨t',rfl⟩:=ry;exact EqMixed.eq_str_int (cx I q (by simp))
  | str j=>obtain ⟨t',rfl⟩:=ry;exact eq_str (cx I q FW)
  | _=>exact absurd (show false=true from hs) aO
 | Ce i=>
  obtain ⟨t,rfl⟩:=rx;cases y with
  | Ce j=>obtain ⟨t',rfl⟩:=ry;exact PySem.W.eq_bytes (cx I q FX)
  | _=>exact absurd (show false=true from hs) aO
 | _=>cases y <;> exact absurd (show false=true from hs) aO
def Ad:qh X (compareOp .NotEq) Wl:=by
 intro pins s σ H x y v u Q I rx ry h;obtain ⟨hs,q⟩:=h;cases x with
 | cp=>
  cases rx;cases y with
  | cp=>cases ry;exact EqNone.ne_none_none (cx I q (by simp))
  | bl j=>cases ry;exact EqNone.ne_none_bool (cx I q (by simp))
  | int j=>obtain ⟨t',rfl⟩:=ry;exact EqNone.ne_none_int (cx I q (by simp))
  | str j=>obtain ⟨t',rfl⟩:=ry;exact EqNone.ne_none_str (cx I q (by simp))
  | _=>exact absurd (show false=true from hs) aO
 | bl i=>
  cases rx;cases y with
  | cp=>cases ry;exact EqNone.ne_bool_none (cx I q (by simp))
  | bl j=>cases ry;exact ne_bool (cx I q (bA not IK))
  | str j=>obtain ⟨t',rfl⟩:=ry;exact EqMixed.ne_bool_str (cx I q (by simp))
  | _=>exact absurd (show false=true from hs) aO
 | int i=>
  obtain ⟨t,rfl⟩:=rx;cases y with
  | cp=>cases ry;exact EqNone.ne_int_none (cx I q (by simp))
  | int j=>obtain ⟨t',rfl⟩:=ry;exact ne_int (cx I q (bA not FV))
  | str j=>obtain ⟨t',rfl⟩:=ry;exact EqMixed.ne_int_str (cx I q (by simp))
  | _=>exact absurd (show false=true from hs) aO
 | str i=>
  obtain ⟨t,rfl⟩:=rx;cases y with
  | cp=>cases ry;exact EqNone.ne_str_none (cx I q (by simp))
  | bl j=>cases ry;exact EqMixed.ne_str_bool (cx I q (by simp))
  | int j=>obtain ⟨t',rfl⟩:=ry;exact EqMixed.ne_str_int (cx I q (by simp))
  | str j=>obtain ⟨t',rfl⟩:=ry;exact ne_str (cx I q (bA not FW))
  | _=>exact absurd (show false=true from hs) aO
 | Ce i=>
  obtain ⟨t,rfl⟩:=rx;cases y with
  | Ce j=>obtain ⟨t',rfl⟩:=ry;exact PySem.W.ne_bytes (cx I q (bA not FX))
  | _=>exact absurd (show false=true from hs) aO
 | _=>cases y <;> exact absurd (show false=true from hs) aO
def eS:qh X (compareOp .Lt) (NB λi j=> .bl (decide (i < j))):=LR λ_ _ _ _ _ _ _ q=>lt_int q
def FY:qh X (compareOp .LtE) (NB λi j=> .bl (decide (i<=j))):=LR λ_ _ _ _ _ _ _ q=>le_int q
def ic:qh X (compareOp .Gt) (NB λi j=> .bl (decide (j < i))):=LR λ_ _ _ _ _ _ _ q=>gt_int q
def IL:qh X (compareOp .GtE) (NB λi j=> .bl (decide (j<=i))):=LR λ_ _ _ _ _ _ _ q=>ge_int q
def IM:qh X (compareOp .Is) (λx y H Q=>y= .cp/\Q (.bl (decide (x= .cp))) H):=by
 intro pins s σ H x y v u Q I rx ry h;obtain ⟨rfl,q⟩:=h;cases ry;refine is_none_gen (cx I q ?_);cases x <;> first
  | (cases rx;rfl)
  | (obtain ⟨t,rfl⟩:=rx;rfl)
def LV:qh X (compareOp .IsNot) (λx y H Q=>y= .cp/\Q (.bl (!decide (x= .cp))) H):=by
 intro pins s σ H x y v u Q I rx ry h;obtain ⟨rfl,q⟩:=h;cases ry;refine isnot_none_gen (cx I q ?_);cases x <;> first
  | (cases rx;rfl)
  | (obtain ⟨t,rfl⟩:=rx;rfl)
def qh.or {f:Value->Value->Sem Value} {r':R2} (h:qh X f r) (h':qh X f r'):qh X f (λx y H Q=>r x y H Q\/r' x y H Q):=by
 intro pins s σ H x y v u Q I rx ry q;rcases q with q | q
 . exact h pins s σ H x y v u Q I rx ry q
 . exact h' pins s σ H x y v u Q I rx ry q
def IP (b:Expr) {op:CmpOp} (h:op≠ .In:=by decide) (h2:op≠ .NotIn:=by decide):behindInMarks op b=false:=by
 have e1:(op == CmpOp.In)=false:=by cases op <;> first | rfl | exact absurd rfl h
 have e2:(op == CmpOp.NotIn)=false:=by cases op <;> first | rfl | exact absurd rfl h2
 cases b <;> simp [behindInMarks,e1,e2]
def FZ {op:CmpOp} (ho:qh X (compareOp op) r) (ha:PE X a ta) (hb:PE X b tb) (hm:behindInMarks op b=false:=by first | exact IP _ | with_unfolding_all rfl):PE X (.Compare a [op] [b] pos) (SG r ta tb):=by
 intro pins s σ H Q I h;exact wpAny_Compare1 (OO ha hb I h λv u s2 x y H2 I2 rx ry q=>ho pins s2 σ H2 x y v u Q I2 rx ry q) hm
def NC (t:TE):TT:=λσ H Q=>t σ H λx H'=> ∃k,x= .bl k/\Q k H'
def gr {op:CmpOp} (ho:qh X (compareOp op) r) (ha:PE X a ta) (hb:PE X b tb) (hm:behindInMarks op b=false:=by first | exact IP _ | with_unfolding_all rfl):PT X (.Compare a [op] [b] pos) (NC (SG r ta tb)):=by
 intro pins s σ H Q I h;refine wpAny_isTrue_Compare1 (dX (ha pins s σ H _ I h) λv s1 #[x,H1,I1,r1,q1]=>dX (hb pins s1 σ H1 _ I1 q1) λu s2 #[y,H2,I2,r2,q2]=>
  dX (ho pins s2 σ H2 x y v u _ I2 r1 r2 q2) λc s3 #[z,H3,I3,r3,k,e,q3]=>?_) hm
 subst e;cases r3;exact m_ #[H3,I3,q3]
def OS (K:Frag) (x:V) (H:Hp) (k:Bool):Prop:=
 match x with
 | .cp=>k=false
 | .bl b=>k=b
 | .int i=>k=(i != 0)
 | .str y=>y.length<=sizeLine/\k=((y.length:Int) != 0)
 | .Ce y=>y.size<=sizeLine/\k=((y.size:Int) != 0)
 | .ref p=>(∃xs,cz K H p xs/\k=!xs.isEmpty)\/(∃xs,gS K H p xs/\k=!xs.isEmpty)\/∃aG,H p=some (.dK aG)/\k=!aG.isEmpty
 | _=>False
def Ef {κ:Type} {aG:List (κ×V)} {vs:List (κ×Value)} (r:KV aG vs):(!vs.isEmpty)=!aG.isEmpty:=by
 cases r <;> rfl
def xG (r:Vals xs bV):(!bV.toArray.isEmpty)=!xs.isEmpty:=by
 cases r <;> simp
def uN:(sizeLine:Nat) < 2 ^ 63:=by rw [kY];decide
def OT:TJ X (λx H Q=> ∃k,OS X.K x H k/\Q k H):=by
 intro pins s σ H x v Q I rx h;obtain ⟨k,e,q⟩:=h;have hl:=uN;have hs:sizeLine=16777216:=kY;cases x with
 | cp=>
  cases rx;have e':k=false:=e;subst e';exact truthy_none #[H,I,q]
 | bl b=>
  cases rx;have e':k=b:=e;subst e';exact m_ #[H,I,q]
 | int i=>
  obtain ⟨t,rfl⟩:=rx;have e':k=(i != 0):=e;subst e';exact PySem.P.truthy_int #[H,I,q]
 | str y=>
  obtain ⟨t,rfl⟩:=rx;obtain ⟨hy,e'⟩:y.length<=sizeLine/\k=((y.length:Int) != 0):=e;subst e';exact PySem.P.truthy_str (by omega) #[H,I.tok _,q]
 | Ce y=>
  obtain ⟨t,rfl⟩:=rx;obtain ⟨hy,e'⟩:y.size<=sizeLine/\k=((y.size:Int) != 0):=e;subst e';exact PySem.W.truthy_bytes (by omega) #[H,I.tok _,q]
 | ref p=>
  cases rx;have e':(∃xs,cz X.K H p xs/\k=!xs.isEmpty)\/(∃xs,gS X.K H p xs/\k=!xs.isEmpty)\/∃aG,H p=some (.dK aG)/\k=!aG.isEmpty:=e;rcases e' with ⟨xs,hx,e'⟩ | ⟨xs,hx,e'⟩ | ⟨aG,hx,e'⟩
  . subst e';obtain ⟨bV,r,pl,hz⟩:=I.list hx;have hlen:=r.length;exact wpAny_truthy_list pl.isList (by simp only [cg];omega) #[H,I.tok _,by rw [xG r];exact q]
  . subst e';obtain ⟨bV,r,pl,hz⟩:=I.tuple hx;have hlen:=r.length;exact truthy_tuple pl (by simp only [cg];omega) #[H,I.tok _,by rw [xG r];exact q]
  . subst e';obtain ⟨hz,hS,vs,r,m⟩:aG.length<=sizeLine/\(p == sysModules)=false/\∃vs,KV aG vs/\s.heap.DictOf (cC X.prog X.w) p vs:=I.bQ p _ hx;have hlen:aG.length=vs.length:=pq r;exact wpAny_truthy_dict hS m (by omega) #[H,I.tok _,by rw [Ef r];exact q]
 | _=>exact (show False from e).elim
def IQ (ha:PE X a ta) (he:∀whole,isTrue a X.env whole=(do let v<-whole;standAt a.pos;holding [v] (truthy v))):
 PT X a (λσ H Q=>ta σ H λx H'=> ∃k,OS X.K x H' k/\Q k H'):=by
 intro pins s σ H Q I h;exact isTrue_plain (dX (ha pins s σ H _ I h) λv s1 #[x,H1,I1,r1,q1]=>OT pins s1 σ H1 x v Q I1 r1 q1) (he _)
def aY:qh X (binaryOp .Add) (λx y H Q=> ∃i j,x= .str i/\y= .str j/\i.length+j.length<=sizeLine/\Q (.str (i++j)) H):=by
 intro pins s σ H x y v u Q I rx ry h;obtain ⟨i,j,rfl,rfl,hz,q⟩:=h;obtain ⟨t,rfl⟩:=rx;obtain ⟨t',rfl⟩:=ry;exact add_str (λt' tk=>#[.str (i++j),H,I.tok _,#[_,rfl],q]) hz
def Cq:qh X (inplaceOp .Add) (λx y H Q=> ∃i j,x= .str i/\y= .str j/\i.length+j.length<=sizeLine/\Q (.str (i++j)) H):=by
 intro pins s σ H x y v u Q I rx ry h;obtain ⟨i,j,rfl,rfl,hz,q⟩:=h;obtain ⟨t,rfl⟩:=rx;obtain ⟨t',rfl⟩:=ry;exact iadd_str (λt' tk=>#[.str (i++j),H,I.tok _,#[_,rfl],q]) hz
def vals1 {x:V} (r:Vals [x] us):∃u,us= [u]/\RelV x u:=by
 cases r with
 | cons r1 r2=>cases r2;exists _,U,r1
def vals2 {x:V} (r:Vals [x,y] us):∃u w',us= [u,w']/\RelV x u/\RelV y w':=by
 cases r with
 | cons r1 r2=>
  cases r2 with
  | cons r3 r4=>cases r4;exists _,_,U,r1,r3
def IR:gh X (.builtin "abs") (λxs H Q=> ∃i,xs= [.int i]/\Q (.int (if i < 0 then -i else i)) H):=by
 intro pins s σ H xs us Q I r h;obtain ⟨i,rfl,q⟩:=h;obtain ⟨u,rfl,t,rfl⟩:=vals1 r;exact call_abs_int λu tk=>#[.int (if i < 0 then -i else i),H,I.tok _,#[_,rfl],q]
def pF (hc:X.calm=true):gh X (.builtin "max") (λxs H Q=> ∃i j,xs= [.int i,.int j]/\Q (.int (if j > i then j else i)) H):=by
 intro pins s σ H xs us Q I r h;obtain ⟨i,j,rfl,q⟩:=h;obtain ⟨u,w',rfl,⟨t,rfl⟩,⟨t',rfl⟩⟩:=vals2 r;refine max_two_ints (I.ok.hd hc) λh' tk k=>#[_,H,I.kept k,?_,q];by_cases hj:j > i
 . rw [ah hj,ah hj];exists _,U
 . rw [ae hj,ae hj];exists _,U
def uO (hc:X.calm=true):gh X (.builtin "min") (λxs H Q=> ∃i j,xs= [.int i,.int j]/\Q (.int (if j < i then j else i)) H):=by
 intro pins s σ H xs us Q I r h;obtain ⟨i,j,rfl,q⟩:=h;obtain ⟨u,w',rfl,⟨t,rfl⟩,⟨t',rfl⟩⟩:=vals2 r;refine min_two_ints (I.ok.hd hc) λh' tk k=>#[_,H,I.kept k,?_,q];by_cases hj:j < i
 . rw [ah hj,ah hj];exists _,U
 . rw [ae hj,ae hj];exists _,U
def cR:gh X (.type "str") (λxs H Q=> ∃i,xs= [.int i]/\i.natAbs.log2 < 1920/\Q (.str (toString i)) H):=by
 intro pins s σ H xs us Q I r h;obtain ⟨i,rfl,hz,q⟩:=h;obtain ⟨u,rfl,t,rfl⟩:=vals1 r;exact PySem.P.str_of_int hz #[.str _,H,I.tok _,#[_,rfl],q]
def Cr:gh X (.builtin "ord") (λxs H Q=> ∃x,xs= [.str x]/\x.length=1/\Q (.int (x.cps.getD 0 0:Nat)) H):=by
 intro pins s σ H xs us Q I r h;obtain ⟨x,rfl,hz,q⟩:=h;obtain ⟨u,rfl,t,rfl⟩:=vals1 r;exact ord_of_one hz #[.int _,H,I.tok _,#[_,rfl],q]
end
structure Eg (h:Heap) (x dx C:Addr) (mA:Str->Option Value):Prop where
 obj:h.get? x=some (instObj C dx)
 ns:h.Ns1 dx mA
 ne:dx≠x
def G9 (n:h.Ns1 dx mA):∃od,h.get? dx=some od/\∀name,lookIn name od=some (mA name):=by
 obtain ⟨o,es,ep,ho,hd,hk,_,hm⟩:=n;exists o,ho,λname=>?_;have e:=hm name;unfold nsFind findBy at e;rw [<-ui] at e;unfold lookIn;rw [hd];dsimp only;split
 . rename_i y q;rw [q] at e;exact bA some e
 . rename_i q;rw [q] at e;have a:es.toList.any (·.refKey)=false:=by
    rw [List.any_eq_false];intro y hy;obtain ⟨z,t,hkey⟩:=hk y (Array.mem_toList_iff.mp hy);simp [DictEntry.refKey,hkey]
   have a':¬es.toList.any (·.refKey)=true:=by rw [a];exact aO
   rw [ae a'];exact bA some e
def Eg.look {x:Addr} (I:Eg h x dx C mA):∃od,PySem.W.InstAt h x (instObj C dx) C (some od)/\∀name,lookIn name od=some (mA name):=
 let #[od,ho,hl]:=G9 I.ns
 #[od,#[I.obj,rfl,rfl,ho],hl]
section
variable {x:Addr} {name:Str}
def get_map {expr:Bool} (X:K.In s.heap) (I:Eg s.heap x dx C mA) (hg:plainGet K C name=true) (hh:hasDictIn K C=true) (ha:findIn K (.ref C) name=some none) (hv:mA name=some v) (hv':handedIn v=true) (h:Q v {s with toks:=s.toks+1}):
 wpAny (model prog w) A (getAttr (.ref x) name expr) Q E s:=by
 obtain ⟨od,J,hl⟩:=I.look;exact PySem.W.get_value X J (plainGet_of hg).1 (PySem.W.findObj_own hh ha rfl (by rw [hl,hv])) hv' h
def IT {Q:Value×List Value->Shared->Prop} (X:K.In s.heap) (I:Eg s.heap x dx C mA) (hg:plainGet K C name=true) (hf:findIn K (.ref C) name=some (some (.ref f))) (ht:isFn K (.ref f)=true) (hv:mA name=none) (h:Q (.ref f,[.ref x]) s):
 wpAny (model prog w) A (getMethod (.ref x) name pl) Q E s:=by
 obtain ⟨od,J,hl⟩:=I.look;exact PySem.W.method_fn X J (plainGet_of hg).1 (plainGet_of hg).2 hf (bO.mp ht) (by show (lookIn name od).map (·.isSome)=some false;rw [hl,hv];rfl) h
def LW {ns:List Str} {Q:Unit->Shared->Prop} (X:K.In s.heap) (I:Eg s.heap x dx C mA) (hs:findIn K (.ref C) "__setattr__" = some (some (.builtin "object.__setattr__"))) (hp:plainOver K C=true) (ht:takerIn K C name=some none) (hh:hasDictIn K C=true) (hw:PySem.Within mA ns) (hsz:ns.length<=sizeLine) (h:∀h',Eg h' x dx C (λy=>if y=name then some v else mA y)->Heap.SameBut dx s.heap h'->Q () {s with heap:=h',toks:=s.toks+2}):
 wpAny (model prog w) A (setAttr (.ref x) name v) Q E s:=by
 obtain ⟨od,J,hl⟩:=I.look;refine PySem.W.set_plain X J hs (PySem.W.osa_open (s:={s with toks:=s.toks+1}) (r:=none) X J hp ht λb=>?_);obtain ⟨cd,hc,hd'⟩:=PySem.W.any_some hh;have hx:s.heap.get? x=some #[.ref C,some dx,.plain,#[]]:=I.obj;refine az (bo (az (az (wpAny_loadPart hx (az (Looks.here (s:={s with toks:=s.toks+1}) (PySem.W.looks_clsIn X hc) ?_))))));rw [hd'];refine bo (a:=some dx) (az (bo (az ?_)));refine wpAny_nsSet1 (s:={s with toks:=s.toks+1}) I.ns λh' hn2 hs2=>?_;obtain ⟨oD,esD,epD,hoD,hdD,hcD⟩:=hn2.count (PySem.Within.cons name v hw);refine az (uw hoD (by rw [hdD];exact ux (aP hcD (by rw [aT];omega))) ?_);exact bo (h _ #[(hs2.2 _ (bY I.ne)).trans I.obj,hn2,I.ne] hs2)
def IU {vs:List Value} (X:K.In s.heap) (hm:makesIn K C=true) (hi:findIn K (.ref C) "__init__" = some (some (.ref f))) (hf:PySem.W.typeIn K (.ref f)=some (.type "function")) (h:codeAny (model prog w) (A.under (.builtin "type.__call__" #[.ref C :: vs,kw])) (.call (.ref f) #[.ref (s.heap.objs.size+1) :: vs,kw]) (PySem.W.InitBack (s.heap.objs.size+1) R)
 {s with heap:=(s.heap.push emptyDict).push (instObj C s.heap.objs.size)}):
 codeAny (model prog w) A (.call (.ref C) #[vs,kw]) R s:=by
 obtain ⟨hh,g,d,t,os⟩:=s;exact PySem.W.make_core (PySem.W.makes_of X hm) (PySem.W.looks_findIn X hi) (λself=>PySem.W.bind_fn X self hf) (.inl rfl) h
end
def ni (f:Str) (v:V):List (Str×V)->List (Str×V)
 | []=> [(f,v)]
 | (g,x) :: r=>if g=f then (g,v) :: r else (g,x) :: ni f v r
def vI (f g:Str) (v:V):∀fs:List (Str×V),(ni f v fs).lookup g=if g=f then some v else fs.lookup g
 | []=>by
  show List.lookup g [(f,v)]=_;by_cases h:g=f
  . have hb:(g == f)=true:=bO.mpr h;simp only [List.lookup,hb,ah h]
  . have hb:(g == f)=false:=bS.mpr h;simp only [List.lookup,hb,ae h]
 | (k,x) :: r=>by
  have ih:=vI f g v r;rw [show ni f v ((k,x) :: r)=(if k=f then (k,v) :: r else (k,x) :: ni f v r) from rfl];by_cases hk:k=f
  . rw [ah hk];by_cases h:g=k
    . have hb:(g == k)=true:=bO.mpr h;simp only [List.lookup,hb,ah (h.trans hk)]
    . have hb:(g == k)=false:=bS.mpr h;simp only [List.lookup,hb,ae (λe:g=f=>h (e.trans hk.symm))]
  . rw [ae hk];by_cases h:g=k
    . have hb:(g == k)=true:=bO.mpr h;simp only [List.lookup,hb,ae (λe:g=f=>hk (h.symm.trans e))]
    . have hb:(g == k)=false:=bS.mpr h;simp only [List.lookup,hb];exact ih
def uP (f:Str) (v:V):∀fs:List (Str×V),f∈(ni f v fs).map (·.1)/\∀g,g∈fs.map (·.1)->g∈(ni f v fs).map (·.1)
 | []=>#[by simp [ni],λg h=>by simp at h]
 | (k,x) :: r=>by
  obtain ⟨i1,i2⟩:=uP f v r;rw [show ni f v ((k,x) :: r)=(if k=f then (k,v) :: r else (k,x) :: ni f v r) from rfl];by_cases hk:k=f
  . rw [ah hk];subst hk;exists by simp,λg h=>by simpa using h
  . rw [ae hk];exists ?_,λg h=>?_
    . rw [bI];exact aW _ i1
    . rw [bI] at h ⊢;rcases aE.mp h with e | e
      . exact aE.mpr (.inl e)
      . exact aW _ (i2 g e)
def vJ (f:Str) (v:V):∀fs:List (Str×V),(ni f v fs).length<=fs.length+1
 | []=>by simp [ni]
 | (k,x) :: r=>by
  have ih:=vJ f v r;rw [show ni f v ((k,x) :: r)=(if k=f then (k,v) :: r else (k,x) :: ni f v r) from rfl];by_cases hk:k=f
  . rw [ah hk,aT,aT];omega
  . rw [ae hk,aT,aT];omega
def ji.some_of {v:V} {o:Option Value} (r:ji (some v) o):∃u,o=some u/\RelV v u:=by
 cases o with
 | none=>exact (show False from r).elim
 | some u=>exists u,U,r
def ji.none_of {o:Option Value} (r:ji none o):o=none:=by
 cases o with
 | none=>rfl
 | some u=>exact (show False from r).elim
def G_ {v:V} (r:RelV v u):handedIn u=true:=by
 cases v with
 | cp=>cases (show u=Value.none from r);rfl
 | bl b=>cases (show u=Value.bool b from r);rfl
 | int i=>obtain ⟨t,e⟩:=(show∃t,u=Value.int i t from r);cases e;rfl
 | str x=>obtain ⟨t,e⟩:=(show∃t,u=Value.str x t from r);cases e;rfl
 | Ce b=>obtain ⟨t,e⟩:=(show∃t,u=Value.bytes b t from r);cases e;rfl
 | flt b=>obtain ⟨t,e⟩:=(show∃t,u=Value.float b t from r);cases e;rfl
 | ref a=>cases (show u=Value.ref a from r);rfl
 | ty n=>cases (show u=Value.type n from r);rfl
section
variable {fs fs':List (Str×V)}
def w_ (bQ:k4 P w H h) (e:H a=some (.ins C dx fs)):∃mA,Eg h a dx C mA/\(∀f,ji (fs.lookup f) (mA f))/\PySem.Within mA (fs.map (·.1))/\fs.length<=1000/\H dx=some (.own a):=by
 obtain ⟨d,z,ne,ob,mA,n,r,q⟩:=(show dc P w H h a (.ins C dx fs) from bQ a _ e);exists mA,#[ob,n,ne],r,q,z,d
end
structure ku (K:Frag) (C:Addr):Prop where
 pg:plainGet K C Str.empty=true
 hd:hasDictIn K C=true
 po:plainOver K C=true
 sa:findIn K (.ref C) "__setattr__" = some (some (.builtin "object.__setattr__"))
def ku.get (c:ku K C) (f:Str):plainGet K C f=true:=c.pg
def dg (K:Frag) (C:Addr) (f:Str):=findIn K (.ref C) f=some none
def dg.taker {f:Str} (n:dg K C f):takerIn K C f=some none:=by
 unfold takerIn;rw [show findIn K (.ref C) f=some none from n];rfl
structure Meth (K:Frag) (C:Addr) (m:Str) (f:Addr):Prop where
 at_:findIn K (.ref C) m=some (some (.ref f))
 fn:isFn K (.ref f)=true
 kp:keepIn K (.ref f)=true
section
variable {fs:List (Str×V)} {f:Str} {v:V}
def xH {b:Bool} (I:Inv X pins σ H s) (e:H a=some (.ins C dx fs)) (c:ku X.K C) (n:dg X.K C f) (l:fs.lookup f=some v) (h:∀u s',Inv X pins σ H s'->RelV v u->Q u s'):wpAny (model X.prog X.w) A (getAttr (.ref a) f b) Q E s:=by
 obtain ⟨mA,O,r,_,_,_⟩:=w_ I.bQ e;obtain ⟨u,hu,ru⟩:=ji.some_of (v:=v) (o:=mA f) (by rw [<-l];exact r f);exact get_map I.k6 O (c.get f) c.hd n hu (G_ ru) (h u _ (I.tok _) ru)
def xI {g:Addr} {Q:Value×List Value->Shared->Prop} (I:Inv X pins σ H s) (e:H a=some (.ins C dx fs)) (c:ku X.K C) (k:Meth X.K C m g) (l:fs.lookup m=none) (h:Q (.ref g,[.ref a]) s):wpAny (model X.prog X.w) A (getMethod (.ref a) m pl) Q E s:=by
 obtain ⟨mA,O,r,_,_,_⟩:=w_ I.bQ e;have hn:mA m=none:=ji.none_of (by rw [<-l];exact r m);exact IT I.k6 O (c.get m) k.at_ k.fn hn h
def xJ {Q:Unit->Shared->Prop} (I:Inv X pins σ H s) (e:H a=some (.ins C dx fs)) (c:ku X.K C) (n:dg X.K C f) (hl:fs.length < 1000) (ry:RelV y u) (h:∀s',Inv X pins σ (upd H a (.ins C dx (ni f y fs))) s'->Q () s'):wpAny (model X.prog X.w) A (setAttr (.ref a) f u) Q E s:=by
 obtain ⟨mA,O,r,wi,_,ho⟩:=w_ I.bQ e;have hz:(fs.map (·.1)).length<=sizeLine:=by rw [aB,kY];omega
 refine LW I.k6 O c.sa c.po n.taker c.hd wi hz λh' O' sb=>h _ ?_;have hd:∃o,h'.get? dx=some o:=let #[o,_,_,e',_]:=O'.ns;#[o,e'];refine I.write (x:=a) (e:=dx) (by rw [e];exact au) (.inr ho) (λb q hb z=>(sb.2 b hb).trans z) hd ?_;exists by rw [aA O.ne];exact ho,?_,O.ne,O'.obj,_,O'.ns,λg=>?_,λg hg=>?_
 . have:=vJ f y fs;omega
 . show ji ((ni f y fs).lookup g) (if g=f then some u else mA g);rw [vI];by_cases q:g=f
   . rw [ah q,ah q];exact ry
   . rw [ae q,ae q];exact r g
 . by_cases q:g=f
   . rw [q];exact (uP f y fs).1
   . refine (uP f y fs).2 g (wi g λz=>hg ?_);show (if g=f then some u else mA g)=none;rw [ae q];exact z
def Inv.made (I:Inv X pins σ H s):Inv X pins σ (upd (upd H s.heap.objs.size (.own (s.heap.objs.size+1))) (s.heap.objs.size+1) (.ins C s.heap.objs.size []))
 {s with heap:=(s.heap.push emptyDict).push (instObj C s.heap.objs.size)}:=by
 have e1:(s.heap.push emptyDict).get? s.heap.objs.size=some emptyDict:=cD s.heap rfl;have e2:((s.heap.push emptyDict).push (instObj C s.heap.objs.size)).get? (s.heap.objs.size+1)=some (instObj C s.heap.objs.size):=by
  have:=cD (s.heap.push emptyDict) (o:=instObj C s.heap.objs.size) rfl;rwa [cV] at this
 have e3:(s.heap.push emptyDict).Ns s.heap.objs.size (λ_=>none):=#[emptyDict,#[],_,e1,rfl,(λe he=>absurd he (by simp)),λ_=>rfl];have I1:=I.laid (a:=s.heap.objs.size) (o:= .own (s.heap.objs.size+1)) (h':=s.heap.push emptyDict) (t':=s.toks) (λb u q=>bC _ q) (aw _) #[_,e1];refine I1.laid (a:=s.heap.objs.size+1) (o:= .ins C s.heap.objs.size []) (t':=s.toks) (λb u q=>bC _ q) (eQ (cV _ _)) ?_;have ne:s.heap.objs.size≠s.heap.objs.size+1:=a9 (du _);exists by rw [aA ne,aa],aD _,ne,e2,λ_=>none,(Heap.Ns1.of_empty e3).at λo q=>bC _ q,λ_=>au,λy hy=>absurd U hy
def F0 (hb:attributeBase e f env (eval e env)=eval e env) (h:wpAny (model prog w) A (eval e env) (λo s₁=>wpAny (model prog w) A (getAttr o f true) Q E s₁) E s):wpAny (model prog w) A (eval (.Attribute e f pos) env) Q E s:=
 Attribute_any_ h (by rw [arm_eval_Attribute,hb])
end
def QX (K:Frag) (ta:TE) (f:Str):TE:=λσ H Q=>ta σ H λx H1=> ∃a C dx fs v,x= .ref a/\H1 a=some (.ins C dx fs)/\ku K C/\dg K C f/\fs.lookup f=some v/\Q v H1
def TQ (K:Frag) (ta tv:TE) (f:Str):TS:=λD σ H=>tv σ H λy H1=>ta σ H1 λx H2=> ∃a C dx fs,x= .ref a/\H2 a=some (.ins C dx fs)/\ku K C/\dg K C f/\fs.length < 1000/\
 D.nx σ (upd H2 a (.ins C dx (ni f y fs)))
def QY (X:Cx) (op:Operator) (rd:V->V->Hp->VK->Prop):Prop:=
 ∀(pins:List (Addr×Obj)) (s:Shared) (σ:St) (H:Hp) (x y:V) (u v:Value) (Q:VK),Inv X pins σ H s->RelV x u->RelV y v->rd x y H Q->wpAny (model X.prog X.w) X.A (inplaceOp op u v) (EP X pins σ Q) X.xe s
def LX (K:Frag) (ta tv:TE) (rd:V->V->Hp->VK->Prop) (f:Str):TS:=λD σ H=>ta σ H λx H1=> ∃a C dx fs v,x= .ref a/\H1 a=some (.ins C dx fs)/\ku K C/\dg K C f/\fs.lookup f=some v/\
 tv σ H1 λy H2=>rd v y H2 λz H3=> ∃zu fs',H3 a=some (.ins C zu fs')/\fs'.length < 1000/\D.nx σ (upd H3 a (.ins C zu (ni f z fs')))
section
variable {o value:Expr} {f:Str} {tv:TE}
def ca (he:PE X e ta) (hb:attributeBase e f X.env (eval e X.env)=eval e X.env:=by rfl):PE X (.Attribute e f pos) (QX X.K ta f):=by
 intro pins s σ H Q I h;refine F0 hb (dX (he pins s σ H _ I h) λu s1 #[x,H1,I1,rx,a,C,dx,fs,v,ex,ea,c,n,l,q]=>?_);subst ex;obtain rfl:u=Value.ref a:=rx;exact xH I1 ea c n l λu' s2 I2 ru=>#[v,H1,I2,ru,q]
def OU (ha:PE X o ta) (hv:PE X value tv) (hs:swapsWith value (some (.Attribute o f pos')) pos.line X.env=pure false:=by rfl):PS X (.Assign [.Attribute o f pos'] value pos) (TQ X.K ta tv f):=by
 intro pins s σ H D I h;refine xt (dX (hv pins s σ H _ I h) λu s1 #[y,H1,I1,ry,q]=>dX (ha pins s1 σ H1 _ I1 q) λov s2 #[x,H2,I2,rx,a,C,dx,fs,ex,ea,c,n,l,q2]=>?_) hs;subst ex;obtain rfl:ov=Value.ref a:=rx;exact xJ I2 ea c n l ry λs3 I3=>#[σ,_,I3,q2]
def G' {op:Operator} {rd:V->V->Hp->VK->Prop} (ha:PE X o ta) (hv:PE X value tv) (hop:QY X op rd):PS X (.AugAssign (.Attribute o f tpos) op value pos) (LX X.K ta tv rd f):=by
 intro pins s σ H D I h;refine wpAny_AugAssign_AttributeAny (dX (ha pins s σ H _ I h) λov s1 #[x,H1,I1,rx,a,C,dx,fs,v,ex,ea,c,n,l,q]=>?_);subst ex;obtain rfl:ov=Value.ref a:=rx;refine xH I1 ea c n l λu s2 I2 ru=>dX (hv pins s2 σ H1 _ I2 q) λw3 s3 #[y,H2,I3,ry,q3]=>dX (hop pins s3 σ H2 v y u w3 _ I3 ru ry q3) λw4 s4 #[z,H3,I4,rz,zu,fs',Wm,l',q4]=>?_;exact xJ I4 Wm c n l' rz λs5 I5=>#[σ,_,I5,q4]
def TU:V->V->Hp->VK->Prop:=λx y H Q=> ∃i j,x= .int i/\y= .int j/\Q (.int (i+j)) H
def OV:QY X .Add TU:=by
 rintro pins s σ H x y u v Q I rx ry ⟨i,j,rfl,rfl,q⟩;obtain ⟨t,rfl⟩:=(show∃t,u=Value.int i t from rx);obtain ⟨t',rfl⟩:=(show∃t',v=Value.int j t' from ry);exact PyProof.Rows.iadd_int #[.int (i+j),H,I.tok _,#[_,rfl],q]
end
section
variable {c:Value} {b:Bool}
inductive pX (K:Frag) (H:Hp):V->Value->Prop where
 | cp:pX K H .cp (.type "NoneType")
 | bl (x:Bool):pX K H (.bl x) (.type "bool")
 | int (i:Int):pX K H (.int i) (.type "int")
 | str (x:Str):pX K H (.str x) (.type "str")
 | flt (x:UInt64):pX K H (.flt x) (.type "float")
 | lst {a:Addr} {xs:List V} (e:H a=some (.lst xs)):pX K H (.ref a) (.type "list")
 | gR {a:Addr} {o:Obj} {xs:List V} (e:H a=some (.gR o (.lst xs))):pX K H (.ref a) (.type "list")
 | tup {a:Addr} {xs:List V} (e:H a=some (.tup xs)):pX K H (.ref a) (.type "tuple")
 | dK {a:Addr} {aG:List (Key×V)} (e:H a=some (.dK aG)):pX K H (.ref a) (.type "dict")
 | dT {a:Addr} {aG:List (List Key×V)} (e:H a=some (.dT aG)):pX K H (.ref a) (.type "dict")
 | ins {a C dx:Addr} {fs:List (Str×V)} (e:H a=some (.ins C dx fs)) (cl:ku K C) (ha:findIn K (.ref C) "__class__" = some (some (.builtin "object.__class__")))
  (hn:PySem.W.specialIn K (.builtin "object.__class__") "__get__" = some (some (.builtin "getset_descriptor.__get__"))) (htk:PySem.W.takesIn K (.builtin "object.__class__")=some true)
  (hm:mroIn K C (.type "object")=some true):pX K H (.ref a) (.ref C)
def Ha {x:V} {t:Value} (I:Inv X pins σ H s) (rx:RelV x u) (ty:pX X.K H x t) (e:kitOne X.K t c=some b) (h:∀tk,Q (.bool b) {s with toks:=tk}):
 wpAny (model X.prog X.w) A (call (.builtin "isinstance") [u,c]) Q E s:=by
 cases ty with
 | cp=>cases (show u=Value.none from rx);exact kia_one PySem.W.kitx_none I.k6 au e (λz=>nomatch z) h
 | bl y=>cases (show u=Value.bool y from rx);exact kia_one PySem.W.kitx_bool I.k6 au e (λz=>nomatch z) h
 | int i=>obtain ⟨t,q⟩:=(show∃t,u=Value.int i t from rx);cases q;exact kia_one PySem.W.kitx_int I.k6 au e (λz=>nomatch z) h
 | str y=>obtain ⟨t,q⟩:=(show∃t,u=Value.str y t from rx);cases q;exact kia_one PySem.W.kitx_str I.k6 au e (λz=>nomatch z) h
 | flt y=>obtain ⟨t,q⟩:=(show∃t,u=Value.float y t from rx);cases q;exact kia_one PySem.W.kitx_float I.k6 au e (λz=>nomatch z) h
 | @lst a xs ea=>
  cases (show u=Value.ref a from rx);obtain ⟨_,_,n,_,h1⟩:=(show dc X.prog X.w H s.heap a (.lst xs) from I.bQ a _ ea);exact kia_one kitx_list I.k6 #[_,h1,rfl] e (λz=>nomatch z) h
 | @gR a ob xs ea=>
  cases (show u=Value.ref a from rx);obtain ⟨_,_,_,n,_,h1⟩:=(show dc X.prog X.w H s.heap a (.gR ob (.lst xs)) from I.bQ a _ ea);exact kia_one kitx_list I.k6 #[_,h1,rfl] e (λz=>nomatch z) h
 | @tup a xs ea=>
  cases (show u=Value.ref a from rx);obtain ⟨_,_,_,p⟩:=(show dc X.prog X.w H s.heap a (.tup xs) from I.bQ a _ ea);obtain ⟨o,h1,h2,_⟩:=p;exact kia_one PySem.W.kitx_tuple I.k6 #[o,h1,h2] e (λz=>nomatch z) h
 | @dK a aG ea=>
  cases (show u=Value.ref a from rx);obtain ⟨_,_,vs,_,p⟩:=(show dc X.prog X.w H s.heap a (.dK aG) from I.bQ a _ ea);obtain ⟨o,es,ep,h1,h2,_⟩:=p;exact kia_one kitx_dict I.k6 #[o,h1,h2.1] e (λz=>nomatch z) h
 | @dT a aG ea=>
  cases (show u=Value.ref a from rx);obtain ⟨_,_,xs,_,o,es,ep,h1,h2,_⟩:=(show dc X.prog X.w H s.heap a (.dT aG) from I.bQ a _ ea);exact kia_one kitx_dict I.k6 #[o,h1,h2.1] e (λz=>nomatch z) h
 | @ins a C dx fs ea cl ha hn htk hm=>
  cases (show u=Value.ref a from rx);obtain ⟨mA,O,_⟩:=w_ I.bQ ea;obtain ⟨od,J,_⟩:=O.look;exact kia_one (PySem.W.kitx_own (cl.get _) cl.hd ha hn htk hm) I.k6 J e (λz=>nomatch z) h
end
structure dn (k:Nat) (A:Around):Prop where
 hd:A.handled=none
 dp:A.depth+3 * k+5 < recursionLimit
 un:A.units+16 * k+200 < cLine
def dn.mono {k:Nat} (r:dn k A) (h:j<=k):dn j A:=#[r.hd,by have:=r.dp;omega,by have:=r.un;omega]
def dn.deeper {k:Nat} (r:dn (k+1) A) (env:Env):dn k (A.deeper env):=
 #[r.hd,by have:=r.dp;show A.depth+1+3 * k+5 < _;omega,by have:=r.un;show A.units+3+16 * k+200 < _;omega]
def Eh:(A.under (.builtin "type.__call__" #[.ref C :: us,kw])).depth=A.depth+1:=by
 first | rfl | simp [Around.under,Code.weight,Code.isCreation,Code.isGuard,Code.isCaller,Code.frames,Code.isFrame,guardIds]
def Ei:(A.under (.builtin "type.__call__" #[.ref C :: us,kw])).units=A.units+1:=by
 first | rfl | simp [Around.under,Code.cUnits,Code.frames,Code.isFrame]
def dn.make {k:Nat} (r:dn (k+1) A) (C:Addr) (us:List Value) (kw:List (Str×Value)):dn k (A.under (.builtin "type.__call__" #[.ref C :: us,kw])):=
 #[r.hd,by have:=r.dp;rw [Eh];omega,by have:=r.un;rw [Ei];omega]
def dn.depth {k:Nat} (r:dn k A):A.depth < recursionLimit:=by have:=r.dp;omega
def dn.units {k:Nat} (r:dn k A):A.units+64 < cLine:=by have:=r.un;omega
def Ej:TA:=λ_ H Q=>Q [] H
def IV (ta:TE) (tr:TA):TA:=λσ H Q=>ta σ H λx H1=>tr σ H1 λxs H2=>Q (x :: xs) H2
section
variable {t:TA}
def xK:PA X [] Ej:=λ_ _ _ _ H Q I h=>Calls.spliced_nil #[[],H,I,.nil,h]
def aI (ha:PE X e te) (hr:PA X es t) (hs:starEach (e :: es) X.env=(false,eval e X.env) :: starEach es X.env:=by rfl):PA X (e :: es) (IV te t):=by
 intro pos pins s σ H Q I h;rw [hs];show wpAny _ _ (spliced ((false,eval e X.env) :: backTo pos (starEach es X.env))) _ _ s;refine Calls.spliced_cons (dX (ha pins s σ H _ I h) λu s1 #[x,H1,I1,r1,q1]=>?_);exact dX (hr pos pins s1 σ H1 _ I1 q1) λus s2 #[xs,H2,I2,r2,q2]=>#[x :: xs,H2,I2,.cons r1 r2,q2]
def TV (t:TA):TE:=λσ H Q=>t σ H λxs H1=>xs.length<=sizeLine/\∀p,H1 p=none->Q (.ref p) (upd H1 p (.tup xs))
def TW (t:TA):TE:=λσ H Q=>t σ H λxs H1=>xs.length<=sizeLine/\∀p,H1 p=none->Q (.ref p) (upd H1 p (.lst xs))
def Ek {x1} (h:PA X es t):PE X (.Tuple es x1 pos) (TV t):=by
 intro pins s σ H Q I hq;refine wpAny_Tuple_spliced (dX (h pos pins s σ H _ I hq) λus s1 #[xs,H1,I1,r,z,q]=>#[by rw [<-r.length];exact z,?_]);have hf:H1 s1.heap.objs.size=none:=I1.bQ.fresh (aw _);exists .ref s1.heap.objs.size,upd H1 s1.heap.objs.size (.tup xs),I1.laid (t':=s1.toks) (λb u e=>bC _ e) (aw _) ?_,U,q _ hf;exists z,us,r,#[_,cD _ U,U,_,U]
def El (h:PA X es t):PE X (.List es pos) (TW t):=by
 intro pins s σ H Q I hq;refine wpAny_List_spliced (dX (h pos pins s σ H _ I hq) λus s1 #[xs,H1,I1,r,z,q]=>#[by rw [<-r.length];exact z,?_]);have hf:H1 s1.heap.objs.size=none:=I1.bQ.fresh (aw _);exists .ref s1.heap.objs.size,upd H1 s1.heap.objs.size (.lst xs),I1.laid (t':=s1.toks) (λb u e=>bC _ e) (aw _) ?_,U,q _ hf;exists z,us,0,r,cD _ U
end
abbrev Sp:=List V->Hp->VK->XK->Prop
variable {sp:Sp}
abbrev IW:=List Env->Hp->Shared->XK->Value->Shared->Prop
variable {CX:IW}
structure Ct (P:Program) (w:World) (K:Frag) (mg:Str->Option Value) (base:Heap) (A:Around) (outer:List Env) (s:Shared) (H:Hp):Prop where
 frames:A.frames=some outer
 mod:Mod K mg base
 bs:∀b o,base.get? b=some o->s.heap.get? b=some o/\H b=none
 D5:base.objs.size<=s.heap.objs.size
 funs:s.heap.FunFrames base outer
 G5:∀b∈frs outer,H b=none
 bQ:k4 P w H s.heap
 bare:AllBare s.gens
def CE (outer:List Env) (P:Program) (w:World) (H:Hp) (s:Shared) (Q:VK) (u:Value) (s':Shared):Prop:=
 ∃v H',s'.os=s.os/\AllBare s'.gens/\Un (frs outer) [] H H' s.heap s'.heap/\k4 P w H' s'.heap/\RelV v u/\Q v H'
def CR (CX:IW) (outer:List Env) (P:Program) (w:World) (H:Hp) (s:Shared) (Q:VK) (E:XK) (r:Result) (s':Shared):Prop:=
 match r with
 | .ok (.ret u)=>CE outer P w H s Q u s'
 | .ok _=>False
 | .error e=>CX outer H s E e s'
structure iS (P:Program) (w:World) (K:Frag) (mg:Str->Option Value) (base:Heap) (CX:IW) (k:Nat) (f:Addr) (fd:FuncData) (ps:List Str) (sp:Sp):Prop where
 len:∀vs H Q E,sp vs H Q E->vs.length=ps.length
 run:∀(A:Around) (outer:List Env) (s:Shared) (H:Hp) (args:Args) (us:List Value) (vs:List V) (Q:VK) (E:XK),dn k A->Ct P w K mg base A outer s H->BindsTo s fd args (ps.zip us)->Vals vs us->sp vs H Q E->
  codeAny (model P w) A (.call (.ref f) args) (CR CX outer P w H s Q E) s
def iS.mono {k:Nat} (F:iS P w K mg base CX j f fd ps sp) (h:j<=k):
 iS P w K mg base CX k f fd ps sp:=#[F.len,λA outer s H args us vs Q E hr=>F.run A outer s H args us vs Q E (hr.mono h)]
def iS.imp {k:Nat} {QZ:Sp} (F:iS P w K mg base CX k f fd ps sp) (h:∀vs H Q E,QZ vs H Q E->sp vs H Q E):iS P w K mg base CX k f fd ps QZ:=
 #[λvs H Q E q=>F.len vs H Q E (h _ _ _ _ q),λA outer s H args us vs Q E hr he hb hv hs=>F.run A outer s H args us vs Q E hr he hb hv (h _ _ _ _ hs)]
def Ct.make (e:Ct P w K mg base A outer s H) (C:Addr) (us:List Value) (kw:List (Str×Value)):
 Ct P w K mg base (A.under (.builtin "type.__call__" #[.ref C :: us,kw])) outer s H:=#[by first | exact e.frames | (simpa [Around.under,Code.envs,Code.isFrame,pushEnvs] using e.frames),e.mod,e.bs,e.D5,e.funs,e.G5,e.bQ,e.bare]
section
def Inv.env0 (I:Inv X pins σ H s):Ct X.prog X.w X.K X.mg X.base X.A X.stack s H:=
 #[I.ok.frames,I.ok.mod,I.bs,aP I.ok.D5 I.sz,I.stack,I.rP,I.bQ,I.bare]
def Inv.after {Q:VK} (I:Inv X pins σ H s) (h:CE X.stack X.prog X.w H s Q u s'):EP X pins σ Q u s':=by
 obtain ⟨v,H',os,bare,un,bQ,r,q⟩:=h;obtain ⟨hh,g,d,t,os'⟩:=s';obtain rfl:os'=s.os:=os;exists v,H',I.call (h':=hh) (g':=g) (d':=d) (t':=t) (ch:= []) un bQ bare (λb z=>absurd z (by simp)),r,q
end
def ND (sp:Sp) (xL:List V) (E:XK) (t:TA):TE:=λσ H Q=>t σ H λvs H1=>sp (vs++xL) H1 Q E
def F1 (C:Addr) (m:Str) (sp:Sp) (xL:List V) (E:XK) (ta:TE) (t:TA):TE:=λσ H Q=>ta σ H λx H1=> ∃a dx fs,x= .ref a/\H1 a=some (.ins C dx fs)/\fs.lookup m=none/\
 t σ H1 λvs H2=>sp (x :: (vs++xL)) H2 Q E
def F2 (C:Addr) (sp:Sp) (xL:List V) (E:XK) (t:TA):TE:=λσ H Q=>t σ H λvs H1=> ∀x dx,H1 x=none->H1 dx=none->dx≠x->
 sp (.ref x :: (vs++xL)) (upd (upd H1 dx (.own x)) x (.ins C dx [])) (λv H2=>v= .cp/\Q (.ref x) H2) E
def Binds (K:Frag) (fd:FuncData) (ps:List Str) (ds:List Value):Prop:=
 ∀(s:Shared) (us:List Value),K.In s.heap->(us++ds).length=ps.length->BindsTo s fd #[us,[]] (ps.zip (us++ds))
def Binds.all (h:∀us:List Value,us.length=ps.length->bindArgs fd #[us,[]]=pure (ps.zip us)):Binds K fd ps []:=λs us _ hl=>by
 rw [bH] at hl ⊢;exact .of_eq (h us hl)
def Passes (CX:IW) (X:Cx) (E:XK):= ∀(pins:List (Addr×Obj)) (σ:St) (H:Hp) (s:Shared) (e:Value) (s':Shared),Inv X pins σ H s->CX X.stack H s E e s'->X.xe e s'
section
variable {k:Nat} {xL:List V} {ds:List Value} {E:XK} {o:Expr} {t:TA}
def Em {Q:VK} {vs:List V} (F:iS X.prog X.w X.K X.mg X.base CX k f fd ps sp) (hr:dn k X.A) (hb:Binds X.K fd ps ds) (hd:Vals xL ds) (hx:Passes CX X E) (I:Inv X pins σ H s) (r:Vals vs us) (h:sp (vs++xL) H Q E):wpAny (model X.prog X.w) X.A (call (.ref f) us) (EP X pins σ Q) X.xe s:=by
 have r2:Vals (vs++xL) (us++ds):=r.append hd;have hl:(us++ds).length=ps.length:=by rw [<-r2.length];exact F.len _ _ _ _ h
 refine i9 (gO (F.run X.A X.stack s H #[us,[]] (us++ds) (vs++xL) Q E hr I.env0 (hb s us I.k6 hl) r2 h) λr s' hq=>?_);cases r with
 | error e=>exact hx pins σ H s e s' I hq
 | ok fl=>
  cases fl with
  | ret u=>exact I.after hq
  | next=>exact False.elim hq
  | brk=>exact False.elim hq
  | cont=>exact False.elim hq
def LY (F:iS X.prog X.w X.K X.mg X.base CX k f fd ps sp) (hr:dn k X.A) (hg:Gl X x) (hm:X.mg x=some (.ref f)) (hk:keepIn X.K (.ref f)=true) (hb:Binds X.K fd ps ds) (hd:Vals xL ds) (hx:Passes CX X E) (ha:PA X (e :: es) t) (hdb:(x == ("__debug__" :Str))=false:=by decide) (he:starEach (e :: es) X.env=(false,eval e X.env) :: starEach es X.env:=by rfl) (gQ:(backTo pos (starEach es X.env)).any (·.1)=false:=by rfl):
 PE X (.Call (.Name x p) (e :: es) [] pos) (ND sp xL E t):=by
 intro pins s σ H Q I h;refine g_ (jN I hg hm ?_ hdb);refine callWith_K (h₀:=X.base) I.ok.mod.LO hk (dX (ha pos pins s σ H _ I h) λus s1 #[vs,H1,I1,r,q]=>#[I1.k6,?_]) he gQ;exact Em F hr hb hd hx I1 r q
def LZ (he:PE X o ta) (c:ku X.K C) (hm:Meth X.K C m f) (F:iS X.prog X.w X.K X.mg X.base CX k f fd ps sp) (hr:dn k X.A) (hb:Binds X.K fd ps ds) (hd:Vals xL ds) (hx:Passes CX X E) (ha:PA X (e :: es) t) (fU:starEach (e :: es) X.env=(false,eval e X.env) :: starEach es X.env:=by rfl) (gQ:(backTo pos (starEach es X.env)).any (·.1)=false:=by rfl) (ht:eval (.Call (.Attribute o m apos) (e :: es) [] pos) X.env=(do
 let ov<-eval o X.env;standAt apos.atName;let (f,first)<-holding [ov] (getMethod ov m pl);callWith pos f first (backTo pos (starEach (e :: es) X.env)) (backToKw pos (keywordEach [] X.env))):=by rfl):
 PE X (.Call (.Attribute o m apos) (e :: es) [] pos) (F1 C m sp xL E ta t):=by
 intro pins s σ H Q I h;refine methodCall_KW (pl:=pl) (dX (he pins s σ H _ I h) λu s1 #[x,H1,I1,rx,a,dx,fs,ex,ea,l,q]=>?_) ht;subst ex;obtain rfl:u=Value.ref a:=rx;refine xI I1 ea c hm l ?_;refine callWith_K (first:= [.ref a]) (h₀:=X.base) I.ok.mod.LO hm.kp (dX (ha pos pins s1 σ H1 _ I1 q) λus s2 #[vs,H2,I2,r,q2]=>#[I2.k6,?_]) fU gQ;exact Em (us:= .ref a :: us) (vs:= .ref a :: vs) F hr hb hd hx I2 (.cons rfl r) q2
def IX (he:PE X o ta) (c:ku X.K C) (hm:Meth X.K C m f) (F:iS X.prog X.w X.K X.mg X.base CX k f fd ps sp) (hr:dn k X.A) (hb:Binds X.K fd ps ds) (hd:Vals xL ds) (hx:Passes CX X E) (ht:eval (.Call (.Attribute o m apos) [] [] pos) X.env=(do
 let ov<-eval o X.env;standAt apos.atName;let (f,first)<-holding [ov] (getMethod ov m pl);callWith pos f first (backTo pos (starEach [] X.env)) (backToKw pos (keywordEach [] X.env))):=by rfl):
 PE X (.Call (.Attribute o m apos) [] [] pos) (F1 C m sp xL E ta Ej):=by
 intro pins s σ H Q I h;refine methodCall_KW (pl:=pl) (dX (he pins s σ H _ I h) λu s1 #[x,H1,I1,rx,a,dx,fs,ex,ea,l,q]=>?_) ht;subst ex;obtain rfl:u=Value.ref a:=rx;refine xI I1 ea c hm l ?_;exact callWith_K0 (first:= [.ref a]) I1.k6 hm.kp (Em (us:= [.ref a]) (vs:= [.ref a]) F hr hb hd hx I1 (.cons rfl .nil) q)
structure Mk (K:Frag) (C f:Addr):Prop where
 makes:makesIn K C=true
 init:findIn K (.ref C) "__init__" = some (some (.ref f))
 fn:isFn K (.ref f)=true
 kp:keepIn K (.ref C)=true
def Cu {Q:VK} {vs:List V} (M:Mk X.K C f) (F:iS X.prog X.w X.K X.mg X.base CX k f fd ps sp) (hr:dn (k+1) X.A) (hb:Binds X.K fd ps ds) (hd:Vals xL ds) (hx:Passes CX X E) (I:Inv X pins σ H s) (r:Vals vs us) (h:∀x dx,H x=none->H dx=none->dx≠x->sp (.ref x :: (vs++xL)) (upd (upd H dx (.own x)) x (.ins C dx [])) (λv H2=>v= .cp/\Q (.ref x) H2) E):
 wpAny (model X.prog X.w) X.A (call (.ref C) us) (EP X pins σ Q) X.xe s:=by
 have hq:=h (s.heap.objs.size+1) s.heap.objs.size (I.bQ.fresh (pC _)) (I.bQ.fresh (aw _)) (a9 (du _));have I2:=Inv.made (C:=C) I;have r2:Vals (V.ref (s.heap.objs.size+1) :: (vs++xL)) (Value.ref (s.heap.objs.size+1) :: (us++ds)):= .cons rfl (r.append hd);have hl:(Value.ref (s.heap.objs.size+1) :: us++ds).length=ps.length:=by
  have e:=r2.length;rw [F.len _ _ _ _ hq] at e;exact e.symm
 refine i9 (IU (f:=f) I.k6 M.makes M.init (bO.mp M.fn) (gO (F.run _ X.stack _ _ #[Value.ref (s.heap.objs.size+1) :: us,[]] (Value.ref (s.heap.objs.size+1) :: (us++ds)) _ _ E (hr.make C us [])
  (I2.env0.make C us []) (hb _ (Value.ref (s.heap.objs.size+1) :: us) I2.k6 hl) r2 hq) λr s' hq'=>?_))
 cases r with
 | error e=>exact hx pins σ _ _ e s' I2 hq'
 | ok fl=>
  cases fl with
  | ret u=>
   obtain ⟨v,H',I3,rv,ev,q3⟩:=I2.after hq';subst ev;exists rv,#[V.ref (s.heap.objs.size+1),H',I3,U,q3]
  | next=>exact False.elim hq'
  | brk=>exact False.elim hq'
  | cont=>exact False.elim hq'
def L0 (M:Mk X.K C f) (F:iS X.prog X.w X.K X.mg X.base CX k f fd ps sp) (hr:dn (k+1) X.A) (hg:Gl X x) (hm:X.mg x=some (.ref C)) (hb:Binds X.K fd ps ds) (hd:Vals xL ds) (hx:Passes CX X E) (ha:PA X (e :: es) t) (hdb:(x == ("__debug__" :Str))=false:=by decide) (he:starEach (e :: es) X.env=(false,eval e X.env) :: starEach es X.env:=by rfl) (gQ:(backTo pos (starEach es X.env)).any (·.1)=false:=by rfl):
 PE X (.Call (.Name x p) (e :: es) [] pos) (F2 C sp xL E t):=by
 intro pins s σ H Q I h;refine g_ (jN I hg hm ?_ hdb);refine callWith_K (h₀:=X.base) I.ok.mod.LO M.kp (dX (ha pos pins s σ H _ I h) λus s1 #[vs,H1,I1,r,q]=>#[I1.k6,?_]) he gQ;exact Cu M F hr hb hd hx I1 r q
def IY (M:Mk X.K C f) (F:iS X.prog X.w X.K X.mg X.base CX k f fd ps sp) (hr:dn (k+1) X.A) (hg:Gl X x) (hm:X.mg x=some (.ref C)) (hb:Binds X.K fd ps ds) (hd:Vals xL ds) (hx:Passes CX X E) (hdb:(x == ("__debug__" :Str))=false:=by decide):PE X (.Call (.Name x p) [] [] pos) (F2 C sp xL E Ej):=by
 intro pins s σ H Q I h;refine g_ (jN I hg hm ?_ hdb);exact callWith_K0 I.k6 M.kp (Cu (us:= []) M F hr hb hd hx I .nil h)
end
structure d9 (N P:List Str) (sc:Scope):Prop where
 kind:sc.kind= .function
 co:sc.isCoroutine=false
 gen:sc.isGenerator=false
 nd:N.Nodup
 pre:N.take P.length=P
 par:∀x∈P,sc.names.lookup x=some .local\/sc.names.lookup x=some .cell
 OW:∀y∈sc.names,y.2≠ .free
def Ae:∀{binds:List (Str×Value)} {m:Str->Option Value},(∀v,(x,v)∉binds)->bindL kindOf binds m x=m x
 | [],_,_=>rfl
 | (n,v) :: r,m,h=>by
  unfold bindL;rw [Ae λw hw=>h w (aW _ hw)];split
  . have:x≠n:=by rintro rfl;exact h v bi
    simp [this]
  . rfl
def Af:∀{binds:List (Str×Value)} {m:Str->Option Value},(∀v,(x,v)∉binds)->bindC kindOf binds m x=m x
 | [],_,_=>rfl
 | (n,v) :: r,m,h=>by
  unfold bindC;rw [Af λw hw=>h w (aW _ hw)];split
  . rfl
  . have:x≠n:=by rintro rfl;exact h v bi
    simp [this]
def Ag:∀{P:List Str} {vs:List Value} {i:Nat} {m:Str->Option Value},P.Nodup->P[i]? = some x->vs[i]? = some v->kindOf x=some .local->
 bindL kindOf (P.zip vs) m x=some v
 | [],_,_,_,_,h,_,_=>by simp at h
 | _ :: _,[],_,_,_,_,h,_=>by simp at h
 | p :: P,w :: vs,0,m,nd,h1,h2,hk=>by
  simp at h1 h2;subst h1;subst h2;show bindL kindOf ((p,w) :: P.zip vs) m p=_;unfold bindL;rw [Ae λv hv=>(kI.mp nd).1 (kM hv).1,ah hk];simp
 | p :: P,w :: vs,i+1,m,nd,h1,h2,hk=>by
  show bindL kindOf ((p,w) :: P.zip vs) m x=_;unfold bindL;exact Ag (i:=i) (kI.mp nd).2 (by simpa using h1) (by simpa using h2) hk
def Ah:∀{P:List Str} {vs:List Value} {i:Nat} {m:Str->Option Value},P.Nodup->P[i]? = some x->vs[i]? = some v->kindOf x≠some .local->
 bindC kindOf (P.zip vs) m x=some v
 | [],_,_,_,_,h,_,_=>by simp at h
 | _ :: _,[],_,_,_,_,h,_=>by simp at h
 | p :: P,w :: vs,0,m,nd,h1,h2,hk=>by
  simp at h1 h2;subst h1;subst h2;show bindC kindOf ((p,w) :: P.zip vs) m p=_;unfold bindC;rw [Af λv hv=>(kI.mp nd).1 (kM hv).1,ae hk];simp
 | p :: P,w :: vs,i+1,m,nd,h1,h2,hk=>by
  show bindC kindOf ((p,w) :: P.zip vs) m x=_;unfold bindC;exact Ah (i:=i) (kI.mp nd).2 (by simpa using h1) (by simpa using h2) hk
def start (N:List Str) (vs:List V):St:=vs.map some++List.replicate (N.length - vs.length) none
def jL (CX:IW) (P:Program) (w:World) (K:Frag) (mg:Str->Option Value) (base:Heap) (N:List Str) (qual:Str) (scope:Scope) (f:Addr) (cd:Value) (A:Around) (outer:List Env) (s:Shared) (H:Hp) (E:XK):Cx where
 prog:=P
 w:=w
 K:=K
 mg:=mg
 base:=base
 A:=A.deeper (envOfC qual scope s.heap.objs.size f cd)
 N:=N
 pE:=s
 Lq:=H
 env:=envOfC qual scope s.heap.objs.size f cd
 outer:=outer
 stack:=envOfC qual scope s.heap.objs.size f cd :: outer
 ex:= []
 calm:=true
 fn:=λ_=>true
 pn:= []
 xe:=λe s'=>wpAny (model P w) (A.deeper (envOfC qual scope s.heap.objs.size f cd)) (noteFrame e (envOfC qual scope s.heap.objs.size f cd)) (λ_ s1=>wpAny (model P w) (A.deeper (envOfC qual scope s.heap.objs.size f cd)) (setFlight e none) (λ_ s''=>CX outer H s E e s'') (λe' s''=>CX outer H s E e' s'') s1) (λe' s''=>CX outer H s E e' s'') s'
def Cv (h:sc.names.lookup x=some .cell):∃c,(cellsFrom n sc.names []).lookup x=some c:=by
 have q:=cellsFrom_some sc.names n [] (.inl h);exact tY.mp q
def xM {cm:Bool} {E:XK} {vs:List V} (S:d9 N ps scope) (hd:cm=true->A.handled=none) (e0:Ct P w K mg base A outer s H) (hl:vs.length=ps.length) (r:Vals vs us) (x:InCallC s s.heap.objs.size (bindL (envOfC qual scope s.heap.objs.size f cd).kindOf (ps.zip us) λ_=>none) (cellsFrom (s.heap.objs.size+1) scope.names []) (bindC (envOfC qual scope s.heap.objs.size f cd).kindOf (ps.zip us) λ_=>none) s1):
 Inv {jL CX P w K mg base N qual scope f cd A outer s H E with calm:=cm} [] (start N vs) H s1:=by
 have gQ:ps.length<=N.length:=by have:=bA List.length S.pre;rw [hJ] at this;omega
 obtain ⟨h1,tk,rfl,hk⟩:=x.done;have Qj:∀b:Addr,b∉({jL CX P w K mg base N qual scope f cd A outer s H E with calm:=cm}:Cx).ex:=λb z=>absurd (show b∈([]:List Addr) from z) (by simp);exists #[e0.mod,S.kind,U,U,aw _,λy z c h1 h2=>?_,λy hy=>?_,λy c _ h=>?_,hd,Around.frames_deeper e0.frames,.inr #[U,U],λb z=>absurd z (Qj b),e0.bs,e0.D5,λb _ _=>Qj b,λb z=>absurd z (Qj b),e0.funs,e0.G5],
  rfl,e0.bare,Un.kept hk,#[_,x.toInCall.ns,λi y v h1 h2 h3=>?_],λy c h=>#[_,x.cell y c h],e0.bQ.fresh (aw _),λy c h=>?_,λp hp=>absurd (show p∈([]:List (Addr×Obj)) from hp) (by simp),e0.bQ.kept hk,?_
 . exact name_of_addr x.apart (mem_of_lookup h1) (mem_of_lookup h2)
 . have hy:scope.names.lookup y=some .cell\/scope.names.lookup y=some .free:=hy;rcases hy with hy | hy
   . exact Cv hy
   . exact absurd rfl (S.OW _ (mem_of_lookup hy))
 . exact ia (x.above y c (mem_of_lookup h))
 . have hi:i < vs.length:=by
    unfold start at h2;by_cases hi:i < vs.length
    . exact hi
    . rw [tT (by simpa using hi)] at h2;rw [z3] at h2;split at h2 <;> cases h2
   have ha:vs[i]? = some v:=by
    unfold start at h2;rw [tV (by simpa using hi),bz] at h2;cases e:vs[i]? with
    | none=>rw [e] at h2;cases h2
    | some a=>rw [e] at h2;cases h2;rfl
   obtain ⟨u,hu,rv⟩:=r.get ha;have hp:ps[i]? = some y:=by
    rw [<-S.pre,List.getElem?_take_of_lt (by omega)];exact h1
   have Vt:ps.Nodup:=by rw [<-S.pre];exact S.nd.sublist (List.take_sublist _ _)
   exists u,rv,?_;rcases S.par y (bc hp) with k | k
   . exact .inl #[k,Ag Vt hp hu k]
   . obtain ⟨c,e⟩:=Cv (n:=s.heap.objs.size+1) k;refine .inr #[.inl k,c,e,?_];have q:=x.cell y c e;rw [Ah Vt hp hu (by show scope.names.lookup y≠_;rw [k];decide)] at q;exact q
 . exact e0.bQ.fresh (ia (x.above y c (mem_of_lookup h)))
 . unfold start;show _=N.length;rw [ao,aB,z7];omega
def Ai {E:XK} {vs:List V} (S:d9 N ps scope) (hd:A.handled=none) (e0:Ct P w K mg base A outer s H) (hl:vs.length=ps.length) (r:Vals vs us) (x:InCallC s s.heap.objs.size (bindL (envOfC qual scope s.heap.objs.size f cd).kindOf (ps.zip us) λ_=>none) (cellsFrom (s.heap.objs.size+1) scope.names []) (bindC (envOfC qual scope s.heap.objs.size f cd).kindOf (ps.zip us) λ_=>none) s1):
 Inv (jL CX P w K mg base N qual scope f cd A outer s H E) [] (start N vs) H s1:=
 xM (cm:=true) S (λ_=>hd) e0 hl r x
def NE {k:Nat} {name:Str} {params:Arguments} {dV kV doc pm ct oc:Value} {an od:Option Addr} {osl:Array (Option Value)} (lk:K.lookup f=some #[oc,od,.func (fnOf name qual params body scope dV kV doc pm an eA ct),osl]) (hcd:codeIn K eA qual=true) (S:d9 N ps scope) (len:∀vs H Q E,sp vs H Q E->vs.length=ps.length) (hbody:∀(A:Around) (outer:List Env) (s:Shared) (H:Hp) (vs:List V) (Q:VK) (E:XK),dn k (A.deeper (envOfC qual scope s.heap.objs.size f eA))->sp vs H Q E->
 ∃t,rQ (jL CX P w K mg base N qual scope f eA A outer s H E) body t/\t {nx:=λ_ H'=>Q .cp H',rt:=Q} (start N vs) H):
 iS P w K mg base CX (k+1) f (fnOf name qual params body scope dV kV doc pm an eA ct) ps sp:=by
 exists len,λA outer s H args us vs Q E hr e0 hb r hsp=>?_;have hl:=len _ _ _ _ hsp;have KX:K.In s.heap:=e0.mod.LO.keeps λb o e=>(e0.bs b o e).1;have lim:s.heap.NoLimit:=e0.mod.nolimit.keeps λb o e=>(e0.bs b o e).1;have hkind:∀y∈ps.zip us,scope.names.lookup y.1=some .local\/(scope.names.lookup y.1=some .cell/\((cellsFrom (s.heap.objs.size+1) scope.names []).lookup y.1).isSome=true):=λ#[n,v] hy=>by
  rcases S.par n (kM hy).1 with q | q
  . exact .inl q
  . exact .inr #[q,cellsFrom_some _ _ _ (.inl q)]
 refine ud hr.depth (KX _ _ lk) rfl S.co S.gen rfl (codeRec_of KX hcd) (hb _ _ _ _ ?_);refine tU S.kind hkind λenv he s1 x=>?_;subst he;exists lim.keeps x.toInCall.keep,codeAny_func ?_;obtain ⟨t,ht,hq⟩:=hbody A outer s H vs Q E (hr.deeper _) hsp;have I:Inv (jL CX P w K mg base N qual scope f eA A outer s H E) [] (start N vs) H s1:=Ai S hr.hd e0 hl r x;refine bU (ht [] s1 (start N vs) H _ I hq) (λfl s' hs=>?_) λe s' hs=>az hs;have fin:∀{σ':St} {H':Hp} {v:V} {u:Value},Inv (jL CX P w K mg base N qual scope f eA A outer s H E) [] σ' H' s'->RelV v u->Q v H'->CE outer P w H s Q u s':=
  λ{σ' H' v u} J rv q=>#[v,H',J.os,J.bare,J.base,J.bQ,rv,q]
 cases fl with
 | ret u=>
  obtain ⟨v,σ',H',J,rv,q⟩:=hs;exact fin J rv q
 | next=>
  obtain ⟨σ',H',J,q⟩:=hs;exact fin (v:=V.cp) (u:=Value.none) J rfl q
 | brk=>
  obtain ⟨_,_,_,q⟩:=hs;exact False.elim q
 | cont=>
  obtain ⟨_,_,_,q⟩:=hs;exact False.elim q
section
variable {t:TA} {id:String} {r:List V->Hp->VK->Prop}
def Vu (r:List V->Hp->VK->Prop) (t:TA):TE:=λσ H Q=>t σ H λvs H1=>r vs H1 Q
def aM (hc:gh X (.builtin id) r) (ha:PA X (e :: es) t) (hg:Gl X x:=by exact rfl) (hm:X.mg x=none:=by walk_at "m") (hv:bootBuiltins x=some (.builtin id):=by first | rfl | exact boot_len) (hn:x≠ "__name__" :=by decide) (hdb:(x == ("__debug__" :Str))=false:=by decide) (he:starEach (e :: es) X.env=(false,eval e X.env) :: starEach es X.env:=by rfl) (gQ:(backTo pos (starEach es X.env)).any (·.1)=false:=by rfl):PE X (.Call (.Name x p) (e :: es) [] pos) (Vu r t):=by
 intro pins s σ H Q I h;refine g_ (xB I hg hm hv ?_ hn hdb);exact callWith_builtin1 (dX (ha pos pins s σ H _ I h) λus s1 #[vs,H1,I1,r1,q1]=>hc pins s1 σ H1 vs us Q I1 r1 q1) he gQ
def cv (hc:gh X (.type T) r) (ha:PA X (e :: es) t) (hg:Gl X x:=by exact rfl) (hm:X.mg x=none:=by walk_at "m") (hv:bootBuiltins x=some (.type T):=by first | rfl | exact boot_len) (hn:x≠ "__name__" :=by decide) (hdb:(x == ("__debug__" :Str))=false:=by decide) (he:starEach (e :: es) X.env=(false,eval e X.env) :: starEach es X.env:=by rfl) (gQ:(backTo pos (starEach es X.env)).any (·.1)=false:=by rfl):PE X (.Call (.Name x p) (e :: es) [] pos) (Vu r t):=by
 intro pins s σ H Q I h;refine g_ (xB I hg hm hv ?_ hn hdb);exact callWith_type1 (dX (ha pos pins s σ H _ I h) λus s1 #[vs,H1,I1,r1,q1]=>hc pins s1 σ H1 vs us Q I1 r1 q1) he gQ
end
abbrev TO:=St->Hp->(Option Int->Hp->Prop)->Prop
def PO (X:Cx) (e:Option Expr) (t:TO):Prop:=
 ∀(pins:List (Addr×Obj)) (s:Shared) (σ:St) (H:Hp) (Q:Option Int->Hp->Prop),Inv X pins σ H s->t σ H Q->
  wpAny (model X.prog X.w) X.A (evalPart e X.env) (λu s'=> ∃o H',Inv X pins σ H' s'/\IsPart u o/\Q o H') X.xe s
def L1:TO:=λ_ H Q=>Q none H
def Q0 (t:TE):TO:=λσ H Q=>t σ H λx H1=> ∃i,x= .int i/\Q (some i) H1
section
variable {lo hi:Option Expr} {tl th:TO}
def L3:PO X none L1:=by
 intro pins s σ H Q I h;rw [evalPart_none];exact bo #[none,H,I,.none,h]
def lU (h:PE X e te):PO X (some e) (Q0 te):=by
 intro pins s σ H Q I hw;rw [evalPart_some];refine dX (h pins s σ H _ I hw) λu s1 #[x,H1,I1,r1,q1]=>?_;obtain ⟨i,rfl,q⟩:=q1;obtain ⟨t,rfl⟩:=r1;exists some i,H1,I1,.int i t,q
def Qk (X:Cx) (r:V->Option Int->Option Int->Hp->VK->Prop):Prop:=
 ∀(pins:List (Addr×Obj)) (s:Shared) (σ:St) (H:Hp) (x:V) (v vl vu:Value) (lo hi:Option Int) (sl:Addr) (Q:VK),Inv X pins σ H s->RelV x v->s.heap.IsSliceOf sl vl vu .none->IsPart vl lo->IsPart vu hi->r x lo hi H Q->
  ∃T id,typeLookup (.type T) "__getitem__" = pure (some (.builtin id))/\s.TypeIs v T/\wpAny (model X.prog X.w) X.A (getItem v (.ref sl)) (EP X pins σ Q) X.xe s
def Qk.or {r r':V->Option Int->Option Int->Hp->VK->Prop} (h:Qk X r) (h':Qk X r'):Qk X (λx lo hi H Q=>r x lo hi H Q\/r' x lo hi H Q):=by
 intro pins s σ H x v vl vu lo hi sl Q I rx hs pl pu q;rcases q with q | q
 . exact h pins s σ H x v vl vu lo hi sl Q I rx hs pl pu q
 . exact h' pins s σ H x v vl vu lo hi sl Q I rx hs pl pu q
def Wn (r:V->Option Int->Option Int->Hp->VK->Prop) (te:TE) (tl th:TO):TE:=λσ H Q=>te σ H λx H1=>tl σ H1 λl H2=>th σ H2 λu H3=>r x l u H3 Q
def rV {r:V->Option Int->Option Int->Hp->VK->Prop} (hr:Qk X r) (he:PE X e te) (hl:PO X lo tl) (hu:PO X hi th):PE X (.Subscript e (.Slice lo hi none p2) pos) (Wn r te tl th):=by
 intro pins s σ H Q I h;refine Subscript_ (dX (he pins s σ H _ I h) λv s1 #[x,H1,I1,r1,q1]=>?_);refine wpAny_Slice (dX (hl pins s1 σ H1 _ I1 q1) λvl s2 #[l,H2,I2,pl,q2]=>dX (hu pins s2 σ H2 _ I2 q2) λvu s3 #[u,H3,I3,pu,q3]=>?_);rw [evalPart_none];refine bo ?_;have I4:Inv X pins σ H3 {s3 with heap:=s3.heap.push {cls:= .type "slice",data:= .fields (List.toArray [vl,vu,.none])}}:=I3.kept (t':=s3.toks) λb ob q=>bC _ q;obtain ⟨T,id,hT,ht,hg⟩:=hr pins {s3 with heap:=s3.heap.push {cls:= .type "slice",data:= .fields (List.toArray [vl,vu,.none])}} σ H3 x v vl vu l u s3.heap.objs.size Q I4 r1 (Heap.IsSliceOf.new ..) pl pu q3;show wpAny (model X.prog X.w) X.A (subscriptTail e (.Slice lo hi none p2) v (.ref s3.heap.objs.size)) (EP X pins σ Q) X.xe {s3 with heap:=s3.heap.push {cls:= .type "slice",data:= .fields (List.toArray [vl,vu,.none])}};exact tail_any (ops:= [.ref s3.heap.objs.size,v]) ht hT hg (by with_unfolding_all rfl)
def uQ (xs:List V) (lo hi:Option Int):List V:=(xs.drop (HT.D4 xs.length 0 lo)).take (HT.D4 xs.length xs.length hi - HT.D4 xs.length 0 lo)
def Cw (xs:List V) (lo hi:Option Int):(uQ xs lo hi).length<=xs.length:=by
 unfold uQ;rw [hJ,cT];omega
end
def Ql (n:Nat) (i:Int):Option Nat:=if 0<=i then (if i < n then some i.toNat else none) else if -(n:Int)<=i then some (i+n).toNat else none
def Eo {α:Type} (xs:List α) (i:Int):Option α:=(Ql xs.length i).bind λj=>xs[j]?
def L4 {i:Int} (h:Ql n i=some j):seqIndex? i n=some j/\j < n/\ -(n:Int)<=i/\i < n:=by
 unfold Ql at h;by_cases h0:0<=i
 . rw [ah h0] at h;by_cases h1:i < n
   . rw [ah h1] at h;have e:i.toNat=j:=bF h;exists by rw [seqIndex_of h0 h1,e],by omega,by omega,h1
   . rw [ae h1] at h;cases h
 . rw [ae h0] at h;by_cases h1: -(n:Int)<=i
   . rw [ah h1] at h;have e:(i+n).toNat=j:=bF h;exists by rw [seqIndex_neg (by omega) h1,e],by omega,h1,by omega
   . rw [ae h1] at h;cases h
def A5 {xs:List α} {i:Int} {v:α} (h:Eo xs i=some v):∃j,seqIndex? i xs.length=some j/\xs[j]? = some v/\j < xs.length/\ -(xs.length:Int)<=i/\i < xs.length:=by
 unfold Eo at h;cases e:Ql xs.length i with
 | none=>rw [e] at h;cases h
 | some j=>
  rw [e] at h;obtain ⟨h1,h2,h3,h4⟩:=L4 e;exists j,h1,h,h2,h3,h4
def A6 {xs:List α} {v:α} (h:xs[j]? = some v):Eo xs (j:Int)=some v:=by
 have hj:j < xs.length:=(bj.mp h).1;have e:Ql xs.length (j:Int)=some j:=by
  unfold Ql;rw [ah (by omega),ah (by omega)];simp
 unfold Eo;rw [e];exact h
def L5 (b:Expr):= ∀o i,subscripted b false o i=operate [o,i] (getItem o i)
def L6 (X:Cx) (r:R2):Prop:=
 ∀(value slice:Expr) (pins:List (Addr×Obj)) (s:Shared) (σ:St) (H:Hp) (x y:V) (v u:Value) (Q:VK),Inv X pins σ H s->RelV x v->RelV y u->r x y H Q->
  subscripted slice false v u=operate [v,u] (getItem v u)->wpAny (model X.prog X.w) X.A (subscriptTail value slice v u) (EP X pins σ Q) X.xe s
def Lr (X:Cx) (id:String) (r:V->List V->Hp->VK->Prop):Prop:=
 ∀(pins:List (Addr×Obj)) (s:Shared) (σ:St) (H:Hp) (x:V) (xs:List V) (v:Value) (us:List Value) (Q:VK),Inv X pins σ H s->RelV x v->Vals xs us->r x xs H Q->
  wpAny (model X.prog X.w) X.A (call (.builtin id) (v :: us)) (EP X pins σ Q) X.xe s
section
variable {a b:Expr}
def L6.or {r':R2} (h:L6 X r) (h':L6 X r'):L6 X (λx y H Q=>r x y H Q\/r' x y H Q):=by
 intro value slice pins s σ H x y v u Q I rx ry q hs;rcases q with q | q
 . exact h value slice pins s σ H x y v u Q I rx ry q hs
 . exact h' value slice pins s σ H x y v u Q I rx ry q hs
def Lr.or {id:String} {r r':V->List V->Hp->VK->Prop} (h:Lr X id r) (h':Lr X id r'):Lr X id (λx xs H Q=>r x xs H Q\/r' x xs H Q):=by
 intro pins s σ H x xs v us Q I rx rs q;rcases q with q | q
 . exact h pins s σ H x xs v us Q I rx rs q
 . exact h' pins s σ H x xs v us Q I rx rs q
def NF (hr:L6 X r) (ha:PE X a ta) (hb:PE X b tb) (hs:L5 b:=by exact λ_ _=>rfl):PE X (.Subscript a b pos) (SG r ta tb):=by
 intro pins s σ H Q I h;exact Subscript_ (OO ha hb I h λv u s2 x y H2 I2 rx ry q=>hr a b pins s2 σ H2 x y v u Q I2 rx ry q (hs _ _))
def TX (K:Frag):R2:=λx y H Q=> ∃p xs i v,x= .ref p/\y= .int i/\cz K H p xs/\Eo xs i=some v/\Q v H
def Q1 (K:Frag):R2:=λx y H Q=> ∃p xs i v,x= .ref p/\y= .int i/\gS K H p xs/\Eo xs i=some v/\Q v H
def TY:R2:=λx y H Q=> ∃z i c,x= .str z/\y= .int i/\z.length<=sizeLine/\Eo z.cps.toList i=some c/\Q (.str ⟨(List.toArray [c])⟩) H
def bR:L6 X (TX X.K):=by
 intro value slice pins s σ H x y v u Q I rx ry h hs;obtain ⟨p,xs,i,z,rfl,rfl,hq,he,q⟩:=h;cases rx;obtain ⟨t,rfl⟩:=ry;obtain ⟨bV,r,pl,hz⟩:=I.list hq;obtain ⟨j,h1,h2,h3,h4,h5⟩:=A5 he;obtain ⟨w,ew,IZ⟩:=r.get h2;have hl:=r.length;have hn:=uN;have fin:EP X pins σ Q w s:=#[z,H,I,IZ,q];by_cases h0:0<=i
 . have hj:i.toNat=j:=by
    rw [seqIndex_of h0 h5] at h1;exact bF h1
   exact item_listR pl.isList h0 (by omega) (by rw [hj];simpa using ew) fin hs
 . have hj:(i+(bV.toArray.size:Int)).toNat=j:=by
    rw [seqIndex_neg (by omega) h4] at h1;rw [cg,<-hl];exact bF h1
   exact subscriptTail_builtinR (x:=w) pl.isList.typeIs slot_list_getitem.lookup
    (wpAny_getItem_list_neg (Q:=λr s'=>r=w/\EP X pins σ Q r s') pl.isList (by omega) (by rw [cg] <;> omega) (by omega) (by rw [hj];simpa using ew) #[rfl,fin]) hs
def gu:L6 X (Q1 X.K):=by
 intro value slice pins s σ H x y v u Q I rx ry h hs;obtain ⟨p,xs,i,z,rfl,rfl,hq,he,q⟩:=h;cases rx;obtain ⟨t,rfl⟩:=ry;obtain ⟨bV,r,pl,hz⟩:=I.tuple hq;obtain ⟨j,h1,h2,h3,h4,h5⟩:=A5 he;obtain ⟨w,ew,IZ⟩:=r.get h2;have hl:=r.length;have hn:=uN;have fin:EP X pins σ Q w s:=#[z,H,I,IZ,q];exact subscriptTail_builtinR (x:=w) pl.typeIs slot_tuple_getitem.lookup
  (getItem_tuple (j:=j) (Q:=λr s'=>r=w/\EP X pins σ Q r s') pl (by omega) (by omega) (by rw [cg,<-hl];exact h1) (by simpa using ew) #[rfl,fin]) hs
def Ep:L6 X TY:=by
 intro value slice pins s σ H x y v u Q I rx ry h hs;obtain ⟨z,i,c,rfl,rfl,hz,he,q⟩:=h;obtain ⟨t,rfl⟩:=rx;obtain ⟨t',rfl⟩:=ry;obtain ⟨j,h1,h2,h3,h4,h5⟩:=A5 he;have hl:z.cps.toList.length=z.length:=by simp [Str.length]
 rw [hl] at h1 h4 h5;have hn:=uN;exact tail_any (typeIs_str s z t) slot_str_getitem.lookup (getItem_str (c:=c) (by
  have e1:decide (i < -(2 ^ 63:Int))=false:=dD (by omega);have e2:decide (i>=2 ^ 63)=false:=dD (by omega);rw [e1,e2,h_]) (by rw [h1];simpa using h2) #[.str ⟨(List.toArray [c])⟩,H,I.tok _,#[_,rfl],q]) hs
def Inv.lst {p:Addr} (I:Inv X pins σ H s) (h:H p=some (.lst xs)):
 ∃(bV:List Value) (n:Nat),Vals xs bV/\s.heap.get? p=some {cls:= .type "list",data:= .seq bV.toArray n}/\xs.length<=sizeLine:=by
 obtain ⟨z,bV,n,r,e⟩:=I.bQ p _ h;exists bV,n,r,e,z
def A7 (lo hi:Option Int) (n:Nat):(sliceBounds lo hi none n).1=((HT.D4 n 0 lo:Nat):Int)/\(sliceBounds lo hi none n).2.1=((HT.D4 n n hi:Nat):Int)/\(sliceBounds lo hi none n).2.2=1:=by
 exists ?_,?_,U
 . cases lo with
   | none=>simp [sliceBounds,HT.D4]
   | some i=>
    simp only [sliceBounds,HT.D4,Option.getD_none,show (1:Int) > 0 by decide,e_];by_cases h:i < 0
    . simp only [h,e_] <;> omega
    . simp only [h,gP] <;> omega
 . cases hi with
   | none=>simp [sliceBounds,HT.D4]
   | some i=>
    simp only [sliceBounds,HT.D4,Option.getD_none,show (1:Int) > 0 by decide,e_];by_cases h:i < 0
    . simp only [h,e_] <;> omega
    . simp only [h,gP] <;> omega
def zx (bV:List Value) (lo hi:Option Int):slicePick bV.toArray lo hi none=((bV.drop (HT.D4 bV.length 0 lo)).take (HT.D4 bV.length bV.length hi - HT.D4 bV.length 0 lo)).toArray:=by
 obtain ⟨h1,h2,h3⟩:=A7 lo hi bV.toArray.size;unfold slicePick;rw [h1,h2,h3];simp only [sliceRange_one,pick_run,cg] <;> rfl
def TZ (K:Frag):V->Option Int->Option Int->Hp->VK->Prop:=λx lo hi H Q=> ∃a xs,x= .ref a/\cz K H a xs/\∀p,H p=none->Q (.ref p) (upd H p (.lst (uQ xs lo hi)))
def xa:Qk X (TZ X.K):=by
 intro pins s σ H x v vl vu lo hi sl Q I rx hs pl pu h;obtain ⟨a,xs,rfl,hx,q⟩:=h;cases rx;obtain ⟨bV,r,ht,hz⟩:=I.list hx;have hlen:=r.length;exists "list",_,slot_list_getitem.lookup,ht.isList.typeIs,?_;refine wpAny_getItem_list_slice ht.isList hs pl pu .none (by simp) ?_ (by rw [cg] <;> omega);rw [zx,<-hlen];exists .ref s.heap.objs.size,_,I.laid (t':=s.toks) (o:= .lst (uQ xs lo hi)) (λb ob q=>bC _ q) (aw _) ?_,U,q _ (I.bQ.fresh (aw _));exists aP (Cw xs lo hi) hz,_,0,(r.drop (HT.D4 xs.length 0 lo)).take (HT.D4 xs.length xs.length hi - HT.D4 xs.length 0 lo),cD _ U
def iN:V->Bool
 | .cp=>true
 | .bl _=>true
 | .int _=>true
 | .str _=>true
 | _=>false
def Im:V->V->Bool
 | .cp,.cp=>true
 | .bl a,.bl b=>a == b
 | .bl a,.int b=>(if a then 1 else 0) == b
 | .int a,.bl b=>a == (if b then 1 else 0)
 | .int a,.int b=>a == b
 | .str a,.str b=>a == b
 | _,_=>false
def OX {x:V} (ry:RelV y u) (rx:RelV x v) (fy:iN y=true) (fx:iN x=true):SeqAt.EqAt A s u v (Im y x):=by
 cases y with
 | cp=>
  cases ry;cases x with
  | cp=>cases rx;exact SeqAt.EqAt.same _
  | bl b=>cases rx;exact SeqAt.EqAt.none_bool b
  | int b=>obtain ⟨t,rfl⟩:=rx;exact SeqAt.EqAt.none_int b t
  | str b=>obtain ⟨t,rfl⟩:=rx;exact SeqAt.EqAt.none_str b t
  | _=>exact absurd (show false=true from fx) aO
 | bl a=>
  cases ry;cases x with
  | cp=>cases rx;exact SeqAt.EqAt.bool_none a
  | bl b=>cases rx;exact SeqAt.EqAt.bool_bool a b
  | int b=>obtain ⟨t,rfl⟩:=rx;exact SeqAt.EqAt.bool_int a b t
  | str b=>obtain ⟨t,rfl⟩:=rx;exact SeqAt.EqAt.bool_str a b t
  | _=>exact absurd (show false=true from fx) aO
 | int a=>
  obtain ⟨t',rfl⟩:=ry;cases x with
  | cp=>cases rx;exact SeqAt.EqAt.int_none a t'
  | bl b=>cases rx;exact SeqAt.EqAt.int_bool a t' b
  | int b=>obtain ⟨t,rfl⟩:=rx;exact SeqAt.EqAt.int_int a t' b t
  | str b=>obtain ⟨t,rfl⟩:=rx;exact SeqAt.EqAt.int_str a t' b t
  | _=>exact absurd (show false=true from fx) aO
 | str a=>
  obtain ⟨t',rfl⟩:=ry;cases x with
  | cp=>cases rx;exact SeqAt.EqAt.str_none a t'
  | bl b=>cases rx;exact SeqAt.EqAt.str_bool a t' b
  | int b=>obtain ⟨t,rfl⟩:=rx;exact SeqAt.EqAt.str_int a t' b t
  | str b=>obtain ⟨t,rfl⟩:=rx;exact SeqAt.EqAt.str_str a t' b t
  | _=>exact absurd (show false=true from fx) aO
 | _=>exact absurd (show false=true from fy) aO
def D7 (x:V) (u:Value):Bool:=match u with
 | .none=>Im .cp x
 | .bool b=>Im (.bl b) x
 | .int i _=>Im (.int i) x
 | .str z _=>Im (.str z) x
 | _=>false
def A8 {x:V} (r:RelV y u) (f:iN y=true):D7 x u=Im y x:=by
 cases y with
 | cp=>cases r;rfl
 | bl b=>cases r;rfl
 | int i=>obtain ⟨t,rfl⟩:=r;rfl
 | str z=>obtain ⟨t,rfl⟩:=r;rfl
 | _=>exact absurd (show false=true from f) aO
def rW {x:V}:∀{xs:List V} {us:List Value},Vals xs us->xs.all iN=true->us.any (D7 x)=xs.any λy=>Im y x
 | _,_,.nil,_=>rfl
 | y :: xs,u :: us,.cons r t,f=>by
  rw [iZ,c6] at f;rw [i5,i5,A8 r f.1,rW t f.2]
def k8 {x:V} (rx:RelV x v) (fx:iN x=true):∀{xs:List V} {us:List Value},Vals xs us->xs.all iN=true->∀u∈us,SeqAt.EqAt A s u v (D7 x u)
 | _,_,.nil,_=>λu hu=>by cases hu
 | y :: xs,u :: us,.cons r t,f=>λu' hu=>by
  rw [iZ,c6] at f;rcases aE.mp hu with rfl | hu
  . rw [A8 r f.1];exact OX r rx f.1 fx
  . exact k8 rx fx t f.2 u' hu
def inV (x:V) (xs:List V):Bool:=xs.any λy=>Im y x
def Vv (K:Frag) (neg:Bool):R2:=λx y H Q=> ∃p xs,y= .ref p/\(cz K H p xs\/gS K H p xs)/\iN x=true/\xs.all iN=true/\Q (.bl (if neg then !inV x xs else inV x xs)) H
def eC:qh X (compareOp .In) (Vv X.K false):=by
 intro pins s σ H x y v u Q I rx ry h;obtain ⟨p,xs,rfl,hq,fx,fs,q⟩:=h;cases ry;rcases hq with hq | hq
 . obtain ⟨bV,r,pl,hz⟩:=I.list hq;refine SeqAt.in_listAt (D7 x) pl.isList (λw hw=>k8 rx fx r fs w (by simpa using hw)) #[.bl _,H,I,rfl,?_];rw [show bV.toArray.any (D7 x)=bV.any (D7 x) by simp,rW r fs];exact q
 . obtain ⟨bV,r,pl,hz⟩:=I.tuple hq;refine SeqAt.in_tupleAt (D7 x) pl (λw hw=>k8 rx fx r fs w (by simpa using hw)) #[.bl _,H,I,rfl,?_];rw [show bV.toArray.any (D7 x)=bV.any (D7 x) by simp,rW r fs];exact q
def lV:qh X (compareOp .NotIn) (Vv X.K true):=by
 intro pins s σ H x y v u Q I rx ry h;obtain ⟨p,xs,rfl,hq,fx,fs,q⟩:=h;cases ry;rcases hq with hq | hq
 . obtain ⟨bV,r,pl,hz⟩:=I.list hq;refine SeqAt.notIn_listAt (D7 x) pl.isList (λw hw=>k8 rx fx r fs w (by simpa using hw)) #[.bl _,H,I,rfl,?_];rw [show bV.toArray.any (D7 x)=bV.any (D7 x) by simp,rW r fs];exact q
 . obtain ⟨bV,r,pl,hz⟩:=I.tuple hq;refine SeqAt.notIn_tupleAt (D7 x) pl (λw hw=>k8 rx fx r fs w (by simpa using hw)) #[.bl _,H,I,rfl,?_];rw [show bV.toArray.any (D7 x)=bV.any (D7 x) by simp,rW r fs];exact q
def aJ:gh X (.builtin "len") (λxs H Q=> ∃p ys,xs= [.ref p]/\(cz X.K H p ys\/gS X.K H p ys)/\Q (.int ys.length) H):=by
 intro pins s σ H xs us Q I r h;obtain ⟨p,ys,rfl,hq,q⟩:=h;obtain ⟨u,rfl,rx⟩:=vals1 r;cases rx;have hn:=uN;rcases hq with hq | hq
 . obtain ⟨bV,r',pl,hz⟩:=I.list hq;have hlen:=r'.length;exact Calls.call_len_list pl.isList (by simp only [cg] <;> omega) #[.int ys.length,H,I.tok _,#[s.toks+1,by rw [cg,hlen]],q]
 . obtain ⟨bV,r',pl,hz⟩:=I.tuple hq;have hlen:=r'.length;exact len_tuple pl (by simp only [cg] <;> omega) #[.int ys.length,H,I.tok _,#[s.toks+1,by rw [cg,hlen]],q]
def lW:gh X (.builtin "len") (λxs H Q=> ∃z,xs= [.str z]/\z.length<=sizeLine/\Q (.int z.length) H):=by
 intro pins s σ H xs us Q I r h;obtain ⟨z,rfl,hz,q⟩:=h;obtain ⟨u,rfl,t,rfl⟩:=vals1 r;have hn:=uN;exact len_str (by omega) #[.int z.length,H,I.tok _,#[_,rfl],q]
def gh.or {f:Value} {r r':List V->Hp->VK->Prop} (h:gh X f r) (h':gh X f r'):gh X f (λxs H Q=>r xs H Q\/r' xs H Q):=by
 intro pins s σ H xs us Q I rs q;rcases q with q | q
 . exact h pins s σ H xs us Q I rs q
 . exact h' pins s σ H xs us Q I rs q
def fh:gh X (.type "list") (λxs H Q=> ∃p ys,xs= [.ref p]/\(cz X.K H p ys\/gS X.K H p ys)/\∀l,H l=none->Q (.ref l) (upd H l (.lst ys))):=by
 intro pins s σ H xs us Q I r h;obtain ⟨p,ys,rfl,hq,q⟩:=h;obtain ⟨u,rfl,rx⟩:=vals1 r;cases rx;have fin:∀(bV:List Value),Vals ys bV->ys.length<=sizeLine->∀(h':Heap) (c':Nat),(∀b o',s.heap.get? b=some o'->h'.get? b=some o')->
  h'.get? s.heap.objs.size=some {cls:= .type "list",dict:=none,data:= .seq bV.toArray c',slots:= #[]}->EP X pins σ Q (.ref s.heap.objs.size) {s with heap:=h'}:=λbV r' hz h' c' kp e=>
  #[.ref s.heap.objs.size,_,I.laid (t':=s.toks) kp (aw _) (show dc X.prog X.w _ h' _ (.lst ys) from #[hz,bV,c',r',e]),rfl,q _ (I.bQ.fresh (aw _))]
 rcases hq with hq | hq
 . obtain ⟨bV,r',pl,hz⟩:=I.list hq;have hlen:=r'.length;obtain ⟨o,ho,hc,n,hd⟩:=pl.isList;exact call_list_seq p (.inl rfl) ho hc hd (λh' c' kp e=>fin bV r' hz h' c' kp e) (by simp only [cg] <;> omega)
 . obtain ⟨bV,r',pl,hz⟩:=I.tuple hq;have hlen:=r'.length;obtain ⟨o,ho,hc,n,hd⟩:=pl;exact call_list_seq p (.inr rfl) ho hc hd (λh' c' kp e=>fin bV r' hz h' c' kp e) (by simp only [cg] <;> omega)
def SH (K:Frag) (T:String) (x:V) (H:Hp):Prop:=match x with
 | .str _=>T= "str"
 | .int _=>T= "int"
 | .ref p=>(T= "list" /\∃xs,cz K H p xs)\/(T= "tuple" /\∃o,K.lookup p=some o/\o.cls= .type "tuple" /\o.dict=none)\/
  (T= "dict" /\((∃aG,H p=some (.dK aG))\/∃aG,H p=some (.dT aG)))\/(T= "set" /\∃S n,H p=some (.set S n))
 | _=>False
def OY {x:V} (I:Inv X pins σ H s) (r:RelV x v) (ty:SH X.K T x H):
 s.TypeIs v T/\∀a,v= .ref a->∃ob,s.heap.get? a=some ob/\ob.dict=none:=by
 cases x with
 | str z=>
  obtain ⟨t,rfl⟩:=r;cases (show T= "str" from ty);exists typeIs_str s z t,λ_ e=>nomatch e
 | int i=>
  obtain ⟨t,rfl⟩:=r;cases (show T= "int" from ty);exists typeIs_int s i t,λ_ e=>nomatch e
 | ref p=>
  cases r;rcases ty with ⟨rfl,xs,hq⟩ | ⟨rfl,o,hk,hc,hd⟩ | ⟨rfl,hk⟩ | ⟨rfl,S,n,hk⟩
  . obtain ⟨bV,_,pl,_⟩:=I.list hq;exists pl.isList.typeIs,λa e=>?_;cases e;obtain ⟨o,n,e,c,hd,_⟩:=pl;exists o,e,hd
  . exists #[o,I.k6 p o hk,hc],λa e=>?_;cases e;exists o,I.k6 _ o hk,hd
  . have z:∃o,s.heap.get? p=some o/\o.ExactDict:=by
     rcases hk with ⟨aG,hk⟩ | ⟨aG,hk⟩
     . obtain ⟨_,_,_,_,o,_,_,e,ex,_⟩:=I.bQ p _ hk;exists o,e,ex
     . obtain ⟨_,_,_,_,o,_,_,e,ex,_⟩:=I.bQ p _ hk;exists o,e,ex
    obtain ⟨o,e,ex⟩:=z;exists #[o,e,ex.1],λa e2=>?_;cases e2;exists o,e,ex.2.1
  . obtain ⟨o,_,_,_,e,ex,_⟩:=I.bQ p _ hk;exists #[o,e,ex.1],λa e2=>?_;cases e2;exists o,e,ex.2.1
 | _=>exact False.elim ty
def Vw (K:Frag) (T:String) (r:V->List V->Hp->VK->Prop) (to:TE) (t:TA):TE:=λσ H Q=>to σ H λx H1=>SH K T x H1/\t σ H1 λxs H2=>r x xs H2 Q
variable {o:Expr} {to:TE} {t:TA} {name:Str} {id:String} {r:V->List V->Hp->VK->Prop}
def cJ (hm:Lr X id r) (ho:PE X o to) (ha:PA X (e :: es) t) (pa:PlainAttrs T:=by exact tZ) (slot:Slot T name id:=by first | with_reducible exact PySem.F.slot_list_append | with_reducible exact PySem.F.slot_list_extend) (hty:typeOf (.builtin id)=pure (.type "method_descriptor"):=by first | with_reducible exact PySem.F.type_list_append | with_reducible exact PySem.F.type_list_extend) (hbase:attributeBase o name X.env (eval o X.env)=eval o X.env:=by rfl) (hfew:((backTo eR (starEach (e :: es) X.env)).all (λx=>!x.1) && (backToKw eR (keywordEach [] X.env)).all (λx=>x.1.isSome)
 && decide ((e :: es).length+([]:List Keyword).length+(if ([]:List Keyword).isEmpty then 0 else 1) < 30))=true:=by rfl) (hline:(apos.endLine == eR.line)=true:=by rfl) (hs:starEach (e :: es) X.env=(false,eval e X.env) :: starEach es X.env:=by rfl) (hplain:(backTo eR (starEach es X.env)).any (·.1)=false:=by rfl):
  PE X (.Call (.Attribute o name apos) (e :: es) [] eR) (Vw X.K T r to t):=by
  intro pins s σ H Q I h;refine wpAny_Call_method_late hbase hfew hline rfl (dX (ho pins s σ H _ I h) λv s1 #[x,H1,I1,r1,ty,q1]=>?_);obtain ⟨h1,h2⟩:=OY I1 r1 ty;exists T,id,pa,slot,hty,h1,h2,?_;have hA:=ha eR pins s1 σ H1 _ I1 q1;rw [hs] at hA ⊢;refine Calls.callWith_builtin (by show (false || (backTo eR (starEach es X.env)).any (·.1))=false;rw [hplain] <;> rfl) (Calls.evalArgs_plain ?_);exact dX hA λus s2 #[vs,H2,I2,r2,q2]=>hm pins s2 σ H2 x vs v us Q I2 r1 r2 q2
end
def Vx (X:Cx) (id:String) (r:V->List V->Hp->VK->Prop):Prop:=
 ∀(pins:List (Addr×Obj)) (s:Shared) (σ:St) (H:Hp) (x:V) (xs:List V) (v:Value) (us:List Value) (Q:VK),Inv X pins σ H s->RelV x v->Vals xs us->r x xs H Q->
  wpAny (model X.prog X.w) X.A (call (.builtin id) (v :: us)) (EP X pins σ Q) X.xe s
def Vals.one:∀{x:V} {us:List Value},Vals [x] us->∃u,us= [u]/\RelV x u
 | _,_,.cons r .nil=>#[_,rfl,r]
def Vals.zero:∀{us:List Value},Vals [] us->us= []
 | _,.nil=>rfl
section
variable {zs:List V}
def Inv.Q2 {its':List Value} {f:Array Value->Array Value} (I:Inv X pins σ H s) (hH:H l=some (.lst xs)) (e:s.heap.get? l=some {cls:= .type "list",data:= .seq bV.toArray n}) (hf:f bV.toArray=its'.toArray) (hv:Vals ys its') (hz:ys.length<=sizeLine):
 Inv X pins σ (upd H l (.lst ys)) {s with heap:=s.heap.update l (Obj.mapSeq f),toks:=t'}:=by
 have q:=IsL.update e f;rw [hf] at q;refine I.write (x:=l) (e:=l) (by rw [hH];exact trivial) (.inl rfl) (λb' u hb hu=>(jc s.heap (Obj.mapSeq f) (bY hb)).trans hu) #[_,q] ?_;exists hz,its',_,hv,q
def Inv.T3 (I:Inv X pins σ H s) (hv:Vals ys bV) (hz:ys.length<=sizeLine):
 Inv X pins σ (upd H s.heap.objs.size (.lst ys)) {s with heap:=s.heap.push {cls:= .type "list",data:= .seq bV.toArray},toks:=t'}:=
 I.laid (λ_ _ q=>bC _ q) (aw _) #[hz,bV,0,hv,cD _ rfl]
def Inv.fresh (I:Inv X pins σ H s):H s.heap.objs.size=none:=I.bQ.fresh (aw _)
def Inv.L7 (I:Inv X pins σ H s) (hH:H l=some (.lst xs)):xs.length<=sizeLine/\∃(bV:List Value) (n:Nat),Vals xs bV/\xs.length=bV.length/\s.heap.get? l=some {cls:= .type "list",data:= .seq bV.toArray n}:=by
 obtain ⟨z,bV,n,r,e⟩:=I.bQ l _ hH;exists z,bV,n,r,r.length,e
def I0 (h:n<=sizeLine):Builtin.List.listTooLong n=false:=by
 unfold Builtin.List.listTooLong;exact dD (by omega)
end
section
def L8:V->List V->Hp->VK->Prop:=λx vs H Q=> ∃l xs y,x= .ref l/\vs= [y]/\H l=some (.lst xs)/\xs.length < sizeLine/\Q .cp (upd H l (.lst (xs++ [y])))
def bN:Vx X "list.append" L8:=by
 intro pins s σ H x vs v us Q I rx rv h;obtain ⟨l,xs,y,rfl,rfl,hH,hz,q⟩:=h;cases rx;obtain ⟨u,rfl,ru⟩:=rv.one;obtain ⟨z,bV,n,r,hl,e⟩:=I.L7 hH;refine call_meets F.slot_list_append #[_,e,rfl] F.entry_list_append (F.args_list_append_2 _ _) (list_append l bV.toArray n u (by rw [cg];omega)) #[e,?_];exists .cp,_,I.Q2 (its':=bV++ [u]) hH e (by simp) (r.append (.cons ru .nil)) ?_,U,q;rw [ao,aC];omega
def L9:V->List V->Hp->VK->Prop:=λx vs H Q=> ∃l b xs zs,x= .ref l/\vs= [.ref b]/\H l=some (.lst xs)/\H b=some (.lst zs)/\xs.length+zs.length<=sizeLine/\Q .cp (upd H l (.lst (xs++zs)))
def dA:Vx X "list.extend" L9:=by
 intro pins s σ H x vs v us Q I rx rv h;obtain ⟨l,b,xs,zs,rfl,rfl,hH,hB,hz,q⟩:=h;cases rx;obtain ⟨u,rfl,ru⟩:=rv.one;cases ru;obtain ⟨z,bV,n,r,hl,e⟩:=I.L7 hH;obtain ⟨z2,its2,n2,r2,hl2,e2⟩:=I.L7 hB;have hsz:bV.toArray.size+its2.toArray.size<=sizeLine:=by rw [cg,cg];omega
 have Q3:¬(!bV.toArray.isEmpty && Builtin.List.listTooLong (bV.toArray.size+its2.toArray.size))=true:=by
  rw [I0 hsz,Bool.and_false];exact aO
 refine call_meets F.slot_list_extend #[_,e,rfl] F.entry_list_extend (F.args_list_extend_2 _ _)
  (AutoSeq1.list_extend_list_list_0 l bV.toArray n b its2.toArray n2 Q3 (by rw [cg];omega) (by omega)) #[e,e2,?_]
 exists .cp,_,I.Q2 (its':=bV++its2) hH e (by simp) (r.append r2) ?_,U,q;rw [ao];omega
end
section
set_option maxRecDepth 100000 in
end
def Vals.ints:∀{ns:List Int} {us:List Value},Vals (ns.map V.int) us->IntsAre us ns
 | [],us,h=>by
  rw [cO] at h;cases h;exact IntsAre.nil
 | n :: ns,us,h=>by
  rw [bI] at h;cases h with
  | cons r t=>
   obtain ⟨k,rfl⟩:=r;exact IntsAre.cons n k (Vals.ints t)
def Vals.Vy:∀{bs:List Bool} {us:List Value},Vals (bs.map V.bl) us->us=bs.map Value.bool
 | [],us,h=>by
  rw [cO] at h;cases h;rfl
 | b :: bs,us,h=>by
  rw [bI] at h;cases h with
  | cons r t=>
   cases r;rw [Vals.Vy t,bI]
def Vals.L_ (r:Vals [V.ref a] us):us= [Value.ref a]:=by
 cases r with
 | cons r t=>
  cases t;cases r;rfl
def Vals.T4 {i j:Int} (r:Vals [V.int i,V.int j] us):∃t u,us= [Value.int i t,Value.int j u]:=by
 cases r with
 | cons r t=>
  cases t with
  | cons r2 t2=>
   cases t2;obtain ⟨t,rfl⟩:=r;obtain ⟨u,rfl⟩:=r2;exists t,u,U
section
variable {ns:List Int}
def L' (hh:A.handled=none) (hl:s.heap.IsList l bV.toArray) (hi:IntsAre bV ns) (kg:0 < ns.length) (h:∀h' tk M t',(∀b o,s.heap.get? b=some o->h'.get? b=some o)->M∈ns->(∀a,a∈ns->a<=M)->Q (.int M t') {s with heap:=h',toks:=tk}):wpAny (model prog w) A (call (.builtin "max") [.ref l]) Q E s:=by
 obtain ⟨xs,e⟩:=hi.allInts.items;have hn:numsOf (intItems xs).toList=ns:=by rw [<-e];exact hi.numsOf
 rw [nums_intItems] at hn;subst hn;rw [e] at hl;have hsz:0 < xs.size:=by simpa using kg
 refine max_intList hh hl hsz λv h' tk hv hk=>?_;obtain ⟨t,rfl⟩:=intItems_at hv;obtain ⟨h1,h2⟩:=argBest_gt (numAt xs) (xs.size - 1);refine h h' tk _ t hk ?_ λa ha=>?_
 . rw [numAt_eq];exact getD_mem (by rw [aB,kF];omega)
 . obtain ⟨j,hj,rfl⟩:=mem_getD ha;rw [aB,kF] at hj;rw [<-numAt_eq];exact h2 j (by omega)
def Ma (hh:A.handled=none) (hl:s.heap.IsList l bV.toArray) (hi:IntsAre bV ns) (kg:0 < ns.length) (h:∀h' tk M t',(∀b o,s.heap.get? b=some o->h'.get? b=some o)->M∈ns->(∀a,a∈ns->M<=a)->Q (.int M t') {s with heap:=h',toks:=tk}):wpAny (model prog w) A (call (.builtin "min") [.ref l]) Q E s:=by
 obtain ⟨xs,e⟩:=hi.allInts.items;have hn:numsOf (intItems xs).toList=ns:=by rw [<-e];exact hi.numsOf
 rw [nums_intItems] at hn;subst hn;rw [e] at hl;have hsz:0 < xs.size:=by simpa using kg
 refine min_intList hh hl hsz λv h' tk hv hk=>?_;obtain ⟨t,rfl⟩:=intItems_at hv;obtain ⟨h1,h2⟩:=argBest_lt (numAt xs) (xs.size - 1);refine h h' tk _ t hk ?_ λa ha=>?_
 . rw [numAt_eq];exact getD_mem (by rw [aB,kF];omega)
 . obtain ⟨j,hj,rfl⟩:=mem_getD ha;rw [aB,kF] at hj;rw [<-numAt_eq];exact h2 j (by omega)
end
section
def T5 (K:Frag):List V->Hp->VK->Prop:=λvs H Q=> ∃(a:Addr) (ns:List Int),vs= [V.ref a]/\cz K H a (ns.map V.int)/\0 < ns.length/\∀m,m∈ns->(∀y,y∈ns->y<=m)->Q (.int m) H
def T6 (K:Frag):List V->Hp->VK->Prop:=λvs H Q=> ∃(a:Addr) (ns:List Int),vs= [V.ref a]/\cz K H a (ns.map V.int)/\0 < ns.length/\∀m,m∈ns->(∀y,y∈ns->m<=y)->Q (.int m) H
def OZ (hc:X.calm=true):gh X (.builtin "max") (T5 X.K):=by
 intro pins s σ H vs us Q I r h;obtain ⟨a,ns,rfl,hs,kg,q⟩:=h;obtain ⟨bV,rv,hl,_⟩:=I.list hs;rw [Vals.L_ r];exact L' (I.ok.hd hc) hl.isList rv.ints kg λh' tk m t' hk h1 h2=>#[.int _,H,I.kept hk,#[_,rfl],q m h1 h2]
def O0 (hc:X.calm=true):gh X (.builtin "min") (T6 X.K):=by
 intro pins s σ H vs us Q I r h;obtain ⟨a,ns,rfl,hs,kg,q⟩:=h;obtain ⟨bV,rv,hl,_⟩:=I.list hs;rw [Vals.L_ r];exact Ma (I.ok.hd hc) hl.isList rv.ints kg λh' tk m t' hk h1 h2=>#[.int _,H,I.kept hk,#[_,rfl],q m h1 h2]
end
section
def I_ (K:Frag):V->List V->Hp->VK->Prop:=λx xs H Q=> ∃(a:Addr) (ys:List V) (y:V) (j:Nat) (z:V),x=V.ref a/\xs= [y]/\cz K H a ys/\iN y=true/\ys.all iN=true/\ys[j]? = some z/\Im z y=true/\
 (∀(m:Nat) (z':V),m < j->ys[m]? = some z'->Im z' y=false)/\Q (.int (j:Nat)) H
def F3 (f:ys.all iN=true) {z:V} (h:ys[j]? = some z):iN z=true:=c7.mp f z (bc h)
def Ja:Lr X "list.index" (I_ X.K):=by
 intro pins s σ H x xs v us Q I rx Wo h;obtain ⟨a,ys,y,j,z,rfl,rfl,hs,fy,T7,hz,Wq,k9,q⟩:=h;cases rx;cases Wo with
 | cons ry rt=>
  rename_i uy ut;cases rt;obtain ⟨bV,rv,⟨⟨cls,dd,data,sl⟩,n,ho,hc,hdn,hd⟩,hlen⟩:=I.list hs;simp only at hc hd;subst hc hd;obtain ⟨u,hu,ru⟩:=rv.get hz;obtain ⟨hjl,Wr⟩:=bj.mp hu;have hvl:=rv.length;have hj:j < bV.toArray.size:=by simpa using hjl
  have hsl:=kY;refine call_meets t9 #[_,ho,rfl] PySem.F.entry_list_index (PySem.F.args_list_index_2 _ _)
   (SeqAt.list_indexAt a bV.toArray n dd sl uy (D7 y) j hj (by omega) ?_ ?_) #[ho,λu' hu'=>k8 ry fy rv T7 u' (by simpa using hu'),?_]
  . have e1:bV.toArray[j]=u:=by simpa using Wr
    rw [e1,A8 ru (F3 T7 hz)];exact Wq
  . intro m hm Ws;have SJ:m < bV.length:=by simpa using hm
    have Wt:m < ys.length:=by omega
    have hy':ys[m]? = some ys[m]:=bB Wt;obtain ⟨u2,hu2,T8⟩:=rv.get hy';obtain ⟨_,Wu⟩:=bj.mp hu2;have e1:bV.toArray[m]=u2:=by simpa using Wu
    rw [e1,A8 T8 (F3 T7 hy')];exact k9 m _ Ws hy'
  . exists .int (j:Nat),H,I.tok _,#[_,U],q
end
def Jb (hl:s.heap.IsList l items) (h:∀s₂:Shared,s₂={s with heap:=s.heap.push {cls:= .type "list_iterator",data:= .fields (List.toArray [.ref l,.int 0 0])}}->
 (s₂.heap.IsListIter s.heap.objs.size l 0/\s₂.heap.IsList l items)->l≠s.heap.objs.size->Q (.ref s.heap.objs.size) s₂):wpAny (model prog w) A (pyIter (.ref l)) Q E s:=by
 have gZ:l < s.heap.objs.size:=by obtain ⟨_,e,_⟩:=hl;exact aH e
 exact uo hl (h _ rfl #[#[_,cD _ rfl,rfl,rfl],hl.push _] (a9 gZ))
def Cy {bs:List Bool} (e:bV=bs.map Value.bool):
 TruthOf prog w A (λi v=>bV.toArray[i]? = some v) (λi=>bs.getD i false):=λi v s Q E hv hq=>by
 have hv':bV[i]? = some v:=by simpa using hv
 rw [e,bz] at hv';obtain ⟨b,hb,rfl⟩:=gm.mp hv';have hg:bs.getD i false=b:=by rw [List.getD_eq_getElem?_getD,hb] <;> rfl
 have hq':Q (bs.getD i false) s:=hq;rw [hg] at hq';exact m_ hq'
def all_range:∀bs:List Bool,(List.range bs.length).all (λi=>bs.getD i false)=bs.all id
 | []=>rfl
 | b :: bs=>by
  rw [aT,List.range_succ_eq_map,iZ,List.all_map,iZ,<-all_range bs];all_goals rfl
section
def T9 (K:Frag):List V->Hp->VK->Prop:=λvs H Q=> ∃(a:Addr) (bs:List Bool),vs= [V.ref a]/\cz K H a (bs.map V.bl)/\Q (.bl (bs.all id)) H
def O1 (hc:X.calm=true):gh X (.builtin "all") (T9 X.K):=by
 intro pins s σ H vs us Q I r h;obtain ⟨a,bs,rfl,hs,q⟩:=h;obtain ⟨bV,rv,hl,_⟩:=I.list hs;rw [Vals.L_ r];have hb:=rv.Vy;refine call_all_walk (Jb hl.isList λs₂ e2 st kg=>?_);subst e2;exists _,_,_,_,_,_,_,U,Walks.list (A:=X.A.in1) (I.ok.hd hc) _ a kg bV.toArray,st,Cy hb,λh' tk hk=>?_;exists .bl _,H,I.kept λb o eo=>hk b o (λhmem=>?_) (bC _ eo),?_,q
 . rcases aE.mp hmem with e1 | hmem
   . exact absurd (e1 ▸ aH eo) (cN _)
   . cases hmem
 . show Value.bool _=Value.bool _;rw [<-all_range,hb,cg,aB]
end
mutual
inductive Dp (K:Frag) (H:Hp):V->PyData->Prop
 | cp:Dp K H .cp .none
 | bl (b:Bool):Dp K H (.bl b) (.bool b)
 | int (i:Int):Dp K H (.int i) (.int i)
 | str (x:Str):Dp K H (.str x) (.str x)
 | lst {a:Addr} {xs:List V} {ds:List PyData}:cz K H a xs->xN K H xs ds->Dp K H (.ref a) (.list ds)
 | tup {a:Addr} {xs:List V} {ds:List PyData}:gS K H a xs->xN K H xs ds->Dp K H (.ref a) (.tuple ds)
inductive xN (K:Frag) (H:Hp):List V->List PyData->Prop
 | nil:xN K H [] []
 | cons {v:V} {vs:List V} {d:PyData} {ds:List PyData}:Dp K H v d->xN K H vs ds->xN K H (v :: vs) (d :: ds)
end
section
mutual
def Dp.reads (I:Inv X pins σ H s):∀(d:PyData) (v:V) (u:Value),Dp X.K H v d->RelV v u->∃as,Reads s.heap u d as
 | .none,_,_,h,r=>by
  cases h;cases r;exists _,Reads.none
 | .bool b,_,_,h,r=>by
  cases h;cases r;exists _,Reads.bool b
 | .int i,_,_,h,r=>by
  cases h;obtain ⟨t,rfl⟩:=r;exists _,Reads.int i t
 | .str x,_,_,h,r=>by
  cases h;obtain ⟨t,rfl⟩:=r;exists _,Reads.str x t
 | .list ds,_,_,h,r=>by
  cases h with
  | lst hs ha=>
   cases r;obtain ⟨bV,rv,⟨o,n,ho,hc,_,hd⟩,_⟩:=I.list hs;obtain ⟨as,hr⟩:=Dp.readsAll I ds _ bV ha rv;exists _,Reads.list ho hc hd hr
 | .tuple ds,_,_,h,r=>by
  cases h with
  | tup hs ha=>
   cases r;obtain ⟨bV,rv,⟨o,ho,hc,n,hd⟩,_⟩:=I.tuple hs;obtain ⟨as,hr⟩:=Dp.readsAll I ds _ bV ha rv;exists _,Reads.tuple ho hc hd hr
 | .dict _,_,_,h,_=>by cases h
def Dp.readsAll (I:Inv X pins σ H s):∀(ds:List PyData) (vs:List V) (us:List Value),xN X.K H vs ds->Vals vs us->∃as,ReadsAll s.heap us ds as
 | [],_,_,h,r=>by
  cases h;cases r;exists _,ReadsAll.nil
 | d :: ds,_,_,h,r=>by
  cases h with
  | cons h1 h2=>
   cases r with
   | cons r1 r2=>
    obtain ⟨as,q1⟩:=Dp.reads I d _ _ h1 r1;obtain ⟨bs,q2⟩:=Dp.readsAll I ds _ _ h2 r2;exists _,ReadsAll.cons q1 q2
end
end
section
def T_ (K:Frag):R2:=λx y H Q=> ∃d e,Dp K H x d/\Dp K H y e/\SeqAt.shaped d=true/\SeqAt.shaped e=true/\Q (.bl (PyData.eqv d e)) H
def Jc (hu:X.A.units+64 < cLine):qh X (compareOp .Eq) (T_ X.K):=by
 intro pins s σ H x y v u Q I rx ry h;obtain ⟨d,e,hd,he,sd,se,q⟩:=h;obtain ⟨as,r1⟩:=Dp.reads I d x v hd rx;obtain ⟨bs,r2⟩:=Dp.reads I e y u he ry;exact SeqAt.compareEq_shaped r1 r2 sd se hu #[.bl _,H,I,rfl,q]
end
abbrev Jd (h:Heap) (c:Addr) (v:Option Value):=h.IsCell c v
def Ua (scope sc:Scope):Scope:=
 {scope with names:=scope.names.map λ(n,k)=>if (k == .free && sc.kind == .function && sc.names.lookup n == some .cell) then (n,.cell) else (n,k)}
def cq (cells:List (Str×Addr)):List (Str×NameKind)->List (Str×Addr)->List (Str×Addr)
 | [],acc=>acc
 | (n,k) :: r,acc=>if k == .free then cq cells r ((n,(cells.lookup n).getD 0) :: acc) else cq cells r acc
def rX (env:Env) (f:Str×NameKind->List (Str×Addr)->Sem (ForInStep (List (Str×Addr)))) (hf:∀n k c,f (n,k) c=if k == .free then (do let a<-cellOf env n;pure (.yield ((n,a) :: c))) else pure (.yield c)):
 ∀(names:List (Str×NameKind)) (acc:List (Str×Addr)),(∀y∈names,y.2= .free->∃c,env.cells.lookup y.1=some c)->forIn names acc f=pure (cq env.cells names acc)
 | [],acc,_=>by rw [List.forIn_nil];rfl
 | (n,k) :: r,acc,h=>by
  rw [List.forIn_cons,hf];have ih:=λacc=>rX env f hf r acc λy hy=>h y (aW _ hy);unfold cq;by_cases hk:(k == NameKind.free)=true
  . rw [ah hk,ah hk];obtain ⟨c,hc⟩:=h (n,k) bi (by simpa using hk);have e:cellOf env n=pure c:=by unfold cellOf;rw [hc]
    rw [e];have e2:(env.cells.lookup n).getD 0=c:=by rw [hc];rfl
    rw [e2];exact ih _
  . rw [ae hk,ae hk];exact ih _
def xO (h:∀y∈scope.names,y.2= .free->∃c,env.cells.lookup y.1=some c):closureFor scope env=pure (cq env.cells scope.names []):=by
 simp only [closureFor];rw [rX env _ (λn k c=>rfl) scope.names [] h];rfl
def mem_lookup:∀{l:List (Str×α)} {n:Str} {c:α},(n,c)∈l->∃c',l.lookup n=some c'
 | (k,v) :: r,n,c,h=>by
  rw [eO];cases hb:n == k with
  | true=>exists _,U
  | false=>
   rcases aE.mp h with e | h
   . cases e;simp at hb
   . exact mem_lookup h
def jO:∀{names:List (Str×NameKind)} {acc:List (Str×Addr)} {n:Str} {c:Addr},(n,c)∈cq cells names acc->(n,c)∈acc\/((n,.free)∈names/\c=(cells.lookup n).getD 0)
 | [],_,_,_,h=> .inl h
 | (m,k) :: r,acc,n,c,h=>by
  unfold cq at h;split at h
  . rename_i hk;have hk:k= .free:=by simpa using hk
    rcases jO h with h | ⟨h1,h2⟩
    . rcases aE.mp h with e | h
      . cases e;exact .inr #[hk ▸ bi,rfl]
      . exact .inl h
    . exact .inr #[aW _ h1,h2]
  . rcases jO h with h | ⟨h1,h2⟩
    . exact .inl h
    . exact .inr #[aW _ h1,h2]
def nj:∀{names:List (Str×NameKind)} {acc:List (Str×Addr)} {p:Str×Addr},p∈acc->p∈cq cells names acc
 | [],_,_,h=>h
 | (m,k) :: r,acc,p,h=>by
  unfold cq;split
  . exact nj (aW _ h)
  . exact nj h
def nq:∀{names:List (Str×NameKind)} {acc:List (Str×Addr)} {n:Str},(n,.free)∈names->(n,(cells.lookup n).getD 0)∈cq cells names acc
 | (m,k) :: r,acc,n,h=>by
  unfold cq;rcases aE.mp h with e | h
  . cases e;exact nj bi
  . split
    . exact nq h
    . exact nq h
def k_:∀{names:List (Str×NameKind)} {h:Heap} {acc:List (Str×Addr)} {x:Str} {c:Addr},(x,c)∈cellsFrom h.objs.size names acc->
 (x,c)∈acc\/((x,.cell)∈names/\h.objs.size<=c/\Jd (pushCells h names) c none)
 | [],_,_,_,_,h=> .inl h
 | (n,k) :: r,h,acc,x,c,hm=>by
  unfold cellsFrom at hm;unfold pushCells;split at hm
  . rename_i hk;rw [ah hk];have hk:k= .cell:=by simpa using hk
    rw [<-cV h {cls:= .type "cell",data:= .cell none}] at hm;rcases k_ hm with hm | ⟨h1,h2,h3⟩
    . rcases aE.mp hm with e | hm
      . cases e;exact .inr #[hk ▸ bi,aw _,_,kN r _ _ _ (cD _ rfl),rfl]
      . exact .inl hm
    . rw [cV] at h2;exact .inr #[aW _ h1,oZ h2,h3]
  . rename_i hk;rw [ae hk];rcases k_ hm with hm | ⟨h1,h2,h3⟩
    . exact .inl hm
    . exact .inr #[aW _ h1,h2,h3]
def pG:∀{names:List (Str×NameKind)} {n:Nat} {acc:List (Str×Addr)} {p:Str×Addr},p∈acc->p∈cellsFrom n names acc
 | [],_,_,_,h=>h
 | (m,k) :: r,n,acc,p,h=>by
  unfold cellsFrom;split
  . exact pG (aW _ h)
  . exact pG h
def uR:∀{names:List (Str×NameKind)} {n:Nat} {acc:List (Str×Addr)} {x:Str},(x,.cell)∈names->∃c,(x,c)∈cellsFrom n names acc
 | (m,k) :: r,n,acc,x,h=>by
  unfold cellsFrom;rcases aE.mp h with e | h
  . cases e;exists n,pG bi
  . split
    . exact uR h
    . exact uR h
def uS:∀{names:List (Str×NameKind)} {h:Heap} {acc:List (Str×Addr)} {x y:Str} {c:Addr},(∀p∈acc,p.2 < h.objs.size)->(∀x y c,(x,c)∈acc->(y,c)∈acc->x=y)->
 (x,c)∈cellsFrom h.objs.size names acc->(y,c)∈cellsFrom h.objs.size names acc->x=y
 | [],_,_,_,_,_,_,hi,h1,h2=>hi _ _ _ h1 h2
 | (n,k) :: r,h,acc,x,y,c,hl,hi,h1,h2=>by
  unfold cellsFrom at h1 h2;split at h1
  . rename_i hk;rw [ah hk] at h2;rw [<-cV h {cls:= .type "cell",data:= .cell none}] at h1 h2;refine uS (h:=h.push _) (λp hp=>?_) (λx y c a b=>?_) h1 h2
    . rw [cV];rcases aE.mp hp with rfl | hp
      . exact du _
      . exact o0 (hl p hp)
    . rcases aE.mp a with e | a <;> rcases aE.mp b with e' | b
      . cases e;cases e';rfl
      . cases e;exact absurd (hl _ b) (cN _)
      . cases e';exact absurd (hl _ a) (cN _)
      . exact hi _ _ _ a b
  . rename_i hk;rw [ae hk] at h2;exact uS hl hi h1 h2
def vK {globals:Addr} {closure:List (Str×Addr)} {func:Option Addr} {code:Value} {around:Env} {builtins:Addr} {Q:Env->Shared->Prop} (h:Q (newEnv scope s.heap.objs.size globals (cellsFrom (s.heap.objs.size+1) scope.names closure) qual func code (some around) builtins)
 {s with heap:=pushCells (s.heap.push {cls:= .type "dict",data:= .dict #[]}) scope.names}):
 wpAny M A (newFunctionEnv scope globals closure [] qual func code (some around) builtins) Q E s:=by
 simp only [newFunctionEnv,Option.isSome_some,e_];refine az (wpAny_alloc ?_);refine az (wpAny_layCells _ (λn k c=>rfl) scope.names closure _ _ ?_);rw [show ({s with heap:=s.heap.push {cls:= .type "dict",data:= .dict #[]}}:Shared).heap.objs.size=s.heap.objs.size+1 from cV ..];rw [List.forIn_nil];exact az (bo (bo h))
def nu {sc:Scope}:∀{names:List (Str×NameKind)} {x:Str} {k:NameKind},
 (names.map λ(n,k)=>if (k == NameKind.free && sc.kind == .function && sc.names.lookup n == some .cell) then (n,NameKind.cell) else (n,k)).lookup x=some k->
 ∃k',names.lookup x=some k'/\(k=k'\/(k'= .free/\k= .cell))
 | [],_,_,h=>by simp at h
 | (n,k₀) :: r,x,k,h=>by
  have ih:=@nu sc r x k;have h':List.lookup x ((if (k₀ == NameKind.free && sc.kind == .function && sc.names.lookup n == some .cell)=true then (n,NameKind.cell) else (n,k₀)) :: (r.map _))=some k:=h;cases hx:x == n with
  | true=>
   simp only [eO,hx];by_cases hc:(k₀ == NameKind.free && sc.kind == .function && sc.names.lookup n == some .cell)=true
   . rw [ah hc] at h';simp only [eO,hx] at h';cases h';simp only [c6,bO] at hc;exists k₀,U,.inr #[hc.1.1,U]
   . rw [ae hc] at h';simp only [eO,hx] at h';cases h';exists _,U,.inl U
  | false=>
   simp only [eO,hx];by_cases hc:(k₀ == NameKind.free && sc.kind == .function && sc.names.lookup n == some .cell)=true
   . rw [ah hc] at h';simp only [eO,hx] at h';exact ih h'
   . rw [ae hc] at h';simp only [eO,hx] at h';exact ih h'
structure xP (N:List Str) (sc scope:Scope) (own:List (Str×Nat)):Prop where
 kind:scope.kind= .function
 uniq:∀y∈scope.names,scope.names.lookup y.1=some y.2
 ix:∀p∈own,N[p.2]? = some p.1
 free:∀y∈scope.names,y.2= .free->sc.names.lookup y.1=some .cell\/sc.names.lookup y.1=some .free
 own:∀y∈scope.names,y.2= .local\/y.2= .cell->y.1∈own.map (·.1)\/y.1∉N
def wipe (σ:St):List Nat->St
 | []=>σ
 | v :: vs=>(wipe σ vs).set v none
def jP (σ:St):∀vs:List Nat,(wipe σ vs).length=σ.length
 | []=>rfl
 | v :: vs=>by unfold wipe;rw [List.length_set,jP σ vs]
def pH {x:V}:∀{vs:List Nat},(wipe σ vs)[i]? = some (some x)->σ[i]? = some (some x)/\i∉vs
 | [],h=>#[h,by simp]
 | v :: vs,h=>by
  unfold wipe at h;by_cases hi:v=i
  . subst hi;by_cases hv:v < (wipe σ vs).length
    . rw [rO hv] at h;cases h
    . rw [List.getElem?_eq_none (by simpa using hv)] at h;cases h
  . rw [uf hi] at h;obtain ⟨h1,h2⟩:=pH h;exists h1,by simp only [aE,not_or];exists λe=>hi e.symm,h2
abbrev Cx.blk (X:Cx) (s:Shared) (H:Hp) (scope:Scope) (fQ:Env) (fp:List Addr):Cx:={X with pE:=s,Lq:=H,env:=fQ,outer:=X.stack,ex:=fp,fn:=λx=>scope.names.lookup x == some .cell,pn:= [],xe:=λ_ _=>False}
section
def vL (I:Inv X pins σ H s) (ok:xP X.N X.env.scope scope own) (hN:X.N.Nodup) (hfp:∀b∈fp,k7 X pins H b/\b < s.heap.objs.size):
 Inv (X.blk s H scope (compEnvC scope (cellsFrom (s.heap.objs.size+1) scope.names (cq X.env.cells scope.names [])) s.heap.objs.size X.env) fp) [] (wipe σ (own.map (·.2))) H {s with heap:=pushCells (s.heap.push {cls:= .type "dict",data:= .dict #[]}) scope.names}:=by
 have hfree:∀y∈scope.names,y.2= .free->∃c,X.env.cells.lookup y.1=some c:=λy hy e=>by
  rcases ok.free y hy e with k | k
  . exact I.ok.has _ (.inl k)
  . exact I.ok.has _ (.inr k)
 generalize Cz:compEnvC scope (cellsFrom (s.heap.objs.size+1) scope.names (cq X.env.cells scope.names [])) s.heap.objs.size X.env=fQ;have kp:∀b o,s.heap.get? b=some o->(pushCells (s.heap.push {cls:= .type "dict",data:= .dict #[]}) scope.names).get? b=some o:=λb o e=>kN _ _ _ _ (bC _ e);have hL:fQ.locals=s.heap.objs.size:=by rw [<-Cz];rfl
 have hcl:fQ.cells=cellsFrom (s.heap.objs.size+1) scope.names (cq X.env.cells scope.names []):=by rw [<-Cz];rfl
 have hsc:fQ.scope=Ua scope X.env.scope:=by rw [<-Cz];rfl
 rw [<-cV s.heap {cls:= .type "dict",data:= .dict #[]}] at hcl;have cm:∀{y c},(y,c)∈cq X.env.cells scope.names []->X.env.cells.lookup y=some c/\c < s.heap.objs.size:=λ{y c} hm=>by
  rcases jO hm with hm | ⟨h1,rfl⟩
  . cases hm
  . obtain ⟨c,hc⟩:=hfree _ h1 rfl;rw [hc];obtain ⟨w,z⟩:=I.cell _ _ hc;exists U,z.lt
 have mem:∀{y c},fQ.cells.lookup y=some c->(X.env.cells.lookup y=some c/\c < s.heap.objs.size)\/(s.heap.objs.size+1<=c/\Jd (pushCells (s.heap.push {cls:= .type "dict",data:= .dict #[]}) scope.names) c none):=λ{y c} e=>by
  rw [hcl] at e;rcases k_ (mem_of_lookup e) with hm | ⟨_,h2,h3⟩
  . exact .inl (cm hm)
  . rw [cV] at h2;exact .inr #[h2,h3]
 have look:∀{y},scope.names.lookup y=some .free->∃c,fQ.cells.lookup y=some c/\X.env.cells.lookup y=some c:=λ{y} hl=>by
  have hy:(y,NameKind.free)∈scope.names:=mem_of_lookup hl;obtain ⟨c',e'⟩:=mem_lookup (pG (names:=scope.names) (n:=(s.heap.push {cls:= .type "dict",data:= .dict #[]}).objs.size) (nq (cells:=X.env.cells) (acc:= []) hy));rw [<-hcl] at e';exists c',e',?_;rw [hcl] at e';rcases k_ (mem_of_lookup e') with hm | ⟨h1,_,_⟩
  . exact (cm hm).1
  . have:=ok.uniq _ h1;rw [hl] at this;cases this
 have Wv:(X.blk s H scope fQ fp).Ok:=by
  exists I.ok.mod,by show fQ.scope.kind=_;rw [hsc];exact ok.kind,by show fQ.globals=_;rw [<-Cz];exact I.ok.glob,by show fQ.builtins=_;rw [<-Cz];exact I.ok.blt,by show s.heap.objs.size<=fQ.locals;rw [hL];exact aw _,
   λy z c e1 e2=>?_,λy hy=>?_,λy c z e=>?_,I.ok.hd,I.ok.frames,.inl rfl,λb hb=>#[?_,λy c e z=>?_],I.bs,aP I.ok.D5 I.sz,λb o e hb=>?_,λb hb z=>?_,I.stack,I.rP
  . have e1:fQ.cells.lookup y=some c:=e1;have e2:fQ.cells.lookup z=some c:=e2;rw [hcl] at e1 e2;refine uS (λp hp=>?_) (λy z c a b=>I.ok.inj y z c (cm a).1 (cm b).1) (mem_of_lookup e1) (mem_of_lookup e2);rw [cV];exact o0 (cm (y:=p.1) (c:=p.2) hp).2
  . show∃c,fQ.cells.lookup y=some c;have key:∀k,fQ.kindOf y=some k->(k= .cell\/k= .free)->∃c,fQ.cells.lookup y=some c:=λk hk hk'=>by
     unfold Env.kindOf at hk;rw [hsc] at hk;obtain ⟨k',e,r⟩:=nu hk;have:k'= .cell\/k'= .free:=by
      rcases r with rfl | ⟨rfl,_⟩
      . exact hk'
      . exact .inr rfl
     rcases this with rfl | rfl
     . obtain ⟨c,hm⟩:=uR (n:=(s.heap.push {cls:= .type "dict",data:= .dict #[]}).objs.size) (acc:=cq X.env.cells scope.names []) (mem_of_lookup e);obtain ⟨c',e'⟩:=mem_lookup hm;exists c',by rw [hcl];exact e'
     . obtain ⟨c,h1,_⟩:=look e;exists c,h1
    rcases hy with hy | hy
    . exact key _ hy (.inl rfl)
    . exact key _ hy (.inr rfl)
  . have z:(scope.names.lookup y == some NameKind.cell)=true:=z;have z:scope.names.lookup y=some .cell:=by simpa using z
    have e:fQ.cells.lookup y=some c:=e;rw [hcl] at e;rcases k_ (mem_of_lookup e) with hm | ⟨_,h2,_⟩
    . rcases jO hm with hm | ⟨h1,_⟩
      . cases hm
      . have q:=ok.uniq _ h1;rw [z] at q;cases q
    . rw [cV] at h2;exact oZ h2
  . show b≠fQ.locals;rw [hL];exact a9 (hfp b hb).2
  . have e:fQ.cells.lookup y=some c:=e;rcases mem e with ⟨h1,_⟩ | ⟨h1,_⟩
    . exact (hfp b hb).1.2.2.2.2.1 y c h1 z
    . have h2:s.heap.objs.size+1<=b:=by rw [<-z];exact h1
      exact absurd (bq (hfp b hb).2 (oZ h2)) (cN _)
  . rcases (hfp b hb).1.2.2.2.1 with z | z
    . exact I.ok.zt b o e z
    . exact absurd (bq (aH e) (aP I.ok.D5 z)) (cN _)
  . rcases aE.mp (I.AV b z) with z | z
    . exact (hfp b hb).1.2.1 z
    . exact (hfp b hb).1.2.2.1 z
 exists Wv,U,I.bare,Un.kept kp,#[λ_=>none,?_,λi y av e1 e2 e3=>?_],λy c e=>?_,?_,λy c e=>?_,λp hp=>?_,I.bQ.kept kp,by rw [jP];exact I.len
 . show Heap.Ns _ fQ.locals _;rw [hL];exact Heap.Ns.keeps (Heap.Ns.new ..) λb o e=>kN _ _ _ _ e
 . obtain ⟨e2,kg⟩:=pH e2;have hfr:scope.names.lookup y=some .free/\(fQ.kindOf y=some .cell\/fQ.kindOf y=some .free):=by
    have key:∀k,fQ.scope.names.lookup y=some k->k= .local\/k= .cell\/k= .free->scope.names.lookup y=some .free/\(fQ.kindOf y=some .cell\/fQ.kindOf y=some .free):=λk hk hk'=>by
     have hk0:=hk;rw [hsc] at hk;obtain ⟨k',e,r⟩:=nu hk;have no:¬(k'= .local\/k'= .cell):=λhh=>by
      rcases ok.own _ (mem_of_lookup e) hh with e' | e'
      . obtain ⟨p,hp,hpy⟩:=cj.mp e';have e3:=ok.ix p hp;have:p.1=y:=hpy;rw [this] at e3;exact kg (cj.mpr #[p,hp,xz hN e3 e1])
      . exact e' (bc e1)
     rcases r with rfl | ⟨rfl,rfl⟩
     . rcases hk' with rfl | rfl | rfl
       . exact absurd (.inl rfl) no
       . exact absurd (.inr rfl) no
       . exists e,.inr hk0
     . exists e,.inl hk0
    have e3:Ik fQ.scope y:=e3;rcases e3 with e3 | e3 | e3
    . exact key _ e3 (.inl rfl)
    . exact key _ e3 (.inr (.inl rfl))
    . exact key _ e3 (.inr (.inr rfl))
   obtain ⟨m,hn,hl⟩:=I.loc;have Ub:Ik X.env.scope y:=(ok.free _ (mem_of_lookup hfr.1) rfl).elim (λk=> .inr (.inl k)) (λk=> .inr (.inr k));obtain ⟨w,r,q⟩:=hl i y av e1 e2 Ub;exists w,r,.inr #[hfr.2,?_];obtain ⟨c,h1,h2⟩:=look hfr.1;rcases q with ⟨k,_⟩ | ⟨_,c',e',z⟩
   . have k:X.env.scope.names.lookup y=some .local:=k;rcases ok.free _ (mem_of_lookup hfr.1) rfl with k' | k' <;> rw [show X.env.scope.names.lookup y=_ from k'] at k <;> cases k
   . rw [h2] at e';cases e';exists c,h1,z.keeps kp
 . have e:fQ.cells.lookup y=some c:=e;rcases mem e with ⟨h1,_⟩ | ⟨_,z⟩
   . obtain ⟨w,z⟩:=I.cell y c h1;exists w,z.keeps kp
   . exists _,z
 . show H fQ.locals=none;rw [hL];exact I.bQ.fresh (aw _)
 . have e:fQ.cells.lookup y=some c:=e;rcases mem e with ⟨h1,_⟩ | ⟨h1,_⟩
   . exact I.gf y c h1
   . exact I.bQ.fresh (oZ h1)
 . exact absurd (show p∈([]:List (Addr×Obj))++ [] from hp) (by simp)
def Je {D:Addr} (I:Inv X pins σ H s) (hD:H D=some (.lst xs)) (hz:xs.length < sizeLine) (r:RelV y v) (h:∀s',Inv X pins σ (upd H D (.lst (xs++ [y]))) s'->Q .none s'):wpAny (model X.prog X.w) X.A (call (.builtin "list.append") [.ref D,v]) Q E s:=by
 obtain ⟨hz',bV,n,ri,e⟩:=I.bQ D _ hD;have hl:=ri.length;refine append_at (hsz:=by rw [cg];omega) e λh' sb ho'=>?_;refine h {s with heap:=h'} (I.write (t':=s.toks) (by rw [hD];trivial) (.inl rfl) (λb u hb q=>(sb.2 b hb).trans q) #[_,ho'] #[by rw [ao];exact hz,bV++ [v],n+1,ri.append (.cons r .nil),?_]);rw [ho'];simp
def O2 (X:Cx) (ifs:List Expr) (t:TT):Prop:=
 ∀(pins:List (Addr×Obj)) (s:Shared) (σ:St) (H:Hp) (Q:Bool->Hp->Prop),Inv X pins σ H s->t σ H Q->
  wpAny (model X.prog X.w) X.A (forIn ifs true λc r=>if r=true then do let ok<-isTrue c X.env (eval c X.env);pure (ForInStep.yield ok) else pure (ForInStep.yield r)) (TP X pins σ Q) X.xe s
def Hb:TT:=λ_ H Q=>Q true H
def A9:O2 X [] Hb:=λ_ _ _ H _ I h=>wpAny_tests_nil #[H,I,h]
def Mb {t:TT} (h:PT X c t):O2 X [c] t:=λpins s σ H Q I hw=>wpAny_tests_one (h pins s σ H Q I hw)
end
def uT {t:Sem α} {Q Q':α->Shared->Prop} (h:wpAny M A t Q (λ_ _=>False) s) (hQ:∀a s,Q a s->Q' a s):wpAny M A t Q' E s:=bU h hQ λ_ _ z=>False.elim z
def rY {target:Expr} {it acc:Value} (I:Nat->Shared->Prop) (turn:∀n s,I n s->wpAny (model prog w) A (pyNext it) (λr s₁=>match r with
 | none=>R (.ok .next) s₁
 | some v=>wpAny (model prog w) A (letOwnedTupleGo target it v) (λ_ s₁'=>wpAny (model prog w) A (assign target env v) (λ_ s₂=>
  wpAny (model prog w) A (forIn ifs true λc r=>if r=true then do let ok<-isTrue c env (eval c env);pure (ForInStep.yield ok) else pure (ForInStep.yield r)) (λok s₃=>
   if ok=true then wpAny (model prog w) A (eval elt env) (λx s₄=>
    wpAny (model prog w) A (call (.builtin "list.append") [acc,x]) (λ_ s₅=> ∃m,m < n/\I m s₅) (notedBy (model prog w) A env λe s'=>R (.error e) s') s₄) (notedBy (model prog w) A env λe s'=>R (.error e) s') s₃
   else∃m,m < n/\I m s₃) (notedBy (model prog w) A env λe s'=>R (.error e) s') s₂) (notedBy (model prog w) A env λe s'=>R (.error e) s') s₁') (notedBy (model prog w) A env λe s'=>R (.error e) s') s₁) (notedBy (model prog w) A env λe s'=>R (.error e) s') s) (n:Nat) (h:I n s):
 codeAny (model prog w) A (.compLoop (.ListComp elt [#[target,iter,ifs,0]] scope pos) 0 it acc env) R s:=by
 refine codeAny_loop rfl I (λn s hI=>?_) n h;show wpAny _ A ((compTurn (.ListComp elt [#[target,iter,ifs,0]] scope pos) 0 it acc env).onRaise (λx=>do noteFrame x env;theTreesLotGoes x)) _ _ s;refine wpAny_noted ?_;rw [compTurn_list];refine az (kS (az (bU (turn n s hI) (λr s₁ h₁=>?_) λ_ _ h'=>h')));cases r with
 | none=>exact bo h₁
 | some v=>
  refine az (bU h₁ (λ_ s₁' h₁'=>?_) λ_ _ h'=>h');refine az (bU h₁' (λ_ s₂ h₂=>az (bU h₂ (λok s₃ h₃=>?_) λ_ _ h'=>h')) λ_ _ h'=>h');cases ok with
  | false=>exact bo #[rfl,h₃]
  | true=>
   exact az (az (bU h₃ (λx s₄ h₄=>az (bU h₄ (λ_ s₅ h₅=>bo (bo #[rfl,h₅])) λ_ _ h'=>h')) λ_ _ h'=>h'))
section
def O3 (wi:TI) (g:TG) (tt:TT) (te:TE) (vs:List Nat):TE:=λσ H Q=>wi σ H λJ H1=> ∀D,H1 D=none->∃W:Nat->Nat->Hp->Prop,(∃m,W 0 m (upd H1 D (.lst [])))/\∀i m H,W i m H->
 (J.stop i H/\Q (.ref D) H)\/(J.go i H/\∃Nx:Hp->Prop,(∀H',Nx H'->∃m',m' < m/\W (i+1) m' H')/\∀x H',J.D6 i H x H'->g x (wipe σ vs) H' λσ2 H2=>wipe σ2 vs=wipe σ vs/\tt σ2 H2 λb H3=>
  if b=true then te σ2 H3 λy H4=> ∃acc,H4 D=some (.lst acc)/\acc.length < sizeLine/\Nx (upd H4 D (.lst (acc++ [y]))) else Nx H3)
def F4 {Q:VK} {wi:TI} {use:Option (Value->Sem Unit)} (hc:X.calm=true) (hN:X.N.Nodup) (I:Inv X pins σ H s) (hi:PI X tg iter wi) (ok:xP X.N X.env.scope scope own) (hg:∀(s:Shared) (H:Hp) (C:Addr) (cl:List (Str×Addr)) (fp:List Addr),PG (X.blk s H scope (compEnvC scope cl C X.env) fp) tg g) (ht:∀(s:Shared) (H:Hp) (C:Addr) (cl:List (Str×Addr)) (fp:List Addr),O2 (X.blk s H scope (compEnvC scope cl C X.env) fp) ifs tt) (he:∀(s:Shared) (H:Hp) (C:Addr) (cl:List (Str×Addr)) (fp:List Addr),PE (X.blk s H scope (compEnvC scope cl C X.env) fp) elt te) (hs:∀x,foldedSetIterable iter X.env x=pure x) (h:O3 wi g tt te (own.map (·.2)) σ H Q) (hRR:∀D C s' m H',Inv X pins σ H' s'->Q (.ref D) H'->s'.heap.Ns C m->k7 X pins H' C->compPost (model X.prog X.w) X.A X.xe use Qf (.ref D) C (.ok .next) s'):
 wpAny (model X.prog X.w) X.A (comprehension (.ListComp elt [#[tg,iter,ifs,0]] scope pos) scope X.env pos' (newList []) false (eval iter X.env) use) Qf X.xe s:=by
 have hfree:∀y∈scope.names,y.2= .free->∃c,X.env.cells.lookup y.1=some c:=λy hy e=>by
  rcases ok.free y hy e with k | k
  . exact I.ok.has _ (.inl k)
  . exact I.ok.has _ (.inr k)
 refine wpAny_comprehension_free (use:=use) rfl hs (xO hfree) ok.kind (λy hy e=>by rw [ok.uniq y hy,e])
  (dX (hi pins s σ H _ I h) λxv s1 hx=>dX hx λitv s2 h2=>?_)
 obtain ⟨it,fp,tn,J,H2,e,I2,T,st2,f2,q⟩:=h2;subst e;refine ul (vK ?_) (by show 0<=sizeLine;decide);generalize hD:s2.heap.objs.size=D;have Uc:H2 D=none:=I2.bQ.fresh (eQ hD);obtain ⟨W,⟨m0,w0⟩,turn⟩:=q D Uc;generalize hs3:({s2 with heap:=s2.heap.push {cls:= .type "list",data:= .seq ([]:List Value).toArray}}:Shared)=s3;have I3:Inv X pins σ (upd H2 D (.lst [])) s3:=by
  rw [<-hs3];refine I2.laid (t':=s2.toks) (λb o e=>bC _ e) (eQ hD) #[aD _,[],0,.nil,?_];rw [<-hD];exact cD _ rfl
 have h3:s3.heap=s2.heap.push {cls:= .type "list",data:= .seq ([]:List Value).toArray}:=by rw [<-hs3]
 have sz:∀b∈fp,b < s2.heap.objs.size:=λb hb=>by
  obtain ⟨o,e,_⟩:=T.obj _ _ st2 b hb;exact aH e
 have f3:∀b∈fp,k7 X pins (upd H2 D (.lst [])) b/\b < s3.heap.objs.size:=λb hb=>by
  have gZ:=sz b hb;refine #[#[?_,(f2 b hb).2],by rw [h3,cV];exact o0 gZ];rw [aA (by rw [<-hD];exact a9 gZ)];exact (f2 b hb).1
 have st3:tn 0 s3.heap:=T.keep _ _ _ st2 λb _ o e=>by rw [h3];exact bC _ e
 have I4:=vL I3 ok hN f3;have pg:=hg s3 (upd H2 D (.lst [])) s3.heap.objs.size (cellsFrom (s3.heap.objs.size+1) scope.names (cq X.env.cells scope.names [])) fp;have pt:=ht s3 (upd H2 D (.lst [])) s3.heap.objs.size (cellsFrom (s3.heap.objs.size+1) scope.names (cq X.env.cells scope.names [])) fp;have pe:=he s3 (upd H2 D (.lst [])) s3.heap.objs.size (cellsFrom (s3.heap.objs.size+1) scope.names (cq X.env.cells scope.names [])) fp;show codeAny _ _ (.compStart (.ListComp elt [#[tg,iter,ifs,0]] scope pos) 0 (.ref it) (.ref D) (compEnvC scope (cellsFrom (s3.heap.objs.size+1) scope.names (cq X.env.cells scope.names [])) s3.heap.objs.size X.env)) (compPost (model X.prog X.w) X.A X.xe use Qf (.ref D) s3.heap.objs.size) {s3 with heap:=pushCells (s3.heap.push {cls:= .type "dict",data:= .dict #[]}) scope.names};have Q4:∀b∈fp,(upd H2 D (.lst [])) b=none:=λb hb=>(f3 b hb).1.1;generalize hce:compEnvC scope (cellsFrom (s3.heap.objs.size+1) scope.names (cq X.env.cells scope.names [])) s3.heap.objs.size X.env=ce at I4 pg pt pe ⊢;have cL:ce.locals=s3.heap.objs.size:=by subst hce;rfl
 generalize Ww:upd H2 D (.lst [])=H3 at I3 I4 pg pt pe w0 Q4 f3;generalize Ud:({s3 with heap:=pushCells (s3.heap.push {cls:= .type "dict",data:= .dict #[]}) scope.names}:Shared)=s4 at I4 ⊢;have st4:tn 0 s4.heap:=T.keep _ _ _ st3 λb _ o e=>by rw [<-Ud];exact kN _ _ _ _ (bC _ e)
 have stat:∀{σ':St} {H':Hp} {s':Shared},Inv (X.blk s3 H3 scope ce fp) [] σ' H' s'->(∀b∈fp,H' b=none)->∀b∈fp,k7 (X.blk s3 H3 scope ce fp) [] H' b:=λ{σ' H' s'} I' hn b hb=>
  #[hn b hb,(I'.ok.Il b hb).1,I'.ok.uH b hb,.inl hb,λx c e=>(I'.ok.Il b hb).2 x c e,λp hp=>absurd (show p∈([]:List (Addr×Obj))++ [] from hp) (by simp)]
 have loop:codeAny (model X.prog X.w) X.A (.compLoop (.ListComp elt [#[tg,iter,ifs,0]] scope pos) 0 (.ref it) (.ref D) ce) (compPost (model X.prog X.w) X.A X.xe use Qf (.ref D) s3.heap.objs.size) s4:=by
  refine rY (λn s'=> ∃i H',Inv (X.blk s3 H3 scope ce fp) [] (wipe σ (own.map (·.2))) H' s'/\tn i s'.heap/\(∀b∈fp,H' b=none)/\W i n H') ?_ m0 #[0,H3,I4,st4,Q4,w0];rintro n s5 ⟨i,H5,I5,st5,n5,w5⟩;rcases turn i n H5 w5 with ⟨stop,qq⟩ | ⟨go,Nx,Ue,step⟩
  . have td:=T.done (X.blk s3 H3 scope ce fp) rfl rfl rfl hc i [] s5 _ H5 (λ_ _=>False) I5 (stat I5 n5) st5 stop;refine uT td λr s6 #[hr,I6]=>?_;subst hr;have I7:Inv X pins σ H5 s6:=I3.call' (ch:=fp) I6.os I6.base I6.bQ I6.bare λb hb=>#[(f3 b hb).1.2.2.2.1,(f3 b hb).1.2.1,(f3 b hb).1.2.2.2.2.1,(f3 b hb).1.2.2.2.2.2];have nC:H5 s3.heap.objs.size=none:=by
     have z:H5 ce.locals=none:=I6.free;rw [cL] at z;exact z
    obtain ⟨m,hn,_⟩:=I6.loc;have hn:s6.heap.Ns ce.locals m:=hn;rw [cL] at hn;exact hRR D s3.heap.objs.size s6 m H5 I7 qq hn (I3.xD (aw _) nC)
  . have ti:=T.item (X.blk s3 H3 scope ce fp) rfl rfl rfl hc i [] s5 _ H5 (λ_ _=>False) I5 (stat I5 n5) st5 go;refine uT ti λr s6 #[u,hr,h6]=>?_;subst hr;refine uT h6 λ_ s7 #[x,H7,I7,r7,y7,O4,n7]=>?_;have Uf:=I7.pinned (stat I7 n7) (T.obj _ _ O4);refine uT (pg _ s7 _ H7 x u _ Uf r7 (step x H7 y7)) λ_ s8 #[σ8,H8,I8,Q5,q8]=>?_;refine uT (pt _ s8 σ8 H8 _ I8 q8) λb s9 #[H9,I9,q9]=>?_;have fin:∀{s':Shared} {H':Hp},Inv (X.blk s3 H3 scope ce fp) ([]++uM fp s7.heap) σ8 H' s'->Nx H'->∃m,m < n/\∃i H',Inv (X.blk s3 H3 scope ce fp) [] (wipe σ (own.map (·.2))) H' s'/\tn i s'.heap/\(∀b∈fp,H' b=none)/\W i m H':=λ{s' H'} I' nx=>by
     obtain ⟨m',hm,w'⟩:=Ue H' nx;have Jf:∀b∈fp,∀o,s7.heap.get? b=some o->s'.heap.get? b=some o/\H' b=none:=λb hb o e=>
      let z:=I'.pin (b,o) (dQ _ (dQ _ (lT hb e)));#[z.1,z.2.1]
     have hl:(wipe σ (own.map (·.2))).length=σ8.length:=by rw [<-Q5,jP]
     exists m',hm,i+1,H',(I'.jj (pins:= [])).weak hl (λj v e=>?_),T.keep _ _ _ O4 λb hb o e=>(Jf b hb o e).1,λb hb=>?_,w'
     . rw [<-Q5] at e;exact (pH e).1
     . obtain ⟨o,e,_⟩:=T.obj _ _ O4 b hb;exact (Jf b hb o e).2
    cases b with
    | false=>
     simp only [m9,gP] at q9 ⊢;exact fin I9 q9
    | true=>
     simp only [e_] at q9 ⊢;refine uT (pe _ s9 σ8 H9 _ I9 q9) λz Wx #[yv,Qm,Ug,r10,acc,O5,O6,nx]=>?_;exact Je (X:=X.blk s3 H3 scope ce fp) Ug O5 O6 r10 λWy Uh=>fin Uh nx
 exact codeAny_compStart_list loop (T.self X.A 0 _ _ _ st4 loop)
def ie {wi:TI} (hi:PI X tg iter wi) (own:List (Str×Nat)) (hg:∀(s:Shared) (H:Hp) (C:Addr) (cl:List (Str×Addr)) (fp:List Addr),PG (X.blk s H scope (compEnvC scope cl C X.env) fp) tg g) (he:∀(s:Shared) (H:Hp) (C:Addr) (cl:List (Str×Addr)) (fp:List Addr),PE (X.blk s H scope (compEnvC scope cl C X.env) fp) elt te) (hc:X.calm=true:=by exact rfl) (hN:X.N.Nodup:=by assumption) (ok:xP X.N X.env.scope scope own:=by exact xQ (by kernel_rfl)) (ht:∀(s:Shared) (H:Hp) (C:Addr) (cl:List (Str×Addr)) (fp:List Addr),O2 (X.blk s H scope (compEnvC scope cl C X.env) fp) ifs tt:=by exact λ_ _ _ _ _=>A9) (hs:∀x,foldedSetIterable iter X.env x=pure x:=by intro _;rfl):
 PE X (.ListComp elt [#[tg,iter,ifs,0]] scope pos) (O3 wi g tt te (own.map (·.2))):=by
 intro pins s σ H Q I h;rw [eval_ListComp];refine F4 hc hN I hi ok hg ht he hs h λD C s' m H' I' q hn f=>#[m,hn,λh'' sb=>?_];obtain ⟨f0,f1,f2,f3,f4,f5⟩:=f;exists .ref D,H',I'.turned (t':=s'.toks) (λb o hb e=>(sb.2 b hb).trans e) f0 f1 f3 f4 f5,U,q
def nw {y:Str} {spos:Pos} {wi:TI} (i:Nat) (hi:PI X tg iter wi) (own:List (Str×Nat)) (hg:∀(s:Shared) (H:Hp) (C:Addr) (cl:List (Str×Addr)) (fp:List Addr),PG (X.blk s H scope (compEnvC scope cl C X.env) fp) tg g) (he:∀(s:Shared) (H:Hp) (C:Addr) (cl:List (Str×Addr)) (fp:List Addr),PE (X.blk s H scope (compEnvC scope cl C X.env) fp) elt te) (hc:X.calm=true:=by exact rfl) (hN:X.N.Nodup:=by assumption) (hy:X.N[i]? = some y:=by rfl) (hyl:X.env.scope.names.lookup y=some .local:=by rfl) (hsw:swapsWith (.ListComp elt [#[tg,iter,ifs,0]] scope pos) (some (.Name y py)) spos.line X.env=pure true:=by exact F5 rfl rfl rfl (by decide+kernel)) (ok:xP X.N X.env.scope scope own:=by exact xQ (by kernel_rfl)) (ht:∀(s:Shared) (H:Hp) (C:Addr) (cl:List (Str×Addr)) (fp:List Addr),O2 (X.blk s H scope (compEnvC scope cl C X.env) fp) ifs tt:=by exact λ_ _ _ _ _=>A9) (hs:∀x,foldedSetIterable iter X.env x=pure x:=by intro _;rfl):
 PS X (.Assign [.Name y py] (.ListComp elt [#[tg,iter,ifs,0]] scope pos) spos) (OJ (O3 wi g tt te (own.map (·.2))) (xC i)):=by
 intro pins s σ H D I h;rw [exec_Assign_Name_used _ _ _ _ hsw];refine az (kS (az ?_));show wpAny _ X.A (do let _<-comprehension (.ListComp elt [#[tg,iter,ifs,0]] scope pos) scope X.env (firstIterPos [#[tg,iter,ifs,0]] pos) (newList []) false (eval iter X.env) (some (assign (.Name y py) X.env))) _ _ s;have h:O3 wi g tt te (own.map (·.2)) σ H (λx H1=>xC i x σ H1 D.nx):=h;refine az (dX (F4 (Qf:=λ_ s'=>SP X pins D .next s') hc hN I hi ok hg ht he hs h λL C s' m H' I' q hn f=>?_) λ_ s' hq=>bo (bo hq));show wpAny _ _ (assign (.Name y py) X.env (.ref L)) _ _ _;refine um (uI (v:=V.ref L) I' hN hy (.inl hyl) rfl (λs2 I2 #[a,sb,ha]=>?_) (.inr hyl));obtain ⟨f0,f1,f2,f3,f4,f5⟩:=f;have haC:C≠a:=by
  rcases ha with z | z
  . rw [z];exact f1
  . exact λe=>f4 y a z e.symm
 exists m,hn.sameBut sb haC,λh3 Ui=>?_;exists _,H',I2.turned (t':=s2.toks) (λb o hb e=>(Ui.2 b hb).trans e) f0 f1 f3 f4 f5,q
def F5 {gs:List Comprehension} {y:Str} {l:Nat} (hk:env.scope.kind= .function) (hy:env.scope.names.lookup y=some .local) (hl:(py.line == pos.line)=true) (ha:(scope.names.any λ(n,k)=>n == y && (k == .local || k == .cell))=false):swapsWith (.ListComp elt gs scope pos) (some (.Name y py)) l env=pure true:=by
 have ky:env.kindOf y=some .local:=hy;have hb:env.blockKind= .function:=by unfold Env.blockKind;rw [hk];rfl
 unfold swapsWith;simp only [hb,ky,ha,Expr.pos,hl];rfl
end
def A_ {vs:List Nat} {D:Addr} (Pv:Nat->Hp->Prop) (h0:Pv 0 (upd H1 D (.lst []))) (hl:∀i H,i<=xs.length->Pv i H->cz K H a xs) (hs:∀i x H,xs[i]? = some x->Pv i H->g x (wipe σ vs) H λσ2 H2=>wipe σ2 vs=wipe σ vs/\tt σ2 H2 λb H3=>
 if b=true then te σ2 H3 λy H4=> ∃acc,H4 D=some (.lst acc)/\acc.length < sizeLine/\Pv (i+1) (upd H4 D (.lst (acc++ [y]))) else Pv (i+1) H3) (hd:∀H,Pv xs.length H->Qd H):
 ∃W:Nat->Nat->Hp->Prop,(∃m,W 0 m (upd H1 D (.lst [])))/\∀i m H,W i m H->
  ((Cp K a).stop i H/\Qd H)\/((Cp K a).go i H/\∃Nx:Hp->Prop,(∀H',Nx H'->∃m',m' < m/\W (i+1) m' H')/\∀x H',(Cp K a).D6 i H x H'->g x (wipe σ vs) H' λσ2 H2=>wipe σ2 vs=wipe σ vs/\tt σ2 H2 λb H3=>
   if b=true then te σ2 H3 λy H4=> ∃acc,H4 D=some (.lst acc)/\acc.length < sizeLine/\Nx (upd H4 D (.lst (acc++ [y]))) else Nx H3):=by
 exists λi m H=>m=xs.length - i/\i<=xs.length/\Pv i H,#[xs.length,by simp,aD _,h0],?_;rintro i m H ⟨rfl,hi,p⟩;have q:=hl i H hi p;by_cases gZ:i < xs.length
 . refine .inr #[#[xs,xs[i],q,by simp [gZ]],Pv (i+1),λH' p'=>#[xs.length - (i+1),by omega,rfl,gZ,p'],λx H' y=>?_];obtain ⟨e,y⟩:=y;subst e;exact hs i x _ (y xs q) p
 . have e:i=xs.length:=by omega
   subst e;exact .inl #[#[xs,q,aw _],hd H p]
def Q6 (N:List Str) (sc scope:Scope) (own:List (Str×Nat)):Bool:=
 (match scope.kind with | .function=>true | _=>false) && (scope.names.all λy=>decide (scope.names.lookup y.1=some y.2)) && (own.all λp=>decide (N[p.2]? = some p.1)) &&
  (scope.names.all λy=>match y.2 with
   | .free=>(match sc.names.lookup y.1 with | some .cell=>true | some .free=>true | _=>false)
   | .local=>decide (y.1∈own.map (·.1)) || decide (y.1∉N)
   | .cell=>decide (y.1∈own.map (·.1)) || decide (y.1∉N)
   | _=>true)
def xQ (h:Q6 N sc scope own=true):xP N sc scope own:=by
 unfold Q6 at h;simp only [c6,c7,dr] at h;obtain ⟨⟨⟨h1,h2⟩,h3⟩,h4⟩:=h;exists ?_,h2,h3,λy hy e=>?_,λy hy e=>?_
 . split at h1
   . assumption
   . cases h1
 . have q:=h4 y hy;simp only [e] at q;split at q <;> first | exact .inl (by assumption) | exact .inr (by assumption) | cases q
 . have q:=h4 y hy;rcases e with e | e <;> (simp only [e,kO,dr] at q;exact q)
section
variable {κ:Type} [DecidableEq κ]
def cy (aG:List (κ×V)) (k:κ):Option V:=(aG.find? λkv=>decide (kv.1=k)).map (·.2)
def putK (aG:List (κ×V)) (k:κ) (v:V):List (κ×V):=
 if (aG.any λkv=>decide (kv.1=k))=true then aG.map (λkv=>if kv.1=k then (kv.1,v) else kv) else aG++ [(k,v)]
def NI (aG:List (κ×V)) (k:κ):List (κ×V):=aG.filter λkv=>decide (kv.1≠k)
def eT {p:κ×V} {r:List (κ×V)} {k:κ} (e:p.1=k):cy (p :: r) k=some p.2:=by simp [cy,dU,e]
def eU {p:κ×V} {r:List (κ×V)} {k:κ} (e:¬p.1=k):cy (p :: r) k=cy r k:=by simp [cy,dU,e]
def rZ (k:κ):∀aG:List (κ×V),(aG.any λkv=>decide (kv.1=k))=(cy aG k).isSome
 | []=>rfl
 | p :: r=>by
  rw [i5];by_cases e:p.1=k
  . simp only [eT e,pj e,pA,Option.isSome_some]
  . rw [eU e,dD e,jg];exact rZ k r
def CA (k j:κ) (y:V):∀aG:List (κ×V),cy (aG.map λkv=>if kv.1=k then (kv.1,y) else kv) j=(cy aG j).map λx=>if j=k then y else x
 | []=>rfl
 | p :: r=>by
  have ih:=CA k j y r;rw [bI];by_cases h:p.1=k
  . rw [ah h];by_cases e:p.1=j
    . rw [eT (p:=(p.1,y)) e,eT e,o9,ah (e.symm.trans h)]
    . rw [eU (p:=(p.1,y)) e,eU e,ih]
  . rw [ae h];by_cases e:p.1=j
    . rw [eT (p:=p) e,eT e,o9,ae (λz=>h (e.trans z))]
    . rw [eU (p:=p) e,eU e,ih]
def Aj (k j:κ) (y:V):∀aG:List (κ×V),cy aG k=none->cy (aG++ [(k,y)]) j=if j=k then some y else cy aG j
 | [],_=>by
  by_cases e:k=j
  . rw [ah e.symm];exact eT (p:=(k,y)) e
  . rw [ae (λz=>e z.symm)];exact eU (p:=(k,y)) e
 | p :: r,hn=>by
  rw [kK];have hk:¬p.1=k:=λz=>by rw [eT z] at hn;cases hn
  rw [eU hk] at hn;have ih:=Aj k j y r hn;by_cases e:p.1=j
  . rw [eT e,eT e,ae (λz=>hk (e.trans z))]
  . rw [eU e,eU e,ih]
def r6 (aG:List (κ×V)) (k j:κ) (y:V):cy (putK aG k y) j=if j=k then some y else cy aG j:=by
 unfold putK;by_cases a:(aG.any λkv=>decide (kv.1=k))=true
 . rw [ah a,CA];rw [rZ] at a;by_cases e:j=k
   . obtain ⟨x,hx⟩:=tY.mp a;rw [ah e,e,hx,o9,ah rfl]
   . rw [ae e];cases cy aG j with
     | none=>rfl
     | some x=>rw [o9,ae e]
 . rw [ae a];refine Aj k j y aG ?_;rw [rZ] at a;cases q:cy aG k with
   | none=>rfl
   | some x=>rw [q] at a;exact (a rfl).elim
def dk (aG:List (κ×V)) (k:κ) (v:V):(putK aG k v).length<=aG.length+1:=by
 unfold putK;split
 . rw [aB];omega
 . rw [ao,aT,fL];omega
def ji.i_ {o:Option V} {u:Option Value} (r:ji o u):o.isSome=u.isSome:=by
 cases o with
 | none=>cases u with
  | none=>rfl
  | some _=>exact (show False from r).elim
 | some _=>cases u with
  | none=>exact (show False from r).elim
  | some _=>rfl
def ji.getD {o:Option V} {u:Option Value} {d:V} {d':Value} (r:ji o u) (rd:RelV d d'):RelV (o.getD d) (u.getD d'):=by
 cases o with
 | none=>cases u with
  | none=>exact rd
  | some _=>exact (show False from r).elim
 | some _=>cases u with
  | none=>exact (show False from r).elim
  | some _=>exact r
def KV.val {aG:List (κ×V)} {vs:List (κ×Value)} (r:KV aG vs) (k:κ):ji (cy aG k) (valueAt vs k):=by
 unfold KV at r;induction r with
 | nil=>exact au
 | @cons p q ps qs h t ih=>
  obtain ⟨h1,h2⟩:=h;by_cases e:p.1=k
  . have e':q.1=k:=h1.symm.trans e;have b:valueAt (q :: qs) k=some q.2:=by simp [valueAt,dU,e']
    rw [eT e,b];exact h2
  . have e':¬q.1=k:=λz=>e (h1.trans z);have b:valueAt (q :: qs) k=valueAt qs k:=by simp [valueAt,dU,e']
    rw [eU e,b];exact ih
def KV.any {aG:List (κ×V)} {vs:List (κ×Value)} (r:KV aG vs) (k:κ):(aG.any λkv=>decide (kv.1=k))=vs.any λkv=>decide (kv.1=k):=by
 unfold KV at r;induction r with
 | nil=>rfl
 | cons h t ih=>rw [i5,i5,ih,h.1]
def KV.repl {aG:List (κ×V)} {vs:List (κ×Value)} (r:KV aG vs) (k:κ) (ry:RelV y u):
 KV (aG.map λkv=>if kv.1=k then (kv.1,y) else kv) (vs.map λkv=>if kv.1=k then (kv.1,u) else kv):=by
 unfold KV at r ⊢;induction r with
 | nil=>exact .nil
 | @cons p q ps qs h t ih=>
  rw [bI,bI];refine .cons ?_ ih;obtain ⟨h1,h2⟩:=h;by_cases e:p.1=k
  . rw [ah e,ah (h1.symm.trans e)];exists h1,ry
  . rw [ae e,ae (λz=>e (h1.trans z))];exists h1,h2
def KV.put {aG:List (κ×V)} {vs:List (κ×Value)} (r:KV aG vs) (k:κ) (ry:RelV y u):KV (putK aG k y) (stored vs k u):=by
 unfold putK stored;rw [r.any k];by_cases e:(vs.any λkv=>decide (kv.1=k))=true
 . rw [ah e,ah e];exact r.repl k ry
 . rw [ae e,ae e];exact Paired.snoc r #[rfl,ry]
def KV.drop {aG:List (κ×V)} {vs:List (κ×Value)} (r:KV aG vs) (k:κ):KV (NI aG k) (without vs k):=by
 unfold KV at r ⊢;unfold NI without;induction r with
 | nil=>exact .nil
 | @cons p q ps qs h t ih=>
  obtain ⟨h1,h2⟩:=h;rw [List.filter_cons,List.filter_cons];by_cases e:p.1=k
  . have a:¬decide (p.1≠k)=true:=by simp [e]
    have b:¬decide (q.1≠k)=true:=by simp [h1.symm.trans e]
    rw [ae a,ae b];exact ih
  . have e':¬q.1=k:=λz=>e (h1.trans z);have a:decide (p.1≠k)=true:=by simp [e]
    have b:decide (q.1≠k)=true:=by simp [e']
    rw [ah a,ah b];exact .cons #[h1,h2] ih
def KV.length {aG:List (κ×V)} {vs:List (κ×Value)} (r:KV aG vs):aG.length=vs.length:=pq r
end
def vM {k:Key} (r:RelV (kV k) u):(cC P w).is k u=true:=by
 cases k with
 | inl i=>obtain ⟨t,e⟩:=(show∃t,u=Value.int i t from r);subst e;exact Cj P w i t
 | inr x=>obtain ⟨t,e⟩:=(show∃t,u=Value.str x t from r);subst e;exact Ck P w x t
def Ak:∀{ks:List Key} {us:List Value},Vals (ks.map kV) us->ItemsAre (cC P w) ks us
 | [],_,r=>by rw [cO] at r;cases r;exact .nil
 | k :: ks,_,r=>by
  rw [bI] at r;cases r with
  | cons h t=>exact .cons (vM h) (Ak t)
abbrev KT (H:Hp):List (List Key×V)->List (List Key×Addr×Value)->Prop:=Paired λp q=>p.1=q.1/\H q.2.1=some (.tup (p.1.map kV))/\RelV p.2 q.2.2
def KT.val {xs:List (List Key×Addr×Value)} (r:KT H aG xs) (k:List Key):ji (cy aG k) ((atKey xs k).map (·.2)):=by
 induction r with
 | nil=>exact au
 | @cons p q ps qs h t ih=>
  obtain ⟨h1,_,h2⟩:=h;by_cases e:p.1=k
  . have e':q.1=k:=h1.symm.trans e;have b:atKey (q :: qs) k=some q.2:=by simp [atKey,dU,e']
    rw [eT e,b];exact h2
  . have e':¬q.1=k:=λz=>e (h1.trans z);have b:atKey (q :: qs) k=atKey qs k:=by simp [atKey,dU,e']
    rw [eU e,b];exact ih
def KT.repl {xs:List (List Key×Addr×Value)} (r:KT H aG xs) (k:List Key) (ry:RelV y u):
 KT H (aG.map λkv=>if kv.1=k then (kv.1,y) else kv) (xs.map (putAt k u)):=by
 induction r with
 | nil=>exact .nil
 | @cons p q ps qs h t ih=>
  rw [bI,bI];refine .cons ?_ ih;obtain ⟨h1,h2,h3⟩:=h;unfold putAt;by_cases e:p.1=k
  . rw [ah e,ah (h1.symm.trans e)];exists h1,h2,ry
  . rw [ae e,ae (λz=>e (h1.trans z))];exists h1,h2,h3
def KT.put {xs:List (List Key×Addr×Value)} (r:KT H aG xs) (k:List Key) (hb:H b=some (.tup (k.map kV))) (ry:RelV y u):
 KT H (putK aG k y) (storedH xs k b u):=by
 have e:(aG.any λkv=>decide (kv.1=k))=(atKey xs k).isSome:=by
  rw [rZ,(r.val k).i_,nb]
 unfold putK storedH;rw [e];by_cases q:(atKey xs k).isSome=true
 . rw [ah q,ah q];exact r.repl k ry
 . rw [ae q,ae q];exact Paired.snoc r #[rfl,hb,ry]
def KT.keeps {xs:List (List Key×Addr×Value)} (r:KT H aG xs) (ht:∀b ys,H b=some (.tup ys)->H' b=some (.tup ys)):KT H' aG xs:=
 Paired.OC r λ_ _ z=>#[z.1,ht _ _ z.2.1,z.2.2]
section
def NK {u:HO} (ok:k4 P w H h) (e:Rd H a u):dc P w H h a u:=e.ok ok
def CB {aG:List (Key×V)} (ok:k4 P w H h) (e:Rd H a (.dK aG)):aG.length<=sizeLine/\(a == sysModules)=false/\∃vs,KV aG vs/\h.DictOf (cC P w) a vs:=
 show dc P w H h a (.dK aG) from NK ok e
def Q7 {aG:List (Key×V)} (ok:k4 P w H h) (e:H a=some (.dK aG)):aG.length<=sizeLine/\(a == sysModules)=false/\∃vs,KV aG vs/\h.DictOf (cC P w) a vs:=CB ok (.inl e)
def xR {ks:List Key} (ok:k4 P w H h) (e:H a=some (.tup (ks.map kV))):(tupleKind (cC P w)).is h ks a:=by
 obtain ⟨_,bV,r,o,h1,h2,n,h3⟩:=(show dc P w H h a (.tup (ks.map kV)) from ok a _ e);exists o,bV.toArray,n,h1,h2,h3,by simpa using Ak r
def CC (ok:k4 P w H h) (e:Rd H a (.dT aG)):aG.length<=sizeLine/\(a == sysModules)=false/\
 ∃xs,KT H aG xs/\h.DictOfH (tupleKind (cC P w)) a xs:=by
 obtain ⟨z,y,xs,r,o,es,ep,h1,h2,h3,h4,h5⟩:=(show dc P w H h a (.dT aG) from NK ok e);exists z,y,xs,r,o,es,ep,h1,h2,h3,h4,λx hx=>?_,h5;have all:∀{l:List (List Key×V)} {m:List (List Key×Addr×Value)},KT H l m->∀x∈m,(tupleKind (cC P w)).is h x.1 x.2.1:=by
  intro l m q;induction q with
  | nil=>intro x hx;exact nomatch hx
  | @cons p q ps qs hq t ih=>
   intro x hx;rcases aE.mp hx with e | hx
   . subst e;exact xR ok (by rw [<-hq.1];exact hq.2.1)
   . exact ih x hx
 exact all r x hx
def Q8 (ok:k4 P w H h) (e:H a=some (.dT aG)):aG.length<=sizeLine/\(a == sysModules)=false/\
 ∃xs,KT H aG xs/\h.DictOfH (tupleKind (cC P w)) a xs:=CC ok (.inl e)
end
def r9 (H:Hp) (a:Addr) (y:V) (r:Option V):Prop:=
 (∃aG k,Rd H a (.dK aG)/\y=kV k/\r=cy aG k)\/∃aG k b,Rd H a (.dT aG)/\y= .ref b/\H b=some (.tup (k.map kV))/\r=cy aG k
def uU (H:Hp) (a:Addr) (y v:V) (H':Hp):Prop:=
 (∃aG k,H a=some (.dK aG)/\y=kV k/\aG.length < sizeLine/\H'=upd H a (.dK (putK aG k v)))\/
 ∃aG k b,H a=some (.dT aG)/\y= .ref b/\H b=some (.tup (k.map kV))/\aG.length < sizeLine/\H'=upd H a (.dT (putK aG k v))
def r9.k {aG:List (Key×V)} {k:Key} (e:H a=some (.dK aG)):r9 H a (kV k) (cy aG k):= .inl #[aG,k,.inl e,rfl,rfl]
def r9.t {k:List Key} (e:H a=some (.dT aG)) (eb:H b=some (.tup (k.map kV))):r9 H a (.ref b) (cy aG k):= .inr #[aG,k,b,.inl e,rfl,eb,rfl]
def uU.k {aG:List (Key×V)} {k:Key} {v:V} (e:H a=some (.dK aG)) (hl:aG.length < sizeLine):uU H a (kV k) v (upd H a (.dK (putK aG k v))):= .inl #[aG,k,e,rfl,hl,rfl]
def uU.t {k:List Key} {v:V} (e:H a=some (.dT aG)) (eb:H b=some (.tup (k.map kV))) (hl:aG.length < sizeLine):
 uU H a (.ref b) v (upd H a (.dT (putK aG k v))):= .inr #[aG,k,b,e,rfl,eb,hl,rfl]
section
variable {v:V} {r:Value} {o:Option V}
def Inv.big (I:Inv X pins σ H s):sysModules < s.heap.objs.size:=by
 have h:mainGlobals < s.heap.objs.size:=(I.mod.glob.keeps I.bk).lt;exact kX (by decide) h
def Hd (hu:A.units+1 < cLine) (I:Inv X pins σ H s) (g:r9 H a y (some v)) (ry:RelV y u) (h:∀w' s',Inv X pins σ H s'->RelV v w'->Q w' s'):
 wpAny (model X.prog X.w) A (getItem (.ref a) u) Q E s:=by
 rcases g with ⟨aG,k,e,ey,l⟩ | ⟨aG,k,b,e,ey,eb,l⟩
 . subst ey;obtain ⟨z,hd,vs,rel,dd⟩:=CB I.bQ e;obtain ⟨w',hw,IZ⟩:=ji.some_of (v:=v) (o:=valueAt vs k) (by rw [l];exact rel.val k);exact wpAny_getItem_of (vM ry) dd.mapOf hw (h w' _ (I.tok _) IZ)
 . subst ey;cases (show u=Value.ref b from ry);obtain ⟨z,hd,xs,rel,dd⟩:=CC I.bQ e;obtain ⟨w',hw,IZ⟩:=ji.some_of (v:=v) (o:=(atKey xs k).map (·.2)) (by rw [l];exact rel.val k);obtain ⟨p,hp,hp2⟩:=gm.mp hw;refine wpAny_getItem_heap (oW hu) (xR I.bQ eb) dd hp ?_;rw [hp2];exact h w' _ (I.tok _) IZ
def Uj (hu:A.units+1 < cLine) (I:Inv X pins σ H s) (g:r9 H a y o) (ry:RelV y u) (h:∀s',Inv X pins σ H s'->Q (.bool o.isSome) s'):
 wpAny (model X.prog X.w) A (compareOp .In u (.ref a)) Q E s:=by
 rcases g with ⟨aG,k,e,ey,l⟩ | ⟨aG,k,b,e,ey,eb,l⟩
 . subst ey;obtain ⟨z,hd,vs,rel,dd⟩:=CB I.bQ e;refine wpAny_in_of (vM ry) hd dd.mapOf ?_;rw [<-(rel.val k).i_,<-l];exact h _ (I.tok _)
 . subst ey;cases (show u=Value.ref b from ry);obtain ⟨z,hd,xs,rel,dd⟩:=CC I.bQ e;refine wpAny_in_heap (oW hu) (xR I.bQ eb) hd dd ?_;have q:=(rel.val k).i_;rw [nb] at q;rw [<-q,<-l];exact h _ (I.tok _)
def Md (hu:A.units+1 < cLine) (I:Inv X pins σ H s) (g:r9 H a y o) (ry:RelV y u) (h:∀s',Inv X pins σ H s'->Q (.bool (!o.isSome)) s'):
 wpAny (model X.prog X.w) A (compareOp .NotIn u (.ref a)) Q E s:=by
 rcases g with ⟨aG,k,e,ey,l⟩ | ⟨aG,k,b,e,ey,eb,l⟩
 . subst ey;obtain ⟨z,hd,vs,rel,dd⟩:=CB I.bQ e;refine wpAny_notIn_of (vM ry) hd dd.mapOf ?_;rw [<-(rel.val k).i_,<-l];exact h _ (I.tok _)
 . subst ey;cases (show u=Value.ref b from ry);obtain ⟨z,hd,xs,rel,dd⟩:=CC I.bQ e;refine wpAny_notIn_heap (oW hu) (xR I.bQ eb) hd dd ?_;have q:=(rel.val k).i_;rw [nb] at q;rw [<-q,<-l];exact h _ (I.tok _)
def F6 {ob:HO} (I:Inv X pins σ H s) (mu:OD (H a)) (hs:Heap.SameBut a s.heap h') (he:∃q,h'.get? a=some q) (new:dc X.prog X.w (upd H a ob) h' a ob):
 Inv X pins σ (upd H a ob) {s with heap:=h',toks:=t'}:=
 I.write (x:=a) (e:=a) mu (.inl rfl) (λb q hb z=>(hs.2 b hb).trans z) he new
def O7 {aG:List (Key×V)} {vs:List (Key×Value)} (z:aG.length<=sizeLine) (hd:(a == sysModules)=false) (rel:KV aG vs) (dd:h'.DictOf (cC P w) a vs):
 dc P w H' h' a (.dK aG):=#[z,hd,vs,rel,dd]
def He {Q:Unit->Shared->Prop} (hu:A.units+1 < cLine) (I:Inv X pins σ H s) (g:uU H a y v H') (ry:RelV y u) (rv:RelV v r) (h:∀s',Inv X pins σ H' s'->Q () s'):
 wpAny (model X.prog X.w) A (setItem (.ref a) u r) Q E s:=by
 rcases g with ⟨aG,k,e,ey,l,eH⟩ | ⟨aG,k,b,e,ey,eb,l,eH⟩
 . subst ey eH;obtain ⟨z,hd,vs,rel,dd⟩:=Q7 I.bQ e;have hz:vs.length<=sizeLine:=by rw [<-rel.length];exact z
   have hl:(putK aG k v).length<=sizeLine:=by have:=dk aG k v;omega
   refine wpAny_setItem_pairs (hsz:=hz) (vM ry) dd λh' SK hs=>h _ ?_;have he:∃q,h'.get? a=some q:=let #[q,_,_,hq,_]:=SK;#[q,hq];exact F6 I (by rw [e];exact au) hs he (O7 hl hd (rel.put k rv) SK)
 . subst ey eH;cases (show u=Value.ref b from ry);obtain ⟨z,hd,xs,rel,dd⟩:=Q8 I.bQ e;have hz:xs.length<=sizeLine:=by rw [<-pq rel];exact z
   have hl:(putK aG k v).length<=sizeLine:=by have:=dk aG k v;omega
   refine wpAny_setItem_heap (hsz:=hz) (oW hu) (xR I.bQ eb) dd λh' SK hs=>h _ ?_;obtain ⟨q,es,ep,hq,h2,h3,h4,_,h5⟩:=SK;refine F6 I (by rw [e];exact au) hs #[q,hq] #[hl,hd,_,(rel.put k eb rv).keeps λc ys ec=>?_,q,es,ep,hq,h2,h3,h4,h5];rw [aA (QH ec e (λz=>nomatch z))];exact ec
end
def O8 (i:Expr):= ∀ov iv,subscripted i false ov iv=operate [ov,iv] (getItem ov iv)
def F7 {value slice:Expr} {id:String} (hl:typeLookup (.type T) "__getitem__" = pure (some (.builtin id))) (hs:O8 slice) (h:wpAny (model prog w) A (eval value env) (λo s₁=>wpAny (model prog w) A (eval slice env) (λi s₂=>s₂.TypeIs o T/\wpAny (model prog w) A (getItem o i) Q E s₂) E s₁) E s):
 wpAny (model prog w) A (eval (.Subscript value slice pos) env) Q E s:=by
 refine Subscript_ (bU h (λo s₁ h₁=>bU h₁ (λi s₂ h₂=>?_) λ_ _ x=>x) λ_ _ x=>x);obtain ⟨hT,h₂⟩:=h₂;unfold subscriptTail;refine az ?_;rw [getitemInPython_of_ne hT.not_modules];refine az (wpAny_specialOf hT hl ?_);have fin:wpAny (model prog w) A (subscripted slice false o i) (λr s₃=>wpAny (model prog w) A (letTemporaryGo value o r >>= λ_=>pure r) Q E s₃) E s₂:=by
  rw [hs o i];exact wpAny_operating (bU h₂ (λr s₃ h₃=>az (wpAny_letTemporaryGo (bo h₃))) λ_ _ x=>x)
 first
  | exact bo (az fin)
  | exact az (bo (az fin))
  | exact az fin
def CG {o:Option V} (I:Inv X pins σ H s) (g:r9 H a y o):s.TypeIs (.ref a) "dict" :=by
 rcases g with ⟨aG,k,e,_,_⟩ | ⟨aG,k,b,e,_,_,_⟩
 . obtain ⟨_,_,vs,_,dd⟩:=CB I.bQ e;exact dd.typeIs
 . obtain ⟨_,_,xs,_,dd⟩:=CC I.bQ e;exact dd.typeIs
def Q9 (td ty:TE):TE:=λσ H Q=>td σ H λx H1=>ty σ H1 λy H2=> ∃a v,x= .ref a/\r9 H2 a y (some v)/\Q v H2
def Q_ (td ty tv:TE):TS:=λD σ H=>tv σ H λv H1=>td σ H1 λx H2=>ty σ H2 λy H3=> ∃a H4,x= .ref a/\uU H3 a y v H4/\D.nx σ H4
section
variable {o i value:Expr} {td ty tv:TE}
def g6 (ho:PE X o td) (hi:PE X i ty) (hu:X.A.units+1 < cLine:=by exact qi (by assumption)) (hs:O8 i:=by exact λ_ _=>rfl):PE X (.Subscript o i pos) (Q9 td ty):=by
 intro pins s σ H Q I h;refine F7 zZ.lookup hs (dX (ho pins s σ H _ I h) λu s1 #[x,H1,I1,rx,q1]=>dX (hi pins s1 σ H1 _ I1 q1) λiv s2 #[y,H2,I2,ry,a,v,ex,g,q2]=>?_);subst ex;obtain rfl:u=Value.ref a:=rx;exists CG I2 g,Hd hu I2 g ry λw' s3 I3 IZ=>#[v,H2,I3,IZ,q2]
def lX (ho:PE X o td) (hi:PE X i ty) (hv:PE X value tv) (hu:X.A.units+1 < cLine:=by exact qi (by assumption)) (hs:swapsWith value (some (.Subscript o i pos')) pos.line X.env=pure false:=by rfl):
 PS X (.Assign [.Subscript o i pos'] value pos) (Q_ td ty tv):=by
 intro pins s σ H D I h;refine wpAny_Assign_Subscript (dX (hv pins s σ H _ I h) λr s1 #[v,H1,I1,rv,q1]=>dX (ho pins s1 σ H1 _ I1 q1) λu s2 #[x,H2,I2,rx,q2]=>dX (hi pins s2 σ H2 _ I2 q2) λiv s3 #[y,H3,I3,ry,a,H4,ex,g,q3]=>?_) hs;subst ex;obtain rfl:u=Value.ref a:=rx;exact He hu I3 g ry rv λs4 I4=>#[σ,H4,I4,q3]
end
def Jg (h:Heap) (hb:sysModules < h.objs.size):dc P w H (h.push {cls:= .type "dict",data:= .dict #[]}) h.objs.size (.dK []):=
 #[aD _,bS.mpr (bY (a9 hb)),[],.nil,Heap.DictOf.new h]
def O9:TE:=λ_ H Q=> ∀p,H p=none->Q (.ref p) (upd H p (.dK []))
section
def jn:PE X (.Dict [] [] pos) O9:=λpins s σ H Q I h=>
 wpAny_Dict_empty #[.ref s.heap.objs.size,_,I.laid (a:=s.heap.objs.size) (o:= .dK []) (t':=s.toks) (λ_ _ q=>bC _ q) (aw _) (Jg s.heap I.big),rfl,h _ (I.bQ.fresh (aw _))]
end
def lY (aG more:List (Key×V)):List (Key×V):=more.foldl (λacc kv=>putK acc kv.1 kv.2) aG
def KV.merge:∀{more:List (Key×V)} {rs:List (Key×Value)} {aG:List (Key×V)} {vs:List (Key×Value)},KV more rs->KV aG vs->KV (lY aG more) (merged vs rs):=by
 intro more rs aG vs r;unfold KV at r;induction r generalizing aG vs with
 | nil=>intro q;exact q
 | @cons p q ps qs h t ih=>
  intro r0;have e:KV (putK aG p.1 p.2) (stored vs q.1 q.2):=by
   have:=r0.put p.1 h.2;rw [<-h.1];exact this
  exact ih e
def qj:∀(more aG:List (Key×V)),(lY aG more).length<=aG.length+more.length
 | [],aG=>by show aG.length<=aG.length+0;omega
 | p :: r,aG=>by
  have h1:=qj r (putK aG p.1 p.2);have h2:=dk aG p.1 p.2;show (lY (putK aG p.1 p.2) r).length<=_;rw [aT];omega
structure M1 (X:Cx) (o:Expr) (m:Str) (apos:Pos) (e:Expr) (eR:Pos):Prop where
 base:attributeBase o m X.env (eval o X.env)=eval o X.env
 few:((backTo eR (starEach [e] X.env)).all (λx=>!x.1) && (backToKw eR (keywordEach [] X.env)).all (λx=>x.1.isSome)
  && decide (([e]:List Expr).length+([]:List Keyword).length+(if ([]:List Keyword).isEmpty then 0 else 1) < 30))=true
 line:(apos.endLine == eR.line)=true
 trees:backTo eR (starEach [e] X.env)= [(false,eval e X.env)]
structure M2 (X:Cx) (o:Expr) (m:Str) (apos:Pos) (e f:Expr) (eR:Pos):Prop where
 base:attributeBase o m X.env (eval o X.env)=eval o X.env
 few:((backTo eR (starEach [e,f] X.env)).all (λx=>!x.1) && (backToKw eR (keywordEach [] X.env)).all (λx=>x.1.isSome)
  && decide (([e,f]:List Expr).length+([]:List Keyword).length+(if ([]:List Keyword).isEmpty then 0 else 1) < 30))=true
 line:(apos.endLine == eR.line)=true
 trees:backTo eR (starEach [e,f] X.env)= [(false,eval e X.env),(false,eval f X.env)]
def xS:typeLookup (.type "list") "keys" = pure none:=am_miss_of_fast (by first | decide+kernel | rfl)
def CH:entryFor table "dict.update.loop" = some Builtin.«dict.update.loop» :=entryFor_of_tree (by kernel_rfl)
def nA:plainId "dict.update.loop" = true:=by decide+kernel
section
def Hf {o:Obj} {xs:Array Value} {k:Nat} {Q:Option Value->Shared->Prop} (hx:s.heap.get? a=some o) (hc:o.cls= .type "list") (hdat:o.data= .seq xs k) (hd:o.dict=none) (hA:A.handled=none) (h:∀h' tk,(∀b ob,s.heap.get? b=some ob->h'.get? b=some ob)->Q none {s with heap:=h',toks:=tk}):wpAny (model prog w) A (getAttr? (.ref a) "keys") Q E s:=by
 obtain ⟨c,dct,dat,sl⟩:=o;simp only at hc hdat hd;subst hc hdat hd;obtain ⟨hp,g,d,tk,os⟩:=s;have hT:∀tk',(#[hp,g,d,tk',os]:Shared).TypeIs (.ref a) "list" :=λ_=>#[_,hx,rfl];have hmiss:=xS;have hname:(["__module__","__name__","__qualname__","__doc__","__annotations__"]:List Str).contains "keys" = false:=by decide+kernel
 have hsz:("keys" :Str).length+100<=sizeLine:=by first | size_fits | decide+kernel
 have f1:=sub_AttributeError;have f3:=slot_list_getattribute.lookup;have f4:=slot_list_getattribute.bind (.ref a);have f5:=am_list_getattr_none;unfold getAttr? getAttrBy? getAttrBy;repeat (any_goals (first | assumption | exact hT _ | ((with_reducible show wpAny _ _ (call (Value.builtin "list.__getattribute__") _ _) _ _ _);refine call_meets slot_list_getattribute (hT _) am_entry_list_getattribute (PySem.F.args_list_getattribute_2 _ _) (meets_getattribute_miss_list a xs k sl "keys" _ hmiss hname hsz) #[hx,hA,λh' tk' e hx'=>?_]) | wp_step))
 obtain ⟨t',u',he⟩:=hx'.there;show wpAny _ _ (getattributeRaised _ _ _ _ _ _ _) _ _ _;unfold getattributeRaised;repeat (any_goals (first | assumption | wp_step))
 all_goals first | exact h _ _ hx'.keeps | (dsimp only;repeat (any_goals (first | assumption | exact h _ _ hx'.keeps | wp_step)))
def CI {S I:Addr} {items:Array Value} {res:Value} (hh:A.handled=none) (hlI:l≠I) (hSI:S≠I) (hSl:S≠l):
 ∀(rest:List (Key×Value)) (i:Nat) (acc:List (Key×Value)) (ix:Int) (t:Tok) (s:Shared),items.size=i+rest.length->acc.length+rest.length<=sizeLine->
  (∀(j:Nat) (q:Key×Value),rest[j]? = some q->∃(b:Addr) (u:Value),items[i+j]? = some (.ref b)/\b≠S/\b≠I/\IsTup s.heap b (List.toArray [u,q.2])/\kZ q.1 u=true)->
  s.heap.IsListIter I l i->s.heap.IsList l items->s.heap.DictOf (cC prog w) S acc->
  (∀h' tk,h'.DictOf (cC prog w) S (merged acc rest)->(∀b o,b≠S->b≠I->s.heap.get? b=some o->h'.get? b=some o)->R (.ok (.ret res)) {s with heap:=h',toks:=tk})->
  codeAny (model prog w) A (.builtin "dict.update.loop" #[[.ref S,.ref I,.int ix t,res],[]]) R s
 | [],i,acc,ix,t,s,hsz,mE,ht,hit,hl,hm,hR=>by
  refine codeAny_builtin CH ?_;rw [Around.under_plainId nA _];show wpAny _ A.in1 (pyNext (.ref I) >>= _) _ _ s;refine az (wpAny_pyNext_list_end (A:=A.in1) hh hit hl (by first | exact z5 (eQ hsz) | (simp at hsz;simp;omega)) λh' he=>?_);show wpAny _ A.in1 (Builtin.Dict.addKeywords S [] >>= _) _ _ _;refine az (bo (bo ?_));exact hR h' s.toks (hm.extBut he hSI) λb o _ hb e=>he b o hb e
 | q :: rest,i,acc,ix,t,s,hsz,mE,ht,hit,hl,hm,hR=>by
  obtain ⟨b,u,hb,hbS,hbI,htup,hk⟩:=ht 0 q rfl;rw [aT] at hsz mE;refine codeAny_builtin CH ?_;rw [Around.under_plainId nA _];show wpAny _ A.in1 (pyNext (.ref I) >>= _) _ _ s;refine az (wpAny_pyNext_list_item (x:= .ref b) hit hl (by simpa using hb) λh1 hit1 hs1=>?_);have ht1:IsTup h1 b (List.toArray [u,q.2]):=htup.extBut hs1.extBut hbI;have hl1:h1.IsList l items:=hl.extBut hs1.extBut hlI;have hm1:h1.DictOf (cC prog w) S acc:=hm.extBut hs1.extBut hSI;obtain ⟨o,ho,hc,n,hd⟩:=id ht1;show wpAny _ A.in1 (holding [Value.ref b] _ >>= _) _ _ _;refine az (wpAny_holding ?_);refine az (wpAny_tryCatch ?_);unfold Builtin.Dict.pairItems;refine az (wpAny_typeOf (T:= "tuple") #[o,ho,hc] ?_);rw [ah (by first | decide | rfl | simp)];refine az (wpAny_seqItems ho hd (bo ?_));show wpAny _ A.in1 (holding [u,q.2] (dictSet S u q.2)) _ _ _;refine wpAny_holding (wpAny_dictSet_pairs (knd:=cC prog w) (k:=q.1) hk hm1 (λh2 hm2 hs2=>?_) (by omega));refine bo #[plainId_quiet nA _,CI (items:=items) hh hlI hSI hSl rest (i+1) (stored acc q.1 q.2) (ix+1) 0 _ (show items.size=i+1+rest.length by omega) ?_ (λj q' e=>?_) ?_ ?_ hm2 λh' tk hd' k=>?_]
  . have z:=stored_length_le acc q.1 q.2;omega
  . obtain ⟨b',u',hb',Ra,Rb,Rc,hk'⟩:=ht (j+1) q' (by simpa using e);exists b',u',?_,Ra,Rb,(Rc.extBut hs1.extBut Rb).extBut hs2.extBut Ra,hk';rw [show i+1+j=i+(j+1) by omega];exact hb'
  . exact hit1.at λo' e=>hs2.extBut I o' (bY hSI) e
  . exact hl1.extBut hs2.extBut (bY hSl)
  . exact hR h' tk hd' λc oc h3 h4 e=>k c oc h3 h4 (hs2.extBut c oc h3 (hs1.extBut c oc h4 e))
def wz {ol:Obj} {prs:List (Key×Value)} (hh:A.handled=none) (hl:s.heap.get? l=some ol) (hc:ol.cls= .type "list") (hd:ol.dict=none) (hdat:ol.data= .seq items n) (hsz:items.size=prs.length) (mE:prs.length<=sizeLine) (ht:∀(j:Nat) (q:Key×Value),prs[j]? = some q->∃(b:Addr) (u:Value),items[j]? = some (.ref b)/\IsTup s.heap b (List.toArray [u,q.2])/\kZ q.1 u=true) (h:∀h' tk,h'.DictOf (cC prog w) s.heap.objs.size (merged [] prs)->(∀b o,s.heap.get? b=some o->h'.get? b=some o)->Q (.ref s.heap.objs.size) {s with heap:=h',toks:=tk}):
 wpAny (model prog w) A (call (.type "dict") [.ref l]) Q E s:=by
 refine callType_codes (Q₁:=λobj s₁=>obj= .ref s.heap.objs.size/\s₁={s with heap:=s.heap.push {cls:= .type "dict",data:= .dict #[]}}) PySem.F.kt_called_dict (PySem.F.kt_typeCall_dict_1 _) PySem.F.entry_dict_init (kt_code_dict_new _ #[rfl,rfl]) ?_;rintro obj s₁ ⟨rfl,rfl⟩;have hnew:(s.heap.push {cls:= .type "dict",data:= .dict #[]}).DictOf (cC prog w) s.heap.objs.size []:=Heap.DictOf.new s.heap;have k0:∀b o,s.heap.get? b=some o->(s.heap.push {cls:= .type "dict",data:= .dict #[]}).get? b=some o:=λb o e=>bC _ e;exists hnew.typeIs,PySem.F.args_dict_init_2 _ _,?_;unfold Builtin.«dict.__init__»;refine az ?_;unfold Builtin.Dict.selfAndRest;refine az (wpAny_notOrdered_dict hnew.typeIs ?_);show wpAny _ _ (pure (s.heap.objs.size,[Value.ref l])) _ _ _;refine bo ?_;show wpAny _ _ (Builtin.Dict.updateFrom "dict.__init__" s.heap.objs.size (.ref l) [] .none) _ _ _;unfold Builtin.Dict.updateFrom;refine az (wpAny_typeOf (T:= "list") #[ol,k0 _ _ hl,hc] ?_);rw [ah (by first | decide | rfl | simp)];refine az (Hf (k0 _ _ hl) hc hdat hd hh λh1 Wz hk1=>?_);rw [ah (show (none:Option Value).isNone=true from rfl)];refine az (wpAny_rule ?_);have hl1:h1.IsList l items:=#[ol,hk1 _ _ (k0 _ _ hl),hc,n,hdat];have hS1:s.heap.objs.size < h1.objs.size:=by
  have e:(s.heap.push {cls:= .type "dict",data:= .dict #[]}).get? s.heap.objs.size=some {cls:= .type "dict",data:= .dict #[]}:=cD _ rfl;exact aH (hk1 _ _ e)
 refine az (uo hl1 ?_);have k2:∀b o,h1.get? b=some o->(h1.push {cls:= .type "list_iterator",data:= .fields (List.toArray [.ref l,.int 0 0])}).get? b=some o:=λb o e=>bC _ e;have gZ:l < s.heap.objs.size:=aH hl;have key:=CI (prog:=prog) (w:=w) (A:=A.in1) (R:=wants (λr s₂=>r= .none/\Q (.ref s.heap.objs.size) s₂) E) (S:=s.heap.objs.size) (I:=h1.objs.size) (l:=l) (items:=items) (res:=Value.none) hh
  (a9 (kX gZ hS1)) (a9 hS1) (fO gZ) prs 0 [] 0 0
  {s with heap:=h1.push {cls:= .type "list_iterator",data:= .fields (List.toArray [.ref l,.int 0 0])},toks:=Wz} (by rw [hsz,pB]) (by rw [fL,pB];exact mE)
  (λj q e=>by
   obtain ⟨b,u,e1,e2,e3⟩:=ht j q e;have hb:b < s.heap.objs.size:=e2.lt;exists b,u,by rw [pB];exact e1,a9 hb,a9 (kX hb hS1),e2.keeps λc o z=>k2 _ _ (hk1 _ _ (k0 _ _ z)),e3)
  #[_,cD _ rfl,rfl,rfl] (hl1.at λo e=>k2 _ _ e) ((hnew.at λo e=>hk1 _ _ e).at λo e=>k2 _ _ e)
  (λh' tk hd' k=>#[rfl,h h' tk hd' λb o e=>k b o (a9 (aH e)) (a9 (kX (aH e) hS1)) (k2 _ _ (hk1 _ _ (k0 _ _ e)))])
 first
  | exact bo #[plainId_quiet nA _,key]
  | exact az (bo (bo #[plainId_quiet nA _,key]))
end
section
def CJ (I:Inv X pins σ H s):∀{ps:List Addr} {aG:List (Key×V)},Paired (λp kv=>gS X.K H p [kV kv.1,kv.2]) ps aG->
 ∃prs:List (Key×Value),KV aG prs/\prs.length=ps.length/\∀(j:Nat) (q:Key×Value),prs[j]? = some q->∃(b:Addr) (u:Value),ps[j]? = some b/\IsTup s.heap b (List.toArray [u,q.2])/\kZ q.1 u=true
 | _,_,.nil=>#[[],.nil,rfl,λj q e=>by simp at e]
 | _,_,.cons (a:=p) (b:=kv) h t=>by
  obtain ⟨prs,r,hl,hp⟩:=CJ I t;obtain ⟨bV,rv,ht,_⟩:=I.tuple h;obtain ⟨u,y,ei,ru,ry⟩:=vals2 rv;subst ei;exists (kv.1,y) :: prs,.cons #[U,ry] r,by rw [aT,aT,hl],λj q e=>?_;cases j with
  | zero=>
   have e':(kv.1,y)=q:=bF e;subst e';exists p,u,U,ht,vM (P:=X.prog) (w:=X.w) ru
  | succ j=>
   obtain ⟨b,u',e1,e2,e3⟩:=hp j q (by simpa using e);exists b,u',by simpa using e1,e2,e3
def F8:∀{ps:List Addr} {us:List Value},Vals (ps.map V.ref) us->us=ps.map Value.ref
 | [],us,r=>by
  rw [cO] at r;cases r;rfl
 | p :: ps,us,r=>by
  rw [bI] at r;cases r with
  | cons h t=>
   cases h;rw [bI,<-F8 t]
def xT (hcalm:X.calm=true):gh X (.type "dict") (λxs H Q=> ∃(a:Addr) (ps:List Addr) (aG:List (Key×V)),xs= [.ref a]/\cz X.K H a (ps.map V.ref)/\Paired (λp kv=>gS X.K H p [kV kv.1,kv.2]) ps aG/\
 ∀p,H p=none->Q (.ref p) (upd H p (.dK (lY [] aG)))):=by
 intro pins s σ H xs us Q I r q;obtain ⟨a,ps,aG,ex,hq,hp,q⟩:=q;subst ex;obtain ⟨u,eu,rx⟩:=vals1 r;subst eu;cases rx;obtain ⟨bV,rv,pl,hz⟩:=I.list hq;have ei:=F8 rv;subst ei;rw [aB] at hz;obtain ⟨prs,rel,hl,hpr⟩:=CJ I hp;obtain ⟨o,n,ho,hc,hd,hdat⟩:=pl;refine wz (prs:=prs) (I.ok.hd hcalm) ho hc hd hdat (by simp [hl]) (by rw [hl];exact hz) (λj q' e=>?_) λh' tk hd' k=>?_
 . obtain ⟨b,u,e1,e2,e3⟩:=hpr j q' e;exists b,u,by simp [e1],e2,e3
 . have hm:(s.heap.objs.size == sysModules)=false:=bS.mpr (fO I.big);have hlen:(lY [] aG).length<=sizeLine:=by
    refine aP (qj aG []) ?_;rw [fL,pB,rel.length,hl];exact hz
   exists .ref s.heap.objs.size,upd H s.heap.objs.size (.dK (lY [] aG)),I.laid (t':=tk) k (aw _) (show dc X.prog X.w _ _ _ (.dK (lY [] aG)) from #[hlen,hm,merged [] prs,KV.merge rel .nil,hd']),U,q _ (I.bQ.fresh (aw _))
end
section
def Inv.Mf (I:Inv X pins σ H s) (k:∀b o,b∉ch->s.heap.get? b=some o->h'.get? b=some o) (hf:∀b∈ch,k7 X pins H b):Inv X pins σ H {s with heap:=h',toks:=t'}:=by
 have Nw:∀b u,H b=some u->b∉ch:=λb u e z=>by
  have q:=(hf b z).1;rw [q] at e;cases e
 refine I.step (g':=s.gens) (d':=s.drawn) (ch:=ch) (λb hb=>#[(hf b hb).2.2.2.1,(hf b hb).2.1,(hf b hb).2.2.2.2.1,(hf b hb).2.2.2.2.2]) (λb o _ _ hc e _=>k b o hc e) (λb o _ _ hc e _=>#[o.slots,k b o hc e])
  (λ_ _ _ _ n=>n) (λb o hc e=>#[o,k b o hc e]) (λ_ _ e=>e) (λ_ _ _ e=>e) (λb ps e=>#[#[],by rw [e];simp]) (λm hm=>?_) (λb u e=>?_) I.bare
 . obtain ⟨o,es,ep,ho,r⟩:=hm;exists o,es,ep,k _ o (λz=>(hf _ z).2.1 U) ho,r
 . refine (I.bQ b u e).stay (λc v hc q=>k c v ?_ q) (λ_ q=>q) λ_ _ q=>q;rcases hc with z | z
   . rw [z];exact Nw b u e
   . exact Nw c _ z
def Inv.Al {T:Addr} {ob:HO} (I:Inv X pins σ H s) (k:∀b o,b∉ch->s.heap.get? b=some o->h'.get? b=some o) (hf:∀b∈ch,k7 X pins H b) (hT:s.heap.objs.size<=T) (new:dc X.prog X.w (upd H T ob) h' T ob):Inv X pins σ (upd H T ob) {s with heap:=h',toks:=t'}:=by
 have hn:H T=none:=I.bQ.fresh hT;have Nw:∀b u,H b=some u->b∉ch:=λb u e z=>by
  have q:=(hf b z).1;rw [q] at e;cases e
 refine I.step (g':=s.gens) (d':=s.drawn) (ch:=ch) (λb hb=>#[(hf b hb).2.2.2.1,(hf b hb).2.1,(hf b hb).2.2.2.2.1,(hf b hb).2.2.2.2.2]) (λb o _ _ hc e _=>k b o hc e) (λb o _ _ hc e _=>#[o.slots,k b o hc e])
  (λb o _ e n=>?_) (λb o hc e=>#[o,k b o hc e]) (λb xs e=>?_) (λb o u e=>?_) (λb ps e=>#[#[],?_]) (λm hm=>?_) (λb u e=>?_) I.bare
 . rw [aA (a9 (bq (aH e) hT))];exact n
 . rw [aA (bp e hn)];exact e
 . rw [aA (bp e hn)];exact e
 . rw [aA (bp e hn),e];simp
 . obtain ⟨o,es,ep,ho,r⟩:=hm;exists o,es,ep,k _ o (λz=>(hf _ z).2.1 U) ho,r
 . by_cases hb:b=T
   . subst hb;rw [aa] at e;cases e;exact new
   . rw [aA hb] at e;refine (I.bQ b u e).stay (λc v hc q=>k c v ?_ q) (λc q=>by rw [aA (bp q hn)];exact q) λc xs q=>by rw [aA (bp q hn)];exact q
     rcases hc with z | z
     . rw [z];exact Nw b u e
     . exact Nw c _ z
def Inv.lock {d:Addr} {u:HO} (I:Inv X pins σ H s) (h:H d=some u) (mu:OD (some u)):∃od,Inv X pins σ (upd H d (.gR od u)) s:=by
 have x:=I.bQ d u h;have ex:∃od,s.heap.get? d=some od:=by
  cases u with
  | lst xs=>obtain ⟨_,_,_,_,e⟩:=x;exists _,e
  | dK aG=>obtain ⟨_,_,_,_,o,_,_,e,_⟩:=x;exists o,e
  | dT aG=>obtain ⟨_,_,_,_,o,_,_,e,_⟩:=x;exists o,e
  | set S n=>obtain ⟨o,_,_,_,e,_⟩:=x;exists o,e
  | ins C dx fs=>obtain ⟨_,_,_,e,_⟩:=x;exists _,e
  | ext φ=>obtain ⟨_,⟨_,e⟩,_⟩:=x;exists _,e
  | _=>exact False.elim mu
 obtain ⟨od,e⟩:=ex;have new:dc X.prog X.w (upd H d (.gR od u)) s.heap d (.gR od u):=by
  exists e,x.stay (λb v _ q=>q) (λb q=>?_) λb xs q=>?_
  . rw [aA (λz=>by rw [z,h] at q;cases q;exact mu)];exact q
  . rw [aA (λz=>by rw [z,h] at q;cases q;exact mu)];exact q
 exists od,I.write (x:=d) (e:=d) (t':=s.toks) (h':=s.heap) (by rw [h];exact mu) (.inl U) (λb v _ q=>q) #[od,e] new
end
section
def Jh {R:It->Hp->Prop} {tn:Nat->Heap->Prop} {tk:Nat} (I:Inv X pins σ H s) (o:Obj) (T:Turn X.prog X.w X.K tg J [s.heap.objs.size] s.heap.objs.size tn) (st:tn 0 (s.heap.push o)) (q:R J H):PIE X pins σ tg R (.ref s.heap.objs.size) {s with heap:=s.heap.push o,toks:=tk}:=by
 exists s.heap.objs.size,[s.heap.objs.size],tn,J,H,U,I.kept λb ob e=>bC _ e,T,st,λb hb=>?_,q;have e:b=s.heap.objs.size:=by simpa using hb
 subst e;exact I.xD (aw _) (I.bQ.fresh (aw _))
end
def Vz (i j c:Int) (n:Nat):=c≠0/\c.natAbs < 1073741824/\Builtin.Range.small i j c=true/\Builtin.Range.rangeSize i j c=n
def Vz.neg {i j:Int} (ha: -(2 ^ 62)<=i) (ha':i < 2 ^ 62) (hb: -(2 ^ 62)<=j) (hb':j < 2 ^ 62):Vz i j (-1) (i - j).toNat:=
 #[by decide,by decide,PySem.W.small_down ha ha' hb hb',PySem.W.rangeSize_downNat i j]
def Its (x:Str):It:=#[λi _=>i < x.cps.size,λi H v H'=>H'=H/\∃c,x.cps[i]? = some c/\v= .str ⟨(List.toArray [c])⟩,λi _=>x.cps.size<=i]
def CK (it:Addr) (x:Str) (t:Tok) (ty:String) (hty:ty= "str_ascii_iterator" \/ty= "str_iterator"):
 Turn P w K tg (Its x) [it] it (λi h=>h.IsStrIter it ty x t i) where
 mem:=by simp
 obj:=λi h st b hb=>by
  have e:b=it:=by simpa using hb
  subst e;obtain ⟨o,e,c,d⟩:=st;exists o,e,λv z=>by rw [d] at z;cases z
 keep:=λi h h' st k=>let #[o,ho,r]:=st;#[o,k it (by simp) o ho,r]
 item:=by
  intro X hP hw hK hc i pins s σ H E I hf st hg;subst hP hw hK;obtain ⟨f0,f1,f2,f3,f4,f5⟩:=hf it (by simp);have W:Walks X.prog X.w X.A it [it] [it] x.cps.size (SignAt x) (λi h=>h.IsStrIter it ty x t i):=by
   rcases hty with e | e
   . rw [e];exact Walks.strAscii (I.ok.hd hc) it x t
   . rw [e];exact Walks.strWide (I.ok.hd hc) it x t
  have k9: ["enumerate","zip","dict_itemiterator","dict_reverseitemiterator","odict_iterator","itertools.zip_longest","itertools.pairwise"].contains ty=false:=by
   rcases hty with e | e
   . rw [e];decide
   . rw [e];decide
  refine W.item i s _ _ hg st λv h' tk hv st' kk=>?_;obtain ⟨c,u,hcx,rfl⟩:=hv;have I1:Inv X pins σ H {s with heap:=h',toks:=tk}:=I.turned (λb o hb e=>kk b o (by simpa using hb) e) f0 f1 f3 f4 f5;obtain ⟨oi,e,cc,dd⟩:=id st';exists _,U,II (s:={s with heap:=h',toks:=tk}) e cc dd k9 #[.str ⟨(List.toArray [c])⟩,H,I1,#[u,U],#[U,c,hcx,U],st',λb hb=>(hf b hb).1]
 done:=by
  intro X hP hw hK hc i pins s σ H E I hf st hg;subst hP hw hK;obtain ⟨f0,f1,f2,f3,f4,f5⟩:=hf it (by simp);have hx:x.cps[i]? = none:=z5 hg;rcases hty with e | e
  . rw [e] at st;exact wpAny_pyNext_ascii_end (I.ok.hd hc) st hx λh' eb=>#[rfl,I.turned (t':=s.toks) (λb o hb e=>eb b o hb e) f0 f1 f3 f4 f5]
  . rw [e] at st;exact wpAny_pyNext_wide_end (I.ok.hd hc) st hx λh' eb=>#[rfl,I.turned (t':=s.toks) (λb o hb e=>eb b o hb e) f0 f1 f3 f4 f5]
 self:=λA i s Q E st h=>by
  rcases hty with e | e
  . rw [e] at st;exact wpAny_pyIter_striter_ascii st h
  . rw [e] at st;exact wpAny_pyIter_striter_wide st h
def Uk (te:TE):TI:=λσ H R=>te σ H λv H1=> ∃x,v= .str x/\R (Its x) H1
def Ji (he:PE X e te):PI X tg e (Uk te):=by
 intro pins s σ H R I h;refine dX (he pins s σ H _ I h) λv s1 #[y,H1,I1,r1,x,ex,q]=>?_;subst ex;obtain ⟨t,rfl⟩:=r1;cases ha:x.cps.all (· < 128)
 . exact wpAny_pyIter_wide ha (Jh (tk:=s1.toks) I1 _ (CK _ x t "str_iterator" (.inr rfl)) #[_,cD _ rfl,rfl,rfl] q)
 . exact wpAny_pyIter_ascii ha (Jh (tk:=s1.toks) I1 _ (CK _ x t "str_ascii_iterator" (.inl rfl)) #[_,cD _ rfl,rfl,rfl] q)
def VA (K:Frag) (a:Addr):It:=
 #[λi H=> ∃(xs:List V) (x:V),cz K H a xs/\xs[i]? = some x,λi H v H'=> ∃T x,v= .ref T/\H T=none/\H'=upd H T (.tup [.int (i:Nat),x])/\∀xs,cz K H a xs->xs[i]? = some x,λi H=> ∃xs:List V,cz K H a xs/\xs.length<=i]
def Hg (a e it:Addr):
 Turn P w K (.Tuple elts kk tpos) (VA K a) [e,it] e (λi h=>(∃old,IsEnum h e it ((i:Nat):Int) old)/\h.IsListIter it a i/\e≠it) where
 mem:=by simp
 obj:=λi h st b hb=>by
  obtain ⟨⟨old,he⟩,⟨o,ho,hc,hd⟩,_⟩:=st;have e':b=e\/b=it:=by simpa using hb
  rcases e' with z | z
  . rw [z];exists _,he,λv q=>nomatch q
  . rw [z];exists o,ho,λv q=>by rw [hd] at q;cases q
 keep:=λi h h' st k=>let #[#[old,he],hi,kg]:=st;#[#[old,k e (by simp) _ he],hi.at λo q=>k it (by simp) o q,kg]
 item:=by
  intro X hP hw hK hc i pins s σ H E I hf st hg;subst hP hw hK;obtain ⟨⟨old,he⟩,hit,kg⟩:=st;obtain ⟨xs,x,hq,hx⟩:=hg;obtain ⟨bV,rv,p,hz⟩:=I.list hq;obtain ⟨u,hu,ru⟩:=rv.get hx;have hel:e < s.heap.objs.size:=aH he;have hil:it < s.heap.objs.size:=by obtain ⟨_,q,_⟩:=hit;exact aH q
  refine wpAny_pyNext_enum_item he hit p.isList (x:=u) (by simpa using hu) kg λh' ho hit' hT hsz hk=>?_;exists _,U,wpAny_letOwnedTupleGo_enum (s:={s with heap:=h',toks:=s.toks+1}) ho λh'' he' sb=>?_;have hT2:h''.get? s.heap.objs.size=some {cls:= .type "tuple",data:= .seq (List.toArray [.int i s.toks,u])}:=(sb.2 _ (fO hel)).trans hT;have new:dc X.prog X.w (upd H s.heap.objs.size (.tup [.int (i:Nat),x])) h'' s.heap.objs.size (.tup [.int (i:Nat),x]):=
   #[by show 2<=sizeLine;decide,[.int i s.toks,u],.cons #[_,rfl] (.cons ru .nil),#[_,hT2,rfl,_,rfl]]
  have I1:Inv X pins σ (upd H s.heap.objs.size (.tup [.int (i:Nat),x])) {s with heap:=h'',toks:=s.toks+1}:=
   I.Al (ch:= [e,it]) (λb ob hb q=>(sb.2 b (λz=>hb (by simp [z]))).trans (hk b ob (λz=>hb (by simp [z])) (λz=>hb (by simp [z])) q)) hf (aw _) new
  exists .ref s.heap.objs.size,_,I1,U,#[_,x,U,I.bQ.fresh (aw _),U,λys hy=>by rw [I.rR hy hq];exact hx],#[#[u,?_],hit'.at λo q=>(sb.2 it (bY kg)).trans q,kg],λb hb=>?_
  . have e1:((i+1:Nat):Int)=(i:Int)+1:=by omega
    rw [e1];exact he'
  . have hb':b < s.heap.objs.size:=by
     have e':b=e\/b=it:=by simpa using hb
     rcases e' with z | z
     . rw [z];exact hel
     . rw [z];exact hil
    rw [aA (a9 hb')];exact (hf b hb).1
 done:=by
  intro X hP hw hK hc i pins s σ H E I hf st hg;subst hP hw hK;obtain ⟨⟨old,he⟩,hit,kg⟩:=st;obtain ⟨xs,hq,hx⟩:=hg;obtain ⟨bV,rv,p,hz⟩:=I.list hq;obtain ⟨f0,f1,f2,f3,f4,f5⟩:=hf it (by simp);have hl:=rv.length;exact wpAny_pyNext_enum_end (I.ok.hd hc) he hit p.isList (by simp;omega) λh' eb=>#[rfl,I.turned (t':=s.toks) (λb o hb q=>eb b o hb q) f0 f1 f3 f4 f5]
 self:=λA i s Q E st h=>let #[#[_,he],_]:=st;wpAny_pyIter_enum he h
def Re (K:Frag) (ta:TA):TI:=λσ H R=>ta σ H λvs H1=> ∃a xs,vs= [.ref a]/\cz K H1 a xs/\R (VA K a) H1
def Mg {ta:TA} (ha:PA X [e] ta) (hg:Gl X "enumerate" :=by exact rfl) (hm:X.mg "enumerate" = none:=by walk_at "m") (hs:starEach [e] X.env= [(false,eval e X.env)]:=by rfl):
 PI X (.Tuple elts kk tpos) (.Call (.Name "enumerate" p) [e] [] pos) (Re X.K ta):=by
 intro pins s σ H R I h;refine Call_ (xB I hg hm boot_enumerate (callWith_type1 (dX (ha pos pins s σ H _ I h) λus s1 #[vs,H1,I1,r1,q1]=>?_) hs rfl));obtain ⟨a,xs,ex,hq,q⟩:=q1;subst ex;cases r1 with
 | cons r rr=>
  cases rr;cases r;obtain ⟨bV,rv,p',hz⟩:=I1.list hq;refine call_enumerate_list p'.isList λh' he hit hsz hk=>wpAny_pyIter_enum he ?_;have I2:Inv X pins σ H1 {s1 with heap:=h'}:=I1.kept (t':=s1.toks) hk;exists s1.heap.objs.size+1,[s1.heap.objs.size+1,s1.heap.objs.size],_,_,H1,U,I2,Hg a (s1.heap.objs.size+1) s1.heap.objs.size,#[#[.none,he],hit,Nat.succ_ne_self _],λb hb=>?_,q;have e':b=s1.heap.objs.size+1\/b=s1.heap.objs.size:=by simpa using hb
  have hle:s1.heap.objs.size<=b:=by
   rcases e' with z | z
   . rw [z];exact dS _ _
   . rw [z];exact aw _
  exact I1.xD hle (I1.bQ.fresh hle)
def Hh:bootBuiltins "zip" = some (.type "zip"):=by decide+kernel
def Rf (K:Frag) (a b:Addr):It:=
 ⟨λi H=> ∃(xs ys:List V) (x y:V),cz K H a xs/\cz K H b ys/\xs[i]? = some x/\ys[i]? = some y,
  λi H v H'=> ∃T x y,v= .ref T/\H T=none/\H'=upd H T (.tup [x,y])/\(∀xs,cz K H a xs->xs[i]? = some x)/\∀ys,cz K H b ys->ys[i]? = some y,
  λi H=> ∃xs ys:List V,cz K H a xs/\cz K H b ys/\(xs.length<=i\/ys.length<=i)⟩
def Jj {z TI TO i1 i2:Addr} (D:ZipApart z TI TO i1 i2 a b):
 Turn P w K (.Tuple elts kk tpos) (Rf K a b) [z,TI,TO,i1,i2] z (λi h=>IsZip h z TI TO .none/\IsPair h TI (.ref i1) (.ref i2)/\(∃x y,IsPair h TO x y)/\h.IsListIter i1 a i/\h.IsListIter i2 b i) where
 mem:=by simp
 obj:=λi h st c hc=>by
  obtain ⟨hz,hTI,⟨x,y,hTO⟩,⟨o1,e1,_,d1⟩,⟨o2,e2,_,d2⟩⟩:=st;have e':c=z\/c=TI\/c=TO\/c=i1\/c=i2:=by simpa using hc
  rcases e' with q | q | q | q | q
  . rw [q];exists _,hz,λv q=>nomatch q
  . rw [q];exists _,hTI,λv q=>nomatch q
  . rw [q];exists _,hTO,λv q=>nomatch q
  . rw [q];exists o1,e1,λv q=>by rw [d1] at q;cases q
  . rw [q];exists o2,e2,λv q=>by rw [d2] at q;cases q
 keep:=λi h h' st k=>by
  obtain ⟨hz,hTI,⟨x,y,hTO⟩,h1,h2⟩:=st;exists k z (by simp) _ hz,k TI (by simp) _ hTI,#[x,y,k TO (by simp) _ hTO],h1.at λo q=>k i1 (by simp) o q,h2.at λo q=>k i2 (by simp) o q
 item:=by
  intro X hP hw hK hc i pins s σ H E I hf st hg;subst hP hw hK;obtain ⟨hz,hTI,⟨x0,y0,hTO⟩,h1,h2⟩:=st;obtain ⟨xs,ys,x,y,Qn,Qo,hx,hy⟩:=hg;obtain ⟨bV,rv,p,_⟩:=I.list Qn;obtain ⟨its2,SM,p2,_⟩:=I.list Qo;obtain ⟨u,hu,ru⟩:=rv.get hx;obtain ⟨u2,hu2,T8⟩:=SM.get hy;have Qp:z < s.heap.objs.size:=aH hz;refine wpAny_pyNext_zip_item D hz hTI hTO h1 h2 p.isList p2.isList (x:=u) (y:=u2) (by simpa using hu) (by simpa using hu2) λh' z' WB h1' h2' hT hsz hk=>?_;exists _,U,wpAny_letOwnedTupleGo_zip (s:={s with heap:=h'}) z' λh'' z'' sb=>?_;have hT2:h''.get? s.heap.objs.size=some {cls:= .type "tuple",data:= .seq (List.toArray [u,u2])}:=(sb.2 _ (fO Qp)).trans hT;have new:dc X.prog X.w (upd H s.heap.objs.size (.tup [x,y])) h'' s.heap.objs.size (.tup [x,y]):=
   #[by show 2<=sizeLine;decide,[u,u2],.cons ru (.cons T8 .nil),#[_,hT2,rfl,_,rfl]]
  have I1:Inv X pins σ (upd H s.heap.objs.size (.tup [x,y])) {s with heap:=h''}:=
   I.Al (t':=s.toks) (ch:= [z,TI,TO,i1,i2]) (λc o hb q=>(sb.2 c (λq'=>hb (by simp [q']))).trans (hk c o (λq'=>hb (by simp [q'])) (λq'=>hb (by simp [q'])) (λq'=>hb (by simp [q'])) (λq'=>hb (by simp [q'])) q)) hf (aw _) new
  exists .ref s.heap.objs.size,_,I1,U,#[_,x,y,U,I.bQ.fresh (aw _),U,λl hl=>by rw [I.rR hl Qn];exact hx,λl hl=>by rw [I.rR hl Qo];exact hy],#[z'',?_,#[u,u2,?_],?_,?_],λc hcm=>?_
  . exact (sb.2 _ D.TIz).trans (hk _ _ D.TIz D.TITO D.TIi1 D.TIi2 hTI)
  . exact (sb.2 _ D.TOz).trans WB
  . exact h1'.at λo q=>(sb.2 _ D.i1z).trans q
  . exact h2'.at λo q=>(sb.2 _ D.i2z).trans q
  . have gZ:c < s.heap.objs.size:=by
     have e':c=z\/c=TI\/c=TO\/c=i1\/c=i2:=by simpa using hcm
     rcases e' with q | q | q | q | q
     . rw [q];exact Qp
     . rw [q];exact aH hTI
     . rw [q];exact aH hTO
     . rw [q];obtain ⟨_,e1,_⟩:=h1;exact aH e1
     . rw [q];obtain ⟨_,e2,_⟩:=h2;exact aH e2
    rw [aA (a9 gZ)];exact (hf c hcm).1
 done:=by
  intro X hP hw hK hc i pins s σ H E I hf st hg;subst hP hw hK;obtain ⟨hz,hTI,⟨x0,y0,hTO⟩,h1,h2⟩:=st;obtain ⟨xs,ys,Qn,Qo,hend⟩:=hg;obtain ⟨bV,rv,p,_⟩:=I.list Qn;obtain ⟨its2,SM,p2,_⟩:=I.list Qo;have l1:=rv.length;have l2:=SM.length;have he:bV.toArray[i]? = none\/its2.toArray[i]? = none:=by
   rcases hend with q | q
   . exact .inl (by simp;omega)
   . exact .inr (by simp;omega)
  exact wpAny_pyNext_zip_end (I.ok.hd hc) D hz hTI hTO h1 h2 p.isList p2.isList he λh' hk=>⟨rfl,I.Mf (t':=s.toks) (ch:= [z,TI,TO,i1,i2]) (λc o hb q=>
   hk c o (λq'=>hb (by simp [q'])) (λq'=>hb (by simp [q'])) (λq'=>hb (by simp [q'])) (λq'=>hb (by simp [q'])) q) hf⟩
 self:=λA i s Q E st h=>wpAny_pyIter_zip st.1 h
def Ul (K:Frag) (ta:TA):TI:=λσ H R=>ta σ H λvs H1=> ∃a b xs ys,vs= [.ref a,.ref b]/\cz K H1 a xs/\cz K H1 b ys/\R (Rf K a b) H1
def Ba {e2:Expr} {ta:TA} (ha:PA X [e,e2] ta) (hg:Gl X "zip" :=by exact rfl) (hm:X.mg "zip" = none:=by walk_at "m") (hs:starEach [e,e2] X.env=(false,eval e X.env) :: starEach [e2] X.env:=by rfl) (gQ:(backTo pos (starEach [e2] X.env)).any (·.1)=false:=by rfl):
 PI X (.Tuple elts kk tpos) (.Call (.Name "zip" p) [e,e2] [] pos) (Ul X.K ta):=by
 intro pins s σ H R I h;refine Call_ (xB I hg hm Hh (callWith_type1 (dX (ha pos pins s σ H _ I h) λus s1 #[vs,H1,I1,r1,q1]=>?_) hs gQ));obtain ⟨a,b,xs,ys,ex,Qn,Qo,q⟩:=q1;subst ex;cases r1 with
 | cons r rr=>
  cases rr with
  | cons r' rr=>
   cases rr;cases r;cases r';obtain ⟨bV,rv,p1,_⟩:=I1.list Qn;obtain ⟨its2,SM,p2,_⟩:=I1.list Qo;have la:a < s1.heap.objs.size:=p1.lt;have lb:b < s1.heap.objs.size:=p2.lt;refine call_zip_2 p1.isList p2.isList λh' hz hTI hTO h1 h2 hsz hk=>wpAny_pyIter_zip hz ?_;have I2:Inv X pins σ H1 {s1 with heap:=h'}:=I1.kept (t':=s1.toks) hk;exists s1.heap.objs.size+4,[s1.heap.objs.size+4,s1.heap.objs.size+2,s1.heap.objs.size+3,s1.heap.objs.size,s1.heap.objs.size+1],_,_,H1,U,I2,Jj (PySem.W.ktu_apart s1.heap.objs.size a b la lb),#[hz,hTI,#[_,_,hTO],h1,h2],λc hcm=>?_,q;have e':c=s1.heap.objs.size+4\/c=s1.heap.objs.size+2\/c=s1.heap.objs.size+3\/c=s1.heap.objs.size\/c=s1.heap.objs.size+1:=by simpa using hcm
   have hle:s1.heap.objs.size<=c:=by
    rcases e' with z | z | z | z | z
    . rw [z];exact dS _ _
    . rw [z];exact dS _ _
    . rw [z];exact dS _ _
    . rw [z];exact aw _
    . rw [z];exact dS _ _
   exact I1.xD hle (I1.bQ.fresh hle)
def lZ:∀{ys:List Str} {us:List Value},Vals (ys.map V.str) us->StrsAre us ys
 | [],_,.nil=> .nil
 | y :: ys,_,.cons r t=>by
  obtain ⟨k,rfl⟩:=r;exact .cons y k (lZ t)
section
def Mh:Lr X "str.join" (λx xs H Q=> ∃a p,∃ys:List Str,x= .str a/\xs= [.ref p]/\(cz X.K H p (ys.map V.str)\/gS X.K H p (ys.map V.str))/\
 (ys.map (·.length)).sum+ys.length * a.length<=16777216/\Q (.str (Txt.join a ys)) H):=by
 intro pins s σ H x xs v us Q I rx rs h;obtain ⟨a,p,ys,rfl,rfl,hp,hz,h⟩:=h;obtain ⟨t,rfl⟩:=rx;cases rs with
 | cons r1 rs=>
  cases rs;cases r1;rcases hp with hp | hp
  . obtain ⟨bV,r,⟨o,n,ho,hc,_,hd⟩,_⟩:=I.list hp;exact join_list (items:=bV.toArray) #[o,ho,hc,n,hd] (by rw [List.toList_toArray];exact lZ r) hz λt' k=>#[.str _,H,I.tok k,#[t',rfl],h]
  . obtain ⟨bV,r,ht,_⟩:=I.tuple hp;exact join_tuple (items:=bV.toArray) ht (by rw [List.toList_toArray];exact lZ r) hz λt' k=>#[.str _,H,I.tok k,#[t',rfl],h]
end
section
variable {o:Expr} {to:TE}
def VB (r:V->List V->Hp->VK->Prop) (to te:TE):TE:=λσ H Q=>to σ H λx H1=>(∃a,x= .str a)/\te σ H1 λy H2=>r x [y] H2 Q
def Rg {id:String} {name:Str} {r:V->List V->Hp->VK->Prop} (slot:Slot "str" name id) (ty:typeOf (.builtin id)=pure (.type "method_descriptor")) (rule:Lr X id r) (ho:PE X o to) (he:PE X e te) (hs:starEach [e] X.env= [(false,eval e X.env)]:=by rfl) (hbase:attributeBase o name X.env (eval o X.env)=eval o X.env:=by rfl) (hline:(apos.endLine == pos.line)=true:=by rfl):
 PE X (.Call (.Attribute o name apos) [e] [] pos) (VB r to te):=by
 intro pins s σ H Q I h;refine Call_method1 hbase hs hline (dX (ho pins s σ H _ I h) λv s1 #[x,H1,I1,r1,q1]=>?_);obtain ⟨⟨a,rfl⟩,q1⟩:=q1;obtain ⟨t,rfl⟩:=_root_.id r1;exists "str",_,F.plainAttrs_str,slot,ty,typeIs_str _ _ _,(λ_ e=>nomatch e),Calls.callWith_builtin U (Calls.evalArgs_plain (Calls.spliced_cons ?_));exact dX (he pins s1 σ H1 _ I1 q1) λu s2 #[y,H2,I2,r2,q2]=>Calls.spliced_nil (rule pins s2 σ H2 _ [y] _ [u] Q I2 r1 (.cons r2 .nil) q2)
def sg (ho:PE X o to) (he:PE X e te) (hs:starEach [e] X.env= [(false,eval e X.env)]:=by rfl) (hbase:attributeBase o "join" X.env (eval o X.env)=eval o X.env:=by rfl) (hline:(apos.endLine == pos.line)=true:=by rfl):
 PE X (.Call (.Attribute o "join" apos) [e] [] pos) (VB (λx xs H Q=> ∃a p,∃ys:List Str,x= .str a/\xs= [.ref p]/\(cz X.K H p (ys.map V.str)\/gS X.K H p (ys.map V.str))/\
  (ys.map (·.length)).sum+ys.length * a.length<=16777216/\Q (.str (Txt.join a ys)) H) to te):=
 Rg F.slot_str_join F.type_str_join Mh ho he hs hbase hline
end
def inClass (s:Stmt) (j:Nat):Stmt:=match s with
 | .ClassDef _ _ _ body _ _ _ _ _ _ _=>body.getD j (.Pass #[0,0,0,0])
 | _=> .Pass #[0,0,0,0]
def fj (s:Stmt):Arguments:=match s with
 | .FunctionDef _ a _ _ _ _ _ _ _ _=>a
 | _=>{posonlyargs:= [],args:= [],vararg:=none,kwonlyargs:= [],kw_defaults:= [],kwarg:=none,defaults:= []}
def cS (s:Stmt):List Stmt:=match s with
 | .FunctionDef _ _ b _ _ _ _ _ _ _=>b
 | _=> []
def aX (s:Stmt):Scope:=match s with
 | .FunctionDef _ _ _ _ _ _ sc _ _ _=>sc
 | _=>{kind:= .function,names:= [],isGenerator:=false,isCoroutine:=false}
abbrev CL:IW:=λ_ _ _ _ _ _=>False
abbrev E0:XK:=λ_ _ _=>False
def CM:Passes CL X E0:=λ_ _ _ _ _ _ _ h=>h.elim
structure Fun (K:Frag) (x qual:Str) (st:Stmt) (f:Addr) (fd:FuncData):Prop where
 ex:∃(oc:Value) (od:Option Addr) (kV doc pm:Value) (an:Option Addr) (eA ct:Value) (osl:Array (Option Value)),
  fd=fnOf x qual (fj st) (cS st) (aX st) .none kV doc pm an eA ct/\K.lookup f=some #[oc,od,.func fd,osl]/\codeIn K eA qual=true
 kp:keepIn K (.ref f)=true
section
def Fun.ok {k:Nat} (F:Fun K x qual st f fd) (S:d9 N ps (aX st)) (len:∀vs H Q E,sp vs H Q E->vs.length=ps.length) (hbody:∀(eA:Value) (A:Around) (outer:List Env) (s:Shared) (H:Hp) (vs:List V) (Q:VK) (E:XK),dn k (A.deeper (envOfC qual (aX st) s.heap.objs.size f eA))->sp vs H Q E->
 ∃t,rQ (jL CL P w K mg base N qual (aX st) f eA A outer s H E).FP (cS st) t/\t {nx:=λ_ H'=>Q .cp H',rt:=Q} (start N vs) H):iS P w K mg base CL (k+1) f fd ps sp:=by
 obtain ⟨oc,od,kV,doc,pm,an,eA,ct,osl,rfl,lk,hcd⟩:=F.ex;refine NE lk hcd S len λA outer s H vs Q E hr hsp=>?_;obtain ⟨t,h,q⟩:=hbody eA A outer s H vs Q E hr hsp;exists t,h.FP,q
def Fun.binds (F:Fun K x qual st f fd) (h:∀(kV doc pm:Value) (an:Option Addr) (eA ct:Value) (us:List Value),us.length=ps.length->bindArgs (fnOf x qual (fj st) (cS st) (aX st) .none kV doc pm an eA ct) #[us,[]]=pure (ps.zip us)):Binds K fd ps []:=by
 obtain ⟨oc,od,kV,doc,pm,an,eA,ct,osl,rfl,lk,hcd⟩:=F.ex;exact .all (h kV doc pm an eA ct)
end
def qi {k:Nat} (hr:dn k A):A.units+1 < cLine:=Nat.lt_of_le_of_lt (Nat.add_le_add_left (by decide:1<=64) _) hr.units
section
def pv (i:Nat) (hN:X.N[i]? = some x:=by rfl) (hv:Ik X.env.scope x:=by first | exact Or.inl rfl | exact Or.inr (Or.inl rfl) | exact Or.inr (Or.inr rfl)) (hd:(x == ("__debug__" :Str))=false:=by decide) (hcd:(x == ("__classdict__" :Str))=false:=by decide):PE X (.Name x pos) (OG i):=xA hN hv hd hcd
end
def mQ {A B:Prop} (h:B):if false=true then A else B:=by
 rw [ae aO];exact h
def nB {A B:Prop} (h:A):if true=true then A else B:=by
 rw [ah rfl];exact h
def aq (H H':Hp):= ∀b o,H b=some o->H' b=some o
def aq.refl (H:Hp):aq H H:=λ_ _ h=>h
def aq.trans (a:aq H H1) (b:aq H1 H2):aq H H2:=λc o h=>b c o (a c o h)
def aq.free (e:aq H H') (h:H' l=Option.none):H l=Option.none:=by
 cases q:H l with
 | none=>rfl
 | some o=>
  rw [e l o q] at h;cases h
def aq.seq (e:aq H H') (h:cz K H a xs):cz K H' a xs:=by
 rcases h with (h | ⟨o,h⟩) | h
 . exact .inl (.inl (e _ _ h))
 . exact .inl (.inr #[o,e _ _ h])
 . exact .inr h
def aq.made {x:Addr} (nx:H x=Option.none) (nd:H dx=Option.none) (k:∀b o,(upd (upd H dx (.own x)) x (.ins C dx [])) b=some o->b≠x->H1 b=some o):aq H H1:=λb o e=>
 k b o (by rw [aA (bp e nx),aA (bp e nd)];exact e) (bp e nx)
open XE (ng qF jM BM)
def zy (P:Program) (w:World) (CF:Addr):IW:=λouter H s E e s'=>
 ∃(x T dx:Addr) (fs:List (Str×V)) (H':Hp),e= .ref x/\s'.os=s.os/\AllBare s'.gens/\Un (frs outer) [] H H' s.heap s'.heap/\k4 P w H' s'.heap/\
  ng s'.heap CF x dx (.ref T)/\qF s'.heap T .none/\T≠x/\s.heap.objs.size<=x/\s.heap.objs.size<=T/\H' x=none/\H' T=none/\
  H' dx=some (.xd fs)/\E (.ref CF) (some dx) H'
structure Cx.Out (X:Cx) (CF:Addr) (E:XK):Prop where
 xe:X.xe=λe s'=>wpAny (model X.prog X.w) X.A (noteFrame e X.env) (λ_ s1=>wpAny (model X.prog X.w) X.A (setFlight e none) (λ_ s''=>zy X.prog X.w CF X.outer X.Lq X.pE E e s'') (λe' s''=>zy X.prog X.w CF X.outer X.Lq X.pE E e' s'') s1) (λe' s''=>zy X.prog X.w CF X.outer X.Lq X.pE E e' s'') s'
 Ac:X.stack=X.env :: X.outer
 frm:X.env.frame=some X.env.locals
 ex:X.ex= []
def gn {E:XK}:
 (jL (zy P w CF) P w K mg base N qual scope f cd A outer s H E).Out CF E:=#[rfl,rfl,rfl,rfl]
section
variable {E:XK}
def si {fr:List Addr} {chg:Addr->Prop} (ok:k4 P w H h) (N:jM fr chg h h') (hf:∀b∈fr,H b=none) (hc:∀b,chg b->(H b=none\/h.get? b=none)):k4 P w H h':=λa o e=>
 (ok a o e).stay (λb u hb q=>by
  refine N.keep b u q (λz=>?_) λz=>?_
  . rcases hb with rfl | hb
    . rw [hf _ z] at e;cases e
    . rw [hf _ z] at hb;cases hb
  . rcases hc b z with n | n
    . rcases hb with rfl | hb
      . rw [n] at e;cases e
      . rw [n] at hb;cases hb
    . rw [n] at q;cases q) (λ_ q=>q) λ_ _ q=>q
def Er (O:X.Out CF E) (I:Inv X pins σ H s) {x:Addr} {tb:Value} {fs:List (Str×V)} (R:ng s.heap CF x dx tb) (ht:tb= .none\/∃T fl,tb= .ref T/\qF s.heap T fl/\T≠x/\H T=none/\X.pE.heap.objs.size<=T) (nx:H x=none) (fx:X.pE.heap.objs.size<=x) (hdx:H dx=some (.xd fs)) (hE:E (.ref CF) (some dx) H):X.xe (.ref x) s:=by
 rw [O.xe];have hfr:X.A.frames=some (X.env :: X.outer):=O.Ac ▸ I.ok.frames;have hl:s.heap.FunFrames X.base (X.env :: X.outer):=O.Ac ▸ I.stack;have sf:∀b∈frs (X.env :: X.outer),H b=none:=by
  have:=I.rP;rw [O.Ac] at this;exact this
 have WC:∀b o,X.pE.heap.get? b=some o->b≠X.env.locals:=λb o e=>a9 (bq (aH e) I.ok.above);have ub:=I.base;rw [O.ex] at ub;have fin:∀(chg:Addr->Prop) (h1:Heap) (T1:Addr) (VC:Value),jM (frs (X.env :: X.outer)) chg s.heap h1->(∀b,chg b->(H b=none/\X.pE.heap.objs.size<=b))->H T1=none->X.pE.heap.objs.size<=T1->T1∉frs (X.env :: X.outer)->ng h1 CF x dx (.ref T1)->qF h1 T1 VC->T1≠x->
  wpAny (model X.prog X.w) X.A (setFlight (.ref x) none) (λ_ s''=>zy X.prog X.w CF X.outer X.Lq X.pE E (.ref x) s'') (λe' s''=>zy X.prog X.w CF X.outer X.Lq X.pE E e' s'') {s with heap:=h1}:=λchg h1 T1 VC N1 hc nH n0 Qq R1 Mi ne1=>by
  refine XE.Sz (s:={s with heap:=h1}) (fr:=frs (X.env :: X.outer)) R1 Mi ne1 Qq λh2 N2 R2 O_=>?_;have Mj:jM (frs (X.env :: X.outer)) (λb=>chg b\/b=T1) s.heap h2:=N1.trans N2 (λb z=> .inl z) λb o _ z=> .inr z;exists x,T1,dx,fs,H,U,I.os,I.bare,#[λb o e n hb _=>?_,λb o e n hb _=>?_,λb o e n _=>ub.free b o e n (by simp),λb o e _=>?_,ub.tups,ub.pW,ub.qG],?_,R2,O_,ne1,fx,n0,nx,nH,hdx,hE
  . refine Mj.keep b o (ub.keep b o e n hb (by simp)) (λz=>?_) λz=>?_
    . unfold frs at z;rw [kE,O.frm] at z;rcases aE.mp z with q | q
      . exact WC b o e q
      . exact hb q
    . rcases z with z | z
      . exact absurd (bq (aH e) (hc b z).2) (cN _)
      . rw [z] at e;exact absurd (bq (aH e) n0) (cN _)
  . obtain ⟨sl,e1⟩:=ub.slot b o e n hb (by simp);obtain ⟨sl2,e2⟩:=Mj.slot b _ e1 (by unfold frs;rw [kE,O.frm];exact aW _ hb);exists sl2,e2
  . obtain ⟨o',e1⟩:=ub.there b o e (by simp);exact Mj.there b o' e1
  . exact si I.bQ Mj sf λb z=>by
     rcases z with z | z
     . exact .inl (hc b z).1
     . rw [z];exact .inl nH
 have Qq:∀T1,s.heap.objs.size<=T1->T1∉frs (X.env :: X.outer):=λT1 hn z=>by
  obtain ⟨_,o,ho,_⟩:=hl.mem z;exact absurd (bq (aH ho) hn) (cN _)
 rcases ht with rfl | ⟨T,fl,rfl,TR,Io,nT,fT⟩
 . exact (XE.QE hfr hl O.frm R λh1 T1 N1 lR R1 Mi ne1=>fin _ h1 T1 _ N1 (λb z=>by rw [z];exists nx,fx) (I.bQ.fresh lR) (aP I.sz lR) (Qq T1 lR) R1 Mi ne1)
 . cases hfl:(fl == rawInt X.env.locals) with
   | false=>exact (XE.IA hfr hl O.frm R TR hfl Io λh1 T1 N1 lR R1 Mi ne1=>fin _ h1 T1 _ N1 (λb z=>z.elim (λq=>by rw [q];exists nx,fx) λq=>by rw [q];exists nT,fT) (I.bQ.fresh lR) (aP I.sz lR) (Qq T1 lR) R1 Mi ne1)
   | true=>
    obtain rfl:fl=rawInt X.env.locals:=by simpa using hfl
    refine XE.QF O.frm R TR (fin (λ_=>False) s.heap T _ #[λ_ _ e _ _=>e,λb o e _=>#[o.slots,e],λ_ o e=>#[o,e]] (λ_ z=>z.elim) nT fT (λz=>?_) R TR Io);obtain ⟨oT,ts,hT,hdT,_⟩:=TR;obtain ⟨_,o,ho,hnf⟩:=hl.mem z;rw [hT] at ho;cases ho;exact hnf ts hdT
def F9 (O:X.Out CF E):Passes (zy X.prog X.w CF) X E:=λpins σ H s e s' I h=>by
 obtain ⟨x,T,dx,fs,H',rfl,hos,bare,un,bQ,R,TR,Io,fx,fT,nx,nT,hdx,hE⟩:=h;have J:Inv X pins σ H' s':=I.call' (ch:= []) hos un bQ bare λb z=>absurd z (by simp);exact Er O J R (.inr #[T,_,rfl,TR,Io,nT,aP I.sz fT]) nx (aP I.sz fx) hdx hE
def QS (O:X.Out CF E):PassesOwn (model X.prog X.w) X.A X.env X.xe:=λe s' h=>by
 rw [O.xe] at h ⊢;exact bU (wpAny_look_again (SameStack.refl X.A) h) (λ_ _ h1=>bU h1 (λ_ _ h2=>h2) λ_ _ z=>z) λ_ _ z=>z
end
structure FC (h:Heap) (CF fI:Addr):Prop where
 ex:∃(nm q:Str) (N:Addr) (bs:List Value) (sn:List Str) (sub:List Value) (ab:Bool) (col:Option Bool) (dd:Option Addr) (k0 k1 k2 k3 k5:Option Value) (mN:Str->Option Value),
  h.get? CF=some (excClassObj nm q CF N bs BM true sn sub ab col dd k0 k1 k2 k3 k5 "Exception.__new__")/\h.Ns N mN/\mN "__init__" = some (.ref fI)/\mN "code" = none/\mN "place" = none/\
  mN "__setattr__" = none/\mN "__getattribute__" = none/\mN "__getattr__" = none
def gv (K:Frag) (CF fI:Addr):Bool:=match K.lookup CF with
 | some #[.type "type",_,.cls cd,sl]=>(match cd.mro,sl.toList with
  | .ref C' :: bm,[_,_,_,_,some (.builtin n),_]=>C' == CF && n == "Exception.__new__" && !cd.hasDel && cd.hasDict && bm == BM && nsOkIn K cd.ns && nsIn K cd.ns "__init__" == some (some (.ref fI)) &&
   nsIn K cd.ns "code" == some none && nsIn K cd.ns "place" == some none && nsIn K cd.ns "__setattr__" == some none && nsIn K cd.ns "__getattribute__" == some none && nsIn K cd.ns "__getattr__" == some none
  | _,_=>false)
 | _=>false
def Es {N:Addr} {n:Str} (X:K.In h) (G:h.Ns N mg) (e:nsIn K N n=some (some v)):mg n=some v:=by
 obtain ⟨o,es,ep,ho,hd,_,hf⟩:=G;unfold nsIn at e;split at e
 . rename_i c d es' n' sl q;have:=X _ _ q;rw [ho] at this;cases this;cases hd;split at e
   . rename_i en he;cases e;rw [<-hf];unfold nsFind findBy;rw [<-ui,he];rfl
   . split at e <;> cases e
 . cases e
def uV {N:Addr} (X:K.In h) (e:nsOkIn K N=true) (q:nsIn K N x=some (some v)):h.nsMap N x=some v:=
 Es X (.of_isNs (isNs_of_in X e)) q
def Am (X:K.In h) (q:gv K CF fI=true):FC h CF fI:=by
 unfold gv at q;split at q
 . rename_i dd cd sl ho;split at q
   . rename_i C' bm k0 k1 k2 k3 n k5 hm hs;simp only [c6,bO,Bool.not_eq_true'] at q;obtain ⟨⟨⟨⟨⟨⟨⟨⟨⟨⟨⟨rfl,rfl⟩,hdel⟩,hdi⟩,rfl⟩,bQ⟩,hni⟩,h1⟩,h2⟩,h3⟩,h4⟩,h5⟩:=q;obtain ⟨nm,bs,mro,ns,qn,hd,sn,sub,ab,col,del⟩:=cd;dsimp only at hm hdel hdi bQ hni h1 h2 h3 h4 h5;subst hm hdel hdi;have hsl:sl=(List.toArray [k0,k1,k2,k3,some (.builtin "Exception.__new__"),k5]):=by
      obtain ⟨l⟩:=sl;simp only at hs;rw [hs]
     subst hsl;exists nm,qn,ns,bs,sn,sub,ab,col,dd,k0,k1,k2,k3,k5,_,X _ _ ho,.of_isNs (isNs_of_in X bQ),uV X bQ hni,nsMap_none_of_in X bQ h1,nsMap_none_of_in X bQ h2,
      nsMap_none_of_in X bQ h3,nsMap_none_of_in X bQ h4,nsMap_none_of_in X bQ h5
   . cases q
 . cases q
def fF (c p:Int):List (Str×V):= [("code",.int c),("place",.int p)]
def qJ:typeLookup (.type "Exception") "code" = pure none:=by rw [typeLookup_type,builtinLookup_eq_fast];kernel_rfl
def nD:typeLookup (.type "Exception") "place" = pure none:=by rw [typeLookup_type,builtinLookup_eq_fast];kernel_rfl
structure Jk (K:Frag) (fI:Addr) (eA:Value) (sc:Scope):Prop where
 ex:∃(params:Arguments) (body:List Stmt) (kV doc pm ct oc:Value) (an od:Option Addr) (osl:Array (Option Value)) (p1 p2 p3 p4 p5 p6 p7 p8:Pos),
  K.lookup fI=some #[oc,od,.func (fnOf "__init__" "Fault.__init__" params body sc .none kV doc pm an eA ct),osl]/\codeIn K eA "Fault.__init__" = true/\
  (∀us:List Value,us.length=3->bindArgs (fnOf "__init__" "Fault.__init__" params body sc .none kV doc pm an eA ct) #[us,[]]=pure ((["self","code","place"]:List Str).zip us))/\
  body= [.Assign [.Attribute (.Name "self" p1) "code" p2] (.Name "code" p3) p4,.Assign [.Attribute (.Name "self" p5) "place" p6] (.Name "place" p7) p8]
 Um:d9 ["self","code","place"] ["self","code","place"] sc
 fn:PySem.W.typeIn K (.ref fI)=some (.type "function")
section
def Inv.Pa {x:Addr} (I:Inv X pins σ H s) (hex:X.ex= []) (h1:x≠X.env.locals) (h2:∀y c,X.env.cells.lookup y=some c->c≠x) (h3:∀o,X.base.get? x≠some o) (h4:x∉X.fs) (E:Value->Shared->Prop):
 Inv {X with ex:= [x],xe:=E} pins σ H s:=by
 obtain ⟨ok,os,bare,base,loc,cell,free,gf,pin,bQ,len⟩:=I;obtain ⟨mod,kind,glob,blt,above,inj,has,cab,hd,frames,Ac,Il,bs,D5,zt,uH,funs,G5⟩:=ok;exists #[mod,kind,glob,blt,above,inj,has,cab,hd,frames,Ac,λb hb=>?_,bs,D5,λb o e hb=>?_,λb hb=>?_,funs,G5],os,bare,base.mono (λ_ z=>z) (λb z=>by rw [hex] at z;cases z),loc,cell,free,gf,pin,bQ,len
 . obtain rfl:b=x:=by simpa using hb
   exists h1,h2
 . obtain rfl:b=x:=by simpa using hb
   exact h3 o e
 . obtain rfl:b=x:=by simpa using hb
   exact h4
end
section
variable {x:Addr}
def xc {y:Str} {v:V} (I:Inv X pins σ H s) (hN:X.N[i]? = some y) (hv:Ik X.env.scope y) (hd:(y == ("__debug__" :Str))=false) (hcd:(y == ("__classdict__" :Str))=false) (hs:σ[i]? = some (some v)) (k:∀u s',Inv X pins σ H s'->RelV v u->Q u s'):wpAny (model X.prog X.w) X.A (eval (.Name y pos) X.env) Q X.xe s:=
 dX (xA hN hv hd hcd pins s σ H (λv' H'=>v'=v/\H'=H) I #[v,hs,rfl,rfl]) λu s' #[v',H',I',r,e1,e2]=>by subst e1 e2;exact k u s' I' r
def Rh {attr y:Str} {Q:Flow->Shared->Prop} (I:Inv X [] σ H s) (q:gv X.K CF fI=true) (ha:attr= "code" \/attr= "place") (Jl:X.N[0]? = some ("self" :Str)) (hv0:Ik X.env.scope "self") (hs0:σ[0]? = some (some (.ref x))) (hN:X.N[i]? = some y) (hv:Ik X.env.scope y) (hd:(y == ("__debug__" :Str))=false) (hcd:(y == ("__classdict__" :Str))=false) (hs:σ[i]? = some (some (.int z))) (hpn:X.pn= []) (hex:x∈X.ex) (hnx:H x=none) (hnl:x≠X.env.locals) (hx:s.heap.get? x=some {cls:= .ref CF,data:= .fields vs}) (k:∀s' dx t,Inv X [] σ H s'->s'.heap.get? x=some {cls:= .ref CF,dict:=some dx,data:= .fields vs}->s'.heap.Ns1 dx (λn=>if n=attr then some (.int z t) else none)->X.pE.heap.objs.size<=dx->H dx=none->dx≠x->dx≠X.env.locals->(∀y c,X.env.cells.lookup y=some c->c≠dx)->Q .next s'):
 wpAny (model X.prog X.w) X.A (exec (.Assign [.Attribute (.Name "self" p1) attr p2] (.Name y p3) p4) X.env) Q X.xe s:=by
 have I1:Inv X [(x,{cls:= .ref CF,data:= .fields vs})] σ H s:=I.lS λp hp=>by
  obtain rfl:p=_:=by simpa using hp
  exists hx,hnx,hnl,I.ok.uH x hex,λv e=>by cases e
 refine xt (xc I1 hN hv hd hcd hs λu s1 J1 ru=>xc J1 Jl hv0 (by decide) (by decide) hs0 λov s2 J2 rx=>?_);obtain ⟨t,rfl⟩:=ru;obtain rfl:ov=Value.ref x:=rx;obtain ⟨nm,qn,N,bs,sn,sub,ab,col,dd,k0,k1,k2,k3,k5,mN,hC,hn,hni,hc1,hc2,hsa,_,_⟩:=(Am J2.k6 q).ex;have px:=(J2.pin (x,{cls:= .ref CF,data:= .fields vs}) (by simp)).1;have hna:mN attr=none:=by rcases ha with rfl | rfl <;> assumption
 have hB:typeLookup (.type "Exception") attr=pure none:=ha.elim (λe=>by rw [e];exact qJ) λe=>by rw [e];exact nD
 obtain ⟨hp,g,d,tk,os⟩:=s2;refine XE.FJ (mA:=λ_=>none) (ns:= []) F.store_Exception hC hn hsa hna hB px rfl (λc e=>by cases e) rfl (.inl rfl) (λh' tk' st=>?_) Within.nil (aD _);rcases st with ⟨_,e1,e2,e3⟩ | ⟨dx,e,_⟩
 . have J3:Inv X [] σ H {(#[hp,g,d,tk,os]:Shared) with heap:=h',toks:=tk'}:=(J2.lS (FM:= []) λp hp=>by simp at hp).turned (it:=x) (λb o hb e=>e3 b o hb e) hnx hnl (.inl hex) (λy c hc=>(J2.ok.Il x hex).2 y c hc) λp hp=>by simp [hpn] at hp
   exact k _ hp.objs.size t J3 e1 e2 J2.sz (J2.bQ.fresh (aw _)) (λz=>by
    have:=aH px;rw [<-z] at this;exact absurd this (cN _)) (fO J2.lt) λy c hc=>by
     obtain ⟨v,o,ho,_⟩:=J2.cell y c hc;exact a9 (aH ho)
 . cases e
def Ri {attr y:Str} {ns:List Str} {Q:Flow->Shared->Prop} (I:Inv X [] σ H s) (q:gv X.K CF fI=true) (ha:attr= "code" \/attr= "place") (Jl:X.N[0]? = some ("self" :Str)) (hv0:Ik X.env.scope "self") (hs0:σ[0]? = some (some (.ref x))) (hN:X.N[i]? = some y) (hv:Ik X.env.scope y) (hd:(y == ("__debug__" :Str))=false) (hcd:(y == ("__classdict__" :Str))=false) (hs:σ[i]? = some (some (.int z))) (hpn:X.pn= []) (hex:x∈X.ex) (hnx:H x=none) (hnl:x≠X.env.locals) (hx:s.heap.get? x=some {cls:= .ref CF,dict:=some dx,data:= .fields vs}) (hm:s.heap.Ns1 dx mA) (hw:Within mA ns) (hsz:ns.length<=sizeLine) (hds:X.pE.heap.objs.size<=dx) (hdn:H dx=none) (hdx:dx≠x) (hdl:dx≠X.env.locals) (hdc:∀y c,X.env.cells.lookup y=some c->c≠dx) (k:∀s' t,Inv X [] σ H s'->s'.heap.get? x=some {cls:= .ref CF,dict:=some dx,data:= .fields vs}->s'.heap.Ns1 dx (λn=>if n=attr then some (.int z t) else mA n)->Q .next s'):
 wpAny (model X.prog X.w) X.A (exec (.Assign [.Attribute (.Name "self" p1) attr p2] (.Name y p3) p4) X.env) Q X.xe s:=by
 obtain ⟨od,es,ep,hod,hdd,hrest⟩:=hm;have hdf:dx∉X.fs:=λz=>by
  obtain ⟨_,o,ho,_⟩:=I.ok.funs.mem z;exact absurd (bq (aH ho) hds) (cN _)
 have I1:Inv X [(x,{cls:= .ref CF,dict:=some dx,data:= .fields vs}),(dx,od)] σ H s:=I.lS λp hp=>by
  rcases aE.mp hp with rfl | hp
  . exists hx,hnx,hnl,I.ok.uH x hex,λv e=>by cases e
  . obtain rfl:p=_:=by simpa using hp
    exists hod,hdn,hdl,hdf,λv e=>by rw [hdd] at e;cases e
 refine xt (xc I1 hN hv hd hcd hs λu s1 J1 ru=>xc J1 Jl hv0 (by decide) (by decide) hs0 λov s2 J2 rx=>?_);obtain ⟨t,rfl⟩:=ru;obtain rfl:ov=Value.ref x:=rx;obtain ⟨nm,qn,N,bs,sn,sub,ab,col,dd,k0,k1,k2,k3,k5,mN,hC,hn,hni,hc1,hc2,hsa,_,_⟩:=(Am J2.k6 q).ex;have px:=(J2.pin (x,{cls:= .ref CF,dict:=some dx,data:= .fields vs}) (by simp)).1;have pd:=(J2.pin (dx,od) (by simp)).1;have hna:mN attr=none:=by rcases ha with rfl | rfl <;> assumption
 have hB:typeLookup (.type "Exception") attr=pure none:=ha.elim (λe=>by rw [e];exact qJ) λe=>by rw [e];exact nD
 obtain ⟨hp,g,d,tk,os⟩:=s2;refine XE.FJ (mA:=mA) (ns:=ns) F.store_Exception hC hn hsa hna hB px rfl (λc e=>by cases e) rfl (.inr #[dx,rfl,hdx,od,es,ep,pd,hdd,hrest]) (λh' tk' st=>?_) hw hsz;rcases st with ⟨e,_⟩ | ⟨zu,e,e1,e2,e3⟩
 . cases e
 . cases e;have J3:Inv X [] σ H {(#[hp,g,d,tk,os]:Shared) with heap:=h',toks:=tk'}:=(J2.lS (FM:= []) λp hp=>by simp at hp).turned (it:=dx) (λb o hb e=>(e3.2 b hb).trans e) hdn hdl (.inr hds) (λy c hc=>hdc y c hc) λp hp=>by simp [hpn] at hp
   exact k _ t J3 ((e3.2 x (bY hdx)).trans px) e2
end
section
def Hi {c p:Int} {t1 t2:Tok} (I:Inv X pins σ H s) (q:gv X.K CF fI=true) (FI:Jk X.K fI eA sc) (hr:dn 3 X.A) (k:∀x dx tp s',s.heap.objs.size<=x->H x=none->H dx=none->Inv X pins σ (upd H dx (.xd (fF c p))) s'->
 s'.heap.get? x=some {cls:= .ref CF,dict:=some dx,data:= .fields (List.toArray [.ref tp,.none,.none,.none,.bool false,.none])}->Q (.ref x) s'):
 wpAny (model X.prog X.w) X.A (call (.ref CF) [.int c t1,.int p t2]) Q X.xe s:=by
 obtain ⟨params,body,kV,doc,pm,ct,oc,an,od,osl,p1,p2,p3,p4,p5,p6,p7,p8,lk,hcd,hbind,rfl⟩:=FI.ex;have S:=FI.Um;obtain ⟨hp,g,d,tk,os⟩:=s;have WD:=Am I.k6 q;obtain ⟨nm,qn,N,bs,sn,sub,ab,col,dd,k0,k1,k2,k3,k5,mN,hC,hn,hni,_⟩:=WD.ex;refine i9 (XE.LJ hC hn hni I.k6 FI.fn ?_ (by show 2<=sizeLine;decide));have SN:∀b o,hp.get? b=some o->((hp.push (XE.jh [.int c t1,.int p t2])).push (XE.newExc CF hp.objs.size)).get? b=some o:=λb o e=>bC _ (bC _ e);have hx1:((hp.push (XE.jh [.int c t1,.int p t2])).push (XE.newExc CF hp.objs.size)).get? (hp.objs.size+1)=some (XE.newExc CF hp.objs.size):=by
  have:=cD (hp.push (XE.jh [.int c t1,.int p t2])) (o:=XE.newExc CF hp.objs.size) rfl;rwa [cV] at this
 have I1:Inv X pins σ H {(#[hp,g,d,tk,os]:Shared) with heap:=(hp.push (XE.jh [.int c t1,.int p t2])).push (XE.newExc CF hp.objs.size),toks:=tk}:=I.kept (t':=tk) SN;generalize hg1:(hp.push (XE.jh [.int c t1,.int p t2])).push (XE.newExc CF hp.objs.size)=h1 at *;have VD:h1.objs.size=hp.objs.size+2:=by rw [<-hg1,cV,cV]
 generalize hxx:hp.objs.size+1=x at *;have nx:H x=none:=I.bQ.fresh (by rw [<-hxx];exact pC _);have fx:hp.get? x=none:=ue (by rw [<-hxx];exact pC _);have A1:dn 2 (X.A.under (.builtin "type.__call__" #[.ref CF :: [.int c t1,.int p t2],[]])):=hr.make CF _ [];have e0:=I1.env0.make CF [.int c t1,.int p t2] [];generalize X.A.under (.builtin "type.__call__" #[.ref CF :: [.int c t1,.int p t2],[]])=A' at *;have KX:X.K.In h1:=I1.k6;have lim:h1.NoLimit:=I1.nolimit;have hkind:∀y∈(["self","code","place"]:List Str).zip [Value.ref x,.int c t1,.int p t2],sc.names.lookup y.1=some .local\/(sc.names.lookup y.1=some .cell/\((cellsFrom (h1.objs.size+1) sc.names []).lookup y.1).isSome=true):=λ#[n,v] hy=>by
  rcases S.par n (kM hy).1 with z | z
  . exact .inl z
  . exact .inr #[z,cellsFrom_some _ _ _ (.inl z)]
 refine ud A1.depth (KX _ _ lk) rfl S.co S.gen rfl (codeRec_of KX hcd) (BindsTo.of_eq (hbind _ rfl) _ _ _ _ ?_);refine tU S.kind hkind λenv he s1 xx=>?_;subst he;exists lim.keeps xx.toInCall.keep,codeAny_func ?_;have vv:Vals [V.ref x,.int c,.int p] [Value.ref x,.int c t1,.int p t2]:= .cons rfl (.cons #[_,rfl] (.cons #[_,rfl] .nil));have J0:Inv (jL CL X.prog X.w X.K X.mg X.base ["self","code","place"] "Fault.__init__" sc fI eA A' X.stack _ H E0) [] (start ["self","code","place"] [V.ref x,.int c,.int p]) H s1:=Ai S A1.hd e0 rfl vv xx;have SQ:x < h1.objs.size:=by rw [VD,<-hxx];exact du _
 have J1:=J0.Pa (x:=x) rfl (a9 SQ) (λy c' hc=>fO (kX SQ (xx.above y c' (mem_of_lookup hc)))) (λo e=>by
  have:=(I.bs x o e).1;rw [show (#[hp,g,d,tk,os]:Shared).heap.get? x=none from fx] at this;cases this) (λz=>by
  obtain ⟨_,o,ho,_⟩:=I.stack.mem z;rw [show (#[hp,g,d,tk,os]:Shared).heap.get? x=none from fx] at ho;cases ho) (λ_ _=>False)
 have Qi:∀y∈(["self","code","place"]:List Str),Ik sc y:=λy hy=>by
  rcases S.par y hy with z | z
  . exact .inl z
  . exact .inr (.inl z)
 have hx2:s1.heap.get? x=some (XE.newExc CF hp.objs.size):=xx.toInCall.keep x _ hx1;have fin:∀s' dx t,Inv {jL CL X.prog X.w X.K X.mg X.base ["self","code","place"] "Fault.__init__" sc fI eA A' X.stack {heap:=h1,gens:=g,drawn:=d,toks:=tk,os:=os} H E0 with ex:= [x],xe:=λ_ _=>False} [] (start ["self","code","place"] [V.ref x,.int c,.int p]) H s'->
  s'.heap.get? x=some {cls:= .ref CF,dict:=some dx,data:= .fields (List.toArray [.ref hp.objs.size,.none,.none,.none,.bool false,.none])}->(∃t',s'.heap.Ns1 dx (λn=>if n= "place" then some (.int p t) else if n= "code" then some (.int c t') else none))->
  h1.objs.size<=dx->H dx=none->Q (.ref x) s':=λs' dx t J NM hns hds hdn=>by
  have hpd:hp.objs.size<=dx:=by rw [VD] at hds;exact aP (dS _ _) hds
  refine k x dx hp.objs.size s' (by rw [<-hxx];exact pC _) nx hdn ?_ NM;obtain ⟨t',hns⟩:=hns;have ub:=J.base;have un:Un (frs X.stack) [] H (upd H dx (.xd (fF c p))) hp s'.heap:=by
   have Uo:∀b o,hp.get? b=some o->b∉ [x]:=λb o e z=>by
    obtain rfl:b=x:=by simpa using z
    rw [fx] at e;cases e
   have WF:∀b o,hp.get? b=some o->b≠dx:=λb o e z=>by
    rw [z] at e;exact absurd (bq (aH e) hpd) (cN _)
   have Pb:∀b o,H b=some o->b≠dx:=λb o e=>bp e hdn;exists λb o e n hb _=>ub.keep b o (SN b o e) n hb (Uo b o e),λb o e n hb _=>ub.slot b o (SN b o e) n hb (Uo b o e),λb o e n _=>by rw [aA (WF b o e)];exact n,
    λb o e _=>ub.there b o (SN b o e) (Uo b o e),λb xs e=>by rw [aA (Pb b _ e)];exact e,λb o u e=>by rw [aA (Pb b _ e)];exact e,
    λb ps e=>#[#[],by rw [aA (Pb b _ e),e];simp]
  refine I.call' (ch:= []) J.os un ?_ J.bare λb z=>absurd z (by simp);intro a o e;by_cases had:a=dx
  . subst had;rw [aa] at e;cases e;exists _,hns,λf=>?_;unfold fF;by_cases h1:f= "place"
    . subst h1;rw [ah rfl];exists t,U
    . rw [ae h1];by_cases h2:f= "code"
      . subst h2;rw [ah rfl];exists t',U
      . rw [ae h2];have e1:(f == ("code" :Str))=false:=bS.mpr h2;have e2:(f == ("place" :Str))=false:=bS.mpr h1;simp only [List.lookup,e1,e2];trivial
  . rw [aA had] at e;exact (J.bQ a o e).stay (λ_ _ _ z=>z) (λb z=>by rw [aA (bp z hdn)];exact z) λb xs z=>by rw [aA (bp z hdn)];exact z
 have Rj:wpAny (model X.prog X.w) (A'.deeper (envOfC "Fault.__init__" sc h1.objs.size fI eA)) (execs [.Assign [.Attribute (.Name "self" p1) "code" p2] (.Name "code" p3) p4,.Assign [.Attribute (.Name "self" p5) "place" p6] (.Name "place" p7) p8] (envOfC "Fault.__init__" sc h1.objs.size fI eA))
  (λfl s'=>fl= .next/\Q (.ref x) s') (λ_ _=>False) s1:=by
  refine kG (Rh (X:={jL CL X.prog X.w X.K X.mg X.base ["self","code","place"] "Fault.__init__" sc fI eA A' X.stack {heap:=h1,gens:=g,drawn:=d,toks:=tk,os:=os} H E0 with ex:= [x],xe:=λ_ _=>False}) (i:=1) (z:=c) J1 q (.inl rfl) rfl (Qi _ (by simp)) rfl rfl (Qi _ (by simp)) (by decide) (by decide) rfl rfl (by simp) nx (a9 SQ) hx2 λs2 dx t J2 NM hns hds hdn hdx hdl hdc=>?_);refine kG (Ri (X:={jL CL X.prog X.w X.K X.mg X.base ["self","code","place"] "Fault.__init__" sc fI eA A' X.stack {heap:=h1,gens:=g,drawn:=d,toks:=tk,os:=os} H E0 with ex:= [x],xe:=λ_ _=>False}) (i:=2) (z:=p) J2 q (.inr rfl) rfl (Qi _ (by simp)) rfl rfl (Qi _ (by simp)) (by decide) (by decide) rfl rfl (by simp) nx (a9 SQ) NM hns (Within.cons _ _ Within.nil) (by show 1<=sizeLine;decide) hds hdn hdx hdl hdc λs3 t3 J3 Up Uq=>?_);exact hZ #[rfl,fin s3 dx t3 J3 Up #[t,Uq] hds hdn]
 refine bU Rj (λfl s' z=>?_) λ_ _ z=>z.elim;obtain ⟨rfl,z⟩:=z;exists U,z
end
structure Flt (K:Frag) (mg:Str->Option Value) (CF fI:Addr) (eA:Value) (sc:Scope):Prop where
 cl:gv K CF fI=true
 ini:Jk K fI eA sc
 mg:mg "Fault" = some (.ref CF)
 kp:keepIn K (.ref CF)=true
def Pg (E:XK) (CF:Addr) (t:TA):TS:=λ_ σ H=>t σ H λvs H1=> ∃c p:Int,vs= [.int c,.int p]/\∀dx,H1 dx=none->E (.ref CF) (some dx) (upd H1 dx (.xd (fF c p)))
def Jn {E:XK} {a b:Expr} {t:TA} (ha:PA X [a,b] t) (O:X.Out CF E:=by exact gn) (T:Flt X.K X.mg CF fI eA sc:=by assumption) (hr:dn 3 X.A:=by exact dn.mono (by assumption) (by omega)) (hg:Gl X "Fault" :=by exact rfl) (he:starEach [a,b] X.env=(false,eval a X.env) :: starEach [b] X.env:=by rfl) (gQ:(backTo eR (starEach [b] X.env)).any (·.1)=false:=by rfl):
 PS X (.Raise (some (.Call (.Name "Fault" p) [a,b] [] eR)) none pos) (Pg E CF t):=by
 intro pins s σ H D I h;rw [arm_exec_Raise];refine az (kS ?_);obtain ⟨nm,qn,N,bs,sn,sub,ab,col,dd,k0,k1,k2,k3,k5,mN,hC,_⟩:=(Am I.mod.LO T.cl).ex;refine XE.G3 (C:=CF) (nm:=nm) (q:=qn) (N:=N) (bs:=bs) (sn:=sn) (sub:=sub) (ab:=ab) (col:=col) (dd:=dd) (k0:=k0) (k1:=k1) (k2:=k2) (k3:=k3) (k5:=k5) (newId:= "Exception.__new__") hr.hd ?_;refine az (bU (Q:=λv s1=> ∃e oe vs,v= .ref e/\s1.heap.get? CF=some (excClassObj nm qn CF N bs BM true sn sub ab col dd k0 k1 k2 k3 k5 "Exception.__new__")/\
  s1.heap.get? e=some oe/\oe.cls= .ref CF/\oe.data= .fields vs/\vs[1]? = some .none/\X.xe (.ref e) s1) ?_ (λv s1 q=>az (kS (bo q))) λ_ _ z=>z)
 refine g_ (jN I hg T.mg ?_ (by decide));refine callWith_K (h₀:=X.base) I.ok.mod.LO T.kp (dX (ha eR pins s σ H _ I h) λus s1 #[vs,H1,I1,r,q]=>#[I1.k6,?_]) he gQ;obtain ⟨c,p,rfl,q⟩:=q;obtain ⟨t1,t2,rfl⟩:=Vals.T4 r;refine Hi I1 T.cl T.ini hr λx dx tp s' fx nx nd J hx=>#[x,_,_,rfl,J.bk _ _ hC,hx,rfl,rfl,rfl,?_];have f0:X.pE.heap.objs.size<=x:=aP I1.sz fx;exact Er O J (x:=x) (dx:=dx) (tb:= .none) #[_,_,_,hx,rfl,rfl] (.inl rfl) (by
  by_cases z:x=dx
  . exfalso;subst z;have:=J.bQ x _ aa;obtain ⟨mA,⟨o,es,ep,e,hd,_⟩,_⟩:=this;rw [hx] at e;cases e;cases hd
  . rw [aA z];exact nx) f0 aa (q dx nd)
section
def Fun.Ip {k:Nat} (F:Fun K x qual st f fd) (S:d9 N ps (aX st)) (len:∀vs H Q E,sp vs H Q E->vs.length=ps.length) (hbody:∀(eA:Value) (A:Around) (outer:List Env) (s:Shared) (H:Hp) (vs:List V) (Q:VK) (E:XK),dn k (A.deeper (envOfC qual (aX st) s.heap.objs.size f eA))->sp vs H Q E->
 ∃t,rQ (jL (zy P w CF) P w K mg base N qual (aX st) f eA A outer s H E) (cS st) t/\t {nx:=λ_ H'=>Q .cp H',rt:=Q} (start N vs) H):iS P w K mg base (zy P w CF) (k+1) f fd ps sp:=by
 obtain ⟨oc,od,kV,doc,pm,an,eA,ct,osl,rfl,lk,hcd⟩:=F.ex;exact NE lk hcd S len λA outer s H vs Q E hr hsp=>hbody eA A outer s H vs Q E hr hsp
end
abbrev Cx.mk' (X:Cx) (e:Addr):Cx:={X with A:=X.A.mark (some (.ref e)),calm:=false,xe:=λ_ _=>False}
section
def Inv.mk' (I:Inv X pins σ H s) (e:Addr):Inv (X.mk' e) pins σ H s:=by
 obtain ⟨ok,os,bare,base,loc,cell,free,gf,pin,bQ,len⟩:=I;obtain ⟨mod,kind,glob,blt,above,inj,has,cab,hd,frames,Ac,Il,bs,D5,zt,uH,funs,G5⟩:=ok;exists #[mod,kind,glob,blt,above,inj,has,cab,λz=>(by cases z),frames,Ac,Il,bs,D5,zt,uH,funs,G5],os,bare,base,loc,cell,free,gf,pin,bQ,len
def Inv.Rk {e:Addr} (ok:X.Ok) (I:Inv (X.mk' e) pins σ H s):Inv X pins σ H s:=by
 obtain ⟨_,os,bare,base,loc,cell,free,gf,pin,bQ,len⟩:=I;exists ok,os,bare,base,loc,cell,free,gf,pin,bQ,len
def Inv.gone {m':Str->Option Value} (I:Inv X pins σ H s) (hs:Heap.SameBut X.env.locals s.heap h') (hn:h'.Ns X.env.locals m'):Inv X pins (List.replicate σ.length none) H {s with heap:=h',toks:=t'}:=by
 have nL:∀b u,H b=some u->b≠X.env.locals:=λb u e=>bp e I.free;exists I.ok,I.os,I.bare,#[λb o e n hb hx=>?_,λb o e n hb hx=>?_,I.base.free,λb o e hx=>?_,I.base.tups,I.base.pW,I.base.qG],#[m',hn,λi x v e1 e2 e3=>?_],λy c e=>?_,I.free,I.gf,λp hp=>?_,λb u e=>?_,by rw [z7];exact I.len
 . exact (hs.2 b (a9 (bq (aH e) I.ok.above))).trans (I.base.keep b o e n hb hx)
 . obtain ⟨sl,e1⟩:=I.base.slot b o e n hb hx;exists sl,(hs.2 b (a9 (bq (aH e) I.ok.above))).trans e1
 . obtain ⟨o',e1⟩:=I.base.there b o e hx;exists o',(hs.2 b (a9 (bq (aH e) I.ok.above))).trans e1
 . rw [z3] at e2;split at e2 <;> cases e2
 . obtain ⟨v,z⟩:=I.cell y c e;exists v,z.sameBut hs (I.Nv y c e)
 . obtain ⟨e,n,ne,nf,d⟩:=I.pin p hp;exists (hs.2 _ ne).trans e,n,ne,nf,d
 . refine (I.bQ b u e).stay (λc v hc q=>(hs.2 c ?_).trans q) (λ_ q=>q) λ_ _ q=>q;rcases hc with rfl | hc
   . exact nL _ _ e
   . exact nL _ _ hc
def Ml {x T:Addr} {Q:Unit->Shared->Prop} (J:Inv X pins σ H s) (fU:X.stack=X.env :: X.outer) (hfm:X.env.frame=some X.env.locals) (R:ng s.heap CF x dx (.ref T)) (TR:qF s.heap T .none) (Io:T≠x) (nx:H x=none) (nT:H T=none) (fx:k7 X pins H x) (fT:k7 X pins H T) (k:∀s' T',Inv X pins σ H s'->ng s'.heap CF x dx (.ref T')->qF s'.heap T' .none->T'≠x->k7 X pins H T'->Q () s'):
 wpAny (model X.prog X.w) X.A (noteFrame (.ref x) X.env) (λ_ s2=>wpAny (model X.prog X.w) X.A (setFlight (.ref x) none) Q E s2) E s:=by
 have hfr:X.A.frames=some (X.env :: X.outer):=fU ▸ J.ok.frames;have hl:s.heap.FunFrames X.base (X.env :: X.outer):=fU ▸ J.stack;have sf:∀b∈frs (X.env :: X.outer),H b=none:=by
  have:=J.rP;rw [fU] at this;exact this
 refine XE.IA hfr hl hfm R TR (XE.Ci _) Io λh1 T1 N1 lR R1 Mi ne1=>?_;have hn0:s.heap.get? T1=none:=ue lR;have Qq:T1∉frs (X.env :: X.outer):=λz=>by
  obtain ⟨_,o,ho,_⟩:=hl.mem z;rw [hn0] at ho;cases ho
 refine XE.Sz (s:={s with heap:=h1}) (fr:=frs (X.env :: X.outer)) R1 Mi ne1 Qq λh2 N2 R2 O_=>?_;have Mj:jM (frs (X.env :: X.outer)) (λb=>(b=x\/b=T)\/b=T1) s.heap h2:=N1.trans N2 (λb z=> .inl z) λb o _ z=> .inr z;have VE:H T1=none:=J.bQ.fresh lR;have un:Un (frs X.stack) [x,T] H H s.heap h2:=by
  rw [fU];exists λb o e n hb hc=>Mj.keep b o e hb λz=>?_,λb o e n hb hc=>Mj.slot b o e hb,λb o e n _=>n,λb o e _=>Mj.there b o e,λb xs e=>e,λb o u e=>e,λb ps e=>#[#[],by rw [e];simp];rcases z with (z | z) | z
  . exact hc (by simp [z])
  . exact hc (by simp [z])
  . rw [z,hn0] at e;cases e
 have J2:Inv X pins σ H {s with heap:=h2}:=J.call' (s':={s with heap:=h2}) (ch:= [x,T]) rfl un (si J.bQ Mj sf λb z=>by
  rcases z with (z | z) | z
  . rw [z];exact .inl nx
  . rw [z];exact .inl nT
  . rw [z];exact .inl VE) J.bare λb hb=>by
  rcases aE.mp hb with rfl | hb
  . exists fx.2.2.2.1,fx.2.1,fx.2.2.2.2.1,fx.2.2.2.2.2
  . obtain rfl:b=T:=by simpa using hb
    exists fT.2.2.2.1,fT.2.1,fT.2.2.2.2.1,fT.2.2.2.2.2
 exact k {s with heap:=h2} T1 J2 R2 O_ ne1 (J.xD lR VE)
end
section
def WG (x dx:Addr) (f:Str) (te:TE):TE:=λσ H Q=>te σ H λv H1=>v= .ref x/\∃fs y,H1 dx=some (.xd fs)/\fs.lookup f=some y/\(∃i,y= .int i)/\Q y H1
def NN {x:Addr} {sl:Array (Option Value)} {f:Str} (he:PE X e te) (q:gv X.K CF fI=true) (hp:(x,{cls:= .ref CF,dict:=some dx,data:= .fields vs,slots:=sl})∈X.pn) (hf:f= "code" \/f= "place") (hb:attributeBase e f X.env (eval e X.env)=eval e X.env:=by rfl):PE X (.Attribute e f pos) (WG x dx f te):=by
 intro pins s σ H Q I h;refine F0 hb (dX (he pins s σ H _ I h) λov s1 #[v,H1,I1,rv,ev,fs,y,hd,hl,#[i,ei],q1]=>?_);subst ev ei;obtain rfl:ov=Value.ref x:=rv;obtain ⟨nm,qn,N,bs,sn,sub,ab,col,dd,k0,k1,k2,k3,k5,mN,hC,hn,hni,hc1,hc2,hsa,hg1,hg2⟩:=(Am I1.k6 q).ex;obtain ⟨px,nx,_⟩:=I1.pin _ (m6 _ hp);obtain ⟨mA,hns,rel⟩:=I1.bQ dx _ hd;have r:=rel f;rw [hl] at r;obtain ⟨u,eu,t,rfl⟩:=ji.some_of r;have hna:mN f=none:=by rcases hf with rfl | rfl <;> assumption
 have hB:typeLookup (.type "Exception") f=pure none:=hf.elim (λe=>by rw [e];exact qJ) λe=>by rw [e];exact nD
 obtain ⟨hp,g,d,tk,os⟩:=s1;refine XE.LI (mA:=mA) hC hn hg1 hg2 hna hB #[_,px,rfl,(λc e=>by cases e),.inr #[dx,rfl,bp hd nx,hns]] eu rfl ?_;exists .int i,H1,I1.tok _,#[t,U],q1
structure Mm (K:Frag) (mg:Str->Option Value) (fN:Addr) (eA:Value) (sc:Scope):Prop where
 ex:∃(params:Arguments) (body:List Stmt) (kV doc pm ct oc:Value) (an od:Option Addr) (osl:Array (Option Value)) (j:Nat) (p1 p2 p3 p4 p5 p6 p7:Pos),
  K.lookup fN=some #[oc,od,.func (fnOf "fault_numbers" "fault_numbers" params body sc .none kV doc pm an eA ct),osl]/\codeIn K eA "fault_numbers" = true/\
  (∀us:List Value,us.length=1->bindArgs (fnOf "fault_numbers" "fault_numbers" params body sc .none kV doc pm an eA ct) #[us,[]]=pure ((["fault"]:List Str).zip us))/\
  body= [.Return (some (.List [.Constant (.int 0) j p1,.Attribute (.Name "fault" p2) "code" p3,.Attribute (.Name "fault" p4) "place" p5] p6)) p7]
 Um:d9 ["fault"] ["fault"] sc
 loc:sc.names.lookup ("fault" :Str)=some .local
 mg:mg "fault_numbers" = some (.ref fN)
 kp:keepIn K (.ref fN)=true
def Mo {x fN:Addr} {c p:Int} {sl:Array (Option Value)} {Q:VK} (I:Inv X pins σ H s) (q:gv X.K CF fI=true) (FN:Mm X.K X.mg fN eA sc) (hdp:X.A.depth+20 < recursionLimit) (hp:(x,{cls:= .ref CF,dict:=some dx,data:= .fields vs,slots:=sl})∈pins) (hd:H dx=some (.xd (fF c p))) (k:∀l,H l=none->Q (.ref l) (upd H l (.lst [.int 0,.int c,.int p]))):
 wpAny (model X.prog X.w) X.A (call (.ref fN) [.ref x]) (EP X pins σ Q) E s:=by
 obtain ⟨params,body,kV,doc,pm,ct,oc,an,od,osl,j,p1,p2,p3,p4,p5,p6,p7,lk,hcd,hbind,rfl⟩:=FN.ex;have S:=FN.Um;have KX:=I.k6;have lim:=I.nolimit;obtain ⟨px,nx,nl,nf,nc⟩:=I.pin _ (dQ X.pn hp);have hkind:∀y∈(["fault"]:List Str).zip [Value.ref x],sc.names.lookup y.1=some .local\/(sc.names.lookup y.1=some .cell/\((cellsFrom (s.heap.objs.size+1) sc.names []).lookup y.1).isSome=true):=λ#[n,v] hy=>by
  rcases S.par n (kM hy).1 with z | z
  . exact .inl z
  . exact .inr #[z,cellsFrom_some _ _ _ (.inl z)]
 refine i9 (ud (by omega) (KX _ _ lk) rfl S.co S.gen rfl (codeRec_of KX hcd) (BindsTo.of_eq (hbind _ rfl) _ _ _ _ ?_));refine tU S.kind hkind λenv he s1 xx=>?_;subst he;exists lim.keeps xx.toInCall.keep,codeAny_func ?_;have vv:Vals [V.ref x] [Value.ref x]:= .cons rfl .nil;have e0:=I.env0;have J0:Inv {jL CL X.prog X.w X.K X.mg X.base ["fault"] "fault_numbers" sc fN eA X.A X.stack s H E0 with calm:=false} [] (start ["fault"] [V.ref x]) H s1:=xM (cm:=false) S (λz=>by cases z) e0 rfl vv xx;have J1:Inv {jL CL X.prog X.w X.K X.mg X.base ["fault"] "fault_numbers" sc fN eA X.A X.stack s H E0 with calm:=false,pn:= [(x,{cls:= .ref CF,dict:=some dx,data:= .fields vs,slots:=sl})],xe:=λ_ _=>False} [] (start ["fault"] [V.ref x]) H s1:=by
  obtain ⟨ok,os,bare,base,loc,cell,free,gf,pin,bQ,len⟩:=J0;obtain ⟨mod,kind,glob,blt,above,inj,has,cab,hd,frames,Ac,Il,bs,D5,zt,uH,funs,G5⟩:=ok;exists #[mod,kind,glob,blt,above,inj,has,cab,hd,frames,Ac,Il,bs,D5,zt,uH,funs,G5],os,bare,base,loc,cell,free,gf,λr hr=>?_,bQ,len;obtain rfl:r=(x,{cls:= .ref CF,dict:=some dx,data:= .fields vs,slots:=sl}):=by simpa using hr
  exists xx.toInCall.keep x _ px,nx,a9 (aH px),λz=>?_,nc;rcases aE.mp (I.AV x z) with z | z
  . exact nl z
  . exact nf z
 have body:rQ {jL CL X.prog X.w X.K X.mg X.base ["fault"] "fault_numbers" sc fN eA X.A X.stack s H E0 with calm:=false,pn:= [(x,{cls:= .ref CF,dict:=some dx,data:= .fields vs,slots:=sl})],xe:=λ_ _=>False}
  [.Return (some (.List [.Constant (.int 0) j p1,.Attribute (.Name "fault" p2) "code" p3,.Attribute (.Name "fault" p4) "place" p5] p6)) p7] _:=
  w9 (qH (El (aI uJ (aI (NN (CF:=CF) (fI:=fI) (x:=x) (dx:=dx) (vs:=vs) (sl:=sl) (xA (i:=0) rfl (.inl FN.loc)) q (ej.mpr rfl) (.inl rfl)) (aI (NN (CF:=CF) (fI:=fI) (x:=x) (dx:=dx) (vs:=vs) (sl:=sl) (xA (i:=0) rfl (.inl FN.loc)) q (ej.mpr rfl) (.inr rfl)) xK)))))
 refine bU (body [] s1 _ H {nx:=λ_ _=>False,rt:=Q} J1 ?_) (λfl s' hs=>?_) λ_ _ z=>z.elim
 . exists _,U,U,_,_,hd,U,#[_,U],_,U,U,_,_,hd,U,#[_,U],(by show 3<=sizeLine;decide),λl hl=>k l hl
 . cases fl with
   | ret u=>
    obtain ⟨v,σ',H',J,rv,qq⟩:=hs;exact I.after #[v,H',J.os,J.bare,J.base,J.bQ,rv,qq]
   | next=>obtain ⟨_,_,_,z⟩:=hs;exact z.elim
   | brk=>obtain ⟨_,_,_,z⟩:=hs;exact z.elim
   | cont=>obtain ⟨_,_,_,z⟩:=hs;exact z.elim
end
section
variable {k:Nat}
def CN {y:Str} {E:XK} {t:TA} {Q:Flow->Shared->Prop} {EE:Value->Shared->Prop} {N:VK} (F:iS X.prog X.w X.K X.mg X.base (zy X.prog X.w CF) k f fd ps sp) (hr:dn k X.A) (hg:Gl X x) (hm:X.mg x=some (.ref f)) (hk:keepIn X.K (.ref f)=true) (hb:Binds X.K fd ps []) (ha:PA X.FP (e :: es) t) (hN:X.N.Nodup) (hi:X.N[iy]? = some y) (hy:X.env.scope.names.lookup y=some .local) (I:Inv X pins σ H s) (h:t σ H λvs H1=>sp vs H1 N E) (hq:∀v H' s',Inv X pins (σ.set iy (some v)) H' s'->N v H'->Q .next s') (hx:∀H1 s1 ev s',Inv X pins σ H1 s1->zy X.prog X.w CF X.stack H1 s1 E ev s'->EE ev s') (hdb:(x == ("__debug__" :Str))=false:=by decide) (he:starEach (e :: es) X.env=(false,eval e X.env) :: starEach es X.env:=by rfl) (gQ:(backTo eR (starEach es X.env)).any (·.1)=false:=by rfl) (hs:swapsWith (.Call (.Name x p) (e :: es) [] eR) (some (.Name y py)) pa.line X.env=pure false:=by rfl):
 wpAny (model X.prog X.w) X.A (execs [.Assign [.Name y py] (.Call (.Name x p) (e :: es) [] eR) pa] X.env) Q EE s:=by
 refine kG (wpAny_Assign_Name (g_ (jN I hg hm ?_ hdb)) hs);refine callWith_K (h₀:=X.base) I.ok.mod.LO hk (uT (ha eR pins s σ H _ (I.wish _) h) λus s1 #[vs,H1,I1,r,q]=>#[I1.k6,?_]) he gQ;have SR:Inv X pins σ H1 s1:=I1.iG;have hl:(us++ []).length=ps.length:=by rw [bH,<-r.length];exact F.len _ _ _ _ q
 have b:=hb s1 us SR.k6 hl;rw [bH] at b;refine i9 (gO (F.run X.A X.stack s1 H1 #[us,[]] us vs N E hr SR.env0 b r q) λr s' hq'=>?_);cases r with
 | error e=>exact hx H1 s1 e s' SR hq'
 | ok fl=>
  cases fl with
  | ret u=>
   obtain ⟨v,H',I3,rv,q3⟩:=SR.after hq';exact nh I3 hN hi (.inl hy) rv (λs2 I4=>hZ (hq v H' s2 I4 q3)) (.inr hy)
  | next=>exact False.elim hq'
  | brk=>exact False.elim hq'
  | cont=>exact False.elim hq'
def Bb (R:Int->Int->Hp->Prop):XK:=λ_ d H=> ∃dx c p,d=some dx/\H dx=some (.xd (fF c p))/\R c p H
def An {ev:Value} {R:Int->Int->Hp->Prop} {nm:Option Str} {b0:Stmt} {Q:Flow->Shared->Prop} (q:gv X.K CF fI=true) (Rl:Gl X "Fault") (Rm:X.mg "Fault" = some (.ref CF)) (fU:X.stack=X.env :: X.outer) (hfm:X.env.frame=some X.env.locals) (I:Inv X pins σ H1 s1) (h:zy X.prog X.w CF X.stack H1 s1 (Bb R) ev s') (k:∀x dx vs sl c p H2 s2,ev= .ref x->Inv (X.mk' x) (pins++ [(x,{cls:= .ref CF,dict:=some dx,data:= .fields vs,slots:=sl})]) σ H2 s2->H2 dx=some (.xd (fF c p))->R c p H2->
 match nm with
 | none=>wpAny (model X.prog X.w) (X.A.mark (some (.ref x))) (execs (b0 :: body) X.env) (λfl s3=>Q fl s3) (λ_ _=>False) s2
 | some n=>wpAny (model X.prog X.w) (X.A.mark (some (.ref x))) (storeName X.env n (.ref x)) (λ_ s3=>wpAny (model X.prog X.w) (X.A.mark (some (.ref x))) (execs (b0 :: body) X.env)
  (λfl s4=>wpAny (model X.prog X.w) X.A (do bindName X.env n .none;unbindBehindTheSuite X.env n hpos) (λ_ s5=>Q fl s5) (λ_ _=>False) s4) (λ_ _=>False) s3) (λ_ _=>False) s2):
 wpAny (model X.prog X.w) X.A (noteFrame ev X.env) (λ_ s2=>wpAny (model X.prog X.w) X.A (setFlight ev none) (λ_ s3=>wpAny (model X.prog X.w) X.A (handleBy ev X.env [.ExceptHandler (some (.Name "Fault" np)) nm (b0 :: body) hpos]) Q X.xe s3) X.xe s2) X.xe s':=by
 obtain ⟨x,T,dx,fs,H',rfl,hos,bare,un,bQ,Rx,TR,Io,fx,fT,nx,nT,hdx,zu,c,p,e1,e2,hR⟩:=h;cases e1;have J:Inv X pins σ H' s':=I.call' (ch:= []) hos un bQ bare λb z=>absurd z (by simp);refine Ml J fU hfm Rx TR Io nx nT (I.xD fx nx) (I.xD fT nT) λs2 T2 J2 R2 O_ ne2 Rn=>?_;have Jm:Inv (X.mk' x) pins σ H' s2:=J2.mk' x;refine wpAny_handleBy_cons (codeAny_handlers_test (jN Jm Rl Rm ?_ (by decide))) (by intro q;cases q);obtain ⟨nm',qn,N,bs,sn,sub,ab,col,dd,k0,k1,k2,k3,k5,mN,hC,_⟩:=(Am J2.k6 q).ex;obtain ⟨sl,vs,a0,he,h0,h1⟩:=id R2;obtain ⟨hp,g,d,tk,os⟩:=s2;refine wpAny_excMatches_sub_self hC he rfl (by rfl) ?_;have suite:∀{Q':Unit->Shared->Prop} {E':Value->Shared->Prop},(∀s3,Inv (X.mk' x) (pins++ [(x,{cls:= .ref CF,dict:=some dx,data:= .fields vs,slots:=sl})]) σ H' s3->Q' () s3)->
  wpAny (model X.prog X.w) (X.A.mark (some (.ref x))) (setFlight (.ref x) none) Q' E' #[hp,g,d,tk,os]:=λ{Q' E'} kk=>by
  refine XE.Sz (s:=#[hp,g,d,tk,os]) (fr:= []) R2 O_ ne2 (by simp) λh3 N3 R3 X6=>?_;have J3:Inv (X.mk' x) pins σ H' {(#[hp,g,d,tk,os]:Shared) with heap:=h3,toks:=tk}:=Jm.turned (it:=T2) (t':=tk) (λb o hb e=>N3.keep b o e (by simp) hb) Rn.1 Rn.2.1 Rn.2.2.2.1 Rn.2.2.2.2.1 Rn.2.2.2.2.2;refine kk _ (J3.lS λr hr=>?_);rcases ci.mp hr with z | z
  . exact J3.pin r (dQ _ z)
  . obtain rfl:r=(x,{cls:= .ref CF,dict:=some dx,data:= .fields vs,slots:=sl}):=by simpa using z
    have VF:=I.xD fx nx;exists N3.keep x _ he (by simp) (bY ne2),nx,VF.2.1,VF.2.2.1,λv e=>by cases e
 cases nm with
 | none=>
  refine codeAny_handlers_suite (suite λs3 J3=>?_);exact bU (k x dx vs sl c p H' s3 rfl J3 e2 hR) (λ_ _ z=>z) λ_ _ z=>z.elim
 | some n=>
  refine codeAny_handlers_suite_as (suite λs3 J3=>?_);refine bU (k x dx vs sl c p H' s3 rfl J3 e2 hR) (λ_ s4 z=>bU z (λfl s5 z=>?_) λ_ _ z=>z.elim) λ_ _ z=>z.elim;exact bU z (λ_ _ z=>z) λ_ _ z=>z.elim
def Ro (sp:Sp) (iy:Nat) (t:TA):TS:=λD σ H=>t σ H λvs H1=>sp vs H1 (λv H2=>D.nx (σ.set iy (some v)) H2) (Bb λc p H2=> ∀l,H2 l=none->D.rt (.ref l) (upd H2 l (.lst [.int 0,.int c,.int p])))
def F_ {y n:Str} {i2:Nat} {t:TA} {fN:Addr} (F:iS X.prog X.w X.K X.mg X.base (zy X.prog X.w CF) k f fd ps sp) (hr:dn k X.A) (hdp:X.A.depth+20 < recursionLimit) (hg:Gl X x) (hm:X.mg x=some (.ref f)) (hk:keepIn X.K (.ref f)=true) (hb:Binds X.K fd ps []) (ha:PA X.FP (e :: es) t) (hN:X.N.Nodup) (hi:X.N[iy]? = some y) (hy:X.env.scope.names.lookup y=some .local) (q:gv X.K CF fI=true) (Rl:Gl X "Fault") (Rm:X.mg "Fault" = some (.ref CF)) (fU:X.stack=X.env :: X.outer) (hfm:X.env.frame=some X.env.locals) (hn:X.env.scope.names.lookup n=some .local) (hi2:X.N[i2]? = some n) (FN:Mm X.K X.mg fN eA sc) (WH:Gl X "fault_numbers") (hnd:(n == ("__debug__" :Str))=false) (hnc:(n == ("__classdict__" :Str))=false) (hdb:(x == ("__debug__" :Str))=false:=by decide) (he:starEach (e :: es) X.env=(false,eval e X.env) :: starEach es X.env:=by rfl) (gQ:(backTo eR (starEach es X.env)).any (·.1)=false:=by rfl) (hs:swapsWith (.Call (.Name x p) (e :: es) [] eR) (some (.Name y py)) pa.line X.env=pure false:=by rfl) (he2:starEach [.Name n p2] X.env=(false,eval (.Name n p2) X.env) :: starEach [] X.env:=by rfl) (Ur:(backTo p3 (starEach [] X.env)).any (·.1)=false:=by rfl):
 PS X (.Try [.Assign [.Name y py] (.Call (.Name x p) (e :: es) [] eR) pa] [.ExceptHandler (some (.Name "Fault" np)) (some n) [.Return (some (.Call (.Name "fault_numbers" p1) [.Name n p2] [] p3)) p4] hpos] [] [] pos) (Ro sp iy t):=by
 intro pins s σ H D I h;refine wpAny_Try_except (CN F hr hg hm hk hb ha hN hi hy I h (λv H' s' I' nv=>?_) (λH1 s1 ev s' I1 hc=>?_) hdb he gQ hs)
 . exact hZ #[_,_,I',nv]
 . refine An q Rl Rm fU hfm I1 hc λx' dx vs sl c pp H2 s2 ee J hd hR=>?_;subst ee;have WK:i2 < σ.length:=by
    rw [J.len];exact (bj.mp hi2).1
   refine nh (X:=X.mk' x') (i:=i2) (v:= .ref x') J hN hi2 (.inl hn) rfl (λs3 J3=>?_) (.inr hn);have WL:(σ.set i2 (some (V.ref x')))[i2]? = some (some (.ref x')):=rO WK;have pa:PA (X.mk' x') [.Name n p2] (IV (OG i2) Ej):=aI (xA hi2 (.inl hn) hnd hnc) xK he2;refine kG (wpAny_Return_some (g_ (jN J3 WH FN.mg ?_ (by decide))));refine callWith_K (h₀:=X.base) J3.ok.mod.LO FN.kp (dX (pa p3 _ s3 _ H2 (λvs' H'=>vs'= [.ref x']/\H'=H2) J3 #[_,WL,rfl,rfl]) λus s4 #[vs',H',J4,r4,e4,e5]=>#[J4.k6,?_]) he2 Ur;subst e4 e5;obtain rfl:=Vals.L_ r4;refine uT (Mo (Q:=λv H6=> ∃l,v= .ref l/\H' l=none/\H6=upd H' l (.lst [.int 0,.int c,.int pp])) J4 q FN hdp (dQ _ (ej.mpr rfl)) hd λl hl=>#[l,rfl,hl,rfl]) λu s5 #[v,H5,J5,rv,l,ev,hl,eH]=>?_;subst ev eH;have J6:=J5.jj;obtain ⟨m,hns,_⟩:=J6.loc;refine wpAny_nameGoes hn hns (by rw [J6.ok.kind];rfl) λh7 m7 WM WN=>?_;exists _,_,_,(J6.gone (t':=s5.toks+1) WN WM).Rk I1.ok,rv,hR l hl
def Rp (sp:Sp) (iy:Nat) (z:Int) (t:TA):TS:=λD σ H=>t σ H λvs H1=>sp vs H1 (λv H2=>D.nx (σ.set iy (some v)) H2) (Bb λ_ _ H2=> ∀l,H2 l=none->D.rt (.ref l) (upd H2 l (.lst [.int z])))
def Mp {y c:Str} {t:TA} {WO:Tok} {p1:Pos} (F:iS X.prog X.w X.K X.mg X.base (zy X.prog X.w CF) k f fd ps sp) (hr:dn k X.A) (hg:Gl X x) (hm:X.mg x=some (.ref f)) (hk:keepIn X.K (.ref f)=true) (hb:Binds X.K fd ps []) (ha:PA X.FP (e :: es) t) (hN:X.N.Nodup) (hi:X.N[iy]? = some y) (hy:X.env.scope.names.lookup y=some .local) (q:gv X.K CF fI=true) (Rl:Gl X "Fault") (Rm:X.mg "Fault" = some (.ref CF)) (fU:X.stack=X.env :: X.outer) (hfm:X.env.frame=some X.env.locals) (WP:Gl X c) (WQ:X.mg c=some (.int z WO)) (hcd:(c == ("__debug__" :Str))=false) (hdb:(x == ("__debug__" :Str))=false:=by decide) (he:starEach (e :: es) X.env=(false,eval e X.env) :: starEach es X.env:=by rfl) (gQ:(backTo eR (starEach es X.env)).any (·.1)=false:=by rfl) (hs:swapsWith (.Call (.Name x p) (e :: es) [] eR) (some (.Name y py)) pa.line X.env=pure false:=by rfl) (he2:starEach [.Name c p2] X.env=(false,eval (.Name c p2) X.env) :: starEach [] X.env:=by rfl):
 PS X (.Try [.Assign [.Name y py] (.Call (.Name x p) (e :: es) [] eR) pa] [.ExceptHandler (some (.Name "Fault" np)) none [.Return (some (.List [.Name c p2] p3)) p4] hpos] [] [] pos) (Rp sp iy z t):=by
 intro pins s σ H D I h;refine wpAny_Try_except (CN F hr hg hm hk hb ha hN hi hy I h (λv H' s' I' nv=>?_) (λH1 s1 ev s' I1 hc=>?_) hdb he gQ hs)
 . exact hZ #[_,_,I',nv]
 . refine An q Rl Rm fU hfm I1 hc λx' dx vs sl cc pp H2 s2 ee J hd hR=>?_;have body:rQ (X.mk' x') [.Return (some (.List [.Name c p2] p3)) p4] _:=w9 (qH (El (aI (w8 (v:= .int z) WP WQ #[_,rfl] hcd) xK he2)));refine bU (body _ s2 σ H2 {nx:=λ_ _=>False,rt:=D.rt} J #[by show 1<=sizeLine;decide,λl hl=>hR l hl]) (λfl s5 SU=>?_) λ_ _ z=>z;cases fl with
   | ret u=>
    obtain ⟨v,σ',H',J5,rv,qq⟩:=SU;exists v,σ',H',J5.jj.Rk I1.ok,rv,qq
   | next=>obtain ⟨_,_,_,z⟩:=SU;exact z.elim
   | brk=>obtain ⟨_,_,_,z⟩:=SU;exact z.elim
   | cont=>obtain ⟨_,_,_,z⟩:=SU;exact z.elim
end
def BX (CF:Addr) (E:XK) (X:Cx) (s3:Shared) (H3:Hp) (ce:Env) (fp:List Addr):Value->Shared->Prop:=λe s'=>
 ∃(x T dx:Addr) (fs:List (Str×V)) (H':Hp) (m:Str->Option Value),e= .ref x/\s'.os=s3.os/\AllBare s'.gens/\Un (frs X.stack) fp H3 H' s3.heap s'.heap/\k4 X.prog X.w H' s'.heap/\
  ng s'.heap CF x dx (.ref T)/\qF s'.heap T .none/\T≠x/\s3.heap.objs.size<=x/\s3.heap.objs.size<=T/\H' x=none/\H' T=none/\
  H' dx=some (.xd fs)/\E (.ref CF) (some dx) H'/\x≠ce.locals/\T≠ce.locals/\s'.heap.Ns ce.locals m/\H' ce.locals=none/\ce.locals∉frs X.stack/\s3.heap.objs.size<=s'.heap.objs.size
section
variable {E:XK}
def NP {s3:Shared} {H3:Hp} {ce:Env}:Passes (zy X.prog X.w CF) ((X.blk s3 H3 scope ce fp).wish (BX CF E X s3 H3 ce fp)) E:=λpins σ H s e s' I h=>by
 obtain ⟨x,T,dx,fs,H',rfl,hos,bare,un,bQ,R,TR,Io,fx,fT,nx,nT,hdx,hE⟩:=h;have J:Inv ((X.blk s3 H3 scope ce fp).wish (BX CF E X s3 H3 ce fp)) pins σ H' s':=I.call' (ch:= []) hos un bQ bare λb z=>absurd z (by simp);obtain ⟨m,hm,_⟩:=J.loc;exists x,T,dx,fs,H',m,U,J.os,bare,J.base,bQ,R,TR,Io,aP I.sz fx,aP I.sz fT,nx,nT,hdx,hE,fO (bq I.lt fx),fO (bq I.lt fT),hm,J.free,λz=>?_,J.sz;obtain ⟨_,o,ho,_⟩:=I.ok.funs.mem z;exact absurd (bq (aH ho) I.ok.above) (cN _)
def Us (O:X.Out CF E) {use:Option (Value->Sem Unit)}:∀s3 H3 ce fp D e s',Inv X pins σ H3 s3->ce.frame=X.env.frame->ce.locals=s3.heap.objs.size->(∀b∈fp,k7 X pins H3 b/\b < s3.heap.objs.size)->BX CF E X s3 H3 ce fp e s'->
 notedBy (model X.prog X.w) X.A ce (λe s'=>compPost (model X.prog X.w) X.A X.xe use Qf (.ref D) s3.heap.objs.size (.error e) s') e s':=λs3 H3 ce fp D e s' I3 hcf hcl f3 h=>by
 obtain ⟨x,T,dx,fs,H',m,rfl,hos,bare,un,bQ,R,TR,Io,fx,fT,nx,nT,hdx,hE,hxc,WR,hm,nc,WT,hsz⟩:=h;have hch:∀b∈fp,(b∈X.ex\/X.pE.heap.objs.size<=b)/\b≠X.env.locals/\(∀x c,X.env.cells.lookup x=some c->c≠b)/\∀p∈X.pn++pins,p.1≠b:=λb hb=>
  #[(f3 b hb).1.2.2.2.1,(f3 b hb).1.2.1,(f3 b hb).1.2.2.2.2.1,(f3 b hb).1.2.2.2.2.2]
 have J:Inv X pins σ H' s':=I3.call' (ch:=fp) hos un bQ bare hch;have hfr:X.A.frames=some (X.env :: X.outer):=O.Ac ▸ J.ok.frames;have hl:s'.heap.FunFrames X.base (X.env :: X.outer):=O.Ac ▸ J.stack;have sf:∀b∈frs (X.env :: X.outer),H' b=none:=by
  have:=J.rP;rw [O.Ac] at this;exact this
 have en:noteFrame (.ref x) ce=noteFrame (.ref x) X.env:=by
  unfold noteFrame PySem.frameOf;rw [hcf]
 unfold notedBy;rw [en];rw [<-hcl];refine XE.IA hfr hl O.frm R TR (XE.Ci _) Io λh1 T1 N1 lR R1 Mi ne1=>?_;have Ut:T1≠ce.locals:=λz=>by
  obtain ⟨o,_,_,ho,_⟩:=hm;rw [z] at lR;exact absurd (bq (aH ho) lR) (cN _)
 have Uu:ce.locals∉frs (X.env :: X.outer):=by rw [<-O.Ac];exact WT
 exists m,?_,λh' sb fQ hce=>?_
 . obtain ⟨o,es,ep,ho,r⟩:=hm;exists o,es,ep,N1.keep _ _ ho Uu (λz=>z.elim (λq=>hxc q.symm) λq=>WR q.symm),r
 have R':ng h' CF x dx (.ref T1):=by
  obtain ⟨sl,vs,a0,he,r⟩:=R1;exists sl,vs,a0,(sb.2 x hxc).trans he,r
 have Tn:qF h' T1 (rawInt X.env.locals):=by
  obtain ⟨oT,ts,hT,r⟩:=Mi;exists oT,ts,(sb.2 T1 Ut).trans hT,r
 obtain ⟨sl,vs,a0,he,h0,h1'⟩:=id R';unfold PySem.passOn;refine az (ib (s:={s' with heap:=h'}) he rfl h1' ?_);rw [ae (by simp)];refine az (XE.Sz (s:={s' with heap:=h'}) (fr:= []) (to:=fQ.frame) R' Tn ne1 (by simp) λh2 N2 R2 O_=>?_);refine wpAny_throw ?_;have Rq:H' T1=none:=J.bQ.fresh lR;have WU:Un (frs X.stack) fp H3 H' s3.heap h2:=by
  have nC:∀b o,s3.heap.get? b=some o->b≠ce.locals:=λb o e=>by rw [hcl];exact a9 (aH e)
  have nX:∀b o,s3.heap.get? b=some o->b≠x/\b≠T:=λb o e=>#[a9 (bq (aH e) fx),a9 (bq (aH e) fT)];have Uv:s3.heap.objs.size<=T1:=aP hsz lR;have Rq:∀b o,s3.heap.get? b=some o->b≠T1:=λb o e=>a9 (bq (aH e) Uv);exists λb o e n hb hx=>?_,λb o e n hb hx=>?_,un.free,λb o e hx=>?_,un.tups,un.pW,un.qG
  . have e1:=un.keep b o e n hb hx;have e2:=N1.keep b o e1 (by rw [<-O.Ac];exact hb) (λz=>z.elim (nX b o e).1 (nX b o e).2);have e3:=(sb.2 b (nC b o e)).trans e2;exact N2.keep b o e3 (by simp) (Rq b o e)
  . obtain ⟨X7,e1⟩:=un.slot b o e n hb hx;obtain ⟨sl2,e2⟩:=N1.slot b _ e1 (by rw [<-O.Ac];exact hb);have e3:=(sb.2 b (nC b o e)).trans e2;exists sl2,N2.keep b _ e3 (by simp) (Rq b o e)
  . obtain ⟨o1,e1⟩:=un.there b o e hx;obtain ⟨o2,e2⟩:=N1.there b o1 e1;have e3:=(sb.2 b (nC b o e)).trans e2;exact N2.there b o2 e3
 have ok2:k4 X.prog X.w H' h2:=by
  have k1:=si bQ N1 sf λb z=>z.elim (λq=>by rw [q];exact .inl nx) λq=>by rw [q];exact .inl nT
  have k2:k4 X.prog X.w H' h':=λa o e=>(k1 a o e).stay (λb u hb q=>(sb.2 b (by
   rcases hb with rfl | hb
   . exact bp e nc
   . exact bp hb nc)).trans q) (λ_ q=>q) λ_ _ q=>q
  exact si k2 N2 (by simp) λb z=>by rw [z];exact .inl Rq
 have J2:Inv X pins σ H' {s' with heap:=h2}:=I3.call' (s':={s' with heap:=h2}) (ch:=fp) hos WU ok2 bare hch;exact Er O J2 R2 (.inr #[T1,_,rfl,O_,ne1,Rq,aP J.sz lR]) nx (aP I3.sz fx) hdx hE
def Jo {bx:Shared->Hp->Env->List Addr->Value->Shared->Prop} {Q:VK} {wi:TI} {use:Option (Value->Sem Unit)} (hc:X.calm=true) (hN:X.N.Nodup) (I:Inv X pins σ H s) (hi:PI X tg iter wi) (ok:xP X.N X.env.scope scope own) (hg:∀(s:Shared) (H:Hp) (C:Addr) (cl:List (Str×Addr)) (fp:List Addr),PG (X.blk s H scope (compEnvC scope cl C X.env) fp) tg g) (ht:∀(s:Shared) (H:Hp) (C:Addr) (cl:List (Str×Addr)) (fp:List Addr),O2 (X.blk s H scope (compEnvC scope cl C X.env) fp) ifs tt) (he:∀(s:Shared) (H:Hp) (C:Addr) (cl:List (Str×Addr)) (fp:List Addr),PE ((X.blk s H scope (compEnvC scope cl C X.env) fp).wish (bx s H (compEnvC scope cl C X.env) fp)) elt te) (hs:∀x,foldedSetIterable iter X.env x=pure x) (hbx:∀s3 H3 ce fp D e s',Inv X pins σ H3 s3->ce.frame=X.env.frame->ce.locals=s3.heap.objs.size->(∀b∈fp,k7 X pins H3 b/\b < s3.heap.objs.size)->bx s3 H3 ce fp e s'->
 notedBy (model X.prog X.w) X.A ce (λe s'=>compPost (model X.prog X.w) X.A X.xe use Qf (.ref D) s3.heap.objs.size (.error e) s') e s') (h:O3 wi g tt te (own.map (·.2)) σ H Q) (hRR:∀D C s' m H',Inv X pins σ H' s'->Q (.ref D) H'->s'.heap.Ns C m->k7 X pins H' C->compPost (model X.prog X.w) X.A X.xe use Qf (.ref D) C (.ok .next) s'):
 wpAny (model X.prog X.w) X.A (comprehension (.ListComp elt [#[tg,iter,ifs,0]] scope pos) scope X.env pos' (newList []) false (eval iter X.env) use) Qf X.xe s:=by
 have hfree:∀y∈scope.names,y.2= .free->∃c,X.env.cells.lookup y.1=some c:=λy hy e=>by
  rcases ok.free y hy e with k | k
  . exact I.ok.has _ (.inl k)
  . exact I.ok.has _ (.inr k)
 refine wpAny_comprehension_free (use:=use) rfl hs (xO hfree) ok.kind (λy hy e=>by rw [ok.uniq y hy,e])
  (dX (hi pins s σ H _ I h) λxv s1 hx=>dX hx λitv s2 h2=>?_)
 obtain ⟨it,fp,tn,J,H2,e,I2,T,st2,f2,q⟩:=h2;subst e;refine ul (vK ?_) (by show 0<=sizeLine;decide);generalize hD:s2.heap.objs.size=D;have Uc:H2 D=none:=I2.bQ.fresh (eQ hD);obtain ⟨W,⟨m0,w0⟩,turn⟩:=q D Uc;generalize hs3:({s2 with heap:=s2.heap.push {cls:= .type "list",data:= .seq ([]:List Value).toArray}}:Shared)=s3;have I3:Inv X pins σ (upd H2 D (.lst [])) s3:=by
  rw [<-hs3];refine I2.laid (t':=s2.toks) (λb o e=>bC _ e) (eQ hD) #[aD _,[],0,.nil,?_];rw [<-hD];exact cD _ rfl
 have h3:s3.heap=s2.heap.push {cls:= .type "list",data:= .seq ([]:List Value).toArray}:=by rw [<-hs3]
 have sz:∀b∈fp,b < s2.heap.objs.size:=λb hb=>by
  obtain ⟨o,e,_⟩:=T.obj _ _ st2 b hb;exact aH e
 have f3:∀b∈fp,k7 X pins (upd H2 D (.lst [])) b/\b < s3.heap.objs.size:=λb hb=>by
  have gZ:=sz b hb;refine #[#[?_,(f2 b hb).2],by rw [h3,cV];exact o0 gZ];rw [aA (by rw [<-hD];exact a9 gZ)];exact (f2 b hb).1
 have st3:tn 0 s3.heap:=T.keep _ _ _ st2 λb _ o e=>by rw [h3];exact bC _ e
 have I4:=vL I3 ok hN f3;have pg:=hg s3 (upd H2 D (.lst [])) s3.heap.objs.size (cellsFrom (s3.heap.objs.size+1) scope.names (cq X.env.cells scope.names [])) fp;have pt:=ht s3 (upd H2 D (.lst [])) s3.heap.objs.size (cellsFrom (s3.heap.objs.size+1) scope.names (cq X.env.cells scope.names [])) fp;have pe:=he s3 (upd H2 D (.lst [])) s3.heap.objs.size (cellsFrom (s3.heap.objs.size+1) scope.names (cq X.env.cells scope.names [])) fp;show codeAny _ _ (.compStart (.ListComp elt [#[tg,iter,ifs,0]] scope pos) 0 (.ref it) (.ref D) (compEnvC scope (cellsFrom (s3.heap.objs.size+1) scope.names (cq X.env.cells scope.names [])) s3.heap.objs.size X.env)) (compPost (model X.prog X.w) X.A X.xe use Qf (.ref D) s3.heap.objs.size) {s3 with heap:=pushCells (s3.heap.push {cls:= .type "dict",data:= .dict #[]}) scope.names};have Q4:∀b∈fp,(upd H2 D (.lst [])) b=none:=λb hb=>(f3 b hb).1.1;generalize hce:compEnvC scope (cellsFrom (s3.heap.objs.size+1) scope.names (cq X.env.cells scope.names [])) s3.heap.objs.size X.env=ce at I4 pg pt pe ⊢;have cL:ce.locals=s3.heap.objs.size:=by subst hce;rfl
 have cF:ce.frame=X.env.frame:=by subst hce;rfl
 generalize Ww:upd H2 D (.lst [])=H3 at I3 I4 pg pt pe w0 Q4 f3;generalize Ud:({s3 with heap:=pushCells (s3.heap.push {cls:= .type "dict",data:= .dict #[]}) scope.names}:Shared)=s4 at I4 ⊢;have st4:tn 0 s4.heap:=T.keep _ _ _ st3 λb _ o e=>by rw [<-Ud];exact kN _ _ _ _ (bC _ e)
 have stat:∀{σ':St} {H':Hp} {s':Shared},Inv (X.blk s3 H3 scope ce fp) [] σ' H' s'->(∀b∈fp,H' b=none)->∀b∈fp,k7 (X.blk s3 H3 scope ce fp) [] H' b:=λ{σ' H' s'} I' hn b hb=>
  #[hn b hb,(I'.ok.Il b hb).1,I'.ok.uH b hb,.inl hb,λx c e=>(I'.ok.Il b hb).2 x c e,λp hp=>absurd (show p∈([]:List (Addr×Obj))++ [] from hp) (by simp)]
 have loop:codeAny (model X.prog X.w) X.A (.compLoop (.ListComp elt [#[tg,iter,ifs,0]] scope pos) 0 (.ref it) (.ref D) ce) (compPost (model X.prog X.w) X.A X.xe use Qf (.ref D) s3.heap.objs.size) s4:=by
  refine rY (λn s'=> ∃i H',Inv (X.blk s3 H3 scope ce fp) [] (wipe σ (own.map (·.2))) H' s'/\tn i s'.heap/\(∀b∈fp,H' b=none)/\W i n H') ?_ m0 #[0,H3,I4,st4,Q4,w0];rintro n s5 ⟨i,H5,I5,st5,n5,w5⟩;rcases turn i n H5 w5 with ⟨stop,qq⟩ | ⟨go,Nx,Ue,step⟩
  . have td:=T.done (X.blk s3 H3 scope ce fp) rfl rfl rfl hc i [] s5 _ H5 (λ_ _=>False) I5 (stat I5 n5) st5 stop;refine uT td λr s6 #[hr,I6]=>?_;subst hr;have I7:Inv X pins σ H5 s6:=I3.call' (ch:=fp) I6.os I6.base I6.bQ I6.bare λb hb=>#[(f3 b hb).1.2.2.2.1,(f3 b hb).1.2.1,(f3 b hb).1.2.2.2.2.1,(f3 b hb).1.2.2.2.2.2];have nC:H5 s3.heap.objs.size=none:=by
     have z:H5 ce.locals=none:=I6.free;rw [cL] at z;exact z
    obtain ⟨m,hn,_⟩:=I6.loc;have hn:s6.heap.Ns ce.locals m:=hn;rw [cL] at hn;exact hRR D s3.heap.objs.size s6 m H5 I7 qq hn (I3.xD (aw _) nC)
  . have ti:=T.item (X.blk s3 H3 scope ce fp) rfl rfl rfl hc i [] s5 _ H5 (λ_ _=>False) I5 (stat I5 n5) st5 go;refine uT ti λr s6 #[u,hr,h6]=>?_;subst hr;refine uT h6 λ_ s7 #[x,H7,I7,r7,y7,O4,n7]=>?_;have Uf:=I7.pinned (stat I7 n7) (T.obj _ _ O4);refine uT (pg _ s7 _ H7 x u _ Uf r7 (step x H7 y7)) λ_ s8 #[σ8,H8,I8,Q5,q8]=>?_;refine uT (pt _ s8 σ8 H8 _ I8 q8) λb s9 #[H9,I9,q9]=>?_;have fin:∀{s':Shared} {H':Hp},Inv (X.blk s3 H3 scope ce fp) ([]++uM fp s7.heap) σ8 H' s'->Nx H'->∃m,m < n/\∃i H',Inv (X.blk s3 H3 scope ce fp) [] (wipe σ (own.map (·.2))) H' s'/\tn i s'.heap/\(∀b∈fp,H' b=none)/\W i m H':=λ{s' H'} I' nx=>by
     obtain ⟨m',hm,w'⟩:=Ue H' nx;have Jf:∀b∈fp,∀o,s7.heap.get? b=some o->s'.heap.get? b=some o/\H' b=none:=λb hb o e=>
      let z:=I'.pin (b,o) (dQ _ (dQ _ (lT hb e)));#[z.1,z.2.1]
     have hl:(wipe σ (own.map (·.2))).length=σ8.length:=by rw [<-Q5,jP]
     exists m',hm,i+1,H',(I'.jj (pins:= [])).weak hl (λj v e=>?_),T.keep _ _ _ O4 λb hb o e=>(Jf b hb o e).1,λb hb=>?_,w'
     . rw [<-Q5] at e;exact (pH e).1
     . obtain ⟨o,e,_⟩:=T.obj _ _ O4 b hb;exact (Jf b hb o e).2
    cases b with
    | false=>
     simp only [m9,gP] at q9 ⊢;exact fin I9 q9
    | true=>
     simp only [e_] at q9 ⊢;refine bU (pe _ s9 σ8 H9 _ (I9.wish _) q9) (λz Wx #[yv,Qm,Ug,r10,acc,O5,O6,nx]=>?_) λe s' ze=>hbx s3 H3 ce fp D e s' I3 cF cL f3 ze;exact Je (X:=X.blk s3 H3 scope ce fp) Ug.iG O5 O6 r10 λWy Uh=>fin Uh nx
 exact codeAny_compStart_list loop (T.self X.A 0 _ _ _ st4 loop)
def Ao {E:XK} {y:Str} {spos:Pos} {wi:TI} (O:X.Out CF E) (i:Nat) (hi:PI X tg iter wi) (own:List (Str×Nat)) (hg:∀(s:Shared) (H:Hp) (C:Addr) (cl:List (Str×Addr)) (fp:List Addr),PG (X.blk s H scope (compEnvC scope cl C X.env) fp) tg g) (he:∀(s:Shared) (H:Hp) (C:Addr) (cl:List (Str×Addr)) (fp:List Addr),PE ((X.blk s H scope (compEnvC scope cl C X.env) fp).wish (BX CF E X s H (compEnvC scope cl C X.env) fp)) elt te) (hc:X.calm=true:=by exact rfl) (hN:X.N.Nodup:=by assumption) (hy:X.N[i]? = some y:=by rfl) (hyl:X.env.scope.names.lookup y=some .local:=by rfl) (hsw:swapsWith (.ListComp elt [#[tg,iter,ifs,0]] scope pos) (some (.Name y py)) spos.line X.env=pure true:=by exact F5 rfl rfl rfl (by decide+kernel)) (ok:xP X.N X.env.scope scope own:=by exact xQ (by kernel_rfl)) (ht:∀(s:Shared) (H:Hp) (C:Addr) (cl:List (Str×Addr)) (fp:List Addr),O2 (X.blk s H scope (compEnvC scope cl C X.env) fp) ifs tt:=by exact λ_ _ _ _ _=>A9) (hs:∀x,foldedSetIterable iter X.env x=pure x:=by intro _;rfl):
 PS X (.Assign [.Name y py] (.ListComp elt [#[tg,iter,ifs,0]] scope pos) spos) (OJ (O3 wi g tt te (own.map (·.2))) (xC i)):=by
 intro pins s σ H D I h;rw [exec_Assign_Name_used _ _ _ _ hsw];refine az (kS (az ?_));show wpAny _ X.A (do let _<-comprehension (.ListComp elt [#[tg,iter,ifs,0]] scope pos) scope X.env (firstIterPos [#[tg,iter,ifs,0]] pos) (newList []) false (eval iter X.env) (some (assign (.Name y py) X.env))) _ _ s;have h:O3 wi g tt te (own.map (·.2)) σ H (λx H1=>xC i x σ H1 D.nx):=h;refine az (dX (Jo (Qf:=λ_ s'=>SP X pins D .next s') hc hN I hi ok hg ht he hs (Us O) h λL C s' m H' I' q hn f=>?_) λ_ s' hq=>bo (bo hq));show wpAny _ _ (assign (.Name y py) X.env (.ref L)) _ _ _;refine um (uI (v:=V.ref L) I' hN hy (.inl hyl) rfl (λs2 I2 #[a,sb,ha]=>?_) (.inr hyl));obtain ⟨f0,f1,f2,f3,f4,f5⟩:=f;have haC:C≠a:=by
  rcases ha with z | z
  . rw [z];exact f1
  . exact λe=>f4 y a z e.symm
 exists m,hn.sameBut sb haC,λh3 Ui=>?_;exists _,H',I2.turned (t':=s2.toks) (λb o hb e=>(Ui.2 b hb).trans e) f0 f1 f3 f4 f5,q
end
section
open PySem.W (WData Codec OpenSpec Well WellAll ReadsW ReadsAllW)
mutual
inductive Dw (K:Frag) (H:Hp):V->WData->Prop
 | cp:Dw K H .cp .none
 | bl (b:Bool):Dw K H (.bl b) (.bool b)
 | int (i:Int):Dw K H (.int i) (.int i)
 | str (x:Str):Dw K H (.str x) (.str x)
 | Ce (b:Array UInt8):Dw K H (.Ce b) (.bytes b.toList)
 | lst {a:Addr} {xs:List V} {ds:List WData}:cz K H a xs->nE K H xs ds->Dw K H (.ref a) (.list ds)
 | tup {a:Addr} {xs:List V} {ds:List WData}:gS K H a xs->nE K H xs ds->Dw K H (.ref a) (.tuple ds)
inductive nE (K:Frag) (H:Hp):List V->List WData->Prop
 | nil:nE K H [] []
 | cons {v:V} {vs:List V} {d:WData} {ds:List WData}:Dw K H v d->nE K H vs ds->nE K H (v :: vs) (d :: ds)
end
def Ga:∀ns:List Int,nE K H (ns.map V.int) (ns.map WData.int)
 | []=> .nil
 | n :: r=> .cons (.int n) (Ga r)
def Gb:∀(ns:List Int) (xs:List V),nE K H xs (ns.map WData.int)->xs=ns.map V.int
 | [],xs,h=>by
  cases h;rfl
 | n :: r,xs,h=>by
  cases h with
  | cons h1 h2=>
   cases h1;rw [Gb r _ h2] <;> rfl
section
variable {R:WRecords} {cl:Str->Option Addr}
def Ph (bQ:k4 P w H h) (KX:K.In h) (q:cz K H a xs):∃(bV:List Value) (o:Obj) (n:Nat),Vals xs bV/\h.get? a=some o/\o.cls= .type "list" /\o.data= .seq bV.toArray n:=by
 rcases q with q | ⟨o,bV,n,e,hc,_,hd,_,hv⟩
 . obtain ⟨_,bV,n,hv,e⟩:=(show dc P w H h a (.lst xs) from q.ok bQ);exists bV,_,n,hv,e,U,U
 . exists bV.toList,o,n,hv,KX _ _ e,hc,by simp [hd]
def Pj (bQ:k4 P w H h) (KX:K.In h) (q:gS K H a xs):∃(bV:List Value) (o:Obj) (n:Nat),Vals xs bV/\h.get? a=some o/\o.cls= .type "tuple" /\o.data= .seq bV.toArray n:=by
 rcases q with q | ⟨o,bV,n,e,hc,hd,_,hv⟩
 . obtain ⟨_,bV,hv,o,e,hc,n,hd⟩:=(show dc P w H h a (.tup xs) from q.ok bQ);exists bV,o,n,hv,e,hc,hd
 . exists bV.toList,o,n,hv,KX _ _ e,hc,by simp [hd]
mutual
def Dw.reads (bQ:k4 P w H h) (KX:K.In h):∀(d:WData) (v:V) (u:Value),Dw K H v d->RelV v u->∃as,ReadsW R cl h u d as
 | .none,_,_,x,r=>by
  cases x;cases r;exists _,ReadsW.none
 | .bool b,_,_,x,r=>by
  cases x;cases r;exists _,ReadsW.bool b
 | .int i,_,_,x,r=>by
  cases x;obtain ⟨t,rfl⟩:=r;exists _,ReadsW.int i t
 | .str s,_,_,x,r=>by
  cases x;obtain ⟨t,rfl⟩:=r;exists _,ReadsW.str s t
 | .bytes b,_,_,x,r=>by
  cases x;obtain ⟨t,rfl⟩:=r;exists _,ReadsW.bytes _ t
 | .list ds,_,_,x,r=>by
  cases x with
  | lst hs ha=>
   cases r;obtain ⟨bV,o,n,rv,ho,hc,hd⟩:=Ph bQ KX hs;obtain ⟨as,hr⟩:=Dw.readsAll bQ KX ds _ bV ha rv;exists _,ReadsW.list ho hc hd hr
 | .tuple ds,_,_,x,r=>by
  cases x with
  | tup hs ha=>
   cases r;obtain ⟨bV,o,n,rv,ho,hc,hd⟩:=Pj bQ KX hs;obtain ⟨as,hr⟩:=Dw.readsAll bQ KX ds _ bV ha rv;exists _,ReadsW.tuple ho hc hd hr
 | .float _,_,_,x,_=>by cases x
 | .dict _,_,_,x,_=>by cases x
 | .bytearray _,_,_,x,_=>by cases x
 | .set _,_,_,x,_=>by cases x
 | .frozenset _,_,_,x,_=>by cases x
 | .obj _ _,_,_,x,_=>by cases x
def Dw.readsAll (bQ:k4 P w H h) (KX:K.In h):∀(ds:List WData) (vs:List V) (us:List Value),nE K H vs ds->Vals vs us->∃as,ReadsAllW R cl h us ds as
 | [],_,_,x,r=>by
  cases x;cases r;exists _,ReadsAllW.nil
 | d :: ds,_,_,x,r=>by
  cases x with
  | cons h1 h2=>
   cases r with
   | cons r1 r2=>
    obtain ⟨as,q1⟩:=Dw.reads bQ KX d _ _ h1 r1;obtain ⟨bs,q2⟩:=Dw.readsAll bQ KX ds _ _ h2 r2;exists _,ReadsAllW.cons q1 q2
end
end
mutual
def Gc:WData->Bool
 | .none=>true
 | .bool _=>true
 | .int _=>true
 | .str _=>true
 | .bytes _=>true
 | .list xs=>wA xs
 | .tuple xs=>wA xs
 | _=>false
def wA:List WData->Bool
 | []=>true
 | x :: r=>Gc x && wA r
end
def CO {f:α->WData} (h:∀a,Gc (f a)=true):∀l:List α,wA (l.map f)=true
 | []=>rfl
 | x :: r=>by
  show (Gc (f x) && wA (r.map f))=true;rw [h x,CO h r] <;> rfl
def nG:∀(c:Codec) (a:c.denote),Gc (c.enc a)=true
 | .unit,_=>rfl
 | .bool,_=>rfl
 | .int _ _,_=>rfl
 | .nat _ _,_=>rfl
 | .u8,_=>rfl
 | .bytes _ _,_=>rfl
 | .text _ _ _ _,_=>rfl
 | .list _ _ c,a=>CO (λx=>nG c x) a
 | .pair c d,a=>by
  show (Gc (c.enc a.1) && (Gc (d.enc a.2) && true))=true;rw [nG c a.1,nG d a.2] <;> rfl
 | .triple c d e,a=>by
  show (Gc (c.enc a.1) && (Gc (d.enc a.2.1) && (Gc (e.enc a.2.2) && true)))=true;rw [nG c a.1,nG d a.2.1,nG e a.2.2] <;> rfl
 | .option c,none=>rfl
 | .option c,some x=>nG c x
def Ap:∀(cs:List Codec) (a:Codec.denoteAll cs),wA (Codec.encAll cs a)=true
 | [],_=>rfl
 | c :: cs,a=>by
  show (Gc (c.enc a.1) && wA (Codec.encAll cs a.2))=true;rw [nG c a.1,Ap cs a.2] <;> rfl
def qK:∀{xs:List WData} {d:WData},d∈xs->d.weight<=WData.weightAll xs
 | [],d,h=>absurd h (by simp)
 | x :: r,d,h=>by
  show d.weight<=x.weight+1+WData.weightAll r;rcases aE.mp h with e | m
  . rw [e];omega
  . have z:=qK m;omega
def toV:Value->V
 | .none=> .cp
 | .bool b=> .bl b
 | .int i _=> .int i
 | .str x _=> .str x
 | .bytes b _=> .Ce b
 | .ref a=> .ref a
 | _=> .cp
def Hj (A:List Addr):Value->Prop
 | .none=>True
 | .bool _=>True
 | .int _ _=>True
 | .str _ _=>True
 | .bytes _ _=>True
 | .ref a=>a∈A
 | _=>False
def Hj.mono {A B:List Addr} (h:∀a∈A,a∈B):∀{u:Value},Hj A u->Hj B u:=λ{u} x=>by
 cases u with
 | ref a=>exact h a x
 | none=>trivial
 | bool b=>trivial
 | int i t=>trivial
 | str s t=>trivial
 | bytes b t=>trivial
 | _=>exact False.elim x
def Jp {A:List Addr} (x:Hj A u):RelV (toV u) u:=by
 cases u with
 | ref a=>rfl
 | none=>rfl
 | bool b=>rfl
 | int i t=>exists t,U
 | str s t=>exists t,U
 | bytes b t=>exists t,U
 | _=>exact False.elim x
def lg {A:List Addr}:∀{vs:List Value},(∀u∈vs,Hj A u)->Vals (vs.map toV) vs
 | [],_=> .nil
 | u :: r,h=> .cons (Jp (h u (bi ..))) (lg λx hx=>h x (aW _ hx))
def mG (h:Heap) (A:List Addr) (a:Addr):= ∃vs:List Value,vs.length<=sizeLine/\(∀u∈vs,Hj A u)/\
 (h.get? a=some {cls:= .type "list",data:= .seq vs.toArray}\/h.get? a=some {cls:= .type "tuple",data:= .seq vs.toArray})
def mG.mono {A B:List Addr} (k:∀a∈A,a∈B) (x:mG h A a):mG h B a:=by
 obtain ⟨vs,h1,h2,h3⟩:=x;exists vs,h1,λu hu=>(h2 u hu).mono k,h3
def jQ {P:Params}:∀{vs:List Value} {ds:List WData},WellAll P h vs ds->vs.length=ds.length
 | _,_,.nil=>rfl
 | _,_,.cons _ b=>by
  show _+1=_+1;rw [jQ b]
def Aq {P:Params} (x:Well P h v (.list ds)):∃(a:Addr) (vs:List Value),v= .ref a/\h.get? a=some {cls:= .type "list",data:= .seq vs.toArray}/\WellAll P h vs ds:=by
 cases x with
 | list ho hall=>exists _,_,U,ho,hall
def xU {P:Params} (x:Well P h v (.tuple ds)):∃(a:Addr) (vs:List Value),v= .ref a/\h.get? a=some {cls:= .type "tuple",data:= .seq vs.toArray}/\WellAll P h vs ds:=by
 cases x with
 | tuple ho hall=>exists _,_,U,ho,hall
def Ar {P:Params} {d:WData} (x:WellAll P h us (d :: ds)):∃(v:Value) (vs:List Value),us=v :: vs/\Well P h v d/\WellAll P h vs ds:=by
 cases x with
 | cons a b=>exists _,_,U,a,b
def Gd (h:n<=1048576):n<=sizeLine:=aP h (by decide)
section
variable {P:Params}
mutual
def Jq:∀(d:WData) (v:Value),Well P h v d->Gc d=true->d.weight<=1048576->∃A:List Addr,Hj A v/\∀a∈A,mG h A a
 | .none,_,x,_,_=>by
  cases x;exists [],trivial,λa m=>absurd m (by simp)
 | .bool b,_,x,_,_=>by
  cases x;exists [],trivial,λa m=>absurd m (by simp)
 | .int i,_,x,_,_=>by
  cases x;exists [],trivial,λa m=>absurd m (by simp)
 | .str s,_,x,_,_=>by
  cases x;exists [],trivial,λa m=>absurd m (by simp)
 | .bytes b,_,x,_,_=>by
  cases x;exists [],trivial,λa m=>absurd m (by simp)
 | .list ds,_,x,p,z=>by
  obtain ⟨a,vs,rfl,ho,hall⟩:=Aq x;have z2:WData.weightAll ds<=1048576:=z;obtain ⟨A,h1,h2⟩:=sj ds _ hall p λd hd=>aP (qK hd) z2;have k:∀b∈A,b∈a :: A:=λb hb=>aW _ hb;exists a :: A,bi ..,λb hb=>?_;rcases aE.mp hb with e | m
  . rw [e];exists vs,Gd (by rw [jQ hall];exact aP (zX ds) z2),λu hu=>(h1 u hu).mono k,.inl ho
  . exact (h2 b m).mono k
 | .tuple ds,_,x,p,z=>by
  obtain ⟨a,vs,rfl,ho,hall⟩:=xU x;have z2:WData.weightAll ds<=1048576:=z;obtain ⟨A,h1,h2⟩:=sj ds _ hall p λd hd=>aP (qK hd) z2;have k:∀b∈A,b∈a :: A:=λb hb=>aW _ hb;exists a :: A,bi ..,λb hb=>?_;rcases aE.mp hb with e | m
  . rw [e];exists vs,Gd (by rw [jQ hall];exact aP (zX ds) z2),λu hu=>(h1 u hu).mono k,.inr ho
  . exact (h2 b m).mono k
 | .float _,_,_,p,_=>Bool.noConfusion (show false=true from p)
 | .dict _,_,_,p,_=>Bool.noConfusion (show false=true from p)
 | .bytearray _,_,_,p,_=>Bool.noConfusion (show false=true from p)
 | .set _,_,_,p,_=>Bool.noConfusion (show false=true from p)
 | .frozenset _,_,_,p,_=>Bool.noConfusion (show false=true from p)
 | .obj _ _,_,_,p,_=>Bool.noConfusion (show false=true from p)
def sj:∀(ds:List WData) (vs:List Value),WellAll P h vs ds->wA ds=true->(∀d∈ds,d.weight<=1048576)->∃A:List Addr,(∀u∈vs,Hj A u)/\∀a∈A,mG h A a
 | [],_,x,_,_=>by
  cases x;exists [],λu m=>absurd m (by simp),λa m=>absurd m (by simp)
 | d :: ds,_,x,p,z=>by
  obtain ⟨v,vs,rfl,x1,x2⟩:=Ar x;have q:Gc d=true/\wA ds=true:=g9.mp p;obtain ⟨A,a1,a2⟩:=Jq d v x1 q.1 (z d (bi ..));obtain ⟨B,b1,b2⟩:=sj ds vs x2 q.2 λe he=>z e (aW _ he);have kA:∀b∈A,b∈A++B:=λb hb=>ci.mpr (.inl hb);have kB:∀b∈B,b∈A++B:=λb hb=>ci.mpr (.inr hb);exists A++B,λu hu=>?_,λb hb=>?_
  . rcases aE.mp hu with e | m
    . rw [e];exact a1.mono kA
    . exact (b1 u m).mono kB
  . rcases ci.mp hb with m | m
    . exact (a2 b m).mono kA
    . exact (b2 b m).mono kB
end
end
def Mq (o:Obj):Option HO:=match o.data with
 | .seq vs _=>if (o.cls == Value.type "list")=true then some (.gR o (.lst (vs.toList.map toV))) else some (.gR o (.tup (vs.toList.map toV)))
 | _=>none
def l_ (K:Frag) (h:Heap) (A:List Addr):Hp:=λb=>if b∈A then (if (K.lookup b).isNone=true then (h.get? b).bind Mq else none) else none
def Ge (H:Hp):= ∀b,H b=none\/∃o u,H b=some (.gR o u)
def CP (vs:List Value):Mq {cls:= .type "list",data:= .seq vs.toArray}=some (.gR {cls:= .type "list",data:= .seq vs.toArray} (.lst (vs.map toV))):=by
 show (if (Value.type "list" == Value.type "list")=true then some (HO.gR {cls:= .type "list",data:= .seq vs.toArray} (.lst (vs.toArray.toList.map toV))) else some (HO.gR {cls:= .type "list",data:= .seq vs.toArray} (.tup (vs.toArray.toList.map toV))))=_;rw [ah (kH _)]
def CQ (vs:List Value):Mq {cls:= .type "tuple",data:= .seq vs.toArray}=some (.gR {cls:= .type "tuple",data:= .seq vs.toArray} (.tup (vs.map toV))):=by
 show (if (Value.type "tuple" == Value.type "list")=true then some (HO.gR {cls:= .type "tuple",data:= .seq vs.toArray} (.lst (vs.toArray.toList.map toV))) else some (HO.gR {cls:= .type "tuple",data:= .seq vs.toArray} (.tup (vs.toArray.toList.map toV))))=_;rw [ae (by decide)]
section
variable {A:List Addr}
def xf {o:Obj} (hb:b∈A) (hk:K.lookup b=none) (e:h.get? b=some o):l_ K h A b=Mq o:=by
 unfold l_;rw [ah hb,hk,ah (show (none:Option Obj).isNone=true from rfl),e] <;> rfl
def Mr {u:HO} (q:l_ K h A b=some u):b∈A/\K.lookup b=none:=by
 unfold l_ at q;by_cases hb:b∈A
 . rw [ah hb] at q;cases hk:K.lookup b with
   | none=>exists hb,U
   | some o=>
    rw [hk,ae (by simp)] at q;cases q
 . rw [ae hb] at q;cases q
def xg (ar:∀a∈A,mG h A a) {u:HO} (q:l_ K h A b=some u):K.lookup b=none/\∃vs:List Value,vs.length<=sizeLine/\(∀u∈vs,Hj A u)/\
 ((h.get? b=some {cls:= .type "list",data:= .seq vs.toArray}/\u= .gR {cls:= .type "list",data:= .seq vs.toArray} (.lst (vs.map toV)))\/
  (h.get? b=some {cls:= .type "tuple",data:= .seq vs.toArray}/\u= .gR {cls:= .type "tuple",data:= .seq vs.toArray} (.tup (vs.map toV)))):=by
 obtain ⟨hb,hk⟩:=Mr q;obtain ⟨vs,h1,h2,h3⟩:=ar b hb;exists hk,vs,h1,h2,?_;rcases h3 with e | e
 . rw [xf hb hk e,CP] at q;exact .inl #[e,(bF q).symm]
 . rw [xf hb hk e,CQ] at q;exact .inr #[e,(bF q).symm]
def Hk (ar:∀a∈A,mG h A a):Ge (l_ K h A):=λb=>by
 cases q:l_ K h A b with
 | none=>exact .inl rfl
 | some u=>
  obtain ⟨_,vs,_,_,⟨_,e⟩ | ⟨_,e⟩⟩:=xg ar q
  . exact .inr #[_,_,by rw [e]]
  . exact .inr #[_,_,by rw [e]]
def Ms (ar:∀a∈A,mG h A a):k4 P w (l_ K h A) h:=λb u q=>by
 obtain ⟨_,vs,h1,h2,⟨e,rfl⟩ | ⟨e,rfl⟩⟩:=xg ar q
 . exists e,by rw [aB];exact h1,vs,_,lg h2,e
 . exists e,by rw [aB];exact h1,vs,lg h2,_,e,rfl,_,rfl
def xh {c c':Value} {vs:List Value} (e:(some {cls:=c,data:= .seq vs.toArray}:Option Obj)=some {cls:=c',data:= .seq us.toArray}):c=c'/\vs=us:=by
 have e1:=bF e;have e2:c=c':=bA Obj.cls e1;have e3:Data.seq vs.toArray=Data.seq us.toArray:=bA Obj.data e1;injection e3 with e4;exists e2,?_;have e5:=bA Array.toList e4;simpa using e5
def Uw (KX:K.In h) (ar:∀a∈A,mG h A a) {vs:List Value} (ha:a∈A) (e:h.get? a=some {cls:= .type "list",data:= .seq vs.toArray}):(∀u∈vs,Hj A u)/\cz K (l_ K h A) a (vs.map toV):=by
 obtain ⟨us,h1,h2,h3⟩:=ar a ha;have hu:us=vs:=by
  rcases h3 with q | q
  . rw [e] at q;exact (xh q).2.symm
  . rw [e] at q;exact absurd (Value.type.inj (xh q).1) (by decide)
 subst hu;exists h2,?_;cases hk:K.lookup a with
 | none=>exact .inl (.inr #[_,by rw [xf ha hk e,CP]])
 | some o=>
  have e2:=KX a o hk;rw [e] at e2;obtain rfl:=bF e2;exact .inr #[_,us.toArray,_,hk,rfl,rfl,rfl,by rw [cg];exact h1,by simpa using lg h2]
def Ux (KX:K.In h) (ar:∀a∈A,mG h A a) {vs:List Value} (ha:a∈A) (e:h.get? a=some {cls:= .type "tuple",data:= .seq vs.toArray}):(∀u∈vs,Hj A u)/\gS K (l_ K h A) a (vs.map toV):=by
 obtain ⟨us,h1,h2,h3⟩:=ar a ha;have hu:us=vs:=by
  rcases h3 with q | q
  . rw [e] at q;exact absurd (Value.type.inj (xh q).1) (by decide)
  . rw [e] at q;exact (xh q).2.symm
 subst hu;exists h2,?_;cases hk:K.lookup a with
 | none=>exact .inl (.inr #[_,by rw [xf ha hk e,CQ]])
 | some o=>
  have e2:=KX a o hk;rw [e] at e2;obtain rfl:=bF e2;exact .inr #[_,us.toArray,_,hk,rfl,rfl,by rw [cg];exact h1,by simpa using lg h2]
mutual
def Pk {Pm:Params} (KX:K.In h) (ar:∀a∈A,mG h A a):∀(d:WData) (v:Value),Well Pm h v d->Gc d=true->Hj A v->Dw K (l_ K h A) (toV v) d
 | .none,_,x,_,_=>by
  cases x;exact .cp
 | .bool b,_,x,_,_=>by
  cases x;exact .bl b
 | .int i,_,x,_,_=>by
  cases x;exact .int i
 | .str s,_,x,_,_=>by
  cases x;exact .str s
 | .bytes b,_,x,_,_=>by
  cases x;have z:=Dw.Ce (K:=K) (H:=l_ K h A) b.toArray;exact z
 | .list ds,_,x,p,hu=>by
  obtain ⟨a,vs,rfl,ho,hall⟩:=Aq x;obtain ⟨h2,hs⟩:=Uw KX ar hu ho;exact .lst hs (Bc KX ar ds _ hall p h2)
 | .tuple ds,_,x,p,hu=>by
  obtain ⟨a,vs,rfl,ho,hall⟩:=xU x;obtain ⟨h2,hs⟩:=Ux KX ar hu ho;exact .tup hs (Bc KX ar ds _ hall p h2)
 | .float _,_,_,p,_=>Bool.noConfusion (show false=true from p)
 | .dict _,_,_,p,_=>Bool.noConfusion (show false=true from p)
 | .bytearray _,_,_,p,_=>Bool.noConfusion (show false=true from p)
 | .set _,_,_,p,_=>Bool.noConfusion (show false=true from p)
 | .frozenset _,_,_,p,_=>Bool.noConfusion (show false=true from p)
 | .obj _ _,_,_,p,_=>Bool.noConfusion (show false=true from p)
def Bc {Pm:Params} (KX:K.In h) (ar:∀a∈A,mG h A a):∀(ds:List WData) (vs:List Value),WellAll Pm h vs ds->wA ds=true->(∀u∈vs,Hj A u)->nE K (l_ K h A) (vs.map toV) ds
 | [],_,x,_,_=>by
  cases x;exact .nil
 | d :: ds,_,x,p,hu=>by
  obtain ⟨v,vs,rfl,x1,x2⟩:=Ar x;have q:Gc d=true/\wA ds=true:=g9.mp p;exact .cons (Pk KX ar d v x1 q.1 (hu _ (bi ..))) (Bc KX ar ds vs x2 q.2 λu m=>hu u (aW _ m))
end
end
def Hl {mb:Str->Option Value} {k:Nat} {fa:Addr} {s₁:Shared} {vals:List Value} {R:WRecords} {cl:Str->Option Addr} {d0:WData} (KX:K.In s₁.heap) (hns:s₁.heap.Ns mainGlobals mg) (hb:s₁.heap.Ns builtinsNs mb) (hbb:∀x:Str,x≠ "__name__" ->mb x=bootBuiltins x) (hlim:s₁.heap.NoLimit) (hg:s₁.gens=#[]) (hwl:WellAll w.params s₁.heap vals ds) (gQ:wA ds=true) (WV:∀d∈ds,d.weight<=1048576) (hr:dn k callerA) (F:∀base:Heap,K.In base->base.Ns mainGlobals mg->∃fd:FuncData,Binds K fd ps []/\iS P w K mg base CX k fa fd ps sp) (hlen:ds.length=ps.length) (hsp:∀(H:Hp) (xs:List V),Ge H->nE K H xs ds->sp xs H (λv H'=>Dw K H' v d0) λ_ _ _=>False) (Uy:∀H e s',CX [] H s₁ (λ_ _ _=>False) e s'->False):
 codeAny (model P w) callerA (.call (.ref fa) #[vals,[]]) (λr s'=> ∃u as,r= .ok (.ret u)/\ReadsW R cl s'.heap u d0 as/\OldK s₁.heap s'.heap/\s'.os=s₁.os/\AllBare s'.gens) s₁:=by
 obtain ⟨A,ho,ar⟩:=sj ds vals hwl gQ WV;have hO:Ge (l_ K s₁.heap A):=Hk ar;have bQ:k4 P w (l_ K s₁.heap A) s₁.heap:=Ms ar;have hS:=Bc KX ar ds vals hwl gQ ho;have hV:=lg ho;have hK:∀b u,l_ K s₁.heap A b=some u->K.lookup b=none:=λb u q=>(xg ar q).1;have Qj:∀{b:Addr} {o:Obj} {es:Array DictEntry} {ep:Nat},s₁.heap.get? b=some o->o.data= .dict es ep->l_ K s₁.heap A b=none:=λ{b o es ep} e d=>by
  cases q:l_ K s₁.heap A b with
  | none=>rfl
  | some u=>
   obtain ⟨_,vs,_,_,⟨e2,_⟩ | ⟨e2,_⟩⟩:=xg ar q
   . rw [e2] at e;cases e;have d':Data.seq vs.toArray _=Data.dict es ep:=d;cases d'
   . rw [e2] at e;cases e;have d':Data.seq vs.toArray _=Data.dict es ep:=d;cases d'
 generalize l_ K s₁.heap A=H at hO bQ hS hK Qj;have Gf:∀{b:Addr} {o:Obj},s₁.heap.get? b=some o->H b=none->(AU s₁.heap H).get? b=some o:=λe n=>IE e n;have SV:∀{b:Addr} {m:Str->Option Value},s₁.heap.Ns b m->(AU s₁.heap H).Ns b m:=λ{b m} #[o,es,ep,e,d,r]=>#[o,es,ep,Gf e (Qj e d),d,r];have nK:∀b o,K.lookup b=some o->H b=none:=λb o e=>by
  cases q:H b with
  | none=>rfl
  | some u=>
   rw [hK b u q] at e;cases e
 have VG:K.In (AU s₁.heap H):=λb o e=>Gf (KX b o e) (nK b o e);have hM:Mod K mg (AU s₁.heap H):=#[VG,SV hns,#[mb,SV hb,hbb],let #[mc,h1,h2]:=hlim;#[mc,SV h1,h2]];have e0:Ct P w K mg (AU s₁.heap H) callerA [] s₁ H:=#[rfl,hM,λb o e=>LL e,eQ (G4 _ _),trivial,λb hb=>absurd (show b∈([]:List Addr) from hb) (by simp),bQ,.of_eq hg];have hl:vals.length=ps.length:=by rw [jQ hwl];exact hlen
 obtain ⟨fd,hbind,hF⟩:=F _ VG (SV hns);refine gO (hF.run callerA [] s₁ H #[vals,[]] vals (vals.map toV) _ _ hr e0 (by have:=hbind s₁ vals KX (by rw [bH];exact hl);rw [bH] at this;exact this) hV (hsp H _ hO hS)) λr s' x=>?_;cases r with
 | error e=>exact (Uy H e s' x).elim
 | ok fl=>
  cases fl with
  | next=>exact False.elim x
  | brk=>exact False.elim x
  | cont=>exact False.elim x
  | ret u=>
   obtain ⟨v,H',os,bare,un,hok',r',q⟩:=x;have kept:∀b o,s₁.heap.get? b=some o->s'.heap.get? b=some o:=λb o e=>by
    cases q2:H b with
    | none=>exact un.keep b o e q2 (by intro z;exact absurd (show b∈([]:List Addr) from z) (by simp)) (by simp)
    | some u2=>
     rcases hO b with z | ⟨ob,u3,z⟩
     . rw [q2] at z;cases z
     . have z2:=un.pW b ob _ z;obtain ⟨e1,_⟩:=bQ b _ z;obtain ⟨e2,_⟩:=hok' b _ z2;rw [e] at e1;cases e1;exact e2
   have WW:K.In s'.heap:=λb o e=>kept b o (KX b o e);obtain ⟨as,hrd⟩:=Dw.reads (R:=R) (cl:=cl) hok' WW d0 v u q r';exists u,as,U,hrd,OldK.of_keep kept,os,bare
def xV (h:WData.layableAll ds=true):∀d∈ds,d.weight<=1048576:=λd hd=>
 (PySem.W.layableW_iff.mp (c7.mp h d hd)).2.2
def xW:∀(cs:List Codec) (a:Codec.denoteAll cs),(Codec.encAll cs a).length=cs.length
 | [],_=>rfl
 | c :: cs,a=>by
  show (Codec.encAll cs a.2).length+1=cs.length+1;rw [xW cs a.2]
def Hm {r:OpenSpec} {k:Nat} {q:Program} {loose:List Str} {XP:(Str->Option Value)->Heap->Prop} {YP:World->Heap->Prop} {d:DefRec} {K:Params->Frag} {CX:World->IW} {sp:World->Sp} (Rr:r.wellSaid=true) (hdf:d.params.defaults= []) (hlen:r.args.length=ps.length) (hr:dn k callerA) (hY:∀(w:World) (h:Heap),YP w h->(K w.params).In h) (F:∀(w:World) (mg:Str->Option Value) (fa:Addr) (h:Heap),YP w h->(K w.params).In h->h.Ns mainGlobals mg->mg d.name=some (.ref fa)->
 ∀base:Heap,(K w.params).In base->base.Ns mainGlobals mg->∃fd:FuncData,Binds (K w.params) fd ps []/\iS r.prog w (K w.params) mg base (CX w) k fa fd ps (sp w)) (hsp:∀(w:World) (H:Hp) (xs:List V) (a:Codec.denoteAll r.args),Ge H->Codec.withinAll r.args a=true->Codec.app r.args r.asked a=true->nE (K w.params) H xs (Codec.encAll r.args a)->
 sp w xs H (λv H'=>Dw (K w.params) H' v (r.ret.enc (Codec.app r.args r.f a))) λ_ _ _=>False) (Uy:∀(w:World) (H:Hp) (s:Shared) (e:Value) (s':Shared),CX w [] H s (λ_ _ _=>False) e s'->False):
 WalkOS q loose XP YP r d [] (λf vs=>PySem.call f vs):=by
 intro w pE s₁ mg mb G Z' fa o pm cd doc dV kV ho hd hcd hD Uz hg args vals as hpre hlay hrd hwl hlo;obtain ⟨a,e1,e2⟩:=PySem.W.os_pre_some hpre;obtain ⟨e3,hwi⟩:=Codec.encAll_of_decAll r.args args a e1;subst e3;have KX:=hY w _ Z';have hF:=F w mg fa _ Z' KX G.T.g Uz;refine PySem.W.enter_call (gO (Hl (R:= []) (cl:=classAt pE.heap) (d0:=r.ret.enc (Codec.app r.args r.f a)) KX G.T.g G.T.b G.T.builtins G.T.nolimit hg hwl (Ap _ _) (xV hlay) hr hF (by rw [xW];exact hlen)
  (λH xs hO hS=>hsp w H xs a hO hwi e2 hS) λH e s'=>Uy w H s₁ e s') λr' s' hq=>?_)
 obtain ⟨u,as',rfl,h1,h2,h3,h4⟩:=hq;exists .inl #[u,_,as',U,λ_=>U,h1,(OpenSpec.post_iff Rr hwi _ _).mpr U,λz=>Bool.noConfusion (show false=true from z)],h2,h3,h4
end
section
variable (P:Program) (w:World) (K:Frag) (mg:Str->Option Value) (base:Heap)
def Mt (CX:IW) (k:Nat) (x:Str) (ps:List Str) (sp:Sp):Prop:=
 ∃f fd,mg x=some (.ref f)/\keepIn K (.ref f)=true/\iS P w K mg base CX k f fd ps sp/\Binds K fd ps []
def Et (CX:IW) (k:Nat) (C:Addr) (m:Str) (ps:List Str) (sp:Sp):Prop:=
 ∃f fd,ku K C/\Meth K C m f/\iS P w K mg base CX k f fd ps sp/\Binds K fd ps []
def Eu (CX:IW) (k:Nat) (C:Addr) (x:Str) (ps:List Str) (sp:Sp):Prop:=
 ∃f fd,Mk K C f/\mg x=some (.ref C)/\iS P w K mg base CX k f fd ps sp/\Binds K fd ps []
end
section
variable {k:Nat} {QZ:Sp}
def Mt.mono (h:Mt P w K mg base CX j x ps sp) (l:j<=k):Mt P w K mg base CX k x ps sp:=let #[f,fd,a,b,c,d]:=h;#[f,fd,a,b,c.mono l,d]
def Et.mono (h:Et P w K mg base CX j C m ps sp) (l:j<=k):Et P w K mg base CX k C m ps sp:=let #[f,fd,a,b,c,d]:=h;#[f,fd,a,b,c.mono l,d]
def Eu.mono (h:Eu P w K mg base CX j C x ps sp) (l:j<=k):Eu P w K mg base CX k C x ps sp:=let #[f,fd,a,b,c,d]:=h;#[f,fd,a,b,c.mono l,d]
def Mt.imp (h:Mt P w K mg base CX k x ps sp) (i:∀vs H Q E,QZ vs H Q E->sp vs H Q E):Mt P w K mg base CX k x ps QZ:=let #[f,fd,a,b,c,d]:=h;#[f,fd,a,b,c.imp i,d]
end
section
variable {k:Nat} {E:XK} {o:Expr} {t:TA}
def dv (h:Mt X.prog X.w X.K X.mg X.base CX k x ps sp) (ha:PA X (e :: es) t) (hr:dn j X.A:=by assumption) (l:k<=j:=by omega) (hx:Passes CX X E:=by first | exact CM | exact F9 gn) (hg:Gl X x:=by exact rfl) (hdb:(x == ("__debug__" :Str))=false:=by decide) (he:starEach (e :: es) X.env=(false,eval e X.env) :: starEach es X.env:=by rfl) (gQ:(backTo pos (starEach es X.env)).any (·.1)=false:=by rfl):
 PE X (.Call (.Name x p) (e :: es) [] pos) (ND sp [] E t):=by
 obtain ⟨f,fd,a,b,c,d⟩:=h;exact LY c (hr.mono l) hg a b d .nil hx ha hdb he gQ
def Rs (ho:PE X o ta) (h:Et X.prog X.w X.K X.mg X.base CX k C m ps sp) (ha:PA X (e :: es) t) (hr:dn j X.A:=by assumption) (l:k<=j:=by omega) (hx:Passes CX X E:=by first | exact CM | exact F9 gn) (fU:starEach (e :: es) X.env=(false,eval e X.env) :: starEach es X.env:=by rfl) (gQ:(backTo pos (starEach es X.env)).any (·.1)=false:=by rfl) (ht:eval (.Call (.Attribute o m apos) (e :: es) [] pos) X.env=(do
 let ov<-eval o X.env;standAt apos.atName;let (f,first)<-holding [ov] (getMethod ov m pl);callWith pos f first (backTo pos (starEach (e :: es) X.env)) (backToKw pos (keywordEach [] X.env))):=by rfl):
  PE X (.Call (.Attribute o m apos) (e :: es) [] pos) (F1 C m sp [] E ta t):=by
  obtain ⟨f,fd,a,b,c,d⟩:=h;exact LZ ho a b c (hr.mono l) d .nil hx ha fU gQ ht
def Pl (ho:PE X o ta) (h:Et X.prog X.w X.K X.mg X.base CX k C m ps sp) (hr:dn j X.A:=by assumption) (l:k<=j:=by omega) (hx:Passes CX X E:=by first | exact CM | exact F9 gn) (ht:eval (.Call (.Attribute o m apos) [] [] pos) X.env=(do
 let ov<-eval o X.env;standAt apos.atName;let (f,first)<-holding [ov] (getMethod ov m pl);callWith pos f first (backTo pos (starEach [] X.env)) (backToKw pos (keywordEach [] X.env))):=by rfl):
  PE X (.Call (.Attribute o m apos) [] [] pos) (F1 C m sp [] E ta Ej):=by
  obtain ⟨f,fd,a,b,c,d⟩:=h;exact IX ho a b c (hr.mono l) d .nil hx ht
def gw (h:Eu X.prog X.w X.K X.mg X.base CX k C x ps sp) (ha:PA X (e :: es) t) (hr:dn j X.A:=by assumption) (l:k+1<=j:=by omega) (hx:Passes CX X E:=by first | exact CM | exact F9 gn) (hg:Gl X x:=by exact rfl) (hdb:(x == ("__debug__" :Str))=false:=by decide) (he:starEach (e :: es) X.env=(false,eval e X.env) :: starEach es X.env:=by rfl) (gQ:(backTo pos (starEach es X.env)).any (·.1)=false:=by rfl):
 PE X (.Call (.Name x p) (e :: es) [] pos) (F2 C sp [] E t):=by
 obtain ⟨f,fd,a,b,c,d⟩:=h;exact L0 a c (hr.mono l) hg b d .nil hx ha hdb he gQ
def Rt (h:Eu X.prog X.w X.K X.mg X.base CX k C x ps sp) (hr:dn j X.A) (l:k+1<=j) (hx:Passes CX X E) (hg:Gl X x) (hdb:(x == ("__debug__" :Str))=false:=by decide):PE X (.Call (.Name x p) [] [] pos) (F2 C sp [] E Ej):=by
 obtain ⟨f,fd,a,b,c,d⟩:=h;exact IY a c (hr.mono l) hg b d .nil hx hdb
end
def Ru (t:TE):TE:=λσ H Q=>t σ H λv H1=> ∃p u,v= .ref p/\H1 p=some u/\OD (some u)/\∀o,Q v (upd H1 p (.gR o u))
def di {t:TE} (h:PE X e t):PE X e (Ru t):=by
 intro pins s σ H Q I q;refine dX (h pins s σ H _ I q) λu s1 #[v,H1,I1,r,p,ob,e1,e2,m,k]=>?_;obtain ⟨od,I2⟩:=I1.lock e2 m;exists v,_,I2,r,k od
structure Cl where
 (tok rd ex par fn lh obs prog Gg call ld hold cf:Addr)
def Y (c:Cl):HO->Bool
 | .gR _ _=>true
 | .tup _=>true
 | .xd _=>true
 | .ins C _ _=>!(C == c.rd) && !(C == c.hold)
 | _=>false
def bX (c:Cl) (H H':Hp):= ∀b o,H b=some o->Y c o=true->H' b=some o
def Sb (r:Addr) (H H':Hp):= ∀b o,H b=some o->b≠r->H' b=some o
section
variable {c:Cl} {r p:Addr} {u:HO}
def bX.refl:bX c H H:=λ_ _ e _=>e
def bX.trans (a:bX c H H1) (b:bX c H1 H2):bX c H H2:=λx o e i=>b x o (a x o e i) i
def aq.Y (s:aq H H'):bX c H H':=λb o e _=>s b o e
def Sb.Y {fs:List (Str×V)} (s:Sb r H H') (e:H r=some (.ins c.rd dx fs)):bX c H H':=λb o h i=>s b o h λz=>by
 subst z;rw [e] at h;cases h;exact absurd i (by show¬(!(_ == _) && !(_ == _))=true;simp)
def Sb.UA {fs:List (Str×V)} (s:Sb r H H') (e:H r=some (.ins c.hold dx fs)):bX c H H':=λb o h i=>s b o h λz=>by
 subst z;rw [e] at h;cases h;exact absurd i (by show¬(!(_ == _) && !(_ == _))=true;simp)
def Sb.refl:Sb r H H:=λ_ _ e _=>e
def Sb.trans (a:Sb r H H1) (b:Sb r H1 H2):Sb r H H2:=λx o e n=>b x o (a x o e n) n
def aq.sb (s:aq H H'):Sb r H H':=λb o e _=>s b o e
def aq.upd (n:H p=none):aq H (upd H p o):=λb u e=>by rw [aA (bp e n)];exact e
def aq.bM (s:aq H H1) (n:H p=none):aq H (L2.upd H1 p o):=λb u e=>by rw [aA (bp e n)];exact s b u e
def Sb.bM (s:Sb r H H1) (n:H p=none):Sb r H (L2.upd H1 p o):=λb u e q=>by rw [aA (bp e n)];exact s b u e q
def Sb.Pn (s:Sb r H H1):Sb r H (L2.upd H1 r o):=λb u e q=>by rw [aA q];exact s b u e q
def bX.upd (e:H p=some u) (i:Y c u=false):bX c H (L2.upd H p o):=λb w h j=>by
 rw [aA λz=>by subst z;rw [e] at h;cases h;rw [i] at j;cases j];exact h
def bX.new (n:H p=none):bX c H (L2.upd H p o):=(aq.upd n).Y
def Sb.free (e:Sb r H H') (hr:H r=none->H' r=none) (h:H' l=none):H l=none\/l=r:=by
 by_cases q:l=r
 . exact .inr q
 . cases z:H l with
   | none=>exact .inl rfl
   | some o=>rw [e l o z q] at h;cases h
end
def FL (H:Hp) (a:Addr) (xs:List V):= ∃o,H a=some (.gR o (.lst xs))
def FL.mono {c:Cl} (h:FL H a xs) (i:bX c H H'):FL H' a xs:=let #[o,e]:=h;#[o,i a _ e rfl]
def FL.sq (h:FL H a xs):cz K H a xs:=let #[o,e]:=h;.inl (.inr #[o,e])
def FL.inj (h:FL H a xs) (h':FL H a ys):xs=ys:=by
 obtain ⟨o,e⟩:=h;obtain ⟨o',e'⟩:=h';rw [e] at e';cases e';rfl
def Rz (cf:Addr) (E:XK) (H:Hp) (f:VaprbBase.Fault):= ∀dx,H dx=some (.xd (fF f.code f.place))->E (.ref cf) (some dx) H
def jo (cf:Addr) (E:XK) (H:Hp) (f:VaprbBase.Fault):= ∀H',aq H H'->Rz cf E H' f
def li (cf:Addr) (E:XK) (r:Addr) (H:Hp) (f:VaprbBase.Fault):= ∀H',Sb r H H'->Rz cf E H' f
def aN {α:Type} (cf:Addr) (E:XK) (H:Hp) (x:Except VaprbBase.Fault α) (ok:α->Prop):Prop:=match x with
 | .ok a=>ok a
 | .error f=>jo cf E H f
def aQ {α:Type} (cf:Addr) (E:XK) (r:Addr) (H:Hp) (x:Except VaprbBase.Fault α) (ok:α->Prop):Prop:=match x with
 | .ok a=>ok a
 | .error f=>li cf E r H f
section
variable {cf r:Addr} {E:XK} {f:VaprbBase.Fault}
def jo.go (h:jo cf E H f) (s:aq H H1):∀dx,H1 dx=none->E (.ref cf) (some dx) (upd H1 dx (.xd (fF f.code f.place))):=λdx n=>h _ (s.trans (aq.upd n)) dx aa
def li.go (h:li cf E r H f) (s:Sb r H H1):∀dx,H1 dx=none->E (.ref cf) (some dx) (upd H1 dx (.xd (fF f.code f.place))):=λdx n=>h _ (s.trans (aq.upd n).sb) dx aa
def jo.on (h:jo cf E H f) (s:aq H H1):jo cf E H1 f:=λH' s'=>h H' (s.trans s')
def li.on (h:li cf E r H f) (s:Sb r H H1):li cf E r H1 f:=λH' s'=>h H' (s.trans s')
def li.SW (h:li cf E r H f) (s:Sb r H H1):jo cf E H1 f:=λH' s'=>h H' (s.trans s'.sb)
end
def GI (mg:Str->Option Value) (x:Str) (i:Int):= ∃t,mg x=some (.int i t)
def GS (mg:Str->Option Value) (x:Str) (s:Str):= ∃t,mg x=some (.str s t)
def GR (mg:Str->Option Value) (x:Str) (a:Addr):=mg x=some (.ref a)
section
variable {a b:Expr}
def Rv {i:Int} (h:GI X.mg x i) (hg:Gl X x:=by rfl) (hd:(x == ("__debug__" :Str))=false:=by decide):PE X (.Name x pos) (tC (.int i)):=let #[t,e]:=h;w8 hg e #[t,rfl] hd
def ig {i:Str} (h:GS X.mg x i) (hg:Gl X x:=by rfl) (hd:(x == ("__debug__" :Str))=false:=by decide):PE X (.Name x pos) (tC (.str i)):=let #[t,e]:=h;w8 hg e #[t,rfl] hd
def fB {i:Addr} (h:GR X.mg x i) (hg:Gl X x:=by rfl) (hd:(x == ("__debug__" :Str))=false:=by decide):PE X (.Name x pos) (tC (.ref i)):=w8 hg h rfl hd
def xX (ha:PE X a ta) (he:∀whole,isTrue a X.env whole=(do let v<-whole;standAt a.pos;holding [v] (truthy v)):=by intro _;rfl):PT X a (NC ta):=by
 intro pins s σ H Q I h;refine IQ (ta:=λσ H Q=>ta σ H λx H'=> ∃k,x= .bl k/\Q (.bl k) H') ?_ he pins s σ H Q I ?_
 . intro pins s σ H Q I h;exact dX (ha pins s σ H _ I h) λu s1 #[v,H1,I1,r,k,e,q]=>#[v,H1,I1,r,e ▸ q]
 . have:∀(Q:Bool->Hp->Prop),(λx H'=> ∃k,x=V.bl k/\Q k H')=(λx H'=> ∃k,x=V.bl k/\∃k',OS X.K (V.bl k) H' k'/\Q k' H'):=λQ=>by
    funext x H';apply propext;constructor
    . rintro ⟨k,e,q⟩;exists k,e,k,U,q
    . rintro ⟨k,e,k',e',q⟩;exists k,e,by have e':k'=k:=e';rw [<-e'];exact q
   show ta σ H _;rw [<-this Q];exact h
def Bd (hu:X.A.units+1 < cLine):qh X (compareOp .In) (λx y H Q=> ∃a o,y= .ref a/\r9 H a x o/\Q (.bl o.isSome) H):=by
 intro pins s σ H x y v u Q I rx ry h;obtain ⟨a,o,rfl,g,q⟩:=h;obtain rfl:u=Value.ref a:=ry;exact Uj hu I g rx λs' I'=>#[.bl _,H,I',rfl,q]
def pI (hu:X.A.units+1 < cLine):qh X (compareOp .NotIn) (λx y H Q=> ∃a o,y= .ref a/\r9 H a x o/\Q (.bl (!o.isSome)) H):=by
 intro pins s σ H x y v u Q I rx ry h;obtain ⟨a,o,rfl,g,q⟩:=h;obtain rfl:u=Value.ref a:=ry;exact Md hu I g rx λs' I'=>#[.bl _,H,I',rfl,q]
def Rw:R2:=λx y H Q=> ∃l b xs zs,x= .ref l/\y= .ref b/\H l=some (.lst xs)/\Rd H b (.lst zs)/\xs.length+zs.length<=sizeLine/\∀p,H p=none->Q (.ref p) (upd H p (.lst (xs++zs)))
def xi:qh X (binaryOp .Add) Rw:=by
 intro pins s σ H x y v u Q I rx ry h;obtain ⟨l,b,xs,zs,rfl,rfl,hH,hB,hz,q⟩:=h;cases rx;cases ry;obtain ⟨z,bV,n,r,hl,e⟩:=I.L7 hH;obtain ⟨z2,its2,n2,r2,e2⟩:=hB.ok I.bQ;have hl2:=r2.length;refine PySem.P.add_list e e2 ?_ (by rw [cg,cg];omega);have ea:bV.toArray++its2.toArray=(bV++its2).toArray:=by simp
 rw [ea];exists .ref _,_,I.T3 (t':=s.toks) (r.append r2) (by rw [ao];omega),U,q _ I.fresh
def Mu:Tz X .Add (λx y H Q=> ∃i j,x= .str i/\y= .str j/\i.length+j.length<=sizeLine/\Q (.str (i++j)) H):=Cq
def nI:gh X (.builtin "isinstance") (λxs H Q=> ∃x t C b,xs= [x,.ref C]/\pX X.K H x t/\kitOne X.K t (.ref C)=some b/\Q (.bl b) H):=by
 intro pins s σ H xs us Q I r h;obtain ⟨x,t,C,b,rfl,ty,e,q⟩:=h;obtain ⟨u,w',rfl,r1,r2⟩:=vals2 r;obtain rfl:w'=Value.ref C:=r2;exact Ha I r1 ty e λtk=>#[.bl _,H,I.tok tk,rfl,q]
structure CD (K:Frag) (P:Program) (w:World) (a:Addr) (aG:List (Key×V)):Prop where
 ns:(a == sysModules)=false
 ex:∃(o:Obj) (es:Array DictEntry) (ep:Nat),K.lookup a=some o/\o.ExactDict/\o.data= .dict es ep/\KeysOf (cC P w) es/\∀k,ji (cy aG k) (findBy (cC P w).is es k)
def CD.map {ad:Addr} {aG:List (Key×V)} (d:CD K P w ad aG) (X:K.In h):∃f,h.MapOf (cC P w) ad f/\∀k,ji (cy aG k) (f k):=by
 obtain ⟨o,es,ep,lk,ed,dd,ks,r⟩:=d.ex;exists _,#[o,es,ep,X _ _ lk,ed,dd,ks,λ_=>U],r
def Be:qh X (compareOp .In) (λx y H Q=> ∃ad aG k,x=kV k/\y= .ref ad/\CD X.K X.prog X.w ad aG/\Q (.bl (cy aG k).isSome) H):=by
 intro pins s σ H x y v u Q I rx ry h;obtain ⟨ad,aG,k,rfl,rfl,d,q⟩:=h;obtain rfl:u=Value.ref ad:=ry;obtain ⟨f,m,r⟩:=d.map I.k6;refine wpAny_in_of (vM rx) d.ns m ?_;rw [<-(r k).i_];exists .bl _,H,I.tok _,U,q
def Pp (X:Cx) (td ty:TE):TE:=λσ H Q=>td σ H λx H1=>ty σ H1 λy H2=> ∃ad aG k v,x= .ref ad/\y=kV k/\CD X.K X.prog X.w ad aG/\cy aG k=some v/\Q v H2
def CU (ha:PE X a ta) (hb:PE X b tb) (hs:O8 b):PE X (.Subscript a b pos) (Pp X ta tb):=by
 intro pins s σ H Q I h;refine F7 zZ.lookup hs (dX (ha pins s σ H _ I h) λov s1 #[x,H1,I1,rx,q1]=>dX (hb pins s1 σ H1 _ I1 q1) λiv s2 #[y,H2,I2,ry,ad,aG,k,v,ex,ey,d,l,q2]=>?_);subst ex ey;obtain rfl:ov=Value.ref ad:=rx;obtain ⟨f,m,r⟩:=d.map I2.k6;obtain ⟨w',hw,IZ⟩:=ji.some_of (v:=v) (o:=f k) (by rw [<-l];exact r k);obtain ⟨o,es,ep,lk,ed,_⟩:=d.ex;exists #[o,I2.k6 _ _ lk,ed.1],wpAny_getItem_of (vM ry) m hw #[v,H2,I2.tok _,IZ,q2]
end
def fk (hK:X.K=K) {f:Str} (he:PE X e ta) (hb:attributeBase e f X.env (eval e X.env)=eval e X.env):PE X (.Attribute e f pos) (QX K ta f):=by
 subst hK;exact ca he hb
def Mv (hK:X.K=K):L6 X (Q1 K):=by
 subst hK;exact gu
def Hn (hK:X.K=K):gh X (.builtin "isinstance") (λxs H Q=> ∃x t C b,xs= [x,.ref C]/\pX K H x t/\kitOne K t (.ref C)=some b/\Q (.bl b) H):=by
 subst hK;exact nI
def As (hK:X.K=K):Lr X "list.index" (I_ K):=by
 subst hK;exact Ja
def Jr (hK:X.K=K) {o:Expr} {to:TE} {t:TA} {name:Str} {id:String} {r:V->List V->Hp->VK->Prop} (pa:PlainAttrs T) (slot:Slot T name id) (hty:typeOf (.builtin id)=pure (.type "method_descriptor")) (hm:Lr X id r) (ho:PE X o to) (ha:PA X (e :: es) t) (hbase:attributeBase o name X.env (eval o X.env)=eval o X.env:=by rfl) (hfew:((backTo eR (starEach (e :: es) X.env)).all (λx=>!x.1) && (backToKw eR (keywordEach [] X.env)).all (λx=>x.1.isSome)
 && decide ((e :: es).length+([]:List Keyword).length+(if ([]:List Keyword).isEmpty then 0 else 1) < 30))=true:=by rfl) (hline:(apos.endLine == eR.line)=true:=by rfl) (hs:starEach (e :: es) X.env=(false,eval e X.env) :: starEach es X.env:=by rfl) (hplain:(backTo eR (starEach es X.env)).any (·.1)=false:=by rfl):
 PE X (.Call (.Attribute o name apos) (e :: es) [] eR) (Vw K T r to t):=by
 subst hK;exact cJ hm ho ha pa slot hty hbase hfew hline hs hplain
def Gh (N:Nat) {tb:TS} (Pv:Nat->St->Hp->Prop) (h0:Pv 0 σ H) (hgo:∀i σ H,i < N->Pv i σ H->J.go i H) (fU:∀σ H,Pv N σ H->J.stop N H) (hs:∀i x σ H H',i < N->Pv i σ H->J.D6 i H x H'->g x σ H' λσ2 H2=>tb {D with nx:=Pv (i+1),ct:=Pv (i+1),bk:=D.nx} σ2 H2) (hd:∀σ H,Pv N σ H->D.nx σ H):
 ∃W:Nat->Nat->St->Hp->Prop,(∃m,W 0 m σ H)/\∀i m σ H,W i m σ H->
  (J.stop i H/\D.nx σ H)\/(J.go i H/\∃N:St->Hp->Prop,(∀σ' H',N σ' H'->∃m',m' < m/\W (i+1) m' σ' H')/\∀x H',J.D6 i H x H'->g x σ H' λσ2 H2=>tb {D with nx:=N,ct:=N,bk:=D.nx} σ2 H2):=by
 exists λi m σ H=>m=N - i/\i<=N/\Pv i σ H,#[N,U,aD _,h0],?_;rintro i m σ H ⟨rfl,hi,p⟩;by_cases gZ:i < N
 . exact .inr #[hgo i σ H gZ p,Pv (i+1),λσ' H' p'=>#[N - (i+1),by omega,rfl,gZ,p'],λx H' y=>hs i x σ H H' gZ p y]
 . have e:i=N:=by omega
   subst e;exact .inl #[fU σ H p,hd σ H p]
def Bf {tb:TS} (Pv:Nat->St->Hp->Prop) (h0:Pv 0 σ H) (hxy:xs.length=ys.length) (hl:∀i σ H,Pv i σ H->cz K H a xs/\cz K H b ys) (hs:∀i x y T σ H,xs[i]? = some x->ys[i]? = some y->Pv i σ H->H T=none->g (.ref T) σ (upd H T (.tup [x,y])) λσ2 H2=>tb {D with nx:=Pv (i+1),ct:=Pv (i+1),bk:=D.nx} σ2 H2) (hd:∀σ H,Pv xs.length σ H->D.nx σ H):
 ∃W:Nat->Nat->St->Hp->Prop,(∃m,W 0 m σ H)/\∀i m σ H,W i m σ H->
  ((Rf K a b).stop i H/\D.nx σ H)\/((Rf K a b).go i H/\∃N:St->Hp->Prop,(∀σ' H',N σ' H'->∃m',m' < m/\W (i+1) m' σ' H')/\∀x H',(Rf K a b).D6 i H x H'->g x σ H' λσ2 H2=>tb {D with nx:=N,ct:=N,bk:=D.nx} σ2 H2):=by
 refine Gh xs.length Pv h0 (λi σ H hi p=>?_) (λσ H p=>?_) (λi x σ H H' hi p y=>?_) hd
 . exists xs,ys,xs[i],ys[i]'(by omega),(hl i σ H p).1,(hl i σ H p).2,bB hi,bB (by omega)
 . exists xs,ys,(hl _ σ H p).1,(hl _ σ H p).2,.inl (aw _)
 . obtain ⟨T,x1,y1,rfl,hT,rfl,h1,h2⟩:=y;exact hs i x1 y1 T σ H (h1 xs (hl i σ H p).1) (h2 ys (hl i σ H p).2) p hT
def Js (N:Nat) {vs:List Nat} {D:Addr} (Pv:Nat->Hp->Prop) (h0:Pv 0 (upd H1 D (.lst []))) (hgo:∀i H,i < N->Pv i H->J.go i H) (fU:∀H,Pv N H->J.stop N H) (hs:∀i x H H',i < N->Pv i H->J.D6 i H x H'->g x (wipe σ vs) H' λσ2 H2=>wipe σ2 vs=wipe σ vs/\tt σ2 H2 λb H3=>
 if b=true then te σ2 H3 λy H4=> ∃acc,H4 D=some (.lst acc)/\acc.length < sizeLine/\Pv (i+1) (upd H4 D (.lst (acc++ [y]))) else Pv (i+1) H3) (hd:∀H,Pv N H->Qd H):
 ∃W:Nat->Nat->Hp->Prop,(∃m,W 0 m (upd H1 D (.lst [])))/\∀i m H,W i m H->
  (J.stop i H/\Qd H)\/(J.go i H/\∃Nx:Hp->Prop,(∀H',Nx H'->∃m',m' < m/\W (i+1) m' H')/\∀x H',J.D6 i H x H'->g x (wipe σ vs) H' λσ2 H2=>wipe σ2 vs=wipe σ vs/\tt σ2 H2 λb H3=>
   if b=true then te σ2 H3 λy H4=> ∃acc,H4 D=some (.lst acc)/\acc.length < sizeLine/\Nx (upd H4 D (.lst (acc++ [y]))) else Nx H3):=by
 exists λi m H=>m=N - i/\i<=N/\Pv i H,#[N,U,aD _,h0],?_;rintro i m H ⟨rfl,hi,p⟩;by_cases gZ:i < N
 . exact .inr #[hgo i H gZ p,Pv (i+1),λH' p'=>#[N - (i+1),by omega,rfl,gZ,p'],λx H' y=>hs i x H H' gZ p y]
 . have e:i=N:=by omega
   subst e;exact .inl #[fU H p,hd H p]
def Gi (hK:X.K=K) {k:Nat} {t:NA} (hc:X.calm=true) (h:QO X es t) (hn:(assignEach es X.env).length=n:=by rfl) (fU:(assignEach es X.env).findIdx? (·.1)=none:=by rfl):PG X (.Tuple es k pos) (QR K n t):=by
 subst hK;exact AX hc h hn fU
def Jt {vs:List Nat} {D:Addr} (ys:List V) (UB:ys.length=x.cps.size) (hD:H1 D=none) (hz:x.cps.size<=sizeLine) (hs:∀(i:Nat) cc y H (R:VK),x.cps[i]? = some cc->ys[i]? = some y->aq H1 H->R y H->g (.str ⟨(List.toArray [cc])⟩) (wipe σ vs) H λσ2 H2=>wipe σ2 vs=wipe σ vs/\te σ2 H2 R) (hd:∀H,aq H1 H->H D=some (.lst ys)->Qd H):
 ∃W:Nat->Nat->Hp->Prop,(∃m,W 0 m (upd H1 D (.lst [])))/\∀i m H,W i m H->
  ((Its x).stop i H/\Qd H)\/((Its x).go i H/\∃Nx:Hp->Prop,(∀H',Nx H'->∃m',m' < m/\W (i+1) m' H')/\∀v H',(Its x).D6 i H v H'->g v (wipe σ vs) H' λσ2 H2=>wipe σ2 vs=wipe σ vs/\Hb σ2 H2 λb H3=>
   if b=true then te σ2 H3 λy H4=> ∃acc,H4 D=some (.lst acc)/\acc.length < sizeLine/\Nx (upd H4 D (.lst (acc++ [y]))) else Nx H3):=by
 refine Js x.cps.size (λi H=>aq H1 H/\H D=some (.lst (ys.take i))) #[aq.upd hD,aa] (λi H hi _=>hi) (λH _=>aw _) (λi v H H' hi p y=>?_) λH p=>?_
 . obtain ⟨rfl,cc,hc,rfl⟩:=y;have hiy:i < ys.length:=by omega
   refine hs i cc ys[i] H' (λy H4=> ∃acc,H4 D=some (.lst acc)/\acc.length < sizeLine/\(aq H1 (upd H4 D (.lst (acc++ [y])))/\(upd H4 D (.lst (acc++ [y]))) D=some (.lst (ys.take (i+1))))) hc (bB hiy) p.1 ?_;exists ys.take i,p.2,by rw [hJ];omega,p.1.bM hD,?_;rw [aa,ef hiy]
 . obtain ⟨s,e⟩:=p;rw [<-UB,cM] at e;exact hd H s e
end L2
section
namespace M0
open VaprbBase Vaprbb
def uW {l:Bytes} {t:Tok} {k:Nat} (h:token l=some (t,k)):1<=k/\k<=l.length:=by
 unfold token at h;split at h
 . cases h
 . rename_i b r;split at h
   . rename_i hb;simp only at h;split at h
     . cases h
     . cases h;constructor
       . rw [m5 (by simp [hb])];simp
       . exact (ua _).length_le
   . split at h
     . rename_i hb hd;rw [gm] at h;obtain ⟨n,_,e⟩:=h;cases e;constructor
       . rw [m5 (by simp [hd])];simp
       . exact (ua _).length_le
     . split at h
       . split at h
         . rename_i hh;cases h;exists by omega,?_;cases r with
           | nil=>simp at hh
           | cons c r=>simp
         . rw [gm] at h;obtain ⟨n,_,e⟩:=h;cases e;have:=(ua (l:=r) isDigit).length_le;simp only [aT];omega
       . split at h
         . cases h;simp
         . cases h
def lj:∀(m n:Nat) (p:Nat) (l:Bytes),l.length < m->l.length < n->lex m p l=lex n p l
 | 0,_,_,_,h,_=>by omega
 | _,0,_,_,_,h=>by omega
 | m+1,n+1,p,[],_,_=>rfl
 | m+1,n+1,p,b :: r,hm,hn=>by
  have lr:(b :: r).length=r.length+1:=rfl;unfold lex;split
  . exact lj m n _ _ (by omega) (by omega)
  . split
    . have:=(z6 (l:=r) (λx=>x != 10)).length_le;exact lj m n _ _ (by omega) (by omega)
    . split
      . rfl
      . rename_i t k e;have hk:=uW e;have hd:((b :: r).drop k).length < m/\((b :: r).drop k).length < n:=by
         rw [cT];omega
        rw [lj m n _ _ hd.1 hd.2]
def nJ (b:Bytes) (p:Nat):Except Fault Toks:=lex (b.length - p+1) p (b.drop p)
def Ju (b:Bytes) (p:Nat) (h:p=b.length):nJ b p= .ok [#[p,.halt_]]:=by
 subst h;unfold nJ;rw [fK];rfl
def Ho (b:Bytes) (h:¬TEXT < b.length):tokens b=nJ b 0:=by
 unfold tokens nJ;rw [ae h];rfl
def Gj {b:Bytes} {p:Nat} {c:UInt8} {r:Bytes} (e:b.drop p=c :: r):nJ b p=
 if isBlank c=true then nJ b (p+1)
 else if c == 35 then nJ b (p+1+(r.takeWhile (· != 10)).length)
 else match token (b.drop p) with
  | none=> .error #[2,p]
  | some (t,k)=>(nJ b (p+k)).map λl=>#[p,t] :: l:=by
 have hl:b.length - p=r.length+1:=by rw [<-cT,e];rfl
 have hr:b.drop (p+1)=r:=by rw [<-fM,e];rfl
 unfold nJ;rw [e,hl];show lex (r.length+1+1) p (c :: r)=_;rw [lex];split
 . rw [hr];exact lj _ _ _ _ (by omega) (by omega)
 . split
   . have hd:b.drop (p+1+(r.takeWhile (· != 10)).length)=r.dropWhile (· != 10):=by
      rw [<-fM,hr];have q:=List.drop_left (l₁:=r.takeWhile (λx=>x != 10)) (l₂:=r.dropWhile (λx=>x != 10));rw [zT] at q;exact q
     rw [hd];have h1:=(z6 (l:=r) (λx=>x != 10)).length_le;have h2:(r.takeWhile (λx=>x != 10)).length+(r.dropWhile (λx=>x != 10)).length=r.length:=by
      rw [<-ao,zT]
     exact lj _ _ _ _ (by omega) (by omega)
   . cases q:token (c :: r) with
     | none=>rfl
     | some x=>
      obtain ⟨t,k⟩:=x;have hk:=uW q;have hd:b.drop (p+k)=(c :: r).drop k:=by rw [<-fM,e]
      simp only;rw [hd,lj (r.length+1) (b.length - (p+k)+1) _ _ (by rw [cT];simp only [aT] at hk ⊢;omega) (by rw [cT];simp only [aT] at hk ⊢;omega)]
end M0
end
namespace Lot
open PySem Spec PyProof.Rows L2
open PySem.W (Frag)
open PySem.W (kitOne fnOf)
open Vaprbb (State Reader unNames binNames exprOf put mentions reachedFrom recursive byNumber letExpr index readExpr Answer faulty)
open VaprbBase (SIGNS NAME lex TEXT RESERVED takeWord)
open VaprbbNeutral (natural bytes? asked)
open PyVaprbb (whole answers answers_asked)
open PyFlat (rows row played told atMost)
open VaprbBase (isDigit isLetter isBlank token numberOf decimal PTok Toks Fault word next take takeNum takeName takeKind takeFrac takeWeight takeChance frac Frac wrong here PName nameNext showNat showInt joined showFrac showVal showKind tokens textRow)
open Vaprbb (takeArgs takeWays takeExpr takeSpecial takeCall takeBounds inOne inTwo inThree exprNext unOf binOf unName binName takeDecl takeParams takeFun takeFuns takeStm takeStms takeTells takeBudget takeProg Decl Stm Prog named declsRight funsRight stmsRight tellsRight namesRight kindOf kindsOf aroundAll around argsHeld held numKind unKind binKind bothAre isNum alike numOp mulKind Un Bin funsKinds stmsKinds funEnv letNames renamed showExpr showFun showStm showDecl read kindRow listRow numbersOf letsAnswer funsAnswer kindAnswer sameAnswer looked)
open VaprbbNeutral (encode callOf asked1)
open PyVaprbb (shape)
variable {K:Frag} {a D dx r cf tk fI fN:Addr} {xs:List V} {A B:Prop} {c:Cl} {H H' H1:Hp} {te:TE} {n i j q pl:Nat} {v v1 v2 v3 v4 v5:V} {α β γ:Type} {x:UInt8} {p:Prog} {Q:VK} {E:XK} {vs:List Nat} {σ:L2.St} {Qd:Hp->Prop} {l l':Toks} {t:PTok} {w:World} {o:HO} {u:Unit} {aG:List (Key×V)} {st:State} {P:Program} {mg:Str->Option Value} {base:Heap} {D8 Ls:Value} {D9 Lv:Scope}
abbrev Kd:=VaprbBase.Kind
variable {k:Kd} {ks:List Kd}
abbrev Bytes:=VaprbBase.Bytes
variable {b:Bytes} {scope cY N1 N2:List Bytes} {xn fn:Bytes->Bytes}
def top (i:Nat):Stmt:=Challenge.pw_lotprograms_s01_answers.main.body.getD i (.Pass #[0,0,0,0])
structure VH (K:Frag) (mg:Str->Option Value) (x:Str) (st:Stmt) (f:Addr) (fd:FuncData):Prop where
 fn:Fun K x x st f fd
 mg:mg x=some (.ref f)
structure Ev (K:Frag) (mg:Str->Option Value) (x q:Str) (C:Addr) (st:Stmt) (f:Addr) (fd:FuncData):Prop where
 fn:Fun K "__init__" q st f fd
 VI:Mk K C f
 mg:mg x=some (.ref C)
structure Jv (K:Frag) (m q:Str) (C:Addr) (st:Stmt) (f:Addr) (fd:FuncData):Prop where
 fn:Fun K m q st f fd
 cl:ku K C
 me:Meth K C m f
structure GA where
 (flag blanks signs reserved truths builtin ops takes gives:Addr)
variable {g:GA}
def aR (b:Bytes):Str:=⟨(b.map (·.toNat)).toArray⟩
def jR (l:List String):List V:=l.map λx=>V.str (Str.ofString x)
def wB:List (Key×V):= [("neg",1),("abs",1),("not",1),("add",2),("sub",2),("mul",2),("min",2),("max",2),("lt",2),("le",2),("eq",2),("and",2),("or",2)].map λ(x:String×Int)=>(.inr (Str.ofString x.1),V.int x.2)
def uX:List (Key×V):= [(61,"="),(123,"{"),(125,"}"),(40,"("),(41,")"),(91,"["),(93,"]"),(44,","),(59,";"),(58,":"),(47,"/"),(124,"|")].map λ(x:Int×String)=>(.inl x.1,V.str (Str.ofString x.2))
def KT (K:Frag) (a:Addr) (xs:List V):= ∃(o:Obj) (bV:Array Value) (n:Nat),K.lookup a=some o/\o.cls= .type "tuple" /\o.data= .seq bV n/\bV.size<=sizeLine/\Vals xs bV.toList
def KT.sq (h:KT K a xs) (H:Hp):gS K H a xs:= .inr h
structure GT (P:Program) (w:World) (K:Frag) (mg:Str->Option Value) (g:GA):Prop where
 jS:GI mg "FLAG_SORT" 0
 jp:GI mg "NUM_SORT" 1
 Bg:GI mg "LEAST" (-1000)
 md:GI mg "GREATEST" 1000
 xY:GI mg "WIDEST" 63
 gy:GI mg "LONGEST_TEXT" 4096
 nM:GI mg "LONGEST_WORD" 16
 jT:GI mg "GREATEST_NUMBER" 1000000000
 qk:GI mg "MOST_DIGITS" 10
 At:GI mg "ROW_END" 10
 Ew:GI mg "HASH" 35
 Gk:GI mg "MINUS" 45
 Au:GI mg "GREATER" 62
 uY:GI mg "ZERO" 48
 pJ:GI mg "GREAT_A" 65
 pK:GI mg "SMALL_A" 97
 xZ:GS mg "DIGITS" "0123456789"
 iH:GS mg "GREAT_LETTERS" "ABCDEFGHIJKLMNOPQRSTUVWXYZ"
 iI:GS mg "SMALL_LETTERS" "abcdefghijklmnopqrstuvwxyz"
 Ey:GS mg "WORD" "word"
 nO:GS mg "NUMBER" "number"
 Ez:GS mg "SIGN" "sign"
 Jw:GS mg "END" "end"
 uZ:GI mg "DEEPEST" 24
 lm:GI mg "MOST_ARGUMENTS" 4
 vN:GI mg "MOST_WAYS" 8
 jU:GI mg "GREATEST_BUDGET" 20
 lq:GI mg "MOST_FUNCTIONS" 8
 jV:GI mg "MOST_PARAMETERS" 4
 jW:GI mg "MOST_STATEMENTS" 32
 vO:GI mg "MOST_TOLD" 6
 ql:GS mg "PLAIN_TITLE" "P"
 EA:GI mg "LOAD" 0
 Gm:GI mg "SHOWN" 1
 Gn:GI mg "SIZES" 2
 EB:GI mg "LETS" 3
 EC:GI mg "FUNS" 4
 ED:GI mg "KIND" 5
 CV:GI mg "POINTS" 6
 Go:GI mg "TELLS" 7
 Gp:GI mg "PLAIN" 8
 Jx:GI mg "SAME" 9
 vP:GI mg "NONE_HELD" (-1)
 u0:GI mg "NO_SUCH" (-2)
 sk:GI mg "NO_PROGRAM" (-4)
 x3:GR mg "FLAG" g.flag
 CW:GR mg "BLANKS" g.blanks
 gT:GR mg "ONE_BYTE_SIGNS" g.signs
 x4:GR mg "RESERVED" g.reserved
 x5:GR mg "TRUTHS" g.truths
 qL:GR mg "BUILT_IN" g.builtin
 iT:GR mg "OPERATIONS" g.ops
 qm:GR mg "TAKES_FLAGS" g.takes
 sm:GR mg "GIVES_FLAG" g.gives
 qM:KT K g.flag [.int 0]
 CY:KT K g.blanks [.int 32,.int 9,.int 10]
 x6:KT K g.reserved (jR ["chance","budget","def","let","observe","tell","table","net","flag","num","if","flip","pick","uniform","given","weigh","true","false"])
 x8:KT K g.truths (jR ["true","false"])
 qN:KT K g.builtin (jR ["if","flip","pick","uniform","given","weigh"])
 qo:KT K g.takes (jR ["not","and","or"])
 so:KT K g.gives (jR ["not","and","or","lt","le","eq"])
 Bh:CD K P w g.signs uX
 CZ:CD K P w g.ops wB
 NQ:mg "len" = none
 sr:mg "isinstance" = none
 NR:mg "abs" = none
 NS:mg "ord" = none
 NT:mg "min" = none
 NU:mg "max" = none
 NV:mg "all" = none
 NW:mg "str" = none
 Jy:mg "list" = none
 Jz:mg "dict" = none
 NX:mg "zip" = none
 vQ:mg "enumerate" = none
 Gq:mg "range" = none
def kT:Kd->List V
 | .flag=> [.int 0]
 | .num lo hi=> [.int 1,.int lo,.int hi]
def C1:Kd->Int
 | .flag=>0
 | .num _ _=>1
def UC (k:Kd):Eo (kT k) 0=some (.int (C1 k)):=by cases k <;> rfl
def pL (k:Kd):Vaprbb.isNum k=decide (C1 k=1):=by cases k <;> rfl
def u9 (k l:Kd):Vaprbb.alike k l=decide (C1 k=C1 l):=by cases k <;> cases l <;> rfl
def x9 (a1 b1 a2 b2:Int) (pl:Nat):Vaprbb.held (.num a1 b1) (.num a2 b2) pl=if a2<=a1/\b1<=b2 then .ok () else .error #[14,pl]:=by
 unfold Vaprbb.held;rw [ae (show¬Vaprbb.alike (.num a1 b1) (.num a2 b2)=false from Bool.noConfusion)];show (if decide (a2<=a1/\b1<=b2)=true then _ else _)=_;simp only [dr]
def fV (p:Nat) (lo hi:Int):Vaprbb.numKind p lo hi=if lo < -1000\/1000 < hi\/lo+63 < hi then .error #[9,p] else .ok (.num lo hi):=rfl
def dG {m:Nat} {Pv:Nat->L2.St->Hp->Prop} {T:(L2.St->Hp->Prop)->Prop} (h:T λσ' H'=> ∃m',m' < m/\Pv m' σ' H'):∃N:L2.St->Hp->Prop,(∀σ' H',N σ' H'->∃m',m' < m/\Pv m' σ' H')/\T N:=#[_,λ_ _ z=>z,h]
def bG {b:Bool} (h1:b=true->A) (h2:b=false->B):if b=true then A else B:=by cases b <;> simp_all
def formOf:VaprbBase.Tok->Str
 | .name _=> "word"
 | .num _=> "number"
 | .sign _=> "sign"
 | .halt_=> "end"
def wordOf:VaprbBase.Tok->Str
 | .name b=>aR b
 | .num _=> ""
 | .sign n=>if n=1 then "->" else ⟨(List.toArray [n])⟩
 | .halt_=> ""
def numOf:VaprbBase.Tok->Int
 | .num n=>n
 | _=>0
def tokF (t:VaprbBase.PTok) (bh:Int):List (Str×V):= [("form",.str (formOf t.tok)),("word",.str (wordOf t.tok)),("number",.int (numOf t.tok)),("place",.int t.place),("behind",.int bh)]
def x_ (c:Cl) (H:Hp) (a:Addr) (t:VaprbBase.PTok) (bh:Int):= ∃dx,H a=some (.ins c.tok dx (tokF t bh))
structure CT (K:Frag) (c:Cl):Prop where
 tok:ku K c.tok
 JA:∀f:Str,f∈(["form","word","number","place","behind"]:List Str)->dg K c.tok f
 NY:Y c (.ins c.tok 0 [])=true
 rd:ku K c.rd
 Pq:∀f:Str,f∈(["tokens","taken"]:List Str)->dg K c.rd f
 ex:ku K c.ex
 Pt:∀f:Str,f∈(["form","word","number","place","parts","fractions","bounds"]:List Str)->dg K c.ex f
 Ry:Y c (.ins c.ex 0 [])=true
 par:ku K c.par
 NZ:∀f:Str,f∈(["name","place","kind"]:List Str)->dg K c.par f
 N0:Y c (.ins c.par 0 [])=true
 fn:ku K c.fn
 RA:∀f:Str,f∈(["name","place","parameters","kind","body"]:List Str)->dg K c.fn f
 Pu:Y c (.ins c.fn 0 [])=true
 lh:ku K c.lh
 JB:∀f:Str,f∈(["name","place","written","expression"]:List Str)->dg K c.lh f
 JC:Y c (.ins c.lh 0 [])=true
 obs:ku K c.obs
 N4:∀f:Str,f∈(["expression"]:List Str)->dg K c.obs f
 N5:Y c (.ins c.obs 0 [])=true
 prog:ku K c.prog
 JD:∀f:Str,f∈(["title","budget","functions","statements","told"]:List Str)->dg K c.prog f
 JE:Y c (.ins c.prog 0 [])=true
 Gg:ku K c.Gg
 N6:∀f:Str,f∈(["title","lets","functions","parameters"]:List Str)->dg K c.Gg f
 RB:Y c (.ins c.Gg 0 [])=true
 call:ku K c.call
 JF:∀f:Str,f∈(["number","asked","text"]:List Str)->dg K c.call f
 JG:Y c (.ins c.call 0 [])=true
 ld:ku K c.ld
 RC:∀f:Str,f∈(["program","let_kinds","form_bytes","plain_bytes","let_names","function_names","called"]:List Str)->dg K c.ld f
 RD:Y c (.ins c.ld 0 [])=true
 hold:ku K c.hold
 JH:∀f:Str,f∈(["loaded"]:List Str)->dg K c.hold f
 u_:∀(H:Hp) (a dx:Addr) (fs:List (Str×V)),H a=some (.ins c.lh dx fs)->pX K H (.ref a) (.ref c.lh)
 va:∀(H:Hp) (a dx:Addr) (fs:List (Str×V)),H a=some (.ins c.obs dx fs)->pX K H (.ref a) (.ref c.obs)
 pM:kitOne K (.ref c.lh) (.ref c.lh)=some true
 pN:kitOne K (.ref c.obs) (.ref c.lh)=some false
def x_.mono {t:VaprbBase.PTok} {bh:Int} (C:CT K c) (h:x_ c H a t bh) (i:bX c H H'):x_ c H' a t bh:=let #[dx,e]:=h;#[dx,i a _ e C.NY]
section
variable {X:Cx} {e:Expr} {pos:Pos}
def pU (ha:PE X e te) (hs:starEach [e] X.env=(false,eval e X.env) :: starEach [] X.env:=by rfl):PA X [e] (IV te Ej):=aI ha xK hs
def jJ (h:n<=5:=by exact fH rfl):n<=sizeLine:=aP h (by decide)
def rF (he:PE X e te):PS X (.Return (some e) pos) (QM (Ru te)):=qH (di he)
def iF {c:Expr} {a:List Stmt} {tc:TT} {t:TS} (hc:PT X c tc) (ha:rQ X a t):PS X (.If c a [] pos) (QN tc t Ny):=Nz hc ha FQ
end
section
variable {K':Frag} {fs:List (Str×V)} {f:Str}
def fr {R:Addr->Addr->Addr->List (Str×V)->V->Prop} (h:H a=some (.ins D dx fs)) (l:fs.lookup f=some v) (q:R a D dx fs v) (k:ku K' D/\dg K' D f:=by walk_at "k") (e:K'=K:=by rfl):∃a' C dx fs' v,V.ref a= .ref a'/\H a'=some (.ins C dx fs')/\ku K C/\dg K C f/\fs'.lookup f=some v/\R a' C dx fs' v:=by subst e;exists a,D,dx,fs,v,U,h,k.1,k.2,l,q
def fw {R:Addr->Addr->Addr->List (Str×V)->Prop} (h:H a=some (.ins D dx fs)) (q:R a D dx fs) (k:ku K' D/\dg K' D f:=by walk_at "k") (e:K'=K:=by rfl) (l:fs.length < 1000:=by exact fH rfl):∃a' C dx fs',V.ref a= .ref a'/\H a'=some (.ins C dx fs')/\ku K C/\dg K C f/\fs'.length < 1000/\R a' C dx fs':=by subst e;exists a,D,dx,fs,U,h,k.1,k.2,l,q
end
def fns:List (Str×Nat×Addr):=("num_kind",9,42)::("sort_of",10,49)::("low_of",11,56)::("high_of",12,63)::("need_sort",13,70)::("hold_against",14,77)::("bounded_num",15,84)::("fitting_num",16,91)::("is_digit",51,272)::("is_great_letter",52,279)::("is_small_letter",53,286)::("is_letter",54,293)::("sign_of_byte",55,300)::("row_end",58,321)::("behind_blanks",57,314)::("number_at",62,347)::("minus_at",61,340)::("word_at",60,333)::("token_at",59,328)::("tokens_of",56,307)::("is_name",50,265)::("lowest_terms",67,445)::("read_kind",65,431)::("read_fraction",66,438)::("read_weight",68,452)::("read_share",69,459)::("begins_expression",77,469)::("refuse_more",83,511)::("read_parts",81,497)::("read_arguments",82,504)::("read_flip",84,518)::("read_uniform",85,525)::("read_weigh",86,532)::("read_way",88,546)::("read_pick",87,539)::("read_built_in",80,490)::("read_expression",79,483)::("refuse_more_names",101,595)::("read_budget",96,560)::("read_parameter",100,588)::("read_parameters",99,581)::("read_function",98,574)::("read_functions",97,567)::("read_statement",103,609)::("read_statements",102,602)::("read_told",104,616)::("read_program",95,553)::("read_lone_expression",78,476)::("within",26,234)::("lets_of",24,222)::("expressions_of",25,227)::("functions_by_name",107,630)::("check_weights",114,677)::("check_call",113,672)::("check_expression",112,665)::("check_told",111,658)::("checked_parameters",109,644)::("check_functions",108,637)::("check_statements",110,651)::("check_names",106,623)::("sort_taken",126,738)::("ends_of_one",127,745)::("ends_of_two",128,752)::("joined_kind",123,717)::("kind_of_call",124,724)::("kind_of_operation",125,731)::("kind_behind_question",122,710)::("kind_of",121,705)::("kind_of_let",120,700)::("check_statement_kinds",119,693)::("check_kinds",118,686)::("numbers_met",132,771)::("mentioned_in",130,759)::("called_in",131,766)::("ways_of",135,792)::("points_of",134,785)::("is_recursive",133,778)::("let_names",141,828)::("function_names",142,833)::("parameter_names",143,838)::("kept",144,843)::("numbered",145,848)::("own_names",139,818)::("names_by_number",140,823)::("kind_text",150,872)::("fraction_text",151,879)::("texts_in_brackets",153,891)::("expression_text",152,886)::("function_text",148,858)::("statement_text",149,865)::("one_form",147,853)::("counted",190,1090)::("name_numbers",191,1095)::("shown",179,1015)::("plain",187,1069)::("sizes",180,1022)::("has_text",173,973)::("has_number",174,980)::("tells",186,1062)::("points",185,1057)::("lets",181,1029)::("funs",182,1036)::("loaded_from",178,1008)::("kind_of_text",184,1050)::("load",177,1001)::("kind",183,1043)::("same",188,1076)::("answer_of_held",176,994)::("answer_to",175,987)::("calls_in",172,966)::("answers",171,959)::[]
def Bi [BEq α] [LawfulBEq α] {x:α} {y:β}:∀{l:List (α×β)},l.lookup x=some y->(x,y)∈l
 | (a,b) :: l,h=>by
  rw [eO] at h;cases e:x == a with
  | true=>rw [e] at h;cases h;rw [bO.mp e];exact bi
  | false=>rw [e] at h;exact aW _ (Bi h)
structure kh (P:Program) (w:World) (K:Frag) (mg:Str->Option Value) (base:Heap) (c:Cl) (g:GA) (fI:Addr) (D8:Value) (D9:Scope) (fN:Addr) (Ls:Value) (Lv:Scope):Prop where
 T:GT P w K mg g
 C:CT K c
 FT:Flt K mg c.cf fI D8 D9
 FN:Mm K mg fN Ls Lv
 Av:GR mg "Let" c.lh
 fn:∀p∈fns,∃fd,VH K mg p.1 (top p.2.1) p.2.2 fd
 ls:∃f fd,Ev K mg "Token" "Token.__init__" c.tok (inClass (top 49) 0) f fd
 jX:∃f fd,Ev K mg "Reader" "Reader.__init__" c.rd (inClass (top 64) 0) f fd
 nP:∃f fd,Jv K "ahead" "Reader.ahead" c.rd (inClass (top 64) 1) f fd
 qt:∃f fd,Jv K "take" "Reader.take" c.rd (inClass (top 64) 2) f fd
 qu:∃f fd,Jv K "sees" "Reader.sees" c.rd (inClass (top 64) 3) f fd
 mH:∃f fd,Jv K "passes" "Reader.passes" c.rd (inClass (top 64) 4) f fd
 qw:∃f fd,Jv K "need" "Reader.need" c.rd (inClass (top 64) 5) f fd
 jq:∃f fd,Jv K "need_name" "Reader.need_name" c.rd (inClass (top 64) 6) f fd
 ik:∃f fd,Jv K "need_number" "Reader.need_number" c.rd (inClass (top 64) 7) f fd
 jY:∃f fd,Jv K "need_end" "Reader.need_end" c.rd (inClass (top 64) 8) f fd
 gM:∃f fd,Ev K mg "Expression" "Expression.__init__" c.ex (inClass (top 18) 0) f fd
 il:∃f fd,Ev K mg "Parameter" "Parameter.__init__" c.par (inClass (top 19) 0) f fd
 iO:∃f fd,Ev K mg "Function" "Function.__init__" c.fn (inClass (top 20) 0) f fd
 nQ:∃f fd,Ev K mg "Let" "Let.__init__" c.lh (inClass (top 21) 0) f fd
 jr:∃f fd,Ev K mg "Observe" "Observe.__init__" c.obs (inClass (top 22) 0) f fd
 jt:∃f fd,Ev K mg "Program" "Program.__init__" c.prog (inClass (top 23) 0) f fd
 jZ:∃f fd,Ev K mg "Naming" "Naming.__init__" c.Gg (inClass (top 138) 0) f fd
 mI:∃f fd,Ev K mg "Call" "Call.__init__" c.call (inClass (top 168) 0) f fd
 j0:∃f fd,Ev K mg "Holder" "Holder.__init__" c.hold (inClass (top 170) 0) f fd
 j2:∃f fd,Ev K mg "Loaded" "Loaded.__init__" c.ld (inClass (top 169) 0) f fd
abbrev SP:=Frag->Cl->Sp
section
abbrev kh.h0 (_A:kh P w K mg base c g fI D8 D9 fN Ls Lv) (k:Nat) (x:Str) (ps:List Str) (sp:SP):=Mt P w K mg base CL k x ps (sp K c)
abbrev kh.c0 (_A:kh P w K mg base c g fI D8 D9 fN Ls Lv) (k:Nat) (C:Addr) (x:Str) (ps:List Str) (sp:SP):=Eu P w K mg base CL k C x ps (sp K c)
abbrev kh.m0 (_A:kh P w K mg base c g fI D8 D9 fN Ls Lv) (k:Nat) (C:Addr) (x:Str) (ps:List Str) (sp:SP):=Et P w K mg base CL k C x ps (sp K c)
abbrev kh.hF (_A:kh P w K mg base c g fI D8 D9 fN Ls Lv) (k:Nat) (x:Str) (ps:List Str) (sp:SP):=Mt P w K mg base (zy P w c.cf) k x ps (sp K c)
abbrev kh.cF (_A:kh P w K mg base c g fI D8 D9 fN Ls Lv) (k:Nat) (C:Addr) (x:Str) (ps:List Str) (sp:SP):=Eu P w K mg base (zy P w c.cf) k C x ps (sp K c)
abbrev kh.mF (_A:kh P w K mg base c g fI D8 D9 fN Ls Lv) (k:Nat) (C:Addr) (x:Str) (ps:List Str) (sp:SP):=Et P w K mg base (zy P w c.cf) k C x ps (sp K c)
variable (AA:kh P w K mg base c g fI D8 D9 fN Ls Lv) {N ps:List Str} {k:Nat} {sp:SP} {f0 C0:Addr} {x q:Str} {st:Stmt}
def kh.n0 (body:∀{f:Addr} {eA:Value} {A:Around} {outer:List Env} {s:Shared} {vs:List V} (_:GT P w K mg g) (_:CT K c) (_:Flt K mg c.cf fI D8 D9) (H:Hp) (Q:VK) (E:XK),N.Nodup->dn k (A.deeper (envOfC x (aX (top i)) s.heap.objs.size f eA))->sp K c vs H Q E->∃t,rQ (jL CL P w K mg base N x (aX (top i)) f eA A outer s H E).FP (cS (top i)) t/\t {nx:=λ_ H'=>Q .cp H',rt:=Q} (start N vs) H) (hl:fns.lookup x=some (i,f0):=by rfl) (b:∀(kV doc pm:Value) (an:Option Addr) (eA ct:Value) (us:List Value),us.length=ps.length->bindArgs (fnOf x x (fj (top i)) (cS (top i)) (aX (top i)) .none kV doc pm an eA ct) #[us,[]]=pure (ps.zip us):=by walk_at "b") (len:∀vs H Q E,sp K c vs H Q E->vs.length=ps.length:=by walk_at "l") (S:d9 N ps (aX (top i)):=by exact #[rfl,rfl,rfl,by decide+kernel,rfl,by decide+kernel,by decide+kernel]):AA.h0 (k+1) x ps sp:=let #[fd,F]:=AA.fn _ (Bi hl);#[f0,fd,F.mg,F.fn.kp,F.fn.ok S len λ_ _ _ _ _ _ _ _ hr h=>body AA.T AA.C AA.FT _ _ _ S.nd hr h,F.fn.binds b]
def kh.nF (body:∀{f:Addr} {eA:Value} {A:Around} {outer:List Env} {s:Shared} {vs:List V} (_:GT P w K mg g) (_:CT K c) (_:Flt K mg c.cf fI D8 D9) (H:Hp) (Q:VK) (E:XK),N.Nodup->dn k (A.deeper (envOfC x (aX (top i)) s.heap.objs.size f eA))->sp K c vs H Q E->∃t,rQ (jL (zy P w c.cf) P w K mg base N x (aX (top i)) f eA A outer s H E) (cS (top i)) t/\t {nx:=λ_ H'=>Q .cp H',rt:=Q} (start N vs) H) (hl:fns.lookup x=some (i,f0):=by rfl) (b:∀(kV doc pm:Value) (an:Option Addr) (eA ct:Value) (us:List Value),us.length=ps.length->bindArgs (fnOf x x (fj (top i)) (cS (top i)) (aX (top i)) .none kV doc pm an eA ct) #[us,[]]=pure (ps.zip us):=by walk_at "b") (len:∀vs H Q E,sp K c vs H Q E->vs.length=ps.length:=by walk_at "l") (S:d9 N ps (aX (top i)):=by exact #[rfl,rfl,rfl,by decide+kernel,rfl,by decide+kernel,by decide+kernel]):AA.hF (k+1) x ps sp:=let #[fd,F]:=AA.fn _ (Bi hl);#[f0,fd,F.mg,F.fn.kp,F.fn.Ip S len λ_ _ _ _ _ _ _ _ hr h=>body AA.T AA.C AA.FT _ _ _ S.nd hr h,F.fn.binds b]
def kh.i0 (F:∃f fd,Ev K mg x q C0 st f fd) (body:∀{f:Addr} {eA:Value} {A:Around} {outer:List Env} {s:Shared} {vs:List V} (_:GT P w K mg g) (_:CT K c) (_:Flt K mg c.cf fI D8 D9) (H:Hp) (Q:VK) (E:XK),N.Nodup->dn k (A.deeper (envOfC q (aX (st)) s.heap.objs.size f eA))->sp K c vs H Q E->∃t,rQ (jL CL P w K mg base N q (aX (st)) f eA A outer s H E).FP (cS (st)) t/\t {nx:=λ_ H'=>Q .cp H',rt:=Q} (start N vs) H) (b:∀(kV doc pm:Value) (an:Option Addr) (eA ct:Value) (us:List Value),us.length=ps.length->bindArgs (fnOf "__init__" q (fj (st)) (cS (st)) (aX (st)) .none kV doc pm an eA ct) #[us,[]]=pure (ps.zip us):=by walk_at "b") (len:∀vs H Q E,sp K c vs H Q E->vs.length=ps.length:=by walk_at "l") (S:d9 N ps (aX (st)):=by exact #[rfl,rfl,rfl,by decide+kernel,rfl,by decide+kernel,by decide+kernel]):AA.c0 (k+1) C0 x ps sp:=let #[f0,fd,F]:=F;#[f0,fd,F.VI,F.mg,F.fn.ok S len λ_ _ _ _ _ _ _ _ hr h=>body AA.T AA.C AA.FT _ _ _ S.nd hr h,F.fn.binds b]
def kh.iF (F:∃f fd,Ev K mg x q C0 st f fd) (body:∀{f:Addr} {eA:Value} {A:Around} {outer:List Env} {s:Shared} {vs:List V} (_:GT P w K mg g) (_:CT K c) (_:Flt K mg c.cf fI D8 D9) (H:Hp) (Q:VK) (E:XK),N.Nodup->dn k (A.deeper (envOfC q (aX (st)) s.heap.objs.size f eA))->sp K c vs H Q E->∃t,rQ (jL (zy P w c.cf) P w K mg base N q (aX (st)) f eA A outer s H E) (cS (st)) t/\t {nx:=λ_ H'=>Q .cp H',rt:=Q} (start N vs) H) (b:∀(kV doc pm:Value) (an:Option Addr) (eA ct:Value) (us:List Value),us.length=ps.length->bindArgs (fnOf "__init__" q (fj (st)) (cS (st)) (aX (st)) .none kV doc pm an eA ct) #[us,[]]=pure (ps.zip us):=by walk_at "b") (len:∀vs H Q E,sp K c vs H Q E->vs.length=ps.length:=by walk_at "l") (S:d9 N ps (aX (st)):=by exact #[rfl,rfl,rfl,by decide+kernel,rfl,by decide+kernel,by decide+kernel]):AA.cF (k+1) C0 x ps sp:=let #[f0,fd,F]:=F;#[f0,fd,F.VI,F.mg,F.fn.Ip S len λ_ _ _ _ _ _ _ _ hr h=>body AA.T AA.C AA.FT _ _ _ S.nd hr h,F.fn.binds b]
def kh.SX (F:∃f fd,Jv K x q C0 st f fd) (body:∀{f:Addr} {eA:Value} {A:Around} {outer:List Env} {s:Shared} {vs:List V} (_:GT P w K mg g) (_:CT K c) (_:Flt K mg c.cf fI D8 D9) (H:Hp) (Q:VK) (E:XK),N.Nodup->dn k (A.deeper (envOfC q (aX (st)) s.heap.objs.size f eA))->sp K c vs H Q E->∃t,rQ (jL CL P w K mg base N q (aX (st)) f eA A outer s H E).FP (cS (st)) t/\t {nx:=λ_ H'=>Q .cp H',rt:=Q} (start N vs) H) (b:∀(kV doc pm:Value) (an:Option Addr) (eA ct:Value) (us:List Value),us.length=ps.length->bindArgs (fnOf x q (fj (st)) (cS (st)) (aX (st)) .none kV doc pm an eA ct) #[us,[]]=pure (ps.zip us):=by walk_at "b") (len:∀vs H Q E,sp K c vs H Q E->vs.length=ps.length:=by walk_at "l") (S:d9 N ps (aX (st)):=by exact #[rfl,rfl,rfl,by decide+kernel,rfl,by decide+kernel,by decide+kernel]):AA.m0 (k+1) C0 x ps sp:=let #[f0,fd,F]:=F;#[f0,fd,F.cl,F.me,F.fn.ok S len λ_ _ _ _ _ _ _ _ hr h=>body AA.T AA.C AA.FT _ _ _ S.nd hr h,F.fn.binds b]
def kh.SY (F:∃f fd,Jv K x q C0 st f fd) (body:∀{f:Addr} {eA:Value} {A:Around} {outer:List Env} {s:Shared} {vs:List V} (_:GT P w K mg g) (_:CT K c) (_:Flt K mg c.cf fI D8 D9) (H:Hp) (Q:VK) (E:XK),N.Nodup->dn k (A.deeper (envOfC q (aX (st)) s.heap.objs.size f eA))->sp K c vs H Q E->∃t,rQ (jL (zy P w c.cf) P w K mg base N q (aX (st)) f eA A outer s H E) (cS (st)) t/\t {nx:=λ_ H'=>Q .cp H',rt:=Q} (start N vs) H) (b:∀(kV doc pm:Value) (an:Option Addr) (eA ct:Value) (us:List Value),us.length=ps.length->bindArgs (fnOf x q (fj (st)) (cS (st)) (aX (st)) .none kV doc pm an eA ct) #[us,[]]=pure (ps.zip us):=by walk_at "b") (len:∀vs H Q E,sp K c vs H Q E->vs.length=ps.length:=by walk_at "l") (S:d9 N ps (aX (st)):=by exact #[rfl,rfl,rfl,by decide+kernel,rfl,by decide+kernel,by decide+kernel]):AA.mF (k+1) C0 x ps sp:=let #[f0,fd,F]:=F;#[f0,fd,F.cl,F.me,F.fn.Ip S len λ_ _ _ _ _ _ _ _ hr h=>body AA.T AA.C AA.FT _ _ _ S.nd hr h,F.fn.binds b]
end
set_option hygiene false
local macro_rules | `(tactic| walk_at "r1")=> `(tactic| first | (exists rfl,?_) | (exists _,rfl,?_) | (exists _,_,rfl,rfl,?_) | (exists _,_,rfl,?_) | (exists _,_,_,rfl,?_) | (exists _,_,_,_,rfl,?_) | (exists _,_,_,_,_,rfl,?_) | (exists _,_,_,_,_,_,rfl,?_) | (exists _,rfl,by assumption,?_) | (exists _,rfl,by assumption,by assumption,?_) | (exists _,rfl,by assumption,by assumption,by assumption,?_) | (exists _,_,rfl,by assumption,?_) | (exists _,_,rfl,by assumption,by assumption,?_) | (exists _,_,rfl,by assumption,by assumption,by assumption,?_) | (exists _,_,_,rfl,by assumption,?_) | (exists _,_,_,rfl,by assumption,by assumption,?_) | (exists _,_,_,rfl,by assumption,by assumption,by assumption,?_) | (exists _,_,_,_,rfl,by assumption,?_) | (exists _,_,_,_,rfl,by assumption,by assumption,?_) | (exists _,_,_,_,rfl,by assumption,by assumption,by assumption,?_) | (exists _,_,_,_,_,rfl,by assumption,?_) | (exists _,_,_,_,_,rfl,by assumption,by assumption,?_) | (exists _,_,_,_,_,rfl,by assumption,by assumption,by assumption,?_) | (exists _,_,_,_,_,_,rfl,by assumption,?_) | (exists _,_,_,_,_,_,rfl,by assumption,by assumption,?_) | (exists _,_,_,_,_,_,rfl,by assumption,by assumption,by assumption,?_) | (exists _,_,_,_,_,rfl,by assumption,Lot.CT.tok (by assumption),Lot.CT.JA (by assumption) _ (by decide),rfl,?_) | (exists _,_,_,_,_,rfl,by assumption,Lot.CT.ex (by assumption),Lot.CT.Pt (by assumption) _ (by decide),rfl,?_) | (exists _,_,_,_,_,rfl,by assumption,Lot.CT.rd (by assumption),Lot.CT.Pq (by assumption) _ (by decide),rfl,?_))
local macro_rules | `(tactic| walk_at "rd")=> `(tactic| repeat (walk_at "r1"))
local macro_rules | `(tactic| walk_at "k")=> `(tactic| first | (exists ?_,?_;(with_reducible exact Lot.CT.ex ‹_›);exact Lot.CT.Pt ‹_› _ (by decide)) | (exists ?_,?_;(with_reducible exact Lot.CT.tok ‹_›);exact Lot.CT.JA ‹_› _ (by decide)) | (exists ?_,?_;(with_reducible exact Lot.CT.rd ‹_›);exact Lot.CT.Pq ‹_› _ (by decide)) | (exists ?_,?_;(with_reducible exact Lot.CT.call ‹_›);exact Lot.CT.JF ‹_› _ (by decide)) | (exists ?_,?_;(with_reducible exact Lot.CT.lh ‹_›);exact Lot.CT.JB ‹_› _ (by decide)) | (exists ?_,?_;(with_reducible exact Lot.CT.fn ‹_›);exact Lot.CT.RA ‹_› _ (by decide)) | (exists ?_,?_;(with_reducible exact Lot.CT.prog ‹_›);exact Lot.CT.JD ‹_› _ (by decide)) | (exists ?_,?_;(with_reducible exact Lot.CT.par ‹_›);exact Lot.CT.NZ ‹_› _ (by decide)) | (exists ?_,?_;(with_reducible exact Lot.CT.obs ‹_›);exact Lot.CT.N4 ‹_› _ (by decide)) | (exists ?_,?_;(with_reducible exact Lot.CT.Gg ‹_›);exact Lot.CT.N6 ‹_› _ (by decide)) | (exists ?_,?_;(with_reducible exact Lot.CT.ld ‹_›);exact Lot.CT.RC ‹_› _ (by decide)) | (exists ?_,?_;(with_reducible exact Lot.CT.hold ‹_›);exact Lot.CT.JH ‹_› _ (by decide)))
local macro_rules | `(tactic| walk_at "b")=> `(tactic| first | exact (λ_ _ _ _ _ _ us hl=>match us,hl with | [_],_=>rfl) | exact (λ_ _ _ _ _ _ us hl=>match us,hl with | [_,_],_=>rfl) | exact (λ_ _ _ _ _ _ us hl=>match us,hl with | [_,_,_],_=>rfl) | exact (λ_ _ _ _ _ _ us hl=>match us,hl with | [_,_,_,_],_=>rfl) | exact (λ_ _ _ _ _ _ us hl=>match us,hl with | [_,_,_,_,_],_=>rfl) | exact (λ_ _ _ _ _ _ us hl=>match us,hl with | [_,_,_,_,_,_],_=>rfl))
local macro_rules | `(tactic| walk_at "l")=> `(tactic| (intro vs H Q E h;repeat (first | (obtain ⟨e,_⟩:=h;subst e;exact rfl) | obtain ⟨_,h⟩:=h)))
local macro_rules | `(tactic| walk_at "m")=> `(tactic| first | exact Lot.GT.NQ (by assumption) | exact Lot.GT.sr (by assumption) | exact Lot.GT.NR (by assumption) | exact Lot.GT.NS (by assumption) | exact Lot.GT.NT (by assumption) | exact Lot.GT.NU (by assumption) | exact Lot.GT.NV (by assumption) | exact Lot.GT.NW (by assumption) | exact Lot.GT.Jy (by assumption) | exact Lot.GT.Jz (by assumption) | exact Lot.GT.NX (by assumption) | exact Lot.GT.vQ (by assumption) | exact Lot.GT.Gq (by assumption))
local macro_rules | `(tactic| walk_at "s")=> `(tactic| repeat (first | (guard_target=rQ _ [_] _;refine' w9 ?_) | (guard_target=rQ _ (_ :: _) _;refine' rS ?_ ?_) | (guard_target=rQ _ [] _;exact FQ) | (guard_target=PS _ (.Expr _ _) _;refine' LQ ?_) | (guard_target=PS _ (.If _ _ [] _) _;refine' iF ?_ ?_) | (guard_target=PS _ (.If _ _ _ _) _;refine' Nz ?_ ?_ ?_) | (guard_target=PS _ (.Assign [.Attribute _ _ _] _ _) _;refine' OU ?_ ?_) | (guard_target=PS _ (.Raise _ _ _) _;refine' Jn ?_) | (guard_target=PS _ (.For _ _ _ _ _) _;refine' OM ?_ ?_ ?_) | (guard_target=PS _ (.While _ _ _ _) _;refine' IH ?_ ?_) | (guard_target=PA _ [_] _;refine' pU ?_) | (guard_target=PA _ (_ :: _) _;refine' aI ?_ ?_) | (guard_target=PA _ [] _;exact xK) | (guard_target=PE _ (.Constant _ _ _) _;first | exact uJ | exact uK | exact OH | exact Cm) | (guard_target=PE _ (.Attribute _ _ _) _;refine' ca ?_) | (guard_target=PE _ (.Name _ _) _;first | exact pv 0 | exact pv 1 | exact pv 2 | exact pv 3 | exact pv 4 | exact pv 5 | exact pv 6 | exact pv 7 | exact pv 8 | exact pv 9) | (guard_target=PE _ (.List _ _) _;refine' El ?_) | (guard_target=PE _ (.Tuple _ _ _) _;refine' Ek ?_) | (guard_target=PE _ (.IfExp _ _ _ _) _;refine' IG ?_ ?_ ?_) | (guard_target=PT _ (.UnaryOp _ _ _) _;refine' OI ?_) | (guard_target=PT _ (.BoolOp .Or _ _) _;refine' PW.pt (pw_or ?_ ?_)) | (guard_target=PT _ (.BoolOp .And _ _) _;refine' PW.pt (pw_and ?_ ?_)) | (guard_target=PT _ (.Attribute _ _ _) _;refine' xX ?_) | (guard_target=PT _ (.Name _ _) _;refine' xX ?_) | (guard_target=PW _ (.BoolOp .Or [_] _) _;refine' pw_or1 ?_) | (guard_target=PW _ (.BoolOp .Or _ _) _;refine' pw_or ?_ ?_) | (guard_target=PW _ (.BoolOp .And [_] _) _;refine' pw_and1 ?_) | (guard_target=PW _ (.BoolOp .And _ _) _;refine' pw_and ?_ ?_) | (guard_target=TS;rotate_left) | (guard_target=TE;rotate_left) | (guard_target=TA;rotate_left) | (guard_target=TT;rotate_left) | (guard_target=TI;rotate_left) | (guard_target=TG;rotate_left) | (guard_target=QP;rotate_left)))
local macro_rules | `(tactic| exact_mod_cast $h)=> `(tactic| first | (guard_target=PS _ (.Return _ _) _;first | refine' $h | (refine' qH ?_;walk_at "s";exact_mod_cast $h)) | (guard_target=PT _ (.Compare _ _ _ _) _;refine' $h) | (guard_target=PT _ _ _;first | refine' $h | (refine' xX ?_;walk_at "s";exact_mod_cast $h)) | refine' $h)
local macro_rules | `(tactic| exact_mod_cast $f:ident $x:ident)=> `(tactic| first | (guard_target=PS _ (.Return _ _) _;refine' qH ?_;walk_at "s";exact_mod_cast $f $x) | (guard_target=PT _ (.Compare _ _ _ _) _;refine' $f $x) | (guard_target=PT _ _ _;refine' xX ?_;walk_at "s";exact_mod_cast $f $x) | (guard_target=PE _ (.Name _ _) _;exact $f $x) | (guard_target=PE _ (.Call (.Name _ _) _ _ _) _;refine' $f $x ?_) | refine' $f $x ?_ ?_)
local macro_rules | `(tactic| exact_mod_cast $h:ident)=> `(tactic| first | (guard_target=PS _ (.Return _ _) _;refine' qH ?_;walk_at "s";exact_mod_cast $h) | (guard_target=PT _ (.Compare _ _ _ _) _;refine' gr $h ?_ ?_) | (guard_target=PT _ _ _;refine' xX ?_;walk_at "s";exact_mod_cast $h) | (guard_target=PI _ _ _ _;refine' $h ?_) | (guard_target=PE _ (.Name _ _) _;exact Rv $h) | (guard_target=PE _ (.BinOp _ _ _ _) _;refine' xE $h ?_ ?_) | (guard_target=PE _ (.Compare _ _ _ _) _;refine' FZ $h ?_ ?_) | (guard_target=PE _ (.Subscript _ _ _) _;refine' NF $h ?_ ?_) | (guard_target=PE _ (.Call (.Name _ _) _ _ _) _;refine' dv ($h AA) ?_) | (guard_target=PE _ (.Call _ [] _ _) _;refine' Pl ?_ ($h AA)) | (guard_target=PE _ (.Call _ _ _ _) _;refine' Rs ?_ ($h AA) ?_) | exact $h)
local macro_rules | `(tactic| exact_mod_cast $n:num)=> `(tactic| first | (guard_target=PG _ _ _;exact bL $n) | (guard_target=PS _ (.Assign _ _ _) _;refine' AY $n ?_) | (guard_target=PS _ (.AugAssign _ _ _ _) _;refine' AZ $n ?_ ?_))
local macro_rules | `(tactic| exact_mod_cast 2)=> `(tactic| first | (guard_target=rQ _ _ _;refine' rS ?_ ?_) | (guard_target=PG _ _ _;exact bL 2) | (guard_target=PS _ (.Assign _ _ _) _;refine' AY 2 ?_) | (guard_target=PS _ (.AugAssign _ _ _ _) _;refine' AZ 2 ?_ ?_))
local macro_rules | `(tactic| exact_mod_cast 1)=> `(tactic| first | (guard_target=rQ _ _ _;refine' w9 ?_) | (guard_target=PS _ (.Return _ _) _;refine' rF ?_) | (guard_target=PG _ _ _;exact bL 1) | (guard_target=PS _ (.Assign _ _ _) _;refine' AY 1 ?_) | (guard_target=PS _ (.AugAssign _ _ _ _) _;refine' AZ 1 ?_ ?_))
local macro_rules | `(tactic| exact_mod_cast 0)=> `(tactic| first | (guard_target=PS _ (.Return _ _) _;refine' qH ?_) | (guard_target=PT _ _ _;refine' xX ?_) | (guard_target=PE _ _ _;refine' di ?_) | (guard_target=PG _ _ _;exact bL 0) | (guard_target=PS _ (.Assign _ _ _) _;refine' AY 0 ?_) | (guard_target=PS _ (.AugAssign _ _ _ _) _;refine' AZ 0 ?_ ?_))
local macro_rules | `(tactic| nomatch $hs,*)=> `(tactic| exists _,by ($[(exact_mod_cast $hs;walk_at "s")];*),?_)
local macro_rules | `(tactic| nomatch $n)=> `(tactic| first | refine AA.n0 (N:= $n) λT C FT H Q E nN hr h=>?_ | refine AA.nF (N:= $n) λT C FT H Q E nN hr h=>?_)
set_option hygiene true
variable (AA:kh P w K mg base c g fI D8 D9 fN Ls Lv)
def C2:SP:=λK c vs H Q _=> ∃lo hi:Int,vs= [.int lo,.int hi]/\∀p,H p=none->Q (.ref p) (upd H p (.tup (kT (.num lo hi))))
def vR:AA.h0 1 "num_kind" ["low","high"] C2:=by
 nomatch ["low","high"]
 obtain ⟨lo,hi,rfl,q⟩:=h;nomatch 1,T.jp
 walk_at "rd";exists jJ,q
def EF:SP:=λK c vs H Q _=> ∃a k,vs= [.ref a]/\gS K H a (kT k)/\Q (.int (C1 k)) H
def gU:AA.h0 1 "sort_of" ["kind"] EF:=by
 nomatch ["kind"]
 obtain ⟨a,k,rfl,hk,q⟩:=h;nomatch 1,gu
 exists _,U,a,_,_,_,U,U,hk,UC k,q
def Hq:SP:=λK c vs H Q _=> ∃a lo hi,vs= [.ref a]/\gS K H a (kT (.num lo hi))/\Q (.int lo) H
def eD:AA.h0 1 "low_of" ["kind"] Hq:=by
 nomatch ["kind"]
 obtain ⟨a,lo,hi,rfl,hk,q⟩:=h;nomatch 1,gu
 exists _,U,a,_,_,_,U,U,hk,U,q
def EG:SP:=λK c vs H Q _=> ∃a lo hi,vs= [.ref a]/\gS K H a (kT (.num lo hi))/\Q (.int hi) H
def dM:AA.h0 1 "high_of" ["kind"] EG:=by
 nomatch ["kind"]
 obtain ⟨a,lo,hi,rfl,hk,q⟩:=h;nomatch 1,gu
 exists _,U,a,_,_,_,U,U,hk,U,q
def Bj:SP:=λK c vs H Q E=> ∃a k z pl,vs= [.ref a,.int z,.int (pl:Nat)]/\gS K H a (kT k)/\(C1 k=z->Q .cp H)/\(C1 k≠z->jo c.cf E H #[8,pl])
def gz:AA.hF 4 "need_sort" ["kind","sort","place"] Bj:=by
 nomatch ["kind","sort","place"]
 obtain ⟨a,k,z,pl,rfl,hk,q1,q2⟩:=h;nomatch 1,Ad,gU
 walk_at "rd";refine bG (λe=>?_) λe=>?_
 . exists _,U,_,_,U,(q2 (by simpa using e)).go (aq.refl _)
 . exact q1 (by simpa using e)
def wC:SP:=λK c vs H Q E=> ∃a b k l pl,vs= [.ref a,.ref b,.int (pl:Nat)]/\gS K H a (kT k)/\gS K H b (kT l)/\aN c.cf E H (Vaprbb.held k l pl) (λ_=>Q .cp H)
def iJ:AA.hF 5 "hold_against" ["kind","wanted","place"] wC:=by
 nomatch ["kind","wanted","place"]
 obtain ⟨a,b,k,l,pl,rfl,hk,hl,q⟩:=h;nomatch 2,gz,gU,bK,gU,T.jp,eS,eD,eD,ic,dM,dM
 walk_at "rd";exists λe=>?_,λe=>?_
 . cases k <;> cases l <;> first | cases e | skip
   . walk_at "rd";exact q
   . rename_i a1 b1 a2 b2;walk_at "rd";refine bG (λe=>?_) λe=>?_
     . walk_at "rd";rw [x9,ae (by simp at e;omega)] at q;exact jo.go q (aq.refl _)
     . walk_at "rd";refine bG (λe'=>?_) λe'=>?_
       . walk_at "rd";rw [x9,ae (by simp at e';omega)] at q;exact jo.go q (aq.refl _)
       . rw [x9,ah (by simp at e e';omega)] at q;exact q
 . have z:Vaprbb.held k l pl= .error #[8,pl]:=by
    unfold Vaprbb.held;rw [u9,ah (by simpa using e)]
   rw [z] at q;exact q
def ya:SP:=λK c vs H Q E=> ∃a b t u bt bu,vs= [.ref a,.ref b]/\x_ c H a t bt/\x_ c H b u bu/\aN c.cf E H (if numOf t.tok < -1000\/1000 < numOf t.tok then .error #[7,t.place] else if numOf u.tok < numOf t.tok\/1000 < numOf u.tok\/numOf t.tok+63 < numOf u.tok then .error #[7,u.place] else .ok ())
 (λ_=> ∀p,H p=none->Q (.ref p) (upd H p (.tup (kT (.num (numOf t.tok) (numOf u.tok))))))
def nR:AA.hF 4 "bounded_num" ["low","high"] ya:=by
 nomatch ["low","high"]
 obtain ⟨a,b,t,u,bt,bu,rfl,⟨da,ha⟩,⟨db,hb⟩,q⟩:=h;nomatch 2,eS,T.Bg,ic,T.md,eS,ic,T.md,ic,jm,T.xY,vR
 walk_at "rd";refine bG (λe=>?_) λe=>?_
 . walk_at "rd";rw [ah (.inl (by simpa using e))] at q;exact jo.go q (aq.refl _)
 walk_at "rd";refine bG (λe1=>?_) λe1=>?_
 . walk_at "rd";rw [ah (.inr (by simpa using e1))] at q;exact jo.go q (aq.refl _)
 rw [ae (by simp at e e1;omega)] at q;walk_at "rd";refine bG (λe2=>?_) λe2=>?_
 . walk_at "rd";rw [ah (.inl (by simpa using e2))] at q;exact jo.go q (aq.refl _)
 walk_at "rd";refine bG (λe3=>?_) λe3=>?_
 . walk_at "rd";rw [ah (.inr (.inl (by simpa using e3)))] at q;exact jo.go q (aq.refl _)
 walk_at "rd";refine bG (λe4=>?_) λe4=>?_
 . walk_at "rd";rw [ah (.inr (.inr (by simp at e4;omega)))] at q;exact jo.go q (aq.refl _)
 rw [ae (by simp at e2 e3 e4;omega)] at q;walk_at "rd";exact q
def yb:SP:=λK c vs H Q E=> ∃lo hi pl,vs= [.int lo,.int hi,.int (pl:Nat)]/\aN c.cf E H (Vaprbb.numKind pl lo hi) (λk=> ∀p,H p=none->Q (.ref p) (upd H p (.tup (kT k))))
def ju:AA.hF 4 "fitting_num" ["low","high","place"] yb:=by
 nomatch ["low","high","place"]
 obtain ⟨lo,hi,pl,rfl,q⟩:=h;nomatch 2,eS,T.Bg,ic,T.md,ic,jm,T.xY,vR
 rw [fV] at q;walk_at "rd";refine bG (λe=>?_) λe=>?_
 . walk_at "rd";rw [ah (.inl (by simpa using e))] at q;exact jo.go q (aq.refl _)
 walk_at "rd";refine bG (λe1=>?_) λe1=>?_
 . walk_at "rd";rw [ah (.inr (.inl (by simpa using e1)))] at q;exact jo.go q (aq.refl _)
 walk_at "rd";refine bG (λe2=>?_) λe2=>?_
 . walk_at "rd";rw [ah (.inr (.inr (by simp at e2;omega)))] at q;exact jo.go q (aq.refl _)
 rw [ae (by simp at e e1 e2;omega)] at q;walk_at "rd";exact q
def txt (b:Bytes):List V:=b.map λx=>V.int (x.toNat:Nat)
def cG (b:Bytes):(txt b).length=b.length:=by simp [txt]
def iK (h:b[j]? = some x):Eo (txt b) (j:Int)=some (.int (x.toNat:Nat)):=A6 (by simp [txt,h])
def xj {r:Bytes} (h:b.drop j=x :: r):b[j]? = some x/\b.drop (j+1)=r/\j < b.length:=by
 have h1:(b.drop j)[0]? = some x:=by rw [h];rfl
 rw [oX] at h1;exists by simpa using h1,?_,?_
 . have:(b.drop j).drop 1=r:=by rw [h];rfl
   rw [fM] at this;exact this
 . by_cases q:j < b.length
   . exact q
   . rw [jd (by omega)] at h;cases h
def sy (h:b[j]? = some x):b.drop j=x :: b.drop (j+1):=by
 obtain ⟨hl,e⟩:=bj.mp h;rw [tW hl,e]
def Aw (h:j < b.length):∃x,b[j]? = some x:=#[b[j],bB h]
def kz (p:UInt8->Bool) (b:Bytes) (j:Nat):Nat:=j+((b.drop j).takeWhile p).length
def nS {p:UInt8->Bool} (h:b[j]? = some x) (hp:p x=true):kz p b j=kz p b (j+1):=by
 unfold kz;rw [sy h,m5 hp,aT];omega
def yc {p:UInt8->Bool} (h:b[j]? = some x) (hp:p x=false):kz p b j=j:=by
 unfold kz;rw [sy h,zY (by rw [hp];exact aO)];rfl
def Bk {p:UInt8->Bool} (h:b.length<=j):kz p b j=j:=by
 unfold kz;rw [jd h];rfl
def JI {p:UInt8->Bool} (h:j<=b.length):kz p b j<=b.length:=by
 unfold kz;have:=(z8 p (l:=b.drop j)).length_le;rw [cT] at this;omega
def EH (x:UInt8):isDigit x=(decide ((48:Int)<=(x.toNat:Int)) && decide ((x.toNat:Int) < 48+10)):=by
 unfold isDigit;rw [b9,c6];simp only [dr];omega
def sA (x:UInt8):Bool:=decide (65<=x.toNat/\x.toNat<=90)
def isSmall (x:UInt8):Bool:=decide (97<=x.toNat/\x.toNat<=122)
def vS (x:UInt8):isLetter x=(sA x || isSmall x):=rfl
def EI (x:UInt8):sA x=(decide ((65:Int)<=(x.toNat:Int)) && decide ((x.toNat:Int) < 65+26)):=by
 unfold sA;rw [b9,c6];simp only [dr];omega
def EJ (x:UInt8):isSmall x=(decide ((97:Int)<=(x.toNat:Int)) && decide ((x.toNat:Int) < 97+26)):=by
 unfold isSmall;rw [b9,c6];simp only [dr];omega
def Hr:∀j:Nat,j < 10->Eo (Str.ofString "0123456789").cps.toList (j:Int)=some (48+j):=by decide
def Hs:∀j:Nat,j < 26->Eo (Str.ofString "ABCDEFGHIJKLMNOPQRSTUVWXYZ").cps.toList (j:Int)=some (65+j):=by decide
def Ht:∀j:Nat,j < 26->Eo (Str.ofString "abcdefghijklmnopqrstuvwxyz").cps.toList (j:Int)=some (97+j):=by decide
def j3:SP:=λK c vs H Q _=> ∃x dx v1 v2 v3 v4 v5,vs= [.ref x,v1,v2,v3,v4,v5]/\H x=some (.ins c.tok dx [])/\∀H':Hp,H' x=some (.ins c.tok dx [("form",v1),("word",v2),("number",v3),("place",v4),("behind",v5)])->(∀b o,H b=some o->b≠x->H' b=some o)->Q .cp H'
def dH:AA.c0 1 c.tok "Token" ["self","form","word","number","place","behind"] j3:=by
 refine AA.i0 AA.ls (N:= ["self","form","word","number","place","behind"]) λT C FT H Q E nN hr h=>?_;obtain ⟨x,dx,v1,v2,v3,v4,v5,rfl,hx,k⟩:=h;nomatch 2
 exists _,U,_,U,fw hx ?_;exists _,U,_,U,fw aa ?_;exists _,U,_,U,fw aa ?_;exists _,U,_,U,fw aa ?_;exists _,U,_,U,fw aa ?_;exact k _ aa λb o e ne=>by rw [aA ne,aA ne,aA ne,aA ne,aA ne];exact e
def sC (k:∀x H',H x=none->aq H H'->(∃dx,H' x=some (.ins c.tok dx [("form",v1),("word",v2),("number",v3),("place",v4),("behind",v5)]))->Q (.ref x) H'):
 ∀x dx,H x=none->H dx=none->dx≠x->j3 K c (.ref x :: ([v1,v2,v3,v4,v5]++ [])) (upd (upd H dx (.own x)) x (.ins c.tok dx [])) (λv H2=>v= .cp/\Q (.ref x) H2) E:=
 λx dx nx nd _=>#[x,dx,v1,v2,v3,v4,v5,rfl,aa,λH' e kp=>#[rfl,k x H' nx (aq.made nx nd kp) #[dx,e]]]
def C3:SP:=λK c vs H Q _=> ∃x:UInt8,vs= [.int (x.toNat:Nat)]/\Q (.bl (isDigit x)) H
def ip:AA.h0 1 "is_digit" ["byte"] C3:=by
 nomatch ["byte"]
 obtain ⟨x,rfl,q⟩:=h;nomatch 1,AW ?_ ?_,FY,T.uY,uL ?_,eS,dY,T.uY,aM lW,ig T.xZ
 rw [EH] at q;walk_at "rd";refine bG (λe=>?_) λe=>?_
 . rw [e] at q;exists _,U,_,U,fH U,_,_,U,U,_,_,U,U,q
 . rw [e] at q;exact q
def qO:SP:=λK c vs H Q _=> ∃x:UInt8,vs= [.int (x.toNat:Nat)]/\Q (.bl (sA x)) H
def jv:AA.h0 1 "is_great_letter" ["byte"] qO:=by
 nomatch ["byte"]
 obtain ⟨x,rfl,q⟩:=h;nomatch 1,AW ?_ ?_,FY,T.pJ,uL ?_,eS,dY,T.pJ,aM lW,ig T.iH
 rw [EI] at q;walk_at "rd";refine bG (λe=>?_) λe=>?_
 . rw [e] at q;exists _,U,_,U,fH U,_,_,U,U,_,_,U,U,q
 . rw [e] at q;exact q
def qP:SP:=λK c vs H Q _=> ∃x:UInt8,vs= [.int (x.toNat:Nat)]/\Q (.bl (isSmall x)) H
def qQ:AA.h0 1 "is_small_letter" ["byte"] qP:=by
 nomatch ["byte"]
 obtain ⟨x,rfl,q⟩:=h;nomatch 1,AW ?_ ?_,FY,T.pK,uL ?_,eS,dY,T.pK,aM lW,ig T.iI
 rw [EJ] at q;walk_at "rd";refine bG (λe=>?_) λe=>?_
 . rw [e] at q;exists _,U,_,U,fH U,_,_,U,U,_,_,U,U,q
 . rw [e] at q;exact q
def Bl:SP:=λK c vs H Q _=> ∃x:UInt8,vs= [.int (x.toNat:Nat)]/\Q (.bl (isLetter x)) H
def sE:AA.h0 2 "is_letter" ["byte"] Bl:=by
 nomatch ["byte"]
 obtain ⟨x,rfl,q⟩:=h;nomatch 1,FO ?_ ?_,jv,uL ?_,qQ
 rw [vS] at q;exists _,U,x,U,_,U,bG (λe=>?_) λe=>?_
 . rw [e] at q;exact q
 . rw [e] at q;exists _,U,x,U,q
def wE:SP:=λK c vs H Q _=> ∃x:UInt8,vs= [.int (x.toNat:Nat)]/\(isLetter x || isDigit x)=true/\Q (.str ⟨(List.toArray [x.toNat])⟩) H
def wF:AA.h0 2 "sign_of_byte" ["byte"] wE:=by
 nomatch ["byte"]
 obtain ⟨x,rfl,hx,q⟩:=h;nomatch 2,ip,Ep,ig T.xZ,jm,T.uY,jv,Ep,ig T.iH,jm,T.pJ,Ep,ig T.iI,jm,T.pK
 have at_:∀(n m:Nat) (hx:n<=x.toNat) (z:Str) (hz:∀j:Nat,j < m->Eo z.cps.toList (j:Int)=some (n+j)) (hm:x.toNat < n+m),Eo z.cps.toList ((x.toNat:Nat) - (n:Nat):Int)=some x.toNat:=λn m hx z hz hm=>by
  have e:((x.toNat:Nat) - (n:Nat):Int)=((x.toNat - n:Nat):Int):=by omega
  rw [e,hz _ (by omega)];congr 1;omega
 exists _,U,x,U,_,U,bG (λe=>?_) λe=>?_
 . have e:48<=x.toNat/\x.toNat<=57:=by simpa [isDigit] using e
   exists _,U,_,_,U,U,_,_,_,U,U,fH U,at_ 48 10 e.1 _ Hr (by omega),q
 exists _,U,x,U,_,U,bG (λe1=>?_) λe1=>?_
 . have e1:65<=x.toNat/\x.toNat<=90:=by simpa [sA] using e1
   exists _,U,_,_,U,U,_,_,_,U,U,fH U,at_ 65 26 e1.1 _ Hs (by omega),q
 . rw [vS,e,e1,h_,jg] at hx;have e2:97<=x.toNat/\x.toNat<=122:=by simpa [isSmall] using hx
   exists _,U,_,_,U,U,_,_,_,U,U,fH U,at_ 97 26 e2.1 _ Ht (by omega),q
def EK:SP:=λK c vs H Q _=> ∃a b j,vs= [.ref a,.int (j:Nat)]/\cz K H a (txt b)/\j<=b.length/\Q (.int (kz (· != 10) b j:Nat)) H
def EL:AA.h0 1 "row_end" ["text","start"] EK:=by
 nomatch ["text","start","place"]
 obtain ⟨a,b,j,rfl,ht,hj,q⟩:=h;nomatch 2,2,eS,aM aJ,Ad,bR,T.At,2,qI,0
 exists _,U,λm σ H'=> ∃i:Nat,σ= [some (.ref a),some (.int (j:Nat)),some (.int (i:Nat))]/\H'=H/\i<=b.length/\m=b.length - i/\kz (· != 10) b i=kz (· != 10) b j,#[_,j,U,U,hj,U,U],?_;rintro m σ H' ⟨i,rfl,rfl,hi,rfl,e⟩;exists _,U,_,U,a,_,U,.inl ht,_,_,U,U,_,U,bG (λe1=>?_) λe1=>?_
 . have gZ:i < b.length:=by simpa [cG] using e1
   obtain ⟨x,hx⟩:=Aw gZ;exists _,U,_,U,a,_,_,_,U,U,ht,iK hx,U,_,U,bG (λe2=>?_) λe2=>?_
   . have kg:(x != 10)=true:=by
      have:¬(x.toNat:Int)=10:=by simpa using e2
      rw [bne_iff_ne];intro z;subst z;exact this rfl
     refine dG ?_;exists _,U,_,_,U,U,_,by omega,i+1,U,U,gZ,U,(nS hx kg).symm.trans e
   . have heq:(x != 10)=false:=by
      have:(x.toNat:Int)=10:=by simpa using e2
      have:x=10:=by apply et;show x.toNat=10;omega
      subst this;rfl
     exists _,U,?_;rw [<-e,yc hx heq] at q;exact q
 . have hge:b.length<=i:=by simpa [cG] using e1
   exists _,U,?_;rw [<-e,Bk hge] at q;exact q
def qR {g:TG} (Rel:Nat->V->Hp->Prop) (hm:∀i y H H',bX c H H'->Rel i y H->Rel i y H') (hD:H1 D=none) (ha:cz K H1 a xs) (hz:xs.length<=sizeLine) (hs:∀i x H (R:VK),xs[i]? = some x->aq H1 H->(∀y H',aq H H'->Rel i y H'->R y H')->g x (wipe σ vs) H λσ2 H2=>wipe σ2 vs=wipe σ vs/\te σ2 H2 R) (hd:∀H ys,aq H1 H->H D=some (.lst ys)->ys.length=xs.length->(∀(i:Nat) y,ys[i]? = some y->Rel i y H)->Qd H):
 ∃W:Nat->Nat->Hp->Prop,(∃m,W 0 m (upd H1 D (.lst [])))/\∀i m H,W i m H->
  ((Cp K a).stop i H/\Qd H)\/((Cp K a).go i H/\∃Nx:Hp->Prop,(∀H',Nx H'->∃m',m' < m/\W (i+1) m' H')/\∀x H',(Cp K a).D6 i H x H'->g x (wipe σ vs) H' λσ2 H2=>wipe σ2 vs=wipe σ vs/\Hb σ2 H2 λb H3=>
   if b=true then te σ2 H3 λy H4=> ∃acc,H4 D=some (.lst acc)/\acc.length < sizeLine/\Nx (upd H4 D (.lst (acc++ [y]))) else Nx H3):=by
 refine A_ (K:=K) (a:=a) (xs:=xs) (λi H=>aq H1 H/\∃ys,H D=some (.lst ys)/\ys.length=i/\∀(k:Nat) y,ys[k]? = some y->Rel k y H) #[aq.upd hD,[],aa,rfl,λk y e=>by simp at e] (λi H _ p=>p.1.seq ha) ?_ ?_
 . rintro i x H hi ⟨s1,ys,hy,hl,hr⟩;have gZ:i < xs.length:=(bj.mp hi).1;have:=hs i x H (λy H4=> ∃acc,H4 D=some (.lst acc)/\acc.length < sizeLine/\(aq H1 (upd H4 D (.lst (acc++ [y])))/\∃ys,upd H4 D (.lst (acc++ [y])) D=some (.lst ys)/\ys.length=i+1/\∀(k:Nat) y',ys[k]? = some y'->Rel k y' (upd H4 D (.lst (acc++ [y]))))) hi s1 λy H' s2 r=>?_
   . exact this
   . have e':=s2 D _ hy;have im:bX c H' (upd H' D (.lst (ys++ [y]))):=bX.upd e' rfl;exists ys,e',by omega,(s1.trans s2).bM hD,_,aa,by rw [ao,hl];rfl,λk y' e=>?_;by_cases hk:k < ys.length
     . rw [tV hk] at e;exact hm k y' _ _ im (hm k y' _ _ s2.Y (hr k y' e))
     . rw [tT (by omega)] at e;have hk2:k=i:=by
        have:=(bj.mp e).1;simp at this;omega
       subst hk2;rw [hl,uF] at e;cases e;exact hm k y _ _ im r
 . rintro H ⟨s1,ys,hy,hl,hr⟩;exact hd H ys s1 hy hl hr
def jw {g:TG} (ys:List V) (UB:ys.length=xs.length) (hD:H1 D=none) (ha:cz K H1 a xs) (hz:xs.length<=sizeLine) (hs:∀(i:Nat) x y H (R:VK),xs[i]? = some x->ys[i]? = some y->aq H1 H->(∀H',aq H H'->R y H')->g x (wipe σ vs) H λσ2 H2=>wipe σ2 vs=wipe σ vs/\te σ2 H2 R) (hd:∀H,aq H1 H->H D=some (.lst ys)->Qd H):
 ∃W:Nat->Nat->Hp->Prop,(∃m,W 0 m (upd H1 D (.lst [])))/\∀i m H,W i m H->
  ((Cp K a).stop i H/\Qd H)\/((Cp K a).go i H/\∃Nx:Hp->Prop,(∀H',Nx H'->∃m',m' < m/\W (i+1) m' H')/\∀x H',(Cp K a).D6 i H x H'->g x (wipe σ vs) H' λσ2 H2=>wipe σ2 vs=wipe σ vs/\Hb σ2 H2 λb H3=>
   if b=true then te σ2 H3 λy H4=> ∃acc,H4 D=some (.lst acc)/\acc.length < sizeLine/\Nx (upd H4 D (.lst (acc++ [y]))) else Nx H3):=by
 refine qR (c:=#[0,0,0,0,0,0,0,0,0,0,0,0,0]) (λi y _=>ys[i]? = some y) (λ_ _ _ _ _ z=>z) hD ha hz (λi x H R hi s1 k=>?_) λH zs s1 hz' hl hr=>?_
 . have gZ:i < ys.length:=by rw [UB];exact (bj.mp hi).1
   exact hs i x ys[i] H R hi (bB gZ) s1 λH' s2=>k _ H' s2 (bB gZ)
 . have e:zs=ys:=by
    apply List.ext_getElem?;intro i;cases q:zs[i]? with
    | some y=>exact (hr i y q).symm
    | none=>
     have:zs.length<=i:=tX.mp q;exact (tX.mpr (by omega)).symm
   subst e;exact hd H s1 hz'
def Hu (x:UInt8):inV (.int (x.toNat:Nat)) [.int 32,.int 9,.int 10]=isBlank x:=by
 have h:∀n:UInt8,((n.toNat:Int) == (x.toNat:Int))=(x == n):=λn=>by
  rw [b9,bO,bO];constructor
  . intro e;exact et (by omega)
  . intro e;rw [e]
 show ((32:Int) == (x.toNat:Int) || ((9:Int) == (x.toNat:Int) || ((10:Int) == (x.toNat:Int) || false)))=(x == 32 || x == 9 || x == 10);have h1:=h 32;have h2:=h 9;have h3:=h 10;have e1:((32:UInt8).toNat:Int)=32:=rfl;have e2:((9:UInt8).toNat:Int)=9:=rfl;have e3:((10:UInt8).toNat:Int)=10:=rfl;rw [e1] at h1;rw [e2] at h2;rw [e3] at h3;rw [h1,h2,h3,h_,Bool.or_assoc]
def qx (b:Bytes) (j:Nat):Except VaprbBase.Fault (VaprbBase.Tok×Nat):=match token (b.drop j) with
 | none=> .error #[2,j]
 | some x=> .ok x
def Gr (b:Bytes) (p:UInt8->Bool) (j:Nat) (hj:j<=b.length):uQ (txt b) (some (j:Int)) (some (kz p b j:Nat))=txt ((b.drop j).takeWhile p):=by
 unfold uQ;rw [HT.w6,HT.w6,cG,o_ hj,o_ (JI hj)];unfold kz txt;rw [t_,<-List.map_drop,<-List.map_take];congr 1;exact (List.prefix_iff_eq_take.mp (z8 p)).symm
def EQ {r:Bytes} (h:b.drop j=x :: r) (hx:isLetter x=true):
 qx b j=if 16 < kz (λc=>isLetter c || isDigit c) b j - j then .error #[2,j] else .ok (.name ((b.drop j).takeWhile λc=>isLetter c || isDigit c),kz (λc=>isLetter c || isDigit c) b j - j):=by
 have e:token (b.drop j)=if 16 < ((b.drop j).takeWhile λc=>isLetter c || isDigit c).length then none else some (.name ((b.drop j).takeWhile λc=>isLetter c || isDigit c),((b.drop j).takeWhile λc=>isLetter c || isDigit c).length):=by
  rw [h];unfold token;simp only [hx,e_];rfl
 unfold qx kz;rw [t_,e];by_cases hl:16 < ((b.drop j).takeWhile λc=>isLetter c || isDigit c).length
 . rw [ah hl,ah hl]
 . rw [ae hl,ae hl]
def C4 {r:Bytes} (h:b.drop j=x :: r) (hx:isLetter x=false) (hd:isDigit x=true):
 qx b j=match numberOf false ((b.drop j).takeWhile isDigit) with | none=> .error #[2,j] | some n=> .ok (.num n,kz isDigit b j - j):=by
 unfold qx token kz;rw [t_,h];simp only [hx,hd,e_,m9,gP];cases numberOf false ((x :: r).takeWhile isDigit) <;> rfl
def C5 {r:Bytes} (h:b.drop j=45 :: r):
 qx b j=if r.head? = some 62 then .ok (.sign 1,2) else match numberOf true (r.takeWhile isDigit) with | none=> .error #[2,j] | some n=> .ok (.num n,(r.takeWhile isDigit).length+1):=by
 unfold qx token;rw [h];have h1:isLetter 45=false:=by decide
 have h2:isDigit 45=false:=by decide
 simp only [h1,h2,m9,gP];rw [ah (by decide)];by_cases S0:r.head? = some 62
 . rw [ah S0,ah S0]
 . rw [ae S0,ae S0];cases numberOf true (r.takeWhile isDigit) <;> rfl
def ER {r:Bytes} (h:b.drop j=x :: r) (hx:isLetter x=false) (hd:isDigit x=false) (hm:x≠45):
 qx b j=if SIGNS.contains x=true then .ok (.sign x.toNat,1) else .error #[2,j]:=by
 unfold qx token;rw [h];simp only [hx,hd,m9,gP];rw [ae (by simpa using hm)];split <;> rename_i q <;> split at q <;> simp_all
def C6:∀(l:Bytes) (n:Nat),n<=l.foldl (λn b=>10 * n+(b.toNat - 48)) n
 | [],n=>aw n
 | x :: r,n=>by
  rw [List.foldl_cons];have:=C6 r (10 * n+(x.toNat - 48));omega
def C7 {neg:Bool} {r:Bytes} (hx:isDigit x=true):
 numberOf neg (x :: r)=if (x=48/\(neg=true\/1 < (x :: r).length))\/10 < (x :: r).length\/1000000000 < decimal (x :: r) then none else some (if neg=true then -(decimal (x :: r):Int) else (decimal (x :: r):Int)):=by
 have hd:48<=x.toNat/\x.toNat<=57:=by simpa [isDigit] using hx
 have z0:decimal (x :: r)=0->x=48:=λe=>by
  have:=C6 r (10 * 0+(x.toNat - 48));have e:r.foldl (λn b=>10 * n+(b.toNat - 48)) (10 * 0+(x.toNat - 48))=0:=e;exact et (show x.toNat=48 by omega)
 have z1:x=48->(x :: r).length<=1->decimal (x :: r)=0:=λe l=>by
  cases r with
  | nil=>subst e;rfl
  | cons y s=>simp at l
 have key:((x :: r= []\/10 < (x :: r).length\/(1 < (x :: r).length/\(x :: r).head? = some 48))\/(1000000000 < decimal (x :: r)\/(neg=true/\decimal (x :: r)=0)))↔((x=48/\(neg=true\/1 < (x :: r).length))\/10 < (x :: r).length\/1000000000 < decimal (x :: r)):=by
  constructor
  . rintro ((h | h | ⟨h,h'⟩) | h | ⟨h,h'⟩)
    . cases h
    . exact .inr (.inl h)
    . exact .inl #[by simpa using h',.inr h]
    . exact .inr (.inr h)
    . exact .inl #[z0 h',.inl h]
  . rintro (⟨h,h' | h'⟩ | h | h)
    . by_cases q:1 < (x :: r).length
      . exact .inl (.inr (.inr #[q,by rw [h];rfl]))
      . exact .inr (.inr #[h',z1 h (by omega)])
    . exact .inl (.inr (.inr #[h',by rw [h];rfl]))
    . exact .inl (.inr (.inl h))
    . exact .inr (.inl h)
 unfold numberOf;by_cases A:(x :: r= []\/10 < (x :: r).length\/(1 < (x :: r).length/\(x :: r).head? = some 48))
 . rw [ah A,ah (key.mp (.inl A))]
 . rw [ae A];by_cases B:(1000000000 < decimal (x :: r)\/(neg=true/\decimal (x :: r)=0))
   . rw [ah (key.mp (.inr B))];exact ah B
   . rw [ae (λz=>(key.mpr z).elim A B)];exact ae B
def vb:SP:=λK c vs H Q _=> ∃a b j,vs= [.ref a,.int (j:Nat)]/\cz K H a (txt b)/\j<=b.length/\∀i:Nat,j<=i->i<=b.length->M0.nJ b i=M0.nJ b j->(∀x r,b.drop i=x :: r->isBlank x=false/\x≠35)->Q (.int (i:Nat)) H
def lu:AA.h0 2 "behind_blanks" ["text","start"] vb:=by
 nomatch ["text","start","place"]
 obtain ⟨a,b,j,rfl,ht,hj,q⟩:=h;nomatch 2,2,eS,aM aJ,eC,bR,fB T.CW,bK,bR,T.Ew,bK,bR,T.Ew,2,EL,2,qI,0
 exists _,U,λm σ H'=> ∃i:Nat,σ= [some (.ref a),some (.int (j:Nat)),some (.int (i:Nat))]/\H'=H/\j<=i/\i<=b.length/\m=b.length - i/\M0.nJ b i=M0.nJ b j,#[_,j,U,U,aw _,hj,U,U],?_;rintro m σ H' ⟨i,rfl,rfl,hji,hi,rfl,e⟩;exists _,U,_,U,a,_,U,.inl ht,_,_,U,U,_,U,bG (λe1=>?_) λe1=>?_
 . have gZ:i < b.length:=by simpa [cG] using e1
   obtain ⟨x,hx⟩:=Aw gZ;have hdr:=sy hx;have lx:=M0.Gj hdr;exists _,U,_,U,a,_,_,_,U,U,ht,iK hx,g.blanks,_,U,.inr (T.CY.sq _),U,U,_,U,?_;rw [ae aO,Hu];refine bG (λe2=>?_) λe2=>?_
   . refine dG ?_;exists _,U,_,U,a,_,_,_,U,U,ht,iK hx,U,_,U,?_;refine bG (λe3=>?_) λe3=>?_
     . exfalso;have:(x.toNat:Int)=35:=by simpa using e3
       have:x=35:=et (show x.toNat=35 by omega);subst this;exact absurd e2 (by decide)
     . rw [ah e2] at lx;exists _,U,_,_,U,U,_,by omega,i+1,U,U,by omega,gZ,U,lx.symm.trans e
   . exists _,U,_,U,a,_,_,_,U,U,ht,iK hx,U,_,U,?_;refine bG (λe3=>?_) λe3=>?_
     . refine dG ?_;have:(x.toNat:Int)=35:=by simpa using e3
       have UD:x=35:=et (show x.toNat=35 by omega);subst UD;exists _,U,_,U,a,_,_,_,U,U,ht,iK hx,U,_,U,nB ?_;exists _,U,_,U,a,b,i,U,ht,hi,?_;have t1:=nS (p:=(· != 10)) hx (by decide);have t2:i+1<=kz (· != 10) b (i+1):=dS _ _;have t3:=JI (p:=(· != 10)) hi;rw [ae (by decide),ah (by decide)] at lx;exists _,?_,kz (· != 10) b i,U,U,by omega,t3,U,?_
       . omega
       . rw [t1];exact lx.symm.trans e
     . have UD:x≠35:=λz=>by subst z;exact absurd e3 (by decide)
       exists _,U,q i hji hi e λy r hy=>?_;rw [hdr] at hy;cases hy;exists e2,UD
 . have hge:b.length<=i:=by simpa [cG] using e1
   exists _,U,q i hji hi e λy r hy=>?_;rw [jd hge] at hy;cases hy
def bD {b:Bool} (h:b=true) (a:A):if b=true then A else B:=by rw [ah h];exact a
def aF {b:Bool} (h:b=false) (a:B):if b=true then A else B:=by rw [h];exact a
def Gs (h:(txt b)[i]? = some v):∃x,b[i]? = some x/\v= .int (x.toNat:Nat):=by
 unfold txt at h;rw [bz] at h;cases e:b[i]? with
 | none=>rw [e] at h;cases h
 | some x=>rw [e] at h;exists x,U,(bF h).symm
def aK (b:Bytes):(aR b).length=b.length:=by show (b.map (·.toNat)).toArray.size=_;simp
def join_nil:∀l:List (List Nat),TL.z_ [] l=l.flatten
 | []=>rfl
 | [p]=>by simp [TL.z_]
 | p :: q :: r=>by
  show p++([]++TL.z_ [] (q :: r))=_;rw [join_nil (q :: r)];simp
def EV (b:Bytes):Txt.join "" (b.map λx=>(⟨(List.toArray [x.toNat])⟩:Str))=aR b:=by
 apply TL.Ow;rw [TL.join_eq,TL.FK];have e:TL.tl ("" :Str)= []:=rfl;rw [e,join_nil,c9];show (b.map λx=> [x.toNat]).flatten=b.map (·.toNat);induction b with
 | nil=>rfl
 | cons x r ih=>simp only [bI,List.flatten_cons,ih];rfl
def JK (b:Bytes):((b.map λx=>(⟨(List.toArray [x.toNat])⟩:Str)).map (·.length)).sum=b.length:=by
 induction b with
 | nil=>rfl
 | cons x r ih=>rw [bI,bI,kU,ih,aT];show 1+_=_;omega
def nU (c:Cl) (b:Bytes) (j:Nat) (H:Hp) (Q:VK) (E:XK):=aN c.cf E H (qx b j) λtk=> ∀y H',aq H H'->x_ c H' y #[j,tk.1] ((j+tk.2:Nat):Int)->Q (.ref y) H'
def JL (l:Bytes) (i:Nat) (x:UInt8) (h:l[i]? = some x) (hd:isDigit x=true):((decimal (l.take (i+1)):Nat):Int)=(decimal (l.take i):Int) * 10+(x.toNat:Int) - 48:=by
 have hd:48<=x.toNat/\x.toNat<=57:=by simpa [isDigit] using hd
 have e:l.take (i+1)=l.take i++ [x]:=by
  obtain ⟨hl,ex⟩:=bj.mp h;rw [ef hl,ex]
 unfold decimal;rw [e,ur];show ((10 * _+(x.toNat - 48):Nat):Int)=_;omega
def Bm:SP:=λK c vs H Q E=> ∃a b j i x r neg,vs= [.ref a,.int (j:Nat),.int (i:Nat)]/\cz K H a (txt b)/\b.length<=4096/\b.drop i=x :: r/\isDigit x=true/\((neg=false/\i=j)\/(neg=true/\i=j+1))/\aN c.cf E H (match numberOf neg ((b.drop i).takeWhile isDigit) with | none=> .error #[2,j] | some n=> .ok n) (λn=> ∀y H',aq H H'->x_ c H' y #[j,.num n] ((kz isDigit b i:Nat):Int)->Q (.ref y) H')
def sF:AA.hF 4 "number_at" ["text","place","first"] Bm:=by
 nomatch ["text","place","first","behind","negative","count","size","byte"]
 obtain ⟨a,b,j,i,x,r,neg,rfl,ht,sG,hdr,hx,hij,q⟩:=h;nomatch 2,3,eS,aM aJ,ip,bR,3,qI,4,ic,5,jm,bK,bR,T.uY,ic,ic,T.qk,6,bE,rV xa (pv 0) (lU (pv 2)) (lU (pv 3)),7,6,jm,dY,xF,T.uY,ic,T.jT,gw (dH AA) ?_,ig T.nO,FR A0 ?_
 obtain ⟨hxi,hr,hil⟩:=xj hdr;have hneg:decide ((j:Int) < (i:Int))=neg:=by rcases hij with ⟨rfl,rfl⟩ | ⟨rfl,rfl⟩ <;> simp <;> omega
 exists _,U,λm σ H'=> ∃k:Nat,σ= [some (.ref a),some (.int (j:Nat)),some (.int (i:Nat)),some (.int (k:Nat)),none,none,none,none]/\H'=H/\k<=b.length/\m=b.length - k/\kz isDigit b k=kz isDigit b i,#[_,i,U,U,ia hil,U,U],?_;rintro m σ H' ⟨k,rfl,rfl,hk,rfl,e⟩;refine' (λ(rest:kz isDigit b i=k->(_:Prop))=>?_) (λek=>?_);rotate_left 1
 exists _,U,_,U,a,_,U,.inl ht,_,_,U,U,_,U,bG (λe1=>?_) λe1=>?_
 . have gZ:k < b.length:=by simpa [cG] using e1
   obtain ⟨y,hy⟩:=Aw gZ;exists _,U,_,U,a,_,_,_,U,U,ht,iK hy,y,U,_,U,bG (λe2=>?_) λe2=>?_
   . refine dG ?_;exists _,U,_,_,U,U,_,by omega,k+1,U,U,gZ,U,(nS hy e2).symm.trans e
   . exact rest (e.symm.trans (yc hy e2))
 . have hge:b.length<=k:=by simpa [cG] using e1
   exact rest (e.symm.trans (Bk hge))
 subst ek;clear e hk;have hds:(b.drop i).takeWhile isDigit=x :: r.takeWhile isDigit:=by rw [hdr,m5 hx]
 have hlen:(kz isDigit b i:Int) - (i:Int)=((x :: r.takeWhile isDigit).length:Nat):=by
  rw [<-hds];unfold kz;omega
 have hall:∀y∈(b.drop i).takeWhile isDigit,isDigit y=true:=λy hy=>c7.mp uj y hy;rw [hds,C7 hx] at q;exists _,U,_,U,_,_,U,U,?_;simp only [hneg];exists _,U,_,U,_,_,U,U,?_;simp only [hlen];exists _,U,_,U,a,_,_,_,U,U,ht,iK hxi,U,_,U,?_;refine' (λ(rest:¬(x=48/\(neg=true\/1 < (x :: r.takeWhile isDigit).length))->(_:Prop))=>?_) (λec=>?_);rotate_left 1
 . refine bG (λe1=>?_) λe1=>?_
   . have VJ:x=48:=et (show x.toNat=48 by have:(x.toNat:Int)=48:=(by simpa using e1);omega);exists _,U,_,U,bG (λe2=>?_) λe2=>?_
     . rw [ah (.inl #[VJ,.inl e2])] at q;exists _,U,_,_,U,jo.go q (aq.refl _)
     . exists _,U,_,_,U,U,_,U,bG (λe3=>?_) λe3=>?_
       . rw [ah (.inl #[VJ,.inr (by simp at e3 ⊢;omega)])] at q;exists _,U,_,_,U,jo.go q (aq.refl _)
       . exact rest (λz=>z.2.elim (λz=>by rw [e2] at z;cases z) λz=>by simp at e3 z;omega)
   . exact rest (λz=>by rw [z.1] at e1;exact absurd e1 (by decide))
 exists _,U,_,_,U,U,_,U,bG (λe3=>?_) λe3=>?_
 . rw [ah (.inr (.inl (by simp at e3;simp;omega)))] at q;exists _,U,_,_,U,jo.go q (aq.refl _)
 have e3':¬10 < (x :: r.takeWhile isDigit).length:=by simp at e3;simp;omega
 exists _,U,_,U,_,U,_,U,_,U,a,_,U,ht,λp hp=>?_;rw [Gr b isDigit i (ia hil)];exists p,U,#[_,cz.of aa],cE (K:=K) (a:=p) (xs:=txt ((b.drop i).takeWhile isDigit)) (λn σ H2=> ∃v7:Option V,σ= [some (.ref a),some (.int (j:Nat)),some (.int (i:Nat)),some (.int (kz isDigit b i:Nat)),some (.bl neg),some (.int ((x :: r.takeWhile isDigit).length:Nat)),some (.int (decimal (((b.drop i).takeWhile isDigit).take n):Nat)),v7]/\H2=upd H' p (.lst (txt ((b.drop i).takeWhile isDigit))))
  #[_,rfl,rfl] (λn σ H2 _ #[_,_,e]=>by rw [e];exact cz.of aa) ?_ ?_
 . rintro n v σ H2 hn ⟨v7,rfl,rfl⟩;obtain ⟨y,hy,rfl⟩:=Gs hn;exists _,U,_,_,U,U,.inr #[by decide,by decide],_,U,_,_,U,U,_,_,U,U,some (.int (y.toNat:Nat)),?_,U;rw [JL _ _ _ hy (hall y (bc hy))];rfl
 . rintro σ H2 ⟨v7,rfl,rfl⟩;rw [cG,cM,hds];exists _,U,_,_,U,U,_,U,bG (λe4=>?_) λe4=>?_
   . rw [ah (.inr (.inr (by simp at e4;omega)))] at q;exists _,U,_,_,U,jo.go q (aq.upd hp)
   . rw [ae (λz=>z.elim ec λz=>z.elim e3' λz=>by simp at e4;omega)] at q;exists _,U,_,U,bG (λe5=>?_) λe5=>?_
     . rw [e5,ah rfl] at q;exists _,U,_,U,_,U,_,U,sC λy H3 ny s3 hy=>q y H3 ((aq.upd hp).trans s3) hy
     . rw [e5,ae aO] at q;exists _,U,_,U,_,U,sC λy H3 ny s3 hy=>q y H3 ((aq.upd hp).trans s3) hy
def C8:SP:=λK c vs H Q E=> ∃a b j r,vs= [.ref a,.int (j:Nat)]/\cz K H a (txt b)/\b.length<=4096/\b.drop j=45 :: r/\nU c b j H Q E
def C9:AA.hF 5 "minus_at" ["text","place"] C8:=by
 nomatch ["text","place","follower"]
 obtain ⟨a,b,j,r,rfl,ht,sG,hdr,q⟩:=h;nomatch 2,2,dY,eS,aM aJ,bK,bR,T.Au,gw (dH AA) ?_,ig T.Ez,dY,eS,aM aJ,ip,bR,sF
 obtain ⟨hj,hr,hjl⟩:=xj hdr;unfold nU at q;rw [C5 hdr] at q;have j1:((j:Nat):Int)+1=((j+1:Nat):Int):=by omega
 exists _,U,_,_,U,U,?_;simp only [j1];cases r with
 | nil=>
  have hl:b.length=j+1:=by
   have:=bA List.length hdr;rw [cT] at this;simp at this;omega
  have t0:decide (((j+1:Nat):Int) < ((txt b).length:Int))=false:=by rw [cG,hl];simp
  have nn:numberOf true []=none:=rfl;rw [ae (by simp),List.takeWhile_nil,nn] at q;exists _,U,_,U,a,_,U,.inl ht,_,_,U,U,_,U,?_;refine aF t0 ?_;exists _,U,_,U,a,_,U,.inl ht,_,_,U,U,_,U,?_;refine aF t0 ?_;exists _,U,_,_,U,jo.go q (aq.refl _)
 | cons y s=>
  obtain ⟨hy,hs,hyl⟩:=xj hr;have t1:decide (((j+1:Nat):Int) < ((txt b).length:Int))=true:=by rw [cG];simp;omega
  exists _,U,_,U,a,_,U,.inl ht,_,_,U,U,_,U,?_;refine bD t1 ?_;exists _,U,_,U,a,_,_,_,U,U,ht,iK hy,U,_,U,bG (λe1=>?_) λe1=>?_
  . have UE:y=62:=et (show y.toNat=62 by have:(y.toNat:Int)=62:=(by simpa using e1);omega);subst UE;rw [ah (show (62 :: s).head? = some (62:UInt8) from rfl)] at q;exists _,U,_,U,_,_,U,U,sC λz H3 nz s3 hz=>q z H3 s3 ?_;obtain ⟨dx,hz⟩:=hz;exists dx,by rw [hz];congr 3
  . have UE:¬(y :: s).head? = some 62:=λz=>by
     have:y=62:=by simpa using z
     subst this;exact absurd e1 (by decide)
    rw [ae UE] at q;exists _,U,_,U,a,_,U,.inl ht,_,_,U,U,_,U,?_;refine bD t1 ?_;exists _,U,_,U,a,_,_,_,U,U,ht,iK hy,y,U,_,U,bG (λe2=>?_) λe2=>?_
    . exists _,U,_,U,_,U,a,b,j,j+1,y,s,true,U,ht,sG,hr,e2,.inr #[U,U],?_;rw [hr];cases hn:numberOf true ((y :: s).takeWhile isDigit) with
      | none=>rw [hn] at q;exact q
      | some n=>
       rw [hn] at q;refine λz H3 s3 hz=>q z H3 s3 ?_;have:((kz isDigit b (j+1):Nat):Int)=((j+(((y :: s).takeWhile isDigit).length+1):Nat):Int):=by unfold kz;rw [hr];omega
       rw [<-this];exact hz
    . have nn:numberOf true ((y :: s).takeWhile isDigit)=none:=by rw [zY (by rw [e2];exact aO)];rfl
      rw [nn] at q;exists _,U,_,_,U,jo.go q (aq.refl _)
def EW:SP:=λK c vs H Q E=> ∃a b j x r,vs= [.ref a,.int (j:Nat)]/\cz K H a (txt b)/\b.length<=4096/\b.drop j=x :: r/\isLetter x=true/\nU c b j H Q E
def EX:AA.hF 4 "word_at" ["text","place"] EW:=by
 nomatch ["text","place","behind","word","byte"]
 obtain ⟨a,b,j,x,r,rfl,ht,sG,hdr,hx,q⟩:=h;nomatch 2,2,eS,aM aJ,sE,bR,ip,bR,2,qI,ic,jm,T.nM,3,sg ?_ ?_,ie (bE (rV xa (pv 0) (lU (pv 1)) (lU (pv 2)))) [("byte",4)] (λ_ _ _ _ _=>(bL 4)) (λ_ _ _ _ _=>(dv (wF AA) (pU (pv 4)))),gw (dH AA) ?_,ig T.Ey
 obtain ⟨hj,hr,hjl⟩:=xj hdr;unfold nU at q;rw [EQ hdr hx] at q;exists _,U,λm σ H'=> ∃k:Nat,σ= [some (.ref a),some (.int (j:Nat)),some (.int (k:Nat)),none,none]/\H'=H/\k<=b.length/\m=b.length - k/\kz (λc=>isLetter c || isDigit c) b k=kz (λc=>isLetter c || isDigit c) b j,#[_,j,U,U,ia hjl,U,U],?_;rintro m σ H' ⟨k,rfl,rfl,hk,rfl,e⟩;refine' (λ(rest:kz (λc=>isLetter c || isDigit c) b j=k->(_:Prop))=>?_) (λek=>?_);rotate_left 1
 . exists _,U,_,U,a,_,U,.inl ht,_,_,U,U,_,U,bG (λe1=>?_) λe1=>?_
   . have gZ:k < b.length:=by simpa [cG] using e1
     obtain ⟨y,hy⟩:=Aw gZ;exists _,U,_,U,a,_,_,_,U,U,ht,iK hy,y,U,_,U,bG (λe2=>?_) λe2=>?_
     . refine dG ?_;exists _,U,_,_,U,U,_,by omega,k+1,U,U,gZ,U,(nS hy (by simp [e2])).symm.trans e
     . exists _,U,_,U,a,_,_,_,U,U,ht,iK hy,y,U,_,U,bG (λe3=>?_) λe3=>?_
       . refine dG ?_;exists _,U,_,_,U,U,_,by omega,k+1,U,U,gZ,U,(nS hy (by simp [e3])).symm.trans e
       . exact rest (e.symm.trans (yc hy (by simp [e2,e3])))
   . have hge:b.length<=k:=by simpa [cG] using e1
     exact rest (e.symm.trans (Bk hge))
 subst ek;have hge:j<=kz (λc=>isLetter c || isDigit c) b j:=dS _ _;exists _,U,_,U,_,_,U,U,_,_,U,U,_,U,bG (λe1=>?_) λe1=>?_
 . rw [ah (by simp at e1;omega)] at q;exists _,U,_,_,U,jo.go q (aq.refl _)
 rw [ae (by simp at e1;omega)] at q;have hall:∀y∈(b.drop j).takeWhile (λc=>isLetter c || isDigit c),(isLetter y || isDigit y)=true:=λy hy=>c7.mp uj y hy;have UF:((b.drop j).takeWhile (λc=>isLetter c || isDigit c)).length<=16:=by
  have:kz (λc=>isLetter c || isDigit c) b j - j=((b.drop j).takeWhile (λc=>isLetter c || isDigit c)).length:=by unfold kz;omega
  simp at e1;omega
 exists #[_,U],_,U,_,U,_,U,_,U,_,U,a,_,U,ht,λp hp=>?_;rw [Gr b _ j (ia hjl)];exists p,U,#[_,cz.of aa],λD hD=>jw (K:=K) (a:=p) (((b.drop j).takeWhile (λc=>isLetter c || isDigit c)).map λx=>V.str ⟨(List.toArray [x.toNat])⟩) (by rw [aB,cG]) hD (cz.of aa) (by rw [cG];exact aP UF (by decide)) (λi v y H2 R hv hy s2 kk=>?_) λH2 s2 e2=>?_
 . obtain ⟨z,hz,rfl⟩:=Gs hv;have hy':y=V.str ⟨(List.toArray [z.toNat])⟩:=by rw [bz,hz] at hy;exact (bF hy).symm
   subst hy';exists U,_,U,z,U,hall z (bc hz),kk H2 (aq.refl _)
 . exists _,D,((b.drop j).takeWhile (λc=>isLetter c || isDigit c)).map λx=>(⟨(List.toArray [x.toNat])⟩:Str),U,U,.inl (cz.of (by rw [e2,c9];rfl)),?_,?_
   . rw [JK,aB];show _+_ * 0<=_;omega
   rw [EV];exists _,U,_,U,_,U,sC λz H3 nz s3 hz=>q z H3 (((aq.upd hp).trans s2).trans s3) ?_;obtain ⟨dx,hz⟩:=hz;exists dx,?_;rw [hz];have:((j+(kz (λc=>isLetter c || isDigit c) b j - j):Nat):Int)=((kz (λc=>isLetter c || isDigit c) b j:Nat):Int):=by omega
   unfold tokF;rw [this];rfl
abbrev Tok:=VaprbBase.Tok
def A2 {α:Type} (R:V->α->Prop):List V->List α->Prop
 | [],[]=>True
 | v :: vs,a :: as=>R v a/\A2 R vs as
 | _,_=>False
def A2.len {R:V->α->Prop}:∀{vs:List V} {as:List α},A2 R vs as->vs.length=as.length
 | [],[],_=>rfl
 | _ :: _,_ :: _,h=>bA (· +1) (A2.len h.2)
 | [],_ :: _,h=>h.elim
 | _ :: _,[],h=>h.elim
def A2.mono {R S:V->α->Prop} (i:∀v a,R v a->S v a):∀{vs:List V} {as:List α},A2 R vs as->A2 S vs as
 | [],[],_=>au
 | _ :: _,_ :: _,h=>#[i _ _ h.1,A2.mono i h.2]
 | [],_ :: _,h=>h.elim
 | _ :: _,[],h=>h.elim
def A2.snoc {R:V->α->Prop} {a:α} (r:R v a):∀{vs:List V} {as:List α},A2 R vs as->A2 R (vs++ [v]) (as++ [a])
 | [],[],_=>#[r,au]
 | _ :: _,_ :: _,h=>#[h.1,A2.snoc r h.2]
 | [],_ :: _,h=>h.elim
 | _ :: _,[],h=>h.elim
def A2.append {R:V->α->Prop} {ws:List V} {bs:List α} (r:A2 R ws bs):∀{vs:List V} {as:List α},A2 R vs as->A2 R (vs++ws) (as++bs)
 | [],[],_=>r
 | _ :: _,_ :: _,h=>#[h.1,A2.append r h.2]
 | [],_ :: _,h=>h.elim
 | _ :: _,[],h=>h.elim
def A2.get {R:V->α->Prop}:∀{vs:List V} {as:List α},A2 R vs as->∀{i:Nat} {v:V},vs[i]? = some v->∃a,as[i]? = some a/\R v a
 | [],_,_,i,v,e=>by simp at e
 | w :: vs,a :: as,h,0,v,e=>#[a,rfl,by simp at e;subst e;exact h.1]
 | w :: vs,a :: as,h,i+1,v,e=>by
  obtain ⟨a',e',r⟩:=A2.get h.2 (i:=i) (v:=v) (by simpa using e);exists a',by simpa using e',r
 | _ :: _,[],h,_,_,_=>h.elim
def A2.get' {R:V->α->Prop} {vs:List V} {as:List α} (h:A2 R vs as) {a:α} (e:as[i]? = some a):∃v,vs[i]? = some v/\R v a:=by
 have hl:i < vs.length:=by rw [h.len];exact (bj.mp e).1
 obtain ⟨a',e',r⟩:=h.get (bB hl);rw [e] at e';cases e';exists _,bB hl,r
def A2.of_get {R:V->α->Prop}:∀{vs:List V} {as:List α},vs.length=as.length->(∀(i:Nat) v,vs[i]? = some v->∃a,as[i]? = some a/\R v a)->A2 R vs as
 | [],[],_,_=>au
 | v :: vs,a :: as,hl,h=>by
  obtain ⟨a',e,r⟩:=h 0 v rfl;cases e;exists r,A2.of_get (by simpa using hl) λi v e=>by
   obtain ⟨a',e',r⟩:=h (i+1) v (by simpa using e);exists a',by simpa using e',r
 | [],_ :: _,hl,_=>by cases hl
 | _ :: _,[],hl,_=>by cases hl
def A2.map {R:V->α->Prop} {S:V->β->Prop} {f:α->β} (i:∀v a,R v a->S v (f a)):∀{vs:List V} {as:List α},A2 R vs as->A2 S vs (as.map f)
 | [],[],_=>au
 | _ :: _,_ :: _,h=>#[i _ _ h.1,A2.map i h.2]
 | [],_ :: _,h=>h.elim
 | _ :: _,[],h=>h.elim
def A2.drop {R:V->α->Prop}:∀(n:Nat) {vs:List V} {as:List α},A2 R vs as->A2 R (vs.drop n) (as.drop n)
 | 0,_,_,h=>h
 | n+1,[],[],_=>au
 | n+1,_ :: _,_ :: _,h=>A2.drop n h.2
 | _+1,[],_ :: _,h=>h.elim
 | _+1,_ :: _,[],h=>h.elim
def sI:Tok->Prop
 | .name b=>b≠ []/\b.all (λc=>isLetter c || isDigit c)=true/\b.length<=16
 | .num n=> -1000000000<=n/\n<=1000000000
 | .sign n=>n=1\/n∈ [61,123,125,40,41,91,93,44,59,58,47,124]
 | .halt_=>True
def Tks:Toks->Prop
 | []=>False
 | t :: r=>sI t.tok/\(if t.tok= .halt_ then r= [] else Tks r)
def Tks.ne (h:Tks l):∃t r,l=t :: r:=by cases l with | nil=>exact h.elim | cons t r=>exists t,r,U
def Tks.tail (h:Tks (t :: l)) (n:t.tok≠ .halt_):Tks l:=by
 have:=h.2;rw [ae n] at this;exact this
def Tks.wf (h:Tks (t :: l)):sI t.tok:=h.1
def lw {a:Bytes} (h:aR a=aR b):a=b:=by
 have h:(a.map (·.toNat)).toArray=(b.map (·.toNat)).toArray:=bA Str.cps h;have h:a.map (·.toNat)=b.map (·.toNat):=by simpa using h
 exact (List.map_inj_right λx y e=>et e).mp h
def d3 (s:Str) (tk:Tok):=(∀t,sI t->decide (V.str (wordOf t)=V.str s)=(t == tk))/\tk≠ .halt_
def VL (x:UInt8):(isLetter x || isDigit x)=true->¬x.toNat=1/\¬x.toNat∈ [61,123,125,40,41,91,93,44,59,58,47,124]/\x.toNat≠45:=by
 intro h;simp [isLetter,isDigit] at h;simp;omega
def Mw (hb:b.all (λc=>isLetter c || isDigit c)=true) (hn:b≠ []):d3 (aR b) (.name b):=by
 exists λt ht=>?_,nofun;rw [b9,dr,bO];constructor
 . intro e;have e:wordOf t=aR b:=V.str.inj e;cases t with
   | name a=>rw [lw e]
   | num n=>
    exfalso;have:(aR b).cps.size=0:=by rw [<-e];rfl
    simp [aR] at this;exact hn this
   | halt_=>
    exfalso;have:(aR b).cps.size=0:=by rw [<-e];rfl
    simp [aR] at this;exact hn this
   | sign n=>
    exfalso;cases b with
    | nil=>exact hn rfl
    | cons x r=>
     have hx:=VL x (by simp at hb;simpa using hb.1);have e:(if n=1 then Str.ofString "->" else ⟨(List.toArray [n])⟩)=aR (x :: r):=e;by_cases h1:n=1
     . rw [ah h1] at e;have e:(Str.ofString "->").cps.toList=(aR (x :: r)).cps.toList:=by rw [e]
       have e: [45,62]=x.toNat :: r.map (·.toNat):=e;exact hx.2.2 (pz e).1.symm
     . rw [ae h1] at e;have e: [n]=x.toNat :: r.map (·.toNat):=bA (λs=>s.cps.toList) e;have e1:n=x.toNat:=(pz e).1;rcases ht with ht | ht
       . exact h1 ht
       . exact hx.2.1 (e1 ▸ ht)
 . rintro rfl;rfl
def mh (hn:n∈ [61,123,125,40,41,91,93,44,59,58,47,124]):d3 ⟨(List.toArray [n])⟩ (.sign n):=by
 have n1:n≠1:=λe=>by subst e;exact absurd hn (by decide)
 exists λt ht=>?_,nofun;rw [b9,dr,bO];constructor
 . intro e;have e:wordOf t=⟨(List.toArray [n])⟩:=V.str.inj e;cases t with
   | name b=>
    exfalso;have e:b.map (·.toNat)= [n]:=bA (λs=>s.cps.toList) e;cases b with
    | nil=>cases e
    | cons x r=>
     have hx:=VL x (by have:=ht.2.1;simp at this;simpa using this.1);have e1:x.toNat=n:=(pz e).1;exact hx.2.1 (e1 ▸ hn)
   | num m=>have e:([]:List Nat)= [n]:=bA (λs=>s.cps.toList) e;cases e
   | halt_=>have e:([]:List Nat)= [n]:=bA (λs=>s.cps.toList) e;cases e
   | sign m=>
    have e:(if m=1 then Str.ofString "->" else ⟨(List.toArray [m])⟩)=(⟨(List.toArray [n])⟩:Str):=e;by_cases h1:m=1
    . rw [ah h1] at e;have e:([45,62]:List Nat)= [n]:=bA (λs=>s.cps.toList) e;cases e
    . rw [ae h1] at e;have e: [m]= [n]:=bA (λs=>s.cps.toList) e;cases e;rfl
 . rintro rfl;show V.str (if n=1 then _ else _)=_;rw [ae n1]
def Bn (s:String) {x:Str} (e:aR (word s)=x) (hb:(word s).all (λc=>isLetter c || isDigit c)=true) (hn:word s≠ []):d3 x (.name (word s)):=e ▸ Mw hb hn
def vT:d3 "(" (.sign 40):=mh (by decide)
def sJ:d3 ")" (.sign 41):=mh (by decide)
def vU:d3 "," (.sign 44):=mh (by decide)
def RE:d3 ":" (.sign 58):=mh (by decide)
def JM:d3 ";" (.sign 59):=mh (by decide)
def sw_eq:d3 "=" (.sign 61):=mh (by decide)
def RF:d3 "/" (.sign 47):=mh (by decide)
def Mx:d3 "flag" (.name (word "flag")):=Bn "flag" rfl (by decide) (by decide)
def Pw:d3 "num" (.name (word "num")):=Bn "num" rfl (by decide) (by decide)
def Hv:d3 "chance" (.name (word "chance")):=Bn "chance" rfl (by decide) (by decide)
def Hw:d3 "budget" (.name (word "budget")):=Bn "budget" rfl (by decide) (by decide)
def JN:d3 "def" (.name (word "def")):=Bn "def" rfl (by decide) (by decide)
def JO:d3 "let" (.name (word "let")):=Bn "let" rfl (by decide) (by decide)
def yd:d3 "observe" (.name (word "observe")):=Bn "observe" rfl (by decide) (by decide)
def Gu:d3 "tell" (.name (word "tell")):=Bn "tell" rfl (by decide) (by decide)
def iU (c:Cl) (H:Hp) (a:Addr) (t:PTok):= ∃bh,x_ c H a t bh
def iU.mono (C:CT K c) (h:iU c H a t) (i:bX c H H'):iU c H' a t:=let #[bh,e]:=h;#[bh,e.mono C i]
def Tk (c:Cl) (H:Hp) (v:V) (t:PTok):= ∃a,v= .ref a/\iU c H a t
def Tk.mono (C:CT K c) (h:Tk c H v t) (i:bX c H H'):Tk c H' v t:=let #[a,e,h]:=h;#[a,e,h.mono C i]
def Bo (c:Cl) (H:Hp) (p:Addr) (l:Toks):= ∃vs,FL H p vs/\A2 (Tk c H) vs l/\vs.length<=4097
def bT (c:Cl) (H:Hp) (r:Addr) (l:Toks):= ∃dx tl vs,∃k:Nat,H r=some (.ins c.rd dx [("tokens",.ref tl),("taken",.int k)])/\FL H tl vs/\A2 (Tk c H) (vs.drop k) l/\Tks l/\vs.length<=4097
def bT.sb (C:CT K c) (h:bT c H r l) (s:aq H H'):bT c H' r l:=by
 obtain ⟨dx,tl,vs,k,e,f,a,t,z⟩:=h;exists dx,tl,vs,k,s _ _ e,f.mono (c:=c) s.Y,a.mono λ_ _ q=>q.mono C s.Y,t,z
def bT.Y (h:bT c H r l) (s:Sb r H H'):bX c H H':=by
 obtain ⟨dx,tl,vs,k,e,_⟩:=h;exact s.Y e
def bT.ye (h:bT c H r l):Tks l:=by
 obtain ⟨dx,tl,vs,k,e,f,a,t,z⟩:=h;exact t
section
def aQ.step {x:Except Fault α} {f:α->Except Fault β} {ok:β->Prop} {ok':α->Prop} (q:aQ cf E r H (x >>= f) ok) (h:∀a,x= .ok a->aQ cf E r H (f a) ok->ok' a):aQ cf E r H x ok':=by
 cases x with
 | ok a=>exact h a rfl q
 | error e=>exact q
def aQ.map {x:Except Fault α} {f:α->β} {ok:β->Prop} {ok':α->Prop} (q:aQ cf E r H (x.map f) ok) (h:∀a,x= .ok a->ok (f a)->ok' a):aQ cf E r H x ok':=by
 cases x with
 | ok a=>exact h a rfl q
 | error e=>exact q
def aQ.imp {x:Except Fault α} {ok ok':α->Prop} (q:aQ cf E r H x ok) (h:∀a,x= .ok a->ok a->ok' a):aQ cf E r H x ok':=by
 cases x with
 | ok a=>exact h a rfl q
 | error e=>exact q
def aQ.on {x:Except Fault α} {ok:α->Prop} (q:aQ cf E r H x ok) (s:Sb r H H1):aQ cf E r H1 x ok:=by
 cases x with
 | ok a=>exact q
 | error e=>exact li.on q s
def aQ.SW {x:Except Fault α} {ok:α->Prop} (q:aQ cf E r H x ok) (s:Sb r H H1):aN cf E H1 x ok:=by
 cases x with
 | ok a=>exact q
 | error e=>exact li.SW q s
def aN.step {x:Except Fault α} {f:α->Except Fault β} {ok:β->Prop} {ok':α->Prop} (q:aN cf E H (x >>= f) ok) (h:∀a,x= .ok a->aN cf E H (f a) ok->ok' a):aN cf E H x ok':=by
 cases x with
 | ok a=>exact h a rfl q
 | error e=>exact q
def aN.map {x:Except Fault α} {f:α->β} {ok:β->Prop} {ok':α->Prop} (q:aN cf E H (x.map f) ok) (h:∀a,x= .ok a->ok (f a)->ok' a):aN cf E H x ok':=by
 cases x with
 | ok a=>exact h a rfl q
 | error e=>exact q
def aN.imp {x:Except Fault α} {ok ok':α->Prop} (q:aN cf E H x ok) (h:∀a,x= .ok a->ok a->ok' a):aN cf E H x ok':=by
 cases x with
 | ok a=>exact h a rfl q
 | error e=>exact q
def aN.on {x:Except Fault α} {ok:α->Prop} (q:aN cf E H x ok) (s:aq H H1):aN cf E H1 x ok:=by
 cases x with
 | ok a=>exact q
 | error e=>exact jo.on q s
end
def Px {l:Bytes} {t:Tok} {k:Nat} (h:token l=some (t,k)):sI t/\t≠ .halt_:=by
 have num:∀(neg:Bool) (ds:Bytes) (n:Int),numberOf neg ds=some n-> -1000000000<=n/\n<=1000000000:=λneg ds n e=>by
  unfold numberOf at e;split at e
  . cases e
  . split at e
    . cases e
    . rename_i hh;have hh:¬1000000000 < decimal ds:=λz=>hh (.inl z);have e:=bF e;split at e <;> omega
 unfold token at h;split at h
 . cases h
 . rename_i b r;split at h
   . rename_i hb;simp only at h;split at h
     . cases h
     . rename_i hl;cases h;exists #[?_,?_,?_],nofun
       . rw [m5 (by simp [hb])];exact kL _ _
       . exact uj
       . have:NAME=16:=rfl;omega
   . split at h
     . rw [gm] at h;obtain ⟨n,e1,e⟩:=h;cases e;exists num _ _ _ e1,nofun
     . split at h
       . split at h
         . cases h;exists .inl U,nofun
         . rw [gm] at h;obtain ⟨n,e1,e⟩:=h;cases e;exists num _ _ _ e1,nofun
       . split at h
         . rename_i hs;cases h;exists .inr ?_,nofun;simp [SIGNS] at hs;rcases hs with h | h | h | h | h | h | h | h | h | h | h | h <;> subst h <;> decide
         . cases h
def xk:∀(n p:Nat) (l:Bytes) (t:Toks),lex n p l= .ok t->Tks t
 | 0,p,l,t,h=>by cases h;exists au,by rw [ah rfl]
 | n+1,p,[],t,h=>by cases h;exists au,by rw [ah rfl]
 | n+1,p,b :: r,t,h=>by
  rw [lex] at h;split at h
  . exact xk n _ _ t h
  . split at h
    . exact xk n _ _ t h
    . split at h
      . cases h
      . rename_i tk k e;have w:=Px e;cases q:lex n (p+k) ((b :: r).drop k) with
        | error f=>rw [q] at h;cases h
        | ok l=>
         rw [q] at h;cases h;exists w.1,by rw [ae w.2];exact xk n _ _ l q
def yf (h:VaprbBase.tokens b= .ok l):Tks l:=by
 unfold VaprbBase.tokens at h;split at h
 . cases h
 . exact xk _ _ _ _ h
def mR {vs:List V} (h:H D=some (.lst vs)):SH K "list" (.ref D) H:= .inl #[rfl,_,cz.of h]
def Hx:∀n:Nat,n < 256->cy uX (.inl (n:Int))=if (SIGNS.map (·.toNat)).contains n=true then some (V.str ⟨(List.toArray [n])⟩) else none:=by decide+kernel
def signs_at (x:UInt8):cy uX (.inl (x.toNat:Int))=if SIGNS.contains x=true then some (V.str ⟨(List.toArray [x.toNat])⟩) else none:=by
 rw [Hx _ x.toNat_lt];have:(SIGNS.map (·.toNat)).contains x.toNat=SIGNS.contains x:=by
  rw [b9,eh,eh];exists λh=>by obtain ⟨y,hy,e⟩:=cj.mp h;exact et e ▸ hy,λh=>cj.mpr #[x,h,rfl]
 rw [this]
def JP (h:SIGNS.contains x=true):x.toNat≠1:=λe=>by
 have:x=1:=et e;subst this;exact absurd h (by decide)
def C_:SP:=λK c vs H Q E=> ∃a b j,vs= [.ref a,.int (j:Nat)]/\cz K H a (txt b)/\b.length<=4096/\j < b.length/\nU c b j H Q E
def Db:AA.hF 6 "token_at" ["text","place"] C_:=by
 nomatch ["text","place","byte"]
 obtain ⟨a,b,j,rfl,ht,sG,hj,q⟩:=h;nomatch 2,2,bR,sE,EX,ip,sF,bK,T.Gk,C9,Be,fB T.gT,gw (dH AA) ?_,ig T.Ez,CU (fB T.gT) (pv 2) (λ_ _=>rfl),dY
 obtain ⟨x,hx⟩:=Aw hj;have hdr:=sy hx;exists _,U,_,U,a,_,_,_,U,U,ht,iK hx,?_;exists _,U,x,U,_,U,bG (λe1=>?_) λe1=>?_
 . exists _,U,_,U,a,b,j,x,_,U,ht,sG,hdr,e1,q
 exists _,U,x,U,_,U,bG (λe2=>?_) λe2=>?_
 . exists _,U,_,U,_,U,a,b,j,j,x,_,false,U,ht,sG,hdr,e2,.inl #[U,U],?_;unfold nU at q;rw [C4 hdr e1 e2] at q;cases hn:numberOf false ((b.drop j).takeWhile isDigit) with
   | none=>rw [hn] at q;exact q
   | some n=>
    rw [hn] at q;refine λy H' s hy=>q y H' s ?_;have:(j+(kz isDigit b j - j):Nat)=kz isDigit b j:=by have:j<=kz isDigit b j:=dS _ _;omega
    show x_ c H' y _ ((j+(kz isDigit b j - j):Nat):Int);rw [this];exact hy
 exists _,U,U,_,U,bG (λe3=>?_) λe3=>?_
 . have UG:x=45:=et (show x.toNat=45 by have:(x.toNat:Int)=45:=(by simpa using e3);omega);subst UG;exists _,U,_,U,a,b,j,_,U,ht,sG,hdr,q
 have UG:x≠45:=λz=>by subst z;exact absurd e3 (by decide)
 unfold nU at q;rw [ER hdr e1 e2 UG] at q;have sv:=signs_at x;exists _,U,g.signs,uX,.inl (x.toNat:Int),U,U,T.Bh,_,U,?_;by_cases hs:SIGNS.contains x=true
 . rw [ah hs] at sv q;rw [sv];refine nB ?_;exists _,U,g.signs,uX,.inl (x.toNat:Int),_,U,U,T.Bh,sv,_,U,_,U,_,_,U,U,sC λy H' ny s hy=>q y H' s ?_;obtain ⟨dx,hy⟩:=hy;exists dx,?_;rw [hy];have hw:wordOf (.sign x.toNat)=⟨(List.toArray [x.toNat])⟩:=ae (JP hs);show _=some (HO.ins c.tok dx [_,(_,V.str (wordOf (.sign x.toNat))),_,_,_]);rw [hw];rfl
 . rw [ae hs] at sv q;rw [sv];refine mQ ?_;exists _,U,_,_,U,jo.go q (aq.refl _)
def Bp:SP:=λK c vs H Q E=> ∃a b,vs= [.ref a]/\cz K H a (txt b)/\aN c.cf E H (VaprbBase.tokens b) λl=> ∀p H',aq H H'->Bo c H' p l->Q (.ref p) H'
def sK:AA.hF 7 "tokens_of" ["text"] Bp:=by
 nomatch ["text","tokens","place","token"]
 obtain ⟨a,b,rfl,ht,q⟩:=h;nomatch 2,ic,aM aJ,T.gy,T.gy,1,2,lu,eS,aM aJ,3,Db,cJ bN,2,lu,cJ bN,gw (dH AA) ?_,ig T.Jw,aM aJ,aM aJ,1
 exists _,U,a,_,U,.inl ht,_,_,U,U,_,U,bG (λe1=>?_) λe1=>?_
 . have hl:TEXT < b.length:=by simp [cG] at e1;have:TEXT=4096:=rfl;omega
   unfold VaprbBase.tokens at q;rw [ah hl] at q;exists _,_,U,jo.go q (aq.refl _)
 have hl:¬TEXT < b.length:=by simp [cG] at e1;have:TEXT=4096:=rfl;omega
 have sG:b.length<=4096:=Nat.not_lt.mp hl;rw [M0.Ho b hl] at q;exists aD _,λD hD=>?_;have ht1:=(aq.upd (o:= .lst []) hD).seq ht;exists _,U,a,b,0,U,ht1,aD _,λi WX hi e hb=>?_;exists λm σ H'=> ∃(i:Nat) (vs:List V) (done:Toks) (v3:Option V),σ= [some (.ref a),some (.ref D),some (.int (i:Nat)),v3]/\aq H H'/\H' D=some (.lst vs)/\A2 (Tk c H') vs done/\i<=b.length/\m=b.length - i/\vs.length<=i/\(∀x r,b.drop i=x :: r->isBlank x=false/\x≠35)/\M0.nJ b 0=(M0.nJ b i).map (done++ ·),
  #[_,i,[],[],none,rfl,aq.upd hD,aa,au,hi,rfl,aD _,hb,?_],?_
 . rw [e];cases M0.nJ b 0 <;> rfl
 clear e hb hi WX i;rintro m σ H' ⟨i,vs,done,v3,rfl,hs,hH,hA,hi,rfl,hvl,hb,e⟩;have ht':=hs.seq ht;exists _,U,_,U,a,_,U,.inl ht',_,_,U,U,_,U,bG (λe1=>?_) λe1=>?_
 . have gZ:i < b.length:=by simpa [cG] using e1
   obtain ⟨x,hx⟩:=Aw gZ;have hdr:=sy hx;have lx:=M0.Gj hdr;obtain ⟨n1,n2⟩:=hb _ _ hdr;rw [ae (by rw [n1];exact aO),ae (by simpa using n2)] at lx;refine dG ?_;exists _,U,_,U,a,b,i,U,ht',sG,gZ,?_;unfold nU qx;cases hk:token (b.drop i) with
   | none=>
    rw [hk] at lx;rw [e,lx] at q;exact jo.on q hs
   | some tk=>
    obtain ⟨t,k⟩:=tk;rw [hk] at lx;simp only at lx;have hkl:=M0.uW hk;rw [cT] at hkl;intro y H2 s2 hy;have eN:=s2 _ _ hH;exists _,U,mR eN,_,U,D,vs,_,U,U,eN,by have:(4096:Nat) < sizeLine:=(by decide);omega,?_;have im:bX c H2 (upd H2 D (.lst (vs++ [.ref y]))):=bX.upd eN rfl;have hs3:aq H (upd H2 D (.lst (vs++ [.ref y]))):=(hs.trans s2).bM hD;have WY:=hy.mono C im;obtain ⟨dy,ey⟩:=WY;exists _,U,_,U,fr ey U #[a,b,i+k,U,hs3.seq ht,by omega,λi' hi1 hi2 e' hb'=>?_];exists _,?_,i',vs++ [.ref y],done++ [#[i,t]],_,U,hs3,aa,?_,hi2,U,?_,hb',?_
    . omega
    . exact (hA.mono λv a z=>(z.mono C s2.Y).mono C im).snoc #[y,rfl,_,dy,ey]
    . rw [ao,aC];omega
    . rw [e,lx,e'];cases M0.nJ b (i+k) with
      | error f=>rfl
      | ok l=>show Except.ok (done++(#[i,t] :: l))=Except.ok (done++ [#[i,t]]++l);rw [bw];rfl
 . have hge:b.length<=i:=by simpa [cG] using e1
   have hib:i=b.length:=by omega
   rw [e,M0.Ju b i hib] at q;have q:∀p H',aq H H'->Bo c H' p (done++ [#[i,.halt_]])->Q (.ref p) H':=q;exists _,U,mR hH,_,U,a,_,U,.inl ht',_,U,a,_,U,.inl ht',λy dx ny nd _=>#[y,dx,_,_,_,_,_,U,aa,λH2 hy kp=>#[U,?_]];have s2:aq H' H2:=aq.made ny nd kp;have hy:x_ c H2 y #[(txt b).length,.halt_] ((txt b).length:Nat):=#[dx,hy];have eN:=s2 _ _ hH;have im:bX c H2 (upd H2 D (.lst (vs++ [.ref y]))):=bX.upd eN rfl;exists D,vs,_,U,U,eN,by have:(4096:Nat) < sizeLine:=(by decide);omega,?_;exists _,U,D,_,U,aa,au,λo=>?_;have S1:bX c H2 (upd (upd H2 D (.lst (vs++ [.ref y]))) D (.gR o (.lst (vs++ [.ref y])))):=im.trans (bX.upd aa rfl);refine q D _ (((hs.trans s2).bM hD).bM hD) #[_,#[o,aa],(hA.mono λv a z=>(z.mono C s2.Y).mono C S1).snoc #[y,rfl,(b.length:Nat),?_],?_]
   . rw [ao,aC];omega
   . refine x_.mono C ?_ S1;rw [hib];rw [cG] at hy;exact hy
def isNm:Tok->Bool
 | .name b=>!VaprbBase.RESERVED.contains b
 | _=>false
def Dc (t:PTok) (l:Toks):VaprbBase.nameNext (t :: l)=isNm t.tok:=by
 obtain ⟨p,k⟩:=t;cases k <;> rfl
def UH (l:List String):Tok->Bool
 | .name b=>(l.map word).contains b
 | _=>false
def pO {t:Tok} (ht:sI t):∀(l:List String),(∀s∈l,d3 (Str.ofString s) (.name (word s)))->inV (.str (wordOf t)) (jR l)=UH l t
 | [],_=>by cases t <;> rfl
 | s :: l,h=>by
  have ih:=pO ht l λx hx=>h x (aW _ hx);have h1:=(h s bi).1 t ht;have e1:Im (V.str (Str.ofString s)) (V.str (wordOf t))=(t == .name (word s)):=by
   rw [<-h1];show (Str.ofString s == wordOf t)=_;rw [b9,bO,dr];exists λe=>by rw [e],λe=>(V.str.inj e).symm
  show (Im (V.str (Str.ofString s)) (V.str (wordOf t)) || inV (.str (wordOf t)) (jR l))=_;rw [e1,ih];cases t with
  | name b=>
   show _=((s :: l).map word).contains b;rw [bI,fJ];congr 1;rw [b9,bO,bO];exists λe=>by cases e;rfl,λe=>by rw [e]
  | num n=>rfl
  | sign n=>rfl
  | halt_=>rfl
def EY {l:List String} (h:∀s∈l,aR (word s)=Str.ofString s/\(word s).all (λc=>isLetter c || isDigit c)=true/\word s≠ []):∀s∈l,d3 (Str.ofString s) (.name (word s)):=λs hs=>Bn s (h s hs).1 (h s hs).2.1 (h s hs).2.2
def My:List String:= ["chance","budget","def","let","observe","tell","table","net","flag","num","if","flip","pick","uniform","given","weigh","true","false"]
def Py:∀s∈My,d3 (Str.ofString s) (.name (word s)):=EY (by decide)
def gi:∀l:List String,(jR l).all iN=true
 | []=>rfl
 | s :: l=>by show (true && (jR l).all iN)=true;rw [gi l];rfl
def Hy (t:Tok):decide (V.str (formOf t)=V.str "word")=(match t with | .name _=>true | _=>false):=by cases t <;> rfl
def Pz:Tok->Bool
 | .num _=>true
 | _=>false
def yg (t:Tok):decide (V.str (formOf t)=V.str "number")=Pz t:=by cases t <;> rfl
def JQ (t:Tok):decide (V.str (formOf t)=V.str "end")=(t == .halt_):=by cases t <;> rfl
def bT.me {m:Str} {G:Prop} (h:bT c H r l) (q:G) (hm:m≠ "tokens" /\m≠ "taken" :=by decide):∃a dx fs,V.ref r= .ref a/\H a=some (.ins c.rd dx fs)/\List.lookup m fs=none/\G:=by
 obtain ⟨dx,tl,vs,k,e,_⟩:=h;exists r,dx,_,U,e,?_,q;rw [eO,eO];have h1:(m == ("tokens" :Str))=false:=by simpa using hm.1
 have h2:(m == ("taken" :Str))=false:=by simpa using hm.2
 rw [h1,h2];rfl
def EZ:SP:=λK c vs H Q _=> ∃a t,vs= [.ref a]/\iU c H a t/\sI t.tok/\Q (.bl (isNm t.tok)) H
def qS:AA.h0 1 "is_name" ["token"] EZ:=by
 nomatch ["token"]
 obtain ⟨a,t,rfl,⟨bh,dx,ht⟩,hw,q⟩:=h;nomatch 1,AW ?_ ?_,bK,ig T.Ey,uL ?_,lV,fB T.x4
 exists _,U,fr ht U #[U,_,U,?_];rw [Hy];obtain ⟨p,tk⟩:=t;cases tk with
 | name b=>
  refine nB ?_;exists _,U,fr ht U #[g.reserved,_,U,.inr (T.x6.sq _),U,gi My,?_];rw [ah rfl];have:=pO hw My Py;have q':Q (.bl (!inV (.str (wordOf (.name b))) (jR My))) H:=by rw [this];exact q
  exact q'
 | num n=>exact mQ q
 | sign n=>exact mQ q
 | halt_=>exact mQ q
def qT:SP:=λK c vs H Q _=> ∃x dx v1,vs= [.ref x,v1]/\H x=some (.ins c.rd dx [])/\∀H':Hp,H' x=some (.ins c.rd dx [("tokens",v1),("taken",.int 0)])->(∀b o,H b=some o->b≠x->H' b=some o)->Q .cp H'
def jx:AA.c0 1 c.rd "Reader" ["self","tokens"] qT:=by
 refine AA.i0 AA.jX (N:= ["self","tokens"]) λT C FT H Q E nN hr h=>?_;obtain ⟨x,dx,v1,rfl,hx,k⟩:=h;nomatch 2
 exists _,U,_,U,fw hx ?_;exists _,U,fw aa ?_;exact k _ aa λb o e ne=>by rw [aA ne,aA ne];exact e
def wG:SP:=λK c vs H Q _=> ∃r t l,vs= [.ref r]/\bT c H r (t :: l)/\∀a,iU c H a t->Q (.ref a) H
def aU:AA.m0 1 c.rd "ahead" ["self"] wG:=by
 refine AA.SX AA.nP (N:= ["self"]) λT C FT H Q E nN hr h=>?_;obtain ⟨r,t,l,rfl,⟨dx,tl,vs,k,e,f,a2,tk,z⟩,q⟩:=h;nomatch 1,bR
 obtain ⟨v,hv,a,rfl,ha⟩:=a2.get' (i:=0) (a:=t) rfl;have hv:vs[k]? = some (V.ref a):=by rw [oX] at hv;exact hv
 exists _,U,fr e U #[_,U,fr e U #[tl,vs,k,_,U,U,f.sq,A6 hv,q a ha]]
def yh:SP:=λK c vs H Q _=> ∃r t l,vs= [.ref r]/\bT c H r (t :: l)/\t.tok≠ .halt_/\∀a H',iU c H' a t->Sb r H H'->bT c H' r l->Q (.ref a) H'
def eV:AA.m0 2 c.rd "take" ["self"] yh:=by
 refine AA.SX AA.qt (N:= ["self","token"]) λT C FT H Q E nN hr h=>?_;obtain ⟨r,t,l,rfl,hR,hn,q⟩:=h;nomatch 2,1,aU,G' (pv 0) uJ OV,0
 exists _,U,hR.me #[r,t,l,U,hR,λa ha=>?_];obtain ⟨dx,tl,vs,k,e,f,a2,tk,z⟩:=hR;exists _,U,fr e U #[_,_,U,U,dx,_,e,fH U,?_];have sb:Sb r H (upd H r (.ins c.rd dx [("tokens",.ref tl),("taken",.int ((k+1:Nat):Int))])):=Sb.refl.Pn;have im:bX c H _:=sb.Y e;exists _,U,q a _ (ha.mono C im) sb #[dx,tl,vs,k+1,aa,f.mono im,?_,tk.tail hn,z];have:=(a2.drop 1).mono λ_ _ q=>q.mono C im;rw [fM] at this;exact this
def yi:SP:=λK c vs H Q _=> ∃r l s tk,vs= [.ref r,.str s]/\d3 s tk/\bT c H r l/\Q (.bl (next tk l)) H
def cW:AA.m0 2 c.rd "sees" ["self","word"] yi:=by
 refine AA.SX AA.qu (N:= ["self","word"]) λT C FT H Q E nN hr h=>?_;obtain ⟨r,l,s,tk,rfl,hs,hR,q⟩:=h;nomatch 1,bK,aU
 obtain ⟨t,l',rfl⟩:=hR.ye.ne;exists _,U,hR.me #[r,t,l',U,hR,λa #[bh,da,ha]=>?_];refine (fr ha rfl #[_,rfl,rfl,?_]);rw [hs.1 t.tok hR.ye.wf];exact q
def vd:SP:=λK c vs H Q _=> ∃r l s tk,vs= [.ref r,.str s]/\d3 s tk/\bT c H r l/\(next tk l=true->∀H',Sb r H H'->bT c H' r (l.drop 1)->Q (.bl true) H')/\(next tk l=false->Q (.bl false) H)
def bZ:AA.m0 3 c.rd "passes" ["self","word"] vd:=by
 refine AA.SX AA.mH (N:= ["self","word"]) λT C FT H Q E nN hr h=>?_;obtain ⟨r,l,s,tk,rfl,hs,hR,q1,q2⟩:=h;nomatch 2,cW,0,eV,0
 exists _,U,hR.me #[_,U,r,l,s,tk,U,hs,hR,_,U,?_];cases hn:next tk l with
 | false=>exact nB (q2 hn)
 | true=>
  refine mQ ?_;obtain ⟨t,l',rfl⟩:=hR.ye.ne;have hk:t.tok=tk:=by simpa [next] using hn
  exists _,U,hR.me #[r,t,l',U,hR,hk ▸ hs.2,λa H' ha sb d_=>q1 hn H' sb d_]
def yj:SP:=λK c vs H Q E=> ∃r l s tk,vs= [.ref r,.str s]/\d3 s tk/\bT c H r l/\aQ c.cf E r H (VaprbBase.take tk l) (λl'=> ∀a t H',l=t :: l'->iU c H' a t->Sb r H H'->bT c H' r l'->Q (.ref a) H')
def aL:AA.mF 4 c.rd "need" ["self","word"] yj:=by
 refine AA.SY AA.qw (N:= ["self","word"]) λT C FT H Q E nN hr h=>?_;obtain ⟨r,l,s,tk,rfl,hs,hR,q⟩:=h;nomatch 2,cW,aU,eV
 exists _,U,hR.me #[_,U,r,l,s,tk,U,hs,hR,_,U,?_];obtain ⟨t,l',rfl⟩:=hR.ye.ne;unfold VaprbBase.take at q;cases hn:next tk (t :: l') with
 | false=>
  rw [hn,ae aO] at q;refine nB ?_;exists _,U,hR.me #[r,t,l',U,hR,λa #[bh,da,ha]=>?_];exact (fr ha rfl #[_,_,rfl,li.go q Sb.refl])
 | true=>
  rw [hn,ah rfl] at q;refine mQ ?_;have hk:t.tok=tk:=by simpa [next] using hn
  exists _,U,hR.me #[r,t,l',U,hR,hk ▸ hs.2,λa H' ha sb d_=>q a t H' U ha sb d_]
def pY:SP:=λK c vs H Q E=> ∃r l,vs= [.ref r]/\bT c H r l/\aQ c.cf E r H (VaprbBase.takeName l) (λx=> ∀a H',sI (.name x.1.name)->iU c H' a #[x.1.place,.name x.1.name]->Sb r H H'->bT c H' r x.2->Q (.ref a) H')
def cI:AA.mF 4 c.rd "need_name" ["self"] pY:=by
 refine AA.SY AA.jq (N:= ["self"]) λT C FT H Q E nN hr h=>?_;obtain ⟨r,l,rfl,hR,q⟩:=h;nomatch 2,qS,aU,aU,eV
 obtain ⟨t,l',rfl⟩:=hR.ye.ne;exists _,U,hR.me #[r,t,l',U,hR,λa ha=>#[a,t,U,ha,hR.ye.wf,_,U,?_]];obtain ⟨p,tk⟩:=t;have bad:isNm tk=false->VaprbBase.takeName (#[p,tk] :: l')= .error #[3,p]:=λe=>by
  cases tk with
  | name b=>
   have e:RESERVED.contains b=true:=by simpa [isNm] using e
   show (if RESERVED.contains b=true then _ else _)=_;rw [ah e];rfl
  | num n=>rfl
  | sign n=>rfl
  | halt_=>rfl
 cases hn:isNm tk with
 | false=>
  rw [bad hn] at q;refine nB ?_;exists _,U,hR.me #[r,_,l',U,hR,λa #[bh,da,ha]=>?_];exact (fr ha rfl #[_,_,rfl,li.go q Sb.refl])
 | true=>
  refine mQ ?_;cases tk with
  | name b=>
   have e:¬RESERVED.contains b=true:=by simpa [isNm] using hn
   have q:aQ c.cf E r H (if RESERVED.contains b=true then (VaprbBase.wrong (#[p,.name b] :: l'):Except Fault (VaprbBase.PName×Toks)) else .ok (#[p,b],l')) _:=q;rw [ae e] at q;exists _,U,hR.me #[r,_,l',U,hR,nofun,λa H' ha sb d_=>q a H' hR.ye.wf ha sb d_]
  | num n=>cases hn
  | sign n=>cases hn
  | halt_=>cases hn
def mS:SP:=λK c vs H Q E=> ∃r l,vs= [.ref r]/\bT c H r l/\aQ c.cf E r H (VaprbBase.takeNum l) (λx=> ∀a H',sI (.num x.1.2)->iU c H' a #[x.1.1,.num x.1.2]->Sb r H H'->bT c H' r x.2->Q (.ref a) H')
def b8:AA.mF 4 c.rd "need_number" ["self"] mS:=by
 refine AA.SY AA.ik (N:= ["self"]) λT C FT H Q E nN hr h=>?_;obtain ⟨r,l,rfl,hR,q⟩:=h;nomatch 2,Ad,aU,ig T.nO,aU,eV
 obtain ⟨t,l',rfl⟩:=hR.ye.ne;exists _,U,hR.me #[r,t,l',U,hR,λa #[bh,da,ha]=>?_];refine (fr ha rfl #[rfl,_,rfl,?_]);rw [yg];have bad:Pz t.tok=false->VaprbBase.takeNum (t :: l')= .error #[3,t.place]:=λe=>by
  obtain ⟨p,tk⟩:=t;cases tk with
  | num n=>cases e
  | name n=>rfl
  | sign n=>rfl
  | halt_=>rfl
 refine bG (λe=>?_) λe=>?_
 . rw [bad (by simpa using e)] at q;exists _,U,hR.me #[r,t,l',U,hR,λa #[bh,da,ha]=>?_];exact (fr ha rfl #[_,_,rfl,li.go q Sb.refl])
 . obtain ⟨p,tk⟩:=t;cases tk with
   | num n=>exists _,U,hR.me #[r,_,l',U,hR,nofun,λa H' ha sb d_=>q a H' hR.ye.wf ha sb d_]
   | name n=>cases e
   | sign n=>cases e
   | halt_=>cases e
def qU:SP:=λK c vs H Q E=> ∃r l,vs= [.ref r]/\bT c H r l/\aQ c.cf E r H (if next .halt_ l=false then VaprbBase.wrong l else .ok ()) (λ_=>Q .cp H)
def jy:AA.mF 4 c.rd "need_end" ["self"] qU:=by
 refine AA.SY AA.jY (N:= ["self"]) λT C FT H Q E nN hr h=>?_;obtain ⟨r,l,rfl,hR,q⟩:=h;nomatch 1,Ad,aU,ig T.Jw,aU
 obtain ⟨t,l',rfl⟩:=hR.ye.ne;exists _,U,hR.me #[r,t,l',U,hR,λa #[bh,da,ha]=>?_];refine (fr ha rfl #[rfl,_,rfl,?_]);have nm:=JQ t.tok;refine bG (λe=>?_) λe=>?_
 . have hn:next .halt_ (t :: l')=false:=by
    show (t.tok == .halt_)=false;rw [<-nm];simpa using e
   rw [ah hn] at q;exists _,U,hR.me #[r,t,l',U,hR,λa #[bh,da,ha]=>?_];exact (fr ha rfl #[_,_,rfl,li.go q Sb.refl])
 . have hn:next .halt_ (t :: l')=true:=by
    show (t.tok == .halt_)=true;rw [<-nm];simpa using e
   rw [ae (by rw [hn];exact Bool.noConfusion)] at q;exact q
def bnd (p1:Nat) (n1:Int) (p2:Nat) (n2:Int):Except Fault Unit:=if n1 < -1000\/1000 < n1 then .error #[7,p1] else if n2 < n1\/1000 < n2\/n1+63 < n2 then .error #[7,p2] else .ok ()
def JR (p1:Nat) (n1:Int) (p2:Nat) (n2:Int) (x:α):(if n1 < -1000\/1000 < n1 then .error #[7,p1] else if n2 < n1\/1000 < n2\/n1+63 < n2 then .error #[7,p2] else .ok x:Except Fault α)=(bnd p1 n1 p2 n2 >>= λ_=> .ok x):=by
 unfold bnd;split
 . rfl
 . split <;> rfl
def nV (l:Toks):takeKind l=if next (.name (word "flag")) l=true then .ok (.flag,l.drop 1) else take (.name (word "num")) l >>= λl1=>takeNum l1 >>= λx=>takeNum x.2 >>= λy=>bnd x.1.1 x.1.2 y.1.1 y.1.2 >>= λ_=> .ok (.num x.1.2 y.1.2,y.2):=by
 unfold takeKind;split
 . rfl
 . unfold take;split
   . show (takeNum (l.drop 1) >>= _)=(takeNum (l.drop 1) >>= _);congr 1;funext x;show (takeNum x.2 >>= _)=(takeNum x.2 >>= _);congr 1;funext y;exact JR _ _ _ _ _
   . rfl
def j4 (l:Toks):takeFrac l=(takeNum l >>= λx=>if next (.sign 47) x.2=true then takeNum (x.2.drop 1) >>= λy=>if y.1.2 < 1 then .error #[7,y.1.1] else .ok ((x.1.1,frac x.1.2 y.1.2.toNat),y.2) else .ok ((x.1.1,Frac.ofInt x.1.2),x.2)):=rfl
def ki (l:Toks):takeWeight l=(takeFrac l >>= λx=>if x.1.2.num < 0 then .error #[7,x.1.1] else .ok (x.1.2,x.2)):=rfl
def kj (l:Toks):takeChance l=(takeFrac l >>= λx=>if x.1.2.num < 0\/(x.1.2.den:Int) < x.1.2.num then .error #[7,x.1.1] else .ok (x.1.2,x.2)):=rfl
def kl (l:Toks):takeBounds l=(takeNum l >>= λx=>take (.sign 44) x.2 >>= λl1=>takeNum l1 >>= λy=>bnd x.1.1 x.1.2 y.1.1 y.1.2 >>= λ_=> .ok ((x.1.2,y.1.2),y.2)):=by
 show (takeNum l >>= _)=_;congr 1;funext x;show (take (.sign 44) x.2 >>= _)=_;congr 1;funext l1;show (takeNum l1 >>= _)=_;congr 1;funext y;exact JR _ _ _ _ _
def JS (e:Reader) (l:Toks):inOne e l=(take (.sign 40) l >>= λl1=>e l1 >>= λa=>take (.sign 41) a.2 >>= λl2=> .ok (a.1,l2)):=rfl
def JT (e:Reader) (l:Toks):inTwo e l=(take (.sign 40) l >>= λl1=>e l1 >>= λa=>take (.sign 44) a.2 >>= λl2=>e l2 >>= λb=>take (.sign 41) b.2 >>= λl3=> .ok ((a.1,b.1),l3)):=rfl
def E1 (e:Reader) (l:Toks):inThree e l=(take (.sign 40) l >>= λl1=>e l1 >>= λa=>take (.sign 44) a.2 >>= λl2=>e l2 >>= λb=>take (.sign 44) b.2 >>= λl3=>e l3 >>= λd=>take (.sign 41) d.2 >>= λl4=> .ok ((a.1,b.1,d.1),l4)):=rfl
def nW {x:(Nat×Frac)×Toks} (h:takeFrac l= .ok x):x.1.1=here l:=by
 rw [j4] at h;cases l with
 | nil=>cases h
 | cons t r=>
  obtain ⟨p,tk⟩:=t;cases tk with
  | num n=>
   have h:(if next (.sign 47) r=true then takeNum (r.drop 1) >>= λy=>if y.1.2 < 1 then .error #[7,y.1.1] else .ok ((p,frac n y.1.2.toNat),y.2) else .ok ((p,Frac.ofInt n),r):Except Fault _)= .ok x:=h;split at h
   . cases q:takeNum (r.drop 1) with
     | error f=>rw [q] at h;cases h
     | ok y=>
      rw [q] at h;have h:(if y.1.2 < 1 then .error #[7,y.1.1] else .ok ((p,frac n y.1.2.toNat),y.2):Except Fault _)= .ok x:=h;split at h
      . cases h
      . cases h;rfl
   . cases h;rfl
  | name n=>cases h
  | sign n=>cases h
  | halt_=>cases h
def gS.Y (h:gS K H a xs) (i:bX c H H'):gS K H' a xs:=by
 rcases h with (e | ⟨o,e⟩) | h
 . exact .inl (.inl (i a _ e rfl))
 . exact .inl (.inr #[o,i a _ e rfl])
 . exact .inr h
def fT (f:Frac):List V:= [.int f.num,.int (f.den:Nat)]
def wH:SP:=λK c vs H Q _=> ∃n d,vs= [.int n,.int (d:Nat)]/\0 < d/\d<=1000000000/\∀p,H p=none->Q (.ref p) (upd H p (.tup (fT (frac n d))))
def wI:AA.h0 1 "lowest_terms" ["above","below"] wH:=by
 nomatch ["above","below","divisor","rest","remainder"]
 obtain ⟨n,d,rfl,hd,X8,q⟩:=h;nomatch 2,2,3,aM IR,ic,4,OQ,2,3,FU,FU
 have hab:(if n < 0 then -n else n)=(n.natAbs:Int):=by split <;> omega
 exists _,U,_,U,_,U,λm σ H'=> ∃(a b:Nat) (v4:Option V),σ= [some (.int n),some (.int (d:Nat)),some (.int (a:Nat)),some (.int (b:Nat)),v4]/\H'=H/\Nat.gcd a b=Nat.gcd d n.natAbs/\0 < a/\m=b,#[_,d,n.natAbs,none,by rw [hab];rfl,U,U,hd,U],?_;rintro b σ H' ⟨a,b',v4,rfl,rfl,hg,ha,rfl⟩;exists _,U,_,_,U,U,_,U,bG (λe1=>?_) λe1=>?_
 . have hb:0 < b:=by simpa using e1
   refine dG ?_;exists _,U,_,U,_,_,U,U,(show (0:Int) < (b:Int) by omega),_,U,_,U,a % b,Nat.mod_lt _ hb,b,a % b,some (.int ((a % b:Nat):Int)),?_,U,?_,hb,U
   . rw [Int.natCast_emod];rfl
   . rw [<-hg,uG b (a % b),<-Nat.gcd_rec,uG]
 . have hb:b=0:=by simpa using e1
   subst hb;rw [Nat.gcd_zero_right] at hg;have hle:a<=d:=by rw [hg];exact Nat.le_of_dvd hd (Nat.gcd_dvd_left _ _)
   have h9:(a:Int) < 1073741824:=by omega
   exists _,U,_,U,_,_,U,U,#[(by show (0:Int) < (a:Int);omega),h9],_,U,_,U,_,_,U,U,#[(by show (0:Int) < (a:Int);omega),h9],jJ,λp hp=>?_;have:=q p hp;unfold frac fT at this;rw [ae (by omega),uG,<-hg] at this;simp only [Int.natCast_ediv] at this;exact this
def Bq:SP:=λK c vs H Q E=> ∃r l,vs= [.ref r]/\bT c H r l/\aQ c.cf E r H (takeKind l) (λx=> ∀a H',gS K H' a (kT x.1)->Sb r H H'->bT c H' r x.2->Q (.ref a) H')
def mi:AA.hF 5 "read_kind" ["reader"] Bq:=by
 nomatch ["reader","low","high"]
 obtain ⟨r,l,rfl,hR,q⟩:=h;nomatch 2,bZ,fB T.x3,aL,1,b8,2,b8,nR
 rw [nV] at q;exists _,U,hR.me #[r,l,_,_,U,Mx,hR,λhn H1 s1 dI=>?_,λhn=>?_]
 . exists _,U,nB ?_;rw [ah hn] at q;exact q g.flag H1 (T.qM.sq _) s1 dI
 . exists _,U,mQ ?_;rw [ae (by rw [hn];exact aO)] at q;exists _,U,hR.me #[r,l,_,_,U,Pw,hR,aQ.step q λl1 e1 q a t H1 hl ha s1 dI=>?_];exists _,U,dI.me #[r,l1,U,dI,aQ.step (aQ.on q s1) λx e2 q a1 H2 w1 ha1 s2 dP=>?_];exists _,U,dP.me #[r,_,U,dP,aQ.step (aQ.on q s2) λy e3 q a2 H3 w2 lO s3 m3=>?_];obtain ⟨b1,ha1⟩:=ha1.mono C (dP.Y s3);obtain ⟨b2,lO⟩:=lO;exists _,U,_,U,a1,a2,_,_,b1,b2,U,ha1,lO,aN.step (aQ.SW q s3) λ_ e4 q p hp=>?_;exact q p _ (.inl (.inl aa)) (((s1.trans s2).trans s3).trans (aq.upd hp).sb) (m3.sb C (aq.upd hp))
def ve:SP:=λK c vs H Q E=> ∃r l,vs= [.ref r]/\bT c H r l/\aQ c.cf E r H (takeFrac l) (λx=> ∀a H',H' a=some (.tup (fT x.1.2))->Sb r H H'->bT c H' r x.2->Q (.ref a) H')
def ly:AA.hF 5 "read_fraction" ["reader"] ve:=by
 nomatch ["reader","above","below"]
 obtain ⟨r,l,rfl,hR,q⟩:=h;nomatch 2,1,b8,bZ,0,2,b8,eS,wI
 rw [j4] at q;exists _,U,hR.me #[r,l,U,hR,aQ.step q λx e1 q a1 H1 w1 #[b1,d1,ha1] s1 dI=>?_];refine (fr ha1 rfl ?_);exists _,U,dI.me #[r,_,_,_,U,RF,dI,λhn H2 s2 dP=>?_,λhn=>?_]
 . exists _,U,mQ ?_;rw [ah hn] at q;exists _,U,dP.me #[r,_,U,dP,aQ.step (aQ.on q (s1.trans s2)) λy e3 q a2 H3 w2 #[b2,d2,lO] s3 m3=>?_];exists _,U,fr lO U #[_,_,U,U,_,U,bG (λe4=>?_) λe4=>?_]
   . have e4:y.1.2 < 1:=o3 e4;rw [ah e4] at q;exists _,U,fr lO U #[_,_,U,li.go q s3]
   . have e4:¬y.1.2 < 1:=uk e4;rw [ae e4] at q;have w2: -1000000000<=y.1.2/\y.1.2<=1000000000:=w2;exists _,U,_,U,fr lO U #[x.1.2,y.1.2.toNat,?_,by omega,by omega,λp hp=>?_]
     . have:((y.1.2.toNat:Nat):Int)=y.1.2:=by omega
       rw [this];rfl
     . exact q p _ aa ((s1.trans s2).trans (s3.trans (aq.upd hp).sb)) (m3.sb C (aq.upd hp))
 . exists _,U,nB ?_;rw [ae (by rw [hn];exact aO)] at q;exists _,U,jJ,λp hp=>?_;exact q p _ aa (s1.trans (aq.upd hp).sb) (dI.sb C (aq.upd hp))
def yk:SP:=λK c vs H Q E=> ∃r l,vs= [.ref r]/\bT c H r l/\aQ c.cf E r H (takeWeight l) (λx=> ∀a H',H' a=some (.tup (fT x.1))->Sb r H H'->bT c H' r x.2->Q (.ref a) H')
def nY:AA.hF 6 "read_weight" ["reader"] yk:=by
 nomatch ["reader","place","weight"]
 obtain ⟨r,l,rfl,hR,q⟩:=h;nomatch 2,1,aU,2,ly,eS,gu,0
 rw [ki] at q;obtain ⟨t,l',rfl⟩:=hR.ye.ne;exists _,U,hR.me #[r,t,l',U,hR,λa #[bh,da,ha]=>?_];refine (fr ha rfl ?_);exists _,U,r,_,U,hR,aQ.step q λx e1 q a1 H1 ha1 s1 dI=>?_;have hp:=nW e1;exists _,U,a1,_,_,_,U,U,.inl (.inl ha1),U,_,_,U,U,_,U,bG (λe2=>?_) λe2=>?_
 . rw [ah (by simpa using e2),hp] at q;exists _,U,_,_,U,li.go q s1
 . rw [ae (by simpa using e2)] at q;exists _,U,q a1 H1 ha1 s1 dI
def zz:SP:=λK c vs H Q E=> ∃r l,vs= [.ref r]/\bT c H r l/\aQ c.cf E r H (takeChance l) (λx=> ∀a H',H' a=some (.tup (fT x.1))->Sb r H H'->bT c H' r x.2->Q (.ref a) H')
def zA:AA.hF 6 "read_share" ["reader"] zz:=by
 nomatch ["reader","place","share"]
 obtain ⟨r,l,rfl,hR,q⟩:=h;nomatch 2,1,aU,2,ly,eS,gu,ic,gu,gu,0
 rw [kj] at q;obtain ⟨t,l',rfl⟩:=hR.ye.ne;exists _,U,hR.me #[r,t,l',U,hR,λa #[bh,da,ha]=>?_];refine (fr ha rfl ?_);exists _,U,r,_,U,hR,aQ.step q λx e1 q a1 H1 ha1 s1 dI=>?_;have hp:=nW e1;exists _,U,a1,_,_,_,U,U,.inl (.inl ha1),U,_,_,U,U,_,U,bG (λe2=>?_) λe2=>?_
 . rw [ah (.inl (by simpa using e2)),hp] at q;exists _,U,_,_,U,li.go q s1
 . exists _,U,a1,_,_,_,U,U,.inl (.inl ha1),U,_,U,a1,_,_,_,U,U,.inl (.inl ha1),U,_,_,U,U,_,U,bG (λe3=>?_) λe3=>?_
   . rw [ah (.inr (by simpa using e3)),hp] at q;exists _,U,_,_,U,li.go q s1
   . rw [ae (by simp at e2 e3;omega)] at q;exists _,U,q a1 H1 ha1 s1 dI
abbrev Ex:=Vaprbb.Expr
variable {e:Ex}
def eF:Ex->Str
 | .lit _ (.num _)=> "number"
 | .lit _ (.flag _)=> "truth"
 | .name _ _=> "name"
 | .un _ _ _=> "operation"
 | .bin _ _ _ _=> "operation"
 | .flip _ _=> "flip"
 | .uniform _ _ _=> "uniform"
 | .cond _ _ _ _=> "if"
 | .given _ _ _=> "given"
 | .weigh _ _ _=> "weigh"
 | .call _ _ _=> "call"
 | .pick _ _=> "pick"
 | _=> ""
def nZ:Ex->Str
 | .lit _ (.num _)=> ""
 | .lit _ (.flag b)=>if b=true then "true" else "false"
 | .name _ n=>aR n
 | .un _ o _=>aR (unName o)
 | .bin _ o _ _=>aR (binName o)
 | .flip _ _=> "flip"
 | .uniform _ _ _=> "uniform"
 | .cond _ _ _ _=> "if"
 | .given _ _ _=> "given"
 | .weigh _ _ _=> "weigh"
 | .call _ f _=>aR f
 | .pick _ _=> "pick"
 | _=> ""
def RG:Ex->Int
 | .lit _ (.num n)=>n
 | _=>0
def Dd:Ex->List Frac
 | .flip _ p=> [p]
 | .weigh _ w _=> [w]
 | .pick _ ways=>ways.weights
 | _=> []
def Mz (H:Hp) (v:V) (f:Frac):= ∃a,v= .ref a/\H a=some (.tup (fT f))
def RH (K:Frag) (H:Hp) (bv:V):Ex->Prop
 | .uniform _ lo hi=> ∃b,bv= .ref b/\gS K H b (kT (.num lo hi))
 | _=>bv= .cp
def Qr (e:Ex) (pl fl:Addr) (bv:V):List (Str×V):= [("form",.str (eF e)),("word",.str (nZ e)),("number",.int (RG e)),("place",.int (e.place:Nat)),("parts",.ref pl),("fractions",.ref fl),("bounds",bv)]
def Node (K:Frag) (c:Cl) (H:Hp) (a pl:Addr) (e:Ex):= ∃dx fl bv fs,H a=some (.ins c.ex dx (Qr e pl fl bv))/\RH K H bv e/\FL H fl fs/\A2 (Mz H) fs (Dd e)
def jK (K:Frag) (c:Cl) (H:Hp):Ex->List V->Prop
 | .nil,vs=>vs= []
 | .arg a r,vs=> ∃v ws,vs=v :: ws/\jK K c H a [v]/\jK K c H r ws
 | .way a _ r,vs=> ∃v ws,vs=v :: ws/\jK K c H a [v]/\jK K c H r ws
 | .lit p v,vs=> ∃a pl,vs= [.ref a]/\Node K c H a pl (.lit p v)/\FL H pl []
 | .name p n,vs=> ∃a pl,vs= [.ref a]/\Node K c H a pl (.name p n)/\FL H pl []
 | .flip p f,vs=> ∃a pl,vs= [.ref a]/\Node K c H a pl (.flip p f)/\FL H pl []
 | .uniform p lo hi,vs=> ∃a pl,vs= [.ref a]/\Node K c H a pl (.uniform p lo hi)/\FL H pl []
 | .un p o x,vs=> ∃a pl ps,vs= [.ref a]/\Node K c H a pl (.un p o x)/\FL H pl [ps]/\jK K c H x [ps]
 | .bin p o x y,vs=> ∃a pl v w,vs= [.ref a]/\Node K c H a pl (.bin p o x y)/\FL H pl [v,w]/\jK K c H x [v]/\jK K c H y [w]
 | .cond p x y z,vs=> ∃a pl u v w,vs= [.ref a]/\Node K c H a pl (.cond p x y z)/\FL H pl [u,v,w]/\jK K c H x [u]/\jK K c H y [v]/\jK K c H z [w]
 | .given p x y,vs=> ∃a pl v w,vs= [.ref a]/\Node K c H a pl (.given p x y)/\FL H pl [v,w]/\jK K c H x [v]/\jK K c H y [w]
 | .weigh p f x,vs=> ∃a pl ps,vs= [.ref a]/\Node K c H a pl (.weigh p f x)/\FL H pl [ps]/\jK K c H x [ps]
 | .call p f x,vs=> ∃a pl ps,vs= [.ref a]/\Node K c H a pl (.call p f x)/\FL H pl ps/\jK K c H x ps
 | .pick p x,vs=> ∃a pl ps,vs= [.ref a]/\Node K c H a pl (.pick p x)/\FL H pl ps/\jK K c H x ps
section
def Mz.Y {f:Frac} (h:Mz H v f) (i:bX c H H'):Mz H' v f:=let #[a,e,q]:=h;#[a,e,i a _ q rfl]
def RH.Y {bv:V} (h:RH K H bv e) (i:bX c H H'):RH K H' bv e:=by
 cases e <;> first | exact h | (obtain ⟨b,eb,h⟩:=h;exists b,eb,gS.Y h i)
def Node.Y {pl:Addr} (C:CT K c) (h:Node K c H a pl e) (i:bX c H H'):Node K c H' a pl e:=by
 obtain ⟨dx,fl,bv,fs,h1,h2,h3,h4⟩:=h;exists dx,fl,bv,fs,i a _ h1 C.Ry,h2.Y i,h3.mono i,h4.mono λ_ _ q=>q.Y i
def jK.Y (C:CT K c) (i:bX c H H'):∀{e:Ex} {vs:List V},jK K c H e vs->jK K c H' e vs
 | .nil,vs,h=>h
 | .arg _ _,vs,#[v,ws,e,h1,h2]=>#[v,ws,e,jK.Y C i h1,jK.Y C i h2]
 | .way _ _ _,vs,#[v,ws,e,h1,h2]=>#[v,ws,e,jK.Y C i h1,jK.Y C i h2]
 | .lit _ _,vs,#[a,pl,e,h1,h2]=>#[a,pl,e,h1.Y C i,h2.mono i]
 | .name _ _,vs,#[a,pl,e,h1,h2]=>#[a,pl,e,h1.Y C i,h2.mono i]
 | .flip _ _,vs,#[a,pl,e,h1,h2]=>#[a,pl,e,h1.Y C i,h2.mono i]
 | .uniform _ _ _,vs,#[a,pl,e,h1,h2]=>#[a,pl,e,h1.Y C i,h2.mono i]
 | .un _ _ _,vs,#[a,pl,ps,e,h1,h2,h3]=>#[a,pl,ps,e,h1.Y C i,h2.mono i,jK.Y C i h3]
 | .bin _ _ _ _,vs,#[a,pl,v,w,e,h1,h2,h3,h4]=>#[a,pl,v,w,e,h1.Y C i,h2.mono i,jK.Y C i h3,jK.Y C i h4]
 | .cond _ _ _ _,vs,#[a,pl,u,v,w,e,h1,h2,h3,h4,h5]=>#[a,pl,u,v,w,e,h1.Y C i,h2.mono i,jK.Y C i h3,jK.Y C i h4,jK.Y C i h5]
 | .given _ _ _,vs,#[a,pl,v,w,e,h1,h2,h3,h4]=>#[a,pl,v,w,e,h1.Y C i,h2.mono i,jK.Y C i h3,jK.Y C i h4]
 | .weigh _ _ _,vs,#[a,pl,ps,e,h1,h2,h3]=>#[a,pl,ps,e,h1.Y C i,h2.mono i,jK.Y C i h3]
 | .call _ _ _,vs,#[a,pl,ps,e,h1,h2,h3]=>#[a,pl,ps,e,h1.Y C i,h2.mono i,jK.Y C i h3]
 | .pick _ _,vs,#[a,pl,ps,e,h1,h2,h3]=>#[a,pl,ps,e,h1.Y C i,h2.mono i,jK.Y C i h3]
end
def aQ.go {x:Except Fault α} {f:α->Except Fault β} {ok:β->Prop} {ok':α->Prop} (q:aQ cf E r H (x >>= f) ok) (s:Sb r H H1) (h:∀a,x= .ok a->aQ cf E r H (f a) ok->ok' a):aQ cf E r H1 x ok':=by
 cases x with
 | ok a=>exact h a rfl q
 | error e=>exact li.on q s
def aQ.WZ {x:Except Fault α} {f:α->Except Fault β} {ok:β->Prop} {ok':α->Prop} (q:aQ cf E r H (x >>= f) ok) (s:Sb r H H1) (h:∀a,x= .ok a->aQ cf E r H (f a) ok->ok' a):aN cf E H1 x ok':=by
 cases x with
 | ok a=>exact h a rfl q
 | error e=>exact li.SW q s
def iq (K:Frag) (c:Cl) (H:Hp) (v:V) (e:Ex):=jK K c H e [v]
def aj {x:Except Fault α} {f:α->Except Fault β} {b:β} (h:(x >>= f)= .ok b):∃a,x= .ok a/\f a= .ok b:=by
 cases x with
 | ok a=>exists a,U,h
 | error e=>cases h
def jz {x:Except Fault α} {f:α->β} {b:β} (h:x.map f= .ok b):∃a,x= .ok a/\f a=b:=by
 cases x with
 | ok a=>exists a,U,Except.ok.inj h
 | error e=>cases h
def next_ne {t:Tok} (h:next t l=true):∃p r,l=#[p,t] :: r:=by
 cases l with
 | nil=>cases h
 | cons x r=>
  obtain ⟨p,k⟩:=x;have:k=t:=by simpa [next] using h
  exists p,r,by rw [this]
def xl {t:Tok} (h:take t l= .ok l'):∃p,l=#[p,t] :: l':=by
 unfold take at h;split at h
 . rename_i hn;obtain ⟨p,r,rfl⟩:=next_ne hn;cases h;exists p,U
 . cases h
def aZ {t:Tok} (h:take t l= .ok l'):l'.length < l.length:=by
 obtain ⟨p,rfl⟩:=xl h;exact du _
def ym {x:(Nat×Int)×Toks} (h:takeNum l= .ok x):l=#[x.1.1,.num x.1.2] :: x.2:=by
 unfold takeNum at h;split at h
 . cases h;rfl
 . cases h
def vV {x:VaprbBase.PName×Toks} (h:takeName l= .ok x):l=#[x.1.place,.name x.1.name] :: x.2/\RESERVED.contains x.1.name=false:=by
 unfold takeName at h;split at h
 . split at h
   . cases h
   . rename_i hh;cases h;exists U,by simpa using hh
 . cases h
def fW {x:(Nat×Int)×Toks} (h:takeNum l= .ok x):x.2.length < l.length:=by rw [ym h];exact du _
def d5 {x:VaprbBase.PName×Toks} (h:takeName l= .ok x):x.2.length < l.length:=by rw [(vV h).1];exact du _
def vW {x:(Nat×Frac)×Toks} (h:takeFrac l= .ok x):x.2.length < l.length:=by
 rw [j4] at h;let #[a,h1,h]:=aj h;have:=fW h1;split at h
 . let #[b,h2,h]:=aj h;have:=fW h2;rw [cT] at this;split at h
   . cases h
   . cases h;show b.2.length < _;omega
 . cases h;exact this
def fR {x:Frac×Toks} (h:takeWeight l= .ok x):x.2.length < l.length:=by
 rw [ki] at h;let #[a,h1,h]:=aj h;split at h
 . cases h
 . cases h;exact vW h1
def qy {x:Frac×Toks} (h:takeChance l= .ok x):x.2.length < l.length:=by
 rw [kj] at h;let #[a,h1,h]:=aj h;split at h
 . cases h
 . cases h;exact vW h1
def qz {x:(Int×Int)×Toks} (h:takeBounds l= .ok x):x.2.length < l.length:=by
 rw [kl] at h;let #[a,h1,h]:=aj h;let #[l1,h2,h]:=aj h;let #[b,h3,h]:=aj h;let #[u,h4,h]:=aj h;have:=fW h1;have:=aZ h2;have:=fW h3;cases h;show b.2.length < _;omega
def j5 {x:VaprbBase.Kind×Toks} (h:takeKind l= .ok x):x.2.length < l.length:=by
 rw [nV] at h;split at h
 . rename_i hn;obtain ⟨p,r,rfl⟩:=next_ne hn;cases h;exact du _
 . let #[l1,h2,h]:=aj h;let #[a,h1,h]:=aj h;let #[b,h3,h]:=aj h;let #[u,h4,h]:=aj h;have:=fW h1;have:=aZ h2;have:=fW h3;cases h;show b.2.length < _;omega
def jA (e:Reader):Nat->Toks->Except Fault (List Ex×Toks)
 | 0,l=>take (.sign 41) l >>= λl1=> .ok ([],l1)
 | k+1,l=>take (.sign 44) l >>= λl1=>e l1 >>= λa=>jA e k a.2 >>= λx=> .ok (a.1 :: x.1,x.2)
def partsOf (e:Reader) (n:Nat) (l:Toks):Except Fault (List Ex×Toks):=take (.sign 40) l >>= λl1=>e l1 >>= λa=>jA e (n - 1) a.2 >>= λx=> .ok (a.1 :: x.1,x.2)
def aS {x:Except Fault α} {f g:α->Except Fault β} (h:∀a,f a=g a):(x >>= f)=(x >>= g):=by rw [funext h]
def bn (x:Except Fault α) (f:α->Except Fault β) (g:β->Except Fault γ):(x >>= f >>= g)=(x >>= λa=>f a >>= g):=by cases x <;> rfl
def n8 (e:Reader) (l:Toks):inOne e l=(partsOf e 1 l >>= λx=>match x.1 with | [a]=> .ok (a,x.2) | _=> .error #[0,0]):=by
 rw [JS];unfold partsOf;simp only [bn];refine aS λl1=>aS λa=>?_;simp only [uF,jA,bn];rfl
def j6 (e:Reader) (l:Toks):inTwo e l=(partsOf e 2 l >>= λx=>match x.1 with | [a,b]=> .ok ((a,b),x.2) | _=> .error #[0,0]):=by
 rw [JT];unfold partsOf;simp only [bn];refine aS λl1=>aS λa=>?_;show _=(jA e 1 a.2 >>= _);simp only [jA,bn];rfl
def km (e:Reader) (l:Toks):inThree e l=(partsOf e 3 l >>= λx=>match x.1 with | [a,b,d]=> .ok ((a,b,d),x.2) | _=> .error #[0,0]):=by
 rw [E1];unfold partsOf;simp only [bn];refine aS λl1=>aS λa=>?_;show _=(jA e 2 a.2 >>= _);simp only [jA,bn];rfl
def yn {e:Reader}:∀{k:Nat} {l:Toks} {x:List Ex×Toks},jA e k l= .ok x->x.1.length=k
 | 0,l,x,h=>by let #[l1,h1,h]:=aj h;cases h;rfl
 | k+1,l,x,h=>by
  let #[l1,h1,h]:=aj h;let #[a,h2,h]:=aj h;let #[y,h3,h]:=aj h;cases h;exact bA (· +1) (yn h3)
def j7 {e:Reader} {k:Nat} (hk:0 < k) {x:List Ex×Toks} (h:partsOf e k l= .ok x):x.1.length=k:=by
 let #[l1,h1,h]:=aj h;let #[a,h2,h]:=aj h;let #[y,h3,h]:=aj h;cases h;have:=yn h3;show y.1.length+1=k;omega
section
variable {e:Reader} (he:∀l x,e l= .ok x->x.2.length < l.length)
include he
def Ax:∀{k:Nat} {l:Toks} {x:List Ex×Toks},jA e k l= .ok x->x.2.length < l.length
 | 0,l,x,h=>by let #[l1,h1,h]:=aj h;cases h;exact aZ h1
 | k+1,l,x,h=>by
  let #[l1,h1,h]:=aj h;let #[a,h2,h]:=aj h;let #[y,h3,h]:=aj h;cases h;have:=aZ h1;have:=he _ _ h2;have:=Ax h3;show y.2.length < _;omega
def qV {k:Nat} {x:List Ex×Toks} (h:partsOf e k l= .ok x):x.2.length < l.length:=by
 let #[l1,h1,h]:=aj h;let #[a,h2,h]:=aj h;let #[y,h3,h]:=aj h;cases h;have:=aZ h1;have:=he _ _ h2;have:=Ax he h3;show y.2.length < _;omega
def JU {x:Ex×Toks} (h:inOne e l= .ok x):x.2.length < l.length:=by
 rw [n8] at h;let #[y,h1,h]:=aj h;have:=qV he h1;split at h
 . cases h;exact this
 . cases h
def De {x:(Ex×Ex)×Toks} (h:inTwo e l= .ok x):x.2.length < l.length:=by
 rw [j6] at h;let #[y,h1,h]:=aj h;have:=qV he h1;split at h
 . cases h;exact this
 . cases h
def E2 {x:(Ex×Ex×Ex)×Toks} (h:inThree e l= .ok x):x.2.length < l.length:=by
 rw [km] at h;let #[y,h1,h]:=aj h;have:=qV he h1;split at h
 . cases h;exact this
 . cases h
end
def j8 (e:Reader) (f k:Nat) (l:Toks):takeArgs e (f+1) k l=if exprNext l=true/\4<=k then .error #[4,here l] else e l >>= λa=>if next (.sign 44) a.2=true then takeArgs e f (k+1) (a.2.drop 1) >>= λr=> .ok (.arg a.1 r.1,r.2) else take (.sign 41) a.2 >>= λl2=> .ok (.arg a.1 .nil,l2):=rfl
def n_ (e:Reader) (f k:Nat) (l:Toks):takeWays e (f+1) k l=if exprNext l=true/\8<=k then .error #[4,here l] else e l >>= λa=>take (.sign 58) a.2 >>= λl1=>takeWeight l1 >>= λw=>if next (.sign 44) w.2=true\/k=0 then take (.sign 44) w.2 >>= λl2=>takeWays e f (k+1) l2 >>= λr=> .ok (.way a.1 w.1 r.1,r.2) else take (.sign 41) w.2 >>= λl2=> .ok (.way a.1 w.1 .nil,l2):=rfl
section
variable {e:Reader} (he:∀l x,e l= .ok x->x.2.length < l.length)
include he
def vX:∀{f k:Nat} {l:Toks} {x:Ex×Toks},takeArgs e f k l= .ok x->x.2.length < l.length
 | 0,_,_,_,h=>by cases h
 | f+1,k,l,x,h=>by
  rw [j8] at h;split at h
  . cases h
  . let #[a,h1,h]:=aj h;have:=he _ _ h1;split at h
    . let #[r,h2,h]:=aj h;have:=vX h2;rw [cT] at this;cases h;show r.2.length < _;omega
    . let #[l2,h2,h]:=aj h;have:=aZ h2;cases h;show l2.length < _;omega
def vY:∀{f k:Nat} {l:Toks} {x:Ex×Toks},takeWays e f k l= .ok x->x.2.length < l.length
 | 0,_,_,_,h=>by cases h
 | f+1,k,l,x,h=>by
  rw [n_] at h;split at h
  . cases h
  . let #[a,h1,h]:=aj h;let #[l1,h2,h]:=aj h;let #[w,h3,h]:=aj h;have:=he _ _ h1;have:=aZ h2;have:=fR h3;split at h
    . let #[l2,h4,h]:=aj h;let #[r,h5,h]:=aj h;have:=aZ h4;have:=vY h5;cases h;show r.2.length < _;omega
    . let #[l2,h4,h]:=aj h;have:=aZ h4;cases h;show l2.length < _;omega
def yo {p:Nat} {w:Bytes} {x:Ex×Toks} (h:takeSpecial e p w l= .ok x):x.2.length < l.length:=by
 unfold takeSpecial at h;split at h
 . let #[l1,h1,h]:=aj h;let #[a,h2,h]:=aj h;let #[l2,h3,h]:=aj h;have:=aZ h1;have:=qy h2;have:=aZ h3;cases h;show l2.length < _;omega
 . split at h
   . let #[l1,h1,h]:=aj h;let #[a,h2,h]:=aj h;let #[l2,h3,h]:=aj h;have:=aZ h1;have:=qz h2;have:=aZ h3;cases h;show l2.length < _;omega
   . split at h
     . let #[l1,h1,h]:=aj h;let #[a,h2,h]:=aj h;have:=aZ h1;have:=vY he h2;cases h;show a.2.length < _;omega
     . split at h
       . obtain ⟨a,h1,h⟩:=jz h;cases h;exact De he h1
       . split at h
         . obtain ⟨a,h1,h⟩:=jz h;cases h;exact E2 he h1
         . split at h
           . let #[l1,h1,h]:=aj h;let #[f,h2,h]:=aj h;let #[l2,h3,h]:=aj h;let #[a,h4,h]:=aj h;let #[l3,h5,h]:=aj h;have:=aZ h1;have:=fR h2;have:=aZ h3;have:=he _ _ h4;have:=aZ h5;cases h;show l3.length < _;omega
           . cases h
def Df {p:Nat} {w:Bytes} {x:Ex×Toks} (hl:l≠ []) (h:takeCall e p w l= .ok x):x.2.length < l.length:=by
 unfold takeCall at h;split at h
 . obtain ⟨a,h1,h⟩:=jz h;cases h;show a.2.length < _;exact JU he h1
 . obtain ⟨a,h1,h⟩:=jz h;cases h;exact De he h1
 . have:0 < l.length:=List.length_pos_iff.mpr hl;simp only at h;split at h
   . cases h;simp only [cT];omega
   . obtain ⟨a,h1,h⟩:=jz h;cases h;have:=vX he h1;simp only [cT] at this;show a.2.length < _;omega
end
def d6:∀(n:Nat) (l:Toks) (x:Ex×Toks),takeExpr n l= .ok x->x.2.length < l.length
 | 0,l,x,h=>by cases h
 | n+1,l,x,h=>by
  unfold takeExpr at h;split at h
  . cases h;exact du _
  . rename_i p w r;have lr:(#[p,.name w] :: r:Toks).length=r.length+1:=rfl;split at h
    . cases h;exact du _
    . split at h
      . cases h;exact du _
      . split at h
        . have:=yo (d6 n) h;omega
        . split at h
          . rename_i hn;obtain ⟨p',r',e⟩:=next_ne hn;have:=Df (d6 n) (by rw [e];exact kL _ _) h;omega
          . cases h;exact du _
  . cases h
def E3 (t:Tok):Bool:=match t with
 | .num _=>true
 | .name b=>!VaprbBase.RESERVED.contains b || (["true","false","if","flip","pick","uniform","given","weigh"].map word).contains b
 | _=>false
def oa (t:PTok) (l:Toks):exprNext (t :: l)=E3 t.tok:=by
 obtain ⟨p,k⟩:=t;cases k with
 | num n=>rfl
 | name b=>
  show (VaprbBase.nameNext (#[p,.name b] :: l) || (["true","false","if","flip","pick","uniform","given","weigh"].any λs=>next (.name (word s)) (#[p,.name b] :: l)))=(!VaprbBase.RESERVED.contains b || _);congr 1;have hk:∀s:String,next (.name (word s)) (#[p,.name b] :: l)=(b == word s):=λs=>by
   show (VaprbBase.Tok.name b == VaprbBase.Tok.name (word s))=(b == word s);rw [b9,bO,bO];exists λh=>by cases h;rfl,λh=>by rw [h]
  simp only [hk,i5,List.any_nil,bI,cO,fJ,kJ]
 | sign n=>rfl
 | halt_=>rfl
def jB (h:exprNext l=false):takeExpr (n+1) l= .error #[3,here l]:=by
 cases l with
 | nil=>rfl
 | cons t l=>
  rw [oa] at h;obtain ⟨p,k⟩:=t;cases k with
  | num n=>cases h
  | sign n=>rfl
  | halt_=>rfl
  | name b=>
   have h:(!VaprbBase.RESERVED.contains b || (["true","false","if","flip","pick","uniform","given","weigh"].map word).contains b)=false:=h;rw [Bool.or_eq_false_iff] at h;obtain ⟨h1,h2⟩:=h;have hr:RESERVED.contains b=true:=by simpa using h1
   simp only [bI,cO,fJ,kJ,Bool.or_eq_false_iff,bS] at h2;obtain ⟨a1,a2,a3,a4,a5,a6,a7,a8,-⟩:=h2;show (if b=word "true" then _ else if b=word "false" then _ else if RESERVED.contains b=true then takeSpecial (takeExpr n) p b l else _)=_;rw [ae a1,ae a2,ah hr];unfold takeSpecial;rw [ae a4,ae a6,ae a5,ae a7,ae a3,ae a8];rfl
def gB:SP:=λK c vs H Q _=> ∃x dx v1 tk t v3 v4 v5,vs= [.ref x,v1,.ref tk,v3,v4,v5]/\H x=some (.ins c.ex dx [])/\iU c H tk t/\∀H':Hp,H' x=some (.ins c.ex dx [("form",v1),("word",.str (wordOf t.tok)),("number",.int (numOf t.tok)),("place",.int t.place),("parts",v3),("fractions",v4),("bounds",v5)])->(∀b o,H b=some o->b≠x->H' b=some o)->Q .cp H'
def a_:AA.c0 1 c.ex "Expression" ["self","form","token","parts","fractions","bounds"] gB:=by
 refine AA.i0 AA.gM (N:= ["self","form","token","parts","fractions","bounds"]) λT C FT H Q E nN hr h=>?_;obtain ⟨x,dx,v1,tk,t,v3,v4,v5,rfl,hx,⟨bh,dt,ht⟩,k⟩:=h;nomatch 2
 have ne:tk≠x:=λz=>by rw [z,hx] at ht;have:=(HO.ins.inj (bF ht)).2.2;cases this
 exists _,U,_,U,fw hx ?_;exists _,U,fr ((aA ne).trans ht) U #[_,U,fw aa ?_];exists _,U,fr ((aA ne).trans ((aA ne).trans ht)) U #[_,U,fw aa ?_];exists _,U,fr ((aA ne).trans ((aA ne).trans ((aA ne).trans ht))) U #[_,U,fw aa ?_];exists _,U,_,U,fw aa ?_;exists _,U,_,U,fw aa ?_;exists _,U,_,U,fw aa ?_;exact k _ aa λb o e ne=>by rw [aA ne,aA ne,aA ne,aA ne,aA ne,aA ne,aA ne];exact e
def iL (C:CT K c) (ht:iU c H tk t) (k:∀x H',H x=none->aq H H'->(∃dx,H' x=some (.ins c.ex dx [("form",v1),("word",.str (wordOf t.tok)),("number",.int (numOf t.tok)),("place",.int t.place),("parts",v3),("fractions",v4),("bounds",v5)]))->Q (.ref x) H'):
 ∀x dx,H x=none->H dx=none->dx≠x->gB K c (.ref x :: ([v1,.ref tk,v3,v4,v5]++ [])) (upd (upd H dx (.own x)) x (.ins c.ex dx [])) (λv H2=>v= .cp/\Q (.ref x) H2) E:=
 λx dx nx nd _=>#[x,dx,v1,tk,t,v3,v4,v5,rfl,aa,ht.mono C ((aq.upd nd).bM nx).Y,λH' e kp=>#[rfl,k x H' nx (aq.made nx nd kp) #[dx,e]]]
def Ay:∀s∈ ["true","false"],d3 (Str.ofString s) (.name (word s)):=EY (by decide)
def yp:∀s∈ ["if","flip","pick","uniform","given","weigh"],d3 (Str.ofString s) (.name (word s)):=EY (by decide)
def Gv (t:Tok):E3 t=(Pz t || (isNm t || (UH ["true","false"] t || UH ["if","flip","pick","uniform","given","weigh"] t))):=by
 cases t with
 | num n=>rfl
 | sign n=>rfl
 | halt_=>rfl
 | name b=>
  show (!VaprbBase.RESERVED.contains b || _)=(false || (!VaprbBase.RESERVED.contains b || ((["true","false"].map word).contains b || (["if","flip","pick","uniform","given","weigh"].map word).contains b)));rw [jg];simp only [bI,cO,fJ,kJ,h_,Bool.or_assoc]
def og:SP:=λK c vs H Q _=> ∃a t,vs= [.ref a]/\iU c H a t/\sI t.tok/\Q (.bl (E3 t.tok)) H
def ir:AA.h0 2 "begins_expression" ["token"] og:=by
 nomatch ["token"]
 obtain ⟨a,t,rfl,hA,hw,q⟩:=h;nomatch 1,FO ?_ ?_,bK,ig T.nO,FO ?_ ?_,qS,FO ?_ ?_,eC,fB T.x5,uL ?_,eC,fB T.qL
 rw [Gv] at q;obtain ⟨bh,dx,ht⟩:=id hA;exists _,U,fr ht U #[U,_,U,?_];rw [yg];refine bG (λe1=>?_) λe1=>?_
 . rw [e1,pA] at q;exact q
 rw [e1,jg] at q;exists _,U,a,t,U,hA,hw,_,U,bG (λe2=>?_) λe2=>?_
 . rw [e2,pA] at q;exact q
 rw [e2,jg] at q;exists _,U,fr ht U #[g.truths,_,U,.inr (T.x8.sq _),U,gi _,_,U,?_];rw [ae aO];have i1:=pO hw _ Ay;have i2:=pO hw _ yp;refine bG (λe3=>?_) λe3=>?_
 . rw [<-i1,e3,pA] at q;exact q
 rw [<-i1,e3,jg,<-i2] at q;exists _,U,fr ht U #[g.builtin,_,U,.inr (T.qN.sq _),U,gi _,q]
def yq:SP:=λK c vs H Q E=> ∃r l cnt most,vs= [.ref r,.int cnt,.int most]/\bT c H r l/\(cnt≠most->Q .cp H)/\(cnt=most->li c.cf E r H #[if exprNext l=true then 4 else 3,here l])
def oh:AA.hF 4 "refuse_more" ["reader","count","most"] yq:=by
 nomatch ["reader","count","most"]
 obtain ⟨r,l,cnt,most,rfl,hR,q1,q2⟩:=h;nomatch 1,bK,ir,aU,aU
 obtain ⟨t,l',rfl⟩:=hR.ye.ne;exists _,U,_,U,U,_,U,bG (λe1=>?_) λe1=>?_
 . have q:=q2 (by simpa using e1);rw [oa] at q;exists _,U,hR.me #[r,t,l',U,hR,λa ha=>#[a,t,U,ha,hR.ye.wf,_,U,?_]];refine bG (λe2=>?_) λe2=>?_
   . rw [ah e2] at q;exists _,U,hR.me #[r,t,l',U,hR,λa #[bh,da,ha]=>?_];exact (fr ha rfl #[_,_,rfl,li.go q Sb.refl])
   . rw [ae (by rw [e2];exact aO)] at q;exists _,U,hR.me #[r,t,l',U,hR,λa #[bh,da,ha]=>?_];exact (fr ha rfl #[_,_,rfl,li.go q Sb.refl])
 . exact q1 (by simpa using e1)
abbrev Fu:=Vaprbb.Fun
variable {f:Fu}
def yr (K:Frag) (H:Hp) (v:V) (k:Kd):= ∃a,v= .ref a/\gS K H a (kT k)
def Br (K:Frag) (c:Cl) (H:Hp) (v:V) (d:Decl):= ∃a dx kv,v= .ref a/\H a=some (.ins c.par dx [("name",.str (aR d.name.name)),("place",.int (d.name.place:Nat)),("kind",kv)])/\yr K H kv d.kind
def E4 (K:Frag) (c:Cl) (H:Hp) (v:V) (f:Fu):= ∃a dx pl kv bv ps,v= .ref a/\H a=some (.ins c.fn dx [("name",.str (aR f.name.name)),("place",.int (f.name.place:Nat)),("parameters",.ref pl),("kind",kv),("body",bv)])/\FL H pl ps/\A2 (Br K c H) ps f.params/\yr K H kv f.result/\iq K c H bv f.body
def Qs (K:Frag) (H:Hp) (v:V):Option Kd->Prop
 | none=>v= .cp
 | some k=>yr K H v k
def D_ (K:Frag) (c:Cl) (H:Hp) (v:V):Stm->Prop
 | .lets n k e=> ∃a dx wv ev,v= .ref a/\H a=some (.ins c.lh dx [("name",.str (aR n.name)),("place",.int (n.place:Nat)),("written",wv),("expression",ev)])/\Qs K H wv k/\iq K c H ev e
 | .observe e=> ∃a dx ev,v= .ref a/\H a=some (.ins c.obs dx [("expression",ev)])/\iq K c H ev e
def JV (c:Cl) (H:Hp) (v:V) (n:PName):=Tk c H v #[n.place,.name n.name]
def D' (K:Frag) (c:Cl) (H:Hp) (v:V) (p:Prog):= ∃a dx fl sl tl fs ss ts,v= .ref a/\H a=some (.ins c.prog dx [("title",.str (aR p.title.name)),("budget",.int (p.budget:Nat)),("functions",.ref fl),("statements",.ref sl),("told",.ref tl)])/\
 FL H fl fs/\A2 (E4 K c H) fs p.funs/\FL H sl ss/\A2 (D_ K c H) ss p.stms/\FL H tl ts/\A2 (JV c H) ts p.tells
section
def yr.Y (h:yr K H v k) (i:bX c H H'):yr K H' v k:=let #[a,e,q]:=h;#[a,e,gS.Y q i]
def Qs.Y {k:Option Kd} (h:Qs K H v k) (i:bX c H H'):Qs K H' v k:=by
 cases k with
 | none=>exact h
 | some k=>exact yr.Y h i
def Br.Y {d:Decl} (C:CT K c) (h:Br K c H v d) (i:bX c H H'):Br K c H' v d:=let #[a,dx,kv,e,q,k]:=h;#[a,dx,kv,e,i a _ q C.N0,k.Y i]
def iq.Y (C:CT K c) (h:iq K c H v e) (i:bX c H H'):iq K c H' v e:=jK.Y C i h
def E4.Y (C:CT K c) (h:E4 K c H v f) (i:bX c H H'):E4 K c H' v f:=
 let #[a,dx,pl,kv,bv,ps,e,q,h1,h2,h3,h4]:=h;#[a,dx,pl,kv,bv,ps,e,i a _ q C.Pu,h1.mono i,h2.mono λ_ _ z=>z.Y C i,h3.Y i,h4.Y C i]
def D_.Y {s:Stm} (C:CT K c) (h:D_ K c H v s) (i:bX c H H'):D_ K c H' v s:=by
 cases s with
 | lets n k e=>obtain ⟨a,dx,wv,ev,e,q,h1,h2⟩:=h;exists a,dx,wv,ev,e,i a _ q C.JC,h1.Y i,h2.Y C i
 | observe e=>obtain ⟨a,dx,ev,e,q,h2⟩:=h;exists a,dx,ev,e,i a _ q C.N5,h2.Y C i
def JV.Y {n:PName} (C:CT K c) (h:JV c H v n) (i:bX c H H'):JV c H' v n:=Tk.mono C h i
def D'.Y (C:CT K c) (h:D' K c H v p) (i:bX c H H'):D' K c H' v p:=
 let #[a,dx,fl,sl,tl,fs,ss,ts,e,q,h1,h2,h3,h4,h5,h6]:=h
 #[a,dx,fl,sl,tl,fs,ss,ts,e,i a _ q C.JE,h1.mono i,h2.mono λ_ _ z=>z.Y C i,h3.mono i,h4.mono λ_ _ z=>z.Y C i,h5.mono i,h6.mono λ_ _ z=>z.Y C i]
end
def iw (l:Toks):takeDecl l=(takeName l >>= λx=>takeKind x.2 >>= λk=> .ok (#[x.1,k.1],k.2)):=rfl
def g8 (f k:Nat) (l:Toks):takeParams (f+1) k l=if nameNext l=true/\4<=k then .error #[4,here l] else takeDecl l >>= λd=>if next (.sign 44) d.2=true then takeParams f (k+1) (d.2.drop 1) >>= λr=> .ok (d.1 :: r.1,r.2) else take (.sign 41) d.2 >>= λl2=> .ok ([d.1],l2):=rfl
def oj (l:Toks):Except Fault (List Decl×Toks):=if next (.sign 41) l=true then .ok ([],l.drop 1) else takeParams (l.length+1) 0 l
def qW (l:Toks):takeFun l=(take (.name (word "def")) l >>= λl1=>takeName l1 >>= λn=>take (.sign 40) n.2 >>= λl2=>oj l2 >>= λps=>takeKind ps.2 >>= λk=>take (.sign 61) k.2 >>= λl3=>takeExpr 24 l3 >>= λe=>take (.sign 59) e.2 >>= λl4=> .ok (#[n.1,ps.1,k.1,e.1],l4)):=by
 show (take (.name (word "def")) l >>= _)=_;refine aS λl1=>?_;refine aS (x:=takeName l1) λn=>?_;refine aS (x:=take (.sign 40) n.2) λl2=>?_;unfold oj;by_cases h:next (.sign 41) l2=true
 . rw [ah h,ah h];rfl
 . rw [ae h,ae h];rfl
def vZ (f k:Nat) (l:Toks):takeFuns (f+1) k l=if next (.name (word "def")) l=false then .ok ([],l) else if 8<=k then .error #[4,here l] else takeFun l >>= λx=>takeFuns f (k+1) x.2 >>= λr=> .ok (x.1 :: r.1,r.2):=rfl
def j9 (l:Toks):Except Fault (Option Kd×Toks):=if next (.sign 61) l=true then .ok (none,l) else takeKind l >>= λx=> .ok (some x.1,x.2)
def jC (l:Toks):takeStm l=if next (.name (word "observe")) l=true then takeExpr 24 (l.drop 1) >>= λe=>take (.sign 59) e.2 >>= λl2=> .ok (.observe e.1,l2) else take (.name (word "let")) l >>= λl1=>takeName l1 >>= λn=>j9 n.2 >>= λk=>take (.sign 61) k.2 >>= λl2=>takeExpr 24 l2 >>= λe=>take (.sign 59) e.2 >>= λl3=> .ok (.lets n.1 k.1 e.1,l3):=by
 have hk:∀l,(if next (.sign 61) l=true then .ok (none,l) else (takeKind l).map λx=>(some x.1,x.2):Except Fault (Option Kd×Toks))=j9 l:=λl=>by
  unfold j9;split
  . rfl
  . cases takeKind l <;> rfl
 unfold takeStm;by_cases hl:next (.name (word "let")) l=true
 . have ho:¬next (.name (word "observe")) l=true:=λz=>by
    obtain ⟨p,r,rfl⟩:=next_ne hl;exact Bool.noConfusion z
   rw [ah hl,ae ho];have:take (.name (word "let")) l= .ok (l.drop 1):=by unfold take;rw [ah hl]
   rw [this];show (takeName (l.drop 1) >>= _)=(takeName (l.drop 1) >>= _);refine aS λn=>?_;rw [<-hk];by_cases h:next (.sign 61) n.2=true
   . rw [ah h];exact ah h
   . rw [ae h];exact ae h
 . rw [ae hl];by_cases ho:next (.name (word "observe")) l=true
   . rw [ah ho];have:takeWord "observe" l= .ok (l.drop 1):=by unfold takeWord take;rw [ah ho]
     rw [this];rfl
   . rw [ae ho];have h1:takeWord "observe" l=wrong l:=by unfold takeWord take;rw [ae ho]
     have h2:take (.name (word "let")) l=wrong l:=by unfold take;rw [ae hl]
     rw [h1,h2];rfl
def om (f k:Nat) (l:Toks):takeStms (f+1) k l=if next (.name (word "tell")) l=true/\0 < k then .ok ([],l) else if (next (.name (word "let")) l || next (.name (word "observe")) l)=true/\32<=k then .error #[4,here l] else takeStm l >>= λx=>takeStms f (k+1) x.2 >>= λr=> .ok (x.1 :: r.1,r.2):=rfl
def mj (f k:Nat) (l:Toks):takeTells (f+1) k l=if nameNext l=true/\6<=k then .error #[4,here l] else takeName l >>= λx=>if next .halt_ x.2=true then .ok [x.1] else take (.sign 44) x.2 >>= λl2=>takeTells f (k+1) l2 >>= λr=> .ok (x.1 :: r):=rfl
def qA (l:Toks):takeBudget l=if next (.name (word "budget")) l=true then takeNum (l.drop 1) >>= λn=>if n.1.2 < 0\/20 < n.1.2 then .error #[7,n.1.1] else .ok (n.1.2.toNat,n.2) else .ok (0,l):=rfl
def v8 (l:Toks):takeProg l=(take (.name (word "chance")) l >>= λl1=>takeName l1 >>= λt=>takeBudget t.2 >>= λb=>takeFuns (b.2.length+1) 0 b.2 >>= λfs=>takeStms (fs.2.length+1) 0 fs.2 >>= λss=>take (.name (word "tell")) ss.2 >>= λl2=>takeTells (l2.length+1) 0 l2 >>= λts=> .ok #[t.1,b.1,fs.1,ss.1,ts]):=rfl
def oo {x:Decl×Toks} (h:takeDecl l= .ok x):x.2.length < l.length:=by
 rw [iw] at h;let #[a,h1,h]:=aj h;let #[k,h2,h]:=aj h;have:=d5 h1;have:=j5 h2;cases h;show k.2.length < _;omega
def qB:∀{f k:Nat} {l:Toks} {x:List Decl×Toks},takeParams f k l= .ok x->x.2.length < l.length
 | 0,_,_,_,h=>by cases h
 | f+1,k,l,x,h=>by
  rw [g8] at h;split at h
  . cases h
  . let #[a,h1,h]:=aj h;have:=oo h1;split at h
    . let #[r,h2,h]:=aj h;have:=qB h2;rw [cT] at this;cases h;show r.2.length < _;omega
    . let #[l2,h2,h]:=aj h;have:=aZ h2;cases h;show l2.length < _;omega
def Az {x:List Decl×Toks} (h:oj l= .ok x):x.2.length < l.length:=by
 unfold oj at h;split at h
 . rename_i hn;obtain ⟨p,r,rfl⟩:=next_ne hn;cases h;exact du _
 . exact qB h
def qX {x:Fu×Toks} (h:takeFun l= .ok x):x.2.length < l.length:=by
 rw [qW] at h;let #[l1,h1,h]:=aj h;let #[n,h2,h]:=aj h;let #[l2,h3,h]:=aj h;let #[ps,h4,h]:=aj h;let #[k,h5,h]:=aj h;let #[l3,h6,h]:=aj h;let #[e,h7,h]:=aj h;let #[l4,h8,h]:=aj h;have:=aZ h1;have:=d5 h2;have:=aZ h3;have:=Az h4;have:=j5 h5;have:=aZ h6;have:=d6 _ _ _ h7;have:=aZ h8;cases h;show l4.length < _;omega
def yt {x:Option Kd×Toks} (h:j9 l= .ok x):x.2.length<=l.length:=by
 unfold j9 at h;split at h
 . cases h;exact aw _
 . let #[a,h1,h]:=aj h;have:=j5 h1;cases h;show a.2.length<=_;omega
def qY {x:Stm×Toks} (h:takeStm l= .ok x):x.2.length < l.length:=by
 rw [jC] at h;split at h
 . let #[e,h1,h]:=aj h;let #[l2,h2,h]:=aj h;have:=d6 _ _ _ h1;rw [cT] at this;have:=aZ h2;cases h;show l2.length < _;omega
 . let #[l1,h1,h]:=aj h;let #[n,h2,h]:=aj h;let #[k,h3,h]:=aj h;let #[l2,h4,h]:=aj h;let #[e,h5,h]:=aj h;let #[l3,h6,h]:=aj h;have:=aZ h1;have:=d5 h2;have:=yt h3;have:=aZ h4;have:=d6 _ _ _ h5;have:=aZ h6;cases h;show l3.length < _;omega
def j_ (h:¬nameNext l=true):takeName l= .error #[3,here l]:=by
 unfold takeName;split
 . rename_i p b r;have h:¬(!VaprbBase.RESERVED.contains b)=true:=h;rw [ah (by simpa using h)];rfl
 . rfl
def AB: [V.ref r,V.int (23 - (n:Int)+1)]= [V.ref r,V.int (24 - (n:Int))]:=by
 have:(23 - (n:Int)+1)=24 - (n:Int):=by omega
 rw [this]
def qZ (n:Nat):SP:=λK c vs H Q E=> ∃r l,vs= [.ref r,.int (24 - (n:Int))]/\bT c H r l/\aQ c.cf E r H (takeExpr n l) (λx=> ∀a H',iq K c H' (.ref a) x.1->Sb r H H'->bT c H' r x.2->Q (.ref a) H')
abbrev cH (n:Nat):=AA.hF (7+4 * n+1) "read_expression" ["reader","around"] (qZ n)
def _root_.L2.Sb.at (s:Sb r H H') (hR:bT c H r l) (h:H D=some o) (n:∀dx fs,o≠ .ins c.rd dx fs:=by exact λ_ _ z=>by cases z):H' D=some o:=s D o h λz=>by
 subst z;obtain ⟨dx,tl,vs,k,e,_⟩:=hR;rw [e] at h;exact n _ _ (bF h).symm
def _root_.L2.Sb.new (s:Sb r H H') (hR:bT c H r l) (d_:bT c H' r l') (hD:H' D=none):H D=none:=by
 rcases s.free (λz=>by obtain ⟨dx,tl,vs,k,e,_⟩:=hR;rw [e] at z;cases z) hD with h | h
 . exact h
 . subst h;obtain ⟨dx,tl,vs,k,e,_⟩:=d_;rw [e] at hD;cases hD
def bT.up {u:HO} (C:CT K c) (h:bT c H r l) (e:H D=some u) (hu:L2.Y c u=false) (n:∀dx fs,u≠ .ins c.rd dx fs:=by exact λ_ _ z=>by cases z):bT c (upd H D o) r l:=by
 obtain ⟨dx,tl,vs,k,e1,f,a,t,z⟩:=h;have ne:r≠D:=λq=>by subst q;rw [e1] at e;exact n _ _ (bF e).symm
 have im:bX c H (upd H D o):=bX.upd e hu;exists dx,tl,vs,k,(aA ne).trans e1,f.mono im,a.mono λ_ _ q=>q.mono C im,t,z
def zB (n:Nat):SP:=λK c vs H Q E=> ∃r l,∃cnt:Nat,vs= [.ref r,.int cnt,.int (23 - (n:Int))]/\0 < cnt/\cnt<=3/\bT c H r l/\aQ c.cf E r H (partsOf (takeExpr n) cnt l) (λx=> ∀p ps H',FL H' p ps->A2 (iq K c H') ps x.1->Sb r H H'->bT c H' r x.2->Q (.ref p) H')
abbrev ml (n:Nat):=AA.hF (8+4*n+1) "read_parts" ["reader","count","around"] (zB n)
def zC (n:Nat) (b_:cH AA n):ml AA n:=by
 nomatch ["reader","count","around","parts"]
 obtain ⟨r,l,cnt,rfl,h0,h3,hR,q⟩:=h;nomatch 2,aL,3,dv b_ ?_,dY,eS,aM aJ,aL,cJ bN,dv b_ ?_,dY,aL,1
 unfold partsOf at q;exists _,U,hR.me #[r,l,_,_,U,vT,hR,aQ.go q Sb.refl λl1 e1 q a t H1 hl ha s1 dI=>?_];exists _,U,_,U,_,_,U,U,r,l1,AB,dI,aQ.go q s1 λx e2 q a1 H2 hx s2 dP=>?_;exists jJ,λD hD=>?_;have ss:=aq.upd (o:= .lst [V.ref a1]) hD;have MA:H D=none:=(s1.trans s2).new hR dP hD;exists λm σ H'=> ∃(vs:List V) (done:List Ex) (l2:Toks) (k:Nat),σ= [some (.ref r),some (.int (cnt:Nat)),some (.int (23 - (n:Int))),some (.ref D)]/\H' D=some (.lst vs)/\A2 (iq K c H') vs done/\done.length+k=cnt/\m=k/\Sb r H H'/\bT c H' r l2/\aQ c.cf E r H (jA (takeExpr n) k l2) (λy=> ∀p ps Bs,FL Bs p ps->A2 (iq K c Bs) ps (done++y.1)->Sb r H Bs->bT c Bs r y.2->Q (.ref p) Bs),
  #[_,[.ref a1],[x.1],x.2,cnt - 1,rfl,aa,#[hx.Y C ss.Y,au],by show 1+(cnt - 1)=cnt;omega,rfl,(s1.trans s2).trans ss.sb,dP.sb C ss,aQ.go q Sb.refl λy _ q=>q],?_
 rintro m σ H' ⟨vs,done,l2,k,rfl,lz,hA,hk,rfl,sb,d_,q⟩;have hlen:=hA.len;exists _,U,D,_,U,.inl (cz.of lz),_,U,_,_,U,U,_,U,bG (λe3=>?_) λe3=>?_
 . have hk1:0 < m:=by simp at e3;omega
   obtain ⟨m,rfl⟩:∃j,m=j+1:=#[m - 1,by omega];refine dG ?_;exists _,U,d_.me #[r,l2,_,_,U,vU,d_,aQ.go q sb λl3 e4 q a t H3 hl ha s3 m3=>?_];have lP:=s3.at d_ lz;exists _,U,mR lP,_,U,_,U,_,_,U,U,r,l3,AB,m3,aQ.go q (sb.trans s3) λy e5 q a2 H4 hy s4 tR=>?_;have m4:=s4.at m3 lP;have Hz:=(d_.Y s3).trans (m3.Y s4);have dJ:bX c H4 (upd H4 D (.lst (vs++ [.ref a2]))):=bX.upd m4 rfl;exists D,vs,_,U,U,m4,by have:(3:Nat) < sizeLine:=(by decide);omega,?_;exists m,du _,vs++ [.ref a2],done++ [y.1],y.2,m,U,aa,(hA.mono λ_ _ z=>(z.Y C Hz).Y C dJ).snoc (hy.Y C dJ),by rw [ao,aC];omega,rfl,((sb.trans s3).trans s4).bM MA,tR.up C m4 rfl,?_;refine aQ.go q Sb.refl λz _ q p ps Bs f a s rr=>q p ps Bs f ?_ s rr;rw [bw] at a;exact a
 . have hk0:m=0:=by simp at e3;omega
   subst hk0;exists _,U,d_.me #[r,l2,_,_,U,sJ,d_,aQ.go q sb λl3 e4 q a t H3 hl ha s3 m3=>?_];have lP:=s3.at d_ lz;exists _,U,D,_,U,lP,au,λo=>?_;have dJ:bX c H3 (upd H3 D (.gR o (.lst vs))):=bX.upd lP rfl;refine q D vs _ #[o,aa] ?_ ((sb.trans s3).bM MA) (m3.up C lP rfl);rw [bH];exact hA.mono λ_ _ z=>(z.Y C (d_.Y s3)).Y C dJ
def sM (n:Nat):SP:=λK c vs H Q E=> ∃r l,vs= [.ref r,.int (23 - (n:Int))]/\bT c H r l/\aQ c.cf E r H (take (.sign 40) l >>= λl1=>if next (.sign 41) l1=true then .ok (.nil,l1.drop 1) else takeArgs (takeExpr n) (l1.length+1) 0 l1) (λx=> ∀p ps H',FL H' p ps->jK K c H' x.1 ps->Sb r H H'->bT c H' r x.2->Q (.ref p) H')
abbrev lB (n:Nat):=AA.hF (8+4*n+1) "read_arguments" ["reader","around"] (sM n)
def sN (n:Nat) (b_:cH AA n):lB AA n:=by
 nomatch ["reader","around","parts"]
 obtain ⟨r,l,rfl,hR,q⟩:=h;nomatch 2,aL,2,bZ,1,cJ bN,dv b_ ?_,dY,bZ,oh,aM aJ,T.lm,cJ bN,dv b_ ?_,dY,aL,1
 exists _,U,hR.me #[r,l,_,_,U,vT,hR,aQ.go q Sb.refl λl1 e1 q a t H1 hl ha s1 dI=>?_];exists jJ,λD hD=>?_;have ss:=aq.upd (o:= .lst ([]:List V)) hD;have MA:H D=none:=s1.new hR dI hD;have dI:=dI.sb C ss;replace s1:=s1.trans ss.sb;have hD1:upd H1 D (.lst []) D=some (.lst []):=aa;revert hD1 dI s1;generalize upd H1 D (.lst [])=W0;intro dI s1 hD1;exists _,U,dI.me #[r,l1,_,_,U,sJ,dI,λhn H2 s2 dP=>?_,λhn=>?_]
 . exists _,U,nB ?_;rw [ah hn] at q;have eN:=s2.at dI hD1;exists _,U,D,_,U,eN,au,λo=>?_;exact q D [] _ #[o,aa] rfl ((s1.trans s2).bM MA) (dP.up C eN rfl)
 exists _,U,mQ ?_;rw [ae (by rw [hn];exact aO),j8,ae (λz=>by omega)] at q;exists _,U,mR hD1,_,U,_,U,_,_,U,U,r,l1,AB,dI,aQ.go q s1 λx e2 q a1 H2 hx s2 dP=>?_;have hn0:∃n',n=n'+1:=by
  cases n with
  | zero=>cases e2
  | succ n'=>exists n',U
 have eN:=s2.at dI hD1;have dJ:bX c H2 (upd H2 D (.lst ([]++ [.ref a1]))):=bX.upd eN rfl;exists D,[],_,U,U,eN,by decide,?_;have hsh:=d6 _ _ _ e2;exists λm σ H'=> ∃(vs:List V) (l2:Toks) (fu k:Nat) (T:Ex->Ex),σ= [some (.ref r),some (.int (23 - (n:Int))),some (.ref D)]/\H' D=some (.lst vs)/\(∀Bs ws e,bX c H' Bs->jK K c Bs e ws->jK K c Bs (T e) (vs++ws))/\vs.length=k/\k<=4/\m=l2.length/\l2.length < fu+1/\Sb r H H'/\bT c H' r l2/\aQ c.cf E r H (if next (.sign 44) l2=true then takeArgs (takeExpr n) fu k (l2.drop 1) >>= λr=> .ok (T r.1,r.2) else take (.sign 41) l2 >>= λl3=> .ok (T .nil,l3)) (λx=> ∀p ps H',FL H' p ps->jK K c H' x.1 ps->Sb r H H'->bT c H' r x.2->Q (.ref p) H'),
  #[_,[.ref a1],x.2,l1.length,1,(.arg x.1 ·),rfl,aa,λBs ws e i h=>#[_,ws,rfl,(hx.Y C dJ).Y C i,h],rfl,by decide,rfl,by omega,(s1.trans s2).bM MA,dP.up C eN rfl,q],?_
 clear q hD1 eN hx dJ hsh dP s2 e2 hn dI s1;rintro m σ H' ⟨vs,l2,fu,k,T',rfl,lz,hT,hk,UI,rfl,hfu,sb,d_,q⟩;exists _,U,d_.me #[r,l2,_,_,U,vU,d_,λhn H2 s2 dP=>?_,λhn=>?_]
 . exists _,U,nB ?_;rw [ah hn] at q;have eN:=s2.at d_ lz;obtain ⟨p0,r0,hl2⟩:=next_ne hn;have hdl:(l2.drop 1).length+1=l2.length:=by rw [hl2];rfl
   obtain ⟨fu,rfl⟩:∃j,fu=j+1:=#[fu - 1,by omega];rw [j8] at q;refine dG ?_;exists _,U,_,U,D,_,U,.inl (cz.of eN),r,_,_,_,U,dP,λkg=>?_,λheq=>?_
   . rw [ae (λz=>by omega),bn] at q;exists _,U,mR eN,_,U,_,U,_,_,U,U,r,_,AB,dP,aQ.go q (sb.trans s2) λy e5 q a2 H4 hy s4 tR=>?_;have m4:=s4.at dP eN;have Hz:=(d_.Y s2).trans (dP.Y s4);have dJ:bX c H4 (upd H4 D (.lst (vs++ [.ref a2]))):=bX.upd m4 rfl;have hsh:=d6 _ _ _ e5;exists D,vs,_,U,U,m4,by have:(4:Nat) < sizeLine:=(by decide);omega,?_;exists _,?_,vs++ [.ref a2],y.2,fu,k+1,λe=>T' (.arg y.1 e),U,aa,λBs ws e i h=>?_,by rw [ao,hk];rfl,by omega,rfl,by omega,((sb.trans s2).trans s4).bM MA,tR.up C m4 rfl,?_
     . omega
     . rw [bw];exact hT _ _ _ ((Hz.trans dJ).trans i) #[_,ws,rfl,(hy.Y C dJ).Y C i,h]
     . split <;> rename_i hc
       . rw [ah hc,bn] at q;exact q
       . rw [ae hc,bn] at q;exact q
   . have heq:k=4:=by omega
     subst heq;by_cases hx:exprNext (l2.drop 1)=true
     . rw [ah #[hx,aw _]] at q;rw [ah hx];exact li.on q (sb.trans s2)
     . obtain ⟨n',rfl⟩:=hn0;rw [ae (λz=>hx z.1),jB (by simpa using hx)] at q;rw [ae hx];exact li.on q (sb.trans s2)
 . exists _,U,mQ ?_;rw [ae (by rw [hn];exact aO)] at q;exists _,U,d_.me #[r,l2,_,_,U,sJ,d_,aQ.go q sb λl3 e4 q a t H3 hl ha s3 m3=>?_];have lP:=s3.at d_ lz;exists _,U,D,_,U,lP,au,λo=>?_;have dJ:bX c H3 (upd H3 D (.gR o (.lst vs))):=bX.upd lP rfl;refine q D vs _ #[o,aa] ?_ ((sb.trans s3).bM MA) (m3.up C lP rfl);have:=hT _ [] .nil ((d_.Y s3).trans dJ) rfl;rw [bH] at this;exact this
def mU {o:Obj} (hD:H D=none):aq H (upd (upd H D (.lst xs)) D (.gR o (.lst xs)))/\FL (upd (upd H D (.lst xs)) D (.gR o (.lst xs))) D xs:=#[(aq.upd hD).bM hD,#[o,aa]]
abbrev JW (K:Frag) (c:Cl) (H:Hp) (r:Addr) (Q:VK):Ex×Toks->Prop:=λx=> ∀a H',iq K c H' (.ref a) x.1->Sb r H H'->bT c H' r x.2->Q (.ref a) H'
def S3 (r p q:Addr) (H H':Hp):= ∀b o,H b=some o->b≠r->b≠p->b≠q->H' b=some o
def Dg {α:Type} (cf:Addr) (E:XK) (r p q:Addr) (H:Hp) (x:Except Fault α) (ok:α->Prop):Prop:=match x with
 | .ok a=>ok a
 | .error f=> ∀H',S3 r p q H H'->Rz cf E H' f
def Dg.go {p q:Addr} {x:Except Fault α} {f:α->Except Fault β} {ok:β->Prop} {ok':α->Prop} (w:Dg cf E r p q H (x >>= f) ok) (s:S3 r p q H H1) (h:∀a,x= .ok a->Dg cf E r p q H (f a) ok->ok' a):aQ cf E r H1 x ok':=by
 cases x with
 | ok a=>exact h a rfl w
 | error e=>exact λH' s'=>w H' λb o hb h1 h2 h3=>s' b o (s b o hb h1 h2 h3) h1
def S3.refl {p q:Addr}:S3 r p q H H:=λ_ _ e _ _ _=>e
def S3.sb {p q:Addr} {H2:Hp} (s:S3 r p q H H1) (t:Sb r H1 H2):S3 r p q H H2:=λb o e h1 h2 h3=>t b o (s b o e h1 h2 h3) h1
def S3.up {p q:Addr} (s:S3 r p q H H1):S3 r p q H (upd H1 p o):=λb o e h1 h2 h3=>(aA h2).trans (s b o e h1 h2 h3)
def S3.uq {p q:Addr} (s:S3 r p q H H1):S3 r p q H (upd H1 q o):=λb o e h1 h2 h3=>(aA h3).trans (s b o e h1 h2 h3)
def Bt:SP:=λK c vs H Q E=> ∃r l tk p,vs= [.ref r,.ref tk]/\iU c H tk #[p,.name (word "flip")]/\bT c H r l/\aQ c.cf E r H (take (.sign 40) l >>= λl1=>takeChance l1 >>= λx=>take (.sign 41) x.2 >>= λl2=> .ok (.flip p x.1,l2)) (JW K c H r Q)
def Bu:AA.hF 7 "read_flip" ["reader","first"] Bt:=by
 nomatch ["reader","first","share"]
 obtain ⟨r,l,tk,p,rfl,ht,hR,q⟩:=h;nomatch 2,aL,2,zA,aL,gw (a_ AA) (aI ?_ (aI ?_ (aI (di ?_) (aI (di ?_) ?_))))
 exists _,U,hR.me #[r,l,_,_,U,vT,hR,aQ.go q Sb.refl λl1 e1 q a t H1 hl ha s1 dI=>?_];exists _,U,r,l1,U,dI,aQ.go q s1 λx e2 q a1 H2 hx s2 dP=>?_;exists _,U,dP.me #[r,_,_,_,U,sJ,dP,aQ.go q (s1.trans s2) λl3 e1 q a t H3 hl ha s3 m3=>?_];have i3:=((hR.Y s1).trans (dI.Y s2)).trans (dP.Y s3);have S2:=ht.mono C i3;have NM:H3 a1=_:=dP.Y s3 _ _ hx rfl;exists _,U,aD _,λD hD=>#[D,_,U,aa,au,λo=>?_];obtain ⟨sD,fD⟩:=mU (xs:= []) (o:=o) hD;exists _,U,jJ,λD2 eN=>#[D2,_,U,aa,au,λo2=>?_];obtain ⟨pZ,xm⟩:=mU (xs:= [.ref a1]) (o:=o2) eN;have ss:=sD.trans pZ;refine iL C (S2.mono C ss.Y) λy H4 ny s4 #[dx,hy]=>?_;have PB:=ss.trans s4;exact q y H4 #[y,D,rfl,#[dx,D2,.cp,[.ref a1],hy,rfl,xm.mono (c:=c) s4.Y,#[#[a1,rfl,PB _ _ NM],au]],fD.mono (c:=c) (pZ.trans s4).Y] (((s1.trans s2).trans s3).trans PB.sb) (m3.sb C PB)
def wJ:SP:=λK c vs H Q E=> ∃r l tk p,vs= [.ref r,.ref tk]/\iU c H tk #[p,.name (word "uniform")]/\bT c H r l/\aQ c.cf E r H (take (.sign 40) l >>= λl1=>takeBounds l1 >>= λx=>take (.sign 41) x.2 >>= λl2=> .ok (.uniform p x.1.1 x.1.2,l2)) (JW K c H r Q)
def wK:AA.hF 5 "read_uniform" ["reader","first"] wJ:=by
 nomatch ["reader","first","low","high","bounds"]
 obtain ⟨r,l,tk,p,rfl,ht,hR,q⟩:=h;nomatch 2,aL,2,b8,aL,3,b8,4,nR,aL,gw (a_ AA) (aI ?_ (aI ?_ (aI (di ?_) (aI (di ?_) ?_))))
 exists _,U,hR.me #[r,l,_,_,U,vT,hR,aQ.go q Sb.refl λl1 e1 q a t H1 hl ha s1 dI=>?_];rw [kl,bn] at q;exists _,U,dI.me #[r,l1,U,dI,aQ.go q s1 λx e2 q a1 H2 w1 ha1 s2 dP=>?_];rw [bn] at q;exists _,U,dP.me #[r,_,_,_,U,vU,dP,aQ.go q (s1.trans s2) λl3 e3 q a t H3 hl ha s3 m3=>?_];rw [bn] at q;exists _,U,m3.me #[r,_,U,m3,aQ.go q ((s1.trans s2).trans s3) λy e4 q a2 H4 w2 lO s4 tR=>?_];rw [bn] at q;obtain ⟨b1,ha1⟩:=(ha1.mono C (dP.Y s3)).mono C (m3.Y s4);obtain ⟨b2,lO⟩:=lO;have i4:=(((hR.Y s1).trans (dI.Y s2)).trans (dP.Y s3)).trans (m3.Y s4);have PB:=((s1.trans s2).trans s3).trans s4;exists _,U,_,U,a1,a2,_,_,b1,b2,U,ha1,lO,aQ.WZ q PB λ_ e5 q B hB=>?_;have sB:=aq.upd (o:= .tup (kT (.num x.1.2 y.1.2))) hB;have S4:=tR.sb C sB;exists _,U,S4.me #[r,_,_,_,U,sJ,S4,aQ.go q (PB.trans sB.sb) λl3 e1 q a t H5 hl ha s5 E5=>?_];have W1:H5 B=_:=S4.Y s5 _ _ aa rfl;have UJ:=((ht.mono C i4).mono C sB.Y).mono C (S4.Y s5);exists _,U,aD _,λD hD=>#[D,_,U,aa,au,λo=>?_];obtain ⟨sD,fD⟩:=mU (xs:= []) (o:=o) hD;exists aD _,λD2 eN=>#[D2,_,U,aa,au,λo2=>?_];obtain ⟨pZ,xm⟩:=mU (xs:= []) (o:=o2) eN;have ss:=sD.trans pZ;exists _,U,iL C (UJ.mono C ss.Y) λy H6 ny s6 #[dx,hy]=>?_;have jb:=ss.trans s6;exact q y H6 #[y,D,rfl,#[dx,D2,.ref B,[],hy,#[B,rfl,.inl (.inl (jb _ _ W1))],xm.mono (c:=c) s6.Y,au],fD.mono (c:=c) (pZ.trans s6).Y] (((PB.trans sB.sb).trans s5).trans jb.sb) (E5.sb C jb)
def zD (n:Nat):SP:=λK c vs H Q E=> ∃r l tk p,vs= [.ref r,.ref tk,.int (23 - (n:Int))]/\iU c H tk #[p,.name (word "weigh")]/\bT c H r l/\aQ c.cf E r H (take (.sign 40) l >>= λl1=>takeWeight l1 >>= λf=>take (.sign 44) f.2 >>= λl2=>takeExpr n l2 >>= λa=>take (.sign 41) a.2 >>= λl3=> .ok (.weigh p f.1 a.1,l3)) (JW K c H r Q)
abbrev sO (n:Nat):=AA.hF (8+4*n+1) "read_weigh" ["reader","first","around"] (zD n)
def zE (n:Nat) (b_:cH AA n):sO AA n:=by
 nomatch ["reader","first","around","weight","part"]
 obtain ⟨r,l,tk,p,rfl,ht,hR,q⟩:=h;nomatch 2,aL,3,nY,aL,4,dv b_ ?_,dY,aL,gw (a_ AA) (aI ?_ (aI ?_ (aI (di ?_) (aI (di ?_) ?_))))
 exists _,U,hR.me #[r,l,_,_,U,vT,hR,aQ.go q Sb.refl λl1 e1 q a t H1 hl ha s1 dI=>?_];exists _,U,r,l1,U,dI,aQ.go q s1 λx e2 q a1 H2 hx s2 dP=>?_;exists _,U,dP.me #[r,_,_,_,U,vU,dP,aQ.go q (s1.trans s2) λl3 e1 q a t H3 hl ha s3 m3=>?_];have UK:=(s1.trans s2).trans s3;exists _,U,_,U,_,_,U,U,r,_,AB,m3,aQ.go q UK λy e4 q a2 H4 hy s4 tR=>?_;exists _,U,tR.me #[r,_,_,_,U,sJ,tR,aQ.go q (UK.trans s4) λl5 e1 q a t H5 hl ha s5 E5=>?_];have VM:=((dP.Y s3).trans (m3.Y s4)).trans (tR.Y s5);have UJ:=ht.mono C (((hR.Y s1).trans (dI.Y s2)).trans VM);have RJ:H5 a1=_:=VM _ _ hx rfl;have W2:=hy.Y C (tR.Y s5);exists _,U,_,U,jJ,λD hD=>#[D,_,U,aa,au,λo=>?_];obtain ⟨sD,fD⟩:=mU (xs:= [.ref a2]) (o:=o) hD;exists _,U,jJ,λD2 eN=>#[D2,_,U,aa,au,λo2=>?_];obtain ⟨pZ,xm⟩:=mU (xs:= [.ref a1]) (o:=o2) eN;have ss:=sD.trans pZ;refine iL C (UJ.mono C ss.Y) λz H6 nz s6 #[dx,hz]=>?_;have jb:=ss.trans s6;exact q z H6 #[z,D,.ref a2,rfl,#[dx,D2,.cp,[.ref a1],hz,rfl,xm.mono (c:=c) s6.Y,#[#[a1,rfl,jb _ _ RJ],au]],fD.mono (c:=c) (pZ.trans s6).Y,W2.Y C jb.Y] (((UK.trans s4).trans s5).trans jb.sb) (E5.sb C jb)
def Dh (n:Nat):SP:=λK c vs H Q E=> ∃r l pD wD ps ws,vs= [.ref r,.int (23 - (n:Int)),.ref pD,.ref wD]/\H pD=some (.lst ps)/\H wD=some (.lst ws)/\pD≠wD/\ps.length<=8/\ws.length<=8/\bT c H r l/\Dg c.cf E r pD wD H (takeExpr n l >>= λa=>take (.sign 58) a.2 >>= λl1=>takeWeight l1 >>= λw=> .ok ((a.1,w.1),w.2)) (λx=> ∀H' v u,S3 r pD wD H H'->bX c H H'->H' pD=some (.lst (ps++ [v]))->H' wD=some (.lst (ws++ [u]))->iq K c H' v x.1.1->Mz H' u x.1.2->bT c H' r x.2->Q .cp H')
abbrev yu (n:Nat):=AA.hF (8+4*n+1) "read_way" ["reader","around","parts","weights"] (Dh n)
def Di (n:Nat) (b_:cH AA n):yu AA n:=by
 nomatch ["reader","around","parts","weights"]
 obtain ⟨r,l,pD,wD,ps,ws,rfl,hp,hw,kg,hl1,hl2,hR,q⟩:=h;nomatch 2,cJ bN,dv b_ ?_,dY,aL,cJ bN,nY
 have h8:(8:Nat) < sizeLine:=by decide
 exists _,U,mR hp,_,U,_,U,_,_,U,U,r,l,AB,hR,Dg.go q S3.refl λx e1 q a1 H1 hx s1 dI=>?_;have hp1:=s1.at hR hp;have hw1:=s1.at hR hw;exists pD,ps,_,U,U,hp1,by omega,?_;have iu:bX c H1 (upd H1 pD (.lst (ps++ [.ref a1]))):=bX.upd hp1 rfl;have Qt:bT c (upd H1 pD (.lst (ps++ [.ref a1]))) r x.2:=dI.up C hp1 rfl;have su:=(S3.refl.sb s1).up (p:=pD) (q:=wD) (o:= .lst (ps++ [.ref a1]));exists _,U,Qt.me #[r,_,_,_,U,RE,Qt,Dg.go q su λl2 e2 q a t H2 hl ha s2 dP=>?_];have hp2:=s2.at Qt aa;have hw2:=s2.at Qt ((aA (bY kg)).trans hw1);exists _,U,mR hw2,_,U,r,l2,U,dP,Dg.go q (su.sb s2) λy e3 q a2 H3 hy s3 m3=>?_;have hp3:=s3.at dP hp2;have yw:=s3.at dP hw2;exists wD,ws,_,U,U,yw,by omega,?_;have iv:bX c H3 (upd H3 wD (.lst (ws++ [.ref a2]))):=bX.upd yw rfl;exact q _ (.ref a1) (.ref a2) ((su.sb s2).sb s3).uq (((((hR.Y s1).trans iu).trans (Qt.Y s2)).trans (dP.Y s3)).trans iv) ((aA kg).trans hp3) aa ((((hx.Y C iu).Y C (Qt.Y s2)).Y C (dP.Y s3)).Y C iv) #[a2,rfl,iv _ _ hy rfl] (m3.up C yw rfl)
def S3.to {p q:Addr} {H0:Hp} (b:Sb r H0 H) (hp:H0 p=none) (hq:H0 q=none) (s:S3 r p q H H'):Sb r H0 H':=λx o e ne=>s x o (b x o e ne) ne (bp e hp) (bp e hq)
def aQ.way {p q:Addr} {x:Except Fault α} {f:α->Except Fault β} {ok:β->Prop} {ok':α->Prop} (hq:aQ cf E r H (x >>= f) ok) (b:Sb r H H1) (hp:H p=none) (hq0:H q=none) (h:∀a,x= .ok a->aQ cf E r H (f a) ok->ok' a):Dg cf E r p q H1 x ok':=by
 cases x with
 | ok a=>exact h a rfl hq
 | error e=>exact λH' s=>hq H' (S3.to b hp hq0 s)
def Dj (n:Nat) (l:Toks):Except Fault ((Ex×Frac)×Toks):=takeExpr n l >>= λa=>take (.sign 58) a.2 >>= λl1=>takeWeight l1 >>= λw=> .ok ((a.1,w.1),w.2)
def yx {x:(Ex×Frac)×Toks} (h:Dj n l= .ok x):x.2.length < l.length:=by
 let #[a,h1,h]:=aj h;let #[l1,h2,h]:=aj h;let #[w,h3,h]:=aj h;have:=d6 _ _ _ h1;have:=aZ h2;have:=fR h3;cases h;show w.2.length < _;omega
def mm (n f k:Nat) (l:Toks):takeWays (takeExpr n) (f+1) k l=if exprNext l=true/\8<=k then .error #[4,here l] else Dj n l >>= λx=>if next (.sign 44) x.2=true\/k=0 then take (.sign 44) x.2 >>= λl2=>takeWays (takeExpr n) f (k+1) l2 >>= λr=> .ok (.way x.1.1 x.1.2 r.1,r.2) else take (.sign 41) x.2 >>= λl2=> .ok (.way x.1.1 x.1.2 .nil,l2):=by
 rw [n_];unfold Dj;simp only [bn];rfl
def Bv (n:Nat):SP:=λK c vs H Q E=> ∃r l tk p,vs= [.ref r,.ref tk,.int (23 - (n:Int))]/\iU c H tk #[p,.name (word "pick")]/\bT c H r l/\aQ c.cf E r H (take (.sign 40) l >>= λl1=>takeWays (takeExpr n) (l1.length+1) 0 l1 >>= λws=> .ok (.pick p ws.1,ws.2)) (JW K c H r Q)
abbrev v9 (n:Nat):=AA.hF (9+4*n+1) "read_pick" ["reader","first","around"] (Bv n)
def Bw (n:Nat) (q0:yu AA n):v9 AA n:=by
 nomatch ["reader","first","around","parts","weights"]
 obtain ⟨r,l,tk,p,rfl,ht,hR,q⟩:=h;nomatch 2,3,4,aL,dv q0 ?_,aL,dv q0 ?_,bZ,oh,aM aJ,T.vN,dv q0 ?_,aL,gw (a_ AA) (aI ?_ (aI ?_ (aI (di ?_) (aI (di ?_) ?_))))
 exists jJ,λpD N7=>?_;exists jJ,λwD JX=>?_;have sp:=aq.upd (o:= .lst ([]:List V)) N7;have sw:=aq.upd (o:= .lst ([]:List V)) JX;have PC:H wD=none:=by
  cases z:H wD with
  | none=>rfl
  | some o=>rw [sp _ _ z] at JX;cases JX
 have kg:pD≠wD:=λz=>by subst z;rw [aa] at JX;cases JX
 have hp1:upd (upd H pD (.lst [])) wD (.lst []) pD=some (.lst []):=(aA kg).trans aa;have hw1:upd (upd H pD (.lst [])) wD (.lst []) wD=some (.lst []):=aa;have b0:Sb r H (upd (upd H pD (.lst [])) wD (.lst [])):=(sp.trans sw).sb;have JY:=hR.sb C (sp.trans sw);have i0:bX c H (upd (upd H pD (.lst [])) wD (.lst [])):=(sp.trans sw).Y;revert hp1 hw1 b0 JY i0;generalize upd (upd H pD (.lst [])) wD (.lst [])=H0;intro hp1 hw1 b0 JY i0;exists _,U,JY.me #[r,l,_,_,U,vT,JY,aQ.go q b0 λl1 e1 q a t H1 hl ha s1 dI=>?_];have b1:=b0.trans s1;have i1:=i0.trans (JY.Y s1);have hp2:=s1.at JY hp1;have hw2:=s1.at JY hw1;rw [mm,ae (λz=>by omega),bn] at q;exists _,U,_,U,_,U,_,U,r,l1,pD,wD,[],[],U,hp2,hw2,kg,by decide,by decide,dI,aQ.way q b1 N7 PC λx e2 q H2 v u s2 i2 hp3 yw hv hu dP=>?_;have hsh:=yx e2;have hn0:∃n',n=n'+1:=by
  cases n with
  | zero=>cases e2
  | succ n'=>exists n',U
 have b2:=s2.to b1 N7 PC;rw [ah (.inr rfl),bn] at q;exists _,U,dP.me #[r,_,_,_,U,vU,dP,aQ.go q b2 λl2 e3 q a t H3 hl ha s3 m3=>?_];have b3:=b2.trans s3;have i3:=(i1.trans i2).trans (dP.Y s3);have Qu:=s3.at dP hp3;have PD:=s3.at dP yw;have htl:=aZ e3;obtain ⟨fu,hfu⟩:∃j,l1.length=j+1:=#[l1.length - 1,by omega];rw [hfu,mm,ae (λz=>by omega),bn,bn] at q;exists _,U,_,U,_,U,_,U,r,l2,pD,wD,[v],[u],U,Qu,PD,kg,by show 1<=8;decide,by show 1<=8;decide,m3,aQ.way q b3 N7 PC λy e4 q H4 v2 u2 s4 i4 MB UL hv2 hu2 tR=>?_;have W3:=yx e4;have VN:=(dP.Y s3).trans i4;exists λm σ H'=> ∃(vs us:List V) (l2:Toks) (fu k:Nat) (T:Ex->Ex) (fs:List Frac),σ= [some (.ref r),some (.ref tk),some (.int (23 - (n:Int))),some (.ref pD),some (.ref wD)]/\H' pD=some (.lst vs)/\H' wD=some (.lst us)/\(∀Bs ws e,bX c H' Bs->jK K c Bs e ws->jK K c Bs (T e) (vs++ws))/\(∀e,(T e).weights=fs++e.weights)/\A2 (Mz H') us fs/\vs.length=k/\us.length=k/\2<=k/\k<=8/\m=l2.length/\l2.length < fu+1/\Sb r H H'/\bX c H H'/\bT c H' r l2/\aQ c.cf E r H (if next (.sign 44) l2=true then take (.sign 44) l2 >>= λl3=>takeWays (takeExpr n) fu k l3 >>= λr=> .ok (.pick p (T r.1),r.2) else take (.sign 41) l2 >>= λl3=> .ok (.pick p (T .nil),l3)) (JW K c H r Q),
  #[_,[v,v2],[u,u2],y.2,fu,2,λe=> .way x.1.1 x.1.2 (.way y.1.1 y.1.2 e),[x.1.2,y.1.2],rfl,MB,UL,λBs ws e i h=>#[v,v2 :: ws,rfl,(hv.Y C VN).Y C i,#[v2,ws,rfl,hv2.Y C i,h]],λe=>rfl,#[hu.Y VN,hu2,au],rfl,rfl,aw _,by decide,rfl,by omega,s4.to b3 N7 PC,i3.trans i4,tR,?_],?_
 . split <;> rename_i hc
   . rw [ah (.inl hc)] at q;simp only [bn] at q;exact q
   . rw [ae (λz=>z.elim hc (λz=>by omega))] at q;simp only [bn] at q;exact q
 rintro m σ H' ⟨vs,us,l2,fu,k,T',fs,rfl,hp',hw',hT,hTw,hA,hk,W4,X9,VO,rfl,hfu,sb,im,d_,q⟩;exists _,U,d_.me #[r,l2,_,_,U,vU,d_,λhn H2 s2 dP=>?_,λhn=>?_]
 . exists _,U,nB ?_;obtain ⟨p0,r0,hl2⟩:=next_ne hn;have hdl:(l2.drop 1).length+1=l2.length:=by rw [hl2];rfl
   have htk:take (.sign 44) l2= .ok (l2.drop 1):=by unfold take;rw [ah hn]
   have q:aQ c.cf E r H (takeWays (takeExpr n) fu k (l2.drop 1) >>= λr=> .ok (.pick p (T' r.1),r.2)) (JW K c H r Q):=by
    rw [ah hn,htk] at q;exact q
   have hp2:=s2.at d_ hp';have hw2:=s2.at d_ hw';obtain ⟨fu,rfl⟩:∃j,fu=j+1:=#[fu - 1,by omega];rw [mm] at q;refine dG ?_;exists _,U,_,U,pD,_,U,.inl (cz.of hp2),r,_,_,_,U,dP,λhne'=>?_,λheq=>?_
   . rw [ae (λz=>by omega),bn] at q;have b2:=sb.trans s2;exists _,U,_,U,_,U,_,U,r,_,pD,wD,vs,us,U,hp2,hw2,kg,by omega,by omega,dP,aQ.way q b2 N7 PC λy e4 q H4 v2 u2 s4 i4 MB UL hv2 hu2 tR=>?_;have hsh:=yx e4;have UM:=(d_.Y s2).trans i4;exists _,?_,vs++ [v2],us++ [u2],y.2,fu,k+1,λe=>T' (.way y.1.1 y.1.2 e),fs++ [y.1.2],U,MB,UL,λBs ws e i h=>?_,λe=>?_,(hA.mono λ_ _ z=>z.Y UM).snoc hu2,by rw [ao,hk];rfl,by rw [ao,W4];rfl,by omega,by omega,rfl,by omega,s4.to b2 N7 PC,im.trans UM,tR,?_
     . omega
     . rw [bw];exact hT _ _ _ (UM.trans i) #[v2,ws,rfl,hv2.Y C i,h]
     . rw [hTw,bw];rfl
     . split <;> rename_i hc
       . rw [ah (.inl hc)] at q;simp only [bn] at q;exact q
       . rw [ae (λz=>z.elim hc (λz=>by omega))] at q;simp only [bn] at q;exact q
   . have heq:k=8:=by omega
     subst heq;by_cases hx:exprNext (l2.drop 1)=true
     . rw [ah #[hx,aw _]] at q;rw [ah hx];exact li.on q (sb.trans s2)
     . obtain ⟨n',rfl⟩:=hn0;have hw:Dj (n'+1) (l2.drop 1)= .error #[3,here (l2.drop 1)]:=by unfold Dj;rw [jB (by simpa using hx)];rfl
       rw [ae (λz=>hx z.1),hw] at q;rw [ae hx];exact li.on q (sb.trans s2)
 . exists _,U,mQ ?_;rw [ae (by rw [hn];exact aO)] at q;exists _,U,d_.me #[r,l2,_,_,U,sJ,d_,aQ.go q sb λl3 e4 q a t H3 hl ha s3 m3=>?_];have hp3:=s3.at d_ hp';have yw:=s3.at d_ hw';have i3:=d_.Y s3;exists _,U,_,U,pD,_,U,hp3,au,λo=>?_;have iu:bX c H3 (upd H3 pD (.gR o (.lst vs))):=bX.upd hp3 rfl;have PD:upd H3 pD (.gR o (.lst vs)) wD=some (.lst us):=(aA (bY kg)).trans yw;exists _,U,wD,_,U,PD,au,λo2=>?_;have iv:bX c (upd H3 pD (.gR o (.lst vs))) (upd (upd H3 pD (.gR o (.lst vs))) wD (.gR o2 (.lst us))):=bX.upd PD rfl;have ii:=(im.trans i3).trans (iu.trans iv);refine iL C (ht.mono C ii) λz H6 nz s6 #[dx,hz]=>?_;have f1:FL H6 pD vs:=FL.mono (c:=c) #[o,(aA kg).trans aa] s6.Y;have f2:FL H6 wD us:=FL.mono (c:=c) #[o2,aa] s6.Y;have i6:bX c H' H6:=(i3.trans (iu.trans iv)).trans s6.Y;refine q z H6 #[z,pD,vs,rfl,#[dx,wD,.cp,us,hz,rfl,f2,?_],f1,?_] ((((sb.trans s3).bM N7).bM PC).trans s6.sb) (((m3.up C hp3 rfl).up C PD rfl).sb C s6)
   . show A2 (Mz H6) us (T' .nil).weights;rw [hTw];show A2 (Mz H6) us (fs++ []);rw [bH];exact hA.mono λ_ _ z=>z.Y i6
   . have:=hT H6 [] .nil i6 rfl;rw [bH] at this;exact this
def MC (e:Reader) (p:Nat) (l:Toks):takeSpecial e p (word "flip") l=(take (.sign 40) l >>= λl1=>takeChance l1 >>= λx=>take (.sign 41) x.2 >>= λl2=> .ok (.flip p x.1,l2)):=rfl
def E6 (e:Reader) (p:Nat) (l:Toks):takeSpecial e p (word "uniform") l=(take (.sign 40) l >>= λl1=>takeBounds l1 >>= λx=>take (.sign 41) x.2 >>= λl2=> .ok (.uniform p x.1.1 x.1.2,l2)):=rfl
def MD (e:Reader) (p:Nat) (l:Toks):takeSpecial e p (word "pick") l=(take (.sign 40) l >>= λl1=>takeWays e (l1.length+1) 0 l1 >>= λws=> .ok (.pick p ws.1,ws.2)):=rfl
def JZ (e:Reader) (p:Nat) (l:Toks):takeSpecial e p (word "weigh") l=(take (.sign 40) l >>= λl1=>takeWeight l1 >>= λf=>take (.sign 44) f.2 >>= λl2=>e l2 >>= λa=>take (.sign 41) a.2 >>= λl3=> .ok (.weigh p f.1 a.1,l3)):=rfl
def pP (x:Except Fault α) (f:α->Except Fault β) (g:β->γ):(x >>= f).map g=(x >>= λa=>(f a).map g):=by cases x <;> rfl
def J7 (e:Reader) (p:Nat) (l:Toks):takeSpecial e p (word "given") l=(partsOf e 2 l >>= λx=>match x.1 with | [a,b]=> .ok (.given p a b,x.2) | _=> .error #[0,0]):=by
 have:takeSpecial e p (word "given") l=(inTwo e l).map λx=>(.given p x.1.1 x.1.2,x.2):=rfl;rw [this,j6,pP];refine aS λx=>?_;obtain ⟨l1,l2⟩:=x;rcases l1 with _ | ⟨a,_ | ⟨b,_ | ⟨d,_ | _⟩⟩⟩ <;> rfl
def RK (e:Reader) (p:Nat) (l:Toks):takeSpecial e p (word "if") l=(partsOf e 3 l >>= λx=>match x.1 with | [a,b,d]=> .ok (.cond p a b d,x.2) | _=> .error #[0,0]):=by
 have:takeSpecial e p (word "if") l=(inThree e l).map λx=>(.cond p x.1.1 x.1.2.1 x.1.2.2,x.2):=rfl;rw [this,km,pP];refine aS λx=>?_;obtain ⟨l1,l2⟩:=x;rcases l1 with _ | ⟨a,_ | ⟨b,_ | ⟨d,_ | _⟩⟩⟩ <;> rfl
def RL {e:Reader} {p:Nat} {w:Bytes} {o:Vaprbb.Un} (h:unOf w=some o) (l:Toks):takeCall e p w l=(partsOf e 1 l >>= λx=>match x.1 with | [a]=> .ok (.un p o a,x.2) | _=> .error #[0,0]):=by
 have:takeCall e p w l=(inOne e l).map λx=>(.un p o x.1,x.2):=by unfold takeCall;rw [h]
 rw [this,n8,pP];refine aS λx=>?_;obtain ⟨l1,l2⟩:=x;rcases l1 with _ | ⟨a,_ | ⟨b,_ | ⟨d,_ | _⟩⟩⟩ <;> rfl
def PF {e:Reader} {p:Nat} {w:Bytes} {o:Vaprbb.Bin} (h:unOf w=none) (h2:binOf w=some o) (l:Toks):takeCall e p w l=(partsOf e 2 l >>= λx=>match x.1 with | [a,b]=> .ok (.bin p o a b,x.2) | _=> .error #[0,0]):=by
 have:takeCall e p w l=(inTwo e l).map λx=>(.bin p o x.1.1 x.1.2,x.2):=by unfold takeCall;rw [h,h2]
 rw [this,j6,pP];refine aS λx=>?_;obtain ⟨l1,l2⟩:=x;rcases l1 with _ | ⟨a,_ | ⟨b,_ | ⟨d,_ | _⟩⟩⟩ <;> rfl
def ME {e:Reader} {p:Nat} {w:Bytes} (h:unOf w=none) (h2:binOf w=none) (hl:next (.sign 40) l=true):takeCall e p w l=((take (.sign 40) l >>= λl1=>if next (.sign 41) l1=true then .ok (.nil,l1.drop 1) else takeArgs e (l1.length+1) 0 l1) >>= λx=> .ok (.call p w x.1,x.2)):=by
 have htk:take (.sign 40) l= .ok (l.drop 1):=by unfold take;rw [ah hl]
 rw [htk];unfold takeCall;rw [h,h2];show (if next (.sign 41) (l.drop 1)=true then _ else _)=((if next (.sign 41) (l.drop 1)=true then _ else _) >>= _);split
 . rfl
 . cases takeArgs e ((l.drop 1).length+1) 0 (l.drop 1) <;> rfl
def HA {o:Vaprbb.Un} (h:unOf b=some o):unName o=b:=by
 obtain ⟨x,h1,h2⟩:=gm.mp h;have hm:=kC h1;have hp:=uD h1;have hp:word x.1=b:=by simpa using hp
 subst h2 hp;simp only [unNames,aE,cU,fZ] at hm;rcases hm with rfl | rfl | rfl <;> rfl
def E7 {o:Vaprbb.Bin} (h:binOf b=some o):binName o=b:=by
 obtain ⟨x,h1,h2⟩:=gm.mp h;have hm:=kC h1;have hp:=uD h1;have hp:word x.1=b:=by simpa using hp
 subst h2 hp;simp only [binNames,aE,cU,fZ] at hm;rcases hm with rfl | rfl | rfl | rfl | rfl | rfl | rfl | rfl | rfl | rfl <;> rfl
def lC {s:String} {x:Str} (hs:aR (word s)=x) (b:Bytes):decide ((Sum.inr x:Key)= .inr (aR b))=(word s == b):=by
 rw [b9,dr,bO,<-hs];exists λe=>lw (Sum.inr.inj e),λe=>by rw [e]
def xo (b:Bytes):cy wB (.inr (aR b))=if (unOf b).isSome=true then some (V.int 1) else if (binOf b).isSome=true then some (V.int 2) else none:=by
 by_cases h0:word "neg" = b
 . subst h0;decide+kernel
 by_cases h1:word "abs" = b
 . subst h1;decide+kernel
 by_cases h2:word "not" = b
 . subst h2;decide+kernel
 by_cases h3:word "add" = b
 . subst h3;decide+kernel
 by_cases h4:word "sub" = b
 . subst h4;decide+kernel
 by_cases h5:word "mul" = b
 . subst h5;decide+kernel
 by_cases h6:word "min" = b
 . subst h6;decide+kernel
 by_cases h7:word "max" = b
 . subst h7;decide+kernel
 by_cases h8:word "lt" = b
 . subst h8;decide+kernel
 by_cases h9:word "le" = b
 . subst h9;decide+kernel
 by_cases h10:word "eq" = b
 . subst h10;decide+kernel
 by_cases h11:word "and" = b
 . subst h11;decide+kernel
 by_cases h12:word "or" = b
 . subst h12;decide+kernel
 unfold cy wB unOf binOf unNames binNames;simp only [bI,cO,dU,List.find?_nil];rw [lC (s:= "neg") (x:=Str.ofString "neg") rfl,lC (s:= "abs") (x:=Str.ofString "abs") rfl,lC (s:= "not") (x:=Str.ofString "not") rfl,lC (s:= "add") (x:=Str.ofString "add") rfl,lC (s:= "sub") (x:=Str.ofString "sub") rfl,lC (s:= "mul") (x:=Str.ofString "mul") rfl,lC (s:= "min") (x:=Str.ofString "min") rfl,lC (s:= "max") (x:=Str.ofString "max") rfl,lC (s:= "lt") (x:=Str.ofString "lt") rfl,lC (s:= "le") (x:=Str.ofString "le") rfl,lC (s:= "eq") (x:=Str.ofString "eq") rfl,lC (s:= "and") (x:=Str.ofString "and") rfl,lC (s:= "or") (x:=Str.ofString "or") rfl];simp only [bS.mpr h0,bS.mpr h1,bS.mpr h2,bS.mpr h3,bS.mpr h4,bS.mpr h5,bS.mpr h6,bS.mpr h7,bS.mpr h8,bS.mpr h9,bS.mpr h10,bS.mpr h11,bS.mpr h12];rfl
def IC {l:List α} (h:l.length=1):∃a,l= [a]:=by
 match l,h with
 | [a],_=>exists a,U
def HB {l:List α} (h:l.length=2):∃a b,l= [a,b]:=by
 match l,h with
 | [a,b],_=>exists a,b,U
def RM {l:List α} (h:l.length=3):∃a b d,l= [a,b,d]:=by
 match l,h with
 | [a,b,d],_=>exists a,b,d,U
def vh (n:Nat):SP:=λK c vs H Q E=> ∃r l tk p w,vs= [.ref r,.ref tk,.int (23 - (n:Int))]/\iU c H tk #[p,.name w]/\(["if","flip","pick","uniform","given","weigh"].map word).contains w=true/\bT c H r l/\aQ c.cf E r H (takeSpecial (takeExpr n) p w l) (JW K c H r Q)
abbrev mJ (n:Nat):=AA.hF (10+4*n+1) "read_built_in" ["reader","first","around"] (vh n)
def vj (n:Nat) (iV:ml AA n) (Dk:v9 AA n) (Bx:sO AA n):mJ AA n:=by
 nomatch ["reader","first","around"]
 obtain ⟨r,l,tk,p,w,rfl,hA,hw,hR,q⟩:=h;nomatch 2,bK,gw (a_ AA) (aI ?_ (aI ?_ (aI ?_ (aI (di ?_) ?_)))),dv iV ?_,bK,gw (a_ AA) (aI ?_ (aI ?_ (aI ?_ (aI (di ?_) ?_)))),dv iV ?_,bK,Bu,bK,wK,bK,dv Bx ?_,dv Dk ?_
 obtain ⟨bh,dt,ht⟩:=id hA;simp only [bI,cO,fJ,kJ,h_,kO,bO] at hw;have no:∀(A B:Prop) (b:Bool),b=false->B->if b=true then A else B:=λA B b h x=>by rw [h];exact x
 exists _,U,fr ht U #[U,_,U,?_];rcases hw with rfl | rfl | rfl | rfl | rfl | rfl
 ·
  refine bD rfl ?_
  rw [RK] at q
  exists _,U,_,U,_,U,r,l,3,U,by decide,by decide,hR,aQ.go q Sb.refl λx e q pl ps H1 fp Dl s1 dI=>?_
  obtain ⟨x1,l1⟩:=x
  obtain ⟨e1,e2,e3,rfl⟩:=RM (j7 (by decide) e)
  have gQ:=Dl.len
  obtain ⟨v1,v2,v3,rfl⟩:=RM (l:=ps) gQ
  exists aD _,λD2 eN=>#[D2,_,U,aa,au,λo2=>?_]
  obtain ⟨pZ,xm⟩:=mU (xs:= []) (o:=o2) eN
  refine iL C ((hA.mono C (hR.Y s1)).mono C pZ.Y) λy H6 ny s6 #[dx,hy]=>?_
  have jb:=pZ.trans s6
  exact q y H6 #[y,pl,v1,v2,v3,rfl,#[dx,D2,.cp,[],hy,rfl,xm.mono (c:=c) s6.Y,au],fp.mono (c:=c) jb.Y,Dl.1.Y C jb.Y,Dl.2.1.Y C jb.Y,Dl.2.2.1.Y C jb.Y] (s1.trans jb.sb) (dI.sb C jb)
 ·
  refine aF rfl ?_
  rw [MC] at q
  exists _,U,fr ht U #[U,_,U,aF U ?_]
  exists _,U,fr ht U #[U,_,U,bD U ?_]
  exists _,U,_,U,r,l,tk,p,U,hA,hR,q
 ·
  refine aF rfl ?_
  rw [MD] at q
  exists _,U,fr ht U #[U,_,U,aF U ?_]
  exists _,U,fr ht U #[U,_,U,aF U ?_]
  exists _,U,fr ht U #[U,_,U,aF U ?_]
  exists _,U,fr ht U #[U,_,U,aF U ?_]
  exists _,U,_,U,_,U,r,l,tk,p,U,hA,hR,q
 ·
  refine aF rfl ?_
  rw [E6] at q
  exists _,U,fr ht U #[U,_,U,aF U ?_]
  exists _,U,fr ht U #[U,_,U,aF U ?_]
  exists _,U,fr ht U #[U,_,U,bD U ?_]
  exists _,U,_,U,r,l,tk,p,U,hA,hR,q
 ·
  refine aF rfl ?_
  rw [J7] at q
  exists _,U,fr ht U #[U,_,U,bD U ?_]
  exists _,U,_,U,_,U,r,l,2,U,by decide,by decide,hR,aQ.go q Sb.refl λx e q pl ps H1 fp Dl s1 dI=>?_
  obtain ⟨x1,l1⟩:=x
  obtain ⟨e1,e2,rfl⟩:=HB (j7 (by decide) e)
  have gQ:=Dl.len
  obtain ⟨v1,v2,rfl⟩:=HB (l:=ps) gQ
  exists aD _,λD2 eN=>#[D2,_,U,aa,au,λo2=>?_]
  obtain ⟨pZ,xm⟩:=mU (xs:= []) (o:=o2) eN
  refine iL C ((hA.mono C (hR.Y s1)).mono C pZ.Y) λy H6 ny s6 #[dx,hy]=>?_
  have jb:=pZ.trans s6
  exact q y H6 #[y,pl,v1,v2,rfl,#[dx,D2,.cp,[],hy,rfl,xm.mono (c:=c) s6.Y,au],fp.mono (c:=c) jb.Y,Dl.1.Y C jb.Y,Dl.2.1.Y C jb.Y] (s1.trans jb.sb) (dI.sb C jb)
 ·
  refine aF rfl ?_
  rw [JZ] at q
  exists _,U,fr ht U #[U,_,U,aF U ?_]
  exists _,U,fr ht U #[U,_,U,aF U ?_]
  exists _,U,fr ht U #[U,_,U,aF U ?_]
  exists _,U,fr ht U #[U,_,U,bD U ?_]
  exists _,U,_,U,_,U,r,l,tk,p,U,hA,hR,q
def PH {X:Cx} {ss:List Stmt}:rQ X ss (λ_ _ _=>False):=λ_ _ _ _ _ _ h=>h.elim
def PJ {o:Vaprbb.Un} (h:unOf b=some o):cy wB (.inr (aR b))=some (V.int 1):=by rw [xo,h];rfl
def MF {o:Vaprbb.Bin} (h:unOf b=none) (h2:binOf b=some o):cy wB (.inr (aR b))=some (V.int 2):=by rw [xo,h,h2];rfl
def PK (h:unOf b=none) (h2:binOf b=none):cy wB (.inr (aR b))=none:=by rw [xo,h,h2];rfl
def MG (n p:Nat) (w:Bytes) (l:Toks):takeExpr (n+1) (#[p,.name w] :: l)=if w=word "true" then .ok (.lit p (.flag true),l) else if w=word "false" then .ok (.lit p (.flag false),l) else if RESERVED.contains w=true then takeSpecial (takeExpr n) p w l else if next (.sign 40) l=true then takeCall (takeExpr n) p w l else .ok (.name p w,l):=rfl
def Dm {w:Bytes} (h:(["if","flip","pick","uniform","given","weigh"].map word).contains w=true):RESERVED.contains w=true/\w≠word "true" /\w≠word "false" :=by
 simp only [bI,cO,fJ,kJ,h_,kO,bO] at h;rcases h with rfl | rfl | rfl | rfl | rfl | rfl <;> decide
def Gw {H2 H6:Hp} {D2 y:Addr} (C:CT K c) (he:∀vs,(∃a pl,vs= [.ref a]/\Node K c H6 a pl e/\FL H6 pl [])->jK K c H6 e vs) (hF:Dd e= []) (hB:RH K H6 .cp e) (fD:FL H1 D []) (xm:FL H2 D2 []) (i1:bX c H1 H6) (i2:bX c H2 H6) (hy:H6 y=some (.ins c.ex dx (Qr e D D2 .cp))):iq K c H6 (.ref y) e:=
 he _ #[y,D,rfl,#[dx,D2,.cp,[],hy,hB,xm.mono i2,by rw [hF];exact au],fD.mono i1]
def q_ (m:Nat) (vk:lB AA n) (wL:mJ AA n) (iV:ml AA n) (hm:m=n+1):cH AA m:=by
 nomatch ["reader","around","first"]
 subst hm;obtain ⟨r,l,rfl,hR,q⟩:=h;nomatch 2,2,aU,bK,T.uZ,ir,eV,bK,ig T.nO,gw (a_ AA) (aI ?_ (aI ?_ (aI (di ?_) (aI (di ?_) ?_)))),eC,fB T.x5,gw (a_ AA) (aI ?_ (aI ?_ (aI (di ?_) (aI (di ?_) ?_)))),eC,fB T.qL,dv wL ?_,cW,gw (a_ AA) (aI ?_ (aI ?_ (aI (di ?_) (aI (di ?_) ?_)))),Be,fB T.iT,gw (a_ AA) (aI ?_ (aI ?_ (aI ?_ (aI (di ?_) ?_)))),dv iV ?_,CU (fB T.iT) (ca (pv 2)) (λ_ _=>rfl),gw (a_ AA) (aI ?_ (aI ?_ (aI ?_ (aI (di ?_) ?_)))),dv vk ?_
 obtain ⟨⟨p,tk⟩,l',rfl⟩:=hR.ye.ne;have ar:(24 - ((n+1:Nat):Int))=23 - (n:Int):=by omega
 exists _,U,hR.me #[r,_,l',U,hR,λa hA=>?_];obtain ⟨bh,da,ha⟩:=id hA;exists _,U,U,_,U,aF (dD λz=>by have:=V.int.inj z;omega) ?_;exists _,U,a,_,U,hA,hR.ye.wf,_,U,?_;have xb:=oa #[p,tk] l';by_cases hb:E3 tk=false
 . refine bD (by show (!E3 tk)=true;rw [hb];rfl) ?_;rw [jB (xb.trans hb)] at q;exists _,U,fr ha U #[_,_,U,li.go q Sb.refl]
 have hb:E3 tk=true:=by simpa using hb
 refine aF (by show (!E3 tk)=false;rw [hb];rfl) ?_;have hh:tk≠ .halt_:=λz=>by subst z;cases hb
 exists _,U,hR.me #[r,_,l',U,hR,hh,λa' H1 _ s1 dI=>?_];have i1:=hR.Y s1;have Dl:=hA.mono C i1;obtain ⟨bh,da,ha⟩:=id Dl;exists _,U,fr ha U #[U,_,U,?_];rw [yg];cases tk with
 | sign k=>cases hb
 | halt_=>cases hb
 | num k=>
  refine bD rfl ?_;have q:JW K c H r Q (.lit p (.num k),l'):=q;exists _,U,aD _,λD hD=>#[D,_,U,aa,au,λo=>?_];obtain ⟨sD,fD⟩:=mU (xs:= []) (o:=o) hD;exists aD _,λD2 eN=>#[D2,_,U,aa,au,λo2=>?_];obtain ⟨pZ,xm⟩:=mU (xs:= []) (o:=o2) eN;have ss:=sD.trans pZ;refine iL C (Dl.mono C ss.Y) λy H6 ny s6 #[dx,hy]=>?_;have jb:=ss.trans s6;exact q y H6 (Gw C (λ_ z=>z) rfl rfl fD xm (pZ.trans s6).Y s6.Y hy) (s1.trans jb.sb) (dI.sb C jb)
 | name b=>
  refine aF rfl ?_;rw [MG] at q;have i1:=pO hR.ye.wf _ Ay;have i2:=pO hR.ye.wf _ yp;exists _,U,fr ha U #[g.truths,_,U,.inr (T.x8.sq _),U,gi _,_,U,?_];rw [ae aO];refine bG (λe1=>?_) λe1=>?_
  . have hbt:b=word "true" \/b=word "false" :=by
     have:=i1.symm.trans e1;have:(["true","false"].map word).contains b=true:=this;simpa [fJ] using this
    exists _,U,aD _,λD hD=>#[D,_,U,aa,au,λo=>?_];obtain ⟨sD,fD⟩:=mU (xs:= []) (o:=o) hD;exists aD _,λD2 eN=>#[D2,_,U,aa,au,λo2=>?_];obtain ⟨pZ,xm⟩:=mU (xs:= []) (o:=o2) eN;have ss:=sD.trans pZ;refine iL C (Dl.mono C ss.Y) λy H6 ny s6 #[dx,hy]=>?_;have jb:=ss.trans s6;rcases hbt with rfl | rfl
    . rw [ah rfl] at q;have q:JW K c H r Q (.lit p (.flag true),l'):=q;exact q y H6 (Gw C (λ_ z=>z) rfl rfl fD xm (pZ.trans s6).Y s6.Y hy) (s1.trans jb.sb) (dI.sb C jb)
    . rw [ae (by decide),ah rfl] at q;have q:JW K c H r Q (.lit p (.flag false),l'):=q;exact q y H6 (Gw C (λ_ z=>z) rfl rfl fD xm (pZ.trans s6).Y s6.Y hy) (s1.trans jb.sb) (dI.sb C jb)
  have hbt:b≠word "true" /\b≠word "false" :=by
   have:=i1.symm.trans e1;have:(["true","false"].map word).contains b=false:=this;simpa [fJ] using this
  rw [ae hbt.1,ae hbt.2] at q;exists _,U,fr ha U #[g.builtin,_,U,.inr (T.qN.sq _),U,gi _,_,U,?_];rw [ae aO];refine bG (λe2=>?_) λe2=>?_
  . have hw:(["if","flip","pick","uniform","given","weigh"].map word).contains b=true:=i2.symm.trans e2;rw [ah (Dm hw).1] at q;exists _,U,_,U,_,U,r,l',a,p,b,by rw [ar];rfl,Dl,hw,dI,?_;exact aQ.imp (aQ.on q s1) λx _ k a2 H2 h2 s2 dP=>k a2 H2 h2 (s1.trans s2) dP
  have hw:(["if","flip","pick","uniform","given","weigh"].map word).contains b=false:=i2.symm.trans e2;have hnr:¬RESERVED.contains b=true:=by
   rw [Gv] at hb;have hb:(false || (!VaprbBase.RESERVED.contains b || ((["true","false"].map word).contains b || (["if","flip","pick","uniform","given","weigh"].map word).contains b)))=true:=hb;rw [hw,show (["true","false"].map word).contains b=false from i1.symm.trans e1] at hb;simpa using hb
  rw [ae hnr] at q;exists _,U,dI.me #[r,l',_,_,U,vT,dI,_,U,?_];cases hn:next (.sign 40) l' with
  | false=>
   refine bD rfl ?_;rw [hn,ae aO] at q;have q:JW K c H r Q (.name p b,l'):=q;exists _,U,aD _,λD hD=>#[D,_,U,aa,au,λo=>?_];obtain ⟨sD,fD⟩:=mU (xs:= []) (o:=o) hD;exists aD _,λD2 eN=>#[D2,_,U,aa,au,λo2=>?_];obtain ⟨pZ,xm⟩:=mU (xs:= []) (o:=o2) eN;have ss:=sD.trans pZ;refine iL C (Dl.mono C ss.Y) λy H6 ny s6 #[dx,hy]=>?_;have jb:=ss.trans s6;exact q y H6 (Gw C (λ_ z=>z) rfl rfl fD xm (pZ.trans s6).Y s6.Y hy) (s1.trans jb.sb) (dI.sb C jb)
  | true=>
   refine aF rfl ?_;rw [hn,ah rfl] at q;exists _,U,fr ha U #[g.ops,wB,.inr (aR b),U,U,T.CZ,_,U,?_];cases hu:unOf b with
   | some o=>
    have ov:=PJ hu;refine bD (by rw [ov];rfl) ?_;rw [RL hu] at q;exists _,U,_,U,_,U,fr ha U #[g.ops,wB,.inr (aR b),_,U,U,T.CZ,ov,_,U,r,l',1,by rw [ar];rfl,by decide,by decide,dI,aQ.go q s1 λx e q pl ps H2 fp N8 s2 dP=>?_];obtain ⟨x1,l1⟩:=x;obtain ⟨e1,rfl⟩:=IC (j7 (by decide) e);obtain ⟨v1,rfl⟩:=IC (l:=ps) N8.len;exists aD _,λD2 eN=>#[D2,_,U,aa,au,λo2=>?_];obtain ⟨pZ,xm⟩:=mU (xs:= []) (o:=o2) eN;refine iL C ((Dl.mono C (dI.Y s2)).mono C pZ.Y) λy H6 ny s6 #[dx,hy]=>?_;have jb:=pZ.trans s6;have hy:H6 y=some (.ins c.ex dx (Qr (.un p o e1) pl D2 .cp)):=by
     unfold Qr;show _=some (HO.ins c.ex dx [_,(_,V.str (aR (unName o))),_,_,_,_,_]);rw [HA hu];exact hy
    exact q y H6 #[y,pl,v1,rfl,#[dx,D2,.cp,[],hy,rfl,xm.mono (c:=c) s6.Y,au],fp.mono (c:=c) jb.Y,N8.1.Y C jb.Y] ((s1.trans s2).trans jb.sb) (dP.sb C jb)
   | none=>
    cases hv:binOf b with
    | some o=>
     have ov:=MF hu hv;refine bD (by rw [ov];rfl) ?_;rw [PF hu hv] at q;exists _,U,_,U,_,U,fr ha U #[g.ops,wB,.inr (aR b),_,U,U,T.CZ,ov,_,U,r,l',2,by rw [ar];rfl,by decide,by decide,dI,aQ.go q s1 λx e q pl ps H2 fp N8 s2 dP=>?_];obtain ⟨x1,l1⟩:=x;obtain ⟨e1,e2,rfl⟩:=HB (j7 (by decide) e);obtain ⟨v1,v2,rfl⟩:=HB (l:=ps) N8.len;exists aD _,λD2 eN=>#[D2,_,U,aa,au,λo2=>?_];obtain ⟨pZ,xm⟩:=mU (xs:= []) (o:=o2) eN;refine iL C ((Dl.mono C (dI.Y s2)).mono C pZ.Y) λy H6 ny s6 #[dx,hy]=>?_;have jb:=pZ.trans s6;have hy:H6 y=some (.ins c.ex dx (Qr (.bin p o e1 e2) pl D2 .cp)):=by
      unfold Qr;show _=some (HO.ins c.ex dx [_,(_,V.str (aR (binName o))),_,_,_,_,_]);rw [E7 hv];exact hy
     exact q y H6 #[y,pl,v1,v2,rfl,#[dx,D2,.cp,[],hy,rfl,xm.mono (c:=c) s6.Y,au],fp.mono (c:=c) jb.Y,N8.1.Y C jb.Y,N8.2.1.Y C jb.Y] ((s1.trans s2).trans jb.sb) (dP.sb C jb)
    | none=>
     have ov:=PK hu hv;refine aF (by rw [ov];rfl) ?_;rw [ME hu hv hn] at q;exists _,U,_,U,_,U,r,l',by rw [ar];rfl,dI,aQ.go q s1 λx e q pl ps H2 fp N8 s2 dP=>?_;exists aD _,λD2 eN=>#[D2,_,U,aa,au,λo2=>?_];obtain ⟨pZ,xm⟩:=mU (xs:= []) (o:=o2) eN;refine iL C ((Dl.mono C (dI.Y s2)).mono C pZ.Y) λy H6 ny s6 #[dx,hy]=>?_;have jb:=pZ.trans s6;exact q y H6 #[y,pl,ps,rfl,#[dx,D2,.cp,[],hy,rfl,xm.mono (c:=c) s6.Y,au],fp.mono (c:=c) jb.Y,N8.Y C jb.Y] ((s1.trans s2).trans jb.sb) (dP.sb C jb)
def oq:cH AA 0:=by
 nomatch ["reader","around","first"]
 obtain ⟨r,l,rfl,hR,q⟩:=h;nomatch rS ?_ (rS ?_ PH),2,aU,bK,T.uZ
 obtain ⟨t,l',rfl⟩:=hR.ye.ne;exists _,U,hR.me #[r,_,l',U,hR,λa #[bh,da,ha]=>?_];exists _,U,U,_,U,bD U ?_;exists _,U,fr ha U #[_,_,U,li.go q Sb.refl]
def dL:∀n,cH AA n
 | 0=>oq AA
 | n+1=>by
  have e:=dL n;have p:=zC AA n e;have a:=sN AA n e;have g:=zE AA n e;have y:=Di AA n e;have k:=Bw AA n y;have b:=vj AA n p k g;exact q_ AA (n+1) a b p rfl
def gN:SP:=λK c vs H Q _=> ∃x dx tk t v1,vs= [.ref x,.ref tk,v1]/\H x=some (.ins c.par dx [])/\iU c H tk t/\∀H':Hp,H' x=some (.ins c.par dx [("name",.str (wordOf t.tok)),("place",.int t.place),("kind",v1)])->(∀b o,H b=some o->b≠x->H' b=some o)->Q .cp H'
def mV:AA.c0 1 c.par "Parameter" ["self","token","kind"] gN:=by
 refine AA.i0 AA.il (N:= ["self","token","kind"]) λT C FT H Q E nN hr h=>?_;obtain ⟨x,dx,tk,t,v1,rfl,hx,⟨bh,dt,ht⟩,k⟩:=h;nomatch 2
 have ne:tk≠x:=λz=>by rw [z,hx] at ht;have:=(HO.ins.inj (bF ht)).2.2;cases this
 exists _,U,fr ht U #[_,U,fw hx ?_];exists _,U,fr ((aA ne).trans ht) U #[_,U,fw aa ?_];exists _,U,_,U,fw aa ?_;exact k _ aa λb o e ne=>by rw [aA ne,aA ne,aA ne];exact e
def MH (C:CT K c) (ht:iU c H tk t) (k:∀x H',H x=none->aq H H'->(∃dx,H' x=some (.ins c.par dx [("name",.str (wordOf t.tok)),("place",.int t.place),("kind",v1)]))->Q (.ref x) H'):
 ∀x dx,H x=none->H dx=none->dx≠x->gN K c (.ref x :: ([.ref tk,v1]++ [])) (upd (upd H dx (.own x)) x (.ins c.par dx [])) (λv H2=>v= .cp/\Q (.ref x) H2) E:=
 λx dx nx nd _=>#[x,dx,tk,t,v1,rfl,aa,ht.mono C ((aq.upd nd).bM nx).Y,λH' e kp=>#[rfl,k x H' nx (aq.made nx nd kp) #[dx,e]]]
def iz:SP:=λK c vs H Q _=> ∃x dx tk t v1 v2 v3,vs= [.ref x,.ref tk,v1,v2,v3]/\H x=some (.ins c.fn dx [])/\iU c H tk t/\∀H':Hp,H' x=some (.ins c.fn dx [("name",.str (wordOf t.tok)),("place",.int t.place),("parameters",v1),("kind",v2),("body",v3)])->(∀b o,H b=some o->b≠x->H' b=some o)->Q .cp H'
def ot:AA.c0 1 c.fn "Function" ["self","token","parameters","kind","body"] iz:=by
 refine AA.i0 AA.iO (N:= ["self","token","parameters","kind","body"]) λT C FT H Q E nN hr h=>?_;obtain ⟨x,dx,tk,t,v1,v2,v3,rfl,hx,⟨bh,dt,ht⟩,k⟩:=h;nomatch 2
 have ne:tk≠x:=λz=>by rw [z,hx] at ht;have:=(HO.ins.inj (bF ht)).2.2;cases this
 exists _,U,fr ht U #[_,U,fw hx ?_];exists _,U,fr ((aA ne).trans ht) U #[_,U,fw aa ?_];exists _,U,_,U,fw aa ?_;exists _,U,_,U,fw aa ?_;exists _,U,_,U,fw aa ?_;exact k _ aa λb o e ne=>by rw [aA ne,aA ne,aA ne,aA ne,aA ne];exact e
def PL (C:CT K c) (ht:iU c H tk t) (k:∀x H',H x=none->aq H H'->(∃dx,H' x=some (.ins c.fn dx [("name",.str (wordOf t.tok)),("place",.int t.place),("parameters",v1),("kind",v2),("body",v3)]))->Q (.ref x) H'):
 ∀x dx,H x=none->H dx=none->dx≠x->iz K c (.ref x :: ([.ref tk,v1,v2,v3]++ [])) (upd (upd H dx (.own x)) x (.ins c.fn dx [])) (λv H2=>v= .cp/\Q (.ref x) H2) E:=
 λx dx nx nd _=>#[x,dx,tk,t,v1,v2,v3,rfl,aa,ht.mono C ((aq.upd nd).bM nx).Y,λH' e kp=>#[rfl,k x H' nx (aq.made nx nd kp) #[dx,e]]]
def mK:SP:=λK c vs H Q _=> ∃x dx tk t v1 v2,vs= [.ref x,.ref tk,v1,v2]/\H x=some (.ins c.lh dx [])/\iU c H tk t/\∀H':Hp,H' x=some (.ins c.lh dx [("name",.str (wordOf t.tok)),("place",.int t.place),("written",v1),("expression",v2)])->(∀b o,H b=some o->b≠x->H' b=some o)->Q .cp H'
def wM:AA.c0 1 c.lh "Let" ["self","token","written","expression"] mK:=by
 refine AA.i0 AA.nQ (N:= ["self","token","written","expression"]) λT C FT H Q E nN hr h=>?_;obtain ⟨x,dx,tk,t,v1,v2,rfl,hx,⟨bh,dt,ht⟩,k⟩:=h;nomatch 2
 have ne:tk≠x:=λz=>by rw [z,hx] at ht;have:=(HO.ins.inj (bF ht)).2.2;cases this
 exists _,U,fr ht U #[_,U,fw hx ?_];exists _,U,fr ((aA ne).trans ht) U #[_,U,fw aa ?_];exists _,U,_,U,fw aa ?_;exists _,U,_,U,fw aa ?_;exact k _ aa λb o e ne=>by rw [aA ne,aA ne,aA ne,aA ne];exact e
def J8 (C:CT K c) (ht:iU c H tk t) (k:∀x H',H x=none->aq H H'->(∃dx,H' x=some (.ins c.lh dx [("name",.str (wordOf t.tok)),("place",.int t.place),("written",v1),("expression",v2)]))->Q (.ref x) H'):
 ∀x dx,H x=none->H dx=none->dx≠x->mK K c (.ref x :: ([.ref tk,v1,v2]++ [])) (upd (upd H dx (.own x)) x (.ins c.lh dx [])) (λv H2=>v= .cp/\Q (.ref x) H2) E:=
 λx dx nx nd _=>#[x,dx,tk,t,v1,v2,rfl,aa,ht.mono C ((aq.upd nd).bM nx).Y,λH' e kp=>#[rfl,k x H' nx (aq.made nx nd kp) #[dx,e]]]
def iP:SP:=λK c vs H Q _=> ∃x dx v1,vs= [.ref x,v1]/\H x=some (.ins c.obs dx [])/\∀H':Hp,H' x=some (.ins c.obs dx [("expression",v1)])->(∀b o,H b=some o->b≠x->H' b=some o)->Q .cp H'
def p9:AA.c0 1 c.obs "Observe" ["self","expression"] iP:=by
 refine AA.i0 AA.jr (N:= ["self","expression"]) λT C FT H Q E nN hr h=>?_;obtain ⟨x,dx,v1,rfl,hx,k⟩:=h;nomatch 1
 exists _,U,_,U,fw hx ?_;exact k _ aa λb o e ne=>by rw [aA ne];exact e
def MI (k:∀x H',H x=none->aq H H'->(∃dx,H' x=some (.ins c.obs dx [("expression",v1)]))->Q (.ref x) H'):
 ∀x dx,H x=none->H dx=none->dx≠x->iP K c (.ref x :: ([v1]++ [])) (upd (upd H dx (.own x)) x (.ins c.obs dx [])) (λv H2=>v= .cp/\Q (.ref x) H2) E:=
 λx dx nx nd _=>#[x,dx,v1,rfl,aa,λH' e kp=>#[rfl,k x H' nx (aq.made nx nd kp) #[dx,e]]]
def iQ:SP:=λK c vs H Q _=> ∃x dx v1 v2 v3 v4 v5,vs= [.ref x,v1,v2,v3,v4,v5]/\H x=some (.ins c.prog dx [])/\∀H':Hp,H' x=some (.ins c.prog dx [("title",v1),("budget",v2),("functions",v3),("statements",v4),("told",v5)])->(∀b o,H b=some o->b≠x->H' b=some o)->Q .cp H'
def p_:AA.c0 1 c.prog "Program" ["self","title","budget","functions","statements","told"] iQ:=by
 refine AA.i0 AA.jt (N:= ["self","title","budget","functions","statements","told"]) λT C FT H Q E nN hr h=>?_;obtain ⟨x,dx,v1,v2,v3,v4,v5,rfl,hx,k⟩:=h;nomatch 2
 exists _,U,_,U,fw hx ?_;exists _,U,_,U,fw aa ?_;exists _,U,_,U,fw aa ?_;exists _,U,_,U,fw aa ?_;exists _,U,_,U,fw aa ?_;exact k _ aa λb o e ne=>by rw [aA ne,aA ne,aA ne,aA ne,aA ne];exact e
def J9 (k:∀x H',H x=none->aq H H'->(∃dx,H' x=some (.ins c.prog dx [("title",v1),("budget",v2),("functions",v3),("statements",v4),("told",v5)]))->Q (.ref x) H'):
 ∀x dx,H x=none->H dx=none->dx≠x->iQ K c (.ref x :: ([v1,v2,v3,v4,v5]++ [])) (upd (upd H dx (.own x)) x (.ins c.prog dx [])) (λv H2=>v= .cp/\Q (.ref x) H2) E:=
 λx dx nx nd _=>#[x,dx,v1,v2,v3,v4,v5,rfl,aa,λH' e kp=>#[rfl,k x H' nx (aq.made nx nd kp) #[dx,e]]]
def jD:SP:=λK c vs H Q _=> ∃x dx v1 v2 v3 v4,vs= [.ref x,v1,v2,v3,v4]/\H x=some (.ins c.Gg dx [])/\∀H':Hp,H' x=some (.ins c.Gg dx [("title",v1),("lets",v2),("functions",v3),("parameters",v4)])->(∀b o,H b=some o->b≠x->H' b=some o)->Q .cp H'
def jE:AA.c0 1 c.Gg "Naming" ["self","title","lets","functions","parameters"] jD:=by
 refine AA.i0 AA.jZ (N:= ["self","title","lets","functions","parameters"]) λT C FT H Q E nN hr h=>?_;obtain ⟨x,dx,v1,v2,v3,v4,rfl,hx,k⟩:=h;nomatch 2
 exists _,U,_,U,fw hx ?_;exists _,U,_,U,fw aa ?_;exists _,U,_,U,fw aa ?_;exists _,U,_,U,fw aa ?_;exact k _ aa λb o e ne=>by rw [aA ne,aA ne,aA ne,aA ne];exact e
def Gx (k:∀x H',H x=none->aq H H'->(∃dx,H' x=some (.ins c.Gg dx [("title",v1),("lets",v2),("functions",v3),("parameters",v4)]))->Q (.ref x) H'):
 ∀x dx,H x=none->H dx=none->dx≠x->jD K c (.ref x :: ([v1,v2,v3,v4]++ [])) (upd (upd H dx (.own x)) x (.ins c.Gg dx [])) (λv H2=>v= .cp/\Q (.ref x) H2) E:=
 λx dx nx nd _=>#[x,dx,v1,v2,v3,v4,rfl,aa,λH' e kp=>#[rfl,k x H' nx (aq.made nx nd kp) #[dx,e]]]
def vm:SP:=λK c vs H Q _=> ∃x dx v1 v2 v3,vs= [.ref x,v1,v2,v3]/\H x=some (.ins c.call dx [])/\∀H':Hp,H' x=some (.ins c.call dx [("number",v1),("asked",v2),("text",v3)])->(∀b o,H b=some o->b≠x->H' b=some o)->Q .cp H'
def gV:AA.c0 1 c.call "Call" ["self","number","asked","text"] vm:=by
 refine AA.i0 AA.mI (N:= ["self","number","asked","text"]) λT C FT H Q E nN hr h=>?_;obtain ⟨x,dx,v1,v2,v3,rfl,hx,k⟩:=h;nomatch 2
 exists _,U,_,U,fw hx ?_;exists _,U,_,U,fw aa ?_;exists _,U,_,U,fw aa ?_;exact k _ aa λb o e ne=>by rw [aA ne,aA ne,aA ne];exact e
def bT.new {x tl:Addr} (h:Bo c H tl l) (ht:Tks l) (e:∃dx,H x=some (.ins c.rd dx [("tokens",.ref tl),("taken",.int 0)])):bT c H x l:=by
 obtain ⟨vs,f,a,z⟩:=h;obtain ⟨dx,e⟩:=e;exists dx,tl,vs,0,e,f,a,ht,z
def Bo.Y {tl:Addr} (C:CT K c) (h:Bo c H tl l) (i:bX c H H'):Bo c H' tl l:=let #[vs,f,a,z]:=h;#[vs,f.mono i,a.mono λ_ _ q=>q.mono C i,z]
def ou:SP:=λK c vs H Q E=> ∃r l cnt most,vs= [.ref r,.int cnt,.int most]/\bT c H r l/\(cnt≠most->Q .cp H)/\(cnt=most->li c.cf E r H #[if nameNext l=true then 4 else 3,here l])
def iA:AA.hF 4 "refuse_more_names" ["reader","count","most"] ou:=by
 nomatch ["reader","count","most"]
 obtain ⟨r,l,cnt,most,rfl,hR,q1,q2⟩:=h;nomatch 1,bK,qS,aU,aU
 obtain ⟨t,l',rfl⟩:=hR.ye.ne;exists _,U,_,U,U,_,U,bG (λe1=>?_) λe1=>?_
 . have q:=q2 (by simpa using e1);rw [Dc] at q;exists _,U,hR.me #[r,t,l',U,hR,λa ha=>#[a,t,U,ha,hR.ye.wf,_,U,?_]];refine bG (λe2=>?_) λe2=>?_
   . rw [ah e2] at q;exists _,U,hR.me #[r,t,l',U,hR,λa #[bh,da,ha]=>?_];exact (fr ha rfl #[_,_,rfl,li.go q Sb.refl])
   . rw [ae (by rw [e2];exact aO)] at q;exists _,U,hR.me #[r,t,l',U,hR,λa #[bh,da,ha]=>?_];exact (fr ha rfl #[_,_,rfl,li.go q Sb.refl])
 . exact q1 (by simpa using e1)
def yy:SP:=λK c vs H Q E=> ∃r l,vs= [.ref r]/\bT c H r l/\aQ c.cf E r H (takeBudget l) (λx=> ∀H',Sb r H H'->bT c H' r x.2->Q (.int (x.1:Nat)) H')
def yz:AA.hF 5 "read_budget" ["reader"] yy:=by
 nomatch ["reader","token"]
 obtain ⟨r,l,rfl,hR,q⟩:=h;nomatch 2,bZ,0,1,b8,eS,ic,T.jU,0
 rw [qA] at q;exists _,U,hR.me #[r,l,_,_,U,Hw,hR,λhn H1 s1 dI=>?_,λhn=>?_]
 . exists _,U,mQ ?_;rw [ah hn] at q;exists _,U,dI.me #[r,_,U,dI,aQ.go q s1 λy e3 q a2 H3 w2 #[b2,d2,lO] s3 m3=>?_];exists _,U,fr lO U #[_,_,U,U,_,U,bG (λe4=>?_) λe4=>?_]
   . have e4:y.1.2 < 0:=o3 e4;rw [ah (.inl e4)] at q;exists _,U,fr lO U #[_,_,U,li.go q (s1.trans s3)]
   have e4:¬y.1.2 < 0:=uk e4;exists _,U,fr lO U #[_,_,U,U,_,U,bG (λe5=>?_) λe5=>?_]
   . have e5:20 < y.1.2:=o3 e5;rw [ah (.inr e5)] at q;exists _,U,fr lO U #[_,_,U,li.go q (s1.trans s3)]
   have e5:¬20 < y.1.2:=uk e5;rw [ae (λz=>z.elim e4 e5)] at q;exists _,U,fr lO U ?_;have:=q H3 (s1.trans s3) m3;have hh:((y.1.2.toNat:Nat):Int)=y.1.2:=by omega
   show Q (.int y.1.2) H3;rw [<-hh];exact this
 . exists _,U,nB ?_;rw [ae (by rw [hn];exact aO)] at q;exact q H Sb.refl hR
def sP:SP:=λK c vs H Q E=> ∃r l,vs= [.ref r]/\bT c H r l/\aQ c.cf E r H (takeDecl l) (λx=> ∀a H',Br K c H' (.ref a) x.1->Sb r H H'->bT c H' r x.2->Q (.ref a) H')
def j':AA.hF 6 "read_parameter" ["reader"] sP:=by
 nomatch ["reader","name"]
 obtain ⟨r,l,rfl,hR,q⟩:=h;nomatch 2,1,cI,gw (mV AA) ?_,mi
 rw [iw] at q;exists _,U,hR.me #[r,l,U,hR,aQ.go q Sb.refl λx e1 q a1 H1 w1 ha1 s1 dI=>?_];exists _,U,_,U,r,_,U,dI,aQ.go q s1 λk e2 q a2 H2 hk s2 dP=>?_;refine MH C (ha1.mono C (dI.Y s2)) λy H3 ny s3 #[dx,hy]=>?_;exact q y H3 #[y,dx,_,rfl,hy,a2,rfl,gS.Y (c:=c) hk s3.Y] ((s1.trans s2).trans s3.sb) (dP.sb C s3)
def ra:SP:=λK c vs H Q E=> ∃r l,vs= [.ref r]/\bT c H r l/\aQ c.cf E r H (oj l) (λx=> ∀p ps H',FL H' p ps->A2 (Br K c H') ps x.1->Sb r H H'->bT c H' r x.2->Q (.ref p) H')
def rc:AA.hF 7 "read_parameters" ["reader"] ra:=by
 nomatch ["reader","parameters"]
 obtain ⟨r,l1,rfl,hR,q⟩:=h;nomatch 2,1,bZ,1,cJ bN,j',bZ,iA,aM aJ,T.jV,cJ bN,j',aL,1
 unfold oj at q;exists jJ,λD hD=>?_;have ss:=aq.upd (o:= .lst ([]:List V)) hD;have dI:=hR.sb C ss;have s1:Sb r H (upd H D (.lst [])):=ss.sb;have hD1:upd H D (.lst []) D=some (.lst []):=aa;revert hD1 dI s1;generalize upd H D (.lst [])=W0;intro dI s1 hD1;exists _,U,dI.me #[r,l1,_,_,U,sJ,dI,λhn H2 s2 dP=>?_,λhn=>?_]
 . exists _,U,nB ?_;rw [ah hn] at q;have eN:=s2.at dI hD1;exists _,U,D,_,U,eN,au,λo=>?_;exact q D [] _ #[o,aa] au ((s1.trans s2).bM hD) (dP.up C eN rfl)
 exists _,U,mQ ?_;rw [ae (by rw [hn];exact aO),g8,ae (λz=>by omega)] at q;exists _,U,mR hD1,_,U,r,l1,U,dI,aQ.go q s1 λx e2 q a1 H2 hx s2 dP=>?_;have eN:=s2.at dI hD1;have dJ:bX c H2 (upd H2 D (.lst ([]++ [.ref a1]))):=bX.upd eN rfl;exists D,[],_,U,U,eN,by decide,?_;have hsh:=oo e2;exists λm σ H'=> ∃(vs:List V) (done:List Decl) (l2:Toks) (fu k:Nat),σ= [some (.ref r),some (.ref D)]/\H' D=some (.lst vs)/\A2 (Br K c H') vs done/\vs.length=k/\k<=4/\m=l2.length/\l2.length < fu+1/\Sb r H H'/\bT c H' r l2/\aQ c.cf E r H (if next (.sign 44) l2=true then takeParams fu k (l2.drop 1) >>= λr=> .ok (done++r.1,r.2) else take (.sign 41) l2 >>= λl3=> .ok (done,l3)) (λx=> ∀p ps H',FL H' p ps->A2 (Br K c H') ps x.1->Sb r H H'->bT c H' r x.2->Q (.ref p) H'),
  #[_,[.ref a1],[x.1],x.2,l1.length,1,rfl,aa,#[hx.Y C dJ,au],rfl,by decide,rfl,by omega,(s1.trans s2).bM hD,dP.up C eN rfl,q],?_
 rintro m σ H' ⟨vs,done,l2,fu,k,rfl,lz,hA,hk,UI,rfl,hfu,sb,d_,q⟩;exists _,U,d_.me #[r,l2,_,_,U,vU,d_,λhn H2 s2 dP=>?_,λhn=>?_]
 . exists _,U,nB ?_;rw [ah hn] at q;have eN:=s2.at d_ lz;obtain ⟨p0,r0,hl2⟩:=next_ne hn;have hdl:(l2.drop 1).length+1=l2.length:=by rw [hl2];rfl
   obtain ⟨fu,rfl⟩:∃j,fu=j+1:=#[fu - 1,by omega];rw [g8] at q;refine dG ?_;exists _,U,_,U,D,_,U,.inl (cz.of eN),r,_,_,_,U,dP,λkg=>?_,λheq=>?_
   . rw [ae (λz=>by omega),bn] at q;exists _,U,mR eN,_,U,r,_,U,dP,aQ.go q (sb.trans s2) λy e5 q a2 H4 hy s4 tR=>?_;have m4:=s4.at dP eN;have Hz:=(d_.Y s2).trans (dP.Y s4);have dJ:bX c H4 (upd H4 D (.lst (vs++ [.ref a2]))):=bX.upd m4 rfl;have hsh:=oo e5;exists D,vs,_,U,U,m4,by have:(4:Nat) < sizeLine:=(by decide);omega,?_;exists _,?_,vs++ [.ref a2],done++ [y.1],y.2,fu,k+1,U,aa,(hA.mono λ_ _ z=>(z.Y C Hz).Y C dJ).snoc (hy.Y C dJ),by rw [ao,hk];rfl,by omega,rfl,by omega,((sb.trans s2).trans s4).bM hD,tR.up C m4 rfl,?_
     . omega
     . split <;> rename_i hc
       . rw [ah hc,bn] at q;simp only [bw];exact q
       . rw [ae hc,bn] at q;exact q
   . have heq:k=4:=by omega
     subst heq;by_cases hx:nameNext (l2.drop 1)=true
     . rw [ah #[hx,aw _]] at q;rw [ah hx];exact li.on q (sb.trans s2)
     . rw [ae (λz=>hx z.1),iw,j_ hx] at q;rw [ae hx];exact li.on q (sb.trans s2)
 . exists _,U,mQ ?_;rw [ae (by rw [hn];exact aO)] at q;exists _,U,d_.me #[r,l2,_,_,U,sJ,d_,aQ.go q sb λl3 e4 q a t H3 hl ha s3 m3=>?_];have lP:=s3.at d_ lz;exists _,U,D,_,U,lP,au,λo=>?_;have dJ:bX c H3 (upd H3 D (.gR o (.lst vs))):=bX.upd lP rfl;exact q D vs _ #[o,aa] (hA.mono λ_ _ z=>(z.Y C (d_.Y s3)).Y C dJ) ((sb.trans s3).bM hD) (m3.up C lP rfl)
def MJ: [V.ref r,V.int 0]= [V.ref r,V.int (24 - ((24:Nat):Int))]:=rfl
def _root_.L2.Sb.same (s:Sb r H H') (h:H r=none):aq H H':=λb o e=>s b o e (bp e h)
def aN.VP {x:Except Fault α} {ok:α->Prop} (q:aN cf E H x ok) (s:aq H H1) (h:H r=none):aQ cf E r H1 x ok:=by
 cases x with
 | ok a=>exact q
 | error e=>exact λH' s'=>q H' λb o hb=>s' b o (s b o hb) (bp hb h)
def vn:SP:=λK c vs H Q E=> ∃r l,vs= [.ref r]/\bT c H r l/\aQ c.cf E r H (takeFun l) (λx=> ∀a H',E4 K c H' (.ref a) x.1->Sb r H H'->bT c H' r x.2->Q (.ref a) H')
def vo:AA.hF 105 "read_function" ["reader"] vn:=by
 nomatch ["reader","name","parameters","kind","body"]
 obtain ⟨r,l,rfl,hR,q⟩:=h;nomatch 2,aL,1,cI,aL,2,rc,3,mi,aL,4,dv (dL AA 24) ?_,aL,gw (ot AA) ?_
 rw [qW] at q;exists _,U,hR.me #[r,l,_,_,U,JN,hR,aQ.go q Sb.refl λl1 e1 q a t H1 hl ha s1 dI=>?_];exists _,U,dI.me #[r,l1,U,dI,aQ.go q s1 λx e2 q a1 H2 w1 ha1 s2 dP=>?_];have b2:=s1.trans s2;exists _,U,dP.me #[r,_,_,_,U,vT,dP,aQ.go q b2 λl3 e3 q a t H3 hl ha s3 m3=>?_];have b3:=b2.trans s3;exists _,U,r,_,U,m3,aQ.go q b3 λps e4 q pl vs H4 fp hA s4 tR=>?_;have b4:=b3.trans s4;exists _,U,r,_,U,tR,aQ.go q b4 λk e5 q ka H5 hk s5 E5=>?_;have b5:=b4.trans s5;exists _,U,E5.me #[r,_,_,_,U,sw_eq,E5,aQ.go q b5 λl6 e6 q a t H6 hl ha s6 RN=>?_];have b6:=b5.trans s6;exists _,U,r,_,MJ,RN,aQ.go q b6 λe e7 q ea H7 he s7 Gy=>?_;have b7:=b6.trans s7;exists _,U,Gy.me #[r,_,_,_,U,JM,Gy,aQ.go q b7 λl8 e8 q a t H8 hl ha s8 RO=>?_];have i8:=Gy.Y s8;have UN:=(RN.Y s7).trans i8;have RP:=(E5.Y s6).trans UN;have UO:=(tR.Y s5).trans RP;have W5:=(m3.Y s4).trans UO;exists _,U,_,U,_,U,_,U,PL C (ha1.mono C ((dP.Y s3).trans W5)) λy H9 ny s9 #[dx,hy]=>?_;exact q y H9 #[y,dx,pl,_,_,vs,rfl,hy,fp.mono (UO.trans s9.Y),hA.mono λ_ _ z=>z.Y C (UO.trans s9.Y),#[ka,rfl,gS.Y hk (RP.trans s9.Y)],he.Y C (i8.trans s9.Y)] ((b7.trans s8).trans s9.sb) (RO.sb C s9)
def sQ:SP:=λK c vs H Q E=> ∃r l,vs= [.ref r]/\bT c H r l/\aQ c.cf E r H (takeFuns (l.length+1) 0 l) (λx=> ∀p ps H',FL H' p ps->A2 (E4 K c H') ps x.1->Sb r H H'->bT c H' r x.2->Q (.ref p) H')
def sR:AA.hF 106 "read_functions" ["reader"] sQ:=by
 nomatch ["reader","functions"]
 obtain ⟨r,l1,rfl,hR,q⟩:=h;nomatch 2,1,cW,bK,aM aJ,T.lq,aU,cJ bN,vo,1
 exists jJ,λD hD=>?_;have ss:=aq.upd (o:= .lst ([]:List V)) hD;exists λm σ H'=> ∃(vs:List V) (done:List Fu) (l2:Toks) (fu k:Nat),σ= [some (.ref r),some (.ref D)]/\H' D=some (.lst vs)/\A2 (E4 K c H') vs done/\vs.length=k/\k<=8/\m=l2.length/\l2.length < fu+1/\Sb r H H'/\bT c H' r l2/\aQ c.cf E r H (takeFuns (fu+1) k l2 >>= λr=> .ok (done++r.1,r.2)) (λx=> ∀p ps H',FL H' p ps->A2 (E4 K c H') ps x.1->Sb r H H'->bT c H' r x.2->Q (.ref p) H'),
  #[_,[],[],l1,l1.length,0,rfl,aa,au,rfl,by decide,rfl,by omega,ss.sb,hR.sb C ss,?_],?_
 . cases hq:takeFuns (l1.length+1) 0 l1 with
   | error f=>rw [hq] at q;exact q
   | ok x=>rw [hq] at q;exact q
 rintro m σ H' ⟨vs,done,l2,fu,k,rfl,lz,hA,hk,VO,rfl,hfu,sb,d_,q⟩;rw [vZ] at q;exists _,U,d_.me #[r,l2,_,_,U,JN,d_,_,U,?_];cases hn:next (.name (word "def")) l2 with
 | true=>
  refine bD rfl ?_;rw [hn,ae Bool.noConfusion] at q;refine dG ?_;exists _,U,D,_,U,.inl (cz.of lz),U,_,U,bG (λe1=>?_) λe1=>?_
  . have hk:k=8:=by have:(vs.length:Int)=8:=(by simpa using e1);omega
    rw [ah (by omega)] at q;obtain ⟨t,l',rfl⟩:=d_.ye.ne;exists _,U,d_.me #[r,t,l',U,d_,λa #[bh,da,ha]=>?_];exact (fr ha rfl #[_,_,rfl,li.go q sb])
  . have hk:k≠8:=λz=>by have:¬(vs.length:Int)=8:=(by simpa using e1);omega
    rw [ae (by omega),bn] at q;exists _,U,mR lz,_,U,r,_,U,d_,aQ.go q sb λy e5 q a2 H4 hy s4 tR=>?_;have m4:=s4.at d_ lz;have Hz:=d_.Y s4;have dJ:bX c H4 (upd H4 D (.lst (vs++ [.ref a2]))):=bX.upd m4 rfl;have hsh:=qX e5;exists D,vs,_,U,U,m4,by have:(8:Nat) < sizeLine:=(by decide);omega,?_;obtain ⟨fu,rfl⟩:∃j,fu=j+1:=#[fu - 1,by omega];exists _,?_,vs++ [.ref a2],done++ [y.1],y.2,fu,k+1,U,aa,(hA.mono λ_ _ z=>(z.Y C Hz).Y C dJ).snoc (hy.Y C dJ),by rw [ao];show vs.length+1=k+1;omega,by omega,rfl,by omega,(sb.trans s4).bM hD,tR.up C m4 rfl,?_
    . omega
    . rw [bn] at q;simp only [bw];exact q
 | false=>
  refine aF rfl ?_;rw [hn,ah rfl] at q;exists _,U,D,_,U,lz,au,λo=>?_;have dJ:bX c H' (upd H' D (.gR o (.lst vs))):=bX.upd lz rfl;refine q D vs _ #[o,aa] ?_ (sb.bM hD) (d_.up C lz rfl);rw [bH];exact hA.mono λ_ _ z=>z.Y C dJ
def sU:SP:=λK c vs H Q E=> ∃r l,vs= [.ref r]/\bT c H r l/\aQ c.cf E r H (takeStm l) (λx=> ∀a H',D_ K c H' (.ref a) x.1->Sb r H H'->bT c H' r x.2->Q (.ref a) H')
def kc:AA.hF 105 "read_statement" ["reader"] sU:=by
 nomatch ["reader","observed","name","written","expression"]
 obtain ⟨r,l,rfl,hR,q⟩:=h;nomatch 2,bZ,1,dv (dL AA 24) ?_,aL,gw (p9 AA) ?_,aL,2,cI,3,cW,mi,aL,4,dv (dL AA 24) ?_,aL,gw (wM AA) ?_
 rw [jC] at q;exists _,U,hR.me #[r,l,_,_,U,yd,hR,λhn H1 s1 dI=>?_,λhn=>?_]
 . exists _,U,nB ?_;rw [ah hn] at q;exists _,U,r,_,MJ,dI,aQ.go q s1 λe e7 q ea H7 he s7 Gy=>?_;have b7:=s1.trans s7;exists _,U,Gy.me #[r,_,_,_,U,JM,Gy,aQ.go q b7 λl8 e8 q a t H8 hl ha s8 RO=>?_];exists _,U,MI λy H9 ny s9 #[dx,hy]=>?_;exact q y H9 #[y,dx,_,rfl,hy,he.Y C ((Gy.Y s8).trans s9.Y)] ((b7.trans s8).trans s9.sb) (RO.sb C s9)
 exists _,U,mQ ?_;rw [ae (by rw [hn];exact aO)] at q;exists _,U,hR.me #[r,l,_,_,U,JO,hR,aQ.go q Sb.refl λl1 e1 q a t H1 hl ha s1 dI=>?_];exists _,U,dI.me #[r,l1,U,dI,aQ.go q s1 λx e2 q a1 H2 w1 ha1 s2 dP=>?_];have b2:=s1.trans s2;exists _,U,dP.me #[r,_,_,_,U,sw_eq,dP,_,U,?_];unfold j9 at q;refine bG (λe3=>?ga) λe3=>?gb;case' ga=>
  rw [ah e3] at q;have hw:Qs K H2 V.cp none:=rfl;have s5:Sb r H2 H2:=Sb.refl;have E5:=dP
 case' gb=>
  rw [ae (by rw [e3];exact aO),bn] at q;exists _,U,r,_,U,dP,aQ.go q b2 λk e5 q ka H5 hk s5 E5=>?_;have hw:Qs K H5 (V.ref ka) (some k.1):=#[ka,rfl,hk]
 all_goals
  have b5:=b2.trans s5
  exists _,U,E5.me #[r,_,_,_,U,sw_eq,E5,aQ.go q b5 λl6 e6 q a t H6 hl ha s6 RN=>?_]
  have b6:=b5.trans s6
  exists _,U,r,_,MJ,RN,aQ.go q b6 λe e7 q ea H7 he s7 Gy=>?_
  have b7:=b6.trans s7
  exists _,U,Gy.me #[r,_,_,_,U,JM,Gy,aQ.go q b7 λl8 e8 q a t H8 hl ha s8 RO=>?_]
  have i8:=Gy.Y s8
  have UN:=(RN.Y s7).trans i8
  have RP:=(E5.Y s6).trans UN
  exists _,U,_,U,_,U,J8 C (ha1.mono C ((dP.Y s5).trans RP)) λy H9 ny s9 #[dx,hy]=>?_
  exact q y H9 #[y,dx,_,_,rfl,hy,hw.Y (RP.trans s9.Y),he.Y C (i8.trans s9.Y)] ((b7.trans s8).trans s9.sb) (RO.sb C s9)
def rg:SP:=λK c vs H Q E=> ∃r l,vs= [.ref r]/\bT c H r l/\aQ c.cf E r H (takeStms (l.length+1) 0 l) (λx=> ∀p ps H',FL H' p ps->A2 (D_ K c H') ps x.1->Sb r H H'->bT c H' r x.2->Q (.ref p) H')
def rh:AA.hF 106 "read_statements" ["reader"] rg:=by
 nomatch ["reader","statements"]
 obtain ⟨r,l1,rfl,hR,q⟩:=h;nomatch 2,1,kc,cW,bK,aM aJ,T.jW,cW,cW,aU,cJ bN,kc,1
 rw [om,ae (λz=>by omega),ae (λz=>by omega)] at q;exists _,U,r,l1,U,hR,aQ.go q Sb.refl λx e1 q a1 H1 hx s1 dI=>?_;exists jJ,λD hD1=>?_;have hD:H D=none:=s1.new hR dI hD1;have ss:=aq.upd (o:= .lst [V.ref a1]) hD1;have hsh:=qY e1;obtain ⟨fu,hfu⟩:∃j,l1.length=j+1:=#[l1.length - 1,by omega];rw [hfu] at q;exists λm σ H'=> ∃(vs:List V) (done:List Stm) (l2:Toks) (fu k:Nat),σ= [some (.ref r),some (.ref D)]/\H' D=some (.lst vs)/\A2 (D_ K c H') vs done/\vs.length=k/\0 < k/\k<=32/\m=l2.length/\l2.length < fu+1/\Sb r H H'/\bT c H' r l2/\aQ c.cf E r H (takeStms (fu+1) k l2 >>= λr=> .ok (done++r.1,r.2)) (λx=> ∀p ps H',FL H' p ps->A2 (D_ K c H') ps x.1->Sb r H H'->bT c H' r x.2->Q (.ref p) H'),
  #[_,[.ref a1],[x.1],x.2,fu,1,rfl,aa,#[hx.Y C ss.Y,au],rfl,by decide,by decide,rfl,by omega,s1.trans ss.sb,dI.sb C ss,q],?_
 rintro m σ H' ⟨vs,done,l2,fu,k,rfl,lz,hA,hk,W6,VO,rfl,hfu,sb,d_,q⟩;rw [om] at q;exists _,U,d_.me #[r,l2,_,_,U,Gu,d_,_,U,?_];cases hn:next (.name (word "tell")) l2 with
 | false=>
  refine bD rfl ?_;rw [hn,ae (λz=>Bool.noConfusion z.1)] at q;refine dG ?_;refine' (λ(rest:¬((next (.name (word "let")) l2 || next (.name (word "observe")) l2)=true/\32<=k)->(_:Prop))=>?_) (λk9=>?_);rotate_left 1
  . exists _,U,D,_,U,.inl (cz.of lz),U,_,U,bG (λe1=>?_) λe1=>?_
    . have hk:k=32:=by have:(vs.length:Int)=32:=(by simpa using e1);omega
      refine' (λ(bad:(next (.name (word "let")) l2 || next (.name (word "observe")) l2)=true->(_:Prop))=>?_) (λHC=>?_);rotate_left 1
      . exists _,U,d_.me #[r,l2,_,_,U,JO,d_,_,U,bG (λe2=>?_) λe2=>?_]
        . exact bad (by rw [e2];rfl)
        . exists _,U,d_.me #[r,l2,_,_,U,yd,d_,_,U,?_];refine bG (λe3=>?_) λe3=>?_
          . exact bad (by rw [e2,e3];rfl)
          . exact rest (λz=>by rw [e2,e3] at z;exact Bool.noConfusion z.1)
      rw [ah #[HC,by omega]] at q;obtain ⟨t,l',rfl⟩:=d_.ye.ne;exists _,U,d_.me #[r,t,l',U,d_,λa #[bh,da,ha]=>?_];exact (fr ha rfl #[_,_,rfl,li.go q sb])
    . exact rest (λz=>by have:¬(vs.length:Int)=32:=(by simpa using e1);omega)
  rw [ae k9,bn] at q;exists _,U,mR lz,_,U,r,_,U,d_,aQ.go q sb λy e5 q a2 H4 hy s4 tR=>?_;have W7:k≠32:=λz=>by
   subst z;rw [jC] at e5;apply k9;exists ?_,aw _;by_cases ho:next (.name (word "observe")) l2=true
   . rw [ho,Bool.or_true]
   . rw [ae ho] at e5;let #[l1,e6,_]:=aj e5;obtain ⟨p,rfl⟩:=xl e6;rfl
  have m4:=s4.at d_ lz;have Hz:=d_.Y s4;have dJ:bX c H4 (upd H4 D (.lst (vs++ [.ref a2]))):=bX.upd m4 rfl;have hsh:=qY e5;exists D,vs,_,U,U,m4,by have:(32:Nat) < sizeLine:=(by decide);omega,?_;obtain ⟨fu,rfl⟩:∃j,fu=j+1:=#[fu - 1,by omega];exists _,?_,vs++ [.ref a2],done++ [y.1],y.2,fu,k+1,U,aa,(hA.mono λ_ _ z=>(z.Y C Hz).Y C dJ).snoc (hy.Y C dJ),by rw [ao];show vs.length+1=k+1;omega,by omega,by omega,rfl,by omega,(sb.trans s4).bM hD,tR.up C m4 rfl,?_
  . omega
  . rw [bn] at q;simp only [bw];exact q
 | true=>
  refine aF rfl ?_;rw [ah #[hn,W6]] at q;exists _,U,D,_,U,lz,au,λo=>?_;have dJ:bX c H' (upd H' D (.gR o (.lst vs))):=bX.upd lz rfl;refine q D vs _ #[o,aa] ?_ (sb.bM hD) (d_.up C lz rfl);rw [bH];exact hA.mono λ_ _ z=>z.Y C dJ
def By:SP:=λK c vs H Q E=> ∃r l,vs= [.ref r]/\bT c H r l/\aQ c.cf E r H (take (.name (word "tell")) l >>= λl2=>takeTells (l2.length+1) 0 l2) (λts=> ∀p ps H',FL H' p ps->A2 (JV c H') ps ts->Sb r H H'->Q (.ref p) H')
def Bz:AA.hF 5 "read_told" ["reader"] By:=by
 nomatch ["reader","told"]
 obtain ⟨r,l0,rfl,JY,q⟩:=h;nomatch 2,aL,1,cI,bZ,iA,aM aJ,T.vO,cJ bN,cI,jy,1
 exists _,U,JY.me #[r,l0,_,_,U,Gu,JY,aQ.go q Sb.refl λl1 e0 q a t H0 hl ha s0 hR=>?_];rw [mj,ae (λz=>by omega)] at q;exists _,U,hR.me #[r,l1,U,hR,aQ.go q s0 λx e1 q a1 H1 w1 ha1 s1 dI=>?_];exists jJ,λD hD1=>?_;have b1:=s0.trans s1;have hD:H D=none:=b1.new JY dI hD1;have ss:=aq.upd (o:= .lst [V.ref a1]) hD1;have hsh:=d5 e1;exists λm σ H'=> ∃(vs:List V) (done:List PName) (l2:Toks) (fu k:Nat),σ= [some (.ref r),some (.ref D)]/\H' D=some (.lst vs)/\A2 (JV c H') vs done/\vs.length=k/\k<=6/\m=l2.length/\l2.length < fu+1/\Sb r H H'/\bT c H' r l2/\aQ c.cf E r H (if next .halt_ l2=true then .ok done else take (.sign 44) l2 >>= λl3=>takeTells fu k l3 >>= λr=> .ok (done++r)) (λts=> ∀p ps H',FL H' p ps->A2 (JV c H') ps ts->Sb r H H'->Q (.ref p) H'),
  #[_,[.ref a1],[x.1],x.2,l1.length,1,rfl,aa,#[#[a1,rfl,ha1.mono C ss.Y],au],rfl,by decide,rfl,by omega,b1.trans ss.sb,dI.sb C ss,q],?_
 rintro m σ H' ⟨vs,done,l2,fu,k,rfl,lz,hA,hk,X_,rfl,hfu,sb,d_,q⟩;exists _,U,d_.me #[r,l2,_,_,U,vU,d_,λhn H2 s2 dP=>?_,λhn=>?_]
 . exists _,U,nB ?_;have eN:=s2.at d_ lz;obtain ⟨p0,r0,hl2⟩:=next_ne hn;have hdl:(l2.drop 1).length+1=l2.length:=by rw [hl2];rfl
   have hh:¬next .halt_ l2=true:=by rw [hl2];exact Bool.noConfusion
   have htk:take (.sign 44) l2= .ok (l2.drop 1):=by unfold take;rw [ah hn]
   have q:aQ c.cf E r H (takeTells fu k (l2.drop 1) >>= λr=> .ok (done++r)) (λts=> ∀p ps H',FL H' p ps->A2 (JV c H') ps ts->Sb r H H'->Q (.ref p) H'):=by
    rw [ae hh,htk] at q;exact q
   obtain ⟨fu,rfl⟩:∃j,fu=j+1:=#[fu - 1,by omega];rw [mj] at q;refine dG ?_;exists _,U,_,U,D,_,U,.inl (cz.of eN),r,_,_,_,U,dP,λkg=>?_,λheq=>?_
   . rw [ae (λz=>by omega),bn] at q;exists _,U,mR eN,_,U,dP.me #[r,_,U,dP,aQ.go q (sb.trans s2) λy e5 q a2 H4 w2 hy s4 tR=>?_];have m4:=s4.at dP eN;have Hz:=(d_.Y s2).trans (dP.Y s4);have dJ:bX c H4 (upd H4 D (.lst (vs++ [.ref a2]))):=bX.upd m4 rfl;have hsh:=d5 e5;exists D,vs,_,U,U,m4,by have:(6:Nat) < sizeLine:=(by decide);omega,?_;exists _,?_,vs++ [.ref a2],done++ [y.1],y.2,fu,k+1,U,aa,(hA.mono λ_ _ z=>(z.Y C Hz).Y C dJ).snoc #[a2,U,hy.mono C dJ],by rw [ao,hk];rfl,by omega,rfl,by omega,((sb.trans s2).trans s4).bM hD,tR.up C m4 rfl,?_
     . omega
     . split <;> rename_i hc
       . rw [ah hc] at q;exact q
       . rw [ae hc] at q;simp only [bn] at q;simp only [bw];exact q
   . have heq:k=6:=by omega
     subst heq;by_cases hx:nameNext (l2.drop 1)=true
     . rw [ah #[hx,aw _]] at q;rw [ah hx];exact li.on q (sb.trans s2)
     . rw [ae (λz=>hx z.1),j_ hx] at q;rw [ae hx];exact li.on q (sb.trans s2)
 . exists _,U,mQ ?_;exists _,U,d_.me #[r,l2,U,d_,?_];by_cases hh:next .halt_ l2=true
   . rw [ae (by rw [hh];exact Bool.noConfusion)];rw [ah hh] at q;exists _,U,D,_,U,lz,au,λo=>?_;have dJ:bX c H' (upd H' D (.gR o (.lst vs))):=bX.upd lz rfl;exact q D vs _ #[o,aa] (hA.mono λ_ _ z=>z.Y C dJ) (sb.bM hD)
   . rw [ah (by simpa using hh)];rw [ae hh,show take (.sign 44) l2=wrong l2 by unfold take;rw [ae (by rw [hn];exact aO)]] at q;exact li.on q sb
def wN:SP:=λK c vs H Q E=> ∃tl l,vs= [.ref tl]/\Bo c H tl l/\Tks l/\aN c.cf E H (takeProg l) (λp=> ∀a H',aq H H'->D' K c H' (.ref a) p->Q (.ref a) H')
def wO:AA.hF 107 "read_program" ["tokens"] wN:=by
 nomatch ["tokens","reader","title","budget","functions","statements","told"]
 obtain ⟨tl,l,rfl,hT,htk,q⟩:=h;nomatch 2,1,gw (jx AA) ?_,aL,2,cI,3,yz,4,sR,5,rh,6,Bz,gw (p_ AA) ?_
 rw [v8] at q;exists _,U,λr dx nr nd _=>#[r,dx,_,U,aa,λH0 hr0 kp=>#[U,?_]];have s0:=aq.made nr nd kp;have hr0:∃dx,H0 r=some (.ins c.rd dx [("tokens",.ref tl),("taken",.int 0)]):=#[dx,hr0];have hR:=bT.new (hT.Y C s0.Y) htk hr0;have q:=aN.VP (r:=r) q s0 nr;exists _,U,hR.me #[r,l,_,_,U,Hv,hR,aQ.go q Sb.refl λl1 e1 q a t H1 hl ha s1 dI=>?_];exists _,U,dI.me #[r,l1,U,dI,aQ.go q s1 λx e2 q a1 H2 w1 #[b1,d1,ha1] s2 dP=>?_];have b2:=s1.trans s2;refine (fr ha1 rfl ?_);exists _,U,r,_,U,dP,aQ.go q b2 λb e3 q H3 s3 m3=>?_;have b3:=b2.trans s3;exists _,U,r,_,U,m3,aQ.go q b3 λfs e4 q fl W8 H4 ff hf s4 tR=>?_;have b4:=b3.trans s4;exists _,U,r,_,U,tR,aQ.go q b4 λss e5 q sl W9 H5 fs' hs s5 E5=>?_;have b5:=b4.trans s5;rw [<-bn] at q;exists _,U,r,_,U,E5,aQ.go q b5 λts e6 q tl' tvs H6 ft ht s6=>?_;have b6:=b5.trans s6;have i6:=E5.Y s6;have VQ:=(tR.Y s5).trans i6;exists _,U,_,U,_,U,_,U,_,U,J9 λy H7 ny s7 #[dx,hy]=>?_;have i7:bX c H6 H7:=s7.Y;exact q y H7 (((s0.sb.trans b6).same nr).trans s7) #[y,dx,fl,sl,tl',W8,W9,tvs,rfl,hy,ff.mono (VQ.trans i7),hf.mono λ_ _ z=>z.Y C (VQ.trans i7),fs'.mono (i6.trans i7),hs.mono λ_ _ z=>z.Y C (i6.trans i7),ft.mono i7,ht.mono λ_ _ z=>z.Y C i7]
def lD:SP:=λK c vs H Q E=> ∃tl l,vs= [.ref tl]/\Bo c H tl l/\Tks l/\aN c.cf E H (takeExpr 24 l >>= λx=>(if next .halt_ x.2=false then wrong x.2 else .ok ()) >>= λ_=> .ok x.1) (λe=> ∀a H',aq H H'->iq K c H' (.ref a) e->Q (.ref a) H')
def lE:AA.hF 105 "read_lone_expression" ["tokens"] lD:=by
 nomatch ["tokens","reader","expression"]
 obtain ⟨tl,l,rfl,hT,htk,q⟩:=h;nomatch 2,1,gw (jx AA) ?_,2,dv (dL AA 24) ?_,jy,0
 exists _,U,λr dx nr nd _=>#[r,dx,_,U,aa,λH0 hr0 kp=>#[U,?_]];have s0:=aq.made nr nd kp;have hr0:∃dx,H0 r=some (.ins c.rd dx [("tokens",.ref tl),("taken",.int 0)]):=#[dx,hr0];have hR:=bT.new (hT.Y C s0.Y) htk hr0;have q:=aN.VP (r:=r) q s0 nr;exists _,U,r,_,MJ,hR,aQ.go q Sb.refl λe e7 q ea H7 he s7 Gy=>?_;exists _,U,Gy.me #[r,_,U,Gy,aQ.go q s7 λ_ _ q=>?_];exists _,U,q ea H7 ((s0.sb.trans s7).same nr) he
def rN (b:Bytes):=b.length<=16
def MK (n:Int):Prop:= -1000000000<=n/\n<=1000000000
def J_ (f:Frac):=MK f.num/\0 < f.den/\f.den<=1000000000
def kn:Kd->Prop
 | .flag=>True
 | .num lo hi=> -1000<=lo/\lo<=hi/\hi<=1000/\hi<=lo+63
def gd:Ex->Nat->Prop
 | .nil,s=>s=1\/s=2
 | .arg a r,s=>s=1/\gd a 0/\gd r 1
 | .way a w r,s=>s=2/\gd a 0/\J_ w/\gd r 2
 | .lit _ (.num n),s=>s=0/\MK n
 | .lit _ (.flag _),s=>s=0
 | .name _ b,s=>s=0/\rN b
 | .un _ _ a,s=>s=0/\gd a 0
 | .bin _ _ a b,s=>s=0/\gd a 0/\gd b 0
 | .flip _ f,s=>s=0/\J_ f
 | .uniform _ lo hi,s=>s=0/\kn (.num lo hi)
 | .cond _ d a b,s=>s=0/\gd d 0/\gd a 0/\gd b 0
 | .given _ d a,s=>s=0/\gd d 0/\gd a 0
 | .weigh _ w a,s=>s=0/\J_ w/\gd a 0
 | .call _ f x,s=>s=0/\rN f/\gd x 1
 | .pick _ x,s=>s=0/\gd x 2/\x≠ .nil
def dep:Ex->Nat
 | .nil=>0
 | .arg a r=>max (dep a) (dep r)
 | .way a _ r=>max (dep a) (dep r)
 | .un _ _ a=>dep a+1
 | .bin _ _ a b=>max (dep a) (dep b)+1
 | .cond _ d a b=>max (dep d) (max (dep a) (dep b))+1
 | .given _ d a=>max (dep d) (dep a)+1
 | .weigh _ _ a=>dep a+1
 | .call _ _ x=>dep x+1
 | .pick _ x=>dep x+1
 | _=>1
def sz:Ex->Nat
 | .nil=>0
 | .arg a r=>sz a+sz r
 | .way a _ r=>sz a+sz r
 | .un _ _ a=>sz a+1
 | .bin _ _ a b=>sz a+sz b+1
 | .cond _ d a b=>sz d+sz a+sz b+1
 | .given _ d a=>sz d+sz a+1
 | .weigh _ _ a=>sz a+1
 | .call _ _ x=>sz x+1
 | .pick _ x=>sz x+1
 | _=>1
def eK:Ex->List Ex
 | .arg a r=>a :: eK r
 | .way a _ r=>a :: eK r
 | _=> []
def kids:Ex->List Ex
 | .un _ _ a=> [a]
 | .bin _ _ a b=> [a,b]
 | .cond _ d a b=> [d,a,b]
 | .given _ d a=> [d,a]
 | .weigh _ _ a=> [a]
 | .call _ _ x=>eK x
 | .pick _ x=>eK x
 | _=> []
def subs:Ex->List Ex
 | .nil=> []
 | .arg a r=>subs a++subs r
 | .way a _ r=>subs a++subs r
 | .un p o a=> .un p o a :: subs a
 | .bin p o a b=> .bin p o a b :: (subs a++subs b)
 | .cond p d a b=> .cond p d a b :: (subs d++(subs a++subs b))
 | .given p d a=> .given p d a :: (subs d++subs a)
 | .weigh p w a=> .weigh p w a :: subs a
 | .call p f x=> .call p f x :: subs x
 | .pick p x=> .pick p x :: subs x
 | e=> [e]
def sV {s:Nat} (hs:s≠0):∀{x:Ex},gd x s->subs x=(eK x).flatMap subs
 | .nil,_=>rfl
 | .arg a r,h=>by
  obtain ⟨rfl,_,h2⟩:=h;show subs a++subs r=(a :: eK r).flatMap subs;rw [dR,sV (by decide) h2]
 | .way a w r,h=>by
  obtain ⟨rfl,_,_,h2⟩:=h;show subs a++subs r=(a :: eK r).flatMap subs;rw [dR,sV (by decide) h2]
 | .lit _ (.num _),h=>absurd h.1 hs
 | .lit _ (.flag _),h=>absurd h hs
 | .name _ _,h=>absurd h.1 hs
 | .un _ _ _,h=>absurd h.1 hs
 | .bin _ _ _ _,h=>absurd h.1 hs
 | .flip _ _,h=>absurd h.1 hs
 | .uniform _ _ _,h=>absurd h.1 hs
 | .cond _ _ _ _,h=>absurd h.1 hs
 | .given _ _ _,h=>absurd h.1 hs
 | .weigh _ _ _,h=>absurd h.1 hs
 | .call _ _ _,h=>absurd h.1 hs
 | .pick _ _,h=>absurd h.1 hs
def gj (h:gd e 0):subs e=e :: (kids e).flatMap subs:=by
 cases e with
 | nil=>rcases h with h | h <;> cases h
 | arg a r=>exact absurd h.1 (by decide)
 | way a w r=>exact absurd h.1 (by decide)
 | call p f x=>show _ :: subs x=_ :: (eK x).flatMap subs;rw [sV (by decide) h.2.2]
 | pick p x=>show _ :: subs x=_ :: (eK x).flatMap subs;rw [sV (by decide) h.2.1]
 | lit p v=>rfl
 | name p b=>rfl
 | flip p f=>rfl
 | uniform p lo hi=>rfl
 | un p o a=>simp [subs,kids]
 | bin p o a b=>simp [subs,kids]
 | cond p d a b=>simp [subs,kids]
 | given p d a=>simp [subs,kids]
 | weigh p w a=>simp [subs,kids]
def ck:∀e:Ex,(subs e).length=sz e
 | .nil=>rfl
 | .arg a r=>by show (subs a++subs r).length=sz a+sz r;rw [ao,ck a,ck r]
 | .way a _ r=>by show (subs a++subs r).length=sz a+sz r;rw [ao,ck a,ck r]
 | .un p o a=>by show (subs a).length+1=_;rw [ck a];rfl
 | .bin p o a b=>by show (subs a++subs b).length+1=sz a+sz b+1;rw [ao,ck a,ck b]
 | .cond p d a b=>by show (subs d++(subs a++subs b)).length+1=sz d+sz a+sz b+1;rw [ao,ao,ck a,ck b,ck d];omega
 | .given p d a=>by show (subs d++subs a).length+1=sz d+sz a+1;rw [ao,ck a,ck d]
 | .weigh p w a=>by show (subs a).length+1=_;rw [ck a];rfl
 | .call p f x=>by show (subs x).length+1=_;rw [ck x];rfl
 | .pick p x=>by show (subs x).length+1=_;rw [ck x];rfl
 | .lit _ _=>rfl
 | .name _ _=>rfl
 | .flip _ _=>rfl
 | .uniform _ _ _=>rfl
def pQ {s:Nat}:∀{x:Ex},gd x s->∀k∈eK x,gd k 0/\dep k<=dep x/\sz k<=sz x
 | .nil,_,k,hk=>by cases hk
 | .arg a r,h,k,hk=>by
  rcases aE.mp hk with rfl | hk
  . exists h.2.1,Nat.le_max_left _ _,dS _ _
  . obtain ⟨h1,h2,h3⟩:=pQ h.2.2 k hk;exists h1,aP h2 (Nat.le_max_right _ _),aP h3 (pf _ _)
 | .way a _ r,h,k,hk=>by
  rcases aE.mp hk with rfl | hk
  . exists h.2.1,Nat.le_max_left _ _,dS _ _
  . obtain ⟨h1,h2,h3⟩:=pQ h.2.2.2 k hk;exists h1,aP h2 (Nat.le_max_right _ _),aP h3 (pf _ _)
 | .lit _ _,_,k,hk=>by cases hk
 | .name _ _,_,k,hk=>by cases hk
 | .un _ _ _,_,k,hk=>by cases hk
 | .bin _ _ _ _,_,k,hk=>by cases hk
 | .flip _ _,_,k,hk=>by cases hk
 | .uniform _ _ _,_,k,hk=>by cases hk
 | .cond _ _ _ _,_,k,hk=>by cases hk
 | .given _ _ _,_,k,hk=>by cases hk
 | .weigh _ _ _,_,k,hk=>by cases hk
 | .call _ _ _,_,k,hk=>by cases hk
 | .pick _ _,_,k,hk=>by cases hk
def eB (h:gd e 0):∀k∈kids e,gd k 0/\dep k+1<=dep e/\sz k+1<=sz e:=by
 cases e with
 | call p f x=>intro k hk;obtain ⟨h1,h2,h3⟩:=pQ h.2.2 k hk;exists h1,eP h2,eP h3
 | pick p x=>intro k hk;obtain ⟨h1,h2,h3⟩:=pQ h.2.1 k hk;exists h1,eP h2,eP h3
 | nil=>intro k hk;cases hk
 | arg a r=>intro k hk;cases hk
 | way a w r=>intro k hk;cases hk
 | lit p v=>intro k hk;cases hk
 | name p b=>intro k hk;cases hk
 | flip p f=>intro k hk;cases hk
 | uniform p lo hi=>intro k hk;cases hk
 | un p o a=>intro k hk;simp only [kids,aE,cU,fZ] at hk;subst hk;exists h.2,aw _,aw _
 | weigh p w a=>intro k hk;simp only [kids,aE,cU,fZ] at hk;subst hk;exists h.2.2,aw _,aw _
 | bin p o a b=>
  intro k hk;simp only [kids,aE,cU,fZ] at hk;simp only [dep,sz];rcases hk with rfl | rfl
  . exists h.2.1,by omega,by omega
  . exists h.2.2,by omega,by omega
 | given p d a=>
  intro k hk;simp only [kids,aE,cU,fZ] at hk;simp only [dep,sz];rcases hk with rfl | rfl
  . exists h.2.1,by omega,by omega
  . exists h.2.2,by omega,by omega
 | cond p d a b=>
  intro k hk;simp only [kids,aE,cU,fZ] at hk;simp only [dep,sz];rcases hk with rfl | rfl | rfl
  . exists h.2.1,by omega,by omega
  . exists h.2.2.1,by omega,by omega
  . exists h.2.2.2,by omega,by omega
def BA (h:gd e 0):0 < dep e:=by
 cases e with
 | nil=>rcases h with h | h <;> cases h
 | arg a r=>exact absurd h.1 (by decide)
 | way a w r=>exact absurd h.1 (by decide)
 | _=>first | exact Nat.succ_pos _ | (simp only [dep];omega)
def BC (h:gd e 0):0 < sz e:=by
 cases e with
 | nil=>rcases h with h | h <;> cases h
 | arg a r=>exact absurd h.1 (by decide)
 | way a w r=>exact absurd h.1 (by decide)
 | _=>first | exact Nat.succ_pos _ | (simp only [sz];omega)
section
def jK.eK {s:Nat} (hs:s≠0):∀{x:Ex} {vs:List V},gd x s->jK K c H x vs->A2 (iq K c H) vs (eK x)
 | .nil,vs,_,h=>by cases (show vs= [] from h);exact au
 | .arg a r,vs,g,#[v,ws,e,h1,h2]=>by subst e;exists h1,jK.eK (by decide) g.2.2 h2
 | .way a _ r,vs,g,#[v,ws,e,h1,h2]=>by subst e;exists h1,jK.eK (by decide) g.2.2.2 h2
 | .lit _ (.num _),_,g,_=>absurd g.1 hs
 | .lit _ (.flag _),_,g,_=>absurd g hs
 | .name _ _,_,g,_=>absurd g.1 hs
 | .un _ _ _,_,g,_=>absurd g.1 hs
 | .bin _ _ _ _,_,g,_=>absurd g.1 hs
 | .flip _ _,_,g,_=>absurd g.1 hs
 | .uniform _ _ _,_,g,_=>absurd g.1 hs
 | .cond _ _ _ _,_,g,_=>absurd g.1 hs
 | .given _ _ _,_,g,_=>absurd g.1 hs
 | .weigh _ _ _,_,g,_=>absurd g.1 hs
 | .call _ _ _,_,g,_=>absurd g.1 hs
 | .pick _ _,_,g,_=>absurd g.1 hs
def yA (h: [v]= [V.ref a]):v= .ref a:=(pz h).1
def iq.view (g:gd e 0) (h:iq K c H v e):∃a pl ps,v= .ref a/\Node K c H a pl e/\FL H pl ps/\A2 (iq K c H) ps (kids e):=by
 cases e with
 | nil=>rcases g with g | g <;> cases g
 | arg a r=>exact absurd g.1 (by decide)
 | way a w r=>exact absurd g.1 (by decide)
 | lit p v=>obtain ⟨a,pl,e,h1,h2⟩:=h;exists a,pl,[],yA e,h1,h2,au
 | name p b=>obtain ⟨a,pl,e,h1,h2⟩:=h;exists a,pl,[],yA e,h1,h2,au
 | flip p f=>obtain ⟨a,pl,e,h1,h2⟩:=h;exists a,pl,[],yA e,h1,h2,au
 | uniform p lo hi=>obtain ⟨a,pl,e,h1,h2⟩:=h;exists a,pl,[],yA e,h1,h2,au
 | un p o x=>obtain ⟨a,pl,v1,e,h1,h2,h3⟩:=h;exists a,pl,[v1],yA e,h1,h2,h3,au
 | bin p o x y=>obtain ⟨a,pl,v1,v2,e,h1,h2,h3,h4⟩:=h;exists a,pl,[v1,v2],yA e,h1,h2,h3,h4,au
 | cond p d x y=>obtain ⟨a,pl,v1,v2,v3,e,h1,h2,h3,h4,h5⟩:=h;exists a,pl,[v1,v2,v3],yA e,h1,h2,h3,h4,h5,au
 | given p x y=>obtain ⟨a,pl,v1,v2,e,h1,h2,h3,h4⟩:=h;exists a,pl,[v1,v2],yA e,h1,h2,h3,h4,au
 | weigh p w x=>obtain ⟨a,pl,v1,e,h1,h2,h3⟩:=h;exists a,pl,[v1],yA e,h1,h2,h3,au
 | call p f x=>obtain ⟨a,pl,ps,e,h1,h2,h3⟩:=h;exists a,pl,ps,yA e,h1,h2,h3.eK (by decide) g.2.2
 | pick p x=>obtain ⟨a,pl,ps,e,h1,h2,h3⟩:=h;exists a,pl,ps,yA e,h1,h2,h3.eK (by decide) g.2.1
end
def bP {t:Tok} (h:take t l= .ok l') (ht:t≠ .halt_) (hl:Tks l):Tks l':=by
 obtain ⟨p,rfl⟩:=xl h;exact hl.tail ht
def eW {x:(Nat×Int)×Toks} (h:takeNum l= .ok x) (hl:Tks l):Tks x.2/\MK x.1.2:=by
 have e:=ym h;rw [e] at hl;exists hl.tail nofun,hl.wf
def gC {x:PName×Toks} (h:takeName l= .ok x) (hl:Tks l):Tks x.2/\rN x.1.name:=by
 have e:=(vV h).1;rw [e] at hl;exists hl.tail nofun,hl.wf.2.2
def J' {n d:Int} (hn:MK n) (hd:MK d) (h1:¬d < 1):J_ (frac n d.toNat):=by
 obtain ⟨m,rfl⟩:∃m:Nat,d=m:=#[d.toNat,by omega];have hm:((m:Int)).toNat=m:=by omega
 rw [hm];have hm0:0 < m:=by omega
 have hm9:m<=1000000000:=by have:=hd.2;omega
 unfold frac;rw [ae (by omega)];have hg:0 < Nat.gcd n.natAbs m:=Nat.gcd_pos_of_pos_right _ hm0;exists ?_,Nat.div_pos (Nat.le_of_dvd hm0 (Nat.gcd_dvd_right _ _)) hg,aP (Nat.div_le_self _ _) hm9;obtain ⟨k,hk⟩:=Nat.gcd_dvd_left n.natAbs m;generalize Nat.gcd n.natAbs m=gg at hg hk;have hdv:(gg:Int) ∣ n:=Int.ofNat_dvd_left.mpr #[k,hk];obtain ⟨q,hq⟩:=hdv;have hgi:(gg:Int)≠0:=by omega
 show MK (n / (gg:Int));rw [hq,Int.mul_ediv_cancel_left _ hgi];have hnn:=hn;rw [hq] at hnn;have hg1:(1:Int)<=gg:=by omega
 obtain ⟨a1,a2⟩:=hnn;constructor
 . by_cases hq0:0<=q
   . omega
   . have:(gg:Int) * q<=1 * q:=by
      have:=Int.mul_le_mul_of_nonpos_right hg1 (by omega:q<=0);exact this
     omega
 . by_cases hq0:0<=q
   . have:1 * q<=(gg:Int) * q:=Int.mul_le_mul_of_nonneg_right hg1 hq0;omega
   . omega
def sW {x:(Nat×Frac)×Toks} (h:takeFrac l= .ok x) (hl:Tks l):Tks x.2/\J_ x.1.2:=by
 rw [j4] at h;let #[a,h1,h]:=aj h;obtain ⟨t1,w1⟩:=eW h1 hl;split at h
 . rename_i hn;let #[b,h2,h]:=aj h;obtain ⟨p,r,e⟩:=next_ne hn;have t2:Tks (a.2.drop 1):=by rw [e] at t1 ⊢;exact t1.tail nofun
   obtain ⟨t3,w3⟩:=eW h2 t2;split at h
   . cases h
   . rename_i gZ;cases h;exists t3,J' w1 w3 gZ
 . cases h;exists t1,w1,Nat.one_pos,by show (1:Nat)<=_;decide
def ow {x:Frac×Toks} (h:takeWeight l= .ok x) (hl:Tks l):Tks x.2/\J_ x.1:=by
 rw [ki] at h;let #[a,h1,h]:=aj h;obtain ⟨t,w⟩:=sW h1 hl;split at h
 . cases h
 . cases h;exists t,w
def yB {x:Frac×Toks} (h:takeChance l= .ok x) (hl:Tks l):Tks x.2/\J_ x.1:=by
 rw [kj] at h;let #[a,h1,h]:=aj h;obtain ⟨t,w⟩:=sW h1 hl;split at h
 . cases h
 . cases h;exists t,w
def Ka {p1 p2:Nat} {n1 n2:Int} (h:bnd p1 n1 p2 n2= .ok u):kn (.num n1 n2):=by
 unfold bnd at h;split at h
 . cases h
 . split at h
   . cases h
   . show -1000<=n1/\n1<=n2/\n2<=1000/\n2<=n1+63;omega
def yC {x:(Int×Int)×Toks} (h:takeBounds l= .ok x) (hl:Tks l):Tks x.2/\kn (.num x.1.1 x.1.2):=by
 rw [kl] at h;let #[a,h1,h]:=aj h;let #[l1,h2,h]:=aj h;let #[b,h3,h]:=aj h;let #[u,h4,h]:=aj h;have t1:=(eW h1 hl).1;have t2:=bP h2 nofun t1
 have t3:=(eW h3 t2).1;cases h;exists t3,Ka h4
def mn {x:Kd×Toks} (h:takeKind l= .ok x) (hl:Tks l):Tks x.2/\kn x.1:=by
 rw [nV] at h;split at h
 . rename_i hn;obtain ⟨p,r,rfl⟩:=next_ne hn;cases h;exists hl.tail nofun,au
 . let #[l1,h2,h]:=aj h;let #[a,h1,h]:=aj h;let #[b,h3,h]:=aj h;let #[u,h4,h]:=aj h;have t2:=bP h2 nofun hl
   have t1:=(eW h1 t2).1;have t3:=(eW h3 t1).1;cases h;exists t3,Ka h4
def GE (n s:Nat) (l:Toks) (x:Ex×Toks):=gd x.1 s/\dep x.1<=n/\sz x.1+x.2.length<=l.length/\Tks x.2
section
variable {e:Reader} (he:∀l x,e l= .ok x->Tks l->GE n 0 l x)
include he
def AC:∀{k:Nat} {l:Toks} {x:List Ex×Toks},jA e k l= .ok x->Tks l->(∀y∈x.1,gd y 0/\dep y<=n)/\(x.1.map sz).sum+x.2.length < l.length/\Tks x.2
 | 0,l,x,h,hl=>by
  let #[l1,h1,h]:=aj h;have:=aZ h1;have t:=bP h1 nofun hl
  cases h;exists λy hy=>(cU hy).elim,by show 0+l1.length < l.length;omega,t
 | k+1,l,x,h,hl=>by
  let #[l1,h1,h]:=aj h;let #[a,h2,h]:=aj h;let #[y,h3,h]:=aj h;cases h;have:=aZ h1;have t:=bP h1 nofun hl
  obtain ⟨g1,g2,g3,g4⟩:=he _ _ h2 t;obtain ⟨q1,q2,q3⟩:=AC h3 g4;exists λz hz=>?_,?_,q3
  . rcases aE.mp hz with rfl | hz
    . exists g1,g2
    . exact q1 z hz
  . show (sz a.1+(y.1.map sz).sum)+y.2.length < _;omega
def rj {k:Nat} {x:List Ex×Toks} (h:partsOf e k l= .ok x) (hl:Tks l):(∀y∈x.1,gd y 0/\dep y<=n)/\(x.1.map sz).sum+x.2.length+1 < l.length/\Tks x.2:=by
 let #[l1,h1,h]:=aj h;let #[a,h2,h]:=aj h;let #[y,h3,h]:=aj h;cases h;have:=aZ h1;have t:=bP h1 nofun hl
 obtain ⟨g1,g2,g3,g4⟩:=he _ _ h2 t;obtain ⟨q1,q2,q3⟩:=AC he h3 g4;exists λz hz=>?_,?_,q3
 . rcases aE.mp hz with rfl | hz
   . exists g1,g2
   . exact q1 z hz
 . show (sz a.1+(y.1.map sz).sum)+y.2.length+1 < _;omega
def v_:∀{f k:Nat} {l:Toks} {x:Ex×Toks},takeArgs e f k l= .ok x->Tks l->GE n 1 l x
 | 0,_,_,_,h,_=>by cases h
 | f+1,k,l,x,h,hl=>by
  rw [j8] at h;split at h
  . cases h
  . let #[a,h1,h]:=aj h;obtain ⟨g1,g2,g3,g4⟩:=he _ _ h1 hl;split at h
    . rename_i hn;let #[r,h2,h]:=aj h;obtain ⟨p,rr,er⟩:=next_ne hn;have t2:Tks (a.2.drop 1):=by rw [er] at g4 ⊢;exact g4.tail nofun
      obtain ⟨q1,q2,q3,q4⟩:=v_ h2 t2;rw [cT] at q3;cases h;exists #[U,g1,q1],fY.mpr #[g2,q2],by show (sz a.1+sz r.1)+r.2.length<=_;omega,q4
    . let #[l2,h2,h]:=aj h;have:=aZ h2;have t:=bP h2 nofun g4
      cases h;exists #[U,g1,.inl U],fY.mpr #[g2,aD _],by show (sz a.1+0)+l2.length<=_;omega,t
def wd:∀{f k:Nat} {l:Toks} {x:Ex×Toks},takeWays e f k l= .ok x->Tks l->GE n 2 l x/\x.1≠ .nil
 | 0,_,_,_,h,_=>by cases h
 | f+1,k,l,x,h,hl=>by
  rw [n_] at h;split at h
  . cases h
  . let #[a,h1,h]:=aj h;let #[l1,h2,h]:=aj h;let #[w,h3,h]:=aj h;obtain ⟨g1,g2,g3,g4⟩:=he _ _ h1 hl;have:=aZ h2;have t2:=bP h2 nofun g4
    have:=fR h3;obtain ⟨t3,w3⟩:=ow h3 t2;split at h
    . let #[l2,h4,h]:=aj h;let #[r,h5,h]:=aj h;have:=aZ h4;have t4:=bP h4 nofun t3
      obtain ⟨⟨q1,q2,q3,q4⟩,_⟩:=wd h5 t4;cases h;exists #[#[U,g1,w3,q1],fY.mpr #[g2,q2],by show (sz a.1+sz r.1)+r.2.length<=_;omega,q4],Vaprbb.Expr.noConfusion
    . let #[l2,h4,h]:=aj h;have:=aZ h4;have t4:=bP h4 nofun t3
      cases h;exists #[#[U,g1,w3,.inr U],fY.mpr #[g2,aD _],by show (sz a.1+0)+l2.length<=_;omega,t4],Vaprbb.Expr.noConfusion
def Kb {x:Ex×Toks} (h:inOne e l= .ok x) (hl:Tks l):gd x.1 0/\dep x.1<=n/\sz x.1+x.2.length+1 < l.length/\Tks x.2:=by
 rw [n8] at h;obtain ⟨⟨y1,y2⟩,h1,h⟩:=aj h;obtain ⟨q1,q2,q3⟩:=rj he h1 hl;rcases y1 with _ | ⟨a,_ | ⟨b,_⟩⟩ <;> cases h
 exists (q1 a (by simp)).1,(q1 a (by simp)).2,by simp at q2;omega,q3
def Dn {x:(Ex×Ex)×Toks} (h:inTwo e l= .ok x) (hl:Tks l):gd x.1.1 0/\dep x.1.1<=n/\gd x.1.2 0/\dep x.1.2<=n/\sz x.1.1+sz x.1.2+x.2.length+1 < l.length/\Tks x.2:=by
 rw [j6] at h;obtain ⟨⟨y1,y2⟩,h1,h⟩:=aj h;obtain ⟨q1,q2,q3⟩:=rj he h1 hl;rcases y1 with _ | ⟨a,_ | ⟨b,_ | ⟨d,_⟩⟩⟩ <;> cases h
 exists (q1 a (by simp)).1,(q1 a (by simp)).2,(q1 b (by simp)).1,(q1 b (by simp)).2,by simp at q2;show sz a+sz b+y2.length+1 < _;omega,q3
def E8 {x:(Ex×Ex×Ex)×Toks} (h:inThree e l= .ok x) (hl:Tks l):gd x.1.1 0/\dep x.1.1<=n/\gd x.1.2.1 0/\dep x.1.2.1<=n/\gd x.1.2.2 0/\dep x.1.2.2<=n/\sz x.1.1+sz x.1.2.1+sz x.1.2.2+x.2.length+1 < l.length/\Tks x.2:=by
 rw [km] at h;obtain ⟨⟨y1,y2⟩,h1,h⟩:=aj h;obtain ⟨q1,q2,q3⟩:=rj he h1 hl;rcases y1 with _ | ⟨a,_ | ⟨b,_ | ⟨d,_ | ⟨f,_⟩⟩⟩⟩ <;> cases h
 exists (q1 a (by simp)).1,(q1 a (by simp)).2,(q1 b (by simp)).1,(q1 b (by simp)).2,(q1 d (by simp)).1,(q1 d (by simp)).2,by simp at q2;show sz a+sz b+sz d+y2.length+1 < _;omega,q3
def yD {p:Nat} {w:Bytes} {x:Ex×Toks} (h:takeSpecial e p w l= .ok x) (hl:Tks l):GE (n+1) 0 l x:=by
 unfold takeSpecial at h;split at h
 . let #[l1,h1,h]:=aj h;let #[a,h2,h]:=aj h;let #[l2,h3,h]:=aj h;have:=aZ h1;have:=qy h2;have:=aZ h3;have t1:=bP h1 nofun hl
   obtain ⟨t2,w2⟩:=yB h2 t1;have t3:=bP h3 nofun t2
   cases h;exists #[U,w2],by simp only [dep];omega,by show 1+l2.length<=_;omega,t3
 . split at h
   . let #[l1,h1,h]:=aj h;let #[a,h2,h]:=aj h;let #[l2,h3,h]:=aj h;have:=aZ h1;have:=qz h2;have:=aZ h3;have t1:=bP h1 nofun hl
     obtain ⟨t2,w2⟩:=yC h2 t1;have t3:=bP h3 nofun t2
     cases h;exists #[U,w2],by simp only [dep];omega,by show 1+l2.length<=_;omega,t3
   . split at h
     . let #[l1,h1,h]:=aj h;let #[a,h2,h]:=aj h;have:=aZ h1;have t1:=bP h1 nofun hl
       obtain ⟨⟨q1,q2,q3,q4⟩,q5⟩:=wd he h2 t1;cases h;exists #[U,q1,q5],eP q2,by show sz a.1+1+a.2.length<=_;omega,q4
     . split at h
       . obtain ⟨a,h1,h⟩:=jz h;obtain ⟨q1,q2,q3,q4,q5,q6⟩:=Dn he h1 hl;cases h;exists #[U,q1,q3],eP (fY.mpr #[q2,q4]),by show sz a.1.1+sz a.1.2+1+a.2.length<=_;omega,q6
       . split at h
         . obtain ⟨a,h1,h⟩:=jz h;obtain ⟨q1,q2,q3,q4,q5,q6,q7,q8⟩:=E8 he h1 hl;cases h;exists #[U,q1,q3,q5],eP (fY.mpr #[q2,fY.mpr #[q4,q6]]),by show sz a.1.1+sz a.1.2.1+sz a.1.2.2+1+a.2.length<=_;omega,q8
         . split at h
           . let #[l1,h1,h]:=aj h;let #[f,h2,h]:=aj h;let #[l2,h3,h]:=aj h;let #[a,h4,h]:=aj h;let #[l3,h5,h]:=aj h;have:=aZ h1;have:=fR h2;have:=aZ h3;have:=aZ h5;have t1:=bP h1 nofun hl
             obtain ⟨t2,w2⟩:=ow h2 t1;have t3:=bP h3 nofun t2
             obtain ⟨q1,q2,q3,q4⟩:=he _ _ h4 t3;have t5:=bP h5 nofun q4
             cases h;exists #[U,w2,q1],eP q2,by show sz a.1+1+l3.length<=_;omega,t5
           . cases h
def Do {p:Nat} {w:Bytes} {x:Ex×Toks} (hw:rN w) (hn:next (.sign 40) l=true) (h:takeCall e p w l= .ok x) (hl:Tks l):GE (n+1) 0 l x:=by
 unfold takeCall at h;split at h
 . obtain ⟨a,h1,h⟩:=jz h;obtain ⟨q1,q2,q3,q4⟩:=Kb he h1 hl;cases h;exists #[U,q1],eP q2,by show sz a.1+1+a.2.length<=_;omega,q4
 . obtain ⟨a,h1,h⟩:=jz h;obtain ⟨q1,q2,q3,q4,q5,q6⟩:=Dn he h1 hl;cases h;exists #[U,q1,q3],eP (fY.mpr #[q2,q4]),by show sz a.1.1+sz a.1.2+1+a.2.length<=_;omega,q6
 . obtain ⟨p0,r0,rfl⟩:=next_ne hn;have t1:Tks r0:=hl.tail nofun
   simp only [List.drop_succ_cons,kQ] at h;split at h
   . rename_i hn2;obtain ⟨p1,r1,rfl⟩:=next_ne hn2;cases h;exists #[U,hw,.inl U],by show 0+1<=n+1;omega,by show 0+1+r1.length<=r1.length+1+1;omega,t1.tail nofun
   . obtain ⟨a,h1,h⟩:=jz h;obtain ⟨q1,q2,q3,q4⟩:=v_ he h1 t1;cases h;exists #[U,hw,q1],eP q2,by show sz a.1+1+a.2.length<=r0.length+1;omega,q4
end
def ox:∀(n:Nat) (l:Toks) (x:Ex×Toks),takeExpr n l= .ok x->Tks l->GE n 0 l x
 | 0,l,x,h,_=>by cases h
 | n+1,l,x,h,hl=>by
  unfold takeExpr at h;split at h
  . cases h;exists #[U,hl.wf],by show 1<=n+1;omega,eQ (kW 1 _),hl.tail nofun
  . rename_i p w r;have hr:Tks r:=hl.tail nofun
    have hw:rN w:=hl.wf.2.2;have lr:(#[p,.name w] :: r:Toks).length=r.length+1:=rfl;split at h
    . cases h;exists U,by show 1<=n+1;omega,eQ (kW 1 _),hr
    . split at h
      . cases h;exists U,by show 1<=n+1;omega,eQ (kW 1 _),hr
      . split at h
        . obtain ⟨q1,q2,q3,q4⟩:=yD (ox n) h hr;exists q1,q2,by omega,q4
        . split at h
          . rename_i hn;obtain ⟨q1,q2,q3,q4⟩:=Do (ox n) hw hn h hr;exists q1,q2,by omega,q4
          . cases h;exists #[U,hw],by show 1<=n+1;omega,eQ (kW 1 _),hr
  . cases h
def wP {l:List Ex} (i:Nat):((l.take i).flatMap subs).length<=(l.flatMap subs).length:=by
 have:l.flatMap subs=(l.take i).flatMap subs++(l.drop i).flatMap subs:=by rw [<-dC,List.take_append_drop]
 rw [this,ao];omega
def sX {l:List Ex} {k:Ex} (h:l[i]? = some k):(l.take (i+1)).flatMap subs=(l.take i).flatMap subs++subs k:=by
 obtain ⟨hl,e⟩:=bj.mp h;rw [ef hl,dC,e];simp
def aV:8388608<=sizeLine:=by decide
def _root_.L2.FL.app (h:FL H a xs) (s:aq H H'):FL H' a xs:=let #[o,e]:=h;#[o,s a _ e]
def HD (n:Nat):SP:=λK c vs H Q _=> ∃v e,vs= [v]/\gd e 0/\dep e<=n/\sz e<=4097/\iq K c H v e/\∀p ws H',aq H H'->H' p=some (.lst ws)->A2 (iq K c H') ws (subs e)->Q (.ref p) H'
abbrev sY (n:Nat):=AA.h0 (n+1) "within" ["expression"] (HD n)
def HE (m:Nat) (Kc:sY AA n) (hm:m=n+1):sY AA m:=by
 nomatch ["expression","found","part"]
 subst hm;obtain ⟨v,e,rfl,hg,hd,hz,hv,q⟩:=h;nomatch 2,1,bE,2,cJ dA,dv Kc ?_,0
 obtain ⟨a,pl,ps,rfl,hN,fp,hA⟩:=hv.view hg;exists _,U,jJ,λD hD=>?_;have s1:=aq.upd (o:= .lst [V.ref a]) hD;obtain ⟨dx,fl,bv,fs,hN,_⟩:=id hN;have hlen:(subs e).length=sz e:=ck e;have hsk:=gj hg;exists _,U,fr (s1 _ _ hN) U ⟨pl,U,#[ps,(fp.app s1).sq],cE (K:=K) (a:=pl) (xs:=ps) (λi σ H'=> ∃v2:Option V,σ= [some (.ref a),some (.ref D),v2]/\aq H H'/\∃ws,H' D=some (.lst ws)/\A2 (iq K c H') ws (e :: ((kids e).take i).flatMap subs))
  #[none,rfl,s1,_,aa,#[hv.Y C s1.Y,au]] (λi σ H' _ #[_,_,s,_]=>(fp.app s).sq) ?_ ?_⟩
 . rintro i x σ H' hi ⟨v2,rfl,s,ws,hw,hA'⟩;obtain ⟨k,hk,hx⟩:=hA.get hi;obtain ⟨hg',hd',hz'⟩:=eB hg k (bc hk);exists _,U,mR hw,_,U,x,k,U,hg',by omega,by omega,hx.Y C s.Y,λp zs H2 s2 hp hz2=>?_;have hw2:=s2 _ _ hw;have hl1:=hA'.len;have hl2:=hz2.len;have ht:=sX hk;have hle:=wP (l:=kids e) (i+1);rw [hsk,aT] at hlen;rw [ht,ao] at hle;rw [aT] at hl1;have dJ:bX c H2 (upd H2 D (.lst (ws++zs))):=bX.upd hw2 rfl;exists D,p,ws,zs,U,U,hw2,hp,by have:=aV;omega,?_;exists some x,U,(s.trans s2).bM hD,_,aa,?_;rw [ht];have:=A2.append (hz2.mono λ_ _ z=>z.Y C dJ) (hA'.mono λ_ _ z=>(z.Y C s2.Y).Y C dJ);exact this
 . rintro σ H' ⟨v2,rfl,s,ws,hw,hA'⟩;exists _,U,q D ws H' s hw ?_;have e1:ps.length=(kids e).length:=hA.len;rw [e1,cM,<-hsk] at hA';exact hA'
def Dq:sY AA 0:=by
 nomatch ["expression","found","part"]
 obtain ⟨v,e,rfl,hg,hd,_⟩:=h;have:=BA hg;omega
def sZ:∀n,sY AA n
 | 0=>Dq AA
 | n+1=>HE AA (n+1) (sZ n) rfl
def E9:SP:=λK c vs H Q _=> ∃v p,vs= [v]/\D' K c H v p/\p.stms.length<=32/\∀a ws H',aq H H'->FL H' a ws->A2 (D_ K c H') ws (p.stms.filter λs=>match s with | .lets _ _ _=>true | .observe _=>false)->Q (.ref a) H'
def yE:AA.h0 1 "lets_of" ["program"] E9:=by
 nomatch ["program","statement"]
 obtain ⟨v,p,rfl,hP,S5,q⟩:=h;nomatch 1,1,ie (bE (ca (pv 0))) [("statement",1)] (λ_ _ _ _ _=>(bL 1)) (λ_ _ _ _ _=>(pv 1)) (ht:=(λ_ _ _ _ _=>(Mb (xX (aM (Hn (K:=K) rfl) (aI (pv 1) (pU (fB AA.Av))))))))
 obtain ⟨a,dx,fl,sl,tl,fs,ss,ts,rfl,ha,f1,A1,f2,zF,f3,A3⟩:=id hP;exists _,U,fr ha U #[sl,U,#[ss,f2.sq],λD hD=>?_];have hlen:=zF.len;refine A_ (K:=K) (a:=sl) (xs:=ss) (λi H'=>aq H H'/\∃ws,H' D=some (.lst ws)/\ws.length<=i/\A2 (D_ K c H') ws ((p.stms.take i).filter λs=>match s with | .lets _ _ _=>true | .observe _=>false)) #[aq.upd hD,[],aa,aw _,au] (λi H' _ p=>(f2.app p.1).sq) ?_ ?_
 . rintro i x H' hi ⟨s,ws,hw,hl,hA'⟩;obtain ⟨st,fU,hx⟩:=zF.get hi;have hx':=hx.Y C s.Y;obtain ⟨hil,W_⟩:=bj.mp fU;have ht:p.stms.take (i+1)=p.stms.take i++ [st]:=by rw [ef hil,W_]
   cases st with
   | lets n k e=>
    obtain ⟨a',zu,wv,ev,rfl,ha',_⟩:=id hx';exists U,_,U,_,_,_,_,U,C.u_ _ _ _ _ ha',C.pM,_,U,nB ?_;have dJ:bX c H' (upd H' D (.lst (ws++ [.ref a']))):=bX.upd hw rfl;exists _,U,ws,hw,by have:=aV;omega,s.bM hD,_,aa,by rw [ao,aC];omega,?_;rw [ht,List.filter_append];exact (hA'.mono λ_ _ z=>z.Y C dJ).snoc (hx'.Y C dJ)
   | observe e=>
    obtain ⟨a',zu,ev,rfl,ha',_⟩:=id hx';exists U,_,U,_,_,_,_,U,C.va _ _ _ _ ha',C.pN,_,U,mQ ?_;exists s,ws,hw,by omega,?_;rw [ht,List.filter_append];show A2 _ _ (_++ []);rw [bH];exact hA'
 . rintro H' ⟨s,ws,hw,hl,hA'⟩;rw [hlen,cM] at hA';exists D,_,U,hw,au,λo=>?_;have dJ:bX c H' (upd H' D (.gR o (.lst ws))):=bX.upd hw rfl;exact q D ws _ (s.bM hD) #[o,aa] (hA'.mono λ_ _ z=>z.Y C dJ)
def tf:SP:=λK c vs H Q _=> ∃v p,vs= [v]/\D' K c H v p/\p.funs.length<=8/\p.stms.length<=32/\∀a ws H',aq H H'->FL H' a ws->A2 (iq K c H') ws (p.funs.map (·.body)++p.stms.map exprOf)->Q (.ref a) H'
def tj:AA.h0 1 "expressions_of" ["program"] tf:=by
 nomatch ["program","bodies","function","statement"]
 obtain ⟨v,p,rfl,hP,h8,S5,q⟩:=h;nomatch 2,nw 1 (bE (ca (pv 0))) [("function",2)] (λ_ _ _ _ _=>(bL 2)) (λ_ _ _ _ _=>(fk (K:=K) rfl (pv 2) rfl)),1,xi,ie (bE (ca (pv 0))) [("statement",3)] (λ_ _ _ _ _=>(bL 3)) (λ_ _ _ _ _=>(fk (K:=K) rfl (pv 3) rfl))
 obtain ⟨a,dx,fl,sl,tl,fs,ss,ts,rfl,ha,f1,A1,f2,zF,f3,A3⟩:=id hP;have l1:=A1.len;have l2:=zF.len;have iW:=aV;exists _,U,fr ha U #[fl,U,#[fs,f1.sq],λD hD=>?_];refine qR (c:=c) (K:=K) (a:=fl) (xs:=fs) (λi y H'=> ∃f,p.funs[i]? = some f/\iq K c H' y f.body) (λi y _ _ im #[f,e,z]=>#[f,e,z.Y C im]) hD f1.sq (by omega) (λi x H1 R hi s1 k=>?_) λH1 ys s1 hy hl hr=>?_
 . obtain ⟨f,hf,hx⟩:=A1.get hi;obtain ⟨a',zu,pl,kv,bv,ps,rfl,ha',_,_,_,hb⟩:=hx.Y C s1.Y;exists U,_,U,fr ha' U (k _ H1 (aq.refl _) #[f,hf,hb])
 have B1:A2 (iq K c H1) ys (p.funs.map (·.body)):=A2.of_get (by rw [hl,aB];exact l1) λi y e=>by
  obtain ⟨f,hf,z⟩:=hr i y e;exists _,by rw [bz,hf];rfl,z
 have ha1:=s1 _ _ ha;exists _,U,_,U,fr ha1 U #[sl,U,#[ss,(f2.app s1).sq],λD2 eN=>?_];have X':H D2=none:=by
  cases z:H D2 with
  | none=>rfl
  | some o=>rw [s1 _ _ z] at eN;cases eN
 refine qR (c:=c) (K:=K) (a:=sl) (xs:=ss) (λi y H'=> ∃f,p.stms[i]? = some f/\iq K c H' y (exprOf f)) (λi y _ _ im #[f,e,z]=>#[f,e,z.Y C im]) eN (f2.app s1).sq (by omega) (λi x H2 R hi s2 k=>?_) λH2 zs s2 hz hl2 hr2=>?_
 . obtain ⟨f,hf,hx⟩:=zF.get hi;have hx:=hx.Y C (s1.trans s2).Y;cases f with
   | lets n kk e=>
    obtain ⟨a',zu,wv,ev,rfl,ha',_,hb⟩:=hx;exists U,_,U,fr ha' U (k _ H2 (aq.refl _) #[_,hf,hb])
   | observe e=>
    obtain ⟨a',zu,ev,rfl,ha',hb⟩:=hx;exists U,_,U,fr ha' U (k _ H2 (aq.refl _) #[_,hf,hb])
 have B2:A2 (iq K c H2) zs (p.stms.map exprOf):=A2.of_get (by rw [hl2,aB];exact l2) λi y e=>by
  obtain ⟨f,hf,z⟩:=hr2 i y e;exists _,by rw [bz,hf];rfl,z
 exists D,D2,ys,zs,U,U,s2 _ _ hy,.inl hz,by omega,λD3 lP=>?_;exists D3,_,U,aa,au,λo=>?_;obtain ⟨s3,W'⟩:=mU (xs:=ys++zs) (o:=o) lP;refine q D3 _ _ ((s1.trans s2).trans s3) W' (A2.append (B2.mono λ_ _ z=>z.Y C s3.Y) (B1.mono λ_ _ z=>z.Y C (s2.trans s3).Y))
def GX (e:Ex):=gd e 0/\dep e<=24/\sz e<=4097
structure GF (f:Fu):Prop where
 nm:rN f.name.name
 pl:f.params.length<=4
 pw:∀d∈f.params,rN d.name.name/\kn d.kind
 rk:kn f.result
 bd:GX f.body
def N9:Stm->Prop
 | .lets n k e=>rN n.name/\(∀k',k=some k'->kn k')/\GX e
 | .observe e=>GX e
structure GP (p:Prog):Prop where
 tt:rN p.title.name
 bg:p.budget<=20
 fl:p.funs.length<=8
 sl:p.stms.length<=32
 tl:p.tells.length<=6
 fn:∀f∈p.funs,GF f
 st:∀s∈p.stms,N9 s
 tw:∀t∈p.tells,rN t.name
def GX.of {x:Ex×Toks} (h:takeExpr 24 l= .ok x) (hl:Tks l) (hz:l.length<=4097):GX x.1/\Tks x.2:=by
 obtain ⟨a,b,d,e⟩:=ox _ _ _ h hl;exists #[a,b,by omega],e
def E_ {x:Decl×Toks} (h:takeDecl l= .ok x) (hl:Tks l):(rN x.1.name.name/\kn x.1.kind)/\Tks x.2:=by
 rw [iw] at h;let #[a,h1,h]:=aj h;let #[k,h2,h]:=aj h;obtain ⟨t1,w1⟩:=gC h1 hl;obtain ⟨t2,w2⟩:=mn h2 t1;cases h;exists #[w1,w2],t2
def zG {x:Decl×Toks} (h:takeDecl l= .ok x):nameNext l=true:=by
 rw [iw] at h;by_cases hn:nameNext l=true
 . exact hn
 . rw [j_ hn] at h;cases h
def tm {t:Tok} (h:next t l=true) (ht:t≠ .halt_) (hl:Tks l):Tks (l.drop 1)/\(l.drop 1).length < l.length:=by
 obtain ⟨p,r,rfl⟩:=next_ne h;exists hl.tail ht,du _
def tq:∀{f k:Nat} {l:Toks} {x:List Decl×Toks},takeParams f k l= .ok x->Tks l->k<=4->(∀d∈x.1,rN d.name.name/\kn d.kind)/\x.1.length+k<=4/\Tks x.2
 | 0,_,_,_,h,_,_=>by cases h
 | f+1,k,l,x,h,hl,hk=>by
  rw [g8] at h;split at h
  . cases h
  . rename_i k9;let #[a,h1,h]:=aj h;obtain ⟨g1,t1⟩:=E_ h1 hl;have hn:=zG h1;have hk:k < 4:=uA λz=>k9 #[hn,z];split at h
    . rename_i hc;let #[r,h2,h]:=aj h;obtain ⟨q1,q2,q3⟩:=tq h2 (tm hc VaprbBase.Tok.noConfusion t1).1 (by omega);cases h;exists λd hd=>?_,by show r.1.length+1+k<=4;omega,q3;rcases aE.mp hd with rfl | hd
      . exact g1
      . exact q1 d hd
    . let #[l2,h2,h]:=aj h;have t2:=bP h2 nofun t1
      cases h;exists λd hd=>?_,by show 1+k<=4;omega,t2;rcases aE.mp hd with rfl | hd
      . exact g1
      . cases hd
def Ke {x:List Decl×Toks} (h:oj l= .ok x) (hl:Tks l):(∀d∈x.1,rN d.name.name/\kn d.kind)/\x.1.length<=4/\Tks x.2:=by
 unfold oj at h;split at h
 . rename_i hn;have:=tm hn VaprbBase.Tok.noConfusion hl;cases h;exists λd hd=>(cU hd).elim,aD _,this.1
 . obtain ⟨a,b,d⟩:=tq h hl (by decide);exists a,by omega,d
def HF {x:Fu×Toks} (h:takeFun l= .ok x) (hl:Tks l) (hz:l.length<=4097):GF x.1/\Tks x.2:=by
 have hsh:=qX h;rw [qW] at h;let #[l1,h1,h]:=aj h;let #[n,h2,h]:=aj h;let #[l2,h3,h]:=aj h;let #[ps,h4,h]:=aj h;let #[k,h5,h]:=aj h;let #[l3,h6,h]:=aj h;let #[e,h7,h]:=aj h;let #[l4,h8,h]:=aj h;have:=aZ h1;have:=d5 h2;have:=aZ h3;have:=Az h4;have:=j5 h5;have:=aZ h6;have t1:=bP h1 nofun hl
 obtain ⟨t2,w2⟩:=gC h2 t1;have t3:=bP h3 nofun t2
 obtain ⟨a4,b4,t4⟩:=Ke h4 t3;obtain ⟨t5,w5⟩:=mn h5 t4;have t6:=bP h6 nofun t5
 obtain ⟨g7,t7⟩:=GX.of h7 t6 (by omega);have t8:=bP h8 nofun t7
 cases h;exists #[w2,b4,a4,w5,g7],t8
def yF:∀{f k:Nat} {l:Toks} {x:List Fu×Toks},takeFuns f k l= .ok x->Tks l->l.length<=4097->k<=8->(∀y∈x.1,GF y)/\x.1.length+k<=8/\Tks x.2/\x.2.length<=l.length
 | 0,_,_,_,h,_,_,_=>by cases h
 | f+1,k,l,x,h,hl,hz,hk=>by
  rw [vZ] at h;split at h
  . cases h;exists λd hd=>(cU hd).elim,by show 0+k<=8;omega,hl,aw _
  . split at h
    . cases h
    . let #[a,h1,h]:=aj h;let #[r,h2,h]:=aj h;obtain ⟨g1,t1⟩:=HF h1 hl hz;have:=qX h1;obtain ⟨q1,q2,q3,q4⟩:=yF h2 t1 (by omega) (by omega);cases h;refine #[λd hd=>?_,by show r.1.length+1+k<=8;omega,q3,by show r.2.length<=_;omega];rcases aE.mp hd with rfl | hd
      . exact g1
      . exact q1 d hd
def HG {x:Option Kd×Toks} (h:j9 l= .ok x) (hl:Tks l):(∀k',x.1=some k'->kn k')/\Tks x.2:=by
 unfold j9 at h;split at h
 . cases h;exists λk e=>absurd e (λz=>by cases z),hl
 . let #[a,h1,h]:=aj h;obtain ⟨t,w⟩:=mn h1 hl;cases h;exists λk e=>by cases e;exact w,t
def HH {x:Stm×Toks} (h:takeStm l= .ok x) (hl:Tks l) (hz:l.length<=4097):N9 x.1/\Tks x.2:=by
 rw [jC] at h;split at h
 . rename_i hn;let #[e,h1,h]:=aj h;let #[l2,h2,h]:=aj h;obtain ⟨t0,z0⟩:=tm hn VaprbBase.Tok.noConfusion hl;obtain ⟨g1,t1⟩:=GX.of h1 t0 (by omega);have t2:=bP h2 nofun t1
   cases h;exists g1,t2
 . let #[l1,h1,h]:=aj h;let #[n,h2,h]:=aj h;let #[k,h3,h]:=aj h;let #[l2,h4,h]:=aj h;let #[e,h5,h]:=aj h;let #[l3,h6,h]:=aj h;have:=aZ h1;have:=d5 h2;have:=yt h3;have:=aZ h4;have t1:=bP h1 nofun hl
   obtain ⟨t2,w2⟩:=gC h2 t1;obtain ⟨w3,t3⟩:=HG h3 t2;have t4:=bP h4 nofun t3
   obtain ⟨g5,t5⟩:=GX.of h5 t4 (by omega);have t6:=bP h6 nofun t5
   cases h;exists #[w2,w3,g5],t6
def BD {x:Stm×Toks} (h:takeStm l= .ok x):(next (.name (word "let")) l || next (.name (word "observe")) l)=true:=by
 rw [jC] at h;by_cases ho:next (.name (word "observe")) l=true
 . rw [ho,Bool.or_true]
 . rw [ae ho] at h;let #[l1,e6,_]:=aj h;obtain ⟨p,rfl⟩:=xl e6;rfl
def yG:∀{f k:Nat} {l:Toks} {x:List Stm×Toks},takeStms f k l= .ok x->Tks l->l.length<=4097->k<=32->(∀y∈x.1,N9 y)/\x.1.length+k<=32/\Tks x.2/\x.2.length<=l.length
 | 0,_,_,_,h,_,_,_=>by cases h
 | f+1,k,l,x,h,hl,hz,hk=>by
  rw [om] at h;split at h
  . cases h;exists λd hd=>(cU hd).elim,by show 0+k<=32;omega,hl,aw _
  . split at h
    . cases h
    . rename_i k9;let #[a,h1,h]:=aj h;let #[r,h2,h]:=aj h;obtain ⟨g1,t1⟩:=HH h1 hl hz;have:=qY h1;have hk:k < 32:=uA λz=>k9 #[BD h1,z];obtain ⟨q1,q2,q3,q4⟩:=yG h2 t1 (by omega) (by omega);cases h;refine #[λd hd=>?_,by show r.1.length+1+k<=32;omega,q3,by show r.2.length<=_;omega];rcases aE.mp hd with rfl | hd
      . exact g1
      . exact q1 d hd
def we:∀{f k:Nat} {l:Toks} {x:List PName},takeTells f k l= .ok x->Tks l->k<=6->(∀y∈x,rN y.name)/\x.length+k<=6
 | 0,_,_,_,h,_,_=>by cases h
 | f+1,k,l,x,h,hl,hk=>by
  rw [mj] at h;split at h
  . cases h
  . rename_i k9;let #[a,h1,h]:=aj h;obtain ⟨t1,w1⟩:=gC h1 hl;have hn:nameNext l=true:=by
     by_cases hn:nameNext l=true
     . exact hn
     . rw [j_ hn] at h1;cases h1
    have hk:k < 6:=uA λz=>k9 #[hn,z];split at h
    . cases h;refine #[λd hd=>?_,by show 1+k<=6;omega];rcases aE.mp hd with rfl | hd
      . exact w1
      . cases hd
    . let #[l2,h2,h]:=aj h;let #[r,h3,h]:=aj h;have t2:=bP h2 nofun t1
      obtain ⟨q1,q2⟩:=we h3 t2 (by omega);cases h;refine #[λd hd=>?_,by show r.length+1+k<=6;omega];rcases aE.mp hd with rfl | hd
      . exact w1
      . exact q1 d hd
def Fa (h:takeProg l= .ok p) (hl:Tks l) (hz:l.length<=4097):GP p:=by
 rw [v8] at h;let #[l1,h1,h]:=aj h;let #[t,h2,h]:=aj h;let #[b,h3,h]:=aj h;let #[fs,h4,h]:=aj h;let #[ss,h5,h]:=aj h;let #[l2,h6,h]:=aj h;let #[ts,h7,h]:=aj h;have:=aZ h1;have:=d5 h2;have t1:=bP h1 nofun hl
 obtain ⟨t2,w2⟩:=gC h2 t1;have hb:b.1<=20/\Tks b.2/\b.2.length<=t.2.length:=by
  rw [qA] at h3;split at h3
  . rename_i hn;let #[n,h8,h3]:=aj h3;obtain ⟨t0,z0⟩:=tm hn VaprbBase.Tok.noConfusion t2;have:=fW h8;have t8:=(eW h8 t0).1;split at h3
    . cases h3
    . cases h3;exists by show n.1.2.toNat<=20;omega,t8,by show n.2.length<=_;omega
  . cases h3;exists aD _,t2,aw _
 obtain ⟨b1,b2,b3⟩:=hb;obtain ⟨f1,f2,f3,f4⟩:=yF h4 b2 (by omega) (by decide);obtain ⟨s1,s2,s3,s4⟩:=yG h5 f3 (by omega) (by decide);have t6:=bP h6 nofun s3
 obtain ⟨q1,q2⟩:=we h7 t6 (by decide);cases h;exists w2,b1,by show fs.1.length<=8;omega,by show ss.1.length<=32;omega,by show ts.length<=6;omega,f1,s1,q1
def nk (n:Bytes):Key:= .inr (aR n)
def BE {a:Bytes} (h:nk a=nk b):a=b:=lw (Sum.inr.inj h)
def PN (H:Hp) (d:Addr) (scope:List Bytes):= ∃aG,Rd H d (.dK aG)/\∀n,(cy aG (nk n)).isSome=scope.contains n
def PN.same {d:Addr} (h:PN H d scope) (s:aq H H'):PN H' d scope:=by
 obtain ⟨aG,r,k⟩:=h;exists aG,?_,k;rcases r with e | ⟨o,e⟩
 . exact .inl (s _ _ e)
 . exact .inr #[o,s _ _ e]
def FD (H:Hp) (d:Addr) (aG:List (Key×V)):= ∃o,H d=some (.gR o (.dK aG))
def FD.Y {d:Addr} (h:FD H d aG) (i:bX c H H'):FD H' d aG:=let #[o,e]:=h;#[o,i _ _ e rfl]
def FD.rd {d:Addr} (h:FD H d aG):Rd H d (.dK aG):= .inr h
def Kf (K:Frag) (c:Cl) (H:Hp):Option Fu->Option V->Prop
 | none,none=>True
 | some f,some v=>E4 K c H v f
 | _,_=>False
def Kg (K:Frag) (c:Cl) (H:Hp) (d:Addr) (funs:List Fu):= ∃aG,FD H d aG/\∀n,Kf K c H (funs.find? λx=>x.name.name == n) (cy aG (nk n))
def Kf.Y {f:Option Fu} {v:Option V} (C:CT K c) (h:Kf K c H f v) (i:bX c H H'):Kf K c H' f v:=by
 cases f <;> cases v <;> first | exact h | exact E4.Y C h i
def Kg.Y {d:Addr} {funs:List Fu} (C:CT K c) (h:Kg K c H d funs) (i:bX c H H'):Kg K c H' d funs:=let #[aG,f,r]:=h;#[aG,f.Y i,λn=>(r n).Y C i]
def gD (p:Prog) (q:Nat) (f:Bytes) (x:Ex):Except Fault Unit:=match p.fun f with
 | none=> .error #[6,q]
 | some g=>if x.count≠g.params.length then .error #[13,q] else .ok ()
def Fb (p:Prog) (scope:List Bytes):Ex->Except Fault Unit
 | .name q n=>if scope.contains n=true then .ok () else .error #[6,q]
 | .call q f x=>gD p q f x
 | .pick q x=>if (x.weights.all λw=>w.num == 0)=true then .error #[11,q] else .ok ()
 | _=> .ok ()
def dw (p:Prog) (scope:List Bytes):List Ex->Except Fault Unit
 | []=> .ok ()
 | e :: r=>Fb p scope e >>= λ_=>dw p scope r
def dN (p:Prog) (scope:List Bytes):∀a b:List Ex,dw p scope (a++b)=(dw p scope a >>= λ_=>dw p scope b)
 | [],b=>rfl
 | e :: r,b=>by
  show (Fb p scope e >>= λ_=>dw p scope (r++b))=((Fb p scope e >>= λ_=>dw p scope r) >>= λ_=>dw p scope b);rw [bn];exact aS λ_=>dN p scope r b
def cw (p:Prog) (scope:List Bytes):∀e:Ex,named p scope e=dw p scope (subs e)
 | .lit _ _=>rfl
 | .name q n=>by show (if _ then _ else _)=((if _ then _ else _) >>= _);split <;> rfl
 | .un _ _ a=>cw p scope a
 | .bin _ _ a b=>by
  show (named p scope a >>= λ_=>named p scope b)=dw p scope (subs a++subs b);rw [dN,cw p scope a,cw p scope b]
 | .flip _ _=>rfl
 | .uniform _ _ _=>rfl
 | .cond _ d a b=>by
  show (named p scope d >>= λ_=>named p scope a >>= λ_=>named p scope b)=dw p scope (subs d++(subs a++subs b));rw [dN,dN,cw p scope a,cw p scope b,cw p scope d]
 | .given _ d a=>by
  show (named p scope d >>= λ_=>named p scope a)=dw p scope (subs d++subs a);rw [dN,cw p scope a,cw p scope d]
 | .weigh _ _ a=>cw p scope a
 | .call q f x=>by
  show (match p.fun f with | none=> .error #[6,q] | some g=>if x.count≠g.params.length then .error #[13,q] else named p scope x)=(Fb p scope (.call q f x) >>= λ_=>dw p scope (subs x));rw [cw p scope x];show _=(gD p q f x >>= λ_=>dw p scope (subs x));unfold gD;cases p.fun f with
  | none=>rfl
  | some g=>
   show (if _ then _ else _)=((if _ then _ else _) >>= _);split <;> rfl
 | .pick q x=>by
  show (if (x.weights.all λw=>w.num == 0)=true then .error #[11,q] else named p scope x)=((if (x.weights.all λw=>w.num == 0)=true then .error #[11,q] else .ok ()) >>= λ_=>dw p scope (subs x));rw [cw p scope x];split <;> rfl
 | .nil=>rfl
 | .arg a r=>by
  show (named p scope a >>= λ_=>named p scope r)=dw p scope (subs a++subs r);rw [dN,cw p scope a,cw p scope r]
 | .way a _ r=>by
  show (named p scope a >>= λ_=>named p scope r)=dw p scope (subs a++subs r);rw [dN,cw p scope a,cw p scope r]
def lF {s:Nat} (hs:s≠0):∀{x:Ex},gd x s->(eK x).length=x.count
 | .nil,_=>rfl
 | .arg a r,h=>bA (· +1) (lF (by decide) h.2.2)
 | .way a _ r,h=>bA (· +1) (lF (by decide) h.2.2.2)
 | .lit _ (.num _),h=>absurd h.1 hs
 | .lit _ (.flag _),h=>absurd h hs
 | .name _ _,h=>absurd h.1 hs
 | .un _ _ _,h=>absurd h.1 hs
 | .bin _ _ _ _,h=>absurd h.1 hs
 | .flip _ _,h=>absurd h.1 hs
 | .uniform _ _ _,h=>absurd h.1 hs
 | .cond _ _ _ _,h=>absurd h.1 hs
 | .given _ _ _,h=>absurd h.1 hs
 | .weigh _ _ _,h=>absurd h.1 hs
 | .call _ _ _,h=>absurd h.1 hs
 | .pick _ _,h=>absurd h.1 hs
def cZ {s:Nat}:∀{e:Ex},gd e s->∀k∈subs e,gd k 0
 | .nil,_,k,hk=>by cases hk
 | .arg a r,h,k,hk=>by rcases ci.mp hk with hk | hk;exact cZ h.2.1 k hk;exact cZ h.2.2 k hk
 | .way a _ r,h,k,hk=>by rcases ci.mp hk with hk | hk;exact cZ h.2.1 k hk;exact cZ h.2.2.2 k hk
 | .lit _ (.num _),h,k,hk=>by rcases aE.mp hk with rfl | hk;exists U,h.2;cases hk
 | .lit _ (.flag _),h,k,hk=>by rcases aE.mp hk with rfl | hk;exact rfl;cases hk
 | .name _ _,h,k,hk=>by rcases aE.mp hk with rfl | hk;exists U,h.2;cases hk
 | .flip _ _,h,k,hk=>by rcases aE.mp hk with rfl | hk;exists U,h.2;cases hk
 | .uniform _ _ _,h,k,hk=>by rcases aE.mp hk with rfl | hk;exists U,h.2;cases hk
 | .un _ _ _,h,k,hk=>by rcases aE.mp hk with rfl | hk;exists U,h.2;exact cZ h.2 k hk
 | .weigh _ _ _,h,k,hk=>by rcases aE.mp hk with rfl | hk;exists U,h.2;exact cZ h.2.2 k hk
 | .call _ _ _,h,k,hk=>by rcases aE.mp hk with rfl | hk;exists U,h.2;exact cZ h.2.2 k hk
 | .pick _ _,h,k,hk=>by rcases aE.mp hk with rfl | hk;exists U,h.2;exact cZ h.2.1 k hk
 | .bin _ _ _ _,h,k,hk=>by
  rcases aE.mp hk with rfl | hk
  . exists U,h.2
  . rcases ci.mp hk with hk | hk;exact cZ h.2.1 k hk;exact cZ h.2.2 k hk
 | .given _ _ _,h,k,hk=>by
  rcases aE.mp hk with rfl | hk
  . exists U,h.2
  . rcases ci.mp hk with hk | hk;exact cZ h.2.1 k hk;exact cZ h.2.2 k hk
 | .cond _ _ _ _,h,k,hk=>by
  rcases aE.mp hk with rfl | hk
  . exists U,h.2
  . rcases ci.mp hk with hk | hk
    . exact cZ h.2.1 k hk
    . rcases ci.mp hk with hk | hk;exact cZ h.2.2.1 k hk;exact cZ h.2.2.2 k hk
def dZ {l:List α} {k:α} (h:l[i]? = some k):l.drop i=k :: l.drop (i+1):=by
 obtain ⟨hl,e⟩:=bj.mp h;rw [tW hl,e]
def jF {l:List α} {k:α} (h:l[i]? = some k):l.take (i+1)=l.take i++ [k]:=by
 obtain ⟨hl,e⟩:=bj.mp h;rw [ef hl,e]
def HI (p:Prog) (scope:List Bytes) {k:Ex} (g:gd k 0):(∃q n,k= .name q n)\/(∃q f x,k= .call q f x)\/(∃q x,k= .pick q x)\/(Fb p scope k= .ok ()/\decide (V.str (eF k)=V.str "name")=false/\decide (V.str (eF k)=V.str "call")=false/\decide (V.str (eF k)=V.str "pick")=false):=by
 cases k with
 | nil=>rcases g with g | g <;> cases g
 | arg a r=>exact absurd g.1 (by decide)
 | way a w r=>exact absurd g.1 (by decide)
 | name q n=>exact .inl #[q,n,rfl]
 | call q f x=>exact .inr (.inl #[q,f,x,rfl])
 | pick q x=>exact .inr (.inr (.inl #[q,x,rfl]))
 | lit q v=>cases v <;> exact .inr (.inr (.inr #[rfl,rfl,rfl,rfl]))
 | _=>exact .inr (.inr (.inr #[rfl,rfl,rfl,rfl]))
def wg:∀{x:Ex} {s:Nat},gd x s->x.weights.length<=sz x
 | .way a w r,s,h=>by
  have h1:=wg h.2.2.2;have h2:=BC h.2.1;show r.weights.length+1<=sz a+sz r;omega
 | .nil,_,_=>aD _
 | .arg _ _,_,_=>aD _
 | .lit _ _,_,_=>aD _
 | .name _ _,_,_=>aD _
 | .un _ _ _,_,_=>aD _
 | .bin _ _ _ _,_,_=>aD _
 | .flip _ _,_,_=>aD _
 | .uniform _ _ _,_,_=>aD _
 | .cond _ _ _ _,_,_=>aD _
 | .given _ _ _,_,_=>aD _
 | .weigh _ _ _,_,_=>aD _
 | .call _ _ _,_,_=>aD _
 | .pick _ _,_,_=>aD _
def fo:∀{e k:Ex},k∈subs e->sz k<=sz e
 | .nil,k,hk=>by cases hk
 | .arg a r,k,hk=>by rcases ci.mp hk with hk | hk;exact aP (fo hk) (dS _ _);exact aP (fo hk) (pf _ _)
 | .way a _ r,k,hk=>by rcases ci.mp hk with hk | hk;exact aP (fo hk) (dS _ _);exact aP (fo hk) (pf _ _)
 | .lit _ _,k,hk=>by rcases aE.mp hk with rfl | hk;exact aw _;cases hk
 | .name _ _,k,hk=>by rcases aE.mp hk with rfl | hk;exact aw _;cases hk
 | .flip _ _,k,hk=>by rcases aE.mp hk with rfl | hk;exact aw _;cases hk
 | .uniform _ _ _,k,hk=>by rcases aE.mp hk with rfl | hk;exact aw _;cases hk
 | .un _ _ _,k,hk=>by rcases aE.mp hk with rfl | hk;exact aw _;exact o5 (fo hk)
 | .weigh _ _ _,k,hk=>by rcases aE.mp hk with rfl | hk;exact aw _;exact o5 (fo hk)
 | .call _ _ _,k,hk=>by rcases aE.mp hk with rfl | hk;exact aw _;exact o5 (fo hk)
 | .pick _ _,k,hk=>by rcases aE.mp hk with rfl | hk;exact aw _;exact o5 (fo hk)
 | .bin _ _ a b,k,hk=>by
  rcases aE.mp hk with rfl | hk
  . exact aw _
  . show _<=sz a+sz b+1;rcases ci.mp hk with hk | hk <;> have:=fo hk <;> omega
 | .given _ d a,k,hk=>by
  rcases aE.mp hk with rfl | hk
  . exact aw _
  . show _<=sz d+sz a+1;rcases ci.mp hk with hk | hk <;> have:=fo hk <;> omega
 | .cond _ d a b,k,hk=>by
  rcases aE.mp hk with rfl | hk
  . exact aw _
  . show _<=sz d+sz a+sz b+1;rcases ci.mp hk with hk | hk
    . have:=fo hk;omega
    . rcases ci.mp hk with hk | hk <;> have:=fo hk <;> omega
def FD.get {d:Addr} (h:FD H d aG) (n:Bytes):r9 H d (.str (aR n)) (cy aG (nk n)):= .inl #[aG,nk n,h.rd,rfl,rfl]
def _root_.L2.Rd.get {d:Addr} (h:Rd H d (.dK aG)) (n:Bytes):r9 H d (.str (aR n)) (cy aG (nk n)):= .inl #[aG,nk n,h,rfl,rfl]
def qC (l:List Bytes) (x n:Bytes):(l++ [x]).contains n=(if n=x then true else l.contains n):=by
 rw [b9,eh,ci,ej];split
 . rename_i h;exists λ_=>U,λ_=> .inr h
 . rename_i h;rw [eh];exists λz=>z.elim id λz=>absurd z h,.inl
def tu {l:List Bytes} {x:Bytes} (h:∀n,(cy aG (nk n)).isSome=l.contains n):∀n,(cy (putK aG (nk x) v) (nk n)).isSome=(l++ [x]).contains n:=λn=>by
 rw [r6,qC,<-h n];by_cases e:n=x
 . rw [ah (by rw [e]),ah e];rfl
 . rw [ae (λz=>e (BE z)),ae e]
def oy:SP:=λK c vs H Q _=> ∃fl fs funs,vs= [.ref fl]/\FL H fl fs/\A2 (E4 K c H) fs funs/\funs.length<=8/\∀d H',aq H H'->Kg K c H' d funs->Q (.ref d) H'
def eX:AA.h0 1 "functions_by_name" ["functions"] oy:=by
 nomatch ["functions","named","function"]
 obtain ⟨fl,fs,funs,rfl,f1,hA,h8,q⟩:=h;nomatch 2,1,jn,bE,2,gr (pI (qi hr)) ?_ ?_,lX (pv 1) (ca (pv 2)) (pv 2),1
 intro D hD;have s1:=aq.upd (o:= .dK []) hD;exists _,U,fl,U,#[fs,(f1.app s1).sq],cE (K:=K) (a:=fl) (xs:=fs) (λi σ H'=> ∃v2:Option V,σ= [some (.ref fl),some (.ref D),v2]/\aq H H'/\∃aG,H' D=some (.dK aG)/\aG.length<=i/\∀n,Kf K c H' ((funs.take i).find? λx=>x.name.name == n) (cy aG (nk n)))
  #[none,rfl,s1,[],aa,aw _,λn=>au] (λi σ H' _ #[_,_,s,_]=>(f1.app s).sq) ?_ ?_
 . rintro i x σ H' hi ⟨v2,rfl,s,aG,hk,hl,hr⟩;obtain ⟨f,hf,hx⟩:=hA.get hi;have hil:i < fs.length:=(bj.mp hi).1;have hlen:=hA.len;have ht:=jF hf;have hx':=hx.Y C s.Y;obtain ⟨a,dx,pl,kv,bv,ps,rfl,ha,_⟩:=id hx';exists _,U,fr ha U #[_,U,D,_,U,Rd.get (.inl hk) f.name.name,_,U,?_];have PP:=hr f.name.name;cases hv:cy aG (nk f.name.name) with
   | none=>
    refine bD rfl ?_;exists _,U,_,U,_,U,fr ha U #[D,_,U,uU.k (k:=nk f.name.name) hk (by have:=aV;omega),?_];have dJ:bX c H' (upd H' D (.dK (putK aG (nk f.name.name) (.ref a)))):=bX.upd hk rfl;exists _,U,s.bM hD,_,aa,aP (dk _ _ _) (by omega),λn=>?_;rw [ht,uv,r6];rw [hv] at PP;by_cases e:n=f.name.name
    . subst e;rw [ah rfl];cases hq:(funs.take i).find? λx=>x.name.name == f.name.name with
      | some z=>rw [hq] at PP;exact PP.elim
      | none=>
       have: [f].find? (λx=>x.name.name == f.name.name)=some f:=by rw [dU,kH]
       rw [this];exact hx'.Y C dJ
    . rw [ae (λz=>e (BE z))];have: [f].find? (λx=>x.name.name == n)=none:=by rw [dU,bS.mpr (bY e)];rfl
      rw [this,pk];exact (hr n).Y C dJ
   | some v=>
    refine aF rfl ?_;exists _,U,s,aG,hk,by omega,λn=>?_;rw [ht,uv];by_cases e:n=f.name.name
    . subst e;cases hq:(funs.take i).find? λx=>x.name.name == f.name.name with
      | none=>rw [hq,hv] at PP;exact PP.elim
      | some z=>rw [hq] at PP;exact PP
    . have: [f].find? (λx=>x.name.name == n)=none:=by rw [dU,bS.mpr (bY e)];rfl
      rw [this,pk];exact hr n
 . rintro σ H' ⟨v2,rfl,s,aG,hk,hl,hr⟩;rw [hA.len,cM] at hr;exists _,U,D,_,U,hk,au,λo=>?_;have dJ:bX c H' (upd H' D (.gR o (.dK aG))):=bX.upd hk rfl;exact q D _ (s.bM hD) #[aG,#[o,aa],λn=>(hr n).Y C dJ]
def vq:SP:=λK c vs H Q E=> ∃a pl q x,vs= [.ref a]/\Node K c H a pl (.pick q x)/\x.weights.length<=4097/\aN c.cf E H (if (x.weights.all λw=>w.num == 0)=true then .error #[11,q] else .ok ()) (λ_=> ∀H',aq H H'->Q .cp H')
def vt:AA.hF 4 "check_weights" ["pick"] vq:=by
 nomatch ["pick","weight"]
 obtain ⟨a,pl,qp,x,rfl,⟨dx,fl,bv,fs,hN,_,ff,hA⟩,hz,q⟩:=h;nomatch 1,aM (O1 rfl) ?_,ie (bE (ca (pv 0))) [("weight",1)] (λ_ _ _ _ _=>(bL 1)) (λ_ _ _ _ _=>(FZ bK (NF (Mv (K:=K) rfl) (pv 1) uJ) uJ))
 have hlen:=hA.len;have iW:=aV;have hw:Dd (.pick qp x)=x.weights:=rfl;rw [hw] at hA hlen;exists _,U,fr hN U #[fl,U,#[fs,ff.sq],λD hD=>jw (K:=K) (a:=fl) (x.weights.map λf=>V.bl (decide (V.int f.num=V.int 0))) (by rw [aB];exact hlen.symm) hD ff.sq (by omega) (λi v y H2 R hv hy s2 kk=>?_) λH2 s2 e2=>?_]
 . obtain ⟨f,hf,b,rfl,hb⟩:=hA.get hv;have hy':y=V.bl (decide (V.int f.num=V.int 0)):=by rw [bz,hf] at hy;exact (bF hy).symm
   subst hy';exists U,_,U,b,_,_,_,U,U,.inl (.inl (s2 _ _ hb)),U,U,kk H2 (aq.refl _)
 . have he:(x.weights.map λf=>decide (V.int f.num=V.int 0)).all id=(x.weights.all λw=>w.num == 0):=by
    rw [List.all_map];congr 1;funext f;show decide (V.int f.num=V.int 0)=(f.num == 0);rw [b9,dr,bO];exists λz=>V.int.inj z,λz=>by rw [z]
   exists D,x.weights.map λf=>decide (V.int f.num=V.int 0),U,cz.of (by rw [e2,c9];rfl),_,U,?_;rw [he];refine bG (λe3=>?_) λe3=>?_
   . rw [ah e3] at q;exists _,U,fr (s2 _ _ hN) U #[_,_,U,jo.go q s2]
   . rw [ae (by rw [e3];exact aO)] at q;exact q H2 s2
def zH:SP:=λK c vs H Q E=> ∃a pl ps q f x nd p,vs= [.ref a,.ref nd]/\Node K c H a pl (.call q f x)/\FL H pl ps/\ps.length=x.count/\Kg K c H nd p.funs/\aN c.cf E H (gD p q f x) (λ_=>Q .cp H)
def zI:AA.hF 4 "check_call" ["call","named"] zH:=by
 nomatch ["call","named"]
 obtain ⟨a,pl,ps,qp,fn,x,nd,p,rfl,⟨dx,fl,bv,fs,hN,_⟩,fp,hlen,⟨aG,fd',hr'⟩,q⟩:=h;nomatch 2,gr (pI (qi hr)) ?_ ?_,Ad,aM aJ,aM aJ,g6 (pv 1) (ca (pv 0))
 unfold gD Vaprbb.Prog.fun at q;have hrn:=hr' fn;exists _,U,fr hN U #[_,U,nd,_,U,fd'.get fn,_,U,?_];cases hq:p.funs.find? λx=>x.name.name == fn with
 | none=>
  rw [hq] at hrn q;cases hv:cy aG (nk fn) with
  | some v=>rw [hv] at hrn;exact hrn.elim
  | none=>
   refine bD rfl ?_;exists _,U,fr hN U #[_,_,U,jo.go q (aq.refl _)]
 | some f=>
  rw [hq] at hrn q;cases hv:cy aG (nk fn) with
  | none=>rw [hv] at hrn;exact hrn.elim
  | some v=>
   rw [hv] at hrn;refine aF rfl ?_;obtain ⟨a',zu,Xa,kv,Ya,ps',rfl,ha',fp',hA',_⟩:=hrn;exists _,U,fr hN U #[pl,_,U,.inl fp.sq,_,U,_,U,fr hN U #[nd,_,U,hv ▸ fd'.get fn,fr ha' U #[Xa,_,U,.inl fp'.sq,U,_,U,?_]]];have hl':=hA'.len;have q:aN c.cf E H (if x.count≠f.params.length then .error #[13,qp] else .ok ()) (λ_=>Q .cp H):=q;refine bG (λe3=>?_) λe3=>?_
   . rw [ah (λz=>by rw [hlen,hl',z] at e3;simp at e3)] at q;exists _,U,fr hN U #[_,_,U,jo.go q (aq.refl _)]
   . rw [ae (λz=>by
      have:(ps.length:Int)=(ps'.length:Int):=by simpa using e3
      apply z;omega)] at q
     exact q
def qb:SP:=λK c vs H Q E=> ∃v e d nd scope p,vs= [v,.ref d,.ref nd]/\GX e/\iq K c H v e/\PN H d scope/\Kg K c H nd p.funs/\aN c.cf E H (named p scope e) (λ_=> ∀H',aq H H'->Q .cp H')
def fE:AA.hF 26 "check_expression" ["expression","known","named"] qb:=by
 nomatch ["expression","known","named","inner"]
 obtain ⟨v,e,d,nd,scope,p,rfl,⟨hg,hd,hz⟩,hv,hk,hn,q⟩:=h;nomatch 1,bE,dv (sZ AA 24) ?_,3,bK,gr (pI (qi hr)) ?_ ?_,bK,zI,bK,vt
 rw [cw] at q;exists _,U,v,e,U,hg,hd,hz,hv,λpw ws H1 s1 hp hA=>?_;exists pw,U,#[ws,cz.of hp],cE (K:=K) (a:=pw) (xs:=ws) (λi σ H'=> ∃v3:Option V,σ= [some v,some (.ref d),some (.ref nd),v3]/\aq H1 H'/\aN c.cf E H (dw p scope ((subs e).drop i)) (λ_=> ∀H',aq H H'->Q .cp H'))
  #[none,rfl,aq.refl _,q] (λi σ H' _ #[_,_,s,_]=>cz.of (s _ _ hp)) ?_ ?_
 . rintro i x σ H' hi ⟨v3,rfl,s,q⟩;obtain ⟨k,hk',hx⟩:=hA.get hi;have ML:=cZ hg k (bc hk');have sH:=s1.trans s;have hx:=hx.Y C s.Y;rw [dZ hk'] at q;have q:aN c.cf E H (Fb p scope k >>= λ_=>dw p scope ((subs e).drop (i+1))) (λ_=> ∀H',aq H H'->Q .cp H'):=q;obtain ⟨a,pl,ps,rfl,hN,fp,VR⟩:=hx.view ML;obtain ⟨dx,fl,bv,fs,hN',hN2⟩:=id hN;have hk:=hk.same sH;have hn:=hn.Y C sH.Y;exists _,U,fr hN' U #[U,_,U,?_];rcases HI p scope ML with ⟨qp,n,rfl⟩ | ⟨qp,f,y,rfl⟩ | ⟨qp,y,rfl⟩ | ⟨hc,f1,f2,f3⟩
   . refine bD rfl ?_;obtain ⟨aG,hrd,hkv⟩:=hk;exists _,U,fr hN' U #[_,U,d,_,U,hrd.get n,_,U,?_];rw [hkv n];have q:aN c.cf E H ((if scope.contains n=true then .ok () else .error #[6,qp]) >>= λ_=>dw p scope ((subs e).drop (i+1))) (λ_=> ∀H',aq H H'->Q .cp H'):=q;by_cases hc:scope.contains n=true
     . rw [ah hc] at q;refine aF (by rw [hc];rfl) ?_;exists _,U,fr hN' U #[U,_,U,aF U ?_];exists _,U,fr hN' U #[U,_,U,aF U #[_,U,s,q]]
     . rw [ae hc] at q;refine bD (by rw [uB] at hc;rw [hc];rfl) ?_;exists _,U,fr hN' U #[_,_,U,jo.go q sH]
   . refine aF rfl (aF rfl ?_);exists _,U,fr hN' U #[U,_,U,bD U ?_];have q:aN c.cf E H (gD p qp f y >>= λ_=>dw p scope ((subs e).drop (i+1))) (λ_=> ∀H',aq H H'->Q .cp H'):=q;exists _,U,_,U,a,pl,ps,qp,f,y,nd,p,U,hN,fp,VR.len.trans (lF (by decide) ML.2.2),hn,?_;cases hcc:gD p qp f y with
     | error z=>rw [hcc] at q;exact jo.on q sH
     | ok _=>
      rw [hcc] at q;exists _,U,fr hN' U #[U,_,U,aF U #[_,U,s,q]]
   . refine aF rfl (aF rfl ?_);exists _,U,fr hN' U #[U,_,U,aF U ?_];exists _,U,fr hN' U #[U,_,U,bD U ?_];have q:aN c.cf E H ((if (y.weights.all λw=>w.num == 0)=true then .error #[11,qp] else .ok ()) >>= λ_=>dw p scope ((subs e).drop (i+1))) (λ_=> ∀H',aq H H'->Q .cp H'):=q;exists _,U,a,pl,qp,y,U,hN,?_,?_
     . have h1:=fo (bc hk');have h2:=wg ML.2.1;have h3:sz (.pick qp y)=sz y+1:=rfl;omega
     . by_cases hw:(y.weights.all λw=>w.num == 0)=true
       . rw [ah hw] at q ⊢;exact jo.on q sH
       . rw [ae hw] at q ⊢;exact λH2 s2=>#[_,rfl,s.trans s2,q]
   . refine aF f1 (aF rfl ?_);exists _,U,fr hN' U #[U,_,U,aF f2 ?_];exists _,U,fr hN' U #[U,_,U,aF f3 #[_,U,s,?_]];rw [hc] at q;exact q
 . rintro σ H' ⟨v3,rfl,s,q⟩;rw [hA.len,fK] at q;exact q H' (s1.trans s)
def Gz (H:Hp) (d:Addr) (scope:List Bytes):= ∃aG,FD H d aG/\∀n,(cy aG (nk n)).isSome=scope.contains n
def Gz.s {d:Addr} (h:Gz H d scope):PN H d scope:=let #[aG,f,k]:=h;#[aG,f.rd,k]
def Gz.Y {d:Addr} (h:Gz H d scope) (i:bX c H H'):Gz H' d scope:=let #[aG,f,k]:=h;#[aG,f.Y i,k]
def aq.dict (s:aq H H') (hD:H D=none):aq H (upd H' D o):=s.bM hD
def Kh:(cy wB (.inr (aR b))).isSome=true↔((unOf b).isSome=true\/(binOf b).isSome=true):=by
 rw [xo];cases unOf b <;> cases binOf b <;> simp
def zJ:SP:=λK c vs H Q E=> ∃tl ts tells d scope,vs= [.ref tl,.ref d]/\FL H tl ts/\A2 (JV c H) ts tells/\tells.length<=6/\PN H d scope/\aN c.cf E H (tellsRight scope [] tells) (λ_=> ∀H',aq H H'->Q .cp H')
def zK:AA.hF 4 "check_told" ["told","lets"] zJ:=by
 nomatch ["told","lets","earlier","token"]
 obtain ⟨tl,ts,tells,d,scope,rfl,ft,hA,h6,hk,q⟩:=h;nomatch 2,2,jn,bE,3,gr (pI (qi hr)) ?_ ?_,gr (Bd (qi hr)) ?_ ?_,lX (pv 2) (ca (pv 3)) Cm
 intro D hD;have s1:=aq.upd (o:= .dK []) hD;exists _,U,tl,U,#[ts,(ft.app s1).sq],cE (K:=K) (a:=tl) (xs:=ts) (λi σ H'=> ∃v2:Option V,σ= [some (.ref tl),some (.ref d),some (.ref D),v2]/\aq H H'/\∃aG,H' D=some (.dK aG)/\aG.length<=i/\(∀n,(cy aG (nk n)).isSome=((tells.take i).map (·.name)).contains n)/\aN c.cf E H (tellsRight scope ((tells.take i).map (·.name)) (tells.drop i)) (λ_=> ∀H',aq H H'->Q .cp H'))
  #[none,rfl,s1,[],aa,aw _,λn=>rfl,q] (λi σ H' _ #[_,_,s,_]=>(ft.app s).sq) ?_ ?_
 . rintro i x σ H' hi ⟨v2,rfl,s,aG,hkv,hl,hr,q⟩;obtain ⟨t,ht,a,rfl,bh,da,ha⟩:=hA.get hi;have ha:=s _ _ ha;have hil:i < ts.length:=(bj.mp hi).1;have hlen:=hA.len;rw [dZ ht] at q;have q:aN c.cf E H (if scope.contains t.name=false then .error #[6,t.place] else if ((tells.take i).map (·.name)).contains t.name=true then .error #[5,t.place] else tellsRight scope ((tells.take i).map (·.name)++ [t.name]) (tells.drop (i+1))) (λ_=> ∀H',aq H H'->Q .cp H'):=q;obtain ⟨Yb,hrd,hk2⟩:=hk.same s;exists _,U,fr ha U #[_,U,d,_,U,hrd.get t.name,_,U,?_];rw [hk2];refine bG (λe1=>?_) λe1=>?_
   . rw [ah (by simpa using e1)] at q;exists _,U,fr ha U #[_,_,U,jo.go q s]
   rw [ae (by simpa using e1)] at q;exists _,U,fr ha U #[_,U,D,_,U,Rd.get (.inl hkv) t.name,_,U,?_];rw [hr];refine bG (λe2=>?_) λe2=>?_
   . rw [ah e2] at q;exists _,U,fr ha U #[_,_,U,jo.go q s]
   rw [ae (by rw [e2];exact aO)] at q;exists _,U,_,U,fr ha U #[D,_,U,uU.k (k:=nk t.name) hkv (by have:=aV;omega),?_];have e3:(tells.take (i+1)).map (·.name)=(tells.take i).map (·.name)++ [t.name]:=by rw [jF ht,dW];rfl
   exists _,U,s.bM hD,_,aa,aP (dk _ _ _) (by omega),?_,?_
   . rw [e3];exact tu hr
   . rw [e3];exact q
 . rintro σ H' ⟨v2,rfl,s,aG,hkv,hl,hr,q⟩;rw [hA.len,fK] at q;exact q H' s
def mW:SP:=λK c vs H Q E=> ∃pl ps params,vs= [.ref pl]/\FL H pl ps/\A2 (Br K c H) ps params/\params.length<=4/\aN c.cf E H (declsRight [] params) (λ_=> ∀d H',aq H H'->Gz H' d (params.map λx:Decl=>x.name.name)->Q (.ref d) H')
def mX:AA.hF 4 "checked_parameters" ["parameters"] mW:=by
 nomatch ["parameters","known","parameter"]
 obtain ⟨pl,ps,params,rfl,fp,hA,h4,q⟩:=h;nomatch 2,1,jn,bE,2,gr (Bd (qi hr)) ?_ ?_,lX (pv 1) (ca (pv 2)) Cm,1
 intro D hD;have s1:=aq.upd (o:= .dK []) hD;exists _,U,pl,U,#[ps,(fp.app s1).sq],cE (K:=K) (a:=pl) (xs:=ps) (λi σ H'=> ∃v2:Option V,σ= [some (.ref pl),some (.ref D),v2]/\aq H H'/\∃aG,H' D=some (.dK aG)/\aG.length<=i/\(∀n,(cy aG (nk n)).isSome=((params.take i).map λx:Decl=>x.name.name).contains n)/\aN c.cf E H (declsRight ((params.take i).map λx:Decl=>x.name.name) (params.drop i)) (λ_=> ∀d H',aq H H'->Gz H' d (params.map λx:Decl=>x.name.name)->Q (.ref d) H'))
  #[none,rfl,s1,[],aa,aw _,λn=>rfl,q] (λi σ H' _ #[_,_,s,_]=>(fp.app s).sq) ?_ ?_
 . rintro i x σ H' hi ⟨v2,rfl,s,aG,hkv,hl,hr,q⟩;obtain ⟨t,ht,a,da,kv,rfl,ha,_⟩:=hA.get hi;have ha:=s _ _ ha;have hil:i < ps.length:=(bj.mp hi).1;have hlen:=hA.len;rw [dZ ht] at q;have q:aN c.cf E H (if ((params.take i).map λx:Decl=>x.name.name).contains t.name.name=true then .error #[5,t.name.place] else declsRight ((params.take i).map (λx:Decl=>x.name.name)++ [t.name.name]) (params.drop (i+1))) (λ_=> ∀d H',aq H H'->Gz H' d (params.map λx:Decl=>x.name.name)->Q (.ref d) H'):=q;exists _,U,fr ha U #[_,U,D,_,U,Rd.get (.inl hkv) t.name.name,_,U,?_];rw [hr];refine bG (λe2=>?_) λe2=>?_
   . rw [ah e2] at q;exists _,U,fr ha U #[_,_,U,jo.go q s]
   rw [ae (by rw [e2];exact aO)] at q;exists _,U,_,U,fr ha U #[D,_,U,uU.k (k:=nk t.name.name) hkv (by have:=aV;omega),?_];have e3:(params.take (i+1)).map (λx:Decl=>x.name.name)=(params.take i).map (λx:Decl=>x.name.name)++ [t.name.name]:=by rw [jF ht,dW];rfl
   exists _,U,s.bM hD,_,aa,aP (dk _ _ _) (by omega),?_,?_
   . rw [e3];exact tu hr
   . rw [e3];exact q
 . rintro σ H' ⟨v2,rfl,s,aG,hkv,hl,hr,q⟩;rw [hA.len,fK,cM] at q;rw [hA.len,cM] at hr;exists _,U,D,_,U,hkv,au,λo=>?_;exact q D _ (s.bM hD) #[aG,#[o,aa],hr]
def rl:SP:=λK c vs H Q E=> ∃fl fs funs nd p,vs= [.ref fl,.ref nd]/\FL H fl fs/\A2 (E4 K c H) fs funs/\(∀f∈funs,GF f)/\funs.length<=8/\Kg K c H nd p.funs/\aN c.cf E H (funsRight p [] funs) (λ_=> ∀H',aq H H'->Q .cp H')
def rm:AA.hF 27 "check_functions" ["functions","named"] rl:=by
 nomatch ["functions","named","earlier","function"]
 obtain ⟨fl,fs,funs,nd,p,rfl,ff,hA,hG,h8,hn,q⟩:=h;nomatch 2,2,jn,bE,3,Be,fB T.iT,gr (Bd (qi hr)) ?_ ?_,lX (pv 2) (ca (pv 3)) Cm,fE,mX
 intro D hD;have s1:=aq.upd (o:= .dK []) hD;exists _,U,fl,U,#[fs,(ff.app s1).sq],cE (K:=K) (a:=fl) (xs:=fs) (λi σ H'=> ∃v2:Option V,σ= [some (.ref fl),some (.ref nd),some (.ref D),v2]/\aq H H'/\∃aG,H' D=some (.dK aG)/\aG.length<=i/\(∀n,(cy aG (nk n)).isSome=((funs.take i).map λx:Fu=>x.name.name).contains n)/\aN c.cf E H (funsRight p ((funs.take i).map λx:Fu=>x.name.name) (funs.drop i)) (λ_=> ∀H',aq H H'->Q .cp H'))
  #[none,rfl,s1,[],aa,aw _,λn=>rfl,q] (λi σ H' _ #[_,_,s,_]=>(ff.app s).sq) ?_ ?_
 . rintro i x σ H' hi ⟨v2,rfl,s,aG,hkv,hl,hr,q⟩;obtain ⟨f,hf,hx⟩:=hA.get hi;have hgf:=hG f (bc hf);obtain ⟨a,da,pl,kv,bv,ps,rfl,ha,fp,PQ,_,hb⟩:=hx.Y C s.Y;have hil:i < fs.length:=(bj.mp hi).1;have hlen:=hA.len;rw [dZ hf] at q;have q:aN c.cf E H (if (unOf f.name.name).isSome=true\/(binOf f.name.name).isSome=true then .error #[12,f.name.place] else if ((funs.take i).map λx:Fu=>x.name.name).contains f.name.name=true then .error #[5,f.name.place] else declsRight [] f.params >>= λ_=>named p (f.params.map λd:Decl=>d.name.name) f.body >>= λ_=>funsRight p ((funs.take i).map (λx:Fu=>x.name.name)++ [f.name.name]) (funs.drop (i+1))) (λ_=> ∀H',aq H H'->Q .cp H'):=q;exists _,U,fr ha U #[g.ops,wB,.inr (aR f.name.name),U,U,T.CZ,_,U,?_];refine bG (λe1=>?_) λe1=>?_
   . rw [ah (Kh.mp e1)] at q;exists _,U,fr ha U #[_,_,U,jo.go q s]
   rw [ae (λz=>by rw [Kh.mpr z] at e1;cases e1)] at q;exists _,U,fr ha U #[_,U,D,_,U,Rd.get (.inl hkv) f.name.name,_,U,?_];rw [hr];refine bG (λe2=>?_) λe2=>?_
   . rw [ah e2] at q;exists _,U,fr ha U #[_,_,U,jo.go q s]
   rw [ae (by rw [e2];exact aO)] at q;exists _,U,_,U,fr ha U #[D,_,U,uU.k (k:=nk f.name.name) hkv (by have:=aV;omega),?_];have e3:(funs.take (i+1)).map (λx:Fu=>x.name.name)=(funs.take i).map (λx:Fu=>x.name.name)++ [f.name.name]:=by rw [jF hf,dW];rfl
   have dJ:bX c H' (upd H' D (.dK (putK aG (nk f.name.name) (.bl true)))):=bX.upd hkv rfl;have su:aq H (upd H' D (.dK (putK aG (nk f.name.name) (.bl true)))):=s.bM hD;have lO:=dJ _ _ ha C.Pu;exists _,U,fr lO U #[_,U,fr lO U #[pl,ps,f.params,U,fp.mono dJ,PQ.mono λ_ _ z=>z.Y C dJ,hgf.pl,?_]];refine aN.imp (ok:=λ_=>aN c.cf E H (named p (f.params.map λd:Decl=>d.name.name) f.body >>= λ_=>funsRight p ((funs.take i).map (λx:Fu=>x.name.name)++ [f.name.name]) (funs.drop (i+1))) (λ_=> ∀H',aq H H'->Q .cp H')) (aN.step (aN.on q su) λ_ e4 _=>?_) λ_ _ q d H2 s2 hd=>?_
   . rw [e4] at q;exact q
   exists _,U,bv,f.body,d,nd,_,p,U,hgf.bd,(hb.Y C dJ).Y C s2.Y,hd.s,hn.Y C (su.trans s2).Y,?_;refine aN.imp (ok:=λ_=>aN c.cf E H (funsRight p ((funs.take i).map (λx:Fu=>x.name.name)++ [f.name.name]) (funs.drop (i+1))) (λ_=> ∀H',aq H H'->Q .cp H')) (aN.step (aN.on q (su.trans s2)) λ_ e4 _=>?_) λ_ _ q H3 s3=>?_
   . rw [e4] at q;exact q
   exists _,U,(su.trans s2).trans s3,_,(s2.trans s3) _ _ aa,aP (dk _ _ _) (by omega),?_,?_
   . rw [e3];exact tu hr
   . rw [e3];exact q
 . rintro σ H' ⟨v2,rfl,s,aG,hkv,hl,hr,q⟩;rw [hA.len,fK] at q;exact q H' s
def qc:SP:=λK c vs H Q E=> ∃sl ss stms nd p,vs= [.ref sl,.ref nd]/\FL H sl ss/\A2 (D_ K c H) ss stms/\(∀s∈stms,N9 s)/\stms.length<=32/\Kg K c H nd p.funs/\aN c.cf E H (stmsRight p [] stms) (λscope=> ∀d H',aq H H'->Gz H' d scope->Q (.ref d) H')
def qf:AA.hF 27 "check_statements" ["statements","named"] qc:=by
 nomatch ["statements","named","known","statement"]
 obtain ⟨sl,ss,stms,nd,p,rfl,ff,hA,hG,h8,hn,q⟩:=h;nomatch 2,2,jn,bE,3,aM nI,fB AA.Av,gr (Bd (qi hr)) ?_ ?_,fE,aM nI,fB AA.Av,lX (pv 2) (ca (pv 3)) Cm,1
 intro D hD;have s1:=aq.upd (o:= .dK []) hD;exists _,U,sl,U,#[ss,(ff.app s1).sq],cE (K:=K) (a:=sl) (xs:=ss) (λi σ H'=> ∃v2:Option V,σ= [some (.ref sl),some (.ref nd),some (.ref D),v2]/\aq H H'/\∃aG scope,H' D=some (.dK aG)/\aG.length<=i/\(∀n,(cy aG (nk n)).isSome=List.contains scope n)/\aN c.cf E H (stmsRight p scope (stms.drop i)) (λscope=> ∀d H',aq H H'->Gz H' d scope->Q (.ref d) H'))
  #[none,rfl,s1,[],[],aa,aw _,λn=>rfl,q] (λi σ H' _ #[_,_,s,_]=>(ff.app s).sq) ?_ ?_
 . rintro i x σ H' hi ⟨v2,rfl,s,aG,scope,hkv,hl,hr,q⟩;obtain ⟨st,fU,hx⟩:=hA.get hi;have hgs:=hG st (bc fU);have hx:=hx.Y C s.Y;have hil:i < ss.length:=(bj.mp hi).1;have hlen:=hA.len;rw [dZ fU] at q;cases st with
   | observe e=>
    have q:aN c.cf E H (named p scope e >>= λ_=>stmsRight p scope (stms.drop (i+1))) (λscope=> ∀d H',aq H H'->Gz H' d scope->Q (.ref d) H'):=q;obtain ⟨a,da,ev,rfl,ha,he⟩:=hx;exists _,U,_,_,_,_,U,C.va _ _ _ _ ha,C.pN,_,U,aF U (aF U ?_);exists _,U,fr ha U #[_,U,_,U,ev,e,D,nd,scope,p,U,hgs,he,#[aG,.inl hkv,hr],hn.Y C s.Y,?_];refine aN.imp (ok:=λ_=>aN c.cf E H (stmsRight p scope (stms.drop (i+1))) (λscope=> ∀d H',aq H H'->Gz H' d scope->Q (.ref d) H')) (aN.step (aN.on q s) λ_ e4 _=>?_) λ_ _ q H3 s3=>?_
    . rw [e4] at q;exact q
    have ha3:=s3 _ _ ha;exists _,U,_,_,_,_,U,C.va _ _ _ _ ha3,C.pN,_,U,aF U #[_,U,s.trans s3,aG,scope,s3 _ _ hkv,by omega,hr,q]
   | lets nn k e=>
    have q:aN c.cf E H (if scope.contains nn.name=true then .error #[5,nn.place] else named p scope e >>= λ_=>stmsRight p (scope++ [nn.name]) (stms.drop (i+1))) (λscope=> ∀d H',aq H H'->Gz H' d scope->Q (.ref d) H'):=q;obtain ⟨a,da,wv,ev,rfl,ha,_,he⟩:=hx;exists _,U,_,_,_,_,U,C.u_ _ _ _ _ ha,C.pM,_,U,bD U ?_;exists _,U,fr ha U #[_,U,D,_,U,Rd.get (.inl hkv) nn.name,_,U,?_];rw [hr];refine bG (λe2=>?_) λe2=>?_
    . rw [ah e2] at q;exists _,U,fr ha U #[_,_,U,jo.go q s]
    rw [ae (by rw [e2];exact aO)] at q;exists _,U,fr ha U #[_,U,_,U,ev,e,D,nd,scope,p,U,hgs.2.2,he,#[aG,.inl hkv,hr],hn.Y C s.Y,?_];refine aN.imp (ok:=λ_=>aN c.cf E H (stmsRight p (scope++ [nn.name]) (stms.drop (i+1))) (λscope=> ∀d H',aq H H'->Gz H' d scope->Q (.ref d) H')) (aN.step (aN.on q s) λ_ e4 _=>?_) λ_ _ q H3 s3=>?_
    . rw [e4] at q;exact q
    have ha3:=s3 _ _ ha;have hk3:=s3 _ _ hkv;exists _,U,_,_,_,_,U,C.u_ _ _ _ _ ha3,C.pM,_,U,bD U ?_;exists _,U,_,U,fr ha3 U #[D,_,U,uU.k (k:=nk nn.name) hk3 (by have:=aV;omega),?_];exists _,U,(s.trans s3).bM hD,_,_,aa,aP (dk _ _ _) (by omega),tu hr,q
 . rintro σ H' ⟨v2,rfl,s,aG,scope,hkv,hl,hr,q⟩;rw [hA.len,fK] at q;exists _,U,D,_,U,hkv,au,λo=>?_;exact q D _ (s.bM hD) #[aG,#[o,aa],hr]
def yH:SP:=λK c vs H Q E=> ∃v p,vs= [v]/\D' K c H v p/\GP p/\aN c.cf E H (namesRight p) (λ_=> ∀H',aq H H'->Q .cp H')
def yI:AA.hF 28 "check_names" ["program"] yH:=by
 nomatch ["program","functions","lets"]
 obtain ⟨v,p,rfl,hP,hG,q⟩:=h;nomatch 2,1,eX,rm,2,qf,zK
 obtain ⟨a,dx,fl,sl,tl,fs,ss,ts,rfl,ha,f1,A1,f2,zF,f3,A3⟩:=id hP;have q:aN c.cf E H (funsRight p [] p.funs >>= λ_=>stmsRight p [] p.stms >>= λscope=>tellsRight scope [] p.tells) (λ_=> ∀H',aq H H'->Q .cp H'):=q;exists _,U,fr ha U #[fl,fs,p.funs,U,f1,A1,hG.fl,λd H1 s1 hn=>?_];have ha1:=s1 _ _ ha;exists _,U,fr ha1 U #[_,U,fl,fs,p.funs,d,p,U,f1.app s1,A1.mono λ_ _ z=>z.Y C s1.Y,hG.fn,hG.fl,hn,?_];refine aN.imp (ok:=λ_=>aN c.cf E H (stmsRight p [] p.stms >>= λscope=>tellsRight scope [] p.tells) (λ_=> ∀H',aq H H'->Q .cp H')) (aN.step (aN.on q s1) λ_ e4 _=>?_) λ_ _ q H2 s2=>?_
 . rw [e4] at q;exact q
 have s12:=s1.trans s2;have lO:=s12 _ _ ha;exists _,U,fr lO U #[_,U,sl,ss,p.stms,d,p,U,f2.app s12,zF.mono λ_ _ z=>z.Y C s12.Y,hG.st,hG.sl,hn.Y C s2.Y,?_];refine aN.imp (ok:=λscope=>aN c.cf E H (tellsRight scope [] p.tells) (λ_=> ∀H',aq H H'->Q .cp H')) (aN.step (aN.on q s12) λ_ e4 _=>?_) λscope _ q d2 H3 s3 hk=>?_
 . rw [e4] at q;exact q
 have RQ:=s12.trans s3;have ha3:=RQ _ _ ha;exists _,U,fr ha3 U #[_,U,tl,ts,p.tells,d2,scope,U,f3.app RQ,A3.mono λ_ _ z=>z.Y C RQ.Y,hG.tl,hk.s,?_];exact aN.imp (aN.on q RQ) λ_ _ q H4 s4=>q H4 (RQ.trans s4)
section
variable {En:Vaprbb.Env}
def vw:∀{e:Ex} {l:List (Kd×Nat)},gd e 0->kindsOf p En e= .ok l->∃k,l= [(k,e.place)]
 | .nil,_,g,_=>by rcases g with g | g <;> cases g
 | .arg _ _,_,g,_=>absurd g.1 (by decide)
 | .way _ _ _,_,g,_=>absurd g.1 (by decide)
 | .lit q (.flag _),l,_,h=>by cases h;exists _,U
 | .lit q (.num n),l,_,h=>by obtain ⟨k,_,e⟩:=jz h;cases e;exists k,U
 | .name q n,l,_,h=>by
  have h:(match En.kind n with | some k=> .ok [(k,q)] | none=> .error #[6,q]:Except Fault _)= .ok l:=h;split at h
  . cases h;exists _,U
  . cases h
 | .un q o a,l,_,h=>by let #[k,_,h]:=aj h;let #[r,_,h]:=aj h;cases h;exists r,U
 | .bin q o a b,l,_,h=>by let #[k,_,h]:=aj h;let #[k2,_,h]:=aj h;let #[r,_,h]:=aj h;cases h;exists r,U
 | .flip q f,l,_,h=>by cases h;exists _,U
 | .uniform q lo hi,l,_,h=>by cases h;exists _,U
 | .cond q d a b,l,_,h=>by
  let #[k,_,h]:=aj h;have h:((if isNum ((k.head?.map λx=>x.1).getD .flag)=true then .error #[8,d.place] else .ok ()) >>= λ_=>kindsOf p En a >>= λx=>kindsOf p En b >>= λy=>aroundAll q ((x.head?.map λx=>x.1).getD .flag) y >>= λr=> .ok [(r,q)]:Except Fault _)= .ok l:=by
   rw [<-h];split <;> rfl
  let #[_,_,h]:=aj h;let #[x,_,h]:=aj h;let #[y,_,h]:=aj h;let #[r,_,h]:=aj h;cases h;exists r,U
 | .given q d a,l,g,h=>by
  let #[k,_,h]:=aj h;have h:((if isNum ((k.head?.map λx=>x.1).getD .flag)=true then .error #[8,d.place] else .ok ()) >>= λ_=>kindsOf p En a >>= λx=> .ok (x.map λy=>(y.1,q)):Except Fault _)= .ok l:=by
   rw [<-h];split <;> rfl
  let #[_,_,h]:=aj h;let #[x,hx,h]:=aj h;obtain ⟨kx,rfl⟩:=vw g.2.2 hx;cases h;exists kx,U
 | .weigh q w a,l,g,h=>by
  let #[x,hx,h]:=aj h;obtain ⟨kx,rfl⟩:=vw g.2.2 hx;cases h;exists kx,U
 | .call q f x,l,_,h=>by
  have h:(match p.fun f with | none=> .error #[6,q] | some g=>kindsOf p En x >>= λks=>argsHeld ks g.params >>= λ_=> .ok [(g.result,q)]:Except Fault _)= .ok l:=h;split at h
  . cases h
  . let #[ks,_,h]:=aj h;let #[_,_,h]:=aj h;cases h;exists _,U
 | .pick q x,l,_,h=>by let #[ks,_,h]:=aj h;let #[r,_,h]:=aj h;cases h;exists r,U
def gl (g:gd e 0):kindsOf p En e=(kindOf p En e >>= λk=> .ok [(k,e.place)]):=by
 unfold Vaprbb.kindOf;cases h:kindsOf p En e with
 | error f=>rfl
 | ok l=>obtain ⟨k,rfl⟩:=vw g h;rfl
def dO (p:Prog) (En:Vaprbb.Env):List Ex->Except Fault (List Kd)
 | []=> .ok []
 | e :: r=>kindOf p En e >>= λk=>dO p En r >>= λks=> .ok (k :: ks)
def lG:∀{l:List Ex} {ks:List Kd},dO p En l= .ok ks->ks.length=l.length
 | [],ks,h=>by cases h;rfl
 | e :: r,ks,h=>by let #[k,_,h]:=aj h;let #[ks',h2,h]:=aj h;cases h;exact bA (· +1) (lG h2)
def ke {s:Nat} (hs:s≠0):∀{x:Ex},gd x s->kindsOf p En x=(dO p En (eK x) >>= λks=> .ok (ks.zip ((eK x).map (·.place))))
 | .nil,_=>rfl
 | .arg a r,h=>by
  show (kindsOf p En a >>= λk=>kindsOf p En r >>= λks=> .ok (k++ks))=_;rw [gl h.2.1,ke (by decide) h.2.2];show _=((kindOf p En a >>= λk=>dO p En (eK r) >>= λks=> .ok (k :: ks)) >>= _);simp only [bn];rfl
 | .way a w r,h=>by
  show (kindsOf p En a >>= λk=>kindsOf p En r >>= λks=> .ok (k++ks))=_;rw [gl h.2.1,ke (by decide) h.2.2.2];show _=((kindOf p En a >>= λk=>dO p En (eK r) >>= λks=> .ok (k :: ks)) >>= _);simp only [bn];rfl
 | .lit _ (.num _),h=>absurd h.1 hs
 | .lit _ (.flag _),h=>absurd h hs
 | .name _ _,h=>absurd h.1 hs
 | .un _ _ _,h=>absurd h.1 hs
 | .bin _ _ _ _,h=>absurd h.1 hs
 | .flip _ _,h=>absurd h.1 hs
 | .uniform _ _ _,h=>absurd h.1 hs
 | .cond _ _ _ _,h=>absurd h.1 hs
 | .given _ _ _,h=>absurd h.1 hs
 | .weigh _ _ _,h=>absurd h.1 hs
 | .call _ _ _,h=>absurd h.1 hs
 | .pick _ _,h=>absurd h.1 hs
def mo {lo hi:Int} (h:numKind q lo hi= .ok k) (hl:lo<=hi):kn k/\k= .num lo hi:=by
 rw [fV] at h;split at h
 . cases h
 . cases h;exists #[by omega,hl,by omega,by omega],U
def HJ {l m:Kd} (hk:kn k) (hl:kn l) (h:around q k l= .ok m):kn m:=by
 cases k with
 | flag=>cases h;exact hk
 | num a b=>
  cases l with
  | flag=>cases h;exact hk
  | num c' d=>
   have hk: -1000<=a/\a<=b/\b<=1000/\b<=a+63:=hk;have h:numKind q (min a c') (max b d)= .ok m:=h;exact (mo h (by omega)).1
def mq:∀{l:List (Kd×Nat)} {k m:Kd},kn k->(∀x∈l,kn x.1)->aroundAll q k l= .ok m->kn m
 | [],k,m,hk,_,h=>by cases h;exact hk
 | x :: r,k,m,hk,hr,h=>by
  have h:(if alike k x.1=false then .error #[8,x.2] else around q k x.1 >>= λm=>aroundAll q m r:Except Fault _)= .ok m:=h;split at h
  . cases h
  . let #[m',h1,h]:=aj h;exact mq (HJ hk (hr x bi) h1) (λy hy=>hr y (aW _ hy)) h
def Dr (hk:kn k):around q k k= .ok k:=by
 cases k with
 | flag=>rfl
 | num a b=>
  have hk: -1000<=a/\a<=b/\b<=1000/\b<=a+63:=hk;show numKind q (min a a) (max b b)=_;rw [fV,Int.min_self,Int.max_self,ae (by omega)]
def Fc (k:Kd):alike k k=true:=by cases k <;> rfl
def gE (hk:kn k) (l:List (Kd×Nat)):aroundAll q k ((k,pl) :: l)=aroundAll q k l:=by
 show (if alike k k=false then .error #[8,pl] else around q k k >>= λm=>aroundAll q m l:Except Fault _)=_;rw [Fc,ae Bool.noConfusion,Dr hk];rfl
def cr (k:Kd) (pl:Nat):Except Fault Unit:=if isNum k=true then .error #[8,pl] else .ok ()
def Ki (q:Nat) (n:Int):kindOf p En (.lit q (.num n))=numKind q n n:=by
 show ((numKind q n n).map λk=> [(k,q)]).map _=_;cases numKind q n n <;> rfl
def GB (q:Nat) (n:Bytes):kindOf p En (.name q n)=match En.kind n with | some k=> .ok k | none=> .error #[6,q]:=by
 unfold Vaprbb.kindOf kindsOf;cases En.kind n <;> rfl
def N_ {o:Vaprbb.Un} {a:Ex} (g:gd a 0):kindOf p En (.un q o a)=(kindOf p En a >>= λk=>unKind q o k a.place):=by
 have:kindsOf p En (.un q o a)=(kindsOf p En a >>= λk=>unKind q o ((k.head?.map λx=>x.1).getD .flag) a.place >>= λr=> .ok [(r,q)]):=rfl;unfold Vaprbb.kindOf;rw [this,gl g];unfold Vaprbb.kindOf;cases kindsOf p En a with
 | error f=>rfl
 | ok l=>
  show Except.map _ (unKind q o _ a.place >>= _)=unKind q o _ a.place;show Except.map _ (unKind q o ((l.head?.map λx=>x.1).getD .flag) a.place >>= _)=unKind q o ((l.head?.map λx=>x.1).getD .flag) a.place;cases unKind q o ((l.head?.map λx=>x.1).getD .flag) a.place <;> rfl
def Kj {o:Vaprbb.Bin} {a b:Ex}:kindOf p En (.bin q o a b)=(kindOf p En a >>= λk=>kindOf p En b >>= λl=>binKind q o k l a.place b.place):=by
 have:kindsOf p En (.bin q o a b)=(kindsOf p En a >>= λk=>kindsOf p En b >>= λl=>binKind q o ((k.head?.map λx=>x.1).getD .flag) ((l.head?.map λx=>x.1).getD .flag) a.place b.place >>= λr=> .ok [(r,q)]):=rfl;unfold Vaprbb.kindOf;rw [this];cases kindsOf p En a with
 | error f=>rfl
 | ok l=>
  cases kindsOf p En b with
  | error f=>rfl
  | ok l2=>
   show Except.map _ (binKind q o ((l.head?.map λx=>x.1).getD .flag) ((l2.head?.map λx=>x.1).getD .flag) a.place b.place >>= _)=binKind q o ((l.head?.map λx=>x.1).getD .flag) ((l2.head?.map λx=>x.1).getD .flag) a.place b.place;cases binKind q o ((l.head?.map λx=>x.1).getD .flag) ((l2.head?.map λx=>x.1).getD .flag) a.place b.place <;> rfl
def GC {d a b:Ex} (hb:gd b 0):kindOf p En (.cond q d a b)=(kindOf p En d >>= λk=>cr k d.place >>= λ_=>kindOf p En a >>= λx=>kindOf p En b >>= λy=>aroundAll q x [(y,b.place)]):=by
 have:kindsOf p En (.cond q d a b)=(kindsOf p En d >>= λk=>cr ((k.head?.map λx=>x.1).getD .flag) d.place >>= λ_=>kindsOf p En a >>= λx=>kindsOf p En b >>= λy=>aroundAll q ((x.head?.map λx=>x.1).getD .flag) y >>= λr=> .ok [(r,q)]):=by
  show (kindsOf p En d >>= _)=_;refine aS λk=>?_;unfold cr;split <;> rfl
 unfold Vaprbb.kindOf;rw [this,gl hb];unfold Vaprbb.kindOf;cases kindsOf p En d with
 | error f=>rfl
 | ok l=>
  show Except.map _ (cr ((l.head?.map λx=>x.1).getD .flag) d.place >>= _)=(cr ((l.head?.map λx=>x.1).getD .flag) d.place >>= _);cases cr ((l.head?.map λx=>x.1).getD .flag) d.place with
  | error f=>rfl
  | ok u=>
   cases kindsOf p En a with
   | error f=>rfl
   | ok l1=>
    cases kindsOf p En b with
    | error f=>rfl
    | ok l2=>
     show Except.map _ (aroundAll q ((l1.head?.map λx=>x.1).getD .flag) [((l2.head?.map λx=>x.1).getD .flag,b.place)] >>= _)=aroundAll q ((l1.head?.map λx=>x.1).getD .flag) [((l2.head?.map λx=>x.1).getD .flag,b.place)];cases aroundAll q ((l1.head?.map λx=>x.1).getD .flag) [((l2.head?.map λx=>x.1).getD .flag,b.place)] <;> rfl
def Ds {d a:Ex} (ha:gd a 0):kindOf p En (.given q d a)=(kindOf p En d >>= λk=>cr k d.place >>= λ_=>kindOf p En a):=by
 have:kindsOf p En (.given q d a)=(kindsOf p En d >>= λk=>cr ((k.head?.map λx=>x.1).getD .flag) d.place >>= λ_=>kindsOf p En a >>= λx=> .ok (x.map λy=>(y.1,q))):=by
  show (kindsOf p En d >>= _)=_;refine aS λk=>?_;unfold cr;split <;> rfl
 unfold Vaprbb.kindOf;rw [this,gl ha];unfold Vaprbb.kindOf;cases kindsOf p En d with
 | error f=>rfl
 | ok l=>
  show Except.map _ (cr ((l.head?.map λx=>x.1).getD .flag) d.place >>= _)=(cr ((l.head?.map λx=>x.1).getD .flag) d.place >>= _);cases cr ((l.head?.map λx=>x.1).getD .flag) d.place with
  | error f=>rfl
  | ok u=>cases kindsOf p En a <;> rfl
def Dt {w:VaprbBase.Frac} {a:Ex} (ha:gd a 0):kindOf p En (.weigh q w a)=kindOf p En a:=by
 have:kindsOf p En (.weigh q w a)=(kindsOf p En a >>= λx=> .ok (x.map λy=>(y.1,q))):=rfl;unfold Vaprbb.kindOf;rw [this,gl ha];unfold Vaprbb.kindOf;cases kindsOf p En a <;> rfl
def GD {f:Bytes} {x:Ex} {s:Nat} (hs:s≠0) (hx:gd x s):kindOf p En (.call q f x)=match p.fun f with | none=> .error #[6,q] | some g=>dO p En (eK x) >>= λks=>argsHeld (ks.zip ((eK x).map (·.place))) g.params >>= λ_=> .ok g.result:=by
 have:kindsOf p En (.call q f x)=match p.fun f with | none=> .error #[6,q] | some g=>kindsOf p En x >>= λks=>argsHeld ks g.params >>= λ_=> .ok [(g.result,q)]:=rfl
 unfold Vaprbb.kindOf;rw [this,ke hs hx];cases p.fun f with
 | none=>rfl
 | some g=>
  show Except.map _ ((dO p En (eK x) >>= λks=> .ok (ks.zip ((eK x).map (·.place)))) >>= λks=>argsHeld ks g.params >>= λ_=> .ok [(g.result,q)])=(dO p En (eK x) >>= _);cases dO p En (eK x) with
  | error f=>rfl
  | ok ks=>
   show Except.map _ (argsHeld (ks.zip ((eK x).map (·.place))) g.params >>= _)=(argsHeld (ks.zip ((eK x).map (·.place))) g.params >>= _);cases argsHeld (ks.zip ((eK x).map (·.place))) g.params <;> rfl
def GH {x:Ex} {s:Nat} (hs:s≠0) (hx:gd x s):kindOf p En (.pick q x)=(dO p En (eK x) >>= λks=>aroundAll q (((ks.zip ((eK x).map (·.place))).head?.map λx=>x.1).getD .flag) ((ks.zip ((eK x).map (·.place))).drop 1)):=by
 have:kindsOf p En (.pick q x)=(kindsOf p En x >>= λks=>aroundAll q ((ks.head?.map λx=>x.1).getD .flag) (ks.drop 1) >>= λr=> .ok [(r,q)]):=rfl;unfold Vaprbb.kindOf;rw [this,ke hs hx];cases dO p En (eK x) with
 | error f=>rfl
 | ok ks=>
  show Except.map _ (aroundAll q (((ks.zip ((eK x).map (·.place))).head?.map λx=>x.1).getD .flag) ((ks.zip ((eK x).map (·.place))).drop 1) >>= _)=aroundAll q (((ks.zip ((eK x).map (·.place))).head?.map λx=>x.1).getD .flag) ((ks.zip ((eK x).map (·.place))).drop 1);cases aroundAll q (((ks.zip ((eK x).map (·.place))).head?.map λx=>x.1).getD .flag) ((ks.zip ((eK x).map (·.place))).drop 1) <;> rfl
end
def lH (w:Int):List (Kd×Nat)->Except Fault Unit
 | []=> .ok ()
 | x :: r=>if C1 x.1=w then lH w r else .error #[8,x.2]
def Kk:Un->Int
 | .not=>0
 | _=>1
def Kl:Bin->Kd->Int
 | .and,_=>0
 | .or,_=>0
 | .eq,k=>C1 k
 | _,_=>1
def HK:Un->Bool
 | .not=>true
 | _=>false
def Fd:Bin->Bool
 | .and=>true
 | .or=>true
 | .eq=>true
 | .lt=>true
 | .le=>true
 | _=>false
def mL (neg:Bool) (lo hi:Int):Int×Int:=if neg=true\/hi<=0 then (-hi,-lo) else if lo>=0 then (lo,hi) else (0,max (-lo) hi)
def mM:Bin->Int->Int->Int->Int->Int×Int
 | .add,a,b,c,d=>(a+c,b+d)
 | .sub,a,b,c,d=>(a - d,b - c)
 | .min,a,b,c,d=>(min a c,min b d)
 | .max,a,b,c,d=>(max a c,max b d)
 | _,a,b,c,d=>(min (min (a * c) (a * d)) (min (b * c) (b * d)),max (max (a * c) (a * d)) (max (b * c) (b * d)))
def isNeg:Un->Bool
 | .neg=>true
 | _=>false
def Fe (q:Nat) (o:Un) (k:Kd):Except Fault Kd:=if HK o=true then .ok .flag else match k with
 | .num lo hi=>numKind q (mL (isNeg o) lo hi).1 (mL (isNeg o) lo hi).2
 | .flag=> .ok .flag
def BF (q:Nat) (o:Bin) (k l:Kd):Except Fault Kd:=if Fd o=true then .ok .flag else match k,l with
 | .num a b,.num c d=>numKind q (mM o a b c d).1 (mM o a b c d).2
 | _,_=> .ok .flag
def VS {o:Un} (hk:kn k):unKind q o k pl=(lH (Kk o) [(k,pl)] >>= λ_=>Fe q o k):=by
 cases k with
 | flag=>cases o <;> rfl
 | num lo hi=>
  have hk: -1000<=lo/\lo<=hi/\hi<=1000/\hi<=lo+63:=hk;cases o with
  | not=>rfl
  | neg=>
   show Except.ok (VaprbBase.Kind.num (-hi) (-lo))=numKind q (if true=true\/hi<=0 then (-hi,-lo) else _).1 (if true=true\/hi<=0 then (-hi,-lo) else _).2;rw [ah (.inl rfl),fV,ae (by show¬(-hi < -1000\/1000 < -lo\/ -hi+63 < -lo);omega)]
  | abs=>
   show (if 0<=lo then .ok (.num lo hi) else if hi<=0 then .ok (.num (-hi) (-lo)) else numKind q 0 (max (-lo) hi):Except Fault Kd)=numKind q (if false=true\/hi<=0 then (-hi,-lo) else if lo>=0 then (lo,hi) else (0,max (-lo) hi)).1 (if false=true\/hi<=0 then (-hi,-lo) else if lo>=0 then (lo,hi) else (0,max (-lo) hi)).2;by_cases h0:0<=lo
   . rw [ah h0];by_cases h1:hi<=0
     . have e1:lo=0:=by omega
       have e2:hi=0:=by omega
       subst e1 e2;rw [ah (.inr h1),fV,ae (by decide)];rfl
     . rw [ae (λz=>z.elim Bool.noConfusion h1),ah h0,fV,ae (by show¬(lo < -1000\/1000 < hi\/lo+63 < hi);omega)]
   . rw [ae h0];by_cases h1:hi<=0
     . rw [ah h1,ah (.inr h1),fV,ae (by show¬(-hi < -1000\/1000 < -lo\/ -hi+63 < -lo);omega)]
     . rw [ae h1,ae (λz=>z.elim Bool.noConfusion h1),ae (by omega)]
def RR {pa pb:Nat} {o:Bin} {l:Kd}:binKind q o k l pa pb=(lH (Kl o k) [(k,pa),(l,pb)] >>= λ_=>BF q o k l):=by
 cases k <;> cases l <;> cases o <;> rfl
def MM {o:Un} {lo hi:Int} (h:lo<=hi) (e:numKind q (mL (isNeg o) lo hi).1 (mL (isNeg o) lo hi).2= .ok k):kn k:=by
 refine (mo e ?_).1;unfold mL;split
 . show -hi<= -lo;omega
 . split
   . exact h
   . show (0:Int)<=max (-lo) hi;omega
def Km {o:Bin} {a b c d:Int} (h1:a<=b) (h2:c<=d) (e:numKind q (mM o a b c d).1 (mM o a b c d).2= .ok k):kn k:=by
 refine (mo e ?_).1;cases o <;> simp only [mM] <;> omega
def mr:∀{l:List α} {m:List β} {x:α×β},x∈l.zip m->x.1∈l
 | [],_,_,h=>by simp at h
 | _ :: _,[],_,h=>by simp at h
 | a :: l,b :: m,x,h=>by
  rw [List.zip_cons_cons] at h;rcases aE.mp h with rfl | h
  . exact bi
  . exact aW _ (mr h)
section
variable {En:Vaprbb.Env} (hE:∀n k,En.kind n=some k->kn k) (hF:∀f∈p.funs,kn f.result)
include hE hF
def HL:∀e:Ex,(gd e 0->∀k,kindOf p En e= .ok k->kn k)/\(∀s,s≠0->gd e s->∀ks,dO p En (eK e)= .ok ks->∀k∈ks,kn k)
 | .nil=>#[λg=>(by rcases g with g | g <;> cases g),λs _ _ ks h k hk=>(by cases h;cases hk)]
 | .arg a r=>⟨λg=>absurd g.1 (by decide),λs hs g ks h k hk=>by
  let #[k1,h1,h]:=aj h;let #[k2,h2,h]:=aj h;cases h;rcases aE.mp hk with rfl | hk
  . exact (HL a).1 g.2.1 _ h1
  . exact (HL r).2 1 (by decide) g.2.2 _ h2 k hk⟩
 | .way a w r=>⟨λg=>absurd g.1 (by decide),λs hs g ks h k hk=>by
  let #[k1,h1,h]:=aj h;let #[k2,h2,h]:=aj h;cases h;rcases aE.mp hk with rfl | hk
  . exact (HL a).1 g.2.1 _ h1
  . exact (HL r).2 2 (by decide) g.2.2.2 _ h2 k hk⟩
 | .lit q (.num n)=>#[λg k h=>by rw [Ki] at h;exact (mo h (Int.le_refl _)).1,λs hs g=>absurd g.1 hs]
 | .lit q (.flag b)=>#[λg k h=>by cases h;exact au,λs hs g=>absurd g hs]
 | .name q n=>⟨λg k h=>by
  rw [GB] at h;split at h
  . rename_i k' e;cases h;exact hE _ _ e
  . exact (nomatch h),λs hs g=>absurd g.1 hs⟩
 | .flip q f=>#[λg k h=>by cases h;exact au,λs hs g=>absurd g.1 hs]
 | .uniform q lo hi=>#[λg k h=>by cases h;exact g.2,λs hs g=>absurd g.1 hs]
 | .un q o a=>⟨λg k h=>by
  rw [N_ g.2] at h;let #[ka,h1,h]:=aj h;have wa:=(HL a).1 g.2 _ h1;rw [VS wa] at h;let #[_,_,h]:=aj h;unfold Fe at h;split at h
  . cases h;exact au
  . cases ka with
    | flag=>cases h;exact au
    | num lo hi=>exact MM wa.2.1 h,λs hs g=>absurd g.1 hs⟩
 | .bin q o a b=>⟨λg k h=>by
  rw [Kj] at h;let #[ka,h1,h]:=aj h;let #[kb,h2,h]:=aj h;have wa:=(HL a).1 g.2.1 _ h1;have wb:=(HL b).1 g.2.2 _ h2;rw [RR] at h;let #[_,_,h]:=aj h;unfold BF at h;split at h
  . cases h;exact au
  . cases ka with
    | flag=>cases h;exact au
    | num lo hi=>
     cases kb with
     | flag=>cases h;exact au
     | num lo2 hi2=>exact Km wa.2.1 wb.2.1 h,λs hs g=>absurd g.1 hs⟩
 | .cond q d a b=>⟨λg k h=>by
  rw [GC g.2.2.2] at h;let #[kd,_,h]:=aj h;let #[_,_,h]:=aj h;let #[ka,h1,h]:=aj h;let #[kb,h2,h]:=aj h;refine mq ((HL a).1 g.2.2.1 _ h1) (λx hx=>?_) h;rcases aE.mp hx with rfl | hx
  . exact (HL b).1 g.2.2.2 _ h2
  . exact (cU hx).elim,λs hs g=>absurd g.1 hs⟩
 | .given q d a=>⟨λg k h=>by
  rw [Ds g.2.2] at h;let #[kd,_,h]:=aj h;let #[_,_,h]:=aj h;exact (HL a).1 g.2.2 _ h,λs hs g=>absurd g.1 hs⟩
 | .weigh q w a=>⟨λg k h=>by
  rw [Dt g.2.2] at h;exact (HL a).1 g.2.2 _ h,λs hs g=>absurd g.1 hs⟩
 | .call q f x=>⟨λg k h=>by
  rw [GD (by decide) g.2.2] at h;cases hf:p.fun f with
  | none=>rw [hf] at h;cases h
  | some gg=>
   rw [hf] at h;let #[_,_,h]:=aj h;let #[_,_,h]:=aj h;cases h;exact hF _ (kC hf),λs hs g=>absurd g.1 hs⟩
 | .pick q x=>⟨λg k h=>by
  rw [GH (by decide) g.2.1] at h;let #[ks,h1,h]:=aj h;have w1:=(HL x).2 2 (by decide) g.2.1 _ h1;refine mq ?_ (λy hy=>w1 _ (mr (List.mem_of_mem_drop hy))) h;cases hz:(ks.zip ((eK x).map (·.place))).head? with
  | none=>exact au
  | some y=>
   have hm:y∈ks.zip ((eK x).map (·.place)):=List.mem_of_mem_head? hz;exact w1 _ (mr hm),λs hs g=>absurd g.1 hs⟩
end
def yJ (w:Str) (k0:Kd):Int:=if decide (V.str w=V.str "eq")=true then C1 k0 else if inV (.str w) (jR ["not","and","or"])=true then 0 else 1
def MN (o:Un) (k:Kd):yJ (aR (unName o)) k=Kk o:=by cases o <;> rfl
def Kn (o:Bin) (k:Kd):yJ (aR (binName o)) k=Kl o k:=by cases o <;> rfl
def MO (o:Un):inV (.str (aR (unName o))) (jR ["not","and","or","lt","le","eq"])=HK o:=by cases o <;> rfl
def Ko (o:Bin):inV (.str (aR (binName o))) (jR ["not","and","or","lt","le","eq"])=Fd o:=by cases o <;> rfl
def yr.same (h:yr K H v k) (s:aq H H'):yr K H' v k:=h.Y (c:=#[0,0,0,0,0,0,0,0,0,0,0,0,0]) s.Y
def dz {vs:List V} (h:vs[i]? = some v):Eo vs (i:Int)=some v:=A6 h
def BG (h:C1 k=1):∃lo hi,k= .num lo hi:=by
 cases k with
 | flag=>cases h
 | num lo hi=>exists lo,hi,U
def Ff (i j:Int):(if j < i then j else i)=min i j:=by split <;> omega
def BH (i j:Int):(if j > i then j else i)=max i j:=by split <;> omega
def zL:SP:=λK c vs H Q _=> ∃x a aG k0 ks,vs= [.str x,.ref a]/\cz K H a aG/\A2 (yr K H) aG (k0 :: ks)/\Q (.int (yJ x k0)) H
def zM:AA.h0 2 "sort_taken" ["word","kinds"] zL:=by
 nomatch ["word","kinds"]
 obtain ⟨x,a,aG,k0,ks,rfl,hs,hA,q⟩:=h;nomatch 2,bK,gU,bR,eC,fB T.qm,T.jS,T.jp
 unfold yJ at q;obtain ⟨v0,h0,a0,rfl,hk0⟩:=hA.get' (i:=0) (a:=k0) rfl;exists _,U,U,_,U,bG (λe1=>?_) λe1=>?_
 . rw [ah e1] at q;exists _,U,a,aG,0,_,U,U,hs,dz (i:=0) h0,a0,k0,U,hk0,q
 . rw [ae (by rw [e1];exact aO)] at q;exists _,U,g.takes,_,U,.inr (T.qo.sq _),U,gi _,_,U,?_;rw [ae aO];refine bG (λe2=>?_) λe2=>?_
   . rw [ah e2] at q;exact q
   . rw [ae (by rw [e2];exact aO)] at q;exact q
def yK:SP:=λK c vs H Q _=> ∃x a aG lo hi,vs= [.str x,.ref a]/\cz K H a aG/\A2 (yr K H) aG [.num lo hi]/\∀p,H p=none->Q (.ref p) (upd H p (.tup [.int (mL (decide (V.str x=V.str "neg")) lo hi).1,.int (mL (decide (V.str x=V.str "neg")) lo hi).2]))
def yL:AA.h0 2 "ends_of_one" ["word","kinds"] yK:=by
 nomatch ["word","kinds","low","high"]
 obtain ⟨x,a,aG,lo,hi,rfl,hs,hA,q⟩:=h;nomatch 2,2,eD,bR,3,dM,bR,bK,FY,FR A0 ?_,FR A0 ?_,IL,0,aM (pF rfl) ?_,FR A0 ?_
 unfold mL at q;obtain ⟨v0,h0,a0,rfl,hk0⟩:=hA.get' (i:=0) (a:=VaprbBase.Kind.num lo hi) rfl;exists _,U,a,aG,0,_,U,U,hs,dz (i:=0) h0,a0,lo,hi,U,hk0,?_;exists _,U,a,aG,0,_,U,U,hs,dz (i:=0) h0,a0,lo,hi,U,hk0,?_;exists _,U,U,_,U,bG (λe1=>?_) λe1=>?_
 . rw [ah (.inl e1)] at q;exists _,U,_,U,_,U,_,U,jJ,q
 . exists _,U,_,_,U,U,_,U,bG (λe2=>?_) λe2=>?_
   . rw [ah (.inr (by simpa using e2))] at q;exists _,U,_,U,_,U,_,U,jJ,q
   . rw [ae (λz=>z.elim (λz=>by rw [e1] at z;cases z) λz=>by simp at e2;omega)] at q;exists _,U,_,_,U,U,_,U,bG (λe3=>?_) λe3=>?_
     . rw [ah (by simpa using e3)] at q;exists _,U,_,U,jJ,q
     . rw [ae (by simpa using e3)] at q;exists _,U,_,U,_,U,_,_,U,jJ,?_;rw [BH];exact q
def yM:SP:=λK c vs H Q _=> ∃o a aG a1 b1 a2 b2,vs= [.str (aR (binName o)),.ref a]/\cz K H a aG/\A2 (yr K H) aG [.num a1 b1,.num a2 b2]/\Fd o=false/\kn (.num a1 b1)/\kn (.num a2 b2)/\∀p H',aq H H'->H' p=some (.tup [.int (mM o a1 b1 a2 b2).1,.int (mM o a1 b1 a2 b2).2])->Q (.ref p) H'
def yN:AA.h0 2 "ends_of_two" ["word","kinds"] yM:=by
 nomatch ["word","kinds","a","b","c","d","products"]
 obtain ⟨o,a,aG,a1,b1,a2,b2,rfl,hs,hA,hg,w1,w2,q⟩:=h;nomatch 2,2,eD,bR,3,dM,bR,4,eD,bR,5,dM,bR,bK,dY,dY,bK,jm,jm,bK,aM (uO rfl) ?_,aM (uO rfl) ?_,bK,aM (pF rfl) ?_,aM (pF rfl) ?_,6,xF,xF,xF,xF,aM (O0 rfl) ?_,aM (OZ rfl) ?_
 obtain ⟨v0,h0,r0,rfl,hk0⟩:=hA.get' (i:=0) (a:=VaprbBase.Kind.num a1 b1) rfl;obtain ⟨v1,h1,r1,rfl,hk1⟩:=hA.get' (i:=1) (a:=VaprbBase.Kind.num a2 b2) rfl;exists _,U,a,aG,0,_,U,U,hs,dz (i:=0) h0,r0,a1,b1,U,hk0,?_;exists _,U,a,aG,0,_,U,U,hs,dz (i:=0) h0,r0,a1,b1,U,hk0,?_;exists _,U,a,aG,1,_,U,U,hs,dz (i:=1) h1,r1,a2,b2,U,hk1,?_;exists _,U,a,aG,1,_,U,U,hs,dz (i:=1) h1,r1,a2,b2,U,hk1,?_;have fin:∀(x y:Int) p,H p=none->(mM o a1 b1 a2 b2)=(x,y)->Q (.ref p) (upd H p (.tup [.int x,.int y])):=λx y p hp e=>q p _ (aq.upd hp) (by rw [aa,e]);cases o with
 | add=>exists _,U,U,_,U,bD U #[_,U,_,U,_,_,U,U,_,U,_,U,_,_,U,U,jJ,λp hp=>fin _ _ p hp U]
 | sub=>exists _,U,U,_,U,aF U #[_,U,U,_,U,bD U #[_,U,_,U,_,_,U,U,_,U,_,U,_,_,U,U,jJ,λp hp=>fin _ _ p hp U]]
 | min=>
  exists _,U,U,_,U,aF U #[_,U,U,_,U,aF U #[_,U,U,_,U,bD U ?_]];exists _,U,_,U,_,_,U,_,U,_,U,_,_,U,jJ,λp hp=>fin _ _ p hp (by rw [Ff,Ff];rfl)
 | max=>
  exists _,U,U,_,U,aF U #[_,U,U,_,U,aF U #[_,U,U,_,U,aF U #[_,U,U,_,U,bD U ?_]]];exists _,U,_,U,_,_,U,_,U,_,U,_,_,U,jJ,λp hp=>fin _ _ p hp (by rw [BH,BH];rfl)
 | mul=>
  exists _,U,U,_,U,aF U #[_,U,U,_,U,aF U #[_,U,U,_,U,aF U #[_,U,U,_,U,aF U ?_]]];have w1: -1000<=a1/\a1<=b1/\b1<=1000/\b1<=a1+63:=w1;have c1:∀x y:Int,-1000<=x->x<=1000->LU x y:=λx y h1 h2=> .inl #[by omega,by omega];exists _,U,_,U,_,_,U,U,c1 _ _ (by omega) (by omega),_,U,_,U,_,_,U,U,c1 _ _ (by omega) (by omega),_,U,_,U,_,_,U,U,c1 _ _ (by omega) (by omega),_,U,_,U,_,_,U,U,c1 _ _ (by omega) (by omega),jJ,λD hD=>?_;exists _,U,D,[a1 * a2,a1 * b2,b1 * a2,b1 * b2],U,cz.of aa,(by show 0 < 4;decide),λm hm hmin=>?_;exists _,U,D,[a1 * a2,a1 * b2,b1 * a2,b1 * b2],U,cz.of aa,(by show 0 < 4;decide),λm2 hm2 UP=>?_;exists jJ,λp hp=>q p _ ((aq.upd hD).trans (aq.upd hp)) ?_;rw [aa];simp only [aE,cU,fZ,forall_eq_or_imp,forall_eq] at hm hmin hm2 UP;have e1:m=(mM .mul a1 b1 a2 b2).1:=by show m=min (min (a1 * a2) (a1 * b2)) (min (b1 * a2) (b1 * b2));omega
  have e2:m2=(mM .mul a1 b1 a2 b2).2:=by show m2=max (max (a1 * a2) (a1 * b2)) (max (b1 * a2) (b1 * b2));omega
  rw [e1,e2]
 | lt=>cases hg
 | le=>cases hg
 | eq=>cases hg
 | and=>cases hg
 | or=>cases hg
def zip_get {l:List α} {m:List β} {a:α} {b:β} (h1:l[i]? = some a) (h2:m[i]? = some b):(l.zip m)[i]? = some (a,b):=by
 rw [List.getElem?_zip_eq_some];exists h1,h2
def iq.place (g:gd e 0) (h:iq K c H v e):∃a dx fs,v= .ref a/\H a=some (.ins c.ex dx fs)/\fs.lookup ("place" :Str)=some (V.int (e.place:Nat)):=by
 obtain ⟨a,pl,ps,rfl,⟨dx,fl,bv,fs,hN,_⟩,_⟩:=h.view g;exists a,dx,_,U,hN,U
def AD (K:Frag) (H:Hp) (Q:VK):Kd->Prop:=λk=> ∀a H',aq H H'->gS K H' a (kT k)->Q (.ref a) H'
def Fg:Ex->List Kd->Except Fault Kd
 | .un q o x,[k]=>unKind q o k x.place
 | .bin q o x y,[k,l]=>binKind q o k l x.place y.place
 | _,_=> .ok .flag
def Fh:Ex->Kd->Int
 | .un _ o _,_=>Kk o
 | .bin _ o _ _,k=>Kl o k
 | _,_=>0
def MP:Ex->Bool
 | .un _ o _=>HK o
 | .bin _ o _ _=>Fd o
 | _=>true
def yO:SP:=λK c vs H Q E=> ∃a pl e qa ps es kb aG k0 ks,vs= [.ref a,.ref qa,.ref kb]/\Node K c H a pl e/\cz K H qa ps/\A2 (iq K c H) ps es/\(∀x∈es,gd x 0)/\cz K H kb aG/\A2 (yr K H) aG (k0 :: ks)/\(k0 :: ks).length=es.length/\aN c.cf E H (aroundAll e.place k0 ((k0 :: ks).zip (es.map Vaprbb.Expr.place))) (AD K H Q)
def oz:AA.hF 5 "joined_kind" ["expression","parts","kinds"] yO:=by
 nomatch ["expression","parts","kinds","joined","part","kind","low","high"]
 obtain ⟨a,pl,e,qa,ps,es,kb,aG,k0,ks,rfl,⟨dx,fl,bv,fs,hN,_⟩,hsp,hA,hg,hsk,hB,hlen,q⟩:=h;nomatch 2,3,bR,Ba,AX rfl (fP (bL 4) (fP (bL 5) rT)),gz,gU,bK,gU,T.jp,6,aM (uO rfl) ?_,eD,eD,7,aM (pF rfl) ?_,dM,dM,3,ju,0
 obtain ⟨v0,h0,r0,rfl,hk0⟩:=hB.get' (i:=0) (a:=k0) rfl;exists _,U,kb,aG,0,_,U,U,hsk,dz (i:=0) h0,?_;have la:=hA.len;have lb:=hB.len;exists _,U,_,U,qa,kb,ps,aG,U,hsp,hsk,Bf (K:=K) (a:=qa) (b:=kb) (xs:=ps) (ys:=aG) (λi σ H'=> ∃(ja:Addr) (jk:Kd) (v4 v5 v6 v7:Option V),σ= [some (.ref a),some (.ref qa),some (.ref kb),some (.ref ja),v4,v5,v6,v7]/\aq H H'/\gS K H' ja (kT jk)/\aN c.cf E H (aroundAll e.place jk (((k0 :: ks).zip (es.map Vaprbb.Expr.place)).drop i)) (AD K H Q))
  #[r0,k0,none,none,none,none,rfl,aq.refl _,hk0,q] (by omega) (λi σ H' #[_,_,_,_,_,_,_,s,_]=>#[s.seq hsp,s.seq hsk]) ?_ ?_
 . rintro i x y T' σ H' hx hy ⟨ja,jk,v4,v5,v6,v7,rfl,s,hj,q⟩ hT;obtain ⟨ex,hex,Iq⟩:=hA.get hx;obtain ⟨k,hk,ka,rfl,hka⟩:=hB.get hy;have hz:=zip_get hk (show (es.map Vaprbb.Expr.place)[i]? = some ex.place by rw [bz,hex];rfl);rw [dZ hz] at q;have q:aN c.cf E H (if alike jk k=false then .error #[8,ex.place] else around e.place jk k >>= λm=>aroundAll e.place m (((k0 :: ks).zip (es.map Vaprbb.Expr.place)).drop (i+1))) (AD K H Q):=q;have s2:aq H (upd H' T' (.tup [x,.ref ka])):=s.trans (aq.upd hT);have hj2:=gS.Y (c:=c) hj (aq.upd (o:= .tup [x,.ref ka]) hT).Y;have hk2:=gS.Y (c:=c) hka s2.Y;obtain ⟨ax,Qv,Qw,rfl,hax,gQ⟩:=iq.place (hg ex (bc hex)) (Iq.Y C s2.Y);have hN2:=s2 _ _ hN;exists T',[.ref ax,.ref ka],U,.inl (.inl aa),U,_,_,U,_,_,U,U,?_;exists _,U,_,U,ja,jk,U,hj2,_,U,fr hax gQ #[ka,k,C1 jk,ex.place,U,hk2,λes'=>?_,λes'=>?_]
   . rw [u9,ae (by simp [es'])] at q;exists _,U,ja,jk,U,hj2,U,_,U,?_;cases jk with
     | flag=>
      cases k with
      | num lo hi=>cases es'
      | flag=>exact aF rfl #[ja,.flag,_,_,_,_,rfl,s2,hj2,q]
     | num lo hi=>
      cases k with
      | flag=>cases es'
      | num lo2 hi2=>
       refine bD rfl ?_;exists _,U,ja,lo,hi,U,hj2,_,U,ka,lo2,hi2,U,hk2,lo,lo2,U,?_;exists _,U,ja,lo,hi,U,hj2,_,U,ka,lo2,hi2,U,hk2,hi,hi2,U,?_;rw [Ff,BH];have q:aN c.cf E H (numKind e.place (min lo lo2) (max hi hi2) >>= λm=>aroundAll e.place m (((k0 :: ks).zip (es.map Vaprbb.Expr.place)).drop (i+1))) (AD K H Q):=q;exists _,U,_,U,_,U,fr hN2 U #[_,_,e.place,U,?_];cases hnk:numKind e.place (min lo lo2) (max hi hi2) with
       | error f=>rw [hnk] at q;exact jo.on q s2
       | ok m=>
        rw [hnk] at q;exact λp hp=>#[p,m,_,_,_,_,rfl,s2.trans (aq.upd hp),.inl (.inl aa),q]
   . rw [u9,ah (by simpa using bY es')] at q;exact jo.on q s2
 . rintro σ H' ⟨ja,jk,v4,v5,v6,v7,rfl,s,hj,q⟩;have hd:((k0 :: ks).zip (es.map Vaprbb.Expr.place)).drop ps.length= []:=jd (by rw [ph,aB];omega);rw [hd] at q;exists _,U,q ja H' s hj
def wQ:SP:=λK c vs H Q E=> ∃a pl e ps es kb aG ks fv f,vs= [.ref a,.ref kb,fv]/\Node K c H a pl e/\FL H pl ps/\A2 (iq K c H) ps es/\(∀x∈es,gd x 0)/\cz K H kb aG/\A2 (yr K H) aG ks/\E4 K c H fv f/\ks.length=es.length/\ks.length=f.params.length/\f.params.length<=4/\aN c.cf E H (argsHeld (ks.zip (es.map Vaprbb.Expr.place)) f.params >>= λ_=> .ok f.result) (AD K H Q)
def wR:AA.hF 6 "kind_of_call" ["expression","kinds","function"] wQ:=by
 nomatch ["expression","kinds","function","k"]
 obtain ⟨a,pl,e,ps,es,kb,aG,ks,fv,f',rfl,⟨dx,fl,bv,fs,hN,_⟩,fp,hA,hg,hsk,hB,hF,hl1,hl2,h4,q⟩:=h;nomatch 2,G7,aM aJ,3,iJ,bR,bR,bR,0
 obtain ⟨af,Yc,Xb,kv,Yd,Xc,rfl,haf,Xd,VU,⟨rk,rfl,hrk⟩,_⟩:=hF;have la:=hA.len;have lb:=hB.len;have lf:=VU.len;exists _,U,kb,aG,U,.inl hsk,(aG.length:Int),U,by omega,by omega,Gh aG.length (λi σ H'=> ∃v3:Option V,σ= [some (.ref a),some (.ref kb),some (.ref af),v3]/\H'=H/\aN c.cf E H (argsHeld ((ks.zip (es.map Vaprbb.Expr.place)).drop i) (f'.params.drop i) >>= λ_=> .ok f'.result) (AD K H Q))
  #[none,rfl,rfl,q] (λi σ H' hi _=>(by show i < (aG.length:Int).toNat;omega)) (λσ H' _=>(by show (aG.length:Int).toNat<=aG.length;omega)) ?_ ?_
 . rintro i x σ H1 H' hi ⟨v3,rfl,rfl,q⟩ ⟨rfl,rfl⟩;obtain ⟨k,hk,ka,hkv,hka⟩:=hB.get (i:=i) (bB hi);obtain ⟨vx,Xe,Iq⟩:=hA.get' (i:=i) (bB (show i < es.length by omega));obtain ⟨vp,Xf,UQ⟩:=VU.get' (i:=i) (bB (show i < f'.params.length by omega));obtain ⟨ap,Ye,UR,rfl,hap,ak,rfl,hak⟩:=UQ;obtain ⟨ax,Qv,Qw,rfl,hax,gQ⟩:=iq.place (hg _ (o6 _)) Iq;have hz:=zip_get hk (show (es.map Vaprbb.Expr.place)[i]? = some es[i].place by rw [bz,bB (show i < es.length by omega)];rfl);have hpd:f'.params.drop i=f'.params[i] :: f'.params.drop (i+1):=dZ (bB _);rw [dZ hz,hpd] at q;have q:aN c.cf E H' ((held k f'.params[i].kind es[i].place >>= λ_=>argsHeld ((ks.zip (es.map Vaprbb.Expr.place)).drop (i+1)) (f'.params.drop (i+1))) >>= λ_=> .ok f'.result) (AD K H' Q):=q;rw [bn] at q;have hki:aG[i]? = some (.ref ka):=by rw [bB hi,hkv]
   have e0:(0:Int)+(i:Int)=(i:Int):=by omega
   show xC 3 (.int (0+(i:Int))) _ _ _;rw [e0];exists _,U,_,U,kb,aG,i,_,U,U,hsk,dz hki,_,U,fr haf U #[_,U,Xb,Xc,i,_,U,U,Xd.sq,dz Xf,fr hap U #[_,U,fr hN U #[_,U,pl,ps,i,_,U,U,fp.sq,dz Xe,fr hax gQ #[ka,ak,k,f'.params[i].kind,es[i].place,U,hka,hak,?_]]]];exact aN.step q λ_ _ q=>#[_,rfl,rfl,q]
 . rintro σ H' ⟨v3,rfl,rfl,q⟩;have hd:(ks.zip (es.map Vaprbb.Expr.place)).drop aG.length= []:=jd (by rw [ph,aB];omega);rw [hd] at q;exists _,U,fr haf U (q rk H' (aq.refl _) hrk)
def BI:Ex->List Kd->Except Fault Kd
 | .un q o _,[k]=>Fe q o k
 | .bin q o _ _,[k,l]=>BF q o k l
 | _,_=> .ok .flag
def Kp (e:Ex) (ks:List Kd):=(∃q o x k,e= .un q o x/\ks= [k])\/(∃q o x y k l,e= .bin q o x y/\ks= [k,l])
def MQ (h:Kp e ks) (hw:∀k∈ks,kn k):Fg e ks=(lH (Fh e (ks.head?.getD .flag)) (ks.zip ((kids e).map Vaprbb.Expr.place)) >>= λ_=>BI e ks):=by
 rcases h with ⟨q,o,x,k,rfl,rfl⟩ | ⟨q,o,x,y,k,l,rfl,rfl⟩
 . exact VS (hw k bi)
 . exact RR
def Kq (h:Kp e ks) (k0:Kd):yJ (nZ e) k0=Fh e k0:=by
 rcases h with ⟨q,o,x,k,rfl,rfl⟩ | ⟨q,o,x,y,k,l,rfl,rfl⟩
 . exact MN o k0
 . exact Kn o k0
def Kr (h:Kp e ks):inV (.str (nZ e)) (jR ["not","and","or","lt","le","eq"])=MP e:=by
 rcases h with ⟨q,o,x,k,rfl,rfl⟩ | ⟨q,o,x,y,k,l,rfl,rfl⟩
 . exact MO o
 . exact Ko o
def PR (o:Un):decide (V.str (aR (unName o))=V.str "neg")=isNeg o:=by cases o <;> rfl
def oA:SP:=λK c vs H Q E=> ∃a pl e ps kb aG ks,vs= [.ref a,.ref kb]/\gd e 0/\Node K c H a pl e/\FL H pl ps/\A2 (iq K c H) ps (kids e)/\cz K H kb aG/\A2 (yr K H) aG ks/\(∀k∈ks,kn k)/\Kp e ks/\aN c.cf E H (Fg e ks) (AD K H Q)
def oB:AA.hF 5 "kind_of_operation" ["expression","kinds"] oA:=by
 nomatch ["expression","kinds","wanted","part","kind","ends"]
 obtain ⟨a,pl,e,ps,kb,aG,ks,rfl,hgd,⟨dx,fl,bv,fs,hN,_⟩,fp,hA,hsk,hB,hwf,hop,q⟩:=h;nomatch 2,2,zM,Ba,AX rfl (fP (bL 3) (fP (bL 4) rT)),gz,eC,fB T.sm,fB T.x3,5,bK,aM aJ,yL,yN,ju,gu,gu
 rw [MQ hop hwf] at q;have kg:∃k0 kr,ks=k0 :: kr/\ks.length=(kids e).length:=by
  rcases hop with ⟨q,o,x,k,rfl,rfl⟩ | ⟨q,o,x,y,k,l,rfl,rfl⟩
  . exists k,[],U,U
  . exists k,[l],U,U
 obtain ⟨k0,kr,hks,hkl⟩:=kg;have hd0:ks.head?.getD .flag=k0:=by rw [hks];rfl
 rw [hd0] at q;have la:=hA.len;have lb:=hB.len;exists _,U,fr hN U #[_,U,_,kb,aG,k0,kr,U,hsk,hks ▸ hB,?_];rw [Kq hop];generalize N':Fh e k0=want at q;exists _,U,fr hN U ⟨_,U,pl,kb,ps,aG,U,fp.sq,hsk,Bf (K:=K) (a:=pl) (b:=kb) (xs:=ps) (ys:=aG) (λi σ H'=> ∃(v3 v4:Option V),σ= [some (.ref a),some (.ref kb),some (.int want),v3,v4,none]/\aq H H'/\(∀x∈(ks.zip ((kids e).map Vaprbb.Expr.place)).take i,C1 x.1=want)/\aN c.cf E H (lH want ((ks.zip ((kids e).map Vaprbb.Expr.place)).drop i) >>= λ_=>BI e ks) (AD K H Q))
  #[none,none,rfl,aq.refl _,λx hx=>(cU hx).elim,q] (by omega) (λi σ H' #[_,_,_,s,_]=>#[s.seq fp.sq,s.seq hsk]) ?_ ?_⟩
 . rintro i x y T' σ H' hx hy ⟨v3,v4,rfl,s,hall,q⟩ hT;obtain ⟨ex,hex,Iq⟩:=hA.get hx;obtain ⟨k,hk,ka,rfl,hka⟩:=hB.get hy;have hz:=zip_get hk (show ((kids e).map Vaprbb.Expr.place)[i]? = some ex.place by rw [bz,hex];rfl);rw [dZ hz] at q;have q:aN c.cf E H ((if C1 k=want then lH want ((ks.zip ((kids e).map Vaprbb.Expr.place)).drop (i+1)) else .error #[8,ex.place]) >>= λ_=>BI e ks) (AD K H Q):=q;have s2:aq H (upd H' T' (.tup [x,.ref ka])):=s.trans (aq.upd hT);have hk2:=gS.Y (c:=c) hka s2.Y;obtain ⟨ax,Qv,Qw,rfl,hax,gQ⟩:=iq.place (eB hgd ex (bc hex)).1 (Iq.Y C s2.Y);exists T',[.ref ax,.ref ka],U,.inl (.inl aa),U,_,_,U,_,_,U,U,?_;exists _,U,_,U,_,U,fr hax gQ #[ka,k,want,ex.place,U,hk2,λes'=>?_,λes'=>?_]
   . rw [ah es'] at q;exists _,_,U,s2,λz hz'=>?_,q;rw [jF hz] at hz';rcases ci.mp hz' with hz' | hz'
     . exact hall z hz'
     . rw [ej] at hz';subst hz';exact es'
   . rw [ae es'] at q;exact jo.on q s2
 . rintro σ H' ⟨v3,v4,rfl,s,hall,q⟩;have Qp:(ks.zip ((kids e).map Vaprbb.Expr.place)).length=ps.length:=by rw [ph,aB];omega
   have hd:(ks.zip ((kids e).map Vaprbb.Expr.place)).drop ps.length= []:=jd (by omega);rw [hd] at q;rw [<-Qp,cM] at hall;have q:aN c.cf E H (BI e ks) (AD K H Q):=q;have hN':=s _ _ hN;have MR:=s.seq hsk;have hB':A2 (yr K H') aG ks:=hB.mono λ_ _ z=>z.same s;exists _,U,fr hN' U #[g.gives,_,U,.inr (T.so.sq _),U,gi _,_,U,?_];rw [ae aO,Kr hop];rcases hop with ⟨qp,o,x,k,rfl,rfl⟩ | ⟨qp,o,x,y,k,l,rfl,rfl⟩
   . have q:aN c.cf E H (if HK o=true then .ok .flag else match k with | .num lo hi=>numKind qp (mL (isNeg o) lo hi).1 (mL (isNeg o) lo hi).2 | .flag=> .ok .flag) (AD K H Q):=q;refine bG (λe1=>?_) λe1=>?_
     . have e1:HK o=true:=e1;rw [ah e1] at q;exact q g.flag H' s (T.qM.sq _)
     . have e1:HK o=false:=e1;rw [ae (by rw [e1];exact aO)] at q;have hs1:C1 k=want:=hall (k,x.place) (by simp [kids]);have hw1:want=1:=by rw [<-N'];cases o <;> first | rfl | cases e1
       obtain ⟨lo,hi,rfl⟩:=BG (hs1.trans hw1);exists _,U,kb,aG,U,.inl MR,U,_,U,bD (by have:aG.length=1:=lb;rw [this];rfl) ?_;exists _,U,fr hN' U #[_,U,_,kb,aG,lo,hi,U,MR,hB',λp hp=>?_];have sp:=aq.upd (o:= .tup [.int (mL (decide (V.str (nZ (.un qp o x))=V.str "neg")) lo hi).1,.int (mL (decide (V.str (nZ (.un qp o x))=V.str "neg")) lo hi).2]) hp;exists _,U,p,_,_,_,U,U,.inl (.inl aa),U,_,U,p,_,_,_,U,U,.inl (.inl aa),U,_,U,fr (sp _ _ hN') U #[_,_,qp,U,?_];have hneg:decide (V.str (nZ (.un qp o x))=V.str "neg")=isNeg o:=PR o;rw [hneg];exact aN.imp (aN.on q (s.trans (hneg ▸ sp))) λm _ k p2 hp2=>k p2 _ ((s.trans (hneg ▸ sp)).trans (aq.upd hp2)) (.inl (.inl aa))
   . have q:aN c.cf E H (if Fd o=true then .ok .flag else match k,l with | .num a1 b1,.num a2 b2=>numKind qp (mM o a1 b1 a2 b2).1 (mM o a1 b1 a2 b2).2 | _,_=> .ok .flag) (AD K H Q):=q;refine bG (λe1=>?_) λe1=>?_
     . have e1:Fd o=true:=e1;rw [ah e1] at q;exact q g.flag H' s (T.qM.sq _)
     . have e1:Fd o=false:=e1;rw [ae (by rw [e1];exact aO)] at q;have hs1:C1 k=want:=hall (k,x.place) (by simp [kids]);have hs2:C1 l=want:=hall (l,y.place) (by simp [kids]);have hw1:want=1:=by rw [<-N'];cases o <;> first | rfl | cases e1
       have wk:=hwf k (by simp);have wl:=hwf l (by simp);obtain ⟨a1,b1,rfl⟩:=BG (hs1.trans hw1);obtain ⟨a2,b2,rfl⟩:=BG (hs2.trans hw1);exists _,U,kb,aG,U,.inl MR,U,_,U,aF (by have:aG.length=2:=lb;rw [this];rfl) ?_;exists _,U,fr hN' U #[_,U,o,kb,aG,a1,b1,a2,b2,U,MR,hB',e1,wk,wl,λp H2 s2 hp=>?_];exists _,U,p,_,_,_,U,U,.inl (.inl hp),U,_,U,p,_,_,_,U,U,.inl (.inl hp),U,_,U,fr (s2 _ _ hN') U #[_,_,qp,U,?_];exact aN.imp (aN.on q (s.trans s2)) λm _ k p2 hp2=>k p2 _ ((s.trans s2).trans (aq.upd hp2)) (.inl (.inl aa))
abbrev mY:=Vaprbb.Env
variable {En:mY}
def yP (q:Nat) (Xg:List Nat) (ks:List Kd):Except Fault Kd:=match ks with
 | []=> .ok .flag
 | k :: r=>aroundAll q k ((k :: r).zip Xg)
def wj (p:Prog) (En:mY):∀l m:List Ex,dO p En (l++m)=(dO p En l >>= λks=>dO p En m >>= λr=> .ok (ks++r))
 | [],m=>by show dO p En m=(dO p En m >>= λr=> .ok r);cases dO p En m <;> rfl
 | e :: l,m=>by
  show (kindOf p En e >>= λk=>dO p En (l++m) >>= λks=> .ok (k :: ks))=((kindOf p En e >>= λk=>dO p En l >>= λks=> .ok (k :: ks)) >>= λks=>dO p En m >>= λr=> .ok (ks++r));rw [wj p En l m];simp only [bn];rfl
def tB (p:Prog) (En:mY) (e:Ex):dO p En [e]=(kindOf p En e >>= λk=> .ok [k]):=rfl
structure mv (p:Prog) (En:mY):Prop where
 e:∀n k,En.kind n=some k->kn k
 f:∀f∈p.funs,GF f
def mv.kind (h:mv p En) (g:gd e 0) (hk:kindOf p En e= .ok k):kn k:=(HL h.e (λf hf=>(h.f f hf).rk) e).1 g k hk
def mv.all (h:mv p En):∀{l:List Ex} {ks:List Kd},(∀e∈l,gd e 0)->dO p En l= .ok ks->∀k∈ks,kn k
 | [],ks,_,e,k,hk=>by cases e;cases hk
 | x :: l,ks,hg,e,k,hk=>by
  let #[k1,h1,e]:=aj e;let #[k2,h2,e]:=aj e;cases e;rcases aE.mp hk with rfl | hk
  . exact h.kind (hg x bi) h1
  . exact h.all (λy hy=>hg y (aW _ hy)) h2 k hk
def RT {o:Un} {a:Ex} (g:gd a 0):kindOf p En (.un q o a)=(dO p En [a] >>= λks=>match ks with | [k]=>unKind q o k a.place | _=> .ok .flag):=by
 rw [N_ g,tB];cases kindOf p En a <;> rfl
def PU {o:Bin} {a b:Ex}:kindOf p En (.bin q o a b)=(dO p En [a,b] >>= λks=>match ks with | [k,l]=>binKind q o k l a.place b.place | _=> .ok .flag):=by
 rw [Kj];show _=((kindOf p En a >>= λk=>(kindOf p En b >>= λk2=> .ok [] >>= λks=> .ok (k2 :: ks)) >>= λks=> .ok (k :: ks)) >>= _);cases kindOf p En a with
 | error f=>rfl
 | ok k=>cases kindOf p En b <;> rfl
def Ks (hW:mv p En) {w:VaprbBase.Frac} {a:Ex} (g:gd a 0):kindOf p En (.weigh q w a)=(dO p En [a] >>= yP q [a.place]):=by
 rw [Dt g,tB];cases h:kindOf p En a with
 | error f=>rfl
 | ok k=>
  show Except.ok k=aroundAll q k [(k,a.place)];rw [gE (hW.kind g h)];rfl
def MS (hW:mv p En) {x:Ex} (g:gd (.pick q x) 0):kindOf p En (.pick q x)=(dO p En (eK x) >>= yP q ((eK x).map Vaprbb.Expr.place)):=by
 rw [GH (by decide) g.2.1];have hc:∃y r,eK x=y :: r:=by
  cases x with
  | nil=>exact absurd rfl g.2.2
  | way a w r=>exists a,eK r,U
  | arg a r=>exact absurd g.2.1.1 (by decide)
  | lit p v=>cases v with | num n=>exact absurd g.2.1.1 (by decide) | flag b=>exact absurd (show (2:Nat)=0 from g.2.1) (by decide)
  | _=>exact absurd g.2.1.1 (by decide)
 obtain ⟨y,r,hc⟩:=hc;cases h:dO p En (eK x) with
 | error f=>rfl
 | ok ks=>
  have hl:=lG h;have hw:=hW.all (λe he=>(pQ g.2.1 e he).1) h;rw [hc] at hl ⊢;cases ks with
  | nil=>cases hl
  | cons k ks'=>
   show aroundAll q k (ks'.zip (r.map _))=aroundAll q k ((k,y.place) :: ks'.zip (r.map _));rw [gE (hw k bi)]
def MT (hW:mv p En) {d a b:Ex} (ga:gd a 0) (gb:gd b 0):kindOf p En (.cond q d a b)=(kindOf p En d >>= λk=>cr k d.place >>= λ_=>dO p En [a,b] >>= yP q [a.place,b.place]):=by
 rw [GC gb];refine aS λk=>aS λ_=>?_;show _=((kindOf p En a >>= λk=>(kindOf p En b >>= λk2=> .ok [] >>= λks=> .ok (k2 :: ks)) >>= λks=> .ok (k :: ks)) >>= _);cases h:kindOf p En a with
 | error f=>rfl
 | ok ka=>
  cases kindOf p En b with
  | error f=>rfl
  | ok kb=>
   show aroundAll q ka [(kb,b.place)]=aroundAll q ka [(ka,a.place),(kb,b.place)];rw [gE (hW.kind ga h)]
def Kt (hW:mv p En) {d a:Ex} (ga:gd a 0):kindOf p En (.given q d a)=(kindOf p En d >>= λk=>cr k d.place >>= λ_=>dO p En [a] >>= yP q [a.place]):=by
 rw [Ds ga];refine aS λk=>aS λ_=>?_;rw [tB];cases h:kindOf p En a with
 | error f=>rfl
 | ok ka=>
  show Except.ok ka=aroundAll q ka [(ka,a.place)];rw [gE (hW.kind ga h)];rfl
def RelK (K:Frag) (H:Hp):Option Kd->Option V->Prop
 | none,none=>True
 | some k,some v=>yr K H v k
 | _,_=>False
def Qx (K:Frag) (H:Hp) (d:Addr) (En:mY):= ∃aG,Rd H d (.dK aG)/\∀n,RelK K H (En.kind n) (cy aG (nk n))
def RelK.Y {k:Option Kd} {v:Option V} (h:RelK K H k v) (i:bX c H H'):RelK K H' k v:=by
 cases k <;> cases v <;> first | exact h | exact yr.Y h i
def Qx.same {d:Addr} (h:Qx K H d En) (s:aq H H'):Qx K H' d En:=by
 obtain ⟨aG,r,k⟩:=h;exists aG,?_,λn=>(k n).Y (c:=#[0,0,0,0,0,0,0,0,0,0,0,0,0]) s.Y;rcases r with e | ⟨o,e⟩
 . exact .inl (s _ _ e)
 . exact .inr #[o,s _ _ e]
def RU (p:Prog) (En:mY):Ex->Prop
 | .name _ n=>(En.kind n).isSome=true
 | .call _ f x=> ∃g,p.fun f=some g/\x.count=g.params.length
 | _=>True
def okN (p:Prog) (En:mY) (e:Ex):= ∀k∈subs e,RU p En k
def okN.kid {k:Ex} (g:gd e 0) (h:okN p En e) (hk:k∈kids e):okN p En k:=λx hx=>h x (by
 rw [gj g];exact aW _ (List.mem_flatMap.mpr #[k,hk,hx]))
def okN.self (g:gd e 0) (h:okN p En e):RU p En e:=h e (by rw [gj g];exact bi)
def vy:∀{l:List Ex} {u:Unit},dw p scope l= .ok u->∀k∈l,Fb p scope k= .ok ()
 | [],_,_,k,hk=>by cases hk
 | e :: l,u,h,k,hk=>by
  let #[_,h1,h]:=aj h;rcases aE.mp hk with rfl | hk
  . exact h1
  . exact vy h k hk
def BJ (hs:∀n,scope.contains n=(En.kind n).isSome) (h:Vaprbb.named p scope e= .ok u):okN p En e:=λk hk=>by
 rw [cw] at h;have:=vy h k hk;cases k with
 | name q n=>
  have:(if scope.contains n=true then .ok () else .error #[6,q]:Except Fault Unit)= .ok ():=this;split at this
  . rename_i hc;show (En.kind n).isSome=true;rw [<-hs];exact hc
  . cases this
 | call q f x=>
  have:gD p q f x= .ok ():=this;unfold gD at this;cases hf:p.fun f with
  | none=>rw [hf] at this;cases this
  | some g=>
   rw [hf] at this;have this:(if x.count≠g.params.length then .error #[13,q] else .ok ():Except Fault Unit)= .ok ():=this;split at this
   . cases this
   . rename_i hc;exists g,hf,Decidable.not_not.mp hc
 | _=>exact au
def S6 {qa:Addr} {H0:Hp} {ps:List V} {es:List Ex} {F:List Kd->Except Fault Kd} {ok:Kd->Prop} {g:TG} (C:CT K c) (hD:H1 D=none) (hs:cz K H1 qa ps) (hA:A2 (iq K c H1) ps es) (hz:ps.length<=4097) (s01:aq H0 H1) (q:aN cf E H0 (dO p En es >>= F) ok) (fU:∀(i:Nat) x e H' (R:VK),es[i]? = some e->aq H1 H'->iq K c H' x e->aN cf E H' (kindOf p En e) (AD K H' R)->g x (wipe σ vs) H' λσ2 H2=>wipe σ2 vs=wipe σ vs/\te σ2 H2 R) (hd:∀H' ws ks,aq H1 H'->H' D=some (.lst ws)->A2 (yr K H') ws ks->dO p En es= .ok ks->aN cf E H0 (F ks) ok->Qd H'):
 ∃W:Nat->Nat->Hp->Prop,(∃m,W 0 m (upd H1 D (.lst [])))/\∀i m H,W i m H->
  ((Cp K qa).stop i H/\Qd H)\/((Cp K qa).go i H/\∃Nx:Hp->Prop,(∀H',Nx H'->∃m',m' < m/\W (i+1) m' H')/\∀x H',(Cp K qa).D6 i H x H'->g x (wipe σ vs) H' λσ2 H2=>wipe σ2 vs=wipe σ vs/\Hb σ2 H2 λb H3=>
   if b=true then te σ2 H3 λy H4=> ∃acc,H4 D=some (.lst acc)/\acc.length < sizeLine/\Nx (upd H4 D (.lst (acc++ [y]))) else Nx H3):=by
 have hl:=hA.len;refine A_ (K:=K) (a:=qa) (xs:=ps) (λi H'=>aq H1 H'/\∃ws ks,H' D=some (.lst ws)/\ws.length=i/\A2 (yr K H') ws ks/\dO p En (es.take i)= .ok ks/\aN cf E H0 (dO p En (es.drop i) >>= λr=>F (ks++r)) ok) #[aq.upd hD,[],[],aa,rfl,au,rfl,q] (λi H _ p=>p.1.seq hs) ?_ ?_
 . rintro i x H' hi ⟨s,ws,ks,hw,hwl,hB,hk,q⟩;obtain ⟨e,he,hx⟩:=hA.get hi;have gZ:i < ps.length:=(bj.mp hi).1;rw [dZ he] at q;have q:aN cf E H0 ((kindOf p En e >>= λk=>dO p En (es.drop (i+1)) >>= λr=> .ok (k :: r)) >>= λr=>F (ks++r)) ok:=q;rw [bn] at q;have:=fU i x e H' (λy H4=> ∃acc,H4 D=some (.lst acc)/\acc.length < sizeLine/\(aq H1 (upd H4 D (.lst (acc++ [y])))/\∃ws ks,upd H4 D (.lst (acc++ [y])) D=some (.lst ws)/\ws.length=i+1/\A2 (yr K (upd H4 D (.lst (acc++ [y])))) ws ks/\dO p En (es.take (i+1))= .ok ks/\aN cf E H0 (dO p En (es.drop (i+1)) >>= λr=>F (ks++r)) ok)) he s (hx.Y C s.Y) ?_
   . exact this
   . refine aN.imp (ok:=λk=>kindOf p En e= .ok k/\aN cf E H0 ((dO p En (es.drop (i+1)) >>= λr=> .ok (k :: r)) >>= λr=>F (ks++r)) ok) (aN.step (aN.on q (s01.trans s)) λk ek _=>#[ek,?_]) λk _ #[ek,q] a H2 s2 hk2=>?_
     . rw [ek] at q;exact q
     have hw2:=s2 _ _ hw;have dJ:bX c H2 (upd H2 D (.lst (ws++ [.ref a]))):=bX.upd hw2 rfl;exists ws,hw2,by have:=aV;omega,(s.trans s2).bM hD,_,ks++ [k],aa,by rw [ao,hwl];rfl,(hB.mono λ_ _ z=>(z.same s2).Y dJ).snoc #[a,rfl,gS.Y hk2 dJ],?_,?_
     . rw [jF he,wj,hk,tB,ek];rfl
     . rw [bn] at q;simp only [bw];exact q
 . rintro H' ⟨s,ws,ks,hw,hwl,hB,hk,q⟩;rw [hl,cM] at hk;rw [hl,fK] at q;have q:aN cf E H0 (F (ks++ [])) ok:=q;rw [bH] at q;exact hd H' ws ks s hw hB hk q
def yQ (n:Nat):SP:=λK c vs H Q E=> ∃v e d nd p En,vs= [v,.ref d,.ref nd]/\gd e 0/\dep e<=n/\sz e<=4097/\iq K c H v e/\Qx K H d En/\Kg K c H nd p.funs/\okN p En e/\mv p En/\aN c.cf E H (kindOf p En e) (AD K H Q)
abbrev lI (n:Nat):=AA.hF (7+2 * n+1) "kind_of" ["expression","known","named"] (yQ n)
def isQ (e:Ex) (d:Ex) (r:List Ex):=(∃q a b,e= .cond q d a b/\r= [a,b])\/(∃q a,e= .given q d a/\r= [a])
def isQ.kids {d:Ex} {r:List Ex} (h:isQ e d r):kids e=d :: r:=by
 rcases h with ⟨q,a,b,rfl,rfl⟩ | ⟨q,a,rfl,rfl⟩ <;> rfl
def isQ.kind {d:Ex} {r:List Ex} (h:isQ e d r) (g:gd e 0) (hW:mv p En):kindOf p En e=(kindOf p En d >>= λk=>cr k d.place >>= λ_=>dO p En r >>= yP e.place (r.map Vaprbb.Expr.place)):=by
 rcases h with ⟨q,a,b,rfl,rfl⟩ | ⟨q,a,rfl,rfl⟩
 . exact MT hW g.2.2.1 g.2.2.2
 . exact Kt hW g.2.2
def lJ (n:Nat):SP:=λK c vs H Q E=> ∃a e q r d nd p En,vs= [.ref a,.ref d,.ref nd]/\isQ e q r/\gd e 0/\dep e<=n+1/\sz e<=4097/\iq K c H (.ref a) e/\Qx K H d En/\Kg K c H nd p.funs/\okN p En e/\mv p En/\aN c.cf E H (kindOf p En e) (AD K H Q)
abbrev gF (n:Nat):=AA.hF (8+2*n+1) "kind_behind_question" ["expression","known","named"] (lJ n)
def lK (n:Nat) (pR:lI AA n):gF AA n:=by
 nomatch ["expression","known","named","question","parts","kinds","part"]
 obtain ⟨a,e,qe,r,d,nd,p,En,rfl,hQ,hg,hd,hz,hv,hk,hn,bQ,hW,q⟩:=h;nomatch 2,3,bR,gz,dv pR ?_,T.jS,4,rV xa (ca (pv 0)) (lU uJ) L3,Ao gn 5 (bE (pv 4)) [("part",6)] (λ_ _ _ _ _=>(bL 6)) (λ_ _ _ _ _=>(dv pR (aI (pv 6) (aI (pv 1) (pU (pv 2)))) (hx:=NP))),oz
 rw [hQ.kind hg hW] at q;obtain ⟨a',pl,ps,e0,Jl,fp,hA⟩:=hv.view hg;cases e0;obtain ⟨dx,fl,bv,fs,hN,_⟩:=id Jl;rw [hQ.kids] at hA;obtain ⟨v0,h0,hq0⟩:=hA.get' (i:=0) (a:=qe) rfl;have hmem:∀x∈qe :: r,x∈kids e:=λx hx=>by rw [hQ.kids];exact hx
 obtain ⟨gq,dq,zq⟩:=eB hg qe (hmem qe bi);exists _,U,fr hN U #[pl,ps,0,_,U,U,fp.sq,dz (i:=0) h0,?_];exists _,U,_,U,_,U,v0,qe,d,nd,p,En,U,gq,by omega,by omega,hq0,hk,hn,bQ.kid hg (hmem qe bi),hW,?_;refine aN.step q λk0 Yf q ka H1 s1 hka=>?_;obtain ⟨ax,Qv,Qw,rfl,hax,gQ⟩:=iq.place gq (hq0.Y C s1.Y);exists _,U,fr hax gQ #[ka,k0,0,qe.place,U,hka,λes=>?_,λes=>?_];rotate_left 1
 . have:cr k0 qe.place= .error #[8,qe.place]:=by
    unfold cr;rw [pL,ah (by cases k0 with | flag=>exact absurd rfl es | num lo hi=>rfl)]
   rw [this] at q;exact jo.on q s1
 have ha:cr k0 qe.place= .ok ():=by
  unfold cr;rw [pL,ae (by rw [es];decide)]
 rw [ha] at q;have q:aN c.cf E H (dO p En r >>= yP e.place (r.map Vaprbb.Expr.place)) (AD K H Q):=q;have Xh:=s1 _ _ hN;exists _,U,fr Xh U #[1,U,pl,ps,U,(fp.app s1).sq,λB hB=>?_];have hps:∃r1 rs,ps=r1 :: rs/\A2 (iq K c H) rs r:=by
  cases ps with
  | nil=>exact hA.elim
  | cons x rs=>exists x,rs,U,hA.2
 obtain ⟨r1,rs,rfl,UT⟩:=hps;have lr:=UT.len;have hr2:r.length<=2/\∃y ys,r=y :: ys:=by rcases hQ with ⟨q,a,b,rfl,rfl⟩ | ⟨q,a,rfl,rfl⟩ <;> exists by show _<=2;simp,_,_,rfl
 have UU:uQ (r1 :: rs) (some 1) none=rs:=by
  rcases hQ with ⟨q,a,b,rfl,rfl⟩ | ⟨q,a,rfl,rfl⟩
  . obtain ⟨x,y,rfl⟩:=HB (l:=rs) lr;rfl
  . obtain ⟨x,rfl⟩:=IC (l:=rs) lr;rfl
 rw [UU];have sB:=aq.upd (o:= .lst rs) hB;have s2:=s1.trans sB;exists _,U,B,U,#[rs,cz.of aa],λD hD=>?_;refine S6 (c:=c) (cf:=c.cf) (E:=E) (H0:=H) C hD (cz.of aa) (UT.mono λ_ _ z=>z.Y C s2.Y) (by omega) s2 q (λi x ee H' R he s' hx qq=>?_) λH' ws ks s' hw hB' hks q=>?_
 . have hm:=hmem ee (aW _ (bc he));obtain ⟨ge,de,ze⟩:=eB hg ee hm;have ss:=s2.trans s';exists U,_,U,_,U,_,U,x,ee,d,nd,p,En,U,ge,by omega,by omega,hx,hk.same ss,hn.Y C ss.Y,bQ.kid hg hm,hW,qq
 have lk:=lG hks;obtain ⟨_,y,ys,Xi⟩:=hr2;have ss:=s2.trans s';obtain ⟨k1,kr,rfl⟩:∃k1 kr,ks=k1 :: kr:=by
  cases ks with
  | nil=>rw [Xi] at lk;cases lk
  | cons k1 kr=>exists k1,kr,U
 exists _,U,_,U,_,U,a,pl,e,B,rs,r,D,ws,k1,kr,U,Jl.Y C ss.Y,cz.of (s' _ _ aa),UT.mono λ_ _ z=>z.Y C ss.Y,λx hx=>(eB hg x (hmem x (aW _ hx))).1,cz.of hw,hB',lk,?_;exact aN.imp (aN.on q ss) λm _ k a2 H2 s3 h3=>k a2 H2 (ss.trans s3) h3
def S7 (e:Ex) (l:List Str):= ∀s∈l,decide (V.str (eF e)=V.str s)=false
def Ku:List Str:= ["truth","flip","number","uniform","name"]
def Kv (hW:mv p En) (g:gd e 0):(∃q b,e= .lit q (.flag b))\/(∃q n,e= .lit q (.num n))\/(∃q f,e= .flip q f)\/(∃q lo hi,e= .uniform q lo hi)\/(∃q n,e= .name q n)\/(∃q f x,e= .call q f x)\/
 (∃d r,isQ e d r/\S7 e Ku/\(decide (V.str (eF e)=V.str "if") || decide (V.str (eF e)=V.str "given"))=true)\/
 ((∀ks:List Kd,ks.length=(kids e).length->Kp e ks)/\kindOf p En e=(dO p En (kids e) >>= Fg e)/\S7 e (Ku++(["if","given","call"]:List Str))/\decide (V.str (eF e)=V.str "operation")=true)\/
 (kindOf p En e=(dO p En (kids e) >>= yP e.place ((kids e).map Vaprbb.Expr.place))/\kids e≠ []/\S7 e (Ku++(["if","given","call","operation"]:List Str))):=by
 have Qy:∀{e:Ex} (l:List Str),(l.all λs=>!decide (V.str (eF e)=V.str s))=true->S7 e l:=λl h s hs=>by
  have:=c7.mp h s hs;simpa using this
 cases e with
 | nil=>rcases g with g | g <;> cases g
 | arg a r=>exact absurd g.1 (by decide)
 | way a w r=>exact absurd g.1 (by decide)
 | lit q v=>cases v with | flag b=>exact .inl #[q,b,rfl] | num n=>exact .inr (.inl #[q,n,rfl])
 | flip q f=>exact .inr (.inr (.inl #[q,f,rfl]))
 | uniform q lo hi=>exact .inr (.inr (.inr (.inl #[q,lo,hi,rfl])))
 | name q n=>exact .inr (.inr (.inr (.inr (.inl #[q,n,rfl]))))
 | call q f x=>exact .inr (.inr (.inr (.inr (.inr (.inl #[q,f,x,rfl])))))
 | cond q d a b=>exact .inr (.inr (.inr (.inr (.inr (.inr (.inl #[d,[a,b],.inl #[q,a,b,rfl,rfl],Qy _ rfl,rfl]))))))
 | given q d a=>exact .inr (.inr (.inr (.inr (.inr (.inr (.inl #[d,[a],.inr #[q,a,rfl,rfl],Qy _ rfl,rfl]))))))
 | un q o a=>
  refine .inr (.inr (.inr (.inr (.inr (.inr (.inr (.inl #[λks hl=>?_,?_,Qy _ rfl,rfl])))))))
  . obtain ⟨k,rfl⟩:=IC (l:=ks) hl;exact .inl #[q,o,a,k,rfl,rfl]
  . rw [RT g.2];refine aS λks=>?_;rcases ks with _ | ⟨k,_ | ⟨l,_⟩⟩ <;> rfl
 | bin q o a b=>
  refine .inr (.inr (.inr (.inr (.inr (.inr (.inr (.inl #[λks hl=>?_,?_,Qy _ rfl,rfl])))))))
  . obtain ⟨k,l,rfl⟩:=HB (l:=ks) hl;exact .inr #[q,o,a,b,k,l,rfl,rfl]
  . rw [PU];refine aS λks=>?_;rcases ks with _ | ⟨k,_ | ⟨l,_ | ⟨m,_⟩⟩⟩ <;> rfl
 | weigh q w a=>exact .inr (.inr (.inr (.inr (.inr (.inr (.inr (.inr #[Ks hW g.2.2,kL _ _,Qy _ rfl])))))))
 | pick q x=>
  refine .inr (.inr (.inr (.inr (.inr (.inr (.inr (.inr #[MS hW g,?_,Qy _ rfl])))))));show eK x≠ [];cases x with
  | nil=>exact absurd rfl g.2.2
  | way a w r=>exact kL _ _
  | arg a r=>exact kL _ _
  | lit p v=>cases v with | num n=>exact absurd g.2.1.1 (by decide) | flag b=>exact absurd (show (2:Nat)=0 from g.2.1) (by decide)
  | _=>exact absurd g.2.1.1 (by decide)
def Fi (m:Nat) (mw:gF AA n) (pR:lI AA n) (hm:m=n+1):lI AA m:=by
 nomatch ["expression","known","named","form","kinds","part"]
 subst hm;obtain ⟨v,e,d,nd,p,En,rfl,hg,hd,hz,hv,hk,hn,bQ,hW,q⟩:=h;nomatch 2,3,bK,bK,fB T.x3,bK,ju,bK,0,bK,g6 (pv 1) (ca (pv 0)),bK,bK,dv mw ?_,Ao gn 4 (bE (ca (pv 0))) [("part",5)] (λ_ _ _ _ _=>(bL 5)) (λ_ _ _ _ _=>(dv pR (aI (pv 5) (aI (pv 1) (pU (pv 2)))) (hx:=NP))),bK,wR,g6 (pv 2) (ca (pv 0)),bK,oB,oz
 obtain ⟨a,pl,ps,rfl,Jl,fp,hA⟩:=hv.view hg;obtain ⟨dx,fl,bv,fs,hN,hbv,_⟩:=id Jl;exists _,U,fr hN U ?_;have lA:=hA.len;have Xj:(kids e).length<=4097:=by
  have h1:=ck e;rw [gj hg,aT,uh] at h1;have h2:(kids e).length<=((kids e).map λx=>(subs x).length).sum:=by
   have:∀l:List Ex,(∀x∈l,gd x 0)->l.length<=(l.map λx=>(subs x).length).sum:=λl=>by
    induction l with
    | nil=>intro _;exact aD _
    | cons x r ih=>
     intro hx;have h3:=ih λy hy=>hx y (aW _ hy);have h4:=BC (hx x bi);rw [bI,kU,ck,aT];omega
   exact this _ λx hx=>(eB hg x hx).1
  omega
 have elt:∀(i:Nat) x ee H' (R:VK),(kids e)[i]? = some ee->aq H H'->iq K c H' x ee->aN c.cf E H' (kindOf p En ee) (AD K H' R)->yQ n K c [x,.ref d,.ref nd] H' R E:=λi x ee H' R he s' hx qq=>by
  have hm:=bc he;obtain ⟨ge,de,ze⟩:=eB hg ee hm;exists x,ee,d,nd,p,En,U,ge,by omega,by omega,hx,hk.same s',hn.Y C s'.Y,bQ.kid hg hm,hW,qq
 rcases Kv hW hg with ⟨qp,b,rfl⟩ | ⟨qp,nn,rfl⟩ | ⟨qp,f,rfl⟩ | ⟨qp,lo,hi,rfl⟩ | ⟨qp,nn,rfl⟩ | ⟨qp,f,x,rfl⟩ | ⟨qd,r,hQ,k9,HC⟩ | ⟨hop,hkk,k9,HC⟩ | ⟨hkk,kg,k9⟩
 . exists _,U,U,_,U,bD U (bD U ?_);exact q g.flag H (aq.refl _) (T.qM.sq _)
 . exists _,U,U,_,U,aF U #[_,U,U,_,U,aF U ?_];exists _,U,U,_,U,bD U ?_;rw [Ki] at q;exists _,U,fr hN U #[_,U,fr hN U #[_,U,fr hN U #[nn,nn,qp,U,?_]]];exact aN.imp q λk _ q p hp=>q p _ (aq.upd hp) (.inl (.inl aa))
 . exists _,U,U,_,U,aF U #[_,U,U,_,U,bD U ?_];exact q g.flag H (aq.refl _) (T.qM.sq _)
 . exists _,U,U,_,U,aF U #[_,U,U,_,U,aF U ?_];exists _,U,U,_,U,aF U ?_;exists _,U,U,_,U,bD U ?_;obtain ⟨bb,rfl,hbb⟩:=hbv;exists _,U,fr hN U (q bb H (aq.refl _) hbb)
 . exists _,U,U,_,U,aF U #[_,U,U,_,U,aF U ?_];exists _,U,U,_,U,aF U ?_;exists _,U,U,_,U,aF U ?_;exists _,U,U,_,U,bD U ?_;rw [GB] at q;have hs:=bQ.self hg;have hs:(En.kind nn).isSome=true:=hs;obtain ⟨aG,hrd,hrel⟩:=hk;have hr1:=hrel nn;cases hen:En.kind nn with
   | none=>rw [hen] at hs;cases hs
   | some k=>
    rw [hen] at hr1 q;cases hv2:cy aG (nk nn) with
    | none=>rw [hv2] at hr1;exact hr1.elim
    | some v=>
     rw [hv2] at hr1;obtain ⟨ak,rfl,hak⟩:=hr1;exists _,U,_,U,fr hN U #[d,_,U,hv2 ▸ hrd.get nn,q ak H (aq.refl _) hak]
 . exists _,U,U,_,U,aF U #[_,U,U,_,U,aF U ?_];exists _,U,U,_,U,aF U ?_;exists _,U,U,_,U,aF U ?_;exists _,U,U,_,U,aF U ?_;exists _,U,U,_,U,aF U #[_,U,U,_,U,aF U ?_];obtain ⟨gg,VV,Xk⟩:=bQ.self hg;rw [GD (by decide) hg.2.2,VV] at q;have q:aN c.cf E H (dO p En (kids (.call qp f x)) >>= λks=>argsHeld (ks.zip ((eK x).map Vaprbb.Expr.place)) gg.params >>= λ_=> .ok gg.result) (AD K H Q):=q;exists _,U,fr hN U #[pl,U,#[ps,fp.sq],λD hD=>?_];refine S6 (c:=c) (cf:=c.cf) (E:=E) (H0:=H) C hD fp.sq hA (by omega) (aq.refl _) q (λi x ee H' R he s' hx qq=>#[rfl,_,rfl,_,rfl,_,rfl,elt i x ee H' R he s' hx qq]) λH' ws ks s' hw hB' hks q=>?_;exists _,U,U,_,U,bD U ?_;have lk:=lG hks;obtain ⟨aG,Xl,hrel⟩:=hn.Y C s'.Y;have hr1:=hrel f;have RV:p.funs.find? (λx=>x.name.name == f)=some gg:=VV;rw [RV] at hr1;cases hv2:cy aG (nk f) with
   | none=>rw [hv2] at hr1;exact hr1.elim
   | some fv=>
    rw [hv2] at hr1;have hgf:=hW.f gg (kC RV);have hcc:=lF (by decide) hg.2.2;exists _,U,_,U,_,U,_,U,fr (s' _ _ hN) U #[nd,_,U,hv2 ▸ Xl.get f,a,pl,_,ps,eK x,D,ws,ks,fv,gg,U,Jl.Y C s'.Y,fp.app s',hA.mono λ_ _ z=>z.Y C s'.Y,λy hy=>(pQ hg.2.2 y hy).1,cz.of hw,hB',hr1,lk,?_,hgf.pl,?_]
    . have lk:ks.length=(eK x).length:=lk;omega
    . exact aN.imp (aN.on q s') λm _ k a2 H2 s3 h3=>k a2 H2 (s'.trans s3) h3
 . have f1:=k9 "truth" (by decide);have f2:=k9 "flip" (by decide);have f3:=k9 "number" (by decide);have f4:=k9 "uniform" (by decide);have f5:=k9 "name" (by decide);exists _,U,U,_,U,aF f1 #[_,U,U,_,U,aF f2 ?_];exists _,U,U,_,U,aF f3 ?_;exists _,U,U,_,U,aF f4 ?_;exists _,U,U,_,U,aF f5 ?_;exists _,U,U,_,U,bG (λe1=>bD U ?_) λe1=>#[_,U,U,_,U,bD (by rw [e1,jg] at HC;exact HC) ?_];all_goals exists _,U,_,U,_,U,a,e,qd,r,d,nd,p,En,U,hQ,hg,hd,hz,hv,hk,hn,bQ,hW,q
 . have f1:=k9 "truth" (by decide);have f2:=k9 "flip" (by decide);have f3:=k9 "number" (by decide);have f4:=k9 "uniform" (by decide);have f5:=k9 "name" (by decide);have f6:=k9 "if" (by decide);have f7:=k9 "given" (by decide);have f8:=k9 "call" (by decide);exists _,U,U,_,U,aF f1 #[_,U,U,_,U,aF f2 ?_];exists _,U,U,_,U,aF f3 ?_;exists _,U,U,_,U,aF f4 ?_;exists _,U,U,_,U,aF f5 ?_;exists _,U,U,_,U,aF f6 #[_,U,U,_,U,aF f7 ?_];rw [hkk] at q;exists _,U,fr hN U #[pl,U,#[ps,fp.sq],λD hD=>?_];refine S6 (c:=c) (cf:=c.cf) (E:=E) (H0:=H) C hD fp.sq hA (by omega) (aq.refl _) q (λi x ee H' R he s' hx qq=>#[rfl,_,rfl,_,rfl,_,rfl,elt i x ee H' R he s' hx qq]) λH' ws ks s' hw hB' hks q=>?_;exists _,U,U,_,U,aF f8 ?_;exists _,U,U,_,U,bD HC ?_;exists _,U,_,U,a,pl,e,ps,D,ws,ks,U,hg,Jl.Y C s'.Y,fp.app s',hA.mono λ_ _ z=>z.Y C s'.Y,cz.of hw,hB',hW.all (λy hy=>(eB hg y hy).1) hks,hop ks (lG hks),?_;exact aN.imp (aN.on q s') λm _ k a2 H2 s3 h3=>k a2 H2 (s'.trans s3) h3
 . have f1:=k9 "truth" (by decide);have f2:=k9 "flip" (by decide);have f3:=k9 "number" (by decide);have f4:=k9 "uniform" (by decide);have f5:=k9 "name" (by decide);have f6:=k9 "if" (by decide);have f7:=k9 "given" (by decide);have f8:=k9 "call" (by decide);have f9:=k9 "operation" (by decide);exists _,U,U,_,U,aF f1 #[_,U,U,_,U,aF f2 ?_];exists _,U,U,_,U,aF f3 ?_;exists _,U,U,_,U,aF f4 ?_;exists _,U,U,_,U,aF f5 ?_;exists _,U,U,_,U,aF f6 #[_,U,U,_,U,aF f7 ?_];rw [hkk] at q;exists _,U,fr hN U #[pl,U,#[ps,fp.sq],λD hD=>?_];refine S6 (c:=c) (cf:=c.cf) (E:=E) (H0:=H) C hD fp.sq hA (by omega) (aq.refl _) q (λi x ee H' R he s' hx qq=>#[rfl,_,rfl,_,rfl,_,rfl,elt i x ee H' R he s' hx qq]) λH' ws ks s' hw hB' hks q=>?_;exists _,U,U,_,U,aF f8 ?_;exists _,U,U,_,U,aF f9 ?_;have lk:=lG hks;obtain ⟨k1,kr,rfl⟩:∃k1 kr,ks=k1 :: kr:=by
    cases ks with
    | nil=>exact absurd (List.eq_nil_of_length_eq_zero lk.symm) kg
    | cons k1 kr=>exists k1,kr,U
   exists _,U,_,U,fr (s' _ _ hN) U #[_,U,a,pl,e,pl,ps,kids e,D,ws,k1,kr,U,Jl.Y C s'.Y,(fp.app s').sq,hA.mono λ_ _ z=>z.Y C s'.Y,λy hy=>(eB hg y hy).1,cz.of hw,hB',lk,?_];exact aN.imp (aN.on q s') λm _ k a2 H2 s3 h3=>k a2 H2 (s'.trans s3) h3
def BK:lI AA 0:=by
 nomatch ["expression","known","named","form","kinds","part"]
 obtain ⟨v,e,d,nd,p,En,rfl,hg,hd,_⟩:=h;have:=BA hg;omega
def pS:∀n,lI AA n
 | 0=>BK AA
 | n+1=>by
  have e:=pS n;have q:=lK AA n e;exact Fi AA (n+1) q e rfl
def MU (K:Frag) (H:Hp) (d:Addr) (En:mY):= ∃aG,FD H d aG/\∀n,RelK K H (En.kind n) (cy aG (nk n))
def MU.d {d:Addr} (h:MU K H d En):Qx K H d En:=let #[aG,f,k]:=h;#[aG,f.rd,k]
def MU.Y {d:Addr} (h:MU K H d En) (i:bX c H H'):MU K H' d En:=let #[aG,f,k]:=h;#[aG,f.Y i,λn=>(k n).Y i]
def vz (En:mY) (x:Bytes) (k:Kd) (n:Bytes):Vaprbb.Env.kind (En++ [(x,k)]) n=(Vaprbb.Env.kind En n).or (if x=n then some k else none):=by
 unfold Vaprbb.Env.kind;rw [uv];cases En.find? (λy=>y.1 == n) with
 | some y=>rfl
 | none=>
  rw [uE,Option.map_none,uE];rw [dU];by_cases h:x=n
  . rw [ah h,bO.mpr h];rfl
  . rw [ae h,bS.mpr h];rfl
def GJ {x:Bytes} (h:∀n,RelK K H (En.kind n) (cy aG (nk n))) (hx:Vaprbb.Env.kind En x=none) (hv:yr K H v k):∀n,RelK K H (Vaprbb.Env.kind (En++ [(x,k)]) n) (cy (putK aG (nk x) v) (nk n)):=λn=>by
 rw [vz,r6];by_cases e:n=x
 . subst e;rw [ah rfl,ah rfl,hx];exact hv
 . rw [ae (λz=>e (BE z)),ae (λz=>e z.symm),pk];exact h n
def HM {x:Bytes} (hs:∀n,List.contains scope n=(Vaprbb.Env.kind En n).isSome) (h:¬scope.contains x=true):Vaprbb.Env.kind En x=none:=by
 rw [hs] at h;cases hq:Vaprbb.Env.kind En x with
 | none=>rfl
 | some k=>rw [hq] at h;exact absurd rfl h
def Fj {x:Bytes} (hs:∀n,List.contains scope n=(Vaprbb.Env.kind En n).isSome):∀n,(scope++ [x]).contains n=(Vaprbb.Env.kind (En++ [(x,k)]) n).isSome:=λn=>by
 rw [qC,vz,hs];by_cases e:n=x
 . rw [ah e,ah e.symm];cases Vaprbb.Env.kind En n <;> rfl
 . rw [ae e,ae (λz=>e z.symm),pk]
def mv.snoc {x:Bytes} (h:mv p En) (hk:kn k):mv p (En++ [(x,k)]):=by
 exists λn k' e=>?_,h.f;rw [vz] at e;cases hq:Vaprbb.Env.kind En n with
 | some z=>rw [hq] at e;cases e;exact h.e _ _ hq
 | none=>
  rw [hq,uE] at e;split at e
  . cases e;exact hk
  . cases e
def Ir (K:Frag) (H:Hp) (p:Prog) (sc:List Bytes) (Q:VK):mY->Prop:=λEn=> ∀d H',aq H H'->MU K H' d En->mv p En->(∀n,List.contains sc n=(Vaprbb.Env.kind En n).isSome)->Q (.ref d) H'
def Kw (p:Prog) (En:mY) (e:Ex) (r:List Stm):stmsKinds p En (.observe e :: r)=(kindOf p En e >>= λk=>cr k e.place >>= λ_=>stmsKinds p En r):=by
 show (kindOf p En e >>= _)=_;refine aS λk=>?_;unfold cr;split <;> rfl
def tD (o:Option Kd) (k:Kd) (pl:Nat):Except Fault Kd:=match o with
 | none=> .ok k
 | some a=>held k a pl >>= λ_=> .ok a
def Kx (p:Prog) (En:mY) (n:PName) (o:Option Kd) (e:Ex) (r:List Stm):stmsKinds p En (.lets n o e :: r)=(kindOf p En e >>= λk=>tD o k e.place >>= λk2=>stmsKinds p (En++ [(n.name,k2)]) r):=by
 cases o with
 | none=>rfl
 | some a=>
  show (kindOf p En e >>= λk=>held k a e.place >>= λ_=>stmsKinds p (En++ [(n.name,a)]) r)=(kindOf p En e >>= λk=>(held k a e.place >>= λ_=> .ok a) >>= λk2=>stmsKinds p (En++ [(n.name,k2)]) r);simp only [bn];rfl
def Fk {o:Option Kd} {k2:Kd} (hk:kn k) (ho:∀k',o=some k'->kn k') (h:tD o k pl= .ok k2):kn k2:=by
 cases o with
 | none=>cases h;exact hk
 | some a=>let #[_,_,h]:=aj h;cases h;exact ho _ rfl
def Du:∀{ds:List Decl} {before:List Bytes} {u:Unit},declsRight before ds= .ok u->∀(i:Nat) (d:Decl),ds[i]? = some d->¬(before++(ds.take i).map (λx=>x.name.name)).contains d.name.name=true
 | [],_,_,_,i,d,e=>by simp at e
 | x :: r,before,u,h,i,d,e=>by
  have h:(if before.contains x.name.name=true then .error #[5,x.name.place] else declsRight (before++ [x.name.name]) r)= .ok u:=h;split at h
  . cases h
  . rename_i hc;cases i with
    | zero=>cases e;rw [kR,cO,bH];exact hc
    | succ i=>
     have:=Du h i d (by simpa using e);rw [bw] at this;exact this
def xq:∀{fs:List Fu} {before:List Bytes} {u:Unit},funsRight p before fs= .ok u->∀f∈fs,declsRight [] f.params= .ok ()/\named p (f.params.map λd=>d.name.name) f.body= .ok ()
 | [],_,_,_,f,hf=>by cases hf
 | x :: r,before,u,h,f,hf=>by
  unfold funsRight at h;split at h
  . cases h
  . split at h
    . cases h
    . let #[_,h1,h]:=aj h;let #[_,h2,h]:=aj h;rcases aE.mp hf with rfl | hf
      . exists h1,h2
      . exact xq h f hf
def wm (ds:List Decl) (n:Bytes):Vaprbb.Env.kind (ds.map λd=>(d.name.name,d.kind)) n=(ds.find? λd=>d.name.name == n).map (·.kind):=by
 unfold Vaprbb.Env.kind;rw [List.find?_map,Option.map_map];rfl
def wo (ds:List Decl) (n:Bytes):(ds.map λd=>d.name.name).contains n=(Vaprbb.Env.kind (ds.map λd=>(d.name.name,d.kind)) n).isSome:=by
 rw [wm,nb,List.isSome_find?,b9,eh,o7];constructor
 . intro h;obtain ⟨d,hd,e⟩:=cj.mp h;exists d,hd,by simpa using e
 . rintro ⟨d,hd,e⟩;exact cj.mpr #[d,hd,by simpa using e]
def yR:SP:=λK c vs H Q E=> ∃a nn o e fa k,vs= [.ref a,.ref fa]/\D_ K c H (.ref a) (.lets nn o e)/\gd e 0/\gS K H fa (kT k)/\aN c.cf E H (tD o k e.place) (λk2=> ∀b,gS K H b (kT k2)->Q (.ref b) H)
def yS:AA.hF 6 "kind_of_let" ["statement","found"] yR:=by
 nomatch ["statement","found"]
 obtain ⟨a,nn,o,e,fa,k,rfl,⟨a',da,wv,ev,e0,ha,hw,he⟩,hg,hk,q⟩:=h;cases e0;nomatch 2,IM,0,iJ,0
 cases o with
 | none=>
  have hw:wv= .cp:=hw;subst hw;exists _,U,fr ha U #[U,_,U,bD U #[_,U,q fa hk]]
 | some kk=>
  obtain ⟨wa,rfl,VW⟩:=hw;exists _,U,fr ha U #[U,_,U,aF U ?_];obtain ⟨ax,Qv,Qw,rfl,hax,gQ⟩:=iq.place hg he;exists _,U,_,U,fr ha U #[_,U,fr ha U (fr hax gQ #[fa,wa,k,kk,e.place,U,hk,VW,?_])];have q:aN c.cf E H (held k kk e.place >>= λ_=> .ok kk) (λk2=> ∀b,gS K H b (kT k2)->Q (.ref b) H):=q;exact aN.step q λ_ _ q=>#[_,rfl,fr ha rfl (q wa VW)]
def ko:SP:=λK c vs H Q E=> ∃sl ss stms nd p sc,vs= [.ref sl,.ref nd]/\FL H sl ss/\A2 (D_ K c H) ss stms/\(∀s∈stms,N9 s)/\stms.length<=32/\Kg K c H nd p.funs/\(∀f∈p.funs,GF f)/\stmsRight p [] stms= .ok sc/\aN c.cf E H (stmsKinds p [] stms) (Ir K H p sc Q)
def kq:AA.hF 58 "check_statement_kinds" ["statements","named"] ko:=by
 nomatch ["statements","named","known","statement","found"]
 obtain ⟨sl,ss,stms,nd,p,sc,rfl,ff,hA,hG,S5,hn,hF,UV,q⟩:=h;nomatch 2,2,jn,bE,3,4,dv (pS AA 24) ?_,aM nI,fB AA.Av,lX (pv 2) (ca (pv 3)) (dv (yS AA) (aI (pv 3) (pU (pv 4)))),gz,T.jS,1
 intro D hD;have s1:=aq.upd (o:= .dK []) hD;exists _,U,sl,U,#[ss,(ff.app s1).sq],cE (K:=K) (a:=sl) (xs:=ss) (λi σ H'=> ∃v3 v4:Option V,σ= [some (.ref sl),some (.ref nd),some (.ref D),v3,v4]/\aq H H'/\∃aG scope,∃En:mY,H' D=some (.dK aG)/\aG.length<=i/\(∀n,RelK K H' (En.kind n) (cy aG (nk n)))/\(∀n,List.contains scope n=(Vaprbb.Env.kind En n).isSome)/\mv p En/\stmsRight p scope (stms.drop i)= .ok sc/\aN c.cf E H (stmsKinds p En (stms.drop i)) (Ir K H p sc Q))
  #[none,none,rfl,s1,[],[],[],aa,aw _,λn=>au,λn=>rfl,#[λn k e=>(by cases e),hF],UV,q] (λi σ H' _ #[_,_,_,s,_]=>(ff.app s).sq) ?_ ?_
 . rintro i x σ H' hi ⟨v3,v4,rfl,s,aG,scope,En,hkv,hl,hr,hsc,hW,fU,q⟩;obtain ⟨st,hst',hx⟩:=hA.get hi;have hgs:=hG st (bc hst');have hx:=hx.Y C s.Y;have hil:i < ss.length:=(bj.mp hi).1;have hlen:=hA.len;rw [dZ hst'] at q fU;cases st with
   | observe e=>
    rw [Kw] at q;have fU:(named p scope e >>= λ_=>stmsRight p scope (stms.drop (i+1)))= .ok sc:=fU;let #[_,hnm,fU]:=aj fU;have bQ:=BJ hsc hnm;obtain ⟨a,da,ev,rfl,ha,he⟩:=hx;exists _,U,fr ha U #[_,U,_,U,ev,e,D,nd,p,En,U,hgs.1,hgs.2.1,hgs.2.2,he,#[aG,.inl hkv,hr],hn.Y C s.Y,bQ,hW,?_];refine aN.imp (ok:=λk=>aN c.cf E H (cr k e.place >>= λ_=>stmsKinds p En (stms.drop (i+1))) (Ir K H p sc Q)) (aN.step (aN.on q s) λk ek _=>?_) λk _ q ka H2 s2 hka=>?_
    . rw [ek] at q;exact q
    have PV:=s.trans s2;have lO:=s2 _ _ ha;exists _,U,_,_,_,_,U,C.va _ _ _ _ lO,C.pN,_,U,aF U ?_;obtain ⟨ax,Qv,Qw,rfl,hax,gQ⟩:=iq.place hgs.1 (he.Y C s2.Y);exists _,U,_,U,fr lO U (fr hax gQ #[ka,k,0,e.place,U,hka,λes=>?_,λes=>?_])
    . have ha0:cr k e.place= .ok ():=by
       unfold cr;rw [pL,ae (by rw [es];decide)]
      rw [ha0] at q;exists _,_,U,PV,aG,scope,En,s2 _ _ hkv,by omega,λn=>(hr n).Y (c:=c) s2.Y,hsc,hW,fU,q
    . have ha0:cr k e.place= .error #[8,e.place]:=by
       unfold cr;rw [pL,ah (by cases k with | flag=>exact absurd rfl es | num lo hi=>rfl)]
      rw [ha0] at q;exact jo.on q PV
   | lets nn o e=>
    rw [Kx] at q;have fU:(if scope.contains nn.name=true then .error #[5,nn.place] else named p scope e >>= λ_=>stmsRight p (scope++ [nn.name]) (stms.drop (i+1)))= .ok sc:=fU;split at fU
    . cases fU
    rename_i hnc;let #[_,hnm,fU]:=aj fU;have bQ:=BJ hsc hnm;obtain ⟨a,da,wv,ev,rfl,ha,hw,he⟩:=id hx;have gx:=hgs.2.2;exists _,U,fr ha U #[_,U,_,U,ev,e,D,nd,p,En,U,gx.1,gx.2.1,gx.2.2,he,#[aG,.inl hkv,hr],hn.Y C s.Y,bQ,hW,?_];refine aN.imp (ok:=λk=>kindOf p En e= .ok k/\aN c.cf E H (tD o k e.place >>= λk2=>stmsKinds p (En++ [(nn.name,k2)]) (stms.drop (i+1))) (Ir K H p sc Q)) (aN.step (aN.on q s) λk ek _=>#[ek,?_]) λk _ #[ek,q] ka H2 s2 hka=>?_
    . rw [ek] at q;exact q
    have PV:=s.trans s2;have lO:=s2 _ _ ha;have hk2:=s2 _ _ hkv;exists _,U,_,_,_,_,U,C.u_ _ _ _ _ lO,C.pM,_,U,bD U ?_;exists _,U,_,U,a,nn,o,e,ka,k,U,hx.Y C s2.Y,gx.1,hka,?_;refine aN.imp (ok:=λk2=>tD o k e.place= .ok k2/\aN c.cf E H (stmsKinds p (En++ [(nn.name,k2)]) (stms.drop (i+1))) (Ir K H p sc Q)) (aN.step (aN.on q PV) λk2 ek2 _=>#[ek2,?_]) λk2 _ #[ek2,q] kb hkb=>?_
    . rw [ek2] at q;exact q
    exists _,U,_,U,fr lO U #[D,_,U,uU.k (k:=nk nn.name) hk2 (by have:=aV;omega),?_];have dJ:bX c H2 (upd H2 D (.dK (putK aG (nk nn.name) (.ref kb)))):=bX.upd hk2 rfl;exists _,_,U,PV.bM hD,_,scope++ [nn.name],En++ [(nn.name,k2)],aa,aP (dk _ _ _) (by omega),?_,Fj hsc,hW.snoc (Fk (hW.kind gx.1 ek) hgs.2.1 ek2),fU,q;exact GJ (λn=>(hr n).Y (c:=c) (s2.Y.trans dJ)) (HM hsc hnc) #[kb,rfl,gS.Y hkb dJ]
 . rintro σ H' ⟨v3,v4,rfl,s,aG,scope,En,hkv,hl,hr,hsc,hW,fU,q⟩;rw [hA.len,fK] at q fU;have fU:Except.ok scope=Except.ok sc:=fU;cases fU;exists _,U,D,_,U,hkv,au,λo=>?_;have dJ:bX c H' (upd H' D (.gR o (.dK aG))):=bX.upd hkv rfl;exact q D _ (s.bM hD) #[aG,#[o,aa],λn=>(hr n).Y dJ] hW hsc
def yT:SP:=λK c vs H Q E=> ∃v p sc,vs= [v]/\D' K c H v p/\GP p/\namesRight p= .ok ()/\stmsRight p [] p.stms= .ok sc/\aN c.cf E H p.env (Ir K H p sc Q)
def yU:AA.hF 59 "check_kinds" ["program"] yT:=by
 nomatch ["program","named","function","known","parameter"]
 obtain ⟨v,p,sc,rfl,hP,hG,hnr,UV,q⟩:=h;nomatch 2,1,eX,bE,2,3,jn,bE,4,lX (pv 3) (ca (pv 4)) (ca (pv 4)),iJ,dv (pS AA 24) ?_,kq
 obtain ⟨a,dx,fl,sl,tl,fs,ss,ts,rfl,ha,f1,A1,f2,zF,f3,A3⟩:=id hP;have q:aN c.cf E H (funsKinds p p.funs >>= λ_=>stmsKinds p [] p.stms) (Ir K H p sc Q):=q;have hnr:(funsRight p [] p.funs >>= λ_=>stmsRight p [] p.stms >>= λscope=>tellsRight scope [] p.tells)= .ok ():=hnr;let #[_,hfr,_]:=aj hnr;exists _,U,fr ha U #[fl,fs,p.funs,U,f1,A1,hG.fl,λnd H1 s1 hn=>?_];have ha1:=s1 _ _ ha;exists _,U,fr ha1 U ⟨fl,U,#[fs,(f1.app s1).sq],cE (K:=K) (a:=fl) (xs:=fs) (λi σ H'=> ∃v2 v3 v4:Option V,σ= [some (.ref a),some (.ref nd),v2,v3,v4]/\aq H1 H'/\aN c.cf E H (funsKinds p (p.funs.drop i) >>= λ_=>stmsKinds p [] p.stms) (Ir K H p sc Q))
  #[none,none,none,rfl,aq.refl _,q] (λi σ H' _ #[_,_,_,_,s,_]=>(f1.app (s1.trans s)).sq) ?_ ?_⟩
 . rintro i x σ H' hi ⟨v2,v3,v4,rfl,s,q⟩;obtain ⟨f,hf,hx⟩:=A1.get hi;have hgf:=hG.fn f (bc hf);obtain ⟨hdr,hnm⟩:=xq hfr f (bc hf);have sH:=s1.trans s;obtain ⟨af,Yg,pl,kv,bv,ps,rfl,haf,fp,PQ,⟨rk,rfl,hrk⟩,hb⟩:=hx.Y C sH.Y;rw [dZ hf] at q;have q:aN c.cf E H ((kindOf p (funEnv f) f.body >>= λk=>held k f.result f.body.place >>= λ_=>funsKinds p (p.funs.drop (i+1))) >>= λ_=>stmsKinds p [] p.stms) (Ir K H p sc Q):=q;rw [bn] at q;intro D hD;have sD:=aq.upd (o:= .dK []) hD;have lp:=PQ.len;exists _,U,fr (sD _ _ haf) U ⟨pl,U,#[ps,(fp.app sD).sq],cE (K:=K) (a:=pl) (xs:=ps) (λj σ H2=> ∃v4:Option V,σ= [some (.ref a),some (.ref nd),some (.ref af),some (.ref D),v4]/\aq H' H2/\∃aG,H2 D=some (.dK aG)/\aG.length<=j/\∀n,RelK K H2 (Vaprbb.Env.kind ((f.params.take j).map λd=>(d.name.name,d.kind)) n) (cy aG (nk n)))
    #[_,rfl,sD,[],aa,aw _,λn=>au] (λj σ H2 _ #[_,_,s2,_]=>(fp.app s2).sq) ?_ ?_⟩
   . rintro j y σ H2 hj ⟨Xm,rfl,s2,aG,hkv,hl,hr⟩;obtain ⟨d,hd,hy⟩:=PQ.get hj;obtain ⟨ap,Yh,UR,rfl,hap,hkp⟩:=hy.Y C s2.Y;have hjl:j < ps.length:=(bj.mp hj).1;have Xn:=hgf.pl;exists _,U,fr hap U #[_,U,_,U,fr hap U #[D,_,U,uU.k (k:=nk d.name.name) hkv (by have:=aV;omega),?_]];have dJ:bX c H2 (upd H2 D (.dK (putK aG (nk d.name.name) UR))):=bX.upd hkv rfl;exists _,U,s2.bM hD,_,aa,aP (dk _ _ _) (by omega),?_;rw [jF hd,dW];have k9:=Du hdr j d hd;rw [kP,wo] at k9;refine GJ (λn=>(hr n).Y (c:=c) dJ) ?_ (hkp.Y dJ);cases hq:Vaprbb.Env.kind ((f.params.take j).map λd=>(d.name.name,d.kind)) d.name.name with
     | none=>rfl
     | some z=>rw [hq] at k9;exact absurd rfl k9
   . rintro σ H2 ⟨Xm,rfl,s2,aG,hkv,hl,hr⟩;rw [lp,cM] at hr;have Xo:=sH.trans s2;have UW:=s2 _ _ haf;have Xp:mv p (funEnv f):=⟨λn k e=>by
      have e:Vaprbb.Env.kind (f.params.map λd=>(d.name.name,d.kind)) n=some k:=e;rw [wm] at e;obtain ⟨d,hd,rfl⟩:=gm.mp e;exact (hgf.pw d (kC hd)).2,hG.fn⟩
     exists _,U,fr UW U #[_,U,_,U,bv,f.body,D,nd,p,funEnv f,U,hgf.bd.1,hgf.bd.2.1,hgf.bd.2.2,hb.Y C s2.Y,#[aG,.inl hkv,hr],hn.Y C (s.trans s2).Y,BJ (wo _) hnm,Xp,?_];refine aN.imp (ok:=λk=>aN c.cf E H ((held k f.result f.body.place >>= λ_=>funsKinds p (p.funs.drop (i+1))) >>= λ_=>stmsKinds p [] p.stms) (Ir K H p sc Q)) (aN.step (aN.on q Xo) λk ek _=>?_) λk _ q ka H3 s3 hka=>?_
     . rw [ek] at q;exact q
     rw [bn] at q;have RW:=s2.trans s3;have RX:=RW _ _ haf;obtain ⟨ax,Qv,Qw,rfl,hax,gQ⟩:=iq.place hgf.bd.1 (hb.Y C RW.Y);exists _,U,fr RX U #[_,U,fr RX U (fr hax gQ #[ka,rk,k,f.result,f.body.place,U,hka,gS.Y (c:=c) hrk RW.Y,?_])];have Xq:=sH.trans RW;refine aN.imp (ok:=λ_=>aN c.cf E H (funsKinds p (p.funs.drop (i+1)) >>= λ_=>stmsKinds p [] p.stms) (Ir K H p sc Q)) (aN.step (aN.on q Xq) λ_ ek _=>?_) λ_ _ q=>?_
     . rw [ek] at q;exact q
     exists _,_,_,U,s.trans RW,q
 . rintro σ H' ⟨v2,v3,v4,rfl,s,q⟩;rw [A1.len,fK] at q;have q:aN c.cf E H (stmsKinds p [] p.stms) (Ir K H p sc Q):=q;have sH:=s1.trans s;exists _,U,fr (sH _ _ ha) U #[_,U,sl,ss,p.stms,nd,p,sc,U,f2.app sH,zF.mono λ_ _ z=>z.Y C sH.Y,hG.st,hG.sl,hn.Y C s.Y,hG.fn,UV,?_];exact aN.imp (aN.on q sH) λEn _ q d H2 s2 hk hw hsc=>q d H2 (sH.trans s2) hk hw hsc
def wS (sel:Ex->Option Bytes) (l:List Bytes) (k:Ex):List Bytes:=match sel k with
 | some n=>put n l
 | none=>l
def met (sel:Ex->Option Bytes) (l:List Bytes) (es:List Ex):List Bytes:=es.foldl (wS sel) l
def yV:Ex->Option Bytes
 | .name _ n=>some n
 | _=>none
def yW:Ex->Option Bytes
 | .call _ f _=>some f
 | _=>none
def cQ (sel:Ex->Option Bytes) (l:List Bytes) (a b:List Ex):met sel l (a++b)=met sel (met sel l a) b:=ur
def bJ:∀(e:Ex) (l:List Bytes),mentions l e=met yV l (subs e)
 | .lit _ _,l=>rfl
 | .name _ n,l=>rfl
 | .flip _ _,l=>rfl
 | .uniform _ _ _,l=>rfl
 | .nil,l=>rfl
 | .un _ _ a,l=>bJ a l
 | .weigh _ _ a,l=>bJ a l
 | .call _ _ a,l=>bJ a l
 | .pick _ a,l=>bJ a l
 | .bin _ _ a b,l=>by
  show mentions (mentions l a) b=met yV l (subs a++subs b);rw [cQ,<-bJ a,<-bJ b]
 | .given _ a b,l=>by
  show mentions (mentions l a) b=met yV l (subs a++subs b);rw [cQ,<-bJ a,<-bJ b]
 | .arg a b,l=>by
  show mentions (mentions l a) b=met yV l (subs a++subs b);rw [cQ,<-bJ a,<-bJ b]
 | .way a _ b,l=>by
  show mentions (mentions l a) b=met yV l (subs a++subs b);rw [cQ,<-bJ a,<-bJ b]
 | .cond _ d a b,l=>by
  show mentions (mentions (mentions l d) a) b=met yV l (subs d++(subs a++subs b));rw [cQ,cQ,<-bJ a,<-bJ b,<-bJ d]
def cb:∀(e:Ex) (l:List Bytes),Vaprbb.calls l e=met yW l (subs e)
 | .lit _ _,l=>rfl
 | .name _ n,l=>rfl
 | .flip _ _,l=>rfl
 | .uniform _ _ _,l=>rfl
 | .nil,l=>rfl
 | .un _ _ a,l=>cb a l
 | .weigh _ _ a,l=>cb a l
 | .call _ f a,l=>cb a (put f l)
 | .pick _ a,l=>cb a l
 | .bin _ _ a b,l=>by
  show Vaprbb.calls (Vaprbb.calls l a) b=met yW l (subs a++subs b);rw [cQ,<-cb a,<-cb b]
 | .given _ a b,l=>by
  show Vaprbb.calls (Vaprbb.calls l a) b=met yW l (subs a++subs b);rw [cQ,<-cb a,<-cb b]
 | .arg a b,l=>by
  show Vaprbb.calls (Vaprbb.calls l a) b=met yW l (subs a++subs b);rw [cQ,<-cb a,<-cb b]
 | .way a _ b,l=>by
  show Vaprbb.calls (Vaprbb.calls l a) b=met yW l (subs a++subs b);rw [cQ,<-cb a,<-cb b]
 | .cond _ d a b,l=>by
  show Vaprbb.calls (Vaprbb.calls (Vaprbb.calls l d) a) b=met yW l (subs d++(subs a++subs b));rw [cQ,cQ,<-cb a,<-cb b,<-cb d]
def AF {n:Bytes} {l:List Bytes} (h:l.Nodup):(put n l).Nodup:=by
 unfold put;split
 . exact h
 . rename_i hc;rw [List.nodup_append];exists h,kI.mpr #[cU,iY],λa ha b hb e=>?_;subst e;rw [ej.mp hb] at ha;exact hc (eh.mpr ha)
def GK {n m:Bytes} {l:List Bytes} (h:m∈put n l):m∈l\/m=n:=by
 unfold put at h;split at h
 . exact .inl h
 . rcases ci.mp h with h | h
   . exact .inl h
   . exact .inr (ej.mp h)
def AG {sel:Ex->Option Bytes}:∀{es:List Ex} {l:List Bytes},l.Nodup->(met sel l es).Nodup
 | [],l,h=>h
 | k :: es,l,h=>by
  show (met sel (wS sel l k) es).Nodup;refine AG ?_;unfold wS;split
  . exact AF h
  . exact h
def tE {sel:Ex->Option Bytes} {n:Bytes}:∀{es:List Ex} {l:List Bytes},n∈met sel l es->n∈l\/∃k∈es,sel k=some n
 | [],l,h=> .inl h
 | k :: es,l,h=>by
  rcases tE (es:=es) (l:=wS sel l k) h with h | ⟨k',hk,e⟩
  . unfold wS at h;split at h
    . rename_i m e;rcases GK h with h | h
      . exact .inl h
      . subst h;exact .inr #[k,bi,e]
    . exact .inl h
  . exact .inr #[k',aW _ hk,e]
def Ky {sel:Ex->Option Bytes} {l:List Bytes} {es:List Ex} {k:Ex} (h:es[i]? = some k):met sel l (es.take (i+1))=wS sel (met sel l (es.take i)) k:=by
 obtain ⟨hi,e⟩:=bj.mp h;rw [ef hi,cQ,e];rfl
def tF {sel:Ex->Option Bytes}:∀{es:List Ex} {l:List Bytes},(met sel l es).length<=l.length+es.length
 | [],l=>aw _
 | k :: es,l=>by
  have h1:=tF (sel:=sel) (es:=es) (l:=wS sel l k);have h2:(wS sel l k).length<=l.length+1:=by
   unfold wS put;split
   . split
     . omega
     . rw [ao,aC];omega
   . omega
  show (met sel (wS sel l k) es).length<=_;rw [aT];omega
def ix (cY:List Bytes) (n:Bytes):Nat:=(cY.findIdx? λx=>x == n).getD 0
def GL {n:Bytes} (h:n∈cY):cY.findIdx? (λx=>x == n)=some (ix cY n):=by
 unfold ix;cases e:cY.findIdx? (λx=>x == n) with
 | some i=>rfl
 | none=>
  have:=List.findIdx?_eq_none_iff.mp e n h;simp at this
def vA {n:Bytes} (h:n∈cY):cY[ix cY n]? = some n/\∀(m:Nat) z,m < ix cY n->cY[m]? = some z->z≠n:=by
 have e:=GL h;rw [zS] at e;obtain ⟨hl,h1,h2⟩:=e;exists by rw [bB hl];exact bA some (by simpa using h1),λm z hm hz ez=>?_;have:=h2 m hm;rw [bB (by omega)] at hz;cases hz;rw [ez] at this;simp at this
def PX {n m:Bytes} (h1:n∈cY) (h2:m∈cY) (e:ix cY n=ix cY m):n=m:=by
 have a:=(vA h1).1;rw [e,(vA h2).1] at a;exact (bF a).symm
def mx {l:List Bytes} (h:∀n∈l,n∈cY):Vaprbb.numbersOf cY l=l.map (ix cY):=by
 unfold Vaprbb.numbersOf;induction l with
 | nil=>rfl
 | cons n l ih=>
  rw [kE,GL (h n bi),ih λm hm=>h m (aW _ hm)];rfl
def Dv (hn:cY.Nodup) {n:Bytes} (h:cY[i]? = some n):ix cY n=i:=by
 have hm:=bc h;obtain ⟨a,b⟩:=vA hm;have hl:=(bj.mp h).1;have hl2:=(bj.mp a).1;rw [bB hl] at h;rw [bB hl2] at a;exact (uz hn).mp (bF (a.trans h.symm))
def Kz {n:Bytes} (h:n∈p.funs.map λf=>f.name.name):∃g,p.fun n=some g/\p.funs[ix (p.funs.map λf=>f.name.name) n]? = some g/\g.name.name=n:=by
 obtain ⟨a,b⟩:=vA h;rw [bz] at a;cases e:p.funs[ix (p.funs.map λf=>f.name.name) n]? with
 | none=>rw [e] at a;cases a
 | some g=>
  rw [e] at a;have hg:g.name.name=n:=bF a;exists g,?_,U,hg;obtain ⟨hl,eg⟩:=bj.mp e;unfold Vaprbb.Prog.fun;rw [zU];exists by simpa using hg,_,hl,eg,λj hj=>?_;have:=b j (p.funs[j]).name.name hj (by rw [bz,bB (by omega)];rfl);simpa using this
def MV {n:Bytes} {g:Fu} (h:p.fun n=some g):n∈p.funs.map λf=>f.name.name:=by
 unfold Vaprbb.Prog.fun at h;have h1:=uD h;have h2:=kC h;exact cj.mpr #[g,h2,by simpa using h1]
def tG:Ex->Nat
 | .flip _ _=>2
 | .uniform _ lo hi=>(hi - lo+1).toNat
 | .pick _ w=>w.count
 | _=>0
def iB (e:Ex):List (Nat×Nat):=if 0 < tG e then [(e.place,tG e)] else []
def bW:∀{e:Ex} {s:Nat},gd e s->Vaprbb.points e=(subs e).flatMap iB
 | .lit _ (.num _),_,_=>rfl
 | .lit _ (.flag _),_,_=>rfl
 | .name _ n,_,_=>rfl
 | .flip _ _,_,_=>rfl
 | .uniform q lo hi,_,h=>by
  have hk: -1000<=lo/\lo<=hi/\hi<=1000/\hi<=lo+63:=h.2;show [(q,(hi - lo+1).toNat)]=(if 0 < (hi - lo+1).toNat then [(q,(hi - lo+1).toNat)] else [])++ [];rw [ah (by omega)];rfl
 | .nil,_,_=>rfl
 | .un _ _ a,_,h=>by
  show Vaprbb.points a=(subs a).flatMap iB;exact bW h.2
 | .weigh _ _ a,_,h=>by
  show Vaprbb.points a=(subs a).flatMap iB;exact bW h.2.2
 | .call _ _ a,_,h=>by
  show Vaprbb.points a=(subs a).flatMap iB;exact bW h.2.2
 | .pick q x,_,h=>by
  show (q,x.count) :: Vaprbb.points x=(if 0 < x.count then [(q,x.count)] else [])++(subs x).flatMap iB;rw [bW h.2.1,ah ?_]
  . rfl
  . have:=h.2.2;cases x with
    | nil=>exact absurd rfl this
    | way a w r=>show 0 < r.count+1;omega
    | arg a r=>show 0 < r.count+1;omega
    | lit _ v=>cases v <;> exact absurd h.2.1 (by simp [gd])
    | _=>exact absurd h.2.1.1 (by decide)
 | .bin _ _ a b,_,h=>by
  show Vaprbb.points a++Vaprbb.points b=(subs a++subs b).flatMap iB;rw [dC,bW h.2.1,bW h.2.2]
 | .given _ a b,_,h=>by
  show Vaprbb.points a++Vaprbb.points b=(subs a++subs b).flatMap iB;rw [dC,bW h.2.1,bW h.2.2]
 | .arg a b,_,h=>by
  show Vaprbb.points a++Vaprbb.points b=(subs a++subs b).flatMap iB;rw [dC,bW h.2.1,bW h.2.2]
 | .way a _ b,_,h=>by
  show Vaprbb.points a++Vaprbb.points b=(subs a++subs b).flatMap iB;rw [dC,bW h.2.1,bW h.2.2.2]
 | .cond _ d a b,_,h=>by
  show Vaprbb.points d++(Vaprbb.points a++Vaprbb.points b)=(subs d++(subs a++subs b)).flatMap iB;rw [dC,dC,bW h.2.1,bW h.2.2.1,bW h.2.2.2]
def Dx (h:GP p):p.points=(p.funs.map (·.body)++p.stms.map exprOf).flatMap λe=>(subs e).flatMap iB:=by
 have h1:∀l:List Fu,(∀f∈l,GF f)->l.flatMap (λf=>Vaprbb.points f.body)=(l.map (·.body)).flatMap λe=>(subs e).flatMap iB:=λl hl=>by
  induction l with
  | nil=>rfl
  | cons f l ih=>rw [dR,bI,dR,ih λg hg=>hl g (aW _ hg),bW (hl f bi).bd.1]
 have h2:∀l:List Vaprbb.Stm,(∀f∈l,N9 f)->l.flatMap (λf=>Vaprbb.points (exprOf f))=(l.map exprOf).flatMap λe=>(subs e).flatMap iB:=λl hl=>by
  induction l with
  | nil=>rfl
  | cons f l ih=>
   have hg:=hl f bi;have hx:gd (exprOf f) 0:=by
    cases f with
    | lets n k e=>exact hg.2.2.1
    | observe e=>exact hg.1
   rw [dR,bI,dR,ih λg hg=>hl g (aW _ hg),bW hx]
 unfold Vaprbb.Prog.points;rw [dC,h1 _ h.fn,h2 _ h.st]
def iC (a b:Bytes):aR (a++b)=aR a++aR b:=by
 show (⟨((a++b).map (·.toNat)).toArray⟩:Str)=⟨(a.map (·.toNat)).toArray++(b.map (·.toNat)).toArray⟩;rw [dW];simp
def yX (b:Bytes) (i:Nat):(aR b).cps[i]? = (b[i]?).map (·.toNat):=by
 show ((b.map (·.toNat)).toArray)[i]? = _;simp
def lL (sep:Bytes):∀l:List Bytes,Txt.join (aR sep) (l.map aR)=aR (joined sep l):=λl=>by
 rw [TL.join_eq];induction l with
 | nil=>rfl
 | cons x r ih=>
  cases r with
  | nil=>rfl
  | cons y r=>
   show aR x++aR sep++Str.join (aR sep) ((y :: r).map aR)=aR (x++sep++joined sep (y :: r));rw [ih,iC,iC]
def my (sep:Bytes):∀l:List Bytes,(joined sep l).length<=(l.map (·.length)).sum+l.length * sep.length
 | []=>aD _
 | [x]=>by show x.length<=x.length+0+1 * sep.length;omega
 | x :: y :: r=>by
  have:=my sep (y :: r);show (x++sep++joined sep (y :: r)).length<=x.length+((y :: r).map (·.length)).sum+((y :: r).length+1) * sep.length;rw [ao,ao,Nat.add_mul];omega
def KA (l:List Char) (h:∀c∈l,c.toNat < 256):((l.map λc=>UInt8.ofNat c.toNat).map (·.toNat))=l.map Char.toNat:=by
 rw [c9];refine oV λc hc=>?_;show (UInt8.ofNat c.toNat).toNat=c.toNat;rw [UInt8.toNat_ofNat'];exact Nat.mod_eq_of_lt (h c hc)
def PY {c:Char} (h:c∈Nat.toDigits 10 n):c.toNat < 256:=by
 have:=Nat.isDigit_of_mem_toDigits (by decide) (by decide) h;simp [Char.isDigit] at this;have h2:=this.2;have:c.toNat<=57:=h2;omega
def GN (n:Nat):Str.ofString (toString n)=aR (showNat n):=by
 rw [uc];unfold aR showNat;rw [KA _ λc hc=>PY hc];have:(toString n).toList=Nat.toDigits 10 n:=by
  show (Nat.repr n).toList=_;unfold Nat.repr;exact String.toList_ofList
 rw [this]
def str_int (i:Int):Str.ofString (toString i)=aR (showInt i):=by
 cases i with
 | ofNat n=>
  have:toString (Int.ofNat n)=toString n:=rfl;rw [this,GN];unfold showInt;rw [ae (by simp)];rfl
 | negSucc n=>
  have:toString (Int.negSucc n)= "-" ++toString (n+1):=rfl;rw [this,uc,String.toList_append];have h2:=GN (n+1);rw [uc] at h2;unfold showInt;rw [ah (by omega)];show (⟨((['-']++(toString (n+1)).toList).map Char.toNat).toArray⟩:Str)=aR ([45]++showNat (n+1));rw [iC,<-h2,dW];show _=(⟨_++_⟩:Str);simp;rfl
def iE {k:Nat} (h:n < 10 ^ k) (hk:0 < k):(showNat n).length<=k:=by
 unfold showNat;rw [aB,Nat.length_toDigits_le_iff (by decide) hk];exact h
def cK {i:Int} (h:MK i):(showInt i).length<=11:=by
 have h1:(showNat i.natAbs).length<=10:=iE (k:=10) (by have:=h.1;have:=h.2;omega) (by decide);unfold showInt;split
 . rw [aT];omega
 . omega
def log2_lt {i:Int} (h:i.natAbs < 2 ^ n) (hn:0 < n):i.natAbs.log2 < n:=by
 by_cases h0:i.natAbs=0
 . rw [h0];simpa using hn
 . exact (Nat.log2_lt h0).mpr h
def log2_small {i:Int} (h:i.natAbs < 2 ^ 64):i.natAbs.log2 < 1920:=bq (log2_lt h (by decide)) (by decide)
def oC (n:Nat):showInt (n:Int)=showNat n:=by
 unfold showInt;rw [ae (by omega)];rfl
def lQ (l:List Bytes):List V:=l.map λn=>V.str (aR n)
def zp (cY l:List Bytes):List V:=l.map λn=>V.int (ix cY n:Nat)
def BL (l:List Bytes):(lQ l).all iN=true:=c7.mpr λv hv=>by
 obtain ⟨n,_,rfl⟩:=cj.mp hv;rfl
def GO (cY l:List Bytes):(zp cY l).all iN=true:=c7.mpr λv hv=>by
 obtain ⟨n,_,rfl⟩:=cj.mp hv;rfl
def PZ (n:Bytes) (l:List Bytes):inV (.str (aR n)) (lQ l)=l.contains n:=by
 unfold inV lQ;rw [b9,List.any_map,o7,eh];constructor
 . rintro ⟨m,hm,e⟩;have e:(aR m == aR n)=true:=e;have:=lw (bO.mp e);subst this;exact hm
 . intro h;exists n,h,kH (aR n)
def KC {n:Bytes} {l:List Bytes} (hn:n∈cY) (hl:∀m∈l,m∈cY):inV (.int (ix cY n:Nat)) (zp cY l)=l.contains n:=by
 unfold inV zp;rw [b9,List.any_map,o7,eh];constructor
 . rintro ⟨m,hm,e⟩;have e:(((ix cY m:Nat):Int) == ((ix cY n:Nat):Int))=true:=e;have e:=bO.mp e;have:=PX (hl m hm) hn (by omega);subst this;exact hm
 . intro h;exists n,h,kH _
def BO {l:List Bytes} {n:Bytes} (h:l[i]? = some n):(lQ l)[i]? = some (.str (aR n)):=by
 unfold lQ;rw [bz,h];rfl
def kf {l:List Bytes} (h:(lQ l)[i]? = some v):∃n,l[i]? = some n/\v= .str (aR n):=by
 unfold lQ at h;rw [bz] at h;cases e:l[i]? with
 | none=>rw [e] at h;cases h
 | some n=>rw [e] at h;cases h;exists n,U,U
def yY {l:List Bytes} (h:(zp cY l)[i]? = some v):∃n,l[i]? = some n/\v= .int (ix cY n:Nat):=by
 unfold zp at h;rw [bz] at h;cases e:l[i]? with
 | none=>rw [e] at h;cases h
 | some n=>rw [e] at h;cases h;exists n,U,U
def gW (l:List Bytes):(lQ l).length=l.length:=aB _
def pT (cY l:List Bytes):(zp cY l).length=l.length:=aB _
def VX {vs:List V} (h:FL H D vs):SH K "list" (.ref D) H:= .inl #[rfl,_,h.sq]
def same_none {p:Addr} (s:aq H H') (h:H' p=none):H p=none:=by
 cases z:H p with
 | none=>rfl
 | some o=>rw [s _ _ z] at h;cases h
def BP (n:Bytes) (l:List Bytes):put n l=if l.contains n=true then l else l++ [n]:=rfl
def yZ (sel:Ex->Option Bytes) (fm:Str) (cY:List Bytes) (e:Ex):= ∀k∈subs e,decide (V.str (eF k)=V.str fm)=(sel k).isSome/\∀n,sel k=some n->nZ k=aR n/\n∈cY
def MX (g:gd e 0) (h:∀k∈subs e,∀q n,k= .name q n->n∈cY):yZ yV "name" cY e:=λk hk=>by
 have hg:=cZ g k hk;exists ?_,λn hn=>?_
 . cases k with
   | nil=>rcases hg with hg | hg <;> cases hg
   | lit q v=>cases v <;> rfl
   | _=>rfl
 . cases k with
   | name q m=>have e:m=n:=bF hn;subst e;exists U,h _ hk q m U
   | lit q v=>cases v <;> cases hn
   | _=>cases hn
def MY (g:gd e 0) (h:∀k∈subs e,∀q n x,k= .call q n x->n∈cY):yZ yW "call" cY e:=λk hk=>by
 have hg:=cZ g k hk;exists ?_,λn hn=>?_
 . cases k with
   | nil=>rcases hg with hg | hg <;> cases hg
   | lit q v=>cases v <;> rfl
   | _=>rfl
 . cases k with
   | call q m x=>have e:m=n:=bF hn;subst e;exists U,h _ hk q m x U
   | lit q v=>cases v <;> cases hn
   | _=>cases hn
def y3:SP:=λK c vs H Q _=> ∃v e fm na cY sel,vs= [v,.str fm,.ref na]/\GX e/\iq K c H v e/\FL H na (lQ cY)/\yZ sel fm cY e/\cY.length<=4097/\∀p H',H p=none->aq H H'->H' p=some (.lst (zp cY (met sel [] (subs e))))->Q (.ref p) H'
def oE:AA.h0 26 "numbers_met" ["expression","form","names"] y3:=by
 nomatch ["expression","form","names","met","inner","word"]
 obtain ⟨v,e,fm,na,cY,sel,rfl,⟨hg,hd,hz⟩,hv,hn,HN,hnl,q⟩:=h;nomatch 2,3,bE,dv (sZ AA 24) ?_,4,bK,lV,cJ bN,ie (bE (pv 3)) [("word",5)] (λ_ _ _ _ _=>(bL 5)) (λ_ _ _ _ _=>(Jr (K:=K) rfl tZ t9 z4 (As (K:=K) rfl) (pv 2) (pU (pv 5))))
 exists aD _,λD hD=>?_;have s0:=aq.upd (o:= .lst []) hD;exists _,U,v,e,U,hg,hd,hz,hv.Y C s0.Y,λpw ws H1 s1 hp hA=>?_;have hsl:(subs e).length=sz e:=ck e;have iW:=aV;have UX:pw≠D:=λz=>by
  have h1:=s1 _ _ (aa (H:=H) (a:=D) (o:= .lst []));rw [<-z,hp] at h1;cases h1;have h2:=hA.len;have h3:=BC hg;rw [hsl,fL] at h2;omega
 exists pw,U,#[ws,cz.of hp],cE (K:=K) (a:=pw) (xs:=ws) (λi σ H'=> ∃v4:Option V,σ= [some v,some (.str fm),some (.ref na),some (.ref D),v4,none]/\aq H H'/\(∀o,H1 pw=some o->H' pw=some o)/\bX c H1 H'/\H' D=some (.lst (lQ (met sel [] ((subs e).take i)))))
  #[none,rfl,s0.trans s1,λo e=>e,bX.refl,s1 _ _ aa] (λi σ H' _ #[_,_,_,s,_]=>cz.of (s _ hp)) ?_ ?_
 . rintro i x σ H' hi ⟨v4,rfl,s,S8,im,hw⟩;obtain ⟨k,hk,hx⟩:=hA.get hi;have ML:=cZ hg k (bc hk);obtain ⟨sf,sw⟩:=HN k (bc hk);obtain ⟨a,pl,ps,rfl,⟨dx,fl,bv,fs,hN',hN2⟩,fp,VR⟩:=(hx.Y C im).view ML;have SJ:=tF (sel:=sel) (es:=(subs e).take i) (l:= []);rw [hJ,fL] at SJ;have hmt:=Ky (sel:=sel) (l:= []) hk;exists _,U,fr hN' U #[_,U,U,_,U,bG (λe1=>?_) λe1=>aF U ?_]
   . rw [sf] at e1;obtain ⟨m,hm⟩:=tY.mp e1;obtain ⟨ew,hmem⟩:=sw m hm;have hmt:met sel [] ((subs e).take (i+1))=put m (met sel [] ((subs e).take i)):=by
      rw [hmt];unfold wS;rw [hm]
     rw [BP] at hmt;exists _,U,fr hN' U #[_,U,D,_,U,.inl (cz.of hw),U,BL _,_,U,?_];rw [ah rfl,ew,PZ];by_cases hc:(met sel [] ((subs e).take i)).contains m=true
     . rw [ah hc] at hmt;refine aF (by rw [hc];rfl) #[_,rfl,s,S8,im,?_];rw [hmt];exact hw
     . rw [ae hc] at hmt;refine bD (by rw [uB] at hc;rw [hc];rfl) ?_;have dJ:bX c H' (upd H' D (.lst (lQ (met sel [] ((subs e).take i))++ [.str (aR m)]))):=bX.upd hw rfl;exists _,U,mR hw,_,U,fr hN' U #[D,_,_,U,U,hw,by rw [gW];omega,?_];rw [ew];exists _,U,s.bM hD,λo e=>?_,im.trans dJ,?_
       . rw [aA UX];exact S8 o e
       . rw [aa,hmt];unfold lQ;rw [dW];rfl
   . rw [sf] at e1;exists _,U,s,S8,im,?_;rw [hmt];unfold wS;cases hm:sel k with
     | none=>exact hw
     | some m=>rw [hm] at e1;cases e1
 . rintro σ H' ⟨v4,rfl,s,S8,im,hw⟩;rw [hA.len,cM] at hw;have SJ:=tF (sel:=sel) (es:=subs e) (l:= []);rw [fL] at SJ;exists _,U,D,U,#[_,cz.of hw],λD2 eN=>?_;refine jw (K:=K) (a:=D) (xs:=lQ (met sel [] (subs e))) (zp cY (met sel [] (subs e))) (by rw [gW,pT]) eN (cz.of hw) (by rw [gW];omega) (λi x y H2 R hx hy s2 k=>?_) λH2 s2 h2=>?_
   . obtain ⟨m,hm,rfl⟩:=kf hx;obtain ⟨m',hm',rfl⟩:=yY hy;rw [hm] at hm';cases hm';have hmm:m∈cY:=by
      rcases tE (bc hm) with h | ⟨k,hk,ek⟩
      . cases h
      . exact ((HN k hk).2 m ek).2
     obtain ⟨hx1,hx2⟩:=vA hmm;have hn2:FL H2 na (lQ cY):=hn.app (s.trans s2);exists U,_,U,VX hn2,_,U,na,lQ cY,_,ix cY m,_,U,U,hn2.sq,U,BL _,BO hx1,kH (aR m),λj z hj hz=>?_,k H2 (aq.refl _);obtain ⟨m2,hm2,rfl⟩:=kf hz;have:=hx2 j m2 hj hm2;show (aR m2 == aR m)=false;exact bS.mpr λz=>this (lw z)
   . exact q D2 H2 (same_none s eN) (s.trans s2) h2
def wT:SP:=λK c vs H Q _=> ∃v e na cY,vs= [v,.ref na]/\GX e/\iq K c H v e/\FL H na (lQ cY)/\yZ yV "name" cY e/\cY.length<=4097/\∀p H',H p=none->aq H H'->H' p=some (.lst (zp cY (mentions [] e)))->Q (.ref p) H'
def wU:AA.h0 27 "mentioned_in" ["expression","names"] wT:=by
 nomatch ["expression","names"]
 obtain ⟨v,e,na,cY,rfl,hg,hv,hn,HN,hnl,q⟩:=h;nomatch 1,oE
 exists _,U,_,U,v,e,"name",na,cY,yV,U,hg,hv,hn,HN,hnl,λp H' np s hp=>q p H' np s ?_;rw [bJ];exact hp
def BQ:SP:=λK c vs H Q _=> ∃v e na cY,vs= [v,.ref na]/\GX e/\iq K c H v e/\FL H na (lQ cY)/\yZ yW "call" cY e/\cY.length<=4097/\∀p H',aq H H'->FL H' p (zp cY (Vaprbb.calls [] e))->Q (.ref p) H'
def tH:AA.h0 27 "called_in" ["expression","names"] BQ:=by
 nomatch ["expression","names"]
 obtain ⟨v,e,na,cY,rfl,hg,hv,hn,HN,hnl,q⟩:=h;nomatch 1,1,oE
 exists _,U,_,U,v,e,"call",na,cY,yW,U,hg,hv,hn,HN,hnl,λp H' np s hp=>?_;exists p,_,U,hp,au,λo=>?_;refine q p _ (s.bM np) #[o,?_];rw [aa,cb]
def P0 (H:Hp) (v:V) (x:Nat×Nat):= ∃a,v= .ref a/\H a=some (.tup [.int (x.1:Nat),.int (x.2:Nat)])
def P0.Y {x:Nat×Nat} (h:P0 H v x) (i:bX c H H'):P0 H' v x:=let #[a,e,q]:=h;#[a,e,i _ _ q rfl]
def pw_ne {pw:Addr} {ws P1:List V} {Xr:List (Nat×Nat)} (hp:H pw=some (.lst P1)) (hA:A2 (iq K c H) P1 (subs e)) (hg:gd e 0) (hD:H D=some (.lst ws)) (hB:A2 (P0 H) ws Xr):pw≠D:=λz=>by
 subst z;rw [hp] at hD;cases hD;have h0:(subs e)[0]? = some e:=by rw [gj hg];rfl
 obtain ⟨v,hv,hx⟩:=hA.get' h0;obtain ⟨x,_,a,rfl,hp2⟩:=hB.get hv;obtain ⟨a',_,_,e',⟨dx,fl,bv,fs,hN,_⟩,_⟩:=hx.view hg;cases e';rw [hN] at hp2;cases hp2
def Qz (fns:List Bytes) (H:Hp) (v:V) (g:Fu):= ∃a,v= .ref a/\FL H a (zp fns (Vaprbb.calls [] g.body))
def Qz.Y {fns:List Bytes} {g:Fu} (h:Qz fns H v g) (i:bX c H H'):Qz fns H' v g:=let #[a,e,q]:=h;#[a,e,q.mono i]
abbrev fG (p:Prog):List Bytes:=p.funs.map λf=>f.name.name
def Fl {l:List Bytes} {f:Bytes} {g:Fu} (h:l[i]? = some f) (hg:p.fun f=some g):reachedFrom p (n+1) i l=reachedFrom p n (i+1) ((Vaprbb.calls [] g.body).foldl (λl x=>put x l) l):=by
 show (match l[i]? with | none=>l | some f=>reachedFrom p n (i+1) (match p.fun f with | some g=>(Vaprbb.calls [] g.body).foldl (λl x=>put x l) l | none=>l))=_;rw [h];show reachedFrom p n (i+1) (match p.fun f with | some g=>(Vaprbb.calls [] g.body).foldl (λl x=>put x l) l | none=>l)=_;rw [hg]
def Dy {l:List Bytes} (h:l.length<=i):reachedFrom p (n+1) i l=l:=by
 show (match l[i]? with | none=>l | some f=>reachedFrom p n (i+1) (match p.fun f with | some g=>(Vaprbb.calls [] g.body).foldl (λl x=>put x l) l | none=>l))=_;rw [tX.mpr h]
def MZ {n:Bytes} {l:List Bytes}:l.length<=(put n l).length:=by
 unfold put;split
 . exact aw _
 . rw [ao];omega
def Fm:SP:=λK c vs H Q _=> ∃v e,vs= [v]/\gd e 0/\iq K c H v e/\Q (.int (tG e:Nat)) H
def Fn:AA.h0 2 "ways_of" ["expression"] Fm:=by
 nomatch ["expression"]
 obtain ⟨v,e,rfl,hg,hv,q⟩:=h;nomatch 2,bK,0,bK,dY,jm,dM,eD,bK,aM aJ,0
 obtain ⟨a,pl,ps,rfl,⟨dx,fl,bv,fs,hN,hB,_⟩,fp,hA⟩:=hv.view hg;have hl:=hA.len;cases e with
 | flip p f=>exists _,U,fr hN U #[U,_,U,bD U q]
 | uniform p lo hi=>
  obtain ⟨b,rfl,hb⟩:=hB;have hk: -1000<=lo/\lo<=hi/\hi<=1000/\hi<=lo+63:=hg.2;exists _,U,fr hN U #[U,_,U,aF U ?_];exists _,U,fr hN U #[U,_,U,bD U ?_];exists _,U,fr hN U #[b,lo,hi,U,hb,_,U,fr hN U #[b,lo,hi,U,hb,_,_,U,U,_,_,U,U,?_]];have e1:(((hi - lo+1).toNat:Nat):Int)=hi - lo+1:=by omega
  show Q (.int (hi - lo+1)) _;rw [<-e1];exact q
 | pick p x=>
  have e1:ps.length=x.count:=hl.trans (lF (by decide) hg.2.1);exists _,U,fr hN U #[U,_,U,aF U ?_];exists _,U,fr hN U #[U,_,U,aF U ?_];exists _,U,fr hN U #[U,_,U,bD U ?_];exists _,U,fr hN U #[pl,ps,U,.inl fp.sq,?_];rw [e1];exact q
 | lit p v=>
  cases v <;>
  exists _,U,fr hN U #[U,_,U,aF U #[_,U,fr hN U #[U,_,U,aF U #[_,U,fr hN U #[U,_,U,aF U q]]]]]
 | _=>exists _,U,fr hN U #[U,_,U,aF U #[_,U,fr hN U #[U,_,U,aF U #[_,U,fr hN U #[U,_,U,aF U q]]]]]
def BR:SP:=λK c vs H Q _=> ∃v p,vs= [v]/\D' K c H v p/\GP p/\∀l ws H',H l=none->aq H H'->H' l=some (.lst ws)->A2 (P0 H') ws p.points->Q (.ref l) H'
def BU:AA.h0 26 "points_of" ["program"] BR:=by
 nomatch ["program","points","expression","inner","ways"]
 obtain ⟨v,p,rfl,hP,hG,q⟩:=h;nomatch 2,1,bE,tj,2,bE,dv (sZ AA 24) ?_,3,4,Fn,ic,cJ bN,0
 have iW:=aV;exists aD _,λD hD=>?_;have s0:=aq.upd (o:= .lst []) hD;exists _,U,v,p,U,hP.Y C s0.Y,hG.fl,hG.sl,λea es H1 s1 fe hE=>?_;have Xs:∀e∈p.funs.map (·.body)++p.stms.map exprOf,GX e:=λe he=>by
  rcases ci.mp he with he | he
  . obtain ⟨f,hf,rfl⟩:=cj.mp he;exact (hG.fn f hf).bd
  . obtain ⟨s,hs,rfl⟩:=cj.mp he;have:=hG.st s hs;cases s with
    | lets n k e=>exact this.2.2
    | observe e=>exact this
 have hL:es.length<=40:=by
  rw [hE.len,ao,aB,aB];have:=hG.fl;have:=hG.sl;omega
 exists ea,U,#[es,fe.sq],cE (K:=K) (a:=ea) (xs:=es) (λi σ H'=> ∃v2 v3 v4:Option V,σ= [some v,some (.ref D),v2,v3,v4]/\aq H H'/\bX c H1 H'/\∃ws,H' D=some (.lst ws)/\ws.length<=4097 * i/\A2 (P0 H') ws (((p.funs.map (·.body)++p.stms.map exprOf).take i).flatMap λe=>(subs e).flatMap iB))
  #[none,none,none,rfl,s0.trans s1,bX.refl,[],s1 _ _ aa,aD _,au] (λi σ H' _ #[_,_,_,_,_,im,_]=>(fe.mono im).sq) ?_ ?_
 . rintro i x σ H' hi ⟨v2,v3,v4,rfl,s,im,ws,hw,hl,hB⟩;obtain ⟨e,he,hx⟩:=hE.get hi;obtain ⟨hg,hd,hz⟩:=Xs e (bc he);have hil:i < es.length:=(bj.mp hi).1;have ht:((p.funs.map (·.body)++p.stms.map exprOf).take (i+1)).flatMap (λe=>(subs e).flatMap iB)=((p.funs.map (·.body)++p.stms.map exprOf).take i).flatMap (λe=>(subs e).flatMap iB)++(subs e).flatMap iB:=by
    obtain ⟨hl',e'⟩:=bj.mp he;rw [ef hl',dC,e'];simp
   exists _,U,x,e,U,hg,hd,hz,hx.Y C im,λpw P1 H2 s2 hp hA=>?_;have hw2:=s2 _ _ hw;have UX:=pw_ne hp hA hg hw2 (hB.mono λ_ _ z=>z.Y (c:=c) s2.Y);have hsl:(subs e).length=sz e:=ck e;have hl2:=hA.len;exists pw,U,#[P1,cz.of hp],cE (K:=K) (a:=pw) (xs:=P1) (λj σ H'=> ∃v3 v4:Option V,σ= [some v,some (.ref D),some x,v3,v4]/\aq H H'/\bX c H1 H'/\bX c H2 H'/\H' pw=some (.lst P1)/\∃ws,H' D=some (.lst ws)/\ws.length<=4097 * i+j/\A2 (P0 H') ws ((((p.funs.map (·.body)++p.stms.map exprOf).take i).flatMap λe=>(subs e).flatMap iB)++((subs e).take j).flatMap iB))
    #[v3,v4,rfl,s.trans s2,im.trans s2.Y,bX.refl,hp,ws,hw2,hl,by rw [kR,uC,bH];exact hB.mono λ_ _ z=>z.Y (c:=c) s2.Y] (λj σ H' _ #[_,_,_,_,_,_,h,_]=>cz.of h) ?_ ?_
   . rintro j y σ H3 hj ⟨v3,v4,rfl,s3,S9,M3,hp3,S_,yw,hl3,hB3⟩;obtain ⟨k,hk,hy⟩:=hA.get hj;have ML:=cZ hg k (bc hk);have hjl:j < P1.length:=(bj.mp hj).1;have VY:=hy.Y C M3;have S2:((subs e).take (j+1)).flatMap iB=((subs e).take j).flatMap iB++iB k:=by
      obtain ⟨hl',e'⟩:=bj.mp hk;rw [ef hl',dC,e'];simp
     exists _,U,y,k,U,ML,VY,?_;exists _,U,_,_,U,U,_,U,bG (λe1=>?_) λe1=>?_
     . have e1:(tG k:Int) > 0:=by simpa using e1
       have RY:iB k= [(k.place,tG k)]:=by unfold iB;rw [ah (by omega)]
       obtain ⟨ay,dy,fy,rfl,hay,gQ⟩:=iq.place ML VY;exists _,U,mR yw,_,U,fr hay gQ #[_,U,jJ,λT hT=>?_];have sT:=aq.upd (o:= .tup [.int (k.place:Nat),.int (tG k:Nat)]) hT;have RZ:=sT _ _ yw;exists D,_,_,U,U,RZ,by omega,?_;have dJ:bX c (upd H3 T (.tup [.int (k.place:Nat),.int (tG k:Nat)])) (upd (upd H3 T (.tup [.int (k.place:Nat),.int (tG k:Nat)])) D (.lst (S_++ [.ref T]))):=bX.upd RZ rfl;have UY:=(sT.Y (c:=c)).trans dJ;exists _,_,U,(s3.trans sT).bM hD,S9.trans UY,M3.trans UY,?_,_,aa,by rw [ao,aC];omega,?_
       . rw [aA UX];exact sT _ _ hp3
       . rw [S2,RY,<-bw];exact (hB3.mono λ_ _ z=>z.Y UY).snoc #[T,rfl,dJ _ _ aa rfl]
     . have e1:¬(tG k:Int) > 0:=by simpa using e1
       have RY:iB k= []:=by unfold iB;rw [ae (by omega)]
       exists _,_,U,s3,S9,M3,hp3,S_,yw,by omega,?_;rw [S2,RY,bH];exact hB3
   . rintro σ H3 ⟨v3,v4,rfl,s3,S9,M3,hp3,S_,yw,hl3,hB3⟩;rw [hl2,cM,<-ht] at hB3;exists _,_,_,U,s3,S9,S_,yw,by omega,hB3
 . rintro σ H' ⟨v2,v3,v4,rfl,s,im,ws,hw,hl,hB⟩;rw [hE.len,cM,<-Dx hG] at hB;exists _,U,q D ws H' hD s hw hB
def wV:SP:=λK c vs H Q _=> ∃i cl zN p f,vs= [.int (i:Nat),.ref cl]/\FL H cl zN/\A2 (Qz (fG p) H) zN p.funs/\p.funs[i]? = some f/\(fG p).Nodup/\(∀g∈p.funs,∀n∈Vaprbb.calls [] g.body,n∈fG p)/\p.funs.length<=8/\∀H',aq H H'->Q (.bl (recursive p f.name.name)) H'
def wW:AA.h0 2 "is_recursive" ["number","called"] wV:=by
 nomatch ["number","called","met","at","others","other"]
 obtain ⟨i,cl,zN,p,f',rfl,fc,hA,hf,hnd,hcl,h8,q⟩:=h;nomatch 2,2,cv fh,bR,3,eS,aM aJ,4,bR,bR,bE,5,lV,cJ bN,3,qI,eC
 have iW:=aV;have hfi:(fG p)[i]? = some f'.name.name:=by rw [bz,hf];rfl
 have hfm:f'.name.name∈fG p:=bc hfi;have hix:=Dv hnd hfi;have hfun:p.fun f'.name.name=some f':=by
  obtain ⟨g',h1,h2,_⟩:=Kz hfm;rw [hix,hf] at h2;cases h2;exact h1
 have hrec:recursive p f'.name.name=(reachedFrom p (p.funs.length+1) 0 (Vaprbb.calls [] f'.body)).contains f'.name.name:=by
  unfold recursive;rw [hfun]
 have hfl:(fG p).length=p.funs.length:=aB _;obtain ⟨vi,Xu,ai,rfl,fi⟩:=hA.get' hf;exists _,U,_,U,cl,zN,i,_,U,U,fc.sq,dz Xu,ai,_,U,.inl fi.sq,λD hD=>?_;exists λm σ H'=> ∃(at_:Nat) (l:List Bytes) (v4 v5:Option V),σ= [some (.int (i:Nat)),some (.ref cl),some (.ref D),some (.int (at_:Nat)),v4,v5]/\aq H H'/\H' D=some (.lst (zp (fG p) l))/\l.Nodup/\(∀n∈l,n∈fG p)/\at_<=l.length/\m=p.funs.length - at_/\reachedFrom p (p.funs.length - at_+1) at_ l=reachedFrom p (p.funs.length+1) 0 (Vaprbb.calls [] f'.body),
  #[_,0,_,none,none,rfl,aq.upd hD,aa,(by rw [cb];exact AG iY),hcl f' (bc hf),aD _,rfl,rfl],?_
 rintro m σ H' ⟨at_,l,v4,v5,rfl,s,hw,hn,hm,hat,rfl,hr⟩;have hll:=zW hn hm;exists _,U,_,U,D,_,U,.inl (cz.of hw),_,_,U,U,_,U,bG (λe1=>?_) λe1=>?_
 . refine dG ?_;have gZ:at_ < l.length:=by
    have:(at_:Int) < ((zp (fG p) l).length:Int):=by simpa using e1
    rw [pT] at this;omega
   have hla:l[at_]? = some l[at_]:=bB gZ;have Xv:l[at_]∈fG p:=hm _ (o6 _);obtain ⟨g',hg1,hg2,Yi⟩:=Kz Xv;obtain ⟨vg,Xw,ag,rfl,fg⟩:=hA.get' hg2;have Xx:(zp (fG p) l)[at_]? = some (.int (ix (fG p) l[at_]:Nat)):=by unfold zp;rw [bz,hla];rfl
   rw [show p.funs.length - at_+1=(p.funs.length - (at_+1)+1)+1 by omega,Fl hla hg1] at hr;exists _,U,_,U,_,U,D,_,at_,_,U,U,cz.of hw,dz Xx,cl,zN,ix (fG p) l[at_],_,U,U,(fc.app s).sq,dz Xw,?_;have R0:∀l':List Bytes,l'.Nodup->(∀n∈l',n∈fG p)->l'.length<=8:=λl' h1 h2=>by
    have:=zW h1 h2;omega
   exists _,U,ag,U,#[_,(fg.app s).sq],cE (K:=K) (a:=ag) (xs:=zp (fG p) (Vaprbb.calls [] g'.body)) (λj σ H'=> ∃(l':List Bytes) (v5:Option V),σ= [some (.int (i:Nat)),some (.ref cl),some (.ref D),some (.int (at_:Nat)),some (.ref ag),v5]/\aq H H'/\H' D=some (.lst (zp (fG p) l'))/\l'.Nodup/\(∀n∈l',n∈fG p)/\at_ < l'.length/\l'=((Vaprbb.calls [] g'.body).take j).foldl (λl x=>put x l) l)
    #[l,v5,rfl,s,hw,hn,hm,gZ,rfl] (λj σ H' _ #[_,_,_,s,_]=>(fg.app s).sq) ?_ ?_
   . rintro j y σ H2 hj ⟨l',v5,rfl,s2,hw2,hn2,hm2,hlt2,e2⟩;obtain ⟨n',hn',rfl⟩:=yY hj;have hnm:n'∈fG p:=hcl g' (bc hg2) n' (bc hn');have ht:((Vaprbb.calls [] g'.body).take (j+1)).foldl (λl x=>put x l) l=put n' l':=by
      obtain ⟨hl',e'⟩:=bj.mp hn';rw [ef hl',ur,e',<-e2];rfl
     exists _,U,_,U,D,_,U,.inl (cz.of hw2),U,GO _ _,_,U,?_;rw [ah rfl,KC hnm hm2];rw [BP] at ht;by_cases hc:l'.contains n'=true
     . rw [ah hc] at ht;exact aF (by rw [hc];rfl) #[l',_,rfl,s2,hw2,hn2,hm2,hlt2,ht.symm]
     . have Xy:=R0 l' hn2 hm2;refine bD (by rw [uB] at hc;rw [hc];rfl) ?_;exists _,U,mR hw2,_,U,D,_,_,U,U,hw2,by rw [pT];omega,?_;exists put n' l',_,U,s2.bM hD,?_,AF hn2,λm hm'=>?_,bq hlt2 MZ,?_
       . rw [aa,BP,ae hc];unfold zp;rw [dW];rfl
       . rcases GK hm' with h | rfl
         . exact hm2 m h
         . exact hnm
       . rw [ht,BP]
   . rintro σ H2 ⟨l',v5,rfl,s2,hw2,hn2,hm2,hlt2,e2⟩;rw [pT,cM] at e2;rw [<-e2] at hr;exists _,U,_,_,U,U,_,by omega,at_+1,l',_,_,U,s2,hw2,hn2,hm2,hlt2,U,hr
 . have hge:l.length<=at_:=by
    have:¬(at_:Int) < ((zp (fG p) l).length:Int):=by simpa using e1
    rw [pT] at this;omega
   rw [Dy hge] at hr;have q:=q H' s;rw [hrec,<-hr] at q;exists _,U,_,U,D,_,U,.inl (cz.of hw),U,GO _ _,?_;rw [ae aO];have e2:=KC hfm hm;rw [hix] at e2;rw [e2];exact q
def GQ {J:It} (N:Nat) {g:TG} (Rel:Nat->V->Hp->Prop) (hm:∀i y H H',bX c H H'->Rel i y H->Rel i y H') (hD:H1 D=none) (hz:N<=sizeLine) (hgo:∀i H,i < N->aq H1 H->J.go i H) (fU:∀H,aq H1 H->J.stop N H) (hs:∀i x H H' (R:VK),i < N->aq H1 H->J.D6 i H x H'->(∀y H2,aq H H2->Rel i y H2->R y H2)->g x (wipe σ vs) H' λσ2 H2=>wipe σ2 vs=wipe σ vs/\te σ2 H2 R) (hd:∀H ys,aq H1 H->H D=some (.lst ys)->ys.length=N->(∀(i:Nat) y,ys[i]? = some y->Rel i y H)->Qd H):
 ∃W:Nat->Nat->Hp->Prop,(∃m,W 0 m (upd H1 D (.lst [])))/\∀i m H,W i m H->
  (J.stop i H/\Qd H)\/(J.go i H/\∃Nx:Hp->Prop,(∀H',Nx H'->∃m',m' < m/\W (i+1) m' H')/\∀x H',J.D6 i H x H'->g x (wipe σ vs) H' λσ2 H2=>wipe σ2 vs=wipe σ vs/\Hb σ2 H2 λb H3=>
   if b=true then te σ2 H3 λy H4=> ∃acc,H4 D=some (.lst acc)/\acc.length < sizeLine/\Nx (upd H4 D (.lst (acc++ [y]))) else Nx H3):=by
 refine Js N (λi H=>aq H1 H/\∃ys,H D=some (.lst ys)/\ys.length=i/\∀(k:Nat) y,ys[k]? = some y->Rel k y H) #[aq.upd hD,[],aa,rfl,λk y e=>by simp at e] (λi H hi p=>hgo i H hi p.1) (λH p=>fU H p.1) ?_ ?_
 . rintro i x H H' hi ⟨s1,ys,hy,hl,hr⟩ yl;refine hs i x H H' (λy H4=> ∃acc,H4 D=some (.lst acc)/\acc.length < sizeLine/\(aq H1 (upd H4 D (.lst (acc++ [y])))/\∃ys,upd H4 D (.lst (acc++ [y])) D=some (.lst ys)/\ys.length=i+1/\∀(k:Nat) y',ys[k]? = some y'->Rel k y' (upd H4 D (.lst (acc++ [y]))))) hi s1 yl λy H2 s2 r=>?_;have e':=s2 D _ hy;have im:bX c H2 (upd H2 D (.lst (ys++ [y]))):=bX.upd e' rfl;exists ys,e',by omega,(s1.trans s2).bM hD,_,aa,by rw [ao,hl];rfl,λk y' e=>?_;by_cases hk:k < ys.length
   . rw [tV hk] at e;exact hm k y' _ _ im (hm k y' _ _ s2.Y (hr k y' e))
   . rw [tT (by omega)] at e;have hk2:k=i:=by
      have:=(bj.mp e).1;simp at this;omega
     subst hk2;rw [hl,uF] at e;cases e;exact hm k y _ _ im r
 . rintro H ⟨s1,ys,hy,hl,hr⟩;exact hd H ys s1 hy hl hr
def isLet:Stm->Bool
 | .lets _ _ _=>true
 | .observe _=>false
def KD:Stm->Bytes
 | .lets n _ _=>n.name
 | .observe _=> []
def dm (p:Prog):letNames p=(p.stms.filter isLet).map KD:=by
 unfold Vaprbb.letNames;induction p.stms with
 | nil=>rfl
 | cons s r ih=>
  cases s with
  | lets n k e=>exact bA (n.name :: ·) ih
  | observe e=>exact ih
def y4 (p:α->Bool) (l:List α):(l.filter p).length<=l.length:=List.length_filter_le _ _
def gG (p:Prog):(letNames p).length<=p.stms.length:=by
 rw [dm,aB];exact y4 _ _
abbrev zr (f:Fu):List Bytes:=f.params.map λd=>d.name.name
def Cg (H:Hp) (d:Addr) (f:Bytes->Bytes) (cY:List Bytes):= ∃aG,FD H d aG/\∀n∈cY,cy aG (nk n)=some (.str (aR (f n)))
def Cg.Y {d:Addr} {f:Bytes->Bytes} (h:Cg H d f cY) (i:bX c H H'):Cg H' d f cY:=let #[k,a,b]:=h;#[k,a.Y i,b]
def Cg.get {d:Addr} {f:Bytes->Bytes} (h:Cg H d f cY) {n:Bytes} (hn:n∈cY):r9 H d (.str (aR n)) (some (.str (aR (f n)))):=by
 obtain ⟨aG,a,b⟩:=h;have:=a.rd.get n;rw [b n hn] at this;exact this
def QA (H:Hp) (an:Fu->Bytes->Bytes) (v:V) (f:Fu):= ∃d,v= .ref d/\Cg H d (an f) (zr f)
def QA.Y {an:Fu->Bytes->Bytes} (h:QA H an v f) (i:bX c H H'):QA H' an v f:=let #[d,e,q]:=h;#[d,e,q.Y i]
def P2 (c:Cl) (H:Hp) (v:V) (p:Prog) (t:Bytes) (xn fn:Bytes->Bytes) (an:Fu->Bytes->Bytes):= ∃a dx ld fd pl ps,v= .ref a/\H a=some (.ins c.Gg dx [("title",.str (aR t)),("lets",.ref ld),("functions",.ref fd),("parameters",.ref pl)])/\Cg H ld xn (letNames p)/\Cg H fd fn (fG p)/\FL H pl ps/\A2 (QA H an) ps p.funs
def Dz (f:Bytes->Bytes) (n:Bytes):Key×V:=(nk n,.str (aR (f n)))
def vB (f:Bytes->Bytes):∀(l:List Bytes) (acc:List (Key×V)) (n:Bytes),cy (lY acc (l.map (Dz f))) (nk n)=if n∈l then some (.str (aR (f n))) else cy acc (nk n)
 | [],acc,n=>by rw [ae cU];rfl
 | m :: l,acc,n=>by
  show cy (lY (putK acc (nk m) (.str (aR (f m)))) (l.map (Dz f))) (nk n)=_;rw [vB f l,r6];by_cases h1:n∈l
  . rw [ah h1,ah (aW _ h1)]
  . rw [ae h1];by_cases h2:n=m
    . subst h2;rw [ah rfl,ah bi]
    . rw [ae (λz=>h2 (BE z)),ae (λz=>(aE.mp z).elim h2 h1)]
def Oa (f:Bytes->Bytes) (H:Hp) (v:V) (n:Bytes):= ∃a,v= .ref a/\H a=some (.tup [.str (aR n),.str (aR (f n))])
def y6 {f:Bytes->Bytes}:∀{ys:List V} {l:List Bytes},A2 (Oa f H) ys l->∃ps:List Addr,ys=ps.map V.ref/\Paired (λp kv=>gS K H p [kV kv.1,kv.2]) ps (l.map (Dz f))
 | [],[],_=>#[[],rfl,.nil]
 | y :: ys,n :: l,h=>by
  obtain ⟨⟨a,rfl,ha⟩,h⟩:=h;obtain ⟨ps,e,hp⟩:=y6 h;exists a :: ps,by rw [e];rfl,.cons (.inl (.inl ha)) hp
 | [],_ :: _,h=>h.elim
 | _ :: _,[],h=>h.elim
def Oa.Y {f:Bytes->Bytes} {n:Bytes} (h:Oa f H v n) (i:bX c H H'):Oa f H' v n:=let #[a,e,q]:=h;#[a,e,i _ _ q rfl]
def P4 (ch:UInt8) (l:List Bytes) (n:Bytes):byNumber ch l n=ch :: showNat (ix l n):=rfl
def BV:SP:=λK c vs H Q _=> ∃v p,vs= [v]/\D' K c H v p/\p.stms.length<=32/\∀a H',H a=none->aq H H'->FL H' a (lQ (letNames p))->Q (.ref a) H'
def mz:AA.h0 2 "let_names" ["program"] BV:=by
 nomatch ["program","let"]
 obtain ⟨v,p,rfl,hP,S5,q⟩:=h;nomatch 1,1,ie (bE (dv (yE AA) (pU (pv 0)))) [("let",1)] (λ_ _ _ _ _=>(bL 1)) (λ_ _ _ _ _=>(fk (K:=K) rfl (pv 1) rfl))
 have iW:=aV;exists _,U,v,p,U,hP,S5,λla ws H1 s1 fl hA=>?_;have hA:A2 (D_ K c H1) ws (p.stms.filter isLet):=hA;have hll:=y4 isLet p.stms;have hal:=hA.len;exists la,U,#[ws,fl.sq],λD hD=>?_;refine jw (K:=K) (a:=la) (xs:=ws) (lQ (letNames p)) (by rw [gW,dm,aB,hal]) hD fl.sq (by omega) (λi x y H2 R hx hy s2 k=>?_) λH2 s2 h2=>?_
 . obtain ⟨st,fU,hxs⟩:=hA.get hx;obtain ⟨m,hm,rfl⟩:=kf hy;rw [dm,bz,fU] at hm;have hm:KD st=m:=bF hm;subst hm;have hil:isLet st=true:=(hX.mp (bc fU)).2;cases st with
   | observe e=>cases hil
   | lets nn o e=>
    obtain ⟨a,da,wv,ev,rfl,ha,_⟩:=hxs.Y C s2.Y;exists U,_,U,fr ha U (k H2 (aq.refl _))
 . exists D,_,U,h2,au,λo=>?_;have Ea:=same_none s1 hD;exact q D _ Ea ((s1.trans s2).bM Ea) #[o,aa]
def tI:SP:=λK c vs H Q _=> ∃v p,vs= [v]/\D' K c H v p/\p.funs.length<=8/\∀a H',H a=none->aq H H'->FL H' a (lQ (fG p))->Q (.ref a) H'
def gH:AA.h0 1 "function_names" ["program"] tI:=by
 nomatch ["program","function"]
 obtain ⟨v,p,rfl,hP,h8,q⟩:=h;nomatch 1,1,ie (bE (ca (pv 0))) [("function",1)] (λ_ _ _ _ _=>(bL 1)) (λ_ _ _ _ _=>(fk (K:=K) rfl (pv 1) rfl))
 have iW:=aV;obtain ⟨a,dx,fl,sl,tl,fs,ss,ts,rfl,ha,f1,A1,f2,zF,f3,A3⟩:=id hP;have l1:=A1.len;exists _,U,fr ha U #[fl,U,#[fs,f1.sq],λD hD=>?_];refine jw (K:=K) (a:=fl) (xs:=fs) (lQ (fG p)) (by rw [gW,aB,l1]) hD f1.sq (by omega) (λi x y H2 R hx hy s2 k=>?_) λH2 s2 h2=>?_
 . obtain ⟨f',hf,hxs⟩:=A1.get hx;obtain ⟨m,hm,rfl⟩:=kf hy;rw [bz,hf] at hm;cases hm;obtain ⟨a',zu,pl,kv,bv,ps,rfl,ha',_⟩:=hxs.Y C s2.Y;exists U,_,U,fr ha' U (k H2 (aq.refl _))
 . exists D,_,U,h2,au,λo=>?_;exact q D _ hD (s2.bM hD) #[o,aa]
def rn:SP:=λK c vs H Q _=> ∃v f,vs= [v]/\E4 K c H v f/\f.params.length<=4/\∀a H',H a=none->aq H H'->FL H' a (lQ (zr f))->Q (.ref a) H'
def jG:AA.h0 1 "parameter_names" ["function"] rn:=by
 nomatch ["function","parameter"]
 obtain ⟨v,f',rfl,hF,h4,q⟩:=h;nomatch 1,1,ie (bE (ca (pv 0))) [("parameter",1)] (λ_ _ _ _ _=>(bL 1)) (λ_ _ _ _ _=>(fk (K:=K) rfl (pv 1) rfl))
 have iW:=aV;obtain ⟨a,dx,pl,kv,bv,ps,rfl,ha,f1,A1,_⟩:=id hF;have l1:=A1.len;exists _,U,fr ha U #[pl,U,#[ps,f1.sq],λD hD=>?_];refine jw (K:=K) (a:=pl) (xs:=ps) (lQ (zr f')) (by rw [gW,aB,l1]) hD f1.sq (by omega) (λi x y H2 R hx hy s2 k=>?_) λH2 s2 h2=>?_
 . obtain ⟨d,hd,hxs⟩:=A1.get hx;obtain ⟨m,hm,rfl⟩:=kf hy;rw [bz,hd] at hm;cases hm;obtain ⟨a',zu,Xz,rfl,ha',_⟩:=hxs.Y C s2.Y;exists U,_,U,fr ha' U (k H2 (aq.refl _))
 . exists D,_,U,h2,au,λo=>?_;exact q D _ hD (s2.bM hD) #[o,aa]
def M4:SP:=λK c vs H Q _=> ∃na cY,vs= [.ref na]/\FL H na (lQ cY)/\cY.length<=4097/\∀d H',H d=none->aq H H'->Cg H' d id cY->Q (.ref d) H'
def BW:AA.h0 1 "kept" ["names"] M4:=by
 nomatch ["names","name"]
 obtain ⟨na,cY,rfl,hn,hl,q⟩:=h;nomatch 1,1,cv (xT rfl) ?_,ie (bE (pv 0)) [("name",1)] (λ_ _ _ _ _=>(bL 1)) (λ_ _ _ _ _=>(Ek (aI (pv 1) (pU (pv 1)))))
 have iW:=aV;exists _,U,na,U,#[_,hn.sq],λD hD=>?_;refine qR (c:=c) (K:=K) (a:=na) (xs:=lQ cY) (λi y H'=> ∃m,cY[i]? = some m/\Oa id H' y m) (λi y _ _ im #[m,e,z]=>#[m,e,z.Y im]) hD hn.sq (by rw [gW];omega) (λi x H1 R hx s1 k=>?_) λH1 ys s1 hy hl1 hr=>?_
 . obtain ⟨m,hm,rfl⟩:=kf hx;exists U,_,U,_,U,jJ,λT hT=>k _ _ (aq.upd hT) #[m,hm,T,U,aa]
 . obtain ⟨ps,rfl,hp⟩:=y6 (K:=K) (A2.of_get (R:=Oa id H1) (by rw [hl1,gW]) hr);exists D,ps,cY.map (Dz id),U,cz.of hy,hp,λd hd=>?_;exists d,_,U,aa,au,λo=>?_;have hd0:=same_none s1 hd;refine q d _ hd0 ((s1.bM hd0).bM hd0) #[_,#[o,aa],λm hm=>?_];rw [vB,ah hm]
def DA:SP:=λK c vs H Q _=> ∃ch na cY,vs= [.str (aR [ch]),.ref na]/\FL H na (lQ cY)/\cY.length<=4097/\cY.Nodup/\∀d H',H d=none->aq H H'->Cg H' d (byNumber ch cY) cY->Q (.ref d) H'
def oF:AA.h0 1 "numbered" ["letter","names"] DA:=by
 nomatch ["letter","names","number","name"]
 obtain ⟨ch,na,cY,rfl,hn,hl,hnd,q⟩:=h;nomatch 1,1,cv (xT rfl) ?_,ie (Mg (pU (pv 1))) [("number",2),("name",3)] (λ_ _ _ _ _=>(Gi (K:=K) (n:=2) rfl rfl (fP (bL 2) (fP (bL 3) rT)))) (λ_ _ _ _ _=>(Ek (aI (pv 3) (pU (xE aY (pv 0) (cv cR (pU (pv 2))))))))
 have iW:=aV;exists _,U,na,_,U,hn.sq,λD hD=>?_;refine GQ (c:=c) cY.length (λi y H'=> ∃m,cY[i]? = some m/\Oa (byNumber ch cY) H' y m) (λi y _ _ im #[m,e,z]=>#[m,e,z.Y im]) hD (by omega) (λi H1 hi s1=>?_) (λH1 s1=>?_) (λi x H1 H2 R hi s1 yl k=>?_) λH1 ys s1 hy hl1 hr=>?_
 . exists lQ cY,_,(hn.app s1).sq,BO (bB hi)
 . exists lQ cY,(hn.app s1).sq,by rw [gW];exact aw _
 . obtain ⟨T,x',rfl,hT,rfl,hx⟩:=yl;have hx:=hx _ (hn.app s1).sq;obtain ⟨m,hm,rfl⟩:=kf hx;have sT:=aq.upd (o:= .tup [.int (i:Nat),.str (aR m)]) hT;have hxi:=Dv hnd hm;exists T,[_,_],U,.inl (.inl aa),U,_,_,U,_,_,U,U,?_;exists U,_,U,_,U,_,U,_,U,log2_small (by omega),?_;exists _,_,U,U,?_,jJ,λT2 hT2=>k _ _ (sT.trans (aq.upd hT2)) #[m,hm,T2,U,?_]
   . rw [str_int,aK,aK];have:(VaprbBase.showInt (i:Int)).length<=11:=cK #[by omega,by omega];rw [aC];omega
   . rw [aa,str_int,<-iC,P4,hxi,oC];rfl
 . obtain ⟨ps,rfl,hp⟩:=y6 (K:=K) (A2.of_get (R:=Oa (byNumber ch cY) H1) hl1 hr);exists D,ps,cY.map (Dz (byNumber ch cY)),U,cz.of hy,hp,λd hd=>?_;exists d,_,U,aa,au,λo=>?_;have hd0:=same_none s1 hd;refine q d _ hd0 ((s1.bM hd0).bM hd0) #[_,#[o,aa],λm hm=>?_];rw [vB,ah hm]
def BZ:SP:=λK c vs H Q _=> ∃v p,vs= [v]/\D' K c H v p/\GP p/\∀a H',aq H H'->P2 c H' (.ref a) p p.title.name id id (λ_=>id)->Q (.ref a) H'
def B3:AA.h0 3 "own_names" ["program"] BZ:=by
 nomatch ["program","lets","functions","parameters","function"]
 obtain ⟨v,p,rfl,hP,hG,q⟩:=h;nomatch 2,1,BW,mz,2,BW,gH,nw 3 (bE (ca (pv 0))) [("function",4)] (λ_ _ _ _ _=>(bL 4)) (λ_ _ _ _ _=>(dv (BW AA) (pU (dv (jG AA) (pU (pv 4)))))),gw (jE AA) (aI ?_ (aI ?_ (aI ?_ (pU (di ?_)))))
 have iW:=aV;have hsl:=hG.sl;have hfl:=hG.fl;have mE:=gG p;have hfn:(fG p).length=p.funs.length:=aB _;exists _,U,v,p,U,hP,hsl,λa1 H1 n1 s1 f1=>#[a1,_,U,f1,by omega,λd2 H2 n2 s2 f2=>?_];have t2:=s1.trans s2;exists _,U,v,p,U,hP.Y C t2.Y,hfl,λa3 H3 n3 s3 f3=>#[a3,_,U,f3,by omega,λd4 H4 n4 s4 f4=>?_];have t4:=t2.trans (s3.trans s4);obtain ⟨a,dx,fl,sl,tl,fs,ss,ts,rfl,ha,g1,A1,g2,zF,g3,A3⟩:=hP.Y C t4.Y;have l1:=A1.len;exists _,U,fr ha U #[fl,U,#[fs,g1.sq],λD hD=>?_];refine qR (c:=c) (K:=K) (a:=fl) (xs:=fs) (λi y H'=> ∃f,p.funs[i]? = some f/\QA H' (λ_=>id) y f) (λi y _ _ im #[m,e,z]=>#[m,e,z.Y im]) hD g1.sq (by omega) (λi x H5 R hx s5 k=>?_) λH5 ys s5 hy UZ hr=>?_
 . obtain ⟨f',hf,hxs⟩:=A1.get hx;have h4:=(hG.fn f' (bc hf)).pl;have gQ:(zr f').length=f'.params.length:=aB _;exists U,_,U,x,f',U,hxs.Y C s5.Y,h4,λa6 H6 n6 s6 f6=>#[a6,_,U,f6,by omega,λd7 H7 n7 s7 f7=>k _ _ (s6.trans s7) #[f',hf,d7,U,f7]]
 . exists _,U,fr (s5 _ _ ha) U #[_,U,_,U,_,U,D,_,U,hy,au,λo=>?_];have Ea:=same_none t4 hD;have dJ:bX c H5 (upd H5 D (.gR o (.lst ys))):=bX.upd hy rfl;refine Gx λx H' nx sx #[dy,hx]=>?_;have P5:=dJ.trans (sx.Y (c:=c));refine q x H' (((t4.trans s5).bM Ea).trans sx) #[x,dy,d2,d4,D,ys,rfl,hx,(f2.Y (c:=c) ((s3.trans s4).trans s5).Y).Y P5,(f4.Y (c:=c) s5.Y).Y P5,#[o,sx _ _ aa],?_];exact A2.of_get (by rw [UZ,l1]) λi y e=>by
    obtain ⟨f',hf,z⟩:=hr i y e;exists f',hf,z.Y P5
def ro:SP:=λK c vs H Q _=> ∃v p,vs= [v]/\D' K c H v p/\GP p/\(letNames p).Nodup/\(fG p).Nodup/\(∀f∈p.funs,(zr f).Nodup)/\∀a H',aq H H'->P2 c H' (.ref a) p [80] (byNumber 120 (letNames p)) (byNumber 102 (fG p)) (λf=>byNumber 97 (zr f))->Q (.ref a) H'
def rp:AA.h0 3 "names_by_number" ["program"] ro:=by
 nomatch ["program","lets","functions","parameters","function"]
 obtain ⟨v,p,rfl,hP,hG,XA,XB,XC,q⟩:=h;nomatch 2,1,oF,mz,2,oF,gH,nw 3 (bE (ca (pv 0))) [("function",4)] (λ_ _ _ _ _=>(bL 4)) (λ_ _ _ _ _=>(dv (oF AA) (aI uK (pU (dv (jG AA) (pU (pv 4))))))),gw (jE AA) (aI ?_ (aI ?_ (aI ?_ (pU (di ?_))))),ig T.ql
 have iW:=aV;have hsl:=hG.sl;have hfl:=hG.fl;have mE:=gG p;have hfn:(fG p).length=p.funs.length:=aB _;exists _,U,v,p,U,hP,hsl,λa1 H1 n1 s1 f1=>#[120,a1,_,U,f1,by omega,XA,λd2 H2 n2 s2 f2=>?_];have t2:=s1.trans s2;exists _,U,v,p,U,hP.Y C t2.Y,hfl,λa3 H3 n3 s3 f3=>#[102,a3,_,U,f3,by omega,XB,λd4 H4 n4 s4 f4=>?_];have t4:=t2.trans (s3.trans s4);obtain ⟨a,dx,fl,sl,tl,fs,ss,ts,rfl,ha,g1,A1,g2,zF,g3,A3⟩:=hP.Y C t4.Y;have l1:=A1.len;exists _,U,fr ha U #[fl,U,#[fs,g1.sq],λD hD=>?_];refine qR (c:=c) (K:=K) (a:=fl) (xs:=fs) (λi y H'=> ∃f,p.funs[i]? = some f/\QA H' (λf=>byNumber 97 (zr f)) y f) (λi y _ _ im #[m,e,z]=>#[m,e,z.Y im]) hD g1.sq (by omega) (λi x H5 R hx s5 k=>?_) λH5 ys s5 hy UZ hr=>?_
 . obtain ⟨f',hf,hxs⟩:=A1.get hx;have h4:=(hG.fn f' (bc hf)).pl;have gQ:(zr f').length=f'.params.length:=aB _;exists U,_,U,x,f',U,hxs.Y C s5.Y,h4,λa6 H6 n6 s6 f6=>#[97,a6,_,U,f6,by omega,XC f' (bc hf),λd7 H7 n7 s7 f7=>k _ _ (s6.trans s7) #[f',hf,d7,U,f7]]
 . exists _,U,_,U,_,U,D,_,U,hy,au,λo=>?_;have Ea:=same_none t4 hD;have dJ:bX c H5 (upd H5 D (.gR o (.lst ys))):=bX.upd hy rfl;refine Gx λx H' nx sx #[dy,hx]=>?_;have P5:=dJ.trans (sx.Y (c:=c));refine q x H' (((t4.trans s5).bM Ea).trans sx) #[x,dy,d2,d4,D,ys,rfl,hx,(f2.Y (c:=c) ((s3.trans s4).trans s5).Y).Y P5,(f4.Y (c:=c) s5.Y).Y P5,#[o,sx _ _ aa],?_];exact A2.of_get (by rw [UZ,l1]) λi y e=>by
    obtain ⟨f',hf,z⟩:=hr i y e;exists f',hf,z.Y P5
def DB {x:Ex} {s:Nat} (hs:s≠0) (h:gd x s):x= .nil\/(∃a r,x= .arg a r)\/(∃a w r,x= .way a w r):=by
 cases x with
 | nil=>exact .inl rfl
 | arg a r=>exact .inr (.inl #[a,r,rfl])
 | way a w r=>exact .inr (.inr #[a,w,r,rfl])
 | lit _ v=>cases v with
  | num n=>exact absurd h.1 hs
  | flag b=>exact absurd h hs
 | _=>exact absurd h.1 hs
def tJ (xn fn:Bytes->Bytes):=(∀n,rN n->rN (xn n))/\∀n,rN n->rN (fn n)
def eY (hl:tJ xn fn):∀{e:Ex} {s:Nat},gd e s->gd (renamed xn fn e) s
 | .nil,_,h=>h
 | .arg a r,_,h=>#[h.1,eY hl h.2.1,eY hl h.2.2]
 | .way a w r,_,h=>#[h.1,eY hl h.2.1,h.2.2.1,eY hl h.2.2.2]
 | .lit _ (.num _),_,h=>h
 | .lit _ (.flag _),_,h=>h
 | .name _ n,_,h=>#[h.1,hl.1 n h.2]
 | .un _ _ a,_,h=>#[h.1,eY hl h.2]
 | .bin _ _ a b,_,h=>#[h.1,eY hl h.2.1,eY hl h.2.2]
 | .flip _ _,_,h=>h
 | .uniform _ _ _,_,h=>h
 | .cond _ d a b,_,h=>#[h.1,eY hl h.2.1,eY hl h.2.2.1,eY hl h.2.2.2]
 | .given _ d a,_,h=>#[h.1,eY hl h.2.1,eY hl h.2.2]
 | .weigh _ w a,_,h=>#[h.1,h.2.1,eY hl h.2.2]
 | .call _ f x,_,h=>#[h.1,hl.2 f h.2.1,eY hl h.2.2]
 | .pick _ x,_,h=>#[h.1,eY hl h.2.1,λz=>h.2.2 (by cases x <;> first | rfl | cases z)]
def eZ:∀e:Ex,sz (renamed xn fn e)=sz e
 | .nil=>rfl
 | .lit _ _=>rfl
 | .name _ _=>rfl
 | .flip _ _=>rfl
 | .uniform _ _ _=>rfl
 | .arg a r=>by show sz (renamed xn fn a)+sz (renamed xn fn r)=sz a+sz r;rw [eZ a,eZ r]
 | .way a w r=>by show sz (renamed xn fn a)+sz (renamed xn fn r)=sz a+sz r;rw [eZ a,eZ r]
 | .un _ _ a=>bA (· +1) (eZ a)
 | .weigh _ _ a=>bA (· +1) (eZ a)
 | .call _ _ a=>bA (· +1) (eZ a)
 | .pick _ a=>bA (· +1) (eZ a)
 | .bin _ _ a r=>by show sz (renamed xn fn a)+sz (renamed xn fn r)+1=sz a+sz r+1;rw [eZ a,eZ r]
 | .given _ a r=>by show sz (renamed xn fn a)+sz (renamed xn fn r)+1=sz a+sz r+1;rw [eZ a,eZ r]
 | .cond _ d a r=>by show sz (renamed xn fn d)+sz (renamed xn fn a)+sz (renamed xn fn r)+1=sz d+sz a+sz r+1;rw [eZ a,eZ r,eZ d]
def iX {f:Frac} (h:J_ f):(showFrac f).length<=22:=by
 have h1:=cK h.1;have h2:(showNat f.den).length<=10:=iE (k:=10) (by have:=h.2.2;omega) (by decide);unfold showFrac;split
 . omega
 . rw [ao,ao,aC];omega
def Fo (o:Vaprbb.Un):(unName o).length<=3:=by cases o <;> decide
def DC (o:Vaprbb.Bin):(binName o).length<=3:=by cases o <;> decide
def oG {a r:Ex} (h:r≠ .nil):showExpr (.arg a r)=showExpr a++word ", " ++showExpr r:=by cases r <;> first | rfl | exact absurd rfl h
def oH {a r:Ex} {w:Frac} (h:r≠ .nil):showExpr (.way a w r)=showExpr a++word " : " ++showFrac w++word ", " ++showExpr r:=by cases r <;> first | rfl | exact absurd rfl h
def cX:∀{e:Ex} {s:Nat},gd e s->(showExpr e).length+(if s=0 then 30 else 0)<=64 * sz e
 | .nil,s,h=>by
  rw [ae (by rcases h with h | h <;> omega)];exact aw _
 | .arg a r,s,h=>by
  have h1:=cX h.2.1;have h2:=cX h.2.2;rw [ah rfl] at h1;rw [ae (by decide)] at h2;have hs0:s=1:=h.1;rw [ae (by omega)];by_cases hr:r= .nil
  . subst hr;show (showExpr a).length+0<=64 * (sz a+0);omega
  . rw [oG hr];show (showExpr a++word ", " ++showExpr r).length+0<=64 * (sz a+sz r);rw [ao,ao];have:(word ", ").length=2:=by decide
    omega
 | .way a w r,s,h=>by
  have h1:=cX h.2.1;have h2:=cX h.2.2.2;have h3:=iX h.2.2.1;rw [ah rfl] at h1;rw [ae (by decide)] at h2;have hs0:s=2:=h.1;rw [ae (by omega)];have:(word ", ").length=2:=by decide
  have:(word " : ").length=3:=by decide
  by_cases hr:r= .nil
  . subst hr;show (showExpr a++word " : " ++showFrac w).length+0<=64 * (sz a+0);rw [ao,ao];omega
  . rw [oH hr];show (showExpr a++word " : " ++showFrac w++word ", " ++showExpr r).length+0<=64 * (sz a+sz r);rw [ao,ao,ao,ao];omega
 | .lit _ (.num n),s,h=>by
  have:=cK h.2;rw [ah h.1];show (showInt n).length+30<=64;omega
 | .lit _ (.flag b),s,h=>by
  rw [ah (show s=0 from h)];show (showVal (.flag b)).length+30<=64;cases b <;> decide
 | .name _ n,s,h=>by
  have:n.length<=16:=h.2;rw [ah h.1];show n.length+30<=64;omega
 | .un _ o a,s,h=>by
  have h1:=cX h.2;have h2:=Fo o;rw [ah rfl] at h1;rw [ah h.1];show (unName o++ [40]++showExpr a++ [41]).length+30<=64 * (sz a+1);simp only [ao,aC];omega
 | .bin _ o a b,s,h=>by
  have h1:=cX h.2.1;have h2:=cX h.2.2;have h3:=DC o;rw [ah rfl] at h1 h2;rw [ah h.1];have:(word ", ").length=2:=by decide
  show (binName o++ [40]++showExpr a++word ", " ++showExpr b++ [41]).length+30<=64 * (sz a+sz b+1);simp only [ao,aC];omega
 | .flip _ f,s,h=>by
  have h1:=iX h.2;rw [ah h.1];have:(word "flip(").length=5:=by decide
  show (word "flip(" ++showFrac f++ [41]).length+30<=64 * 1;simp only [ao,aC];omega
 | .uniform _ lo hi,s,h=>by
  have hk: -1000<=lo/\lo<=hi/\hi<=1000/\hi<=lo+63:=h.2;have h1:=cK (i:=lo) #[by omega,by omega];have h2:=cK (i:=hi) #[by omega,by omega];rw [ah h.1];have:(word "uniform(").length=8:=by decide
  have:(word ", ").length=2:=by decide
  show (word "uniform(" ++showInt lo++word ", " ++showInt hi++ [41]).length+30<=64 * 1;simp only [ao,aC];omega
 | .cond _ d a b,s,h=>by
  have h1:=cX h.2.1;have h2:=cX h.2.2.1;have h3:=cX h.2.2.2;rw [ah rfl] at h1 h2 h3;rw [ah h.1];have:(word ", ").length=2:=by decide
  have:(word "if(").length=3:=by decide
  show (word "if(" ++showExpr d++word ", " ++showExpr a++word ", " ++showExpr b++ [41]).length+30<=64 * (sz d+sz a+sz b+1);simp only [ao,aC];omega
 | .given _ d a,s,h=>by
  have h1:=cX h.2.1;have h2:=cX h.2.2;rw [ah rfl] at h1 h2;rw [ah h.1];have:(word ", ").length=2:=by decide
  have:(word "given(").length=6:=by decide
  show (word "given(" ++showExpr d++word ", " ++showExpr a++ [41]).length+30<=64 * (sz d+sz a+1);simp only [ao,aC];omega
 | .weigh _ w a,s,h=>by
  have h1:=iX h.2.1;have h2:=cX h.2.2;rw [ah rfl] at h2;rw [ah h.1];have:(word ", ").length=2:=by decide
  have:(word "weigh(").length=6:=by decide
  show (word "weigh(" ++showFrac w++word ", " ++showExpr a++ [41]).length+30<=64 * (sz a+1);simp only [ao,aC];omega
 | .call _ f x,s,h=>by
  have h1:f.length<=16:=h.2.1;have h2:=cX h.2.2;rw [ae (by decide)] at h2;rw [ah h.1];show (f++ [40]++showExpr x++ [41]).length+30<=64 * (sz x+1);simp only [ao,aC];omega
 | .pick _ x,s,h=>by
  have h2:=cX h.2.1;rw [ae (by decide)] at h2;rw [ah h.1];have:(word "pick(").length=5:=by decide
  show (word "pick(" ++showExpr x++ [41]).length+30<=64 * (sz x+1);simp only [ao,aC];omega
def M5 (r:Ex->Bytes):Ex->List Bytes
 | .uniform _ lo hi=> [showInt lo,showInt hi]
 | .pick _ x=>((eK x).zip x.weights).map λy=>r y.1++word " : " ++showFrac y.2
 | e=>(Dd e).map showFrac++(kids e).map r
def U0 (fn:Bytes->Bytes):Ex->Bytes
 | .un _ o _=>unName o
 | .bin _ o _ _=>binName o
 | .flip _ _=>word "flip"
 | .uniform _ _ _=>word "uniform"
 | .cond _ _ _ _=>word "if"
 | .given _ _ _=>word "given"
 | .weigh _ _ _=>word "weigh"
 | .call _ f _=>fn f
 | .pick _ _=>word "pick"
 | _=> []
def brk:Ex->Bool
 | .un _ _ _=>true
 | .bin _ _ _ _=>true
 | .flip _ _=>true
 | .uniform _ _ _=>true
 | .cond _ _ _ _=>true
 | .given _ _ _=>true
 | .weigh _ _ _=>true
 | .call _ _ _=>true
 | .pick _ _=>true
 | _=>false
def M6 {s:Nat} (hs:s≠0) {x:Ex} (h:gd x s) (e:eK x= []):x= .nil:=by
 rcases DB hs h with rfl | ⟨a,r,rfl⟩ | ⟨a,w,r,rfl⟩
 . rfl
 . cases e
 . cases e
def xr {x:Ex}:renamed xn fn x= .nil->x= .nil:=by cases x <;> first | (intro _;rfl) | (intro z;cases z)
def wq (sep x:Bytes) {l:List Bytes} (h:l≠ []):joined sep (x :: l)=x++sep++joined sep l:=by
 cases l with
 | nil=>exact absurd rfl h
 | cons y r=>rfl
section
variable (xn fn:Bytes->Bytes)
def args_text:∀{x:Ex},gd x 1->showExpr (renamed xn fn x)=joined (word ", ") ((eK x).map λe=>showExpr (renamed xn fn e))
 | .nil,_=>rfl
 | .arg a r,h=>by
  have ih:=args_text h.2.2;show showExpr (.arg (renamed xn fn a) (renamed xn fn r))=joined (word ", ") (showExpr (renamed xn fn a) :: (eK r).map λe=>showExpr (renamed xn fn e));by_cases hr:r= .nil
  . subst hr;rfl
  . rw [oG (λz=>hr (xr z)),ih,wq];intro z;exact hr (M6 (by decide) h.2.2 (List.map_eq_nil_iff.mp z))
 | .way _ _ _,h=>absurd h.1 (by decide)
 | .lit _ (.num _),h=>absurd h.1 (by decide)
 | .lit _ (.flag _),h=>absurd (show _=0 from h) (by decide)
 | .name _ _,h=>absurd h.1 (by decide)
 | .un _ _ _,h=>absurd h.1 (by decide)
 | .bin _ _ _ _,h=>absurd h.1 (by decide)
 | .flip _ _,h=>absurd h.1 (by decide)
 | .uniform _ _ _,h=>absurd h.1 (by decide)
 | .cond _ _ _ _,h=>absurd h.1 (by decide)
 | .given _ _ _,h=>absurd h.1 (by decide)
 | .weigh _ _ _,h=>absurd h.1 (by decide)
 | .call _ _ _,h=>absurd h.1 (by decide)
 | .pick _ _,h=>absurd h.1 (by decide)
def AH:∀{x:Ex},gd x 2->showExpr (renamed xn fn x)=joined (word ", ") (((eK x).zip x.weights).map λy=>showExpr (renamed xn fn y.1)++word " : " ++showFrac y.2)
 | .nil,_=>rfl
 | .way a w r,h=>by
  have ih:=AH h.2.2.2;show showExpr (.way (renamed xn fn a) w (renamed xn fn r))=joined (word ", ") ((showExpr (renamed xn fn a)++word " : " ++showFrac w) :: ((eK r).zip r.weights).map λy=>showExpr (renamed xn fn y.1)++word " : " ++showFrac y.2);by_cases hr:r= .nil
  . subst hr;rfl
  . rw [oH (λz=>hr (xr z)),ih,wq];intro z;have z:=List.map_eq_nil_iff.mp z;rcases DB (by decide) h.2.2.2 with rfl | ⟨a,r',rfl⟩ | ⟨a,w,r',rfl⟩
    . exact hr rfl
    . exact absurd h.2.2.2.1 (by decide)
    . cases z
 | .arg _ _,h=>absurd h.1 (by decide)
 | .lit _ (.num _),h=>absurd h.1 (by decide)
 | .lit _ (.flag _),h=>absurd (show _=0 from h) (by decide)
 | .name _ _,h=>absurd h.1 (by decide)
 | .un _ _ _,h=>absurd h.1 (by decide)
 | .bin _ _ _ _,h=>absurd h.1 (by decide)
 | .flip _ _,h=>absurd h.1 (by decide)
 | .uniform _ _ _,h=>absurd h.1 (by decide)
 | .cond _ _ _ _,h=>absurd h.1 (by decide)
 | .given _ _ _,h=>absurd h.1 (by decide)
 | .weigh _ _ _,h=>absurd h.1 (by decide)
 | .call _ _ _,h=>absurd h.1 (by decide)
 | .pick _ _,h=>absurd h.1 (by decide)
def DE (g:gd e 0) (hb:brk e=true):showExpr (renamed xn fn e)=U0 fn e++ [40]++joined (word ", ") (M5 (λk=>showExpr (renamed xn fn k)) e)++ [41]:=by
 cases e with
 | un p o a=>rfl
 | bin p o a b=>
  show binName o++ [40]++showExpr (renamed xn fn a)++word ", " ++showExpr (renamed xn fn b)++ [41]=binName o++ [40]++(showExpr (renamed xn fn a)++word ", " ++showExpr (renamed xn fn b))++ [41];simp only [bw]
 | flip p f=>rfl
 | uniform p lo hi=>
  show word "uniform(" ++showInt lo++word ", " ++showInt hi++ [41]=word "uniform" ++ [40]++(showInt lo++word ", " ++showInt hi)++ [41];rw [show word "uniform(" = word "uniform" ++ [40] from rfl];simp only [bw]
 | cond p d a b=>
  show word "if(" ++showExpr (renamed xn fn d)++word ", " ++showExpr (renamed xn fn a)++word ", " ++showExpr (renamed xn fn b)++ [41]=word "if" ++ [40]++(showExpr (renamed xn fn d)++word ", " ++(showExpr (renamed xn fn a)++word ", " ++showExpr (renamed xn fn b)))++ [41];rw [show word "if(" = word "if" ++ [40] from rfl];simp only [bw]
 | given p d a=>
  show word "given(" ++showExpr (renamed xn fn d)++word ", " ++showExpr (renamed xn fn a)++ [41]=word "given" ++ [40]++(showExpr (renamed xn fn d)++word ", " ++showExpr (renamed xn fn a))++ [41];rw [show word "given(" = word "given" ++ [40] from rfl];simp only [bw]
 | weigh p w a=>
  show word "weigh(" ++showFrac w++word ", " ++showExpr (renamed xn fn a)++ [41]=word "weigh" ++ [40]++(showFrac w++word ", " ++showExpr (renamed xn fn a))++ [41];rw [show word "weigh(" = word "weigh" ++ [40] from rfl];simp only [bw]
 | call p f x=>
  show fn f++ [40]++showExpr (renamed xn fn x)++ [41]=fn f++ [40]++joined (word ", ") ((eK x).map λk=>showExpr (renamed xn fn k))++ [41];rw [args_text xn fn g.2.2]
 | pick p x=>
  show word "pick(" ++showExpr (renamed xn fn x)++ [41]=word "pick" ++ [40]++joined (word ", ") (((eK x).zip x.weights).map λy=>showExpr (renamed xn fn y.1)++word " : " ++showFrac y.2)++ [41];rw [AH xn fn g.2.1];rfl
 | _=>cases hb
end
def y8 (sep:Bytes):∀l:List Bytes,(l.map (·.length)).sum+l.length * sep.length<=(joined sep l).length+sep.length
 | []=>by show 0+0 * sep.length<=_;omega
 | [x]=>by show x.length+0+1 * sep.length<=x.length+sep.length;omega
 | x :: y :: r=>by
  have:=y8 sep (y :: r);show x.length+((y :: r).map (·.length)).sum+((y :: r).length+1) * sep.length<=(x++sep++joined sep (y :: r)).length+sep.length;rw [ao,ao,Nat.add_mul];omega
def oI (l:List Bytes):((l.map aR).map (·.length)).sum=(l.map (·.length)).sum:=by
 rw [c9];congr 1;exact oV λb _=>aK b
def y9 (hl:tJ xn fn) (g:gd e 0) (hb:brk e=true) (hz:sz e<=4097):(U0 fn e).length+(joined (word ", ") (M5 (λk=>showExpr (renamed xn fn k)) e)).length+2+30<=262208:=by
 have h1:=cX (eY hl g);rw [ah rfl,eZ,DE xn fn g hb] at h1;simp only [ao,aC] at h1;omega
def jH (hl:tJ xn fn) (g:gd e 0) (hz:sz e<=4097):(showExpr (renamed xn fn e)).length+30<=262208:=by
 have h1:=cX (eY hl g);rw [ah rfl,eZ] at h1;omega
def mZ (N1 N2:List Bytes) (e:Ex):= ∀k∈subs e,(∀q n,k= .name q n->n∈N1)/\∀q f x,k= .call q f x->f∈N2
def mZ.kid {k:Ex} (g:gd e 0) (h:mZ N1 N2 e) (hk:k∈kids e):mZ N1 N2 k:=λx hx=>h x (by
 rw [gj g];exact aW _ (List.mem_flatMap.mpr #[k,hk,hx]))
def mZ.self (g:gd e 0) (h:mZ N1 N2 e):(∀q n,e= .name q n->n∈N1)/\∀q f x,e= .call q f x->f∈N2:=h e (by rw [gj g];exact bi)
def GU (g:gd e 0):∀f∈Dd e,J_ f:=by
 have ways:∀{x:Ex},gd x 2->∀f∈x.weights,J_ f:=λ{x}=>by
  induction x with
  | way a w r _ ih=>
   intro h f hf;rcases aE.mp hf with rfl | hf
   . exact h.2.2.1
   . exact ih h.2.2.2 f hf
  | _=>intro _ f hf;cases hf
 cases e with
 | flip p f=>intro x hx;rw [ej.mp hx];exact g.2
 | weigh p f a=>intro x hx;rw [ej.mp hx];exact g.2.1
 | pick p x=>exact ways g.2.1
 | _=>intro x hx;cases hx
def wr {x:Ex}:gd x 2->x.weights.length=(eK x).length:=by
 induction x with
 | way a w r _ ih=>intro h;exact bA (· +1) (ih h.2.2.2)
 | arg a r=>intro h;exact absurd h.1 (by decide)
 | _=>intro _;rfl
def Ob:tJ id id:=#[λ_ h=>h,λ_ h=>h]
def Oc (l:List Bytes) (n:Bytes):ix l n<=l.length:=by
 unfold ix;cases e:l.findIdx? (λx=>x == n) with
 | none=>exact aD _
 | some i=>
  rw [zS] at e;obtain ⟨h,_⟩:=e;exact ia h
def B4 {ch:UInt8} {l:List Bytes} (h:l.length<=4097) (n:Bytes):rN (byNumber ch l n):=by
 show (ch :: showNat (ix l n)).length<=16;have h1:(showNat (ix l n)).length<=5:=iE (k:=5) (by have:=Oc l n;omega) (by decide);rw [aT];omega
def oJ (fn:Bytes->Bytes) (an:Fu->Bytes->Bytes) (f:Fu):Fu:={name:=#[0,fn f.name.name],params:=f.params.map (λd=>#[#[0,an f d.name.name],d.kind]),result:=f.result,body:=renamed (an f) fn f.body}
def vC (xn fn:Bytes->Bytes):Stm->Stm
 | .lets n k e=> .lets #[0,xn n.name] k (renamed xn fn e)
 | .observe e=> .observe (renamed xn fn e)
def rq (t:Bytes) (xn fn:Bytes->Bytes) (an:Fu->Bytes->Bytes) (p:Prog):Prog:=
 {title:=#[0,t],budget:=p.budget,funs:=p.funs.map (oJ fn an),stms:=p.stms.map (vC xn fn),tells:=p.tells.map λt=>#[0,xn t.name]}
def AI (p:Prog):p.plain=rq [80] (byNumber 120 (Vaprbb.letNames p)) (byNumber 102 (p.funs.map λf=>f.name.name)) (λf=>byNumber 97 (f.params.map λd=>d.name.name)) p:=by
 unfold Vaprbb.Prog.plain rq oJ;have h:∀l:List Stm,l.map (vC (byNumber 120 (Vaprbb.letNames p)) (byNumber 102 (p.funs.map λf=>f.name.name)))=l.map λs=>match s with
  | .lets n k e=> .lets #[0,byNumber 120 (Vaprbb.letNames p) n.name] k (renamed (byNumber 120 (Vaprbb.letNames p)) (byNumber 102 (p.funs.map λf=>f.name.name)) e)
  | .observe e=> .observe (renamed (byNumber 120 (Vaprbb.letNames p)) (byNumber 102 (p.funs.map λf=>f.name.name)) e):=λl=>oV λs _=>by cases s <;> rfl
 rw [h];rfl
def eG:∀e:Ex,renamed id id e=e
 | .nil=>rfl
 | .lit _ _=>rfl
 | .name _ _=>rfl
 | .flip _ _=>rfl
 | .uniform _ _ _=>rfl
 | .arg a r=>by show Vaprbb.Expr.arg (renamed id id a) (renamed id id r)=_;rw [eG a,eG r]
 | .way a w r=>by show Vaprbb.Expr.way (renamed id id a) w (renamed id id r)=_;rw [eG a,eG r]
 | .un p o a=>by show Vaprbb.Expr.un p o (renamed id id a)=_;rw [eG a]
 | .weigh p o a=>by show Vaprbb.Expr.weigh p o (renamed id id a)=_;rw [eG a]
 | .call p o a=>by show Vaprbb.Expr.call p o (renamed id id a)=_;rw [eG a]
 | .pick p a=>by show Vaprbb.Expr.pick p (renamed id id a)=_;rw [eG a]
 | .bin p o a r=>by show Vaprbb.Expr.bin p o (renamed id id a) (renamed id id r)=_;rw [eG a,eG r]
 | .given p a r=>by show Vaprbb.Expr.given p (renamed id id a) (renamed id id r)=_;rw [eG a,eG r]
 | .cond p d a r=>by show Vaprbb.Expr.cond p (renamed id id d) (renamed id id a) (renamed id id r)=_;rw [eG a,eG r,eG d]
def M7 (p:Prog):(rq p.title.name id id (λ_=>id) p).shown=p.shown:=by
 have h1:p.funs.flatMap (λf=>showFun (oJ id (λ_=>id) f))=p.funs.flatMap showFun:=by
  congr 1;funext f;unfold oJ showFun;simp only [eG,c9,id];rfl
 have h2:p.stms.flatMap (λs=>showStm (vC id id s))=p.stms.flatMap showStm:=by
  congr 1;funext s;cases s with
  | lets n k e=>
   show showStm (.lets #[0,n.name] k (renamed id id e))=_;rw [eG];rfl
  | observe e=>
   show showStm (.observe (renamed id id e))=_;rw [eG]
 unfold Vaprbb.Prog.shown rq;simp only [o8,c9,h1,h2];rfl
def gI:sizeLine=16777216:=by decide
def eL (l:List Bytes):List V:=l.map λb=>V.str (aR b)
def oK (l:List Bytes):eL l=(l.map aR).map V.str:=by unfold eL;rw [c9];rfl
def Od:(aR (word ", ")).length=2:=rfl
def cu (a b:Bytes):aR a++aR b=aR (a++b):=(iC a b).symm
def B5:SP:=λK c vs H Q _=> ∃a k,vs= [.ref a]/\gS K H a (kT k)/\kn k/\Q (.str (aR (showKind k))) H
def mB:AA.h0 2 "kind_text" ["kind"] B5:=by
 nomatch ["kind"]
 obtain ⟨a,k,rfl,hk,hw,q⟩:=h;nomatch 2,gr (Jc (dn.units hr)) ?_ ?_,fB T.x3,0,aY,aY,aY,cv cR,eD,cv cR,dM
 have dF:Dp K H (.ref g.flag) (.tuple [.int 0]):= .tup (T.qM.sq _) (.cons (.int 0) .nil);have hb:=aV;cases k with
 | flag=>exists _,U,.tuple [.int 0],.tuple [.int 0],.tup hk (.cons (.int 0) .nil),dF,U,U,_,U,bD U q
 | num lo hi=>
  have hw: -1000<=lo/\lo<=hi/\hi<=1000/\hi<=lo+63:=hw;have h1:=cK (i:=lo) #[by omega,by omega];have h2:=cK (i:=hi) #[by omega,by omega];have s1:(Str.ofString "num ")=aR (word "num "):=rfl;have s2:(Str.ofString " ")=aR [32]:=rfl;have w1:(word "num ").length=4:=rfl;exists _,U,.tuple [.int 1,.int lo,.int hi],.tuple [.int 0],.tup hk (.cons (.int 1) (.cons (.int lo) (.cons (.int hi) .nil))),dF,U,U,_,U,aF U ?_;exists _,U,a,lo,hi,U,hk,_,U,log2_small (by omega),_,_,U,U,?_,_,_,U,U,?_,_,U,a,lo,hi,U,hk,_,U,log2_small (by omega),_,_,U,U,?_,?_
  . rw [str_int,s1,aK,aK];omega
  . rw [str_int,s1,s2,cu,aK,aK,ao,aC];omega
  . rw [str_int,str_int,s1,s2,cu,cu,aK,aK,ao,ao,aC];omega
  . rw [str_int,str_int,s1,s2,cu,cu,cu];exact q
def vD:SP:=λK c vs H Q _=> ∃v fr,vs= [v]/\Mz H v fr/\J_ fr/\Q (.str (aR (showFrac fr))) H
def vE:AA.h0 1 "fraction_text" ["fraction"] vD:=by
 nomatch ["fraction"]
 obtain ⟨v,fr,rfl,⟨a,rfl,ha⟩,hw,q⟩:=h;nomatch 2,bK,gu,cv cR,gu,aY,aY,cv cR,gu,cv cR,gu
 have hs:gS K H a [.int fr.num,.int (fr.den:Nat)]:= .inl (.inl ha);have h1:=cK hw.1;have h0:MK fr.num:=hw.1;have h2:(showInt ((fr.den:Nat):Int)).length<=11:=cK #[by have:=hw.2.2;omega,by have:=hw.2.2;omega];have l1:fr.num.natAbs.log2 < 1920:=log2_small (by have:=h0.1;have:=h0.2;omega);have l2:((fr.den:Nat):Int).natAbs.log2 < 1920:=log2_small (by have:=hw.2.2;omega);unfold VaprbBase.showFrac at q;exists _,U,a,_,1,_,U,U,hs,U,U,_,U,bG (λe1=>?_) λe1=>?_
 . have e1:fr.den=1:=by
    have:((fr.den:Nat):Int)=1:=by simpa using e1
    omega
   rw [ah e1] at q;exists _,U,a,_,0,_,U,U,hs,U,_,U,l1,?_;rw [str_int];exact q
 . have e1:¬fr.den=1:=λz=>by rw [z] at e1;simp at e1
   rw [ae e1,<-oC] at q;have hb:=aV;have sl:(Str.ofString "/")=aR [47]:=rfl;exists _,U,a,_,0,_,U,U,hs,U,_,U,l1,_,_,U,U,?_,_,U,a,_,1,_,U,U,hs,U,_,U,l2,_,_,U,U,?_,?_
   . rw [str_int,sl,aK,aK,aC];omega
   . rw [str_int,str_int,sl,cu,aK,aK,ao,aC];omega
   . rw [str_int,str_int,sl,cu,cu];exact q
def DF (hg:gd e 0):(kids e).length < sz e:=by
 have h1:=ck e;rw [gj hg,aT,uh] at h1;have h2:(kids e).length<=((kids e).map λx=>(subs x).length).sum:=by
  have:∀l:List Ex,(∀x∈l,gd x 0)->l.length<=(l.map λx=>(subs x).length).sum:=λl=>by
   induction l with
   | nil=>intro _;exact aD _
   | cons x r ih=>
    intro hx;have h3:=ih λy hy=>hx y (aW _ hy);have h4:=BC (hx x bi);rw [bI,kU,ck,aT];omega
  exact this _ λx hx=>(eB hg x hx).1
 omega
def KE (hg:gd e 0):(Dd e).length<=sz e:=by
 cases e with
 | flip p f=>exact aw _
 | weigh p f a=>show 1<=sz a+1;omega
 | pick p x=>
  have h1:=DF hg;have h2:x.weights.length=(eK x).length:=wr hg.2.1;show x.weights.length<=_;have h3:(kids (.pick p x)).length=(eK x).length:=rfl;omega
 | _=>exact aD _
def DG:∀{ys:List V} {l:List Bytes},ys.length=l.length->(∀(i:Nat) y,ys[i]? = some y->∃b,l[i]? = some b/\y= .str (aR b))->ys=eL l
 | [],[],_,_=>rfl
 | y :: ys,b :: l,hl,h=>by
  obtain ⟨b',e1,rfl⟩:=h 0 y rfl;cases e1;rw [DG (ys:=ys) (l:=l) (by simpa using hl) λi y e=>by
   obtain ⟨b',e1,e2⟩:=h (i+1) y (by simpa using e);exact #[b',by simpa using e1,e2]]
  rfl
 | [],_ :: _,hl,_=>by cases hl
 | _ :: _,[],hl,_=>by cases hl
def dB (l:List Bytes):(eL l).length=l.length:=aB _
def gX {l:List Bytes} (h:(eL l)[i]? = some v):∃b,l[i]? = some b/\v= .str (aR b):=by
 unfold eL at h;rw [bz] at h;cases e:l[i]? with
 | none=>rw [e] at h;cases h
 | some n=>rw [e] at h;cases h;exists n,U,U
def P6 (hb:brk e=true):decide (V.str (eF e)=V.str "number")=false/\decide (V.str (eF e)=V.str "truth")=false/\decide (V.str (eF e)=V.str "name")=false:=by
 cases e <;> first | exists U,U,U | cases hb
def KG (fn:Bytes->Bytes) (hb:brk e=true):(∃q f x,e= .call q f x)\/(decide (V.str (eF e)=V.str "call")=false/\nZ e=aR (U0 fn e)):=by
 cases e with
 | call q f x=>exact .inl #[q,f,x,rfl]
 | _=>first | exact .inr #[rfl,rfl] | cases hb
def KH (r:Ex->Bytes) (h1:decide (V.str (eF e)=V.str "uniform")=false) (h2:decide (V.str (eF e)=V.str "pick")=false):M5 r e=(Dd e).map showFrac++(kids e).map r:=by
 cases e with
 | uniform p lo hi=>exact absurd h1 (by simp [eF])
 | pick p x=>exact absurd h2 (by simp [eF])
 | _=>rfl
def rA (n:Nat):SP:=λK c vs H Q _=> ∃v e d1 d2 xn fn N1 N2,vs= [v,.ref d1,.ref d2]/\gd e 0/\dep e<=n/\sz e<=4097/\iq K c H v e/\Cg H d1 xn N1/\Cg H d2 fn N2/\mZ N1 N2 e/\tJ xn fn/\∀H',aq H H'->Q (.str (aR (showExpr (renamed xn fn e)))) H'
abbrev eM (n:Nat):=AA.h0 (2 * n+1) "expression_text" ["expression","values","functions"] (rA n)
def oM (n:Nat):SP:=λK c vs H Q _=> ∃v e d1 d2 xn fn N1 N2,vs= [v,.ref d1,.ref d2]/\gd e 0/\dep e<=n+1/\sz e<=4097/\iq K c H v e/\Cg H d1 xn N1/\Cg H d2 fn N2/\mZ N1 N2 e/\tJ xn fn/\∀p H',aq H H'->H' p=some (.lst (eL (M5 (λk=>showExpr (renamed xn fn k)) e)))->Q (.ref p) H'
abbrev iR (n:Nat):=AA.h0 (2*n+1+1) "texts_in_brackets" ["expression","values","functions"] (oM n)
def oN (n:Nat) (tK:eM AA n):iR AA n:=by
 nomatch ["expression","values","functions","parts","fractions","part","fraction","weight"]
 obtain ⟨v,e,d1,d2,xn,fn,N1,N2,rfl,hg,hd,hz,hv,lR,hn2,bQ,mE,q⟩:=h;nomatch 2,nw 3 (bE (ca (pv 0))) [("part",5)] (λ_ _ _ _ _=>(bL 5)) (λ_ _ _ _ _=>(dv tK (aI (pv 5) (aI (pv 1) (pU (pv 2)))))),nw 4 (bE (ca (pv 0))) [("fraction",6)] (λ_ _ _ _ _=>(bL 6)) (λ_ _ _ _ _=>(dv (vE AA) (pU (pv 6)))),bK,cv cR,eD,cv cR,dM,bK,ie (Ba (aI (pv 3) (pU (pv 4)))) [("part",5),("weight",7)] (λ_ _ _ _ _=>(Gi (K:=K) (n:=2) rfl rfl (fP (bL 5) (fP (bL 7) rT)))) (λ_ _ _ _ _=>(xE aY (xE aY (pv 5) uK) (pv 7))),xi
 have iW:=aV;obtain ⟨a,pl,ps,rfl,⟨dx,fl,bv,fs,hN,hB,ff,hF⟩,fp,hA⟩:=hv.view hg;have hl:=hA.len;have XD:=hF.len;have hk1:=DF hg;have hk2:=KE hg;exists _,U,fr hN U #[pl,U,#[ps,fp.sq],λD hD=>?_];refine jw (K:=K) (a:=pl) (xs:=ps) (eL ((kids e).map λk=>showExpr (renamed xn fn k))) (by rw [dB,aB,hl]) hD fp.sq (by omega) (λi x y H2 R hx hy s2 k=>?_) λH2 s2 h2=>?_
 . obtain ⟨ee,he,Iq⟩:=hA.get hx;obtain ⟨b,hb,rfl⟩:=gX hy;rw [bz,he] at hb;cases hb;have hm:=bc he;obtain ⟨g1,g2,g3⟩:=eB hg ee hm;exists U,_,U,_,U,_,U,x,ee,d1,d2,xn,fn,N1,N2,U,g1,by omega,by omega,Iq.Y C s2.Y,lR.Y (c:=c) s2.Y,hn2.Y (c:=c) s2.Y,bQ.kid hg hm,mE,k
 have hN2:=s2 _ _ hN;have VZ:=ff.app s2;exists _,U,fr hN2 U #[fl,U,#[fs,VZ.sq],λD2 eN=>?_];refine jw (K:=K) (a:=fl) (xs:=fs) (eL ((Dd e).map showFrac)) (by rw [dB,aB,XD]) eN VZ.sq (by omega) (λi x y H3 R hx hy s3 k=>?_) λH3 s3 h3=>?_
 . obtain ⟨fr,hf,af,rfl,haf⟩:=hF.get hx;obtain ⟨b,hb,rfl⟩:=gX hy;rw [bz,hf] at hb;cases hb;exists U,_,U,.ref af,fr,U,#[af,U,(s2.trans s3) _ _ haf],GU hg fr (bc hf),k H3 (aq.refl _)
 have hN3:=s3 _ _ hN2;have R4:=s3 _ _ h2;have ss:=s2.trans s3;exists _,U,fr hN3 U #[U,_,U,bG (λe1=>?_) λe1=>?_]
 . cases e with
   | uniform p lo hi=>
    obtain ⟨b,rfl,hb⟩:=hB;have hb:=gS.Y (c:=c) hb ss.Y;have hk: -1000<=lo/\lo<=hi/\hi<=1000/\hi<=lo+63:=hg.2;exists _,U,fr hN3 U #[b,lo,hi,U,hb,_,U,log2_small (by omega),_,U,fr hN3 U #[b,lo,hi,U,hb,_,U,log2_small (by omega),jJ,λD3 lP=>?_]];refine q D3 _ (ss.trans (aq.upd lP)) ?_;rw [aa,str_int,str_int];rfl
   | lit _ v=>cases v <;> exact Bool.noConfusion (show false=true from e1)
   | _=>exact Bool.noConfusion (show false=true from e1)
 . exists _,U,fr hN3 U #[U,_,U,bG (λe2=>?_) λe2=>?_]
   . cases e with
     | pick p x=>
      have hwl:x.weights.length=(eK x).length:=wr hg.2.1;have hkl:(kids (.pick p x)).length=(eK x).length:=rfl;have Qp:((eK x).zip x.weights).length=(eK x).length:=by rw [ph];omega
      exists _,U,_,U,D,D2,_,_,U,cz.of R4,cz.of h3,λD3 lP=>?_;refine GQ (c:=c) (eK x).length (λi y H'=> ∃b,(M5 (λk=>showExpr (renamed xn fn k)) (.pick p x))[i]? = some b/\y= .str (aR b)) (λi y _ _ _ z=>z) lP (by omega) (λi H4 hi s4=>?_) (λH4 s4=>?_) (λi x' H4 H5 R hi s4 yl k=>?_) λH4 ys s4 hy XF hr=>?_
      . exists _,_,_,_,cz.of (s4 _ _ R4),cz.of (s4 _ _ h3),bB (by rw [dB,aB];exact hi),bB (by rw [dB,aB];show i < x.weights.length;omega)
      . exists _,_,cz.of (s4 _ _ R4),cz.of (s4 _ _ h3),.inl (by rw [dB,aB];exact aw _)
      . obtain ⟨T,x1,y1,rfl,hT,rfl,g1,g2⟩:=yl;have g1:=g1 _ (cz.of (s4 _ _ R4));have g2:=g2 _ (cz.of (s4 _ _ h3));obtain ⟨b1,hb1,rfl⟩:=gX g1;obtain ⟨b2,hb2,rfl⟩:=gX g2;rw [bz] at hb1 hb2;have hi1:i < (eK x).length:=hi;have hi2:i < x.weights.length:=by omega
        have hb1:(((eK x)[i]?).map λk=>showExpr (renamed xn fn k))=some b1:=hb1;have hb2:((x.weights[i]?).map showFrac)=some b2:=hb2;rw [bB hi1] at hb1;rw [bB hi2] at hb2;cases hb1;cases hb2;have hkm:(eK x)[i]∈kids (.pick p x):=o6 hi1;obtain ⟨k1,k2,k3⟩:=eB hg _ hkm;have e3:((λk=>showExpr (renamed xn fn k)) (eK x)[i]).length+30<=262208:=jH mE k1 (by omega);have e4:=iX (GU hg x.weights[i] (o6 hi2));have sc:(Str.ofString " : ")=aR (word " : "):=rfl;have wc:(word " : ").length=3:=rfl;exists T,[_,_],U,.inl (.inl aa),U,_,_,U,_,_,U,U,?_;exists U,_,U,_,_,U,U,?_,_,U,_,_,U,U,?_,k _ _ (aq.upd hT) #[showExpr (renamed xn fn (eK x)[i])++word " : " ++showFrac x.weights[i],?_,?_]
        . rw [sc,aK,aK];omega
        . rw [sc,cu,aK,aK,ao];omega
        . show (((eK x).zip x.weights).map λy=>showExpr (renamed xn fn y.1)++word " : " ++showFrac y.2)[i]? = _;rw [bz,zip_get (bB hi1) (bB hi2)];rfl
        . rw [sc,cu,cu]
      . refine q D3 _ (ss.trans s4) ?_;rw [hy,DG (l:=M5 (λk=>showExpr (renamed xn fn k)) (.pick p x)) (by rw [XF];show _=(List.map _ _).length;rw [aB,Qp]) hr]
     | lit _ v=>cases v <;> exact Bool.noConfusion (show false=true from e2)
     | _=>exact Bool.noConfusion (show false=true from e2)
   . exists _,U,_,U,D2,D,_,_,U,U,h3,.inl R4,by rw [dB,dB,aB,aB];omega,λD3 lP=>?_;refine q D3 _ (ss.trans (aq.upd lP)) ?_;rw [aa,KH _ e1 e2];unfold eL;rw [dW]
def rB (m:Nat) (qg:iR AA n) (hm:m=n+1):eM AA m:=by
 nomatch ["expression","values","functions","word"]
 subst hm;obtain ⟨v,e,d1,d2,xn,fn,N1,N2,rfl,hg,hd,hz,hv,lR,hn2,bQ,mE,q⟩:=h;nomatch 2,bK,cv cR,bK,0,bK,g6 (pv 1) (ca (pv 0)),3,bK,g6 (pv 2) (ca (pv 0)),aY,aY,aY,sg ?_ ?_,dv qg ?_
 have iW:=gI;obtain ⟨a,pl,ps,rfl,⟨dx,fl,bv,fs,hN,hB,ff,hF⟩,fp,hA⟩:=id (hv.view hg);have hself:=bQ.self hg;by_cases hb:brk e=true
 . obtain ⟨f1,f2,f3⟩:=P6 hb;have tx:=DE xn fn hg hb;have tl:=y9 mE hg hb hz;have js:=y8 (word ", ") (M5 (λk=>showExpr (renamed xn fn k)) e);have w2:(word ", ").length=2:=rfl;have S':(Str.ofString "(")=aR [40]:=rfl;have Ta:(Str.ofString ")")=aR [41]:=rfl;have Tb:(Str.ofString ", ")=aR (word ", "):=rfl;exists _,U,fr hN U #[U,_,U,aF f1 ?_];exists _,U,fr hN U #[U,_,U,aF f2 ?_];exists _,U,fr hN U #[U,_,U,aF f3 ?_];exists _,U,fr hN U #[U,_,U,?_];rcases KG fn hb with ⟨qp,f',x,rfl⟩ | ⟨f4,ew⟩
   . refine bD rfl #[_,rfl,_,rfl,fr hN rfl #[d2,_,rfl,hn2.get (hself.2 qp f' x rfl),?_]];exists _,U,_,_,U,U,?_,#[_,U],_,U,_,U,_,U,.ref a,.call qp f' x,d1,d2,xn,fn,N1,N2,U,hg,hd,hz,hv,lR,hn2,bQ,mE,λp H' s hp=>?_
     . rw [S',aK,aK,aC];have tl:(fn f').length+_+2+30<=262208:=tl;omega
     . exists _,p,(M5 (λk=>showExpr (renamed xn fn k)) (.call qp f' x)).map aR,U,U,.inl (by rw [<-oK];exact cz.of hp),?_,?_
       . rw [oI,aB,Tb,Od];rw [w2] at js;omega
       . have tl:(fn f').length+_+2+30<=262208:=tl;rw [Tb,lL,S',cu];exists _,_,U,U,?_,_,_,U,U,?_,?_
         . rw [aK,aK,ao,aC];omega
         . rw [Ta,cu,aK,aK,ao,ao,aC,aC];omega
         . rw [Ta,cu,cu];rw [tx] at q;exact q H' s
   . refine aF f4 #[_,rfl,fr hN rfl ?_];rw [ew];exists _,U,_,_,U,U,?_,#[_,U],_,U,_,U,_,U,.ref a,e,d1,d2,xn,fn,N1,N2,U,hg,hd,hz,hv,lR,hn2,bQ,mE,λp H' s hp=>?_
     . rw [S',aK,aK,aC];omega
     . exists _,p,(M5 (λk=>showExpr (renamed xn fn k)) e).map aR,U,U,.inl (by rw [<-oK];exact cz.of hp),?_,?_
       . rw [oI,aB,Tb,Od];rw [w2] at js;omega
       . rw [Tb,lL,S',cu];exists _,_,U,U,?_,_,_,U,U,?_,?_
         . rw [aK,aK,ao,aC];omega
         . rw [Ta,cu,aK,aK,ao,ao,aC,aC];omega
         . rw [Ta,cu,cu];rw [tx] at q;exact q H' s
 . cases e with
   | lit qp v=>
    cases v with
    | num nn=>
     have hw:MK nn:=hg.2;exists _,U,fr hN U #[U,_,U,bD U ?_];exists _,U,fr hN U #[_,U,log2_small (by have:=hw.1;have:=hw.2;show nn.natAbs < _;omega),?_];rw [str_int];exact q H (aq.refl _)
    | flag b=>
     exists _,U,fr hN U #[U,_,U,aF U ?_];exists _,U,fr hN U #[U,_,U,bD U ?_];exists _,U,fr hN U ?_;have q:=q H (aq.refl _);cases b <;> exact q
   | name qp nn=>
    exists _,U,fr hN U #[U,_,U,aF U ?_];exists _,U,fr hN U #[U,_,U,aF U ?_];exists _,U,fr hN U #[U,_,U,bD U ?_];exists _,U,_,U,fr hN U #[d1,_,U,lR.get (hself.1 qp nn U),q H (aq.refl _)]
   | nil=>rcases hg with hg | hg <;> cases hg
   | arg _ _=>exact absurd hg.1 (by decide)
   | way _ _ _=>exact absurd hg.1 (by decide)
   | _=>exact absurd rfl hb
def oO:eM AA 0:=by
 nomatch ["expression","values","functions","word"]
 obtain ⟨v,e,d1,d2,xn,fn,N1,N2,rfl,hg,hd,_⟩:=h;have:=BA hg;omega
def gJ:∀n,eM AA n
 | 0=>oO AA
 | n+1=>rB AA (n+1) (oN AA n (gJ n)) rfl
def lt_def:(Str.ofString "def ")=aR (word "def "):=rfl
def DH:(Str.ofString "(")=aR (word "("):=rfl
def KI:(Str.ofString ") ")=aR (word ") "):=rfl
def lt_eq:(Str.ofString " = ")=aR (word " = "):=rfl
def rC:(Str.ofString " ;")=aR (word " ;"):=rfl
def AJ:(Str.ofString " ")=aR (word " "):=rfl
def KJ:(Str.ofString "observe ")=aR (word "observe "):=rfl
def KL:(Str.ofString "let ")=aR (word "let "):=rfl
def Oe:(Str.ofString "chance ")=aR (word "chance "):=rfl
def KN:(Str.ofString "budget ")=aR (word "budget "):=rfl
def GV:(Str.ofString "tell ")=aR (word "tell "):=rfl
def Of:(Str.ofString "\n")=aR [10]:=rfl
def GW:(Str.ofString ", ")=aR (word ", "):=rfl
def kt:(word "def ").length=4:=rfl
def wu:(word "(").length=1:=rfl
def y_:(word ") ").length=2:=rfl
def mO:(word " = ").length=3:=rfl
def gY:(word " ;").length=2:=rfl
def ww:(word " ").length=1:=rfl
def Fp:(word "observe ").length=8:=rfl
def mC:(word "let ").length=4:=rfl
def KO:(word "chance ").length=7:=rfl
def KP:(word "budget ").length=7:=rfl
def B6:(word "tell ").length=5:=rfl
def jI:(word ", ").length=2:=rfl
def fq (h:kn k):(showKind k).length<=27:=by
 cases k with
 | flag=>decide
 | num lo hi=>
  have hw: -1000<=lo/\lo<=hi/\hi<=1000/\hi<=lo+63:=h;have h1:=cK (i:=lo) #[by omega,by omega];have h2:=cK (i:=hi) #[by omega,by omega];show (word "num " ++showInt lo++ [32]++showInt hi).length<=27;have:(word "num ").length=4:=rfl;simp only [ao,aC];omega
def lM (xn:Bytes->Bytes) (d:Decl):Bytes:=xn d.name.name++word " " ++showKind d.kind
def qD (xn fn:Bytes->Bytes) (f:Fu):Bytes:=word "def " ++fn f.name.name++word "(" ++joined (word ", ") (f.params.map (lM xn))++word ") " ++showKind f.result++word " = " ++showExpr (renamed xn fn f.body)++word " ;"
def P7:Option Kd->Bytes
 | some k=>word " " ++showKind k
 | none=> []
def za (xn fn:Bytes->Bytes):Stm->Bytes
 | .lets n k e=>word "let " ++xn n.name++P7 k++word " = " ++(showExpr (renamed xn fn e)++word " ;")
 | .observe e=>word "observe " ++(showExpr (renamed xn fn e)++word " ;")
def P8 (fn:Bytes->Bytes) (an:Fu->Bytes->Bytes) (f:Fu):showFun (oJ fn an f)=qD (an f) fn f++ [10]:=by
 unfold showFun oJ qD;simp only [c9];rfl
def P9 (xn fn:Bytes->Bytes) (s:Stm):showStm (vC xn fn s)=za xn fn s++ [10]:=by
 cases s with
 | lets n k e=>
  cases k with
  | none=>
   show word "let " ++xn n.name++ []++word " = " ++showExpr (renamed xn fn e)++word " ;" ++ [10]=word "let " ++xn n.name++ []++word " = " ++(showExpr (renamed xn fn e)++word " ;")++ [10];simp only [bw]
  | some k=>
   show word "let " ++xn n.name++([32]++showKind k)++word " = " ++showExpr (renamed xn fn e)++word " ;" ++ [10]=word "let " ++xn n.name++([32]++showKind k)++word " = " ++(showExpr (renamed xn fn e)++word " ;")++ [10];simp only [bw]
 | observe e=>
  show word "observe " ++showExpr (renamed xn fn e)++word " ;" ++ [10]=word "observe " ++(showExpr (renamed xn fn e)++word " ;")++ [10];simp only [bw]
def fC (n:Nat):List Bytes:=if n=0 then [] else [word "budget " ++showNat n]
def rowsOf (t:Bytes) (xn fn:Bytes->Bytes) (an:Fu->Bytes->Bytes) (p:Prog):List Bytes:=
 [word "chance " ++t]++fC p.budget++p.funs.map (λf=>qD (an f) fn f)++p.stms.map (za xn fn)++ [word "tell " ++joined (word ", ") (p.tells.map λt=>xn t.name)]
def AK:∀{l:List Bytes},l≠ []->joined [10] l++ [10]=l.flatMap (· ++ [10])
 | [],h=>absurd rfl h
 | [x],_=>by show x++ [10]=x++ [10]++ [];rw [bH]
 | x :: y :: r,_=>by
  show x++ [10]++joined [10] (y :: r)++ [10]=(x++ [10])++(y :: r).flatMap (· ++ [10]);rw [<-AK (l:=y :: r) (by simp),bw (x++ [10])]
def Fq (t:Bytes) (xn fn:Bytes->Bytes) (an:Fu->Bytes->Bytes) (p:Prog):joined [10] (rowsOf t xn fn an p)++ [10]=(rq t xn fn an p).shown:=by
 rw [AK (by unfold rowsOf;simp)];unfold rowsOf Vaprbb.Prog.shown rq;simp only [dC,o8,P8,P9,c9];have hb:(fC p.budget).flatMap (· ++ [10])=if p.budget=0 then [] else word "budget " ++showNat p.budget++ [10]:=by
  unfold fC;split
  . rfl
  . show (word "budget " ++showNat p.budget++ [10])++ []=_;rw [bH]
 rw [hb];simp only [dR,uC,bH,bw];rfl
def Fs {l:List Bytes} {m:Nat} (h:∀b∈l,b.length<=m):(l.map (·.length)).sum<=l.length * m:=by
 induction l with
 | nil=>exact aD _
 | cons b l ih=>
  have h1:=h b bi;have h2:=ih λx hx=>h x (aW _ hx);rw [bI,kU,aT,Nat.add_mul];omega
def HP {d:Decl} (hx:∀n,rN n->rN (xn n)) (h:rN d.name.name/\kn d.kind):(lM xn d).length<=44:=by
 have h1:(xn d.name.name).length<=16:=hx _ h.1;have h2:=fq h.2;unfold lM;simp only [ao,ww];omega
def DI (hx:∀n,rN n->rN (xn n)) (h:GF f):(joined (word ", ") (f.params.map (lM xn))).length<=184/\((f.params.map (lM xn)).map (·.length)).sum+(f.params.map (lM xn)).length * 2<=184:=by
 have h1:=my (word ", ") (f.params.map (lM xn));have h2:=Fs (l:=f.params.map (lM xn)) (m:=44) λb hb=>by
  obtain ⟨d,hd,rfl⟩:=cj.mp hb;exact HP hx (h.pw d hd)
 have h3:(f.params.map (lM xn)).length<=4:=by rw [aB];exact h.pl
 rw [jI] at h1;have h4:(f.params.map (lM xn)).length * 44<=4 * 44:=m8 _ h3;have h5:(f.params.map (lM xn)).length * 2<=4 * 2:=m8 _ h3;omega
def HQ (hl:tJ xn fn) (h:GF f):(qD xn fn f).length<=262500:=by
 have h1:=(DI hl.1 h).1;have h2:(fn f.name.name).length<=16:=hl.2 _ h.nm;have h3:=fq h.rk;have h4:=jH hl h.bd.1 h.bd.2.2;unfold qD;simp only [ao,kt,wu,y_,mO,gY];omega
def KQ {o:Option Kd} (h:∀k,o=some k->kn k):(P7 o).length<=28:=by
 cases o with
 | none=>exact aD _
 | some k=>
  have:=fq (h k rfl);show (word " " ++showKind k).length<=28;rw [ao,ww];omega
def HR {s:Stm} (hl:tJ xn fn) (h:N9 s):(za xn fn s).length<=262500:=by
 cases s with
 | lets n k e=>
  have h1:(xn n.name).length<=16:=hl.1 _ h.1;have h2:=KQ h.2.1;have h4:=jH hl h.2.2.1 h.2.2.2.2;show (word "let " ++xn n.name++P7 k++word " = " ++(showExpr (renamed xn fn e)++word " ;")).length<=_;simp only [ao,mC,mO,gY];omega
 | observe e=>
  have h4:=jH hl h.1 h.2.2;show (word "observe " ++(showExpr (renamed xn fn e)++word " ;")).length<=_;simp only [ao,Fp,gY];omega
def zb {l:List PName} (hx:∀n,rN n->rN (xn n)) (h:∀t∈l,rN t.name) (h6:l.length<=6):(joined (word ", ") (l.map λt=>xn t.name)).length<=108/\((l.map λt=>xn t.name).map (·.length)).sum+(l.map λt=>xn t.name).length * 2<=108:=by
 have h1:=my (word ", ") (l.map λt=>xn t.name);have h2:=Fs (l:=l.map λt=>xn t.name) (m:=16) λb hb=>by
  obtain ⟨d,hd,rfl⟩:=cj.mp hb;exact hx _ (h d hd)
 have h3:(l.map λt=>xn t.name).length<=6:=by rw [aB];exact h6
 rw [jI] at h1;have h4:(l.map λt=>xn t.name).length * 16<=6 * 16:=m8 _ h3;have h5:(l.map λt=>xn t.name).length * 2<=6 * 2:=m8 _ h3;omega
def KR {t:Bytes} {an:Fu->Bytes->Bytes} (hG:GP p) (ht:rN t) (hl:tJ xn fn) (ha:∀f∈p.funs,tJ (an f) fn):(rowsOf t xn fn an p).length<=43/\((rowsOf t xn fn an p).map (·.length)).sum<=43 * 262500:=by
 have hb:(fC p.budget).length<=1:=by
  unfold fC;split
  . exact aD _
  . exact aw _
 have hn:(rowsOf t xn fn an p).length<=43:=by
  have h1:=hG.fl;have h2:=hG.sl;unfold rowsOf;simp only [ao,aB,aC];omega
 exists hn,aP (Fs (m:=262500) λb hb=>?_) (m8 _ hn);unfold rowsOf at hb;simp only [ci,ej,cj] at hb;rcases hb with (((rfl | hb) | ⟨f,hf,rfl⟩) | ⟨s,hs,rfl⟩) | rfl
 . have h1:t.length<=16:=ht;rw [ao,KO];omega
 . unfold fC at hb;split at hb
   . cases hb
   . rw [ej.mp hb,ao,KP];have h1:(showNat p.budget).length<=2:=iE (k:=2) (by have:=hG.bg;omega) (by decide);omega
 . exact HQ (ha f hf) (hG.fn f hf)
 . exact HR hl (hG.st s hs)
 . have h1:=(zb hl.1 hG.tw hG.tl).1;rw [ao,B6];omega
def vF:SP:=λK c vs H Q _=> ∃v f d1 d2 xn fn N2,vs= [v,.ref d1,.ref d2]/\E4 K c H v f/\GF f/\Cg H d1 xn (zr f)/\Cg H d2 fn N2/\f.name.name∈N2/\mZ (zr f) N2 f.body/\tJ xn fn/\∀H',aq H H'->Q (.str (aR (qD xn fn f))) H'
def vG:AA.h0 50 "function_text" ["function","values","functions"] vF:=by
 nomatch ["function","values","functions","parameters","head","p"]
 obtain ⟨v,f',d1,d2,xn,fn,N2,rfl,hF,hG,lR,hn2,hnm,bQ,mE,q⟩:=h;nomatch 2,3,sg ?_ ?_,ie (bE (ca (pv 0))) [("p",5)] (λ_ _ _ _ _=>(bL 5)) (λ_ _ _ _ _=>(xE aY (xE aY (g6 (pv 1) (fk (K:=K) rfl (pv 5) rfl)) uK) (dv (mB AA) (pU (fk (K:=K) rfl (pv 5) rfl))))),4,aY,aY,aY,aY,aY,g6 (pv 2) (ca (pv 0)),mB,aY,aY,aY,dv (gJ AA 24) ?_
 have iW:=gI;obtain ⟨a,dx,pl,kv,bv,ps,rfl,ha,fp,hA,⟨ak,rfl,hak⟩,hb⟩:=id hF;have hl:=hA.len;have h4:=hG.pl;have Yj:=DI mE.1 hG;have w1:(fn f'.name.name).length<=16:=mE.2 _ hG.nm;have w2:=fq hG.rk;have w3:=jH mE hG.bd.1 hG.bd.2.2;exists #[_,U],_,U,fr ha U #[pl,U,#[ps,fp.sq],λD hD=>?_];refine jw (K:=K) (a:=pl) (xs:=ps) (eL (f'.params.map (lM xn))) (by rw [dB,aB,hl]) hD fp.sq (by omega) (λi x y H2 R hx hy s2 k=>?_) λH2 s2 h2=>?_
 . obtain ⟨d,hd,hxd⟩:=hA.get hx;obtain ⟨b,hb',rfl⟩:=gX hy;rw [bz,hd] at hb';cases hb';have hdm:=bc hd;obtain ⟨wn,wk⟩:=hG.pw d hdm;have w4:(xn d.name.name).length<=16:=mE.1 _ wn;have w5:=fq wk;obtain ⟨ap,dp,Xz,rfl,hap,⟨XG,rfl,U1⟩⟩:=hxd.Y C s2.Y;exists U,_,U,_,U,fr hap U #[d1,_,U,(lR.Y (c:=c) s2.Y).get (cj.mpr #[d,hdm,U]),_,_,U,U,?_,_,U,fr hap U #[XG,d.kind,U,U1,wk,_,_,U,U,?_,?_]]
   . simp only [AJ,aK,ww];omega
   . simp only [AJ,cu,aK,ao,ww];omega
   . rw [AJ,cu,cu];exact k H2 (aq.refl _)
 exists _,D,(f'.params.map (lM xn)).map aR,U,U,.inl (by rw [<-oK];exact cz.of h2),?_,?_
 . rw [oI,aB,GW,aK,jI];omega
 rw [GW,lL];have lO:=s2 _ _ ha;have P_:=gS.Y (c:=c) hak s2.Y;exists _,U,_,U,fr lO U #[d2,_,U,(hn2.Y (c:=c) s2.Y).get hnm,_,_,U,U,?_,_,_,U,U,?_,_,U,_,_,U,U,?_,_,_,U,U,?_,_,U,fr lO U #[ak,f'.result,U,P_,hG.rk,_,_,U,U,?_,?_]]
 . simp only [lt_def,aK,kt];omega
 . simp only [lt_def,DH,cu,aK,ao,kt,wu];omega
 . simp only [lt_def,DH,cu,aK,ao,kt,wu];omega
 . simp only [lt_def,DH,KI,cu,aK,ao,kt,wu,y_];omega
 . simp only [lt_def,DH,KI,cu,aK,ao,kt,wu,y_];omega
 . simp only [lt_def,DH,KI,cu];exists _,U,_,_,U,U,?_,_,U,fr lO U #[_,U,_,U,bv,f'.body,d1,d2,xn,fn,zr f',N2,U,hG.bd.1,hG.bd.2.1,hG.bd.2.2,hb.Y C s2.Y,lR.Y (c:=c) s2.Y,hn2.Y (c:=c) s2.Y,bQ,mE,λH3 s3=>?_]
   . simp only [lt_eq,aK,ao,kt,wu,y_,mO];omega
   . exists _,_,U,U,?_,_,_,U,U,?_,?_
     . simp only [lt_eq,cu,aK,ao,kt,wu,y_,mO];omega
     . simp only [lt_eq,rC,cu,aK,ao,kt,wu,y_,mO,gY];omega
     . simp only [lt_eq,rC,cu];exact q H3 (s2.trans s3)
def tL:SP:=λK c vs H Q _=> ∃v s d1 d2 xn fn N1 N2,vs= [v,.ref d1,.ref d2]/\D_ K c H v s/\N9 s/\Cg H d1 xn N1/\Cg H d2 fn N2/\mZ N1 N2 (exprOf s)/\(∀n k e,s= .lets n k e->n.name∈N1)/\tJ xn fn/\∀H',aq H H'->Q (.str (aR (za xn fn s))) H'
def tM:AA.h0 50 "statement_text" ["statement","values","functions"] tL:=by
 nomatch ["statement","values","functions","tail","head"]
 obtain ⟨v,st,d1,d2,xn,fn,N1,N2,rfl,hS,hG,lR,hn2,bQ,hnm,mE,q⟩:=h;nomatch 2,3,aY,dv (gJ AA 24) ?_,aM nI,fB AA.Av,aY,4,aY,g6 (pv 1) (ca (pv 0)),LV,4,aY,mB,Mu,aY,aY
 have iW:=gI;cases st with
 | observe e=>
  obtain ⟨g1,g2,g3⟩:=hG;have w3:=jH mE g1 g3;obtain ⟨a,dx,ev,rfl,ha,he⟩:=hS;exists _,U,fr ha U #[_,U,_,U,ev,e,d1,d2,xn,fn,N1,N2,U,g1,g2,g3,he,lR,hn2,bQ,mE,λH2 s2=>?_];exists _,_,U,U,?_,?_
  . simp only [rC,aK,gY];omega
  have lO:=s2 _ _ ha;exists _,U,_,_,_,_,U,C.va _ _ _ _ lO,C.pN,_,U,bD U ?_;exists _,U,_,_,U,U,?_,?_
  . simp only [rC,KJ,cu,aK,ao,gY,Fp];omega
  . simp only [rC,KJ,cu];exact q H2 s2
 | lets nn o e=>
  obtain ⟨g0,gk,g1,g2,g3⟩:=hG;have w3:=jH mE g1 g3;have w1:(xn nn.name).length<=16:=mE.1 _ g0;obtain ⟨a,dx,wv,ev,rfl,ha,hw,he⟩:=hS;exists _,U,fr ha U #[_,U,_,U,ev,e,d1,d2,xn,fn,N1,N2,U,g1,g2,g3,he,lR,hn2,bQ,mE,λH2 s2=>?_];exists _,_,U,U,?_,?_
  . simp only [rC,aK,gY];omega
  have lO:=s2 _ _ ha;exists _,U,_,_,_,_,U,C.u_ _ _ _ _ lO,C.pM,_,U,aF U ?_;exists _,U,_,U,fr lO U #[d1,_,U,(lR.Y (c:=c) s2.Y).get (hnm nn o e U),_,_,U,U,?_,?_]
  . simp only [KL,aK,mC];omega
  simp only [rC,KL,cu];cases o with
  | none=>
   have hw:wv= .cp:=hw;subst hw;exists _,U,fr lO U #[U,_,U,aF U ?_];exists _,U,_,_,U,U,?_,_,U,_,_,U,U,?_,?_
   . simp only [lt_eq,aK,ao,mC,mO];omega
   . simp only [lt_eq,cu,aK,ao,mC,mO,gY];omega
   . simp only [lt_eq,cu];have q:Q (.str (aR (word "let " ++xn nn.name++ []++word " = " ++(showExpr (renamed xn fn e)++word " ;")))) H2:=q H2 s2;rw [bH] at q;exact q
  | some k=>
   obtain ⟨ak,rfl,hak⟩:=hw;have wk:=gk k rfl;have w5:=fq wk;have P_:=gS.Y (c:=c) hak s2.Y;exists _,U,fr lO U #[U,_,U,bD U ?_];exists _,U,_,U,fr lO U #[ak,k,U,P_,wk,_,_,U,U,?_,_,_,U,U,?_,?_]
   . simp only [AJ,aK,ww];omega
   . simp only [AJ,cu,aK,ao,mC,ww];omega
   simp only [AJ,cu];exists _,U,_,_,U,U,?_,_,U,_,_,U,U,?_,?_
   . simp only [lt_eq,aK,ao,mC,mO,ww];omega
   . simp only [lt_eq,cu,aK,ao,mC,mO,gY,ww];omega
   . simp only [lt_eq,cu];exact q H2 s2
structure V0 (p:Prog):Prop where
 fb:∀f∈p.funs,mZ (zr f) (fG p) f.body
 sb:∀s∈p.stms,mZ (letNames p) (fG p) (exprOf s)
 tl:∀t∈p.tells,t.name∈letNames p
def M8 {n:PName} {k:Option Kd} (h:Stm.lets n k e∈p.stms):n.name∈letNames p:=by
 rw [dm];exact cj.mpr #[_,hX.mpr #[h,rfl],rfl]
def B7 (a b:List Bytes):eL (a++b)=eL a++eL b:=by unfold eL;rw [dW]
def rD (a:List Bytes) (b:Bytes):eL a++ [V.str (aR b)]=eL (a++ [b]):=by rw [B7];rfl
def AO {l:List α} {x:α} {f:α->Bytes} (h:l[i]? = some x):(l.take (i+1)).map f=(l.take i).map f++ [f x]:=by
 obtain ⟨hi,e⟩:=bj.mp h;rw [ef hi,dW,e];rfl
def DJ:SP:=λK c vs H Q _=> ∃v u p t xn fn an,vs= [v,u]/\D' K c H v p/\P2 c H u p t xn fn an/\GP p/\V0 p/\rN t/\tJ xn fn/\(∀f∈p.funs,tJ (an f) fn)/\∀a H',H a=none->aq H H'->FL H' a (txt (rq t xn fn an p).shown)->Q (.ref a) H'
def wx:AA.h0 51 "one_form" ["program","naming"] DJ:=by
 nomatch ["program","naming","rows","function","parameters","statement","token","sign"]
 obtain ⟨v,u,p,t,xn,fn,an,rfl,hP,hU,hG,hM,ht,mE,hla,q⟩:=h;nomatch 2,2,aY,Ad,cJ bN,aY,cv cR,Ba,AX rfl (fP (bL 3) (fP (bL 4) rT)),cJ bN,vG,bE,5,cJ bN,tM,cJ bN,aY,sg ?_ ?_,ie (bE (ca (pv 0))) [("token",6)] (λ_ _ _ _ _=>(bL 6)) (λ_ _ _ _ _=>(g6 (fk (K:=K) rfl (pv 1) rfl) (fk (K:=K) rfl (pv 6) rfl))),1,ie (Ji (xE aY (sg uK (pv 2)) uK)) [("sign",7)] (λ_ _ _ _ _=>(bL 7)) (λ_ _ _ _ _=>(aM Cr (pU (pv 7))))
 have iW:=gI;obtain ⟨a,dx,fl,sl,tl,fs,ss,ts,rfl,ha,f1,A1,f2,zF,f3,A3⟩:=id hP;obtain ⟨b,db,ld,fd',pl,ps,rfl,hb,lR,hn2,f4,A4⟩:=id hU;have l1:=A1.len;have l2:=zF.len;have l3:=A3.len;have l4:=A4.len;have g1:=hG.fl;have g2:=hG.sl;have g3:=hG.tl;have wt:t.length<=16:=ht;obtain ⟨Yk,Yl⟩:=KR hG ht mE hla;have wb:(showInt ((p.budget:Nat):Int)).length<=11:=cK #[by have:=hG.bg;omega,by have:=hG.bg;omega];have gb:=hG.bg;exists _,U,fr hb U #[_,_,U,U,?_,jJ,λD hD=>?_]
 . simp only [Oe,aK,KO];omega
 simp only [Oe,cu];have s0:=aq.upd (o:= .lst [V.str (aR (word "chance " ++t))]) hD;exists _,U,fr (s0 _ _ ha) U #[U,_,U,bG (λe1=>?_) λe1=>?_];case' refine_1=>
  have e1:p.budget≠0:=λz=>by rw [z] at e1;simp at e1
  have eb:fC p.budget= [word "budget " ++showNat p.budget]:=by unfold fC;rw [ae e1]
  exists _,U,mR aa,_,U,fr (s0 _ _ ha) U #[_,U,log2_small (by omega),_,_,U,U,(by simp only [KN,str_int,aK,KP];omega),D,_,_,U,U,aa,(by show 1 < sizeLine;decide),?_];simp only [KN,str_int,cu,oC];have s1:aq H (upd (upd H D (.lst [V.str (aR (word "chance " ++t))])) D (.lst ([V.str (aR (word "chance " ++t))]++ [V.str (aR (word "budget " ++showNat p.budget))]))):=s0.bM hD;have hD1:(upd (upd H D (.lst [V.str (aR (word "chance " ++t))])) D (.lst ([V.str (aR (word "chance " ++t))]++ [V.str (aR (word "budget " ++showNat p.budget))]))) D=some (.lst (eL ([word "chance " ++t]++fC p.budget))):=by rw [aa,eb];rfl
  clear eb e1;revert s1 hD1;generalize (upd (upd H D (.lst [V.str (aR (word "chance " ++t))])) D (.lst ([V.str (aR (word "chance " ++t))]++ [V.str (aR (word "budget " ++showNat p.budget))])))=H1;intro s1 hD1
 case' refine_2=>
  have e1:p.budget=0:=by
   have:¬((p.budget:Nat):Int)≠0:=by simpa using e1
   omega
  have eb:fC p.budget= []:=by unfold fC;rw [ah e1]
  have s1:=s0;have hD1:(upd H D (.lst [V.str (aR (word "chance " ++t))])) D=some (.lst (eL ([word "chance " ++t]++fC p.budget))):=by rw [aa,eb];rfl
  clear eb e1 s0;revert s1 hD1;generalize (upd H D (.lst [V.str (aR (word "chance " ++t))]))=H1;intro s1 hD1
 all_goals
  exists _,U,fr (s1 _ _ ha) U ⟨_,U,fr (s1 _ _ hb) U ⟨fl,pl,fs,ps,U,(f1.app s1).sq,(f4.app s1).sq,Bf (K:=K) (a:=fl) (b:=pl) (xs:=fs) (ys:=ps) (λi σ H'=> ∃v3 v4:Option V,σ= [some (.ref a),some (.ref b),some (.ref D),v3,v4,none,none,none]/\aq H H'/\H' D=some (.lst (eL ([word "chance " ++t]++fC p.budget++(p.funs.take i).map (λf=>qD (an f) fn f)))))
   #[none,none,rfl,s1,by rw [kR,cO,bH];exact hD1] (by omega) (λi σ H' #[_,_,_,s,_]=>#[(f1.app s).sq,(f4.app s).sq]) ?_ ?_⟩⟩
  . rintro i x y T' σ H' hx hy ⟨v3,v4,rfl,s,hw⟩ hT;obtain ⟨f',hf,hxf⟩:=A1.get hx;obtain ⟨Ym,hf2,dp,rfl,hdp⟩:=A4.get hy;rw [hf] at hf2;cases hf2;have hfm:=bc hf;have sT:=s.trans (aq.upd (o:= .tup [x,.ref dp]) hT);have RZ:=(aq.upd (o:= .tup [x,.ref dp]) hT) _ _ hw;have hil:i < fs.length:=(bj.mp hx).1;exists T',[x,.ref dp],U,.inl (.inl aa),U,_,_,U,_,_,U,U,?_;exists _,U,mR RZ,_,U,_,U,_,U,fr (sT _ _ hb) U #[x,f',dp,fd',an f',fn,fG p,U,hxf.Y C sT.Y,hG.fn f' hfm,hdp.Y (c:=c) sT.Y,hn2.Y (c:=c) sT.Y,cj.mpr #[f',hfm,U],hM.fb f' hfm,hla f' hfm,λH2 s2=>?_];have hb1:(fC p.budget).length<=1:=by unfold fC;split <;> simp
    exists D,_,_,U,U,s2 _ _ RZ,(by rw [dB,ao,ao,aB,hJ,aC];omega),?_;exists _,_,U,(sT.trans s2).bM hD,?_;rw [aa,rD,AO hf,bw]
  . rintro σ H2 ⟨v3,v4,rfl,s2,hw2⟩;rw [l1,cM] at hw2;exists _,U,fr (s2 _ _ ha) U ⟨sl,U,#[ss,(f2.app s2).sq],cE (K:=K) (a:=sl) (xs:=ss) (λi σ H'=> ∃v3 v4 v5:Option V,σ= [some (.ref a),some (.ref b),some (.ref D),v3,v4,v5,none,none]/\aq H H'/\H' D=some (.lst (eL ([word "chance " ++t]++fC p.budget++p.funs.map (λf=>qD (an f) fn f)++(p.stms.take i).map (za xn fn)))))
     #[_,_,none,rfl,s2,by rw [kR,cO,bH];exact hw2] (λi σ H' _ #[_,_,_,_,s,_]=>(f2.app s).sq) ?_ ?_⟩
    . rintro i x σ H' hx ⟨v3,v4,v5,rfl,s,hw⟩;obtain ⟨st,fU,hxs⟩:=zF.get hx;have hsm:=bc fU;have hil:i < ss.length:=(bj.mp hx).1;exists _,U,mR hw,_,U,_,U,fr (s _ _ hb) U #[_,U,fr (s _ _ hb) U #[x,st,ld,fd',xn,fn,letNames p,fG p,U,hxs.Y C s.Y,hG.st st hsm,lR.Y (c:=c) s.Y,hn2.Y (c:=c) s.Y,hM.sb st hsm,(λn k e ee=>M8 (by rw [<-ee];exact hsm)),mE,λH3 s3=>?_]];have hb1:(fC p.budget).length<=1:=by unfold fC;split <;> simp
      exists D,_,_,U,U,s3 _ _ hw,(by rw [dB,ao,ao,ao,aB,aB,hJ,aC];omega),?_;exists _,_,_,U,(s.trans s3).bM hD,?_;rw [aa,rD,AO fU,bw]
    . rintro σ H3 ⟨v3,v4,v5,rfl,s3,yw⟩;rw [l2,cM] at yw;obtain ⟨Yn,Yo⟩:=zb mE.1 hG.tw hG.tl;exists _,U,mR yw,#[_,U],_,U,fr (s3 _ _ ha) U #[tl,U,#[ts,(f3.app s3).sq],λD2 eN=>?_];refine jw (K:=K) (a:=tl) (xs:=ts) (eL (p.tells.map λt=>xn t.name)) (by rw [dB,aB,l3]) eN (f3.app s3).sq (by omega) (λi x y H4 R hx hy s4 k=>?_) λH4 s4 h4=>?_
      . obtain ⟨tn,htn,U2⟩:=A3.get hx;obtain ⟨bb,hbb,rfl⟩:=gX hy;rw [bz,htn] at hbb;cases hbb;have Og:=s3.trans s4;obtain ⟨at',rfl,bh,dt,hat⟩:=JV.Y C U2 Og.Y;exists U,_,U,fr (Og _ _ hb) U #[_,U,fr hat U #[ld,_,U,(lR.Y (c:=c) Og.Y).get (hM.tl tn (bc htn)),k H4 (aq.refl _)]]
      exists _,D2,(p.tells.map λt=>xn t.name).map aR,U,U,.inl (by rw [<-oK];exact cz.of h4),(by rw [oI,aB,GW,aK,jI];omega),?_;rw [GW,lL];exists _,_,U,U,(by simp only [GV,aK,B6];omega),?_;rw [GV,cu];have PD:=s4 _ _ yw;have hlr:(eL ([word "chance " ++t]++fC p.budget++p.funs.map (λf=>qD (an f) fn f)++p.stms.map (za xn fn))).length < sizeLine:=by
       have hb1:(fC p.budget).length<=1:=by unfold fC;split <;> simp
       rw [dB,ao,ao,ao,aB,aB,aC];omega
      exists D,_,_,U,U,PD,hlr,?_;rw [rD];have R5: [word "chance " ++t]++fC p.budget++p.funs.map (λf=>qD (an f) fn f)++p.stms.map (za xn fn)++ [word "tell " ++joined (word ", ") (p.tells.map λt=>xn t.name)]=rowsOf t xn fn an p:=rfl;rw [R5];have sh:=Fq t xn fn an p;have jl:=my [10] (rowsOf t xn fn an p);rw [aC] at jl;have s5:=(s3.trans s4).bM (o:= .lst (eL (rowsOf t xn fn an p))) hD;exists #[_,U],_,U,_,D,(rowsOf t xn fn an p).map aR,U,U,.inl (by rw [<-oK];exact cz.of aa),(by rw [oI,aB,Of,aK,aC];omega),?_;rw [Of,lL];exists _,_,U,U,(by rw [aK,aK,aC];omega),?_;rw [cu,sh];have shl:(rq t xn fn an p).shown.length<=sizeLine:=by
       rw [<-sh,ao,aC];omega
      exists _,U,λD3 lP=>?_;have Tc:(aR (rq t xn fn an p).shown).cps.size=(rq t xn fn an p).shown.length:=aK _;refine Jt (txt (rq t xn fn an p).shown) (by rw [Tc,cG]) lP (by rw [Tc];exact shl) (λi cc y H6 R hx hy s6 k=>?_) λH6 s6 h6=>?_
      . have e1:cc=((rq t xn fn an p).shown[i]?.map (·.toNat)).getD 0:=by rw [<-yX,hx];rfl
        have e2:y= .int (cc:Nat):=by
         rw [yX] at hx;unfold txt at hy;rw [bz] at hy;cases hz:(rq t xn fn an p).shown[i]? with
         | none=>rw [hz] at hy;cases hy
         | some z=>rw [hz] at hx hy;cases hx;cases hy;rfl
        rw [e2] at k;exists U,_,U,_,U,U,k
      . exists D3,_,U,h6,au,λo=>?_;have R6:=same_none s5 lP;exact q D3 _ R6 ((s5.trans s6).bM R6) #[o,aa]
def Td (ss:List Stm):List Bytes:=(ss.filter isLet).map KD
def Oh (h:named p scope e= .ok u):mZ scope (fG p) e:=λk hk=>by
 rw [cw] at h;have h1:=vy h k hk;exists λq n e=>?_,λq f x e=>?_
 . subst e;have h1:(if scope.contains n=true then .ok () else .error #[6,q]:Except Fault Unit)= .ok ():=h1;split at h1
   . rename_i hc;exact eh.mp hc
   . cases h1
 . subst e;have h1:gD p q f x= .ok ():=h1;unfold gD at h1;cases hf:p.fun f with
   | none=>rw [hf] at h1;cases h1
   | some g=>exact MV hf
def mZ.mono {V1:List Bytes} (h:mZ N1 N2 e) (s:∀n∈N1,n∈V1):mZ V1 N2 e:=λk hk=>#[λq n e=>s n ((h k hk).1 q n e),(h k hk).2]
def rE {l:List Bytes} {n:Bytes} (h:l.Nodup) (hn:¬l.contains n=true):(l++ [n]).Nodup:=by
 rw [List.nodup_append];exists h,kI.mpr #[cU,iY],λa ha b hb e=>?_;subst e;rw [ej.mp hb] at ha;exact hn (eh.mpr ha)
def zc:∀{ss:List Stm} {sc Oi:List Bytes},stmsRight p sc ss= .ok Oi->Oi=sc++Td ss/\(sc.Nodup->Oi.Nodup)/\∀s∈ss,∃U3,(∀n∈U3,n∈Oi)/\named p U3 (exprOf s)= .ok ()
 | [],sc,Oi,h=>by
  cases h;exists by rw [show Td []= [] from rfl,bH],λz=>z,λs hs=>by cases hs
 | .observe e :: r,sc,Oi,h=>by
  let #[_,h1,h]:=aj h;obtain ⟨a,b,d⟩:=zc h;exists a,b,λs hs=>?_;rcases aE.mp hs with rfl | hs
  . exists sc,λn hn=>by rw [a];exact m6 _ hn,h1
  . exact d s hs
 | .lets n k e :: r,sc,Oi,h=>by
  have h:(if sc.contains n.name=true then .error #[5,n.place] else named p sc e >>= λ_=>stmsRight p (sc++ [n.name]) r)= .ok Oi:=h;split at h
  . cases h
  . rename_i hc;let #[_,h1,h]:=aj h;obtain ⟨a,b,d⟩:=zc h;exists by rw [a,bw];rfl,λz=>b (rE z hc),λs hs=>?_;rcases aE.mp hs with rfl | hs
    . exists sc,λm hm=>by rw [a,bw];exact m6 _ hm,h1
    . exact d s hs
def DK:∀{fs:List Fu} {before:List Bytes} {u:Unit},funsRight p before fs= .ok u->before.Nodup->(before++fs.map λf=>f.name.name).Nodup
 | [],before,u,_,hb=>by rw [cO,bH];exact hb
 | f :: r,before,u,h,hb=>by
  unfold funsRight at h;split at h
  . cases h
  . split at h
    . cases h
    . rename_i hc;let #[_,_,h]:=aj h;let #[_,_,h]:=aj h;have:=DK h (rE hb hc);rw [bw] at this;exact this
def DL:∀{ds:List Decl} {before:List Bytes} {u:Unit},declsRight before ds= .ok u->before.Nodup->(before++ds.map λd=>d.name.name).Nodup
 | [],before,u,_,hb=>by rw [cO,bH];exact hb
 | d :: r,before,u,h,hb=>by
  have h:(if before.contains d.name.name=true then .error #[5,d.name.place] else declsRight (before++ [d.name.name]) r)= .ok u:=h;split at h
  . cases h
  . rename_i hc;have:=DL h (rE hb hc);rw [bw] at this;exact this
def KS:∀{ts:List PName} {before:List Bytes} {u:Unit},tellsRight scope before ts= .ok u->∀t∈ts,t.name∈scope
 | [],_,_,_,t,ht=>by cases ht
 | x :: r,before,u,h,t,ht=>by
  have h:(if scope.contains x.name=false then .error #[6,x.place] else if before.contains x.name=true then .error #[5,x.place] else tellsRight scope (before++ [x.name]) r)= .ok u:=h;split at h
  . cases h
  . rename_i hc;split at h
    . cases h
    . rcases aE.mp ht with rfl | ht
      . exact eh.mp (by simpa using hc)
      . exact KS h t ht
def zf:∀{ss:List Stm} {E E':mY},stmsKinds p E ss= .ok E'->E'.map (·.1)=E.map (·.1)++Td ss
 | [],E,E',h=>by cases h;rw [show Td []= [] from rfl,bH]
 | .observe e :: r,E,E',h=>by
  rw [Kw] at h;let #[_,_,h]:=aj h;let #[_,_,h]:=aj h;have:=zf h;rw [this];rfl
 | .lets n o e :: r,E,E',h=>by
  rw [Kx] at h;let #[_,_,h]:=aj h;let #[k2,_,h]:=aj h;rw [zf h,dW,bw];rfl
structure Wp (p:Prog) (En:mY):Prop where
 gp:GP p
 nr:namesRight p= .ok ()
 ev:p.env= .ok En
 wf:mv p En
 sh:p.shown.length<=4096
section
def oP (h:namesRight p= .ok ()):funsRight p [] p.funs= .ok ()/\stmsRight p [] p.stms= .ok (letNames p)/\tellsRight (letNames p) [] p.tells= .ok ():=by
 have h:(funsRight p [] p.funs >>= λ_=>stmsRight p [] p.stms >>= λscope=>tellsRight scope [] p.tells)= .ok ():=h;let #[_,h1,h]:=aj h;let #[sc,h2,h]:=aj h;have e:=(zc h2).1;rw [kP] at e;have e:sc=letNames p:=by rw [e,dm];rfl
 subst e;exists h1,h2,h
def rG (h:namesRight p= .ok ()):V0 p:=by
 obtain ⟨h1,h2,h3⟩:=oP h;exists λf hf=>Oh (xq h1 f hf).2,λs hs=>?_,KS h3;obtain ⟨U3,a,b⟩:=(zc h2).2.2 s hs;exact (Oh b).mono a
def KU (h:namesRight p= .ok ()):(letNames p).Nodup:=(zc (oP h).2.1).2.1 iY
def KW (h:namesRight p= .ok ()):(fG p).Nodup:=by simpa using DK (oP h).1 iY
def P' (h:namesRight p= .ok ()):∀f∈p.funs,(zr f).Nodup:=λf hf=>by simpa using DL (xq (oP h).1 f hf).1 iY
def zg (h:namesRight p= .ok ()):∀g∈p.funs,∀n∈Vaprbb.calls [] g.body,n∈fG p:=λg hg n hn=>by
 rw [cb] at hn;rcases tE hn with h' | ⟨k,hk,e⟩
 . cases h'
 . cases k with
   | call q f x=>cases e;exact (((rG h).fb g hg) _ hk).2 q _ x rfl
   | lit q v=>cases v <;> cases e
   | _=>cases e
def pV (h:p.env= .ok En):En.map (·.1)=letNames p:=by
 have h:(Vaprbb.funsKinds p p.funs >>= λ_=>stmsKinds p [] p.stms)= .ok En:=h;let #[_,_,h]:=aj h;rw [zf h,dm];rfl
def oQ (h:p.env= .ok En):p.lets=En:=by
 unfold Vaprbb.Prog.lets;rw [h]
def HS {l:mY} {n:Bytes} (hn:(l.map (·.1)).Nodup) (h:l[i]? = some (n,k)):Vaprbb.Env.kind l n=some k:=by
 unfold Vaprbb.Env.kind;have:l.find? (λx=>x.1 == n)=some (n,k):=by
  rw [zU];obtain ⟨hi,e⟩:=bj.mp h;exists by simp,i,hi,e,λj hj=>?_;have h1:(l.map (·.1))[j]'(by rw [aB];omega)=l[j].1:=List.getElem_map ..;have h2:(l.map (·.1))[i]'(by rw [aB];omega)=n:=by rw [List.getElem_map,e]
  simp only [Bool.not_eq_true',bS];intro z;have:=(uz hn).mp (h1.trans (z.trans h2.symm));omega
 rw [this];rfl
def AQ (h:p.env= .ok En):∀n,List.contains (letNames p) n=(Vaprbb.Env.kind En n).isSome:=λn=>by
 rw [<-pV h];unfold Vaprbb.Env.kind;rw [nb,List.isSome_find?,b9,eh,o7];constructor
 . intro z;obtain ⟨d,hd,e⟩:=cj.mp z;exists d,hd,by simpa using e
 . rintro ⟨d,hd,e⟩;exact cj.mpr #[d,hd,by simpa using e]
def M9 (b:Bytes):read b=(tokens b >>= λl=>takeProg l >>= λp=>namesRight p >>= λ_=>p.env >>= λ_=>if 4096 < p.shown.length then .error #[10,0] else .ok p):=by
 unfold Vaprbb.read;refine aS λl=>aS λp=>aS λ_=>aS λ_=>?_;show (if 4096 < p.shown.length then _ else _)=_;split <;> rfl
def zh (p:Prog) (i:Nat):letExpr p i=((p.stms.filter isLet).map exprOf)[i]?:=by
 unfold letExpr;congr 1;induction p.stms with
 | nil=>rfl
 | cons s r ih=>
  cases s with
  | lets n k e=>exact bA (e :: ·) ih
  | observe e=>exact ih
end
def eI:∀e:Ex,(Vaprbb.points e).length<=(showExpr e).length+1
 | .lit _ _=>aD _
 | .name _ _=>aD _
 | .nil=>aD _
 | .flip _ _=>by show 1<=_;omega
 | .uniform _ _ _=>by show 1<=_;omega
 | .un _ o a=>by
  have:=eI a;show (Vaprbb.points a).length<=(Vaprbb.unName o++ [40]++showExpr a++ [41]).length+1;simp only [ao,aC];omega
 | .weigh _ w a=>by
  have:=eI a;show (Vaprbb.points a).length<=(word "weigh(" ++showFrac w++word ", " ++showExpr a++ [41]).length+1;simp only [ao,aC];omega
 | .call _ f a=>by
  have:=eI a;show (Vaprbb.points a).length<=(f++ [40]++showExpr a++ [41]).length+1;simp only [ao,aC];omega
 | .pick _ a=>by
  have:=eI a;have w1:(word "pick(").length=5:=rfl;show (Vaprbb.points a).length+1<=(word "pick(" ++showExpr a++ [41]).length+1;simp only [ao,aC];omega
 | .bin _ o a b=>by
  have h1:=eI a;have h2:=eI b;show (Vaprbb.points a++Vaprbb.points b).length<=(Vaprbb.binName o++ [40]++showExpr a++word ", " ++showExpr b++ [41]).length+1;simp only [ao,aC,jI];omega
 | .given _ a b=>by
  have h1:=eI a;have h2:=eI b;show (Vaprbb.points a++Vaprbb.points b).length<=(word "given(" ++showExpr a++word ", " ++showExpr b++ [41]).length+1;simp only [ao,aC,jI];omega
 | .cond _ d a b=>by
  have h0:=eI d;have h1:=eI a;have h2:=eI b;show (Vaprbb.points d++(Vaprbb.points a++Vaprbb.points b)).length<=(word "if(" ++showExpr d++word ", " ++showExpr a++word ", " ++showExpr b++ [41]).length+1;simp only [ao,aC,jI];omega
 | .arg a r=>by
  have h1:=eI a;have h2:=eI r;by_cases hr:r= .nil
  . subst hr;show (Vaprbb.points a++ []).length<=(showExpr a).length+1;rw [bH];exact h1
  . rw [oG hr];show (Vaprbb.points a++Vaprbb.points r).length<=_;simp only [ao,jI];omega
 | .way a w r=>by
  have h1:=eI a;have h2:=eI r;by_cases hr:r= .nil
  . subst hr;show (Vaprbb.points a++ []).length<=(showExpr a++word " : " ++showFrac w).length+1;simp only [bH,ao];omega
  . rw [oH hr];show (Vaprbb.points a++Vaprbb.points r).length<=_;simp only [ao,jI];omega
def GY {l:List α} {f:α->List β} {g:α->List γ} (h:∀x∈l,(f x).length<=(g x).length):(l.flatMap f).length<=(l.flatMap g).length:=by
 induction l with
 | nil=>exact aw _
 | cons x l ih=>
  rw [dR,dR,ao,ao];have:=h x bi;have:=ih λy hy=>h y (aW _ hy);omega
def zi (p:Prog):p.points.length<=p.shown.length:=by
 unfold Vaprbb.Prog.points Vaprbb.Prog.shown;have h1:(p.funs.flatMap λf=>Vaprbb.points f.body).length<=(p.funs.flatMap Vaprbb.showFun).length:=GY λf _=>by
  have:=eI f.body;unfold Vaprbb.showFun;simp only [ao,aC];omega
 have h2:(p.stms.flatMap λs=>Vaprbb.points (exprOf s)).length<=(p.stms.flatMap Vaprbb.showStm).length:=GY λs _=>by
  cases s with
  | lets n k e=>
   have:=eI e;show (Vaprbb.points e).length<=(_++_++_++_++showExpr e++_++ [10]).length;simp only [ao,aC];omega
  | observe e=>
   have:=eI e;show (Vaprbb.points e).length<=(_++showExpr e++_++ [10]).length;simp only [ao,aC];omega
 simp only [ao];omega
section
variable (hx:∀n,(xn n).length<=3) (hf:∀n,(fn n).length<=3)
include hx hf
def eJ:∀e:Ex,(showExpr (renamed xn fn e)).length<=3 * (showExpr e).length+3
 | .lit p v=>by show (showExpr (.lit p v)).length<=_;omega
 | .nil=>aD _
 | .flip p v=>by show (showExpr (.flip p v)).length<=_;omega
 | .uniform p lo hi=>by show (showExpr (.uniform p lo hi)).length<=_;omega
 | .name _ n=>by
  have:=hx n;show (xn n).length<=3 * n.length+3;omega
 | .un _ o a=>by
  have:=eJ a;show (Vaprbb.unName o++ [40]++showExpr (renamed xn fn a)++ [41]).length<=3 * (Vaprbb.unName o++ [40]++showExpr a++ [41]).length+3;simp only [ao,aC];omega
 | .weigh _ w a=>by
  have:=eJ a;show (word "weigh(" ++showFrac w++word ", " ++showExpr (renamed xn fn a)++ [41]).length<=3 * (word "weigh(" ++showFrac w++word ", " ++showExpr a++ [41]).length+3;simp only [ao,aC];omega
 | .call _ f a=>by
  have h1:=eJ a;have h2:=hf f;show (fn f++ [40]++showExpr (renamed xn fn a)++ [41]).length<=3 * (f++ [40]++showExpr a++ [41]).length+3;simp only [ao,aC];omega
 | .pick _ a=>by
  have:=eJ a;show (word "pick(" ++showExpr (renamed xn fn a)++ [41]).length<=3 * (word "pick(" ++showExpr a++ [41]).length+3;simp only [ao,aC];omega
 | .bin _ o a b=>by
  have h1:=eJ a;have h2:=eJ b;show (Vaprbb.binName o++ [40]++showExpr (renamed xn fn a)++word ", " ++showExpr (renamed xn fn b)++ [41]).length<=3 * (Vaprbb.binName o++ [40]++showExpr a++word ", " ++showExpr b++ [41]).length+3;simp only [ao,aC,jI];omega
 | .given _ a b=>by
  have h1:=eJ a;have h2:=eJ b;show (word "given(" ++showExpr (renamed xn fn a)++word ", " ++showExpr (renamed xn fn b)++ [41]).length<=3 * (word "given(" ++showExpr a++word ", " ++showExpr b++ [41]).length+3;simp only [ao,aC,jI];omega
 | .cond _ d a b=>by
  have h0:=eJ d;have h1:=eJ a;have h2:=eJ b;show (word "if(" ++showExpr (renamed xn fn d)++word ", " ++showExpr (renamed xn fn a)++word ", " ++showExpr (renamed xn fn b)++ [41]).length<=3 * (word "if(" ++showExpr d++word ", " ++showExpr a++word ", " ++showExpr b++ [41]).length+3;simp only [ao,aC,jI];omega
 | .arg a r=>by
  have h1:=eJ a;have h2:=eJ r;show (showExpr (.arg (renamed xn fn a) (renamed xn fn r))).length<=_;by_cases hr:r= .nil
  . subst hr;exact h1
  . rw [oG hr,oG λz=>hr (xr z)];simp only [ao,jI];omega
 | .way a w r=>by
  have h1:=eJ a;have h2:=eJ r;show (showExpr (.way (renamed xn fn a) w (renamed xn fn r))).length<=_;by_cases hr:r= .nil
  . subst hr;show (showExpr (renamed xn fn a)++word " : " ++showFrac w).length<=3 * (showExpr a++word " : " ++showFrac w).length+3;simp only [ao];omega
  . rw [oH hr,oH λz=>hr (xr z)];simp only [ao,jI];omega
end
def DM {l:List α} {f g:α->Bytes} (h:∀x∈l,(f x).length<=3 * (g x).length):(l.flatMap f).length<=3 * (l.flatMap g).length:=by
 induction l with
 | nil=>exact aw _
 | cons x l ih=>
  rw [dR,dR,ao,ao];have:=h x bi;have:=ih λy hy=>h y (aW _ hy);omega
def KY {ch:UInt8} {l:List Bytes} (h:l.length<=32) (n:Bytes):(byNumber ch l n).length<=3:=by
 show (ch :: showNat (ix l n)).length<=3;have h1:(showNat (ix l n)).length<=2:=iE (k:=2) (by have:=Oc l n;omega) (by decide);rw [aT];omega
def zj {l:List α} {f g:α->Bytes} (h:∀x∈l,(f x).length<=3 * (g x).length+3):(joined (word ", ") (l.map f)).length<=3 * (joined (word ", ") (l.map g)).length+3 * l.length:=by
 induction l with
 | nil=>exact aw _
 | cons x l ih=>
  have h1:=h x bi;have h2:=ih λy hy=>h y (aW _ hy);cases l with
  | nil=>
   show (f x).length<=3 * (g x).length+3 * 1;omega
  | cons y r=>
   show (f x++word ", " ++joined (word ", ") ((y :: r).map f)).length<=3 * (g x++word ", " ++joined (word ", ") ((y :: r).map g)).length+3 * ((y :: r).length+1);simp only [ao,jI];omega
def plain_len (hG:GP p):p.plain.shown.length<=3 * p.shown.length+40:=by
 have mE:(letNames p).length<=32:=aP (gG p) hG.sl;have hfn:(fG p).length<=32:=by rw [aB];have:=hG.fl;omega
 rw [AI];have bx:=KY (ch:=120) mE;have bf:=KY (ch:=102) hfn;have h1:((p.funs.map (oJ (byNumber 102 (fG p)) (λf=>byNumber 97 (zr f)))).flatMap Vaprbb.showFun).length<=3 * (p.funs.flatMap Vaprbb.showFun).length:=by
  rw [o8];refine DM λf hf=>?_;have h4:=(hG.fn f hf).pl;have ba:=KY (ch:=97) (l:=zr f) (by rw [aB];omega);have e1:=eJ ba bf f.body;have e2:=zj (l:=f.params) (f:=λd:Decl=>byNumber 97 (zr f) d.name.name++ [32]++showKind d.kind) (g:=Vaprbb.showDecl) λd _=>by
   have:=ba d.name.name;show (byNumber 97 (zr f) d.name.name++ [32]++showKind d.kind).length<=3 * (d.name.name++ [32]++showKind d.kind).length+3;simp only [ao,aC];omega
  have e3:=bf f.name.name;show (word "def " ++byNumber 102 (fG p) f.name.name++ [40]++joined (word ", ") ((f.params.map λd:Decl=>(#[#[0,byNumber 97 (zr f) d.name.name],d.kind]:Decl)).map Vaprbb.showDecl)++word ") " ++showKind f.result++word " = " ++showExpr (renamed (byNumber 97 (zr f)) (byNumber 102 (fG p)) f.body)++word " ;" ++ [10]).length<=3 * (word "def " ++f.name.name++ [40]++joined (word ", ") (f.params.map Vaprbb.showDecl)++word ") " ++showKind f.result++word " = " ++showExpr f.body++word " ;" ++ [10]).length;rw [c9];have e2:(joined (word ", ") (f.params.map (Vaprbb.showDecl∘λd:Decl=>(#[#[0,byNumber 97 (zr f) d.name.name],d.kind]:Decl)))).length<=_:=e2;simp only [ao,aC,kt,y_,mO,gY];omega
 have h2:((p.stms.map (vC (byNumber 120 (letNames p)) (byNumber 102 (fG p)))).flatMap Vaprbb.showStm).length<=3 * (p.stms.flatMap Vaprbb.showStm).length:=by
  rw [o8];refine DM λs hs=>?_;cases s with
  | lets n k e=>
   have e1:=eJ bx bf e;have e2:=bx n.name;cases k with
   | none=>
    show (word "let " ++byNumber 120 (letNames p) n.name++ []++word " = " ++showExpr (renamed (byNumber 120 (letNames p)) (byNumber 102 (fG p)) e)++word " ;" ++ [10]).length<=3 * (word "let " ++n.name++ []++word " = " ++showExpr e++word " ;" ++ [10]).length;simp only [ao,aC,mC,mO,gY,fL];omega
   | some k=>
    show (word "let " ++byNumber 120 (letNames p) n.name++([32]++showKind k)++word " = " ++showExpr (renamed (byNumber 120 (letNames p)) (byNumber 102 (fG p)) e)++word " ;" ++ [10]).length<=3 * (word "let " ++n.name++([32]++showKind k)++word " = " ++showExpr e++word " ;" ++ [10]).length;simp only [ao,aC,mC,mO,gY];omega
  | observe e=>
   have e1:=eJ bx bf e;show (word "observe " ++showExpr (renamed (byNumber 120 (letNames p)) (byNumber 102 (fG p)) e)++word " ;" ++ [10]).length<=3 * (word "observe " ++showExpr e++word " ;" ++ [10]).length;simp only [ao,aC,Fp,gY];omega
 have h3:=zj (l:=p.tells) (f:=λt=>byNumber 120 (letNames p) t.name) (g:=λt=>t.name) λt _=>by
  have:=bx t.name;omega
 have h6:=hG.tl;have e3:(rq [80] (byNumber 120 (letNames p)) (byNumber 102 (fG p)) (λf=>byNumber 97 (zr f)) p).shown=word "chance " ++ [80]++ [10]++(if p.budget=0 then [] else word "budget " ++showNat p.budget++ [10])++(p.funs.map (oJ (byNumber 102 (fG p)) (λf=>byNumber 97 (zr f)))).flatMap Vaprbb.showFun++(p.stms.map (vC (byNumber 120 (letNames p)) (byNumber 102 (fG p)))).flatMap Vaprbb.showStm++word "tell " ++joined (word ", ") (p.tells.map λt=>byNumber 120 (letNames p) t.name)++ [10]:=by
  unfold rq Vaprbb.Prog.shown;simp only [c9];rfl
 rw [e3];unfold Vaprbb.Prog.shown;simp only [ao,aC,KO,B6];omega
def zV (l:List Int):List V:=l.map V.int
def cB (l:List Int):(zV l).length=l.length:=aB _
def c4 (a b:List Int):zV (a++b)=zV a++zV b:=dW
def KZ (b:Bytes):txt b=zV (b.map λx=>(x.toNat:Int)):=by unfold txt zV;rw [c9];rfl
def DN (k:Kd):kT k=zV (kindRow k):=by cases k <;> rfl
def GZ {l:List Bytes} (h:∀n∈l,n∈cY):zp cY l=zV ((numbersOf cY l).map λ(n:Nat)=>(n:Int)):=by
 rw [mx h];unfold zp zV;rw [c9,c9];rfl
def gL (H:Hp) (Q:VK) (l:List Int):= ∀p H',H p=none->aq H H'->H' p=some (.lst (zV l))->Q (.ref p) H'
def gL.on {l:List Int} (h:gL H Q l) (s:aq H H1):gL H1 Q l:=λp H' n s' e=>h p H' (same_none s n) (s.trans s') e
def gL.lit {l:List Int} (h:gL H Q l) (hD:H D=none):Q (.ref D) (upd H D (.lst (zV l))):=h D _ hD (aq.upd hD) aa
def Ch (K:Frag) (c:Cl) (H:Hp) (v:V) (p:Prog) (En:mY):= ∃a dx pv kd fb pb ln fm cl zN,v= .ref a/\H a=some (.ins c.ld dx [("program",pv),("let_kinds",.ref kd),("form_bytes",.ref fb),("plain_bytes",.ref pb),("let_names",.ref ln),("function_names",.ref fm),("called",.ref cl)])/\D' K c H pv p/\MU K H kd En/\FL H fb (txt p.shown)/\FL H pb (txt p.plain.shown)/\FL H ln (lQ (letNames p))/\FL H fm (lQ (fG p))/\FL H cl zN/\A2 (Qz (fG p) H) zN p.funs
def Ch.Y (C:CT K c) (h:Ch K c H v p En) (i:bX c H H'):Ch K c H' v p En:=by
 obtain ⟨a,dx,pv,kd,fb,pb,ln,fm,cl,zN,e,ha,h1,h2,h3,h4,h5,h6,h7,h8⟩:=h;exists a,dx,pv,kd,fb,pb,ln,fm,cl,zN,e,i _ _ ha C.RD,h1.Y C i,h2.Y i,h3.mono i,h4.mono i,h5.mono i,h6.mono i,h7.mono i,h8.mono λ_ _ z=>z.Y i
def _root_.L2.FL.sb {x:Addr} {C:Addr} {fs:List (Str×V)} (f:FL H a xs) (e:H x=some (.ins C dx fs)) (s:Sb x H H'):FL H' a xs:=by
 obtain ⟨o,h⟩:=f;exists o,s _ _ h λz=>by subst z;rw [h] at e;cases e
def Ft:SP:=λK c vs H Q _=> ∃na l,vs= [.ref na]/\Rd H na (.lst (zV l))/\l.length < 16777216/\gL H Q ((l.length:Int) :: l)
def fX:AA.h0 1 "counted" ["numbers"] Ft:=by
 nomatch ["numbers"]
 obtain ⟨na,l,rfl,hr,hl,q⟩:=h;nomatch 1,xi,aM aJ
 have hb:=gI;have sq:cz K H na (zV l):= .inl hr;exists _,U,na,zV l,U,.inl sq,jJ,λD hD=>?_;have s0:=aq.upd (o:= .lst [V.int ((zV l).length:Nat)]) hD;exists _,U,D,na,[V.int ((zV l).length:Nat)],zV l,U,U,aa,?_,?_,λD2 eN=>?_
 . rcases hr with e | ⟨o,e⟩
   . exact .inl (s0 _ _ e)
   . exact .inr #[o,s0 _ _ e]
 . rw [cB,aC];omega
 . refine q D2 _ (same_none s0 eN) (s0.trans (aq.upd eN)) ?_;rw [aa,cB];rfl
def wX:SP:=λK c vs H Q _=> ∃b,vs= [.str (aR b)]/\b.length<=4097/\gL H Q (textRow b)
def iM:AA.h0 2 "name_numbers" ["name"] wX:=by
 nomatch ["name","sign"]
 obtain ⟨b,rfl,hl,q⟩:=h;nomatch 1,fX,ie (Ji (pv 0)) [("sign",1)] (λ_ _ _ _ _=>(bL 1)) (λ_ _ _ _ _=>(aM Cr (pU (pv 1))))
 have hb:=gI;exists _,U,_,U,λD hD=>?_;have Tc:(aR b).cps.size=b.length:=aK _;refine Jt (txt b) (by rw [Tc,cG]) hD (by omega) (λi cc y H6 R hx hy s6 k=>?_) λH6 s6 h6=>?_
 . have e2:y= .int (cc:Nat):=by
    rw [yX] at hx;unfold txt at hy;rw [bz] at hy;cases hz:b[i]? with
    | none=>rw [hz] at hy;cases hy
    | some z=>rw [hz] at hx hy;cases hx;cases hy;rfl
   rw [e2] at k;exists U,_,U,_,U,U,k
 . rw [KZ] at h6;exists D,_,U,.inl h6,by rw [aB];omega,?_;rw [aB];exact gL.on q s6
def K0:SP:=λK c vs H Q _=> ∃v p En,vs= [v]/\Ch K c H v p En/\Wp p En/\gL H Q (textRow p.shown)
def K1:AA.h0 2 "shown" ["loaded"] K0:=by
 nomatch ["loaded"]
 obtain ⟨v,p,En,rfl,hL,hW,q⟩:=h;nomatch 1,fX
 obtain ⟨a,dx,pv,kd,fb,pb,ln,fm,cl,zN,rfl,ha,h1,h2,h3,h4,h5,h6,h7,h8⟩:=id hL;have hs:=hW.sh;obtain ⟨o,e⟩:=h3;rw [KZ] at e;exists _,U,fr ha U #[fb,_,U,.inr #[o,e],by rw [aB];omega,?_];rw [aB];exact q
def K2:SP:=λK c vs H Q _=> ∃v p En,vs= [v]/\Ch K c H v p En/\Wp p En/\gL H Q (textRow p.plain.shown)
def K3:AA.h0 2 "plain" ["loaded"] K2:=by
 nomatch ["loaded"]
 obtain ⟨v,p,En,rfl,hL,hW,q⟩:=h;nomatch 1,fX
 obtain ⟨a,dx,pv,kd,fb,pb,ln,fm,cl,zN,rfl,ha,h1,h2,h3,h4,h5,h6,h7,h8⟩:=id hL;have hs:=hW.sh;have hp:=plain_len hW.gp;obtain ⟨o,e⟩:=h4;rw [KZ] at e;exists _,U,fr ha U #[pb,_,U,.inr #[o,e],by rw [aB];omega,?_];rw [aB];exact q
def K4:SP:=λK c vs H Q _=> ∃v p En,vs= [v]/\Ch K c H v p En/\Wp p En/\gL H Q [(p.stms.length:Int),(p.lets.length:Int),(p.funs.length:Int),(p.tells.length:Int),(p.budget:Int)]
def K5:AA.h0 1 "sizes" ["loaded"] K4:=by
 nomatch ["loaded","program"]
 obtain ⟨v,p,En,rfl,hL,hW,q⟩:=h;nomatch 2,1,aM aJ,aM aJ,aM aJ,aM aJ
 obtain ⟨a,dx,pv,kd,fb,pb,ln,fm,cl,zN,rfl,ha,h1,h2,h3,h4,h5,h6,h7,h8⟩:=id hL;obtain ⟨b,db,fl,sl,tl,fs,ss,ts,rfl,hb,f1,A1,f2,zF,f3,A3⟩:=id h1;have l1:=A1.len;have l2:=zF.len;have l3:=A3.len;have l4:(lQ (letNames p)).length=p.lets.length:=by rw [gW,oQ hW.ev,<-pV hW.ev,aB]
 exists _,U,fr ha U ?_;exists _,U,fr hb U #[sl,ss,U,.inl f2.sq,_,U,fr ha U #[ln,_,U,.inl h5.sq,_,U,fr hb U #[fl,fs,U,.inl f1.sq,_,U,fr hb U #[tl,ts,U,.inl f3.sq,_,U,fr hb U #[jJ,λD hD=>?_]]]]];rw [l1,l2,l3,l4];exact gL.lit q hD
def DP:SP:=λK c vs H Q _=> ∃k:Int,vs= [.int k]/\∀H',aq H H'->Q (.bl (decide (k=0\/k=5\/k=9))) H'
def DQ:AA.h0 1 "has_text" ["number"] DP:=by
 nomatch ["number"]
 obtain ⟨k,rfl,q⟩:=h;nomatch 1,eC,T.EA,T.ED,T.Jx
 exists _,U,jJ,λD hD=>?_;exists D,_,U,.inr (.inl (.inl aa)),U,U,?_;have q:=q _ (aq.upd (o:= .tup [.int 0,.int 5,.int 9]) hD);have e:inV (.int k) [.int 0,.int 5,.int 9]=decide (k=0\/k=5\/k=9):=by
  show (((0:Int) == k) || (((5:Int) == k) || (((9:Int) == k) || false)))=_;rw [b9];simp only [h_,kO,bO,dr];omega
 rw [ae aO,e];exact q
def zO:SP:=λK c vs H Q _=> ∃k:Int,vs= [.int k]/\∀H',aq H H'->Q (.bl (decide (k=3\/k=4))) H'
def zP:AA.h0 1 "has_number" ["number"] zO:=by
 nomatch ["number"]
 obtain ⟨k,rfl,q⟩:=h;nomatch 1,eC,T.EB,T.EC
 exists _,U,jJ,λD hD=>?_;exists D,_,U,.inr (.inl (.inl aa)),U,U,?_;have q:=q _ (aq.upd (o:= .tup [.int 3,.int 4]) hD);have e:inV (.int k) [.int 3,.int 4]=decide (k=3\/k=4):=by
  show (((3:Int) == k) || (((4:Int) == k) || false))=_;rw [b9];simp only [h_,kO,bO,dr];omega
 rw [ae aO,e];exact q
def rH:SP:=λK c vs H Q _=> ∃x dx,vs= [.ref x]/\H x=some (.ins c.hold dx [])/\∀H':Hp,H' x=some (.ins c.hold dx [("loaded",.cp)])->(∀b o,H b=some o->b≠x->H' b=some o)->Q .cp H'
def rJ:AA.c0 1 c.hold "Holder" ["self"] rH:=by
 refine AA.i0 AA.j0 (N:= ["self"]) λT C FT H Q E nN hr h=>?_;obtain ⟨x,dx,rfl,hx,k⟩:=h;nomatch 1
 exists _,U,fw hx ?_;exact k _ aa λb o e ne=>by rw [aA ne];exact e
def K6:SP:=λK c vs H Q _=> ∃v p En,vs= [v]/\Ch K c H v p En/\Wp p En/\gL H Q ((p.tells.length:Int) :: (numbersOf (letNames p) (p.tells.map λt=>t.name)).map λ(n:Nat)=>(n:Int))
def K7:AA.h0 2 "tells" ["loaded"] K6:=by
 nomatch ["loaded","token"]
 obtain ⟨v,p,En,rfl,hL,hW,q⟩:=h;nomatch 1,fX,ie (bE (ca (ca (pv 0)))) [("token",1)] (λ_ _ _ _ _=>(bL 1)) (λ_ _ _ _ _=>(Jr (K:=K) rfl tZ t9 z4 (As (K:=K) rfl) (fk (K:=K) rfl (pv 0) rfl) (pU (fk (K:=K) rfl (pv 1) rfl))))
 obtain ⟨a,dx,pv,kd,fb,pb,ln,fm,cl,zN,rfl,ha,h1,h2,h3,h4,h5,h6,h7,h8⟩:=id hL;obtain ⟨b,db,fl,sl,tl,fs,ss,ts,rfl,hb,f1,A1,f2,zF,f3,A3⟩:=id h1;have l3:=A3.len;have h6':=hW.gp.tl;have hM:=rG hW.nr;have iW:=gI;have hin:∀m∈p.tells.map (λt=>t.name),m∈letNames p:=λm hm=>by
  obtain ⟨t,ht,rfl⟩:=cj.mp hm;exact hM.tl t ht
 exists _,U,fr ha U (fr hb U #[tl,U,#[ts,f3.sq],λD hD=>?_]);refine jw (K:=K) (a:=tl) (xs:=ts) (zp (letNames p) (p.tells.map λt=>t.name)) (by rw [pT,aB,l3]) hD f3.sq (by omega) (λi x y H4 R hx hy s4 k=>?_) λH4 s4 h4'=>?_
 . obtain ⟨tn,htn,U2⟩:=A3.get hx;obtain ⟨m,hm,rfl⟩:=yY hy;rw [bz,htn] at hm;cases hm;have hmm:=hM.tl tn (bc htn);obtain ⟨at',rfl,bh,dt,hat⟩:=JV.Y C U2 s4.Y;obtain ⟨hx1,hx2⟩:=vA hmm;exists U,_,U,fr (s4 _ _ ha) U #[VX (h5.app s4),_,U,fr hat U #[ln,lQ (letNames p),_,ix (letNames p) tn.name,_,U,U,(h5.app s4).sq,U,BL _,BO hx1,kH (aR tn.name),λj z hj hz=>?_,k H4 (aq.refl _)]];obtain ⟨m2,hm2,rfl⟩:=kf hz;have:=hx2 j m2 hj hm2;show (aR m2 == aR tn.name)=false;exact bS.mpr λz=>this (lw z)
 . rw [GZ hin] at h4';have hl:((numbersOf (letNames p) (p.tells.map λt=>t.name)).map λ(n:Nat)=>(n:Int)).length=p.tells.length:=by rw [aB,mx hin,aB,aB]
   exists D,_,U,.inl h4',by omega,?_;rw [hl];exact gL.on q s4
def B8 {i:Int} (h:¬(0<=i/\i < (p.lets.length:Int))):encode (letsAnswer p i)= [-2]:=by
 unfold Vaprbb.letsAnswer index;rw [ae h];rfl
def G0 {k:Nat} {x:Bytes×Kd} (hk:k < p.lets.length) (h1:p.lets[k]? = some x) (h2:letExpr p k=some e):encode (letsAnswer p (k:Int))=1 :: (textRow x.1++kindRow x.2++listRow (numbersOf (letNames p) (mentions [] e))++listRow (numbersOf (fG p) (Vaprbb.calls [] e))):=by
 unfold Vaprbb.letsAnswer index;rw [ah #[by omega,by omega]];simp only [oY];rw [h1,h2];rfl
def B9 {i:Int} (h:¬(0<=i/\i < (p.funs.length:Int))):encode (funsAnswer p i)= [-2]:=by
 unfold Vaprbb.funsAnswer index;rw [ae h];rfl
def G1 {k:Nat} (h1:p.funs[k]? = some f):encode (funsAnswer p (k:Int))=1 :: (textRow f.name.name++((f.params.length:Int) :: f.params.flatMap λd=>textRow d.name.name++kindRow d.kind)++kindRow f.result
 ++listRow (numbersOf (fG p) (Vaprbb.calls [] f.body))++ [if recursive p f.name.name=true then 1 else 0]):=by
 unfold Vaprbb.funsAnswer index;have hk:k < p.funs.length:=(bj.mp h1).1;rw [ah #[by omega,by omega]];simp only [oY,Option.bind_some];rw [h1];rfl
def tN {p:Prog} (g:gd e 0) (h:mZ N1 N2 e):yZ yV "name" N1 e/\yZ yW "call" N2 e:=#[MX g λk hk q n ek=>(h k hk).1 q n ek,MY g λk hk q n x ek=>(h k hk).2 q n x ek]
def DR (h:mZ N1 N2 e):(∀n∈mentions [] e,n∈N1)/\∀n∈Vaprbb.calls [] e,n∈N2:=by
 constructor
 . intro n hn;rw [bJ] at hn;rcases tE hn with h' | ⟨k,hk,ek⟩
   . cases h'
   . cases k with
     | name q m=>cases ek;exact (h _ hk).1 q _ rfl
     | lit q v=>cases v <;> cases ek
     | _=>cases ek
 . intro n hn;rw [cb] at hn;rcases tE hn with h' | ⟨k,hk,ek⟩
   . cases h'
   . cases k with
     | call q m x=>cases ek;exact (h _ hk).2 q _ x rfl
     | lit q v=>cases v <;> cases ek
     | _=>cases ek
def B_ (hz:sz e<=4097):(mentions [] e).length<=4097/\(Vaprbb.calls [] e).length<=4097:=by
 have h1:=tF (sel:=yV) (es:=subs e) (l:= []);have h2:=tF (sel:=yW) (es:=subs e) (l:= []);rw [bJ,cb];rw [ck,fL] at h1 h2;omega
def d8 (k:Kd):(kindRow k).length<=3:=by
 cases k with
 | flag=>decide
 | num lo hi=>exact aw 3
def cn (b:Bytes):(textRow b).length=b.length+1:=by show ((b.length:Int) :: b.map _).length=_;rw [aT,aB]
def fz {l:List Bytes} (h:∀n∈l,n∈cY):listRow (numbersOf cY l)=(((numbersOf cY l).map λ(n:Nat)=>(n:Int)).length:Int) :: (numbersOf cY l).map λ(n:Nat)=>(n:Int):=by
 rw [aB];rfl
def e9 {l:List Bytes} (h:∀n∈l,n∈cY):((numbersOf cY l).map λ(n:Nat)=>(n:Int)).length=l.length:=by rw [aB,mx h,aB]
def HU:SP:=λK c vs H Q _=> ∃v p En,vs= [v]/\Ch K c H v p En/\Wp p En/\gL H Q ((p.points.length:Int) :: p.points.flatMap λx=> [(x.1:Int),(x.2:Int)])
def HW:AA.h0 27 "points" ["loaded"] HU:=by
 nomatch ["loaded","found","answer","point"]
 obtain ⟨v,p,En,rfl,hL,hW,q⟩:=h;nomatch 2,1,BU,2,aM aJ,bE,3,cJ dA,cv fh,0
 have iW:=gI;obtain ⟨a,dx,pv,kd,fb,pb,ln,fm,cl,zN,rfl,ha,h1,h2,h3,h4,h5,h6,h7,h8⟩:=id hL;have gQ:=zi p;have hsh:=hW.sh;exists _,U,fr ha U #[pv,p,U,h1,hW.gp,λl ws H1 nl s1 hw hA=>?_];have hl:=hA.len;exists _,U,l,ws,U,.inl (cz.of hw),jJ,λD hD=>?_;have s2:=aq.upd (o:= .lst [V.int (ws.length:Nat)]) hD;have Yp:l≠D:=λz=>by rw [z,hD] at hw;cases hw
 have Ea:=same_none s1 hD;exists _,U,l,U,#[ws,cz.of (s2 _ _ hw)],cE (K:=K) (a:=l) (xs:=ws) (λi σ H'=> ∃v3:Option V,σ= [some (.ref a),some (.ref l),some (.ref D),v3]/\aq H1 H'/\H' D=some (.lst (zV ((p.points.length:Int) :: (p.points.take i).flatMap λx=> [(x.1:Int),(x.2:Int)]))))
  #[none,rfl,s2,by rw [aa,hl];rfl] (λi σ H' _ #[_,_,s,_]=>cz.of (s _ _ hw)) ?_ ?_
 . rintro i x σ H' hi ⟨v3,rfl,s,lz⟩;obtain ⟨pt,RY,ax,rfl,hax⟩:=hA.get hi;have hil:i < ws.length:=(bj.mp hi).1;have ht:(p.points.take (i+1)).flatMap (λx=> [(x.1:Int),(x.2:Int)])=(p.points.take i).flatMap (λx=> [(x.1:Int),(x.2:Int)])++ [(pt.1:Int),(pt.2:Int)]:=by
    obtain ⟨hl',e'⟩:=bj.mp RY;rw [ef hl',dC,e'];rfl
   have hfl:((p.points.take i).flatMap λx=> [(x.1:Int),(x.2:Int)]).length<=2 * i:=by
    rw [uh];have:∀l:List (Nat×Nat),(l.map λx=> [(x.1:Int),(x.2:Int)].length).sum=2 * l.length:=λl=>by
     induction l with
     | nil=>rfl
     | cons y l ih=>rw [bI,kU,ih];show 2+2 * l.length=2 * (l.length+1);omega
    rw [this,hJ];exact Nat.mul_le_mul_left 2 (Nat.min_le_left _ _)
   exists _,U,mR lz,_,U,ax,_,U,.inr (.inl (.inl (s _ _ hax))),λL hL'=>?_;have sL:=aq.upd (o:= .lst [.int (pt.1:Nat),.int (pt.2:Nat)]) hL';exists D,L,_,_,U,U,sL _ _ lz,aa,?_,?_
   . rw [cB,aT];show _+2<=sizeLine;omega
   . exists _,U,(s.trans sL).bM hD,?_;rw [aa,ht,<-kK,c4];rfl
 . rintro σ H' ⟨v3,rfl,s,lz⟩;rw [hl,cM] at lz;exists _,U,q D H' Ea (s1.trans s) lz
def M_:SP:=λK c vs H Q _=> ∃v p En,∃i:Int,vs= [v,.int i]/\Ch K c H v p En/\Wp p En/\gL H Q (encode (letsAnswer p i))
def M':AA.h0 28 "lets" ["loaded","number"] M_:=by
 nomatch ["loaded","number","name","expression","answer"]
 obtain ⟨v,p,En,i,rfl,hL,hW,q⟩:=h;nomatch 2,eS,IL,aM aJ,T.u0,2,bR,3,bR,yE,4,cJ dA,iM,cJ dA,cv fh,g6 (ca (pv 0)) (pv 2),cJ dA,fX,wU,cJ dA,fX,tH,0
 have iW:=gI;obtain ⟨a,dx,pv,kd,fb,pb,ln,fm,cl,zN,rfl,ha,h1,h2,h3,h4,h5,h6,h7,h8⟩:=id hL;have hnames:=pV hW.ev;have DS:=oQ hW.ev;have hlen:(letNames p).length=p.lets.length:=by rw [DS,<-hnames,aB]
 exists _,U,_,_,U,U,_,U,bG (λe1=>bD U ?_) λe1=>?_
 . have e1:i < 0:=by simpa using e1
   rw [B8 (by omega)] at q;exists jJ,λD hD=>gL.lit q hD
 have e1:¬i < 0:=by simpa using e1
 exists _,U,_,U,fr ha U #[ln,_,U,.inl h5.sq,_,_,U,U,_,U,bG (λe2=>?_) λe2=>?_]
 . have e2:i>=(((lQ (letNames p)).length:Nat):Int):=by simpa using e2
   rw [gW,hlen] at e2;rw [B8 (by omega)] at q;exists jJ,λD hD=>gL.lit q hD
 have e2:¬i>=(((lQ (letNames p)).length:Nat):Int):=by simpa using e2
 rw [gW,hlen] at e2;obtain ⟨k,rfl⟩:∃k:Nat,i=(k:Int):=#[i.toNat,by omega];have hk:k < p.lets.length:=by omega
 obtain ⟨x,hx⟩:∃x,p.lets[k]? = some x:=#[_,bB hk];have Iq:En[k]? = some x:=by rw [<-DS];exact hx
 have mE:(letNames p)[k]? = some x.1:=by rw [<-hnames,bz,Iq];rfl
 have hkind:Vaprbb.Env.kind En x.1=some x.2:=HS (by rw [hnames];exact KU hW.nr) Iq;have hfl:(p.stms.filter isLet).length=p.lets.length:=by rw [<-hlen,dm,aB]
 obtain ⟨st,fU⟩:∃st,(p.stms.filter isLet)[k]? = some st:=#[_,bB (by omega)];have hle:letExpr p k=some (exprOf st):=by rw [zh,bz,fU];rfl
 have HX:=hX.mp (bc fU);have bQ:=(rG hW.nr).sb st HX.1;have hgs:=hW.gp.st st HX.1;rw [G0 hk hx hle] at q;cases st with
 | observe e=>exact Bool.noConfusion (show false=true from HX.2)
 | lets nn o e=>
  have gx:GX e:=hgs.2.2;have bQ:mZ (letNames p) (fG p) e:=bQ;have q:gL H Q (1 :: (textRow x.1++kindRow x.2++listRow (numbersOf (letNames p) (mentions [] e))++listRow (numbersOf (fG p) (Vaprbb.calls [] e)))):=q;obtain ⟨hm1,hm2⟩:=DR bQ;obtain ⟨hs1,hs2⟩:=tN (p:=p) gx.1 bQ;obtain ⟨hz1,hz2⟩:=B_ gx.2.2;have U4:x.1.length<=16:=by
   have hm:x.1∈letNames p:=bc mE;rw [dm] at hm;obtain ⟨s',hs',e'⟩:=cj.mp hm;have hs':=hX.mp hs';have:=hW.gp.st s' hs'.1;cases s' with
   | observe e=>exact Bool.noConfusion (show false=true from hs'.2)
   | lets n2 k2 e2=>rw [<-e'];exact this.1
  exists _,U,fr ha U #[_,U,ln,_,k,_,U,U,h5.sq,dz (BO mE),?_];exists _,U,fr ha U #[pv,p,U,h1,hW.gp.sl,λla ws H1 s1 fl hA=>?_];have hA:A2 (D_ K c H1) ws (p.stms.filter isLet):=hA;obtain ⟨Yq,U5,hxs⟩:=hA.get' fU;obtain ⟨as,Yr,wv,ev,rfl,has,hwr,hev⟩:=hxs;exists _,U,la,ws,k,_,U,U,fl.sq,dz U5,fr has U ?_;exists jJ,λD hD=>?_;have u1:=aq.upd (o:= .lst (zV [1])) hD;have Ea:=same_none s1 hD;exists _,U,mR aa,_,U,x.1,U,by omega,λp1 H2 n2 s2 hp1=>?_;have eN:=s2 _ _ (aa (H:=H1) (a:=D) (o:= .lst (zV [1])));exists D,p1,zV [1],_,U,U,eN,hp1,by rw [cB,cB,cn,aC];omega,?_;have u2:aq H1 (upd H2 D (.lst (zV [1]++zV (textRow x.1)))):=(u1.trans s2).bM hD;rw [<-c4] at u2 ⊢;have lP:(upd H2 D (.lst (zV ([1]++textRow x.1)))) D=some (.lst (zV ([1]++textRow x.1))):=aa;revert u2 lP;generalize (upd H2 D (.lst (zV ([1]++textRow x.1))))=H3;intro u2 lP;have t2:=s1.trans u2;obtain ⟨aG,XH,rel⟩:=h2.Y (c:=c) t2.Y;have r1:=rel x.1;rw [hkind] at r1;cases hv2:cy aG (nk x.1) with
  | none=>rw [hv2] at r1;exact r1.elim
  | some vv=>
   rw [hv2] at r1;obtain ⟨ak,rfl,hak⟩:=r1;exists _,U,mR lP,_,U,fr (t2 _ _ ha) U #[_,U,kd,_,U,hv2 ▸ XH.rd.get x.1,ak,_,U,.inr hak,λL hL'=>?_];have sL:=aq.upd (o:= .lst (kT x.2)) hL';have hkl:=d8 x.2;exists D,L,_,_,U,U,sL _ _ lP,aa,by rw [cB,DN,cB,ao,cn,aC];omega,?_;have u3:=(u2.trans sL).bM (o:= .lst (zV ([1]++textRow x.1)++kT x.2)) hD;have m4:(upd (upd H3 L (.lst (kT x.2))) D (.lst (zV ([1]++textRow x.1)++kT x.2))) D=some (.lst (zV ([1]++textRow x.1++kindRow x.2))):=by rw [aa,DN,<-c4]
   revert u3 m4;generalize (upd (upd H3 L (.lst (kT x.2))) D (.lst (zV ([1]++textRow x.1)++kT x.2)))=H4;intro u3 m4;have t3:=s1.trans u3;exists _,U,mR m4,_,U,_,U,fr (t3 _ _ ha) U #[ev,e,ln,letNames p,U,gx,hev.Y C u3.Y,h5.app t3,hs1,?_,λp2 H5 n5 s5 hp2=>?_]
   . have:=gG p;have:=hW.gp.sl;omega
   rw [GZ hm1] at hp2;have XI:=e9 hm1;have U6:=e9 hm2;exists p2,_,U,.inl hp2,by omega,λp3 H6 n6 s6 hp3=>?_;rw [<-fz hm1] at hp3;have U7:(listRow (numbersOf (letNames p) (mentions [] e))).length=(mentions [] e).length+1:=by rw [fz hm1,aT,XI]
   have QB:(listRow (numbersOf (fG p) (Vaprbb.calls [] e))).length=(Vaprbb.calls [] e).length+1:=by rw [fz hm2,aT,U6]
   have QC:=s6 _ _ (s5 _ _ m4);exists D,p3,_,_,U,U,QC,hp3,by rw [cB,cB,U7,ao,ao,cn,aC];omega,?_;have u4:=(u3.trans (s5.trans s6)).bM (o:= .lst (zV ([1]++textRow x.1++kindRow x.2)++zV (listRow (numbersOf (letNames p) (mentions [] e))))) hD;have Nb:(upd H6 D (.lst (zV ([1]++textRow x.1++kindRow x.2)++zV (listRow (numbersOf (letNames p) (mentions [] e)))))) D=some (.lst (zV ([1]++textRow x.1++kindRow x.2++listRow (numbersOf (letNames p) (mentions [] e))))):=by rw [aa,<-c4]
   revert u4 Nb;generalize (upd H6 D (.lst (zV ([1]++textRow x.1++kindRow x.2)++zV (listRow (numbersOf (letNames p) (mentions [] e))))))=H7;intro u4 Nb;have t4:=s1.trans u4;exists _,U,mR Nb,_,U,_,U,fr (t4 _ _ ha) U #[ev,e,fm,fG p,U,gx,hev.Y C u4.Y,h6.app t4,hs2,?_,λp4 H8 s8 Qu=>?_]
   . rw [aB];have:=hW.gp.fl;omega
   rw [GZ hm2] at Qu;obtain ⟨o4,Qu⟩:=Qu;exists p4,_,U,.inr #[o4,Qu],by omega,λp5 H9 n9 s9 MB=>?_;rw [<-fz hm2] at MB;have Te:=s9 _ _ (s8 _ _ Nb);exists D,p5,_,_,U,U,Te,MB,by rw [cB,cB,QB,ao,ao,ao,U7,cn,aC];omega,?_;exists _,U,q D _ Ea ((t4.trans (s8.trans s9)).bM Ea) ?_;rw [aa,<-c4];simp only [bw,kK,kP]
def dj (d:Decl):List Int:=textRow d.name.name++kindRow d.kind
def oR {l:List Decl} (h:∀d∈l,rN d.name.name/\kn d.kind):(l.flatMap dj).length<=20 * l.length:=by
 induction l with
 | nil=>exact aw _
 | cons d l ih=>
  have h1:=ih λx hx=>h x (aW _ hx);have h2:d.name.name.length<=16:=(h d bi).1;have h3:=d8 d.kind;have h4:(dj d).length<=20:=by
   unfold dj;rw [ao,cn];omega
  rw [dR,ao,aT];omega
def HY {l:List α} {x:α} {f:α->List Int} (h:l[i]? = some x):(l.take (i+1)).flatMap f=(l.take i).flatMap f++f x:=by
 obtain ⟨hi,e⟩:=bj.mp h;rw [ef hi,dC,e];simp
def DT (p:Prog) (En:mY) (b:Bytes):Except Fault Kd:=VaprbBase.tokens b >>= λl=>(takeExpr 24 l >>= λx=>(if next .halt_ x.2=false then wrong x.2 else .ok ()) >>= λ_=> .ok x.1) >>= λe=>named p (letNames p) e >>= λ_=>kindOf p En e
def R7 {d:Addr} (he:p.env= .ok En) (h:MU K H d En):PN H d (letNames p):=by
 obtain ⟨aG,f,r⟩:=h;exists aG,f.rd,λn=>?_;rw [AQ he];have:=r n;cases h1:Vaprbb.Env.kind En n with
 | none=>rw [h1] at this;cases h2:cy aG (nk n) with | none=>rfl | some v=>rw [h2] at this;exact this.elim
 | some k=>rw [h1] at this;cases h2:cy aG (nk n) with | none=>rw [h2] at this;exact this.elim | some v=>rfl
def Nc:SP:=λK c vs H Q _=> ∃v p En,∃i:Int,vs= [v,.int i]/\Ch K c H v p En/\Wp p En/\gL H Q (encode (funsAnswer p i))
def Nf:AA.h0 3 "funs" ["loaded","number"] Nc:=by
 nomatch ["loaded","number","function","answer","parameter"]
 obtain ⟨v,p,En,i,rfl,hL,hW,q⟩:=h;nomatch 2,eS,IL,aM aJ,T.u0,2,bR,3,cJ dA,iM,cJ bN,aM aJ,bE,4,cJ dA,iM,cJ dA,cv fh,cJ dA,cv fh,cJ dA,fX,bR,cJ bN,wW,0
 have iW:=gI;obtain ⟨a,dx,pv,kd,fb,pb,ln,fm,cl,zN,rfl,ha,h1,h2,h3,h4,h5,h6,h7,h8⟩:=id hL;have hlen:(lQ (fG p)).length=p.funs.length:=by rw [gW,aB]
 exists _,U,_,_,U,U,_,U,bG (λe1=>bD U ?_) λe1=>?_
 . have e1:i < 0:=by simpa using e1
   rw [B9 (by omega)] at q;exists jJ,λD hD=>gL.lit q hD
 have e1:¬i < 0:=by simpa using e1
 exists _,U,_,U,fr ha U #[fm,_,U,.inl h6.sq,_,_,U,U,_,U,bG (λe2=>?_) λe2=>?_]
 . have e2:i>=(((lQ (fG p)).length:Nat):Int):=by simpa using e2
   rw [hlen] at e2;rw [B9 (by omega)] at q;exists jJ,λD hD=>gL.lit q hD
 have e2:¬i>=(((lQ (fG p)).length:Nat):Int):=by simpa using e2
 rw [hlen] at e2;obtain ⟨k,rfl⟩:∃k:Nat,i=(k:Int):=#[i.toNat,by omega];have hk:k < p.funs.length:=by omega
 obtain ⟨f',hf⟩:∃x,p.funs[k]? = some x:=#[_,bB hk];have hfm:=bc hf;have hG:=hW.gp.fn f' hfm;rw [G1 hf] at q;obtain ⟨b,db,fl,sl,tl,fs,ss,ts,rfl,hb,f1,A1,f2,zF,f3,A3⟩:=id h1;obtain ⟨vf,XJ,XM⟩:=A1.get' hf;obtain ⟨af,df,pl,kv,bv,ps,rfl,haf,fp,PQ,⟨ak,rfl,hak⟩,hbv⟩:=id XM;have lp:=PQ.len;have h4':=hG.pl;have U4:f'.name.name.length<=16:=hG.nm;exists _,U,fr ha U (fr hb U #[_,U,fl,fs,k,_,U,U,f1.sq,dz XJ,?_]);exists jJ,λD hD=>?_;have u1:=aq.upd (o:= .lst (zV [1])) hD;exists _,U,mR aa,_,U,fr (u1 _ _ haf) U #[f'.name.name,U,by omega,λp1 H2 n2 s2 hp1=>?_];have eN:=s2 _ _ (aa (H:=H) (a:=D) (o:= .lst (zV [1])));exists D,p1,zV [1],_,U,U,eN,hp1,by rw [cB,cB,cn,aC];omega,?_;have u2:aq H (upd H2 D (.lst (zV [1]++zV (textRow f'.name.name)))):=(u1.trans s2).bM hD;have lP:(upd H2 D (.lst (zV [1]++zV (textRow f'.name.name)))) D=some (.lst (zV ([1]++textRow f'.name.name))):=by rw [aa,<-c4]
 revert u2 lP;generalize (upd H2 D (.lst (zV [1]++zV (textRow f'.name.name))))=H3;intro u2 lP;exists _,U,mR lP,_,U,fr (u2 _ _ haf) U #[pl,ps,U,.inl (fp.app u2).sq,D,_,_,U,U,lP,by rw [cB,ao,cn,aC];omega,?_];have u3:aq H (upd H3 D (.lst (zV ([1]++textRow f'.name.name)++ [V.int (ps.length:Nat)]))):=u2.bM hD;have m4:(upd H3 D (.lst (zV ([1]++textRow f'.name.name)++ [V.int (ps.length:Nat)]))) D=some (.lst (zV ([1]++textRow f'.name.name++ [(f'.params.length:Int)]++(f'.params.take 0).flatMap dj))):=by
  rw [aa,lp,kR,uC,bH,c4 _ [(f'.params.length:Int)]];rfl
 revert u3 m4;generalize (upd H3 D (.lst (zV ([1]++textRow f'.name.name)++ [V.int (ps.length:Nat)])))=H4;intro u3 m4;exists _,U,fr (u3 _ _ haf) U ⟨pl,U,#[ps,(fp.app u3).sq],cE (K:=K) (a:=pl) (xs:=ps) (λj σ H'=> ∃v4:Option V,σ= [some (.ref a),some (.int (k:Nat)),some (.ref af),some (.ref D),v4]/\aq H H'/\H' D=some (.lst (zV ([1]++textRow f'.name.name++ [(f'.params.length:Int)]++(f'.params.take j).flatMap dj))))
  #[none,rfl,u3,m4] (λi σ H' _ #[_,_,s,_]=>(fp.app s).sq) ?_ ?_⟩
 . rintro j y σ H' hj ⟨v4,rfl,s,lz⟩;obtain ⟨d,hd,hy⟩:=PQ.get hj;have hdm:=bc hd;obtain ⟨ap,dp,UR,rfl,hap,⟨XN,rfl,U8⟩⟩:=id hy;obtain ⟨wn,wk⟩:=hG.pw d hdm;have wn:d.name.name.length<=16:=wn;have hjl:j < ps.length:=(bj.mp hj).1;have R8:=oR (l:=f'.params.take j) λx hx=>hG.pw x (List.mem_of_mem_take hx);have htl:(f'.params.take j).length<=4:=by rw [hJ];omega
   have hrl:([1]++textRow f'.name.name++ [(f'.params.length:Int)]++(f'.params.take j).flatMap dj).length<=200:=by
    rw [ao,ao,ao,cn,aC,aC];omega
   exists _,U,mR lz,_,U,fr (s _ _ hap) U #[d.name.name,U,by omega,λp1 H5 n5 s5 hp1=>?_];exists D,p1,_,_,U,U,s5 _ _ lz,hp1,by rw [cB,cB,cn];omega,?_;have u5:=(s.trans s5).bM (o:= .lst (zV ([1]++textRow f'.name.name++ [(f'.params.length:Int)]++(f'.params.take j).flatMap dj)++zV (textRow d.name.name))) hD;have Iu:(upd H5 D (.lst (zV ([1]++textRow f'.name.name++ [(f'.params.length:Int)]++(f'.params.take j).flatMap dj)++zV (textRow d.name.name)))) D=some (.lst (zV ([1]++textRow f'.name.name++ [(f'.params.length:Int)]++(f'.params.take j).flatMap dj++textRow d.name.name))):=by rw [aa,<-c4]
   revert u5 Iu;generalize (upd H5 D (.lst (zV ([1]++textRow f'.name.name++ [(f'.params.length:Int)]++(f'.params.take j).flatMap dj)++zV (textRow d.name.name))))=H6;intro u5 Iu;exists _,U,mR Iu,_,U,fr (u5 _ _ hap) U #[XN,_,U,.inr (gS.Y (c:=c) U8 u5.Y),λL hL'=>?_];have sL:=aq.upd (o:= .lst (kT d.kind)) hL';have hkl:=d8 d.kind;exists D,L,_,_,U,U,sL _ _ Iu,aa,by rw [cB,DN,cB,ao,cn];omega,?_;exists _,U,(u5.trans sL).bM hD,?_;rw [aa,DN,<-c4,HY hd];unfold dj;simp only [bw]
 . rintro σ H5 ⟨v4,rfl,u5,Iu⟩;rw [lp,cM] at Iu;have R8:=oR hG.pw;have hrl:([1]++textRow f'.name.name++ [(f'.params.length:Int)]++f'.params.flatMap dj).length<=200:=by
    rw [ao,ao,ao,cn,aC,aC];omega
   exists _,U,mR Iu,_,U,fr (u5 _ _ haf) U #[ak,_,U,.inr (gS.Y (c:=c) hak u5.Y),λL hL'=>?_];have sL:=aq.upd (o:= .lst (kT f'.result)) hL';have hkl:=d8 f'.result;exists D,L,_,_,U,U,sL _ _ Iu,aa,by rw [cB,DN,cB];omega,?_;have u6:=(u5.trans sL).bM (o:= .lst (zV ([1]++textRow f'.name.name++ [(f'.params.length:Int)]++f'.params.flatMap dj)++kT f'.result)) hD;have QC:(upd (upd H5 L (.lst (kT f'.result))) D (.lst (zV ([1]++textRow f'.name.name++ [(f'.params.length:Int)]++f'.params.flatMap dj)++kT f'.result))) D=some (.lst (zV ([1]++textRow f'.name.name++ [(f'.params.length:Int)]++f'.params.flatMap dj++kindRow f'.result))):=by rw [aa,DN,<-c4]
   revert u6 QC;generalize (upd (upd H5 L (.lst (kT f'.result))) D (.lst (zV ([1]++textRow f'.name.name++ [(f'.params.length:Int)]++f'.params.flatMap dj)++kT f'.result)))=H6;intro u6 QC;obtain ⟨vc,XO,ac,rfl,fc⟩:=h8.get' hf;have hcm:=zg hW.nr f' hfm;have hz2:=(B_ hG.bd.2.2).2;have U6:=e9 hcm;rw [GZ hcm] at fc;obtain ⟨oc,hoc⟩:=fc.app u6;have QB:(listRow (numbersOf (fG p) (Vaprbb.calls [] f'.body))).length=(Vaprbb.calls [] f'.body).length+1:=by rw [fz hcm,aT,U6]
   exists _,U,mR QC,_,U,fr (u6 _ _ ha) U #[_,U,cl,zN,k,_,U,U,(h7.app u6).sq,dz XO,ac,_,U,.inr #[oc,hoc],by omega,λp5 H7 n7 s7 MB=>?_];rw [<-fz hcm] at MB;exists D,p5,_,_,U,U,s7 _ _ QC,MB,by rw [cB,cB,QB,ao];omega,?_;have u7:=(u6.trans s7).bM (o:= .lst (zV ([1]++textRow f'.name.name++ [(f'.params.length:Int)]++f'.params.flatMap dj++kindRow f'.result)++zV (listRow (numbersOf (fG p) (Vaprbb.calls [] f'.body))))) hD;have Nb:(upd H7 D (.lst (zV ([1]++textRow f'.name.name++ [(f'.params.length:Int)]++f'.params.flatMap dj++kindRow f'.result)++zV (listRow (numbersOf (fG p) (Vaprbb.calls [] f'.body)))))) D=some (.lst (zV ([1]++textRow f'.name.name++ [(f'.params.length:Int)]++f'.params.flatMap dj++kindRow f'.result++listRow (numbersOf (fG p) (Vaprbb.calls [] f'.body))))):=by rw [aa,<-c4]
   revert u7 Nb;generalize (upd H7 D (.lst (zV ([1]++textRow f'.name.name++ [(f'.params.length:Int)]++f'.params.flatMap dj++kindRow f'.result)++zV (listRow (numbersOf (fG p) (Vaprbb.calls [] f'.body))))))=H8;intro u7 Nb;exists _,U,mR Nb,_,U,_,U,fr (u7 _ _ ha) U #[k,cl,zN,p,f',U,h7.app u7,h8.mono λ_ _ z=>z.Y (c:=c) u7.Y,hf,KW hW.nr,zg hW.nr,hW.gp.fl,λH9 s9=>?_];have Te:=s9 _ _ Nb;have hsz:(zV ([1]++textRow f'.name.name++ [(f'.params.length:Int)]++f'.params.flatMap dj++kindRow f'.result++listRow (numbersOf (fG p) (Vaprbb.calls [] f'.body)))).length < sizeLine:=by
    rw [cB,ao,QB,ao];omega
   have fin:∀z:Int,z=(if recursive p f'.name.name=true then 1 else 0)->Q (.ref D) (upd H9 D (.lst (zV ([1]++textRow f'.name.name++ [(f'.params.length:Int)]++f'.params.flatMap dj++kindRow f'.result++listRow (numbersOf (fG p) (Vaprbb.calls [] f'.body)))++ [V.int z]))):=λz hz=>by
    refine q D _ hD ((u7.trans s9).bM hD) ?_;rw [aa,hz];have: [V.int (if recursive p f'.name.name=true then 1 else 0)]=zV [if recursive p f'.name.name=true then 1 else 0]:=rfl;rw [this,<-c4];have e3:f'.params.flatMap dj=f'.params.flatMap λd=>textRow d.name.name++kindRow d.kind:=rfl;rw [e3];simp only [bw,kK,kP]
   exists _,U,bG (λe3=>?_) λe3=>?_
   . exists D,_,_,U,U,Te,hsz,_,U,fin 1 (by rw [ah e3])
   . exists D,_,_,U,U,Te,hsz,_,U,fin 0 (by rw [ae (by rw [e3];exact aO)])
def _root_.L2.mD {T:Hp->Prop} (H:Hp) (k:∀H1,H1=H->T H1):T H:=k H rfl
def _root_.L2.rK {x:Addr}:Sb x H (upd H x o):=Sb.Pn Sb.refl
def rL:SP:=λK c vs H Q _=> ∃x dx HZ kd fb p En H0,vs= [.ref x,HZ,.ref kd,.ref fb]/\H x=some (.ins c.ld dx [])/\H0 x=none/\aq H0 H/\D' K c H0 HZ p/\GP p/\namesRight p= .ok ()/\MU K H0 kd En/\FL H0 fb (txt p.shown)/\∀H',aq H0 H'->Ch K c H' (.ref x) p En->Q .cp H'
def rM:AA.c0 52 c.ld "Loaded" ["self","program","let_kinds","form_bytes"] rL:=by
 refine AA.i0 AA.j2 (N:= ["self","program","let_kinds","form_bytes","function"]) λT C FT H Q E nN hr h=>?_;obtain ⟨x,dx,HZ,kd,fb,p,En,H0,rfl,hx,nx,s0,hP,hG,hnr,hkd,XQ,k⟩:=h;nomatch 2,wx,rp,mz,gH,0,ie (bE (ca (pv 1))) [("function",4)] (λ_ _ _ _ _=>(bL 4)) (λ_ _ _ _ _=>(dv (tH AA) (aI (fk (K:=K) rfl (pv 4) rfl) (pU (fk (K:=K) rfl (pv 0) rfl)))))
 have iW:=gI;have hM:=rG hnr;have mE:(letNames p).length<=4097:=by have:=gG p;have:=hG.sl;omega
 have hfn:(fG p).length<=4097:=by rw [aB];have:=hG.fl;omega
 exists _,U,_,U,fw hx ?_;exists _,U,_,U,fw aa ?_;exists _,U,_,U,fw aa ?_;refine mD _ λH1 eH=>?_;have s1:aq H0 H1:=by rw [eH];exact ((s0.bM nx).bM nx).bM nx
 have hx1:H1 x=some (.ins c.ld dx [("program",HZ),("let_kinds",.ref kd),("form_bytes",.ref fb)]):=by rw [eH];exact aa
 clear eH;exists _,U,_,U,HZ,p,U,hP.Y C s1.Y,hG,KU hnr,KW hnr,P' hnr,λan H2 s2 hN=>?_;have t2:=s1.trans s2;exists HZ,.ref an,p,[80],_,_,_,U,hP.Y C t2.Y,hN,hG,hM,(by show 1<=16;decide),#[λn _=>B4 mE n,λn _=>B4 hfn n],λf hf=>#[λn _=>B4 (by rw [aB];have:=(hG.fn f hf).pl;omega) n,λn _=>B4 hfn n],λpb H3 n3 s3 V2=>?_;rw [<-AI] at V2;have t3:=t2.trans s3;have NM:=s3 _ _ (s2 _ _ hx1);exists _,U,fw NM ?_;refine mD _ λH4 eH=>?_;have t4:aq H0 H4:=by rw [eH];exact t3.bM nx
 have Up:H4 x=some (.ins c.ld dx [("program",HZ),("let_kinds",.ref kd),("form_bytes",.ref fb),("plain_bytes",.ref pb)]):=by rw [eH];exact aa
 have U9:FL H4 pb (txt p.plain.shown):=by rw [eH];exact V2.sb NM rK
 clear eH;exists _,U,HZ,p,U,hP.Y C t4.Y,hG.sl,λla H5 n5 s5 fla=>?_;have RJ:=s5 _ _ Up;exists _,U,fw RJ ?_;refine mD _ λH6 eH=>?_;have t6:aq H0 H6:=by rw [eH];exact (t4.trans s5).bM nx
 have XR:H6 x=some (.ins c.ld dx [("program",HZ),("let_kinds",.ref kd),("form_bytes",.ref fb),("plain_bytes",.ref pb),("let_names",.ref la)]):=by rw [eH];exact aa
 have U_:FL H6 pb (txt p.plain.shown):=by rw [eH];exact (U9.app s5).sb RJ rK
 have U':FL H6 la (lQ (letNames p)):=by rw [eH];exact fla.sb RJ rK
 clear eH;exists _,U,HZ,p,U,hP.Y C t6.Y,hG.fl,λfm H7 n7 s7 XS=>?_;have Tf:=s7 _ _ XR;exists _,U,fw Tf ?_;refine mD _ λH8 eH=>?_;have t8:aq H0 H8:=by rw [eH];exact (t6.trans s7).bM nx
 have V3:H8 x=some (.ins c.ld dx [("program",HZ),("let_kinds",.ref kd),("form_bytes",.ref fb),("plain_bytes",.ref pb),("let_names",.ref la),("function_names",.ref fm)]):=by rw [eH];exact aa
 have Va:FL H8 pb (txt p.plain.shown):=by rw [eH];exact (U_.app s7).sb Tf rK
 have Vb:FL H8 la (lQ (letNames p)):=by rw [eH];exact (U'.app s7).sb Tf rK
 have R9:FL H8 fm (lQ (fG p)):=by rw [eH];exact XS.sb Tf rK
 clear eH;obtain ⟨b,db,fl,sl,tl,fs,ss,ts,rfl,hb,f1,A1,f2,zF,f3,A3⟩:=hP.Y C t8.Y;have l1:=A1.len;have hfl:=hG.fl;exists _,U,fr hb U #[fl,U,#[fs,f1.sq],λD hD=>?_];refine qR (c:=c) (K:=K) (a:=fl) (xs:=fs) (λi y H'=> ∃f,p.funs[i]? = some f/\Qz (fG p) H' y f) (λi y _ _ im #[m,e,z]=>#[m,e,z.Y im]) hD f1.sq (by omega) (λi y H9 R hy s9 kk=>?_) λH9 ys s9 hy hl9 hr=>?_
 . obtain ⟨f',hf,hxs⟩:=A1.get hy;have hfm:=bc hf;have Ng:=(hG.fn f' hfm).bd;obtain ⟨a',zu,pl,kv,bv,ps,rfl,ha',_,_,_,hbv⟩:=hxs.Y C s9.Y;exists U,_,U,fr ha' U #[_,U,fr (s9 _ _ V3) U #[bv,f'.body,fm,fG p,U,Ng,hbv,R9.app s9,(tN (p:=p) Ng.1 (hM.fb f' hfm)).2,hfn,λpc Hc sc fc=>kk _ _ sc #[f',hf,pc,U,fc]]]
 . exists D,_,U,hy,au,λo=>?_;have Ea:=same_none t8 hD;have Tg:=s9 _ _ V3;have V4:x≠D:=λz=>by rw [z,hy] at Tg;cases Tg
   have dJ:bX c H9 (upd H9 D (.gR o (.lst ys))):=bX.upd hy rfl;exists _,U,fw ((aA V4).trans Tg) ?_;refine mD _ λQm eH=>?_;have R_:Sb x (upd H9 D (.gR o (.lst ys))) Qm:=by rw [eH];exact rK
   have Sa:(upd H9 D (.gR o (.lst ys))) x=some (.ins c.ld dx [("program",.ref b),("let_kinds",.ref kd),("form_bytes",.ref fb),("plain_bytes",.ref pb),("let_names",.ref la),("function_names",.ref fm)]):=(aA V4).trans Tg;have Th:aq H0 Qm:=by rw [eH];exact ((t8.trans s9).bM Ea).bM nx
   have Vc:Qm x=some (.ins c.ld dx [("program",.ref b),("let_kinds",.ref kd),("form_bytes",.ref fb),("plain_bytes",.ref pb),("let_names",.ref la),("function_names",.ref fm),("called",.ref D)]):=by rw [eH];exact aa
   refine k Qm Th #[x,dx,.ref b,kd,fb,pb,la,fm,D,ys,rfl,Vc,hP.Y C Th.Y,hkd.Y (c:=c) Th.Y,XQ.app Th,((Va.app s9).mono dJ).sb Sa R_,((Vb.app s9).mono dJ).sb Sa R_,((R9.app s9).mono dJ).sb Sa R_,FL.sb #[o,aa] Sa R_,?_];exact A2.of_get (by rw [hl9,l1]) λi y e=>by
    obtain ⟨f',hf,z⟩:=hr i y e;obtain ⟨ac,rfl,XT⟩:=z.Y dJ;exists f',hf,ac,U,XT.sb Sa R_
def DU {p:Addr} {l:VaprbBase.Toks} (h:Bo c H p l):l.length<=4097:=by
 obtain ⟨vs,_,a,z⟩:=h;rw [<-a.len];exact z
def V5 (K:Frag) (c:Cl) (H:Hp) (Q:VK):Prog->Prop:=λp=> ∀a H' En,H a=none->aq H H'->Ch K c H' (.ref a) p En->Wp p En->Q (.ref a) H'
def zk:SP:=λK c vs H Q E=> ∃ta b,vs= [.ref ta]/\cz K H ta (txt b)/\aN c.cf E H (Vaprbb.read b) (V5 K c H Q)
def gK:AA.hF 108 "loaded_from" ["text"] zk:=by
 nomatch ["text","program","let_kinds","form_bytes"]
 obtain ⟨ta,b,rfl,ht,q⟩:=h;nomatch 2,1,wO,sK,yI,2,yU,3,wx,B3,ic,aM aJ,T.gy,gw (rM AA) ?_
 rw [M9] at q;exists _,U,ta,b,U,ht,aN.step q λl el q tp H1 s1 htp=>?_;have tl:=yf el;exists tp,l,U,htp,tl,aN.step (aN.on q s1) λp ep q a H2 s2 hP=>?_;have hG:=Fa ep tl (DU htp);exists _,U,.ref a,p,U,hP,hG,aN.step (aN.on q s2) λu eu q H3 s3=>?_;have hnr:namesRight p= .ok ():=eu;have hM:=rG hnr;exists _,U,.ref a,p,letNames p,U,hP.Y C s3.Y,hG,hnr,(oP hnr).2.1,aN.step (aN.on q s3) λEn eE q kd H4 s4 hkd hwf hsc=>?_;have t4:=((s1.trans s2).trans s3).trans s4;have Vd:=hP.Y C (s3.trans s4).Y;exists _,U,_,U,.ref a,p,U,Vd,hG,λan H5 s5 hN=>?_;exists .ref a,.ref an,p,p.title.name,id,id,(λ_=>id),U,Vd.Y C s5.Y,hN,hG,hM,hG.tt,Ob,λ_ _=>Ob,λfb H6 n6 s6 Ve=>?_;rw [M7] at Ve;have t6:=(t4.trans s5).trans s6;exists _,U,fb,_,U,.inl Ve.sq,_,_,U,U,_,U,bG (λe1=>?_) λe1=>?_
 . have e1:(((txt p.shown).length:Nat):Int) > 4096:=by simpa using e1
   rw [cG] at e1;rw [ah (by omega)] at q;exists _,_,U,jo.go q (s4.trans (s5.trans s6))
 . have e1:¬(((txt p.shown).length:Nat):Int) > 4096:=by simpa using e1
   rw [cG] at e1;rw [ae (by omega)] at q;have q:V5 K c H Q p:=q;have V6:=s5.trans s6;exists _,U,_,U,_,U,λx dx nx nd ne=>?_;exists x,dx,.ref a,kd,fb,p,En,H6,U,aa,nx,(aq.upd nd).bM nx,Vd.Y C V6.Y,hG,hnr,hkd.Y (c:=c) V6.Y,Ve,λH' s' hL=>#[U,?_];exact q x H' En (same_none t6 nx) (t6.trans s') hL #[hG,hnr,eE,hwf,by omega]
def wY:SP:=λK c vs H Q E=> ∃v ta b p En,vs= [v,.ref ta]/\Ch K c H v p En/\Wp p En/\cz K H ta (txt b)/\aN c.cf E H (DT p En b) (AD K H Q)
def mP:AA.hF 106 "kind_of_text" ["loaded","text"] wY:=by
 nomatch ["loaded","text","expression","named"]
 obtain ⟨v,ta,b,p,En,rfl,hL,hW,ht,q⟩:=h;nomatch 2,2,lE,sK,3,eX,fE,dv (pS AA 24) ?_
 unfold DT at q;exists _,U,ta,b,U,ht,aN.step q λl el q tp H1 s1 htp=>?_;have tl:=yf el;exists tp,l,U,htp,tl,aN.step (aN.on q s1) λe ee q ea H2 s2 hE=>?_;have Ng:GX e:=by
  let #[x,ex,ee]:=aj ee;let #[_,_,ee]:=aj ee;cases ee;exact (GX.of ex tl (DU htp)).1
 have t2:=s1.trans s2;obtain ⟨a,dx,HZ,kd,fb,pb,ln,fm,cl,zN,rfl,ha,h1,h2,h3,h4,h5,h6,h7,h8⟩:=id (hL.Y C t2.Y);obtain ⟨bb,db,fl,sl,tl',fs,ss,ts,rfl,hb,f1,A1,f2,zF,f3,A3⟩:=id h1;exists _,U,fr ha U (fr hb U #[fl,fs,p.funs,U,f1,A1,hW.gp.fl,λnd H3 s3 hn=>?_]);exists _,U,_,U,fr (s3 _ _ ha) U #[_,U,.ref ea,e,kd,nd,letNames p,p,U,Ng,hE.Y C s3.Y,R7 hW.ev (h2.Y (c:=c) s3.Y),hn,aN.step (aN.on q (s2.trans s3)) λu eu q H4 s4=>?_];have Og:=s3.trans s4;exists _,U,_,U,fr (Og _ _ ha) U #[_,U,.ref ea,e,kd,nd,p,En,U,Ng.1,Ng.2.1,Ng.2.2,hE.Y C Og.Y,(h2.Y (c:=c) Og.Y).d,hn.Y C s4.Y,BJ (AQ hW.ev) eu,hW.wf,?_];exact aN.imp (aN.on q s4) λk _ q ka H5 s5 hka=>q ka H5 ((t2.trans Og).trans s5) hka
def iD (b:Bytes):List PyData:=b.map λx=>PyData.int (x.toNat:Nat)
def K8:∀b:Bytes,PyData.canLayAll0 (iD b)=true
 | []=>by simp only [iD,cO,PyData.canLayAll0]
 | x :: b=>by
  have:=K8 b;show PyData.canLayAll0 (PyData.int (x.toNat:Nat) :: iD b)=true;simp only [PyData.canLayAll0,PyData.canLay0,this,Bool.and_self]
def K9:∀b:Bytes,PyData.depthAll (iD b)=0
 | []=>by simp only [iD,cO,PyData.depthAll]
 | x :: b=>by
  have:=K9 b;show PyData.depthAll (PyData.int (x.toNat:Nat) :: iD b)=0;simp only [PyData.depthAll,PyData.depth,this,Nat.max_self]
def AR (b:Bytes):SeqAt.shaped (.list (iD b))=true:=by
 unfold SeqAt.shaped;simp only [PyData.canLay0,K8,PyData.depth,K9];rfl
def Oj:∀a b:Bytes,PyData.eqvAll (iD a) (iD b)=decide (a=b)
 | [],[]=>by simp only [iD,cO,PyData.eqvAll];rfl
 | [],y :: b=>by
  show PyData.eqvAll [] (PyData.int (y.toNat:Nat) :: iD b)=_;simp [PyData.eqvAll]
 | x :: a,[]=>by
  show PyData.eqvAll (PyData.int (x.toNat:Nat) :: iD a) []=_;simp [PyData.eqvAll]
 | x :: a,y :: b=>by
  have:=Oj a b;show PyData.eqvAll (PyData.int (x.toNat:Nat) :: iD a) (PyData.int (y.toNat:Nat) :: iD b)=_;simp only [PyData.eqvAll,PyData.eqv,this];rw [b9];simp only [c6,bO,dr,List.cons.injEq];constructor
  . rintro ⟨h1,h2⟩;exists et (by omega),h2
  . rintro ⟨rfl,rfl⟩;exists U,U
def K_:∀b:Bytes,xN K H (txt b) (iD b)
 | []=> .nil
 | x :: b=> .cons (.int _) (K_ b)
def La (f:FL H a (txt b)):Dp K H (.ref a) (.list (iD b)):= .lst f.sq (K_ b)
def Ol (h:p.lets=En) (b:Bytes):encode (kindAnswer p b)=match DT p En b with | .error f=> [0,(f.code:Int),(f.place:Int)] | .ok k=>1 :: kindRow k:=by
 subst h;have e:readExpr p b=(VaprbBase.tokens b >>= λl=>(takeExpr 24 l >>= λx=>(if next .halt_ x.2=false then wrong x.2 else .ok ()) >>= λ_=> .ok x.1) >>= λe=>named p (letNames p) e >>= λ_=>kindOf p p.lets e >>= λ_=> .ok e):=by
  unfold readExpr;refine aS λl=>?_;rw [bn];refine aS λx=>?_;show (if next .halt_ x.2=false then _ else _)=_;split <;> rfl
 unfold Vaprbb.kindAnswer;rw [e];unfold DT;cases VaprbBase.tokens b with
 | error f=>rfl
 | ok l=>
  show encode (match ((takeExpr 24 l >>= λx=>(if next .halt_ x.2=false then wrong x.2 else .ok ()) >>= λ_=> .ok x.1) >>= λe=>named p (letNames p) e >>= λ_=>kindOf p p.lets e >>= λ_=> .ok e) with | .error f=>_ | .ok e=>_)=match ((takeExpr 24 l >>= λx=>(if next .halt_ x.2=false then wrong x.2 else .ok ()) >>= λ_=> .ok x.1) >>= λe=>named p (letNames p) e >>= λ_=>kindOf p p.lets e) with | .error f=>_ | .ok k=>_
  cases (takeExpr 24 l >>= λx=>(if next .halt_ x.2=false then wrong x.2 else .ok ()) >>= λ_=> .ok x.1:Except Fault Ex) with
  | error f=>rfl
  | ok e=>
   show encode (match (named p (letNames p) e >>= λ_=>kindOf p p.lets e >>= λ_=> .ok e) with | .error f=>_ | .ok e=>_)=match (named p (letNames p) e >>= λ_=>kindOf p p.lets e) with | .error f=>_ | .ok k=>_
   cases named p (letNames p) e with
   | error f=>rfl
   | ok u=>
    show encode (match (kindOf p p.lets e >>= λ_=> .ok e) with | .error f=>_ | .ok e=>_)=match kindOf p p.lets e with | .error f=>_ | .ok k=>_
    cases hk:kindOf p p.lets e with
    | error f=>rfl
    | ok k=>
     show encode (match kindOf p p.lets e with | .error f=>_ | .ok k=>_)=_;rw [hk];rfl
def Om (p:Prog) (b:Bytes):encode (sameAnswer p b)=match Vaprbb.read b with | .error _=> [-4] | .ok q=> [if p.plain.shown=q.plain.shown then 1 else 0]:=by
 unfold Vaprbb.sameAnswer;cases Vaprbb.read b <;> rfl
def Lb {k:Nat} {A:Around} (r:dn k A) (h:6<=k):A.depth+20 < recursionLimit:=by have:=r.dp;omega
def Lc (c:Cl) (dx:Addr) (fs:List (Str×V)):Y c (.ins c.hold dx fs)=false:=by
 show (!(_ == _) && !(_ == _))=false;simp
def Se (K:Frag) (c:Cl) (ho dx:Addr) (H:Hp) (Q:VK):Except Fault Prog->Prop
 | .ok p=> ∀l H' a En,H l=none->Sb ho H H'->H' ho=some (.ins c.hold dx [("loaded",.ref a)])->Ch K c H' (.ref a) p En->Wp p En->H' l=some (.lst (zV [1]))->Q (.ref l) H'
 | .error f=>gL H Q [0,(f.code:Int),(f.place:Int)]
def Nh:SP:=λK c vs H Q _=> ∃ho dx lv ta b,vs= [.ref ho,.ref ta]/\H ho=some (.ins c.hold dx [("loaded",lv)])/\cz K H ta (txt b)/\Se K c ho dx H Q (Vaprbb.read b)
def Ni:AA.h0 110 "load" ["holder","text"] Nh:=by
 have zQ:=gK AA;have FN:=AA.FN;nomatch ["holder","text","loaded","fault"]
 obtain ⟨ho,dx,lv,ta,b,rfl,H_,ht,q⟩:=h;obtain ⟨lf,V7,Sf,Sg,Sh,Si⟩:=gK AA;nomatch 2,F_ (iy:=2) (i2:=3) Sh (hr.mono (by omega)) (Lb hr (by omega)) rfl Sf Sg Si (pU (pv 1)) nN rfl rfl FT.cl rfl FT.mg rfl rfl rfl rfl FN rfl rfl rfl,0
 exists _,U,ta,b,U,ht,?_;cases hrd:Vaprbb.read b with
 | error f=>
  rw [hrd] at q;exact λH' s' zu hd=>#[zu,f.code,f.place,rfl,hd,λl hl=>q l _ (same_none s' hl) (s'.trans (aq.upd hl)) aa]
 | ok p=>
  rw [hrd] at q;intro a H' En na s' hL hW;have hh:=s' _ _ H_;exists _,U,_,U,fw hh ?_;refine mD _ λH2 eH=>?_;have V8:Sb ho H H2:=by rw [eH];exact (s'.sb).Pn
  have V9:H2 ho=some (.ins c.hold dx [("loaded",.ref a)]):=by rw [eH];exact aa
  have S1:bX c H' H2:=by rw [eH];exact bX.upd hh (Lc c dx _)
  clear eH;exists jJ,λD hD=>?_;have sD:=aq.upd (o:= .lst (zV [1])) hD;have MA:H D=none:=by
   cases z:H D with
   | none=>rfl
   | some o=>
    by_cases e:D=ho
    . rw [e,V9] at hD;cases hD
    . rw [V8 _ _ z e] at hD;cases hD
  exact q D _ a En MA (V8.trans sD.sb) (sD _ _ V9) (hL.Y C (S1.trans sD.Y)) hW aa
def Nj:SP:=λK c vs H Q _=> ∃v ta b p En,vs= [v,.ref ta]/\Ch K c H v p En/\Wp p En/\cz K H ta (txt b)/\gL H Q (encode (kindAnswer p b))
def Nk:AA.h0 110 "kind" ["loaded","text"] Nj:=by
 have Ld:=mP AA;have FN:=AA.FN;nomatch ["loaded","text","found","fault"]
 obtain ⟨v,ta,b,p,En,rfl,hL,hW,ht,q⟩:=h;obtain ⟨lf,V7,Sf,Sg,Sh,Si⟩:=mP AA;nomatch 2,F_ (iy:=2) (i2:=3) Sh (hr.mono (by omega)) (Lb hr (by omega)) rfl Sf Sg Si (aI (pv 0) (pU (pv 1))) nN rfl rfl FT.cl rfl FT.mg rfl rfl rfl rfl FN rfl rfl rfl,xi,cv fh
 rw [Ol (oQ hW.ev)] at q;exists _,U,_,U,v,ta,b,p,En,U,hL,hW,ht,?_;cases hrd:DT p En b with
 | error f=>
  rw [hrd] at q;exact λH' s' zu hd=>#[zu,f.code,f.place,rfl,hd,λl hl=>q l _ (same_none s' hl) (s'.trans (aq.upd hl)) aa]
 | ok k=>
  rw [hrd] at q;intro ka H' s' hka;have q:gL H Q (1 :: kindRow k):=q;have hkl:=d8 k;have iW:=gI;exists jJ,λD hD=>?_;have sD:=aq.upd (o:= .lst [V.int 1]) hD;exists _,U,ka,_,U,.inr (gS.Y (c:=c) hka sD.Y),λL hL'=>?_;have sL:=aq.upd (o:= .lst (kT k)) hL';exists D,L,[V.int 1],kT k,U,U,sL _ _ aa,.inl aa,by rw [DN,cB,aC];omega,λD3 lP=>?_;have ss:=s'.trans (sD.trans sL);refine q D3 _ (same_none ss lP) (ss.trans (aq.upd lP)) ?_;rw [aa,DN];rfl
def Nm:SP:=λK c vs H Q _=> ∃v ta b p En,vs= [v,.ref ta]/\Ch K c H v p En/\Wp p En/\cz K H ta (txt b)/\gL H Q (encode (sameAnswer p b))
def Nn:AA.h0 110 "same" ["loaded","text"] Nm:=by
 have zQ:=gK AA;nomatch ["loaded","text","other"]
 have T0:=T;obtain ⟨v,ta,b,p,En,rfl,hL,hW,ht,q⟩:=h;obtain ⟨lf,V7,Sf,Sg,Sh,Si⟩:=gK AA;obtain ⟨tz,XU⟩:=T0.sk;nomatch 2,Mp (p1:=#[0,0,0,0]) (iy:=2) (z:= -4) Sh (hr.mono (by omega)) rfl Sf Sg Si (pU (pv 1)) nN rfl rfl FT.cl rfl FT.mg rfl rfl rfl XU rfl,gr (Jc (dn.units hr)) ?_ ?_
 rw [Om] at q;exists _,U,ta,b,U,ht,?_;cases hrd:Vaprbb.read b with
 | error f=>
  rw [hrd] at q;exact λH' s' zu hd=>#[zu,f.code,f.place,rfl,hd,λl hl=>q l _ (same_none s' hl) (s'.trans (aq.upd hl)) aa]
 | ok p2=>
  rw [hrd] at q;intro a2 H' Ys na s' hL2 hW2;have q:gL H Q [if p.plain.shown=p2.plain.shown then 1 else 0]:=q;obtain ⟨a,dx,HZ,kd,fb,pb,ln,fm,cl,zN,rfl,ha,h1,h2,h3,h4,h5,h6,h7,h8⟩:=id (hL.Y C s'.Y);obtain ⟨a',zu,XV,Yt,Yu,Yv,ln',Yw,Yx,XW,e',ha',h1',h2',h3',h4',Yy,h6',Yz,Xy⟩:=id hL2;cases e';exists _,U,fr ha' U #[_,U,fr ha U #[.list (iD p2.plain.shown),.list (iD p.plain.shown),La h4',La h4,AR _,AR _,?_]];have e3:PyData.eqv (.list (iD p2.plain.shown)) (.list (iD p.plain.shown))=decide (p2.plain.shown=p.plain.shown):=by
   simp only [PyData.eqv,Oj]
  rw [e3];exists _,U,bG (λe4=>?_) λe4=>?_
  . have e4:p2.plain.shown=p.plain.shown:=by simpa using e4
    rw [ah e4.symm] at q;exists jJ,λD hD=>q D _ (same_none s' hD) (s'.trans (aq.upd hD)) aa
  . have e4:¬p2.plain.shown=p.plain.shown:=by simpa using e4
    rw [ae λz=>e4 z.symm] at q;exists jJ,λD hD=>q D _ (same_none s' hD) (s'.trans (aq.upd hD)) aa
abbrev Call:=Vaprbb.Call
variable {cl:Call}
def CR (k i:Int) (b:Bytes) (cl:Call):=(k=0/\cl= .load b)\/(k=1/\cl= .shown)\/(k=2/\cl= .sizes)\/(k=3/\cl= .lets i)\/(k=4/\cl= .funs i)\/(k=5/\cl= .kind b)\/(k=6/\cl= .points)\/(k=7/\cl= .tells)\/(k=8/\cl= .plain)\/(k=9/\cl= .same b)
def Lw (x:List Int):Bytes:=x.map λz=>UInt8.ofNat z.toNat
def B' {x:List Int} (h:NeutralIO.bytes x=true):txt (Lw x)=zV x:=by
 unfold txt Lw zV;rw [c9];refine oV λz hz=>?_;have h1:=c7.mp h z hz;have h1:0<=z/\z<=255:=by simpa using h1
 show V.int (((UInt8.ofNat z.toNat).toNat:Nat):Int)=V.int z;rw [UInt8.toNat_ofNat',Nat.mod_eq_of_lt (by omega)];congr 1;omega
def vH {b:List Int} (h:b.all (λ(z:Int)=>natural z 8)=true):NeutralIO.bytes b=true:=c7.mpr λz hz=>by
 have h1:=c7.mp h z hz;unfold natural at h1;have h1:0<=z/\z < 2 ^ 8:=by simpa using h1
 have:(2:Int) ^ 8=256:=by decide
 simp only [c6,dr];omega
def DV {k:Int} {s:Nat×Nat} (h:shape k=some s):((k=0\/k=5\/k=9)/\s=(0,1))\/((k=3\/k=4)/\s=(1,0))\/((k=1\/k=2\/k=6\/k=7\/k=8)/\s=(0,0)):=by
 unfold PyVaprbb.shape at h;repeat' split at h
 all_goals first | (cases h;done) | (cases h;simp_all)
def turn {f:Nat} {k:Int} {r:List Int} {cs:List (List (List Int))} (h:PyFlat.calls shape f (k :: r)=some cs) (ha:∀c∈cs,asked1 c=true):∃f' c t cs',cs=c :: cs'/\PyFlat.calls shape f' t=some cs'/\
 ((∃n r' cl,(k=0\/k=5\/k=9)/\r=n :: r'/\0<=n/\n.toNat<=r'.length/\t=r'.drop n.toNat/\callOf c=some cl/\CR k 0 (Lw (r'.take n.toNat)) cl/\txt (Lw (r'.take n.toNat))=zV (r'.take n.toNat))\/
  (∃i r' cl,(k=3\/k=4)/\r=i :: r'/\t=r'/\callOf c=some cl/\CR k i [] cl)\/
  (∃cl,¬(k=0\/k=5\/k=9)/\¬(k=3\/k=4)/\t=r/\callOf c=some cl/\CR k 0 [] cl)):=by
 cases f with
 | zero=>cases h
 | succ f=>
  have h:(match PyFlat.call shape (k :: r) with | none=>none | some (c,t)=>match PyFlat.calls shape f t with | none=>none | some cs=>some (c :: cs))=some cs:=h;cases hc:PyFlat.call shape (k :: r) with
  | none=>rw [hc] at h;cases h
  | some ct=>
   obtain ⟨c,t⟩:=ct;rw [hc] at h;have h:(match PyFlat.calls shape f t with | none=>none | some cs=>some (c :: cs))=some cs:=h;cases hcs:PyFlat.calls shape f t with
   | none=>rw [hcs] at h;cases h
   | some cs'=>
    rw [hcs] at h;have h:c :: cs'=cs:=bF h;subst h;have hac:=ha c bi;exists f,c,t,cs',U,hcs,?_;have hc:(match shape k with | none=>none | some (n,kk)=>if r.length < n then none else match rows kk (r.drop n) with | none=>none | some (xs,t)=>some ((k :: r.take n) :: xs,t))=some (c,t):=hc;cases hs:shape k with
    | none=>rw [hs] at hc;cases hc
    | some s=>
     rw [hs] at hc;rcases DV hs with ⟨hk,rfl⟩ | ⟨hk,rfl⟩ | ⟨hk,rfl⟩
     . left;have hc:(if r.length < 0 then none else match rows 1 (r.drop 0) with | none=>none | some (xs,t)=>some ((k :: r.take 0) :: xs,t))=some (c,t):=hc;rw [ae (by omega),kQ] at hc;have hrow:rows 1 r=(match row r with | none=>none | some (x,s)=>some ([x],s)):=by
        show (match row r with | none=>none | some (x,s)=>(match some (([]:List (List Int)),s) with | none=>none | some (xs,t)=>some (x :: xs,t)))=_;cases row r <;> rfl
       rw [hrow] at hc;cases r with
       | nil=>cases hc
       | cons n r'=>
        have e1:row (n :: r')=if 0<=n/\n.toNat<=r'.length then some (r'.take n.toNat,r'.drop n.toNat) else none:=rfl
        rw [e1] at hc;by_cases hn:0<=n/\n.toNat<=r'.length
        . rw [ah hn] at hc;have hc:some ([[k],r'.take n.toNat],r'.drop n.toNat)=some (c,t):=hc;cases hc;have hb:NeutralIO.bytes (r'.take n.toNat)=true:=by
           rcases hk with rfl | rfl | rfl
           . have hac:((r'.take n.toNat).all (λ(z:Int)=>natural z 8) && decide ((r'.take n.toNat).length<=8192))=true:=hac;exact vH (g9.mp hac).1
           . have hac:((r'.take n.toNat).all (λ(z:Int)=>natural z 8) && decide ((r'.take n.toNat).length<=8192))=true:=hac;exact vH (g9.mp hac).1
           . have hac:((r'.take n.toNat).all (λ(z:Int)=>natural z 8) && decide ((r'.take n.toNat).length<=8192))=true:=hac;exact vH (g9.mp hac).1
          have hbb:bytes? (r'.take n.toNat)=some (Lw (r'.take n.toNat)):=by
           unfold bytes?;rw [ah hb];rfl
          rcases hk with rfl | rfl | rfl
          . exists n,r',.load (Lw (r'.take n.toNat)),.inl U,U,hn.1,hn.2,U,?_,.inl #[U,U],B' hb;show (bytes? (r'.take n.toNat)).map _=_;rw [hbb];rfl
          . exists n,r',.kind (Lw (r'.take n.toNat)),.inr (.inl U),U,hn.1,hn.2,U,?_,?_,B' hb
            . show (bytes? (r'.take n.toNat)).map _=_;rw [hbb];rfl
            . exact .inr (.inr (.inr (.inr (.inr (.inl #[rfl,rfl])))))
          . exists n,r',.same (Lw (r'.take n.toNat)),.inr (.inr U),U,hn.1,hn.2,U,?_,?_,B' hb
            . show (bytes? (r'.take n.toNat)).map _=_;rw [hbb];rfl
            . exact .inr (.inr (.inr (.inr (.inr (.inr (.inr (.inr (.inr #[rfl,rfl]))))))))
        . rw [ae hn] at hc;cases hc
     . right;left;have hc:(if r.length < 1 then none else match rows 0 (r.drop 1) with | none=>none | some (xs,t)=>some ((k :: r.take 1) :: xs,t))=some (c,t):=hc;cases r with
       | nil=>cases hc
       | cons i r'=>
        rw [ae (by simp)] at hc;have hc:some ([[k,i]],r')=some (c,t):=hc;cases hc;rcases hk with rfl | rfl
        . exists i,_,.lets i,.inl U,U,U,U,.inr (.inr (.inr (.inl #[U,U])))
        . exists i,_,.funs i,.inr U,U,U,U,.inr (.inr (.inr (.inr (.inl #[U,U]))))
     . right;right;have hc:(if r.length < 0 then none else match rows 0 (r.drop 0) with | none=>none | some (xs,t)=>some ((k :: r.take 0) :: xs,t))=some (c,t):=hc;rw [ae (by omega),kQ] at hc;have hc:some ([[k]],r)=some (c,t):=hc;cases hc;rcases hk with rfl | rfl | rfl | rfl | rfl
       . exists .shown,by decide,by decide,U,U,.inr (.inl #[U,U])
       . exists .sizes,by decide,by decide,U,U,.inr (.inr (.inl #[U,U]))
       . exists .points,by decide,by decide,U,U,.inr (.inr (.inr (.inr (.inr (.inr (.inl #[U,U]))))))
       . exists .tells,by decide,by decide,U,U,.inr (.inr (.inr (.inr (.inr (.inr (.inr (.inl #[U,U])))))))
       . exists .plain,by decide,by decide,U,U,.inr (.inr (.inr (.inr (.inr (.inr (.inr (.inr (.inl #[U,U]))))))))
def Iv:List (List (List Int))->List Call->Prop
 | [],[]=>True
 | c :: cs,cl :: cls=>callOf c=some cl/\Iv cs cls
 | _,_=>False
def ans:State->List Call->List (List Int)
 | _,[]=> []
 | s,c :: r=>encode (Vaprbb.step s c).2 :: ans (Vaprbb.step s c).1 r
def zl:∀{cs:List (List (List Int))} {cls:List Call} (s:State),Iv cs cls->played VaprbbNeutral.step s cs=ans s cls
 | [],[],_,_=>rfl
 | c :: cs,cl :: cls,s,h=>by
  have e:VaprbbNeutral.step s c=((Vaprbb.step s cl).1,encode (Vaprbb.step s cl).2):=by
   unfold VaprbbNeutral.step;rw [h.1]
  show (VaprbbNeutral.step s c).2 :: played VaprbbNeutral.step (VaprbbNeutral.step s c).1 cs=_;rw [e,zl _ h.2];rfl
 | [],_ :: _,_,h=>h.elim
 | _ :: _,[],_,h=>h.elim
def Iv.len:∀{cs:List (List (List Int))} {cls:List Call},Iv cs cls->cs.length=cls.length
 | [],[],_=>rfl
 | _ :: _,_ :: _,h=>bA (· +1) (Iv.len h.2)
 | [],_ :: _,h=>h.elim
 | _ :: _,[],h=>h.elim
def DW (c:List (List Int)):whole c=c:=by
 unfold whole;split <;> rfl
def Fv {l:List Int} {cs:List (List (List Int))} {cls:List Call} (h:PyFlat.calls shape l.length l=some cs) (hc:Iv cs cls):answers l=told (ans {} cls):=by
 unfold answers PyVaprbb.calls;rw [h];show told (played VaprbbNeutral.step VaprbbNeutral.start (cs.map whole))=_;have:cs.map whole=cs:=by rw [show whole=id from funext DW];exact List.map_id _
 rw [this,zl _ hc];rfl
def Le {l:List Int} (h:answers_asked l=true):∃cs,PyFlat.calls shape l.length l=some cs/\cs.length<=400/\∀c∈cs,asked1 c=true:=by
 unfold answers_asked PyVaprbb.calls at h;cases hc:PyFlat.calls shape l.length l with
 | none=>rw [hc] at h;cases h
 | some cs=>
  rw [hc] at h;have h:(atMost 400 (cs.map whole) && asked (cs.map whole))=true:=h;have e:cs.map whole=cs:=by rw [show whole=id from funext DW];exact List.map_id _
  rw [e] at h;obtain ⟨h1,h2⟩:=g9.mp h;unfold atMost at h1;unfold asked at h2;exists cs,U,o3 h1,c7.mp (g9.mp h2).1
def Sj (s:State):= ∀p,s.prog=some p->∃En,Wp p En
def Qa (hW:Wp p En) (i:Int):(encode (letsAnswer p i)).length<=20000:=by
 by_cases h:0<=i/\i < (p.lets.length:Int)
 . obtain ⟨k,rfl⟩:∃k:Nat,i=(k:Int):=#[i.toNat,by omega];have hk:k < p.lets.length:=by omega
   obtain ⟨x,hx⟩:∃x,p.lets[k]? = some x:=#[_,bB hk];have DS:=oQ hW.ev;have hnames:=pV hW.ev;have Iq:En[k]? = some x:=by rw [<-DS];exact hx
   have mE:(letNames p)[k]? = some x.1:=by rw [<-hnames,bz,Iq];rfl
   have hfl:(p.stms.filter isLet).length=p.lets.length:=by rw [DS,<-aB (f:=(·.1)) (as:=En),hnames,dm,aB]
   obtain ⟨st,fU⟩:∃st,(p.stms.filter isLet)[k]? = some st:=#[_,bB (by omega)];have hle:letExpr p k=some (exprOf st):=by rw [zh,bz,fU];rfl
   have HX:=hX.mp (bc fU);have bQ:=(rG hW.nr).sb st HX.1;have Ng:GX (exprOf st):=by
    have:=hW.gp.st st HX.1;cases st with
    | lets n o e=>exact this.2.2
    | observe e=>exact this
   obtain ⟨hm1,hm2⟩:=DR bQ;obtain ⟨hz1,hz2⟩:=B_ Ng.2.2;have U4:x.1.length<=16:=by
    have hm:x.1∈letNames p:=bc mE;rw [dm] at hm;obtain ⟨s',hs',e'⟩:=cj.mp hm;have hs':=hX.mp hs';have:=hW.gp.st s' hs'.1;cases s' with
    | observe e=>exact Bool.noConfusion (show false=true from hs'.2)
    | lets n2 k2 e2=>rw [<-e'];exact this.1
   have U7:=e9 hm1;have QB:=e9 hm2;have hk3:=d8 x.2;rw [G0 hk hx hle,aT,ao,ao,ao,cn,fz hm1,fz hm2,aT,aT];omega
 . rw [B8 h];decide
def Qb (hW:Wp p En) (i:Int):(encode (funsAnswer p i)).length<=20000:=by
 by_cases h:0<=i/\i < (p.funs.length:Int)
 . obtain ⟨k,rfl⟩:∃k:Nat,i=(k:Int):=#[i.toNat,by omega];obtain ⟨f,hf⟩:∃x,p.funs[k]? = some x:=#[_,bB (by omega)];have hfm:=bc hf;have hG:=hW.gp.fn f hfm;have U4:f.name.name.length<=16:=hG.nm;have hcm:=zg hW.nr f hfm;have QB:=e9 hcm;have hz2:=(B_ hG.bd.2.2).2;have hk3:=d8 f.result;have R8:=oR hG.pw;have h4:=hG.pl;have e3:(f.params.flatMap λd=>VaprbBase.textRow d.name.name++kindRow d.kind)=f.params.flatMap dj:=rfl;rw [G1 hf,e3];simp only [aT,ao,cn,fz hcm,fL];omega
 . rw [B9 h];decide
def Np {s:State} (hs:Sj s) (c:Call):(encode (Vaprbb.step s c).2).length<=20000:=by
 have look:∀p En,Wp p En->(encode (looked p c)).length<=20000:=λp En hW=>by
  have h1:=hW.sh;have h2:=plain_len hW.gp;cases c with
  | load b=>show 1<=20000;decide
  | shown=>show (VaprbBase.textRow p.shown).length<=20000;rw [cn];omega
  | sizes=>show 5<=20000;decide
  | lets i=>exact Qa hW i
  | funs i=>exact Qb hW i
  | kind b=>
   show (encode (kindAnswer p b)).length<=20000;rw [Ol (oQ hW.ev)];split
   . show 3<=20000;decide
   . rename_i k _;have:=d8 k;rw [aT];omega
  | points=>
   have h3:=zi p;show ((p.points.length:Int) :: p.points.flatMap λx=> [(x.1:Int),(x.2:Int)]).length<=20000;have h4:∀l:List (Nat×Nat),(l.flatMap λx=> [(x.1:Int),(x.2:Int)]).length=2 * l.length:=λl=>by
    induction l with
    | nil=>rfl
    | cons y l ih=>rw [dR,ao,ih];show 2+2 * l.length=2 * (l.length+1);omega
   rw [aT,h4];omega
  | tells=>
   have hM:=rG hW.nr;have h6:=hW.gp.tl;have hin:∀m∈p.tells.map (λt=>t.name),m∈letNames p:=λm hm=>by
    obtain ⟨t,ht,rfl⟩:=cj.mp hm;exact hM.tl t ht
   have ll:=e9 hin;show ((p.tells.length:Int) :: (numbersOf (letNames p) (p.tells.map λt=>t.name)).map λ(n:Nat)=>(n:Int)).length<=20000;rw [aT,ll,aB];omega
  | plain=>show (VaprbBase.textRow p.plain.shown).length<=20000;rw [cn];omega
  | same b=>
   show (encode (sameAnswer p b)).length<=20000;rw [Om];split
   . show 1<=20000;decide
   . show 1<=20000;decide
 cases c with
 | load b=>
  show (encode (match Vaprbb.read b with | .ok p=>(({prog:=some p}:State),({value:=1}:Answer)) | .error f=>(s,faulty f)).2).length<=20000;cases Vaprbb.read b with
  | ok p=>show 1<=20000;decide
  | error f=>show 3<=20000;decide
 | _=>
  unfold Vaprbb.step;cases hp:s.prog with
  | none=>show 1<=20000;decide
  | some p=>obtain ⟨En,hW⟩:=hs p hp;exact look p En hW
def qE (c:Cl) (H:Hp) (v:V) (cl:Call):= ∃a dx ta b,∃k i:Int,v= .ref a/\H a=some (.ins c.call dx [("number",.int k),("asked",.int i),("text",.ref ta)])/\FL H ta (txt b)/\CR k i b cl
def qE.Y (C:CT K c) (h:qE c H v cl) (im:bX c H H'):qE c H' v cl:=let #[a,dx,ta,b,k,i,e,ha,f,r]:=h;#[a,dx,ta,b,k,i,e,im _ _ ha C.JG,f.mono im,r]
def HV (K:Frag) (c:Cl) (H:Hp) (lv:V) (st:State):=(st.prog=none/\lv= .cp)\/∃p En a,st.prog=some p/\lv= .ref a/\Ch K c H lv p En/\Wp p En
def HV.Y {lv:V} (C:CT K c) (h:HV K c H lv st) (i:bX c H H'):HV K c H' lv st:=by
 rcases h with h | ⟨p,En,a,h1,h2,h3,h4⟩
 . exact .inl h
 . exact .inr #[p,En,a,h1,h2,h3.Y C i,h4]
def HV.ok {lv:V} (h:HV K c H lv st):Sj st:=λp hp=>by
 rcases h with ⟨h,_⟩ | ⟨p',En,a,h1,h2,h3,h4⟩
 . rw [h] at hp;cases hp
 . rw [h1] at hp;cases hp;exists En,h4
def Ia (h:st.prog=none) (hl:∀b,cl≠ .load b):Vaprbb.step st cl=(st,Vaprbb.refused (-1)):=by
 unfold Vaprbb.step;cases cl with
 | load b=>exact absurd rfl (hl b)
 | _=>rw [h]
def Ib (h:st.prog=some p) (hl:∀b,cl≠ .load b):Vaprbb.step st cl=(st,looked p cl):=by
 unfold Vaprbb.step;cases cl with
 | load b=>exact absurd rfl (hl b)
 | _=>rw [h]
def tO:SP:=λK c vs H Q _=> ∃v p En u cl,vs= [v,u]/\Ch K c H v p En/\Wp p En/\qE c H u cl/\(∀b,cl≠ .load b)/\gL H Q (encode (looked p cl))
def tP:AA.h0 111 "answer_of_held" ["loaded","call"] tO:=by
 nomatch ["loaded","call"]
 obtain ⟨v,p,En,u,cl,rfl,hL,hW,⟨a,dx,ta,b,k,i,rfl,ha,ft,Lf⟩,hnl,q⟩:=h;nomatch 2,bK,T.Gm,K1,bK,T.Gn,K5,bK,T.EB,M',bK,T.EC,Nf,bK,T.ED,Nk,bK,T.CV,HW,bK,T.Go,K7,bK,T.Gp,K3,Nn
 have fld:H a=some (.ins c.call dx [("number",.int k),("asked",.int i),("text",.ref ta)]):=ha;rcases Lf with ⟨rfl,rfl⟩ | ⟨rfl,rfl⟩ | ⟨rfl,rfl⟩ | ⟨rfl,rfl⟩ | ⟨rfl,rfl⟩ | ⟨rfl,rfl⟩ | ⟨rfl,rfl⟩ | ⟨rfl,rfl⟩ | ⟨rfl,rfl⟩ | ⟨rfl,rfl⟩
 . exact absurd rfl (hnl b)
 . exists _,U,fr ha U #[U,_,U,bD U ?_];exists _,U,v,p,En,U,hL,hW,q
 . exists _,U,fr ha U #[U,_,U,aF U ?_];exists _,U,fr ha U #[U,_,U,bD U ?_];exists _,U,v,p,En,U,hL,hW,q
 . iterate 2 exists _,U,fr ha U #[U,_,U,aF U ?_]
   exists _,U,fr ha U #[U,_,U,bD U ?_];exists _,U,_,U,fr ha U #[v,p,En,i,U,hL,hW,q]
 . iterate 3 exists _,U,fr ha U #[U,_,U,aF U ?_]
   exists _,U,fr ha U #[U,_,U,bD U ?_];exists _,U,_,U,fr ha U #[v,p,En,i,U,hL,hW,q]
 . iterate 4 exists _,U,fr ha U #[U,_,U,aF U ?_]
   exists _,U,fr ha U #[U,_,U,bD U ?_];exists _,U,_,U,fr ha U #[v,ta,b,p,En,U,hL,hW,ft.sq,q]
 . iterate 5 exists _,U,fr ha U #[U,_,U,aF U ?_]
   exists _,U,fr ha U #[U,_,U,bD U ?_];exists _,U,v,p,En,U,hL,hW,q
 . iterate 6 exists _,U,fr ha U #[U,_,U,aF U ?_]
   exists _,U,fr ha U #[U,_,U,bD U ?_];exists _,U,v,p,En,U,hL,hW,q
 . iterate 7 exists _,U,fr ha U #[U,_,U,aF U ?_]
   exists _,U,fr ha U #[U,_,U,bD U ?_];exists _,U,v,p,En,U,hL,hW,q
 . iterate 8 exists _,U,fr ha U #[U,_,U,aF U ?_]
   exists _,U,_,U,fr ha U #[v,ta,b,p,En,U,hL,hW,ft.sq,q]
def Ca:SP:=λK c vs H Q _=> ∃ho dh lv st v cl,vs= [.ref ho,v]/\H ho=some (.ins c.hold dh [("loaded",lv)])/\HV K c H lv st/\qE c H v cl/\∀l H' lv',H l=none->Sb ho H H'->H' ho=some (.ins c.hold dh [("loaded",lv')])->HV K c H' lv' (Vaprbb.step st cl).1->H' l=some (.lst (zV (encode (Vaprbb.step st cl).2)))->Q (.ref l) H'
def Cb:AA.h0 112 "answer_to" ["holder","call"] Ca:=by
 nomatch ["holder","call"]
 obtain ⟨ho,dh,lv,st,v,cl,rfl,H_,hH,hC,q⟩:=h;nomatch 2,bK,T.EA,Ni,IM,T.vP,tP
 obtain ⟨a,dx,ta,b,k,i,rfl,ha,ft,Lf⟩:=id hC;exists _,U,fr ha U #[U,_,U,bG (λe1=>?_) λe1=>?_]
 . have e1:k=0:=by simpa using e1
   subst e1;have XX:cl= .load b:=by
    rcases Lf with ⟨_,h⟩ | ⟨h,_⟩ | ⟨h,_⟩ | ⟨h,_⟩ | ⟨h,_⟩ | ⟨h,_⟩ | ⟨h,_⟩ | ⟨h,_⟩ | ⟨h,_⟩ | ⟨h,_⟩
    . exact h
    all_goals exact absurd h (by decide)
   subst XX;exists _,U,_,U,fr ha U #[ho,dh,lv,ta,b,U,H_,ft.sq,?_];have es:Vaprbb.step st (.load b)=(match Vaprbb.read b with | .ok p=>(({prog:=some p}:State),({value:=1}:Answer)) | .error f=>(st,faulty f)):=rfl;rw [es] at q;cases hrd:Vaprbb.read b with
   | ok p=>
    rw [hrd] at q;intro l H' a' En nl sb hh hL hW hl;exact q l H' (.ref a') nl sb hh (.inr #[p,En,a',rfl,rfl,hL,hW]) hl
   | error f=>
    rw [hrd] at q;intro l H' nl s hl;exact q l H' lv nl s.sb (s _ _ H_) (hH.Y C s.Y) hl
 . have e1:¬k=0:=by simpa using e1
   have hnl:∀b',cl≠ .load b':=λb' z=>by
    subst z;rcases Lf with ⟨h,_⟩ | ⟨_,h⟩ | ⟨_,h⟩ | ⟨_,h⟩ | ⟨_,h⟩ | ⟨_,h⟩ | ⟨_,h⟩ | ⟨_,h⟩ | ⟨_,h⟩ | ⟨_,h⟩
    . exact e1 h
    all_goals cases h
   rcases hH with ⟨hp,rfl⟩ | ⟨p,En,al,hp,rfl,hL,hW⟩
   . rw [Ia hp hnl] at q;exists _,U,fr H_ U #[U,_,U,bD U ?_];exists jJ,λD hD=>?_;have sD:=aq.upd (o:= .lst (zV [-1])) hD;exact q D _ .cp hD sD.sb (sD _ _ H_) (.inl #[hp,rfl]) aa
   . rw [Ib hp hnl] at q;exists _,U,fr H_ U #[U,_,U,aF U ?_];exists _,U,fr H_ U #[_,U,.ref al,p,En,.ref a,cl,U,hL,hW,hC,hnl,λl H' nl s hl=>?_];exact q l H' (.ref al) nl s.sb (s _ _ H_) (.inr #[p,En,al,hp,rfl,hL.Y C s.Y,hW]) hl
def Iv.snoc {c:List (List Int)} (h:callOf c=some cl):∀{cs:List (List (List Int))} {cls:List Call},Iv cs cls->Iv (cs++ [c]) (cls++ [cl])
 | [],[],_=>#[h,au]
 | _ :: _,_ :: _,z=>#[z.1,Iv.snoc h z.2]
 | [],_ :: _,z=>z.elim
 | _ :: _,[],z=>z.elim
def Fw {l:List Int} {z:Int} (h:l[i]? = some z):(zV l)[i]? = some (.int z):=by
 unfold zV;rw [bz,h];rfl
def Sl {l:List Int} (h:i+n<=l.length):uQ (zV l) (some (i:Int)) (some ((i+n:Nat):Int))=zV ((l.drop i).take n):=by
 unfold uQ;rw [HT.w6,HT.w6,cB,o_ (by omega),o_ (by omega)];unfold zV;rw [<-List.map_drop,<-List.map_take];congr 2;omega
def xu {l:List Int} {k n:Int} {r:List Int} (h:l.drop i=k :: n :: r):l[i]? = some k/\l[i+1]? = some n/\l.drop (i+2)=r/\i+2+r.length=l.length:=by
 have h0:(l.drop i)[0]? = some k:=by rw [h];rfl
 have h1:(l.drop i)[1]? = some n:=by rw [h];rfl
 rw [oX] at h0 h1;have h2:(l.drop i).drop 2=r:=by rw [h];rfl
 rw [fM] at h2;have h3:=bA List.length h;rw [cT,aT,aT] at h3;exists h0,h1,h2,by omega
def drop_one {l:List Int} {k:Int} {r:List Int} (h:l.drop i=k :: r):l[i]? = some k/\l.drop (i+1)=r/\i+1+r.length=l.length:=by
 have h0:(l.drop i)[0]? = some k:=by rw [h];rfl
 rw [oX] at h0;have h2:(l.drop i).drop 1=r:=by rw [h];rfl
 rw [fM] at h2;have h3:=bA List.length h;rw [cT,aT] at h3;exists h0,h2,by omega
def DX:SP:=λK c vs H Q _=> ∃na l cs,vs= [.ref na]/\cz K H na (zV l)/\l.length<=17000/\PyFlat.calls shape l.length l=some cs/\(∀x∈cs,asked1 x=true)/\∀L ws cls H',H L=none->aq H H'->H' L=some (.lst ws)->Iv cs cls->A2 (qE c H') ws cls->Q (.ref L) H'
def DY:AA.h0 3 "calls_in" ["numbers"] DX:=by
 nomatch ["numbers","calls","at","number","first"]
 obtain ⟨na,l,cs,rfl,hs,hl,hcs,has,q⟩:=h;nomatch 2,1,2,eS,aM aJ,3,bR,DQ,4,dY,2,dY,bR,dY,cJ bN,gw (gV AA) ?_,0,rV xa (pv 0) (lU (pv 4)) (lU (pv 2)),zP,cJ bN,gw (gV AA) (aI ?_ (aI ?_ (pU (di ?_)))),bR,dY,2,qI,cJ bN,gw (gV AA) (aI ?_ (aI ?_ (pU (di ?_)))),2,qI,0
 have iW:=gI;exists aD _,λD hD=>?_;exists λm σ H'=> ∃(at_:Nat) (v3 v4:Option V) (f:Nat) (rest done:List (List (List Int))) (cls:List Call) (ws:List V),σ= [some (.ref na),some (.ref D),some (.int (at_:Nat)),v3,v4]/\aq H H'/\H' D=some (.lst ws)/\A2 (qE c H') ws cls/\at_<=l.length/\m=l.length - at_/\PyFlat.calls shape f (l.drop at_)=some rest/\(∀x∈rest,asked1 x=true)/\Iv done cls/\cs=done++rest/\ws.length<=at_,
  #[_,0,none,none,l.length,cs,[],[],[],rfl,aq.upd hD,aa,au,aD _,rfl,by rw [kQ];exact hcs,has,au,rfl,aw _],?_
 rintro m σ H' ⟨at_,v3,v4,f,rest,done,cls,ws,rfl,s,hw,hA,hat,rfl,hrest,Ic,Fy,hcd,hwl⟩;have hs':=s.seq hs;exists _,U,_,U,na,_,U,.inl hs',_,_,U,U,_,U,bG (λe1=>?_) λe1=>?_
 . refine dG ?_;have gZ:at_ < l.length:=by
    have:(at_:Int) < (((zV l).length:Nat):Int):=by simpa using e1
    rw [cB] at this;omega
   obtain ⟨k,r,Ti⟩:∃k r,l.drop at_=k :: r:=#[_,_,tW gZ];obtain ⟨hk,hr1,hrl⟩:=drop_one Ti;rw [Ti] at hrest;obtain ⟨f',cc,t,rest',rfl,hrest',hcase⟩:=turn hrest Ic;have Lg:∀x∈rest',asked1 x=true:=λx hx=>Ic x (aW _ hx);have hcd':cs=(done++ [cc])++rest':=by rw [hcd,bw];rfl
   exists _,U,_,U,na,zV l,at_,_,U,U,hs',dz (Fw hk),?_;exists _,U,k,U,λH1 s1=>?_;have hs1:=s1.seq hs';have hw1:=s1 _ _ hw;rcases hcase with ⟨nn,r',cl,hk3,rfl,hn0,hnl,rfl,hcl,Lf,htx⟩ | ⟨i,r',cl,hk3,rfl,rfl,hcl,Lf⟩ | ⟨cl,hk3,UI,rfl,hcl,Lf⟩
   . exists _,U,bD (pj hk3) ?_;obtain ⟨_,lR,hd2,hl2⟩:=xu Ti;obtain ⟨n',rfl⟩:∃n':Nat,nn=(n':Int):=#[nn.toNat,by omega];rw [oY] at hnl Lf htx hrest';have ei:((at_:Nat):Int)+1=((at_+1:Nat):Int):=by omega
     have e2:((at_:Nat):Int)+2=((at_+2:Nat):Int):=by omega
     have e3:((at_+2:Nat):Int)+(n':Int)=((at_+2+n':Nat):Int):=by omega
     exists _,U,_,_,U,U,?_;exists _,U,_,U,_,U,_,_,U,U,na,zV l,_,_,U,U,hs1,(by rw [ei];exact dz (Fw lR)),_,_,U,U,?_;have ec:uQ (zV l) (some ((at_:Int)+2)) (some ((at_:Int)+2+(n':Int)))=txt (Lw (r'.take n')):=by rw [e2,e3,Sl (by omega),hd2,htx]
     exists _,U,mR hw1,_,U,_,U,_,U,_,U,_,U,_,U,na,_,U,hs1,λS hS=>?_;exists S,_,U,aa,au,λo=>?_;have sS:=(aq.upd (o:= .lst (uQ (zV l) (some ((at_:Int)+2)) (some ((at_:Int)+2+(n':Int))))) hS).bM (o:= .gR o (.lst (uQ (zV l) (some ((at_:Int)+2)) (some ((at_:Int)+2+(n':Int)))))) hS;refine λx dx nx nd _=>#[x,dx,_,_,_,rfl,aa,λH2 hx kp=>#[rfl,?_]];have sx:=aq.made nx nd kp;have ss:=sS.trans sx;have hw2:=ss _ _ hw1;have dJ:bX c H2 (upd H2 D (.lst (ws++ [.ref x]))):=bX.upd hw2 rfl;exists D,_,_,U,U,hw2,by omega,?_;exists _,?_,at_+2+n',_,_,f',rest',done++ [cc],cls++ [cl],ws++ [.ref x],U,((s.trans s1).trans ss).bM hD,aa,?_,by omega,U,?_,Lg,Fy.snoc hcl,hcd',by rw [ao,aC];omega
     . omega
     . have fS:FL H2 S (uQ (zV l) (some ((at_:Int)+2)) (some ((at_:Int)+2+(n':Int)))):=#[o,sx _ _ aa];rw [ec] at fS;exact (hA.mono λ_ _ z=>(z.Y C (s1.trans ss).Y).Y C dJ).snoc (qE.Y C #[x,dx,S,Lw (r'.take n'),k,0,rfl,hx,fS,Lf] dJ)
     . rw [<-fM,hd2];exact hrest'
   . have XY:¬(k=0\/k=5\/k=9):=by omega
     exists _,U,aF (dD XY) ?_;obtain ⟨_,lR,hd2,hl2⟩:=xu Ti;exists _,U,k,U,λH2 s2=>#[_,U,bD (pj hk3) ?_];have hs2:=s2.seq hs1;have hw2:=s2 _ _ hw1;have ei:((at_:Nat):Int)+1=((at_+1:Nat):Int):=by omega
     exists _,U,mR hw2,_,U,_,U,_,U,_,_,U,U,na,zV l,_,_,U,U,hs2,(by rw [ei];exact dz (Fw lR)),aD _,λS hS=>?_;exists S,_,U,aa,au,λo=>?_;have sS:=(aq.upd (o:= .lst (txt [])) hS).bM (o:= .gR o (.lst (txt []))) hS;refine λx dx nx nd _=>#[x,dx,_,_,_,rfl,aa,λH3 hx kp=>#[rfl,?_]];have sx:=aq.made nx nd kp;have ss:=sS.trans sx;have yw:=ss _ _ hw2;have dJ:bX c H3 (upd H3 D (.lst (ws++ [.ref x]))):=bX.upd yw rfl;exists D,_,_,U,U,yw,by omega,?_;exists _,U,_,_,U,U,_,?_,at_+2,_,_,f',rest',done++ [cc],cls++ [cl],ws++ [.ref x],U,(((s.trans s1).trans s2).trans ss).bM hD,aa,?_,by omega,U,?_,Lg,Fy.snoc hcl,hcd',by rw [ao,aC];omega
     . omega
     . refine (hA.mono λ_ _ z=>(z.Y C ((s1.trans s2).trans ss).Y).Y C dJ).snoc (qE.Y C #[x,dx,S,[],k,i,rfl,hx,#[o,sx _ _ aa],Lf] dJ)
     . rw [hd2];exact hrest'
   . exists _,U,aF (dD hk3) ?_;exists _,U,k,U,λH2 s2=>#[_,U,aF (dD UI) ?_];have hw2:=s2 _ _ hw1;exists _,U,mR hw2,_,U,aD _,λS hS=>?_;exists S,_,U,aa,au,λo=>?_;have sS:=(aq.upd (o:= .lst (txt [])) hS).bM (o:= .gR o (.lst (txt []))) hS;refine λx dx nx nd _=>#[x,dx,_,_,_,rfl,aa,λH3 hx kp=>#[rfl,?_]];have sx:=aq.made nx nd kp;have ss:=sS.trans sx;have yw:=ss _ _ hw2;have dJ:bX c H3 (upd H3 D (.lst (ws++ [.ref x]))):=bX.upd yw rfl;exists D,_,_,U,U,yw,by omega,?_;exists _,U,_,_,U,U,_,?_,at_+1,_,_,f',rest',done++ [cc],cls++ [cl],ws++ [.ref x],U,(((s.trans s1).trans s2).trans ss).bM hD,aa,?_,by omega,U,?_,Lg,Fy.snoc hcl,hcd',by rw [ao,aC];omega
     . omega
     . refine (hA.mono λ_ _ z=>(z.Y C ((s1.trans s2).trans ss).Y).Y C dJ).snoc (qE.Y C #[x,dx,S,[],k,0,rfl,hx,#[o,sx _ _ aa],Lf] dJ)
     . rw [hr1];exact hrest'
 . have hge:l.length<=at_:=by
    have:¬(at_:Int) < (((zV l).length:Nat):Int):=by simpa using e1
    rw [cB] at this;omega
   rw [jd hge] at hrest;have hr0:rest= []:=by cases f <;> (cases hrest;rfl)
   subst hr0;rw [bH] at hcd;subst hcd;exists _,U,q D ws cls H' hD s hw Fy hA
def Lh {cls:List Call} (h:cls.drop i=cl :: cls.drop (i+1)):ans st (cls.drop i)=encode (Vaprbb.step st cl).2 :: ans (Vaprbb.step st cl).1 (cls.drop (i+1)):=by rw [h];rfl
def Ie (a:List Int) (l:List (List Int)):told (a :: l)=(a.length:Int) :: a++told l:=rfl
def zm:SP:=λK c vs H Q _=> ∃na l,vs= [.ref na]/\cz K H na (zV l)/\l.length<=17000/\answers_asked l=true/\∀D H',H D=none->aq H H'->H' D=some (.lst (zV (answers l)))->Q (.ref D) H'
def Fz:AA.h0 113 "answers" ["calls"] zm:=by
 nomatch ["calls","holder","given","call","answer"]
 obtain ⟨na,l,rfl,hs,hl,has,q⟩:=h;nomatch 2,1,Rt (rJ AA) hr (by omega) CM rfl,2,bE,DY,3,4,Cb,cJ bN,aM aJ,cJ dA,0
 have iW:=gI;obtain ⟨cs,hcs,XZ,Ic⟩:=Le has;refine λho dh V_ X0 _=>#[ho,dh,rfl,aa,λH1 H_ kp=>#[rfl,?_]];have s1:aq H H1:=aq.made V_ X0 kp;exists aD _,λD hD=>?_;have s2:=aq.upd (o:= .lst []) hD;have Ea:=same_none s1 hD;have PV:=s1.trans s2;have Vf:ho≠D:=λz=>by rw [z,hD] at H_;cases H_
 exists _,U,na,l,cs,U,PV.seq hs,hl,hcs,Ic,λL ws cls H3 nL s3 hL Fy hA=>?_;have X1:=hA.len;have hcl:=Fy.len;have X2:L≠D:=λz=>by rw [z,aa] at nL;cases nL
 have Sn:=s3 _ _ (s2 _ _ H_);have Vg:L≠ho:=λz=>by rw [z,Sn] at hL;cases hL
 have lP:=s3 _ _ (aa (H:=H1) (a:=D) (o:= .lst []));have hfin:=Fv hcs Fy;exists L,U,#[ws,cz.of hL],cE (K:=K) (a:=L) (xs:=ws) (λi σ H'=> ∃(v3 v4:Option V) (lv:V) (st:State) (acc:List Int),σ= [some (.ref na),some (.ref ho),some (.ref D),v3,v4]/\(∀b o,H3 b=some o->b≠D->b≠ho->H' b=some o)/\bX c H3 H'/\H' D=some (.lst (zV acc))/\H' ho=some (.ins c.hold dh [("loaded",lv)])/\HV K c H' lv st/\acc.length<=20001 * i/\acc++told (ans st (cls.drop i))=answers l)
  #[none,none,.cp,{},[],rfl,λb o e _ _=>e,bX.refl,lP,Sn,.inl #[rfl,rfl],aD _,by rw [kQ,hfin];rfl] (λi σ H' _ #[_,_,_,_,_,_,kp,_]=>cz.of (kp _ _ hL X2 Vg)) ?_ ?_
 . rintro i x σ H' hi ⟨v3,v4,lv,st,acc,rfl,Vh,im,lz,hh',hH,hacc,hev⟩;obtain ⟨cl,hcl',hx⟩:=hA.get hi;have hil:i < ws.length:=(bj.mp hi).1;have hal:=Np hH.ok cl;rw [Lh (dZ hcl'),Ie] at hev;exists _,U,_,U,ho,dh,lv,st,x,cl,U,hh',hH,hx.Y C im,λal H4 lv' Tj sb X3 X4 Sq=>?_;have Hz:bX c H' H4:=sb.UA hh';have m4:H4 D=some (.lst (zV acc)):=sb _ _ lz (bY Vf);exists _,U,mR m4,_,U,al,_,U,.inl (cz.of Sq),D,_,_,U,U,m4,by rw [cB];omega,?_;have Vi:al≠D:=λz=>by rw [z,lz] at Tj;cases Tj
   have V':al≠ho:=λz=>by rw [z,hh'] at Tj;cases Tj
   refine mD _ λH5 eH=>?_;have Iu:H5 D=some (.lst (zV (acc++ [((encode (Vaprbb.step st cl).2).length:Int)]))):=by
    rw [eH,aa,cB,c4];rfl
   have k5:∀b o,H4 b=some o->b≠D->H5 b=some o:=λb o e ne=>by rw [eH,aA ne];exact e
   have Wa:bX c H4 H5:=by rw [eH];exact bX.upd m4 rfl
   clear eH;have Vj:=k5 _ _ Sq Vi;exists _,U,mR Iu,_,U,D,al,_,_,U,U,Iu,Vj,by rw [cB,cB,ao,aC];omega,?_;have dJ:bX c H5 (upd H5 D (.lst (zV (acc++ [((encode (Vaprbb.step st cl).2).length:Int)])++zV (encode (Vaprbb.step st cl).2)))):=bX.upd Iu rfl;exists _,_,lv',(Vaprbb.step st cl).1,acc++ [((encode (Vaprbb.step st cl).2).length:Int)]++encode (Vaprbb.step st cl).2,U,λb o e n1 n2=>?_,im.trans (Hz.trans (Wa.trans dJ)),?_,?_,X4.Y C (Wa.trans dJ),?_,?_
   . rw [aA n1];exact k5 _ _ (sb _ _ (Vh b o e n1 n2) n2) n1
   . rw [aa,<-c4]
   . rw [aA Vf];exact k5 _ _ X3 Vf
   . rw [ao,ao,aC];omega
   . rw [<-hev];simp only [bw,kK,kP]
 . rintro σ H' ⟨v3,v4,lv,st,acc,rfl,Vh,im,lz,hh',hH,hacc,hev⟩;rw [X1,fK] at hev;have hev:acc++ []=answers l:=hev;rw [bH] at hev;subst hev;exists _,U,q D H' Ea (λb o e=>?_) lz;exact Vh b o (s3 _ _ (s2 _ _ (s1 _ _ e))) (λz=>by rw [z,Ea] at e;cases e) (λz=>by rw [z,V_] at e;cases e)
end Lot
section
namespace Lot
open PySem PySem.W PyProof.Rows L2
noncomputable def kObj (P:Params) (a:Addr):Obj:=((sh.tree_1160 P).get a).getD default
def Vk:List Addr:= [3,27,28,30,31,35,41,42,48,49,55,56,62,63,69,70,76,77,83,84,90,91,104,105,107,108,125,126,128,129,146,147,149,150,167,168,170,171,188,189,191,192,209,210,212,213,221,222,226,227,233,234,235,236,237,250,251,253,254,264,265,271,272,278,279,285,286,292,293,299,300,306,307,313,314,320,321,327,328,332,333,339,340,346,347,360,361,367,368,374,375,381,382,388,389,395,396,402,403,409,410,416,417,419,420,430,431,437,438,444,445,451,452,458,459,460,461,462,468,469,475,476,482,483,489,490,496,497,503,504,510,511,517,518,524,525,531,532,538,539,545,546,552,553,559,560,566,567,573,574,580,581,587,588,594,595,601,602,608,609,615,616,622,623,629,630,636,637,643,644,650,651,657,658,664,665,671,672,676,677,678,679,685,686,692,693,699,700,704,705,709,710,716,717,723,724,730,731,737,738,744,745,751,752,758,759,765,766,770,771,777,778,784,785,791,792,805,806,808,809,817,818,822,823,827,828,832,833,837,838,842,843,847,848,852,853,857,858,864,865,871,872,878,879,885,886,890,891,904,905,907,908,923,924,926,927,944,945,947,948,958,959,965,966,972,973,979,980,986,987,993,994,1000,1001,1007,1008,1014,1015,1021,1022,1028,1029,1035,1036,1042,1043,1049,1050,1056,1057,1061,1062,1068,1069,1075,1076,1082,1083,1089,1090,1094,1095]
noncomputable def KK (P:Params):Frag:=Vk.map λa=>(a,kObj P a)
def zn {f:Addr->Obj}:∀{as:List Addr} {a:Addr} {o:Obj},(as.map λa=>(a,f a)).lookup a=some o->a∈as/\o=f a
 | [],_,_,h=>by cases h
 | b :: as,a,o,h=>by
  rw [bI,eO] at h;cases e:a == b with
  | true=>
   rw [e] at h;have e:=bO.mp e;subst e;exists bi,(bF h).symm
  | false=>
   rw [e] at h;obtain ⟨h1,h2⟩:=zn h;exists aW _ h1,h2
def live (o:Obj):Bool:=match o.data with
 | .freed=>false
 | _=>true
def Nq (P:Params):Vk.all (λa=>live (kObj P a))=true:=by kernel_rfl
def Sr:Vk.all (λa=>Nat.blt a 1096)=true:=by decide+kernel
def Ss (P:Params):(KK P).In (hp1 P):=λa o h=>by
 obtain ⟨ha,rfl⟩:=zn h;have h1:=c7.mp (Nq P) a ha;have h2:a < 1096:=by have:=c7.mp Sr a ha;simpa [Nat.blt_eq] using this
 have h3:(hp1 P).objs[a]? = some (kObj P a):=by
  show (absHeap (sh.tree_1160 P) 1096 {}).objs[a]? = _;rw [absHeap_at,ah h2];rfl
 unfold Heap.get?;rw [h3];unfold live at h1;generalize kObj P a=ob at *;obtain ⟨oc,od,dt,sl⟩:=ob;cases dt <;> first | rfl | cases h1
noncomputable def oS (P:Params) (a:Addr):FuncData:=match (kObj P a).data with
 | .func fd=>fd
 | _=>default
def FA {P:Params} {f:Addr} {x q:Str} {st:Stmt} (h1:(KK P).lookup f=some #[(kObj P f).cls,(kObj P f).dict,.func (oS P f),(kObj P f).slots]:=by kernel_rfl) (h3:oS P f=fnOf x q (fj st) (cS st) (aX st) .none (oS P f).kwdefaults (oS P f).doc (oS P f).pyModule (oS P f).annotations (oS P f).code (oS P f).closureTuple:=by kernel_rfl)
 (h4:codeIn (KK P) (oS P f).code q=true:=by kernel_rfl) (h5:keepIn (KK P) (.ref f)=true:=by kernel_rfl):Fun (KK P) x q st f (oS P f):=#[#[_,_,_,_,_,_,_,_,_,h3,h1,h4],h5]
def tokOf:Option (Option Value)->PySem.Tok
 | some (some (.int _ t))=>t
 | some (some (.str _ t))=>t
 | _=>0
noncomputable def Nr (P:Params) (a:Addr):Array Value:=match (kObj P a).data with
 | .seq i _=>i
 | _=> #[]
noncomputable def Su (P:Params) (a:Addr):Nat:=match (kObj P a).data with
 | .seq _ n=>n
 | _=>0
def Ip:Value->Bool
 | .int _ _=>true
 | .str _ _=>true
 | _=>false
def DZ {u:Value} (h:Ip u=true):RelV (toV u) u:=by
 cases u <;> first | exists _,U | cases h
def AT:∀{vs:List Value},vs.all Ip=true->Vals (vs.map toV) vs
 | [],_=> .nil
 | u :: vs,h=>by
  rw [iZ,c6] at h;exact .cons (DZ h.1) (AT h.2)
def kt_at {P:Params} {a:Addr} {xs:List V} (h1:(KK P).lookup a=some (kObj P a):=by kernel_rfl) (h2:(kObj P a).cls= .type "tuple" :=by kernel_rfl) (h3:(kObj P a).data= .seq (Nr P a) (Su P a):=by kernel_rfl) (h4:Nat.ble (Nr P a).size sizeLine=true:=by kernel_rfl)
 (h5:(Nr P a).toList.all Ip=true:=by kernel_rfl) (h6:(Nr P a).toList.map toV=xs:=by kernel_rfl):KT (KK P) a xs:=#[_,_,_,h1,h2,h3,fH h4,h6 ▸ AT h5]
noncomputable def Qc (P:Params) (a:Addr):Array DictEntry:=match (kObj P a).data with
 | .dict es _=>es
 | _=> #[]
noncomputable def X5 (P:Params) (a:Addr):Nat:=match (kObj P a).data with
 | .dict _ n=>n
 | _=>0
def FE:Value->Key
 | .int i _=> .inl i
 | .str s _=> .inr s
 | _=> .inl 0
def Oo {v:Value} (h:Ip v=true):kZ (FE v) v=true:=by
 cases v <;> first | exact Aa _ _ | exact Ab _ _ | cases h
def D0 (w:World):∀{l:List DictEntry} (k:Key),l.all (λe=>Ip e.key && Ip e.val)=true->ji (cy (l.map λe=>(FE e.key,toV e.val)) k) ((l.find? λe=>kZ k e.key).map (·.val))
 | [],k,_=>au
 | e :: l,k,h=>by
  rw [iZ,c6,c6] at h;have ih:=D0 w (l:=l) k h.2;unfold cy at ih ⊢;rw [bI,dU,dU];have hk:=Oo h.1.1;by_cases ek:FE e.key=k
  . rw [pj ek,<-ek,hk];exact DZ h.1.2
  . rw [dD ek];have:kZ k e.key=false:=by
     cases z:kZ k e.key with
     | false=>rfl
     | true=>exact absurd ((cC (PySem.Challenge.pw_lotprograms_s01_answers) w).inj e.key (FE e.key) k hk z) ek
    rw [this];exact ih
def Op {Pr:Program} {w:World} {a:Addr} {aG:List (Key×V)} (h0:(a == sysModules)=false) (h1:(KK w.params).lookup a=some (kObj w.params a)) (h2:(kObj w.params a).cls= .type "dict") (h3:(kObj w.params a).dict=none) (h4:(kObj w.params a).slots=#[])
 (h5:(kObj w.params a).data= .dict (Qc w.params a) (X5 w.params a)) (h6:(Qc w.params a).toList.all (λe=>Ip e.key && Ip e.val)=true) (h7:(Qc w.params a).toList.map (λe=>(FE e.key,toV e.val))=aG)
 (h8:(Qc w.params a).toList.map (λe=>e.hash)=(Qc w.params a).toList.map (λe=>QG w (FE e.key))):CD (KK w.params) Pr w a aG:=by
 exists h0,_,_,_,h1,#[h2,h3,h4],h5,λe he=>?_,λk=>?_
 . have he:e∈(Qc w.params a).toList:=by simpa using he
   have h9:=c7.mp h6 e he;rw [c6] at h9;exists FE e.key,Oo h9.1,List.map_inj_left.mp h8 e he
 . rw [<-h7];have:=D0 w (l:=(Qc w.params a).toList) k h6;unfold findBy;rw [<-ui];exact this
def Qe {w:World} {mg:Str->Option Value} {h:Heap} (X:(KK w.params).In h) (G:h.Ns mainGlobals mg) {x:Str} {st:Stmt} {f:Addr} (F:Fun (KK w.params) x x st f (oS w.params f):=by exact FA) (e:nsIn (KK w.params) mainGlobals x=some (some (.ref f)):=by kernel_rfl):VH (KK w.params) mg x st f (oS w.params f):=#[F,mg_of X G e]
def int_at {w:World} {mg:Str->Option Value} {h:Heap} (X:(KK w.params).In h) (G:h.Ns mainGlobals mg) {x q:Str} {C:Addr} {st:Stmt} {f:Addr} (F:Fun (KK w.params) "__init__" q st f (oS w.params f):=by exact FA) (e1:makesIn (KK w.params) C=true:=by kernel_rfl) (e2:findIn (KK w.params) (.ref C) "__init__" = some (some (.ref f)):=by kernel_rfl)
 (e3:isFn (KK w.params) (.ref f)=true:=by kernel_rfl) (e4:keepIn (KK w.params) (.ref C)=true:=by kernel_rfl) (e:nsIn (KK w.params) mainGlobals x=some (some (.ref C)):=by kernel_rfl):Ev (KK w.params) mg x q C st f (oS w.params f):=#[F,#[e1,e2,e3,e4],mg_of X G e]
def oU {w:World} {m q:Str} {C:Addr} {st:Stmt} {f:Addr} (cl:ku (KK w.params) C) (F:Fun (KK w.params) m q st f (oS w.params f):=by exact FA) (e1:findIn (KK w.params) (.ref C) m=some (some (.ref f)):=by kernel_rfl) (e2:isFn (KK w.params) (.ref f)=true:=by kernel_rfl):Jv (KK w.params) m q C st f (oS w.params f):=#[F,cl,#[e1,e2,F.kp]]
section
variable {w:World} {mg:Str->Option Value} {h:Heap} (X:(KK w.params).In h) (G:h.Ns mainGlobals mg) {x:Str}
include X G
def cP {i:Int} (e:nsIn (KK w.params) mainGlobals x=some (some (.int i (tokOf (nsIn (KK w.params) mainGlobals x)))):=by kernel_rfl):GI mg x i:=#[_,mg_of X G e]
def wy {i:Str} (e:nsIn (KK w.params) mainGlobals x=some (some (.str i (tokOf (nsIn (KK w.params) mainGlobals x)))):=by kernel_rfl):GS mg x i:=#[_,mg_of X G e]
def tQ {a:Addr} (e:nsIn (KK w.params) mainGlobals x=some (some (.ref a)):=by kernel_rfl):GR mg x a:=mg_of X G e
def lN (e:nsIn (KK w.params) mainGlobals x=some none:=by kernel_rfl):mg x=none:=mg_none_of X G e
end
def c5 {K:Frag} {C:Addr} {l:List Str} (h:(l.all λf=>findIn K (.ref C) f == some none)=true):∀f∈l,dg K C f:=λf hf=>bO.mp (c7.mp h f hf)
def cA:Cl:=#[254,420,108,129,150,171,192,213,809,908,927,948,31]
def gA:GA:=#[35,235,236,237,460,461,462,678,679]
section
variable {w:World}
def Li {Pr:Program}:CD (KK w.params) Pr w gA.signs uX:=Op (by kernel_rfl) (by kernel_rfl) (by kernel_rfl) (by kernel_rfl) (by kernel_rfl) (by kernel_rfl) (by kernel_rfl) (by kernel_rfl) (by kernel_rfl)
def Qg {Pr:Program}:CD (KK w.params) Pr w gA.ops wB:=Op (by kernel_rfl) (by kernel_rfl) (by kernel_rfl) (by kernel_rfl) (by kernel_rfl) (by kernel_rfl) (by kernel_rfl) (by kernel_rfl) (by kernel_rfl)
def Lj:ku (KK w.params) cA.tok:=#[by kernel_rfl,by kernel_rfl,by kernel_rfl,by kernel_rfl]
def fA:ku (KK w.params) cA.rd:=#[by kernel_rfl,by kernel_rfl,by kernel_rfl,by kernel_rfl]
def zR:ku (KK w.params) cA.ex:=#[by kernel_rfl,by kernel_rfl,by kernel_rfl,by kernel_rfl]
def Cd:ku (KK w.params) cA.par:=#[by kernel_rfl,by kernel_rfl,by kernel_rfl,by kernel_rfl]
def D1:ku (KK w.params) cA.fn:=#[by kernel_rfl,by kernel_rfl,by kernel_rfl,by kernel_rfl]
def Lk:ku (KK w.params) cA.lh:=#[by kernel_rfl,by kernel_rfl,by kernel_rfl,by kernel_rfl]
def zo:ku (KK w.params) cA.obs:=#[by kernel_rfl,by kernel_rfl,by kernel_rfl,by kernel_rfl]
def FG:ku (KK w.params) cA.prog:=#[by kernel_rfl,by kernel_rfl,by kernel_rfl,by kernel_rfl]
def Ig:ku (KK w.params) cA.Gg:=#[by kernel_rfl,by kernel_rfl,by kernel_rfl,by kernel_rfl]
def Nt:ku (KK w.params) cA.call:=#[by kernel_rfl,by kernel_rfl,by kernel_rfl,by kernel_rfl]
def Ih:ku (KK w.params) cA.ld:=#[by kernel_rfl,by kernel_rfl,by kernel_rfl,by kernel_rfl]
def Ii:ku (KK w.params) cA.hold:=#[by kernel_rfl,by kernel_rfl,by kernel_rfl,by kernel_rfl]
def Vl:CT (KK w.params) cA where
 tok:=Lj
 JA:=c5 (l:= ["form","word","number","place","behind"]) (by kernel_rfl)
 NY:=rfl
 rd:=fA
 Pq:=c5 (l:= ["tokens","taken"]) (by kernel_rfl)
 ex:=zR
 Pt:=c5 (l:= ["form","word","number","place","parts","fractions","bounds"]) (by kernel_rfl)
 Ry:=rfl
 par:=Cd
 NZ:=c5 (l:= ["name","place","kind"]) (by kernel_rfl)
 N0:=rfl
 fn:=D1
 RA:=c5 (l:= ["name","place","parameters","kind","body"]) (by kernel_rfl)
 Pu:=rfl
 lh:=Lk
 JB:=c5 (l:= ["name","place","written","expression"]) (by kernel_rfl)
 JC:=rfl
 obs:=zo
 N4:=c5 (l:= ["expression"]) (by kernel_rfl)
 N5:=rfl
 prog:=FG
 JD:=c5 (l:= ["title","budget","functions","statements","told"]) (by kernel_rfl)
 JE:=rfl
 Gg:=Ig
 N6:=c5 (l:= ["title","lets","functions","parameters"]) (by kernel_rfl)
 RB:=rfl
 call:=Nt
 JF:=c5 (l:= ["number","asked","text"]) (by kernel_rfl)
 JG:=rfl
 ld:=Ih
 RC:=c5 (l:= ["program","let_kinds","form_bytes","plain_bytes","let_names","function_names","called"]) (by kernel_rfl)
 RD:=rfl
 hold:=Ii
 JH:=c5 (l:= ["loaded"]) (by kernel_rfl)
 u_:=λH a dx fs e=> .ins e Lk (by kernel_rfl) (by kernel_rfl) (by kernel_rfl) (by kernel_rfl)
 va:=λH a dx fs e=> .ins e zo (by kernel_rfl) (by kernel_rfl) (by kernel_rfl) (by kernel_rfl)
 pM:=by kernel_rfl
 pN:=by kernel_rfl
def Vm {Pr:Program} {mg:Str->Option Value} {h:Heap} (X:(KK w.params).In h) (G:h.Ns mainGlobals mg):GT Pr w (KK w.params) mg gA where
 jS:=cP X G
 jp:=cP X G
 Bg:=cP X G
 md:=cP X G
 xY:=cP X G
 gy:=cP X G
 nM:=cP X G
 jT:=cP X G
 qk:=cP X G
 At:=cP X G
 Ew:=cP X G
 Gk:=cP X G
 Au:=cP X G
 uY:=cP X G
 pJ:=cP X G
 pK:=cP X G
 uZ:=cP X G
 lm:=cP X G
 vN:=cP X G
 jU:=cP X G
 lq:=cP X G
 jV:=cP X G
 jW:=cP X G
 vO:=cP X G
 EA:=cP X G
 Gm:=cP X G
 Gn:=cP X G
 EB:=cP X G
 EC:=cP X G
 ED:=cP X G
 CV:=cP X G
 Go:=cP X G
 Gp:=cP X G
 Jx:=cP X G
 vP:=cP X G
 u0:=cP X G
 sk:=cP X G
 xZ:=wy X G
 iH:=wy X G
 iI:=wy X G
 Ey:=wy X G
 nO:=wy X G
 Ez:=wy X G
 Jw:=wy X G
 ql:=wy X G
 x3:=tQ X G
 CW:=tQ X G
 gT:=tQ X G
 x4:=tQ X G
 x5:=tQ X G
 qL:=tQ X G
 iT:=tQ X G
 qm:=tQ X G
 sm:=tQ X G
 qM:=kt_at
 CY:=kt_at
 x6:=kt_at
 x8:=kt_at
 qN:=kt_at
 qo:=kt_at
 so:=kt_at
 Bh:=Li
 CZ:=Qg
 NQ:=lN X G
 sr:=lN X G
 NR:=lN X G
 NS:=lN X G
 NT:=lN X G
 NU:=lN X G
 NV:=lN X G
 NW:=lN X G
 Jy:=lN X G
 Jz:=lN X G
 NX:=lN X G
 vQ:=lN X G
 Gq:=lN X G
end
end Lot
end
namespace Lot
open PySem PySem.W PyProof.Rows L2
abbrev FH:Stmt:=inClass (top 1) 0
abbrev Ij:Stmt:=top 189
section
variable {w:World} {mg:Str->Option Value} {h:Heap} (X:(KK w.params).In h) (G:h.Ns mainGlobals mg)
def Oq {P:Params} {f:Addr} {x q:Str} {st:Stmt} (h1:(KK P).lookup f=some #[(kObj P f).cls,(kObj P f).dict,.func (oS P f),(kObj P f).slots]) (h3:oS P f=fnOf x q (fj st) (cS st) (aX st) .none (oS P f).kwdefaults (oS P f).doc (oS P f).pyModule (oS P f).annotations (oS P f).code (oS P f).closureTuple):
 (KK P).lookup f=some #[(kObj P f).cls,(kObj P f).dict,.func (fnOf x q (fj st) (cS st) (aX st) .none (oS P f).kwdefaults (oS P f).doc (oS P f).pyModule (oS P f).annotations (oS P f).code (oS P f).closureTuple),(kObj P f).slots]:=by
 rw [<-h3];exact h1
def Sv:d9 ["self","code","place"] ["self","code","place"] (aX FH):=#[rfl,rfl,rfl,by decide+kernel,rfl,by decide+kernel,by decide+kernel]
def Sw:d9 ["fault"] ["fault"] (aX Ij):=#[rfl,rfl,rfl,by decide+kernel,rfl,by decide+kernel,by decide+kernel]
def Vn:Jk (KK w.params) 28 (oS w.params 28).code (aX FH):=
 #[#[fj FH,cS FH,_,_,_,_,_,_,_,_,_,_,_,_,_,_,_,_,Oq (st:=FH) (by kernel_rfl) (by kernel_rfl),by kernel_rfl,λus hl=>match us,hl with | [_,_,_],_=>rfl,rfl],Sv,by kernel_rfl]
include X G
def Sx:Flt (KK w.params) mg cA.cf 28 (oS w.params 28).code (aX FH):=#[by kernel_rfl,Vn,mg_of X G (v:= .ref 31) (by kernel_rfl),by kernel_rfl]
def Qh:Mm (KK w.params) mg 1083 (oS w.params 1083).code (aX Ij):=
 #[#[fj Ij,cS Ij,_,_,_,_,_,_,_,_,_,_,_,_,_,_,_,_,Oq (st:=Ij) (by kernel_rfl) (by kernel_rfl),by kernel_rfl,λus hl=>match us,hl with | [_],_=>rfl,rfl],Sw,rfl,mg_of X G (v:= .ref 1083) (by kernel_rfl),by kernel_rfl]
def k_all {Pr:Program} {base:Heap}:kh Pr w (KK w.params) mg base cA gA 28 (oS w.params 28).code (aX FH) 1083 (oS w.params 1083).code (aX Ij) where
 T:=Vm X G
 C:=Vl
 FT:=Sx X G
 FN:=Qh X G
 Av:=mg_of X G (v:= .ref 171) (by kernel_rfl)
 fn:=by unfold fns;repeat (first | refine List.forall_mem_cons.2 #[#[_,Qe X G],?_] | exact List.forall_mem_nil _)
 ls:=#[251,_,int_at X G]
 jX:=#[361,_,int_at X G]
 nP:=#[368,_,oU fA]
 qt:=#[375,_,oU fA]
 qu:=#[382,_,oU fA]
 mH:=#[389,_,oU fA]
 qw:=#[396,_,oU fA]
 jq:=#[403,_,oU fA]
 ik:=#[410,_,oU fA]
 jY:=#[417,_,oU fA]
 gM:=#[105,_,int_at X G]
 il:=#[126,_,int_at X G]
 iO:=#[147,_,int_at X G]
 nQ:=#[168,_,int_at X G]
 jr:=#[189,_,int_at X G]
 jt:=#[210,_,int_at X G]
 jZ:=#[806,_,int_at X G]
 mI:=#[905,_,int_at X G]
 j0:=#[945,_,int_at X G]
 j2:=#[924,_,int_at X G]
end
def Ln {w:World} {h h':Heap} (Z':(KK w.params).In h) (k:∀b o,h.get? b=some o->h'.get? b=some o):(KK w.params).In h':=λa o e=>k _ _ (Z' a o e)
def Nu:pr.bare:=#[rfl,rfl,rfl,rfl,rfl,by decide+kernel]
def Lp:(chainsOk qv && opensWell pr)=true:=by decide+kernel
end Lot
open PySem PySem.W PyProof.Rows
theorem PySem.Challenge.cw_lotprograms_s01_answers_holds : PySem.Challenge.rw_lotprograms_s01_answers.Holds :=
 by
 refine holds_os (r:=PySem.Challenge.rw_lotprograms_s01_answers) (q:=Lot.qv) (XP:=λ_ _=>True) (YP:=λw h=>(Lot.KK w.params).In h) (kwd:= []) Lot.left (λw s e=>e ▸ Lot.Ss w.params) (λw h h' Z' k=>Lot.Ln Z' k) (λ_ _=>au) (λ_ _ _ _ _=>au)
  (by rfl) (by rfl) (by rfl) (λs e=>recFacts_of (g9.mp e).2) (λas hp=>OpenSpec.pre_hasAll Sd.said hp) Sd.said Lot.Lp Lot.Nu #[[.list [.int 1]],by decide+kernel,by decide+kernel] ?_
 refine L2.Hm (r:=PySem.Challenge.rw_lotprograms_s01_answers) (k:=113) (K:=Lot.KK) (CX:=λ_=>L2.CL) (ps:= ["calls"]) (sp:=λw=>Lot.zm (Lot.KK w.params) Lot.cA) Sd.said rfl rfl #[rfl,by decide,by decide] (λw h Z'=>Z') ?F ?S (λ_ _ _ _ _ z=>z)
 case F=>
  intro w mg fa h Z' KX G Uz base hb hg;obtain ⟨f,fd,h1,h2,h3,h4⟩:=Lot.Fz (Lot.k_all (Pr:=PySem.Challenge.rw_lotprograms_s01_answers.prog) (base:=base) KX G);have e:=Uz.symm.trans h1;cases e;exists fd,h4,h3
 case S=>
  intro w H xs a hO hwi Ic hx;cases hx with
  | cons h1 h2=>
   cases h2;cases h1 with
   | lst hs ha=>
    have e:=L2.Gb a.1 _ ha;subst e;have q:((Codec.inLen 0 17000 a.1 && a.1.all (Codec.inInt (Int.negSucc 999999999999999999) (Int.ofNat 1000000000000000000))) && true)=true:=hwi;rw [c6,c6] at q;exists _,a.1,U,hs,(Codec.inNat_iff.mp q.1.1).2,Ic,λD H' _ _ hD=> .lst (L2.cz.of hD) (L2.Ga _)
