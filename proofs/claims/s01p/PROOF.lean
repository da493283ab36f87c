import PyProof.Rows.All
import PyProof.ExcArgsOwn
import PyProof.InstStoreFacts
import PyProof.StationsW
import PyProof.RulesAs
import PyProof.ExcAttrAll.Exception
import PyProof.Commute
import OpenK.KMake
import Wide.FinOn
import PyProof.EqAt
import PyProof.EqKinds
import PyProof.TupleCall
import KE.BitLaws
import KE.OsHead
import Open.SpecLaws
import Wide.Once
import Open.Tree
import Open.Boot
import PySem.Challenge.RW_lotprograms_s01_answers
import OpenK.KWalk
import OpenK.KMore
import OpenK.KLine
import KE.KIsAll
import KE.KDictOf
import KE.KStateDown
import KE.KTurns
set_option Elab.async false
set_option compiler.extract_closed false
set_option linter.all false
set_option maxRecDepth 100000
set_option maxHeartbeats 0
noncomputable section
def U.{u} {a:Sort u} {b:a}:b=b:=rfl
local macro_rules | `(tactic| exists $xs,*) => `(tactic| refine ⟨$xs,*⟩)
local macro_rules | `(#[$x,$xs,*]) => `(⟨$x,$xs,*⟩)
inductive QT {A B:Type} (p:A->B->Prop):Prop | mk a b (h:p a b):QT p
inductive QU {A B C:Type} (p:A->B->C->Prop):Prop | mk a b c (h:p a b c):QU p
inductive QV {A B C D:Type} (p:A->B->C->D->Prop):Prop | mk a b c d (h:p a b c d):QV p
local macro_rules
 | `(∃ $a:ident $b:ident,$p) => `(QT λ$a $b=>$p)
 | `(∃ $a:ident $b:ident $c:ident,$p) => `(QU λ$a $b $c=>$p)
 | `(∃ $a:ident $b:ident $c:ident $d:ident,$p) => `(QV λ$a $b $c $d=>$p)
def Ud {A:Prop} (h:∀G:Prop,(A->G)->G):A:=h A id
local macro_rules | `(tactic| obtain ⟨$a,$b,$c,$p,*⟩ := $t:term) => `(tactic| first | (refine Ud λ_ hG=> ?_;(rcases $t:term with ⟨$a,$b,$c,$p,*⟩) <;> (refine hG ?_;clear hG)) | rcases $t:term with ⟨$a,$b,$c,$p,*⟩)
local macro_rules | `(∅) => `(by decide)
local macro_rules | `(#v[]) => `(by kernel_rfl)
local macro_rules | `(~~~$x) => `(by simpa using $x)
local macro_rules | `(tactic| lia) => `(tactic| first | lia (verbose:=false) | omega)
local macro_rules | `(tactic| cases $h:ident) => `(tactic| first | subst $h:ident | (injection $h:ident with h1 h2 h3;cases h1;cases h2;cases h3) | (injection $h:ident with h1 h2;cases h1;cases h2) | (injection $h:ident with h1;cases h1) | injection $h:ident | cases ($h))
local macro_rules | `(tactic| ext $h:ident $[$p:rcasesPat]*) => do
  let q ← p.mapM λp=>`(Lean.Parser.Tactic.rcasesPatLo| $p:rcasesPat)
  `(tactic| obtain ⟨$q,*⟩ := $h)
def ao:=@List.length_append
def aC:=@List.length_singleton
def ae:=@if_neg
def ah:=@if_pos
def aB:=@List.length_map
def bj:=@List.getElem?_eq_some_iff
def aO:=@Bool.false_ne_true
def aF:=@List.mem_cons
def az:=@Nat.le_refl
def bc:=@List.mem_of_getElem?
def aW:=@List.mem_cons_of_mem
def bB:=@List.getElem?_eq_getElem
def aI:=@PySem.Heap.lt_size
def aw:=@PySem.wpAny_bind
def aT:=@List.length_cons
def aD:=@Nat.zero_le
def bi:=@List.mem_cons_self
def bK:=@PySem.Heap.get?_push_of_some
def bw:=@Nat.lt_of_lt_of_le
def bz:=@List.append_assoc
def bA:=@List.getElem?_map
def aP:=@Nat.le_trans
def bE:=@Option.some.inj
def a9:=@Nat.ne_of_lt
def bH:=@List.append_nil
def bF:=@List.map_cons
def cb:=@List.size_toArray
def ej:=@List.take_succ_eq_append_getElem
def bo:=@PySem.wpAny_pure
def b8:=@Bool.eq_iff_iff
def cg:=@List.mem_append
def cJ:=@PySem.Heap.get?_push_size
def dn:=@Nat.le_of_ble_eq_true
def c4:=@beq_eq_false_iff_ne
def bO:=@beq_iff_eq
def bq:=@congrArg
def cK:=@List.take_length
def ci:=@List.mem_map
def cS:=@List.length_drop
def bT:=@PySem.wpAny_mono
def dD:=@List.flatMap_append
def c5:=@Bool.and_eq_true
def c6:=@List.all_eq_true
def dr:=@decide_eq_true_eq
def dE:=@List.mem_singleton
def em:=@List.contains_iff_mem
def du:=@Nat.lt_succ_self
def dv:=@List.not_mem_nil
def cM:=@Nat.lt_irrefl
def eQ:=@List.mem_append_right
def cB:=@List.map_nil
def c7:=@PySem.Heap.size_push
def dS:=@List.flatMap_cons
def dG:=@decide_eq_false
def dU:=@Nat.le_add_right
def et:=@PySem.wpAny_loadPart_at
def gC:=@Option.map_eq_some_iff
def dW:=@List.find?_cons
def dX:=@List.map_append
def c9:=@List.map_map
def fO:=@List.contains_cons
def eA:=@UInt8.toNat.inj
def eR:=@List.lookup_cons
def eS:=@Nat.succ_le_succ
def bX:=@Ne.symm
def ig:=@Bool.and_eq_true_iff
def fP:=@List.drop_length
def jx:=@PySem.Heap.get?_update_other
def jy:=@List.drop_eq_nil_of_le
def fQ:=@List.length_nil
def lu:=@List.mem_of_find?_eq_some
def ik:=@PySem.wpAny_Call_Name_kw
def jz:=@PySem.F.attrBase_Exception
def fR:=@List.drop_drop
def eT:=@Int.le_trans
def oJ:=@List.takeWhile_cons_of_pos
def il:=@List.length_take
def oK:=@List.getElem?_eq_none_iff
def lw:=@PySem.wpAny_typeLookup_exc
def fU:=@Nat.ne_of_gt
def ip:=@List.mem_filter
def iq:=@PySem.wpAny_execs_nil
def ly:=@List.filterMap_cons
def lz:=@Array.length_toList
def gD:=@Nat.le_of_eq
def jA:=@PySem.wpAny_passesOwn
def ir:=@Bool.or_false
def oM:=@List.mem_append_left
def oN:=@Nat.mul_le_mul_right
def iw:=@Nat.le_of_lt
def lB:=@PySem.wpAny_execs_cons
def lC:=@beq_self_eq_true
def yt:=@PySem.plainObj_wpAny_Assign_Attribute
def jB:=@Bool.false_or
def lD:=@List.nodup_cons
def lE:=@Nat.le_add_left
def lF:=@Int.min_le_left
def lG:=@Int.le_max_left
def gl:=@PySem.wpAny_field
def qD:=@List.getElem?_set_self
def lH:=@PySem.wpAny_truthy_bool
def lI:=@Option.isSome_map
def lJ:=@List.contains_nil
def gZ:=@PySem.codeAny_mono
def jo:=@List.nodup_nil
def lK:=@List.cons_append
def lL:=@List.cons_ne_nil
def gm:=@Nat.max_le
def vq:=@Array.getElem?_eq_some_iff
def vt:=@List.getElem?_append_right
def vw:=@PySem.wpAny_newFunctionEnv_cells
def jp:=@List.all_cons
def jq:=@List.any_cons
def qE:=@List.map_congr_left
def lM:=@List.of_mem_zip
def vy:=@List.getElem?_append_left
def lN:=@Bool.or_eq_true
def vz:=@List.drop_eq_getElem_cons
def lO:=@List.nil_append
def vA:=@Option.isSome_iff_exists
def qF:=@Bool.false_eq_true
def qG:=@PySem.tupleKind_room_in1
def qH:=@List.getElem?_drop
def lP:=@List.drop_zero
def lQ:=@List.take_zero
def vB:=@PySem.F.plainAttrs_list
def vC:=@PySem.F.slot_list_index
def vD:=@Nat.add_sub_cancel_left
def qI:=@Int.toNat_natCast
def qJ:=@Nat.le_of_succ_le
def qK:=@of_decide_eq_true
def qL:=@Nat.le_succ_of_le
def vE:=@List.takeWhile_sublist
def AB:=@List.findIdx?_eq_some_iff_getElem
def vF:=@PySem.Str.ofString_eq_toList
def lR:=@PySem.wpAny_standAt
def lS:=@List.sum_cons
def qM:=@Int.min_le_right
def qN:=@Int.le_max_right
def qO:=@List.getElem_mem
def qP:=@List.any_eq_true
def qQ:=@List.flatMap_map
def vG:=@PySem.codeAny_call_function
def AC:=@List.takeWhile_append_dropWhile
def jr:=@PySem.wpAny_call
def lT:=@Nat.add_comm
def vH:=@PySem.Heap.get?_none_of_le
def vI:=@List.getElem?_set_ne
def qR:=@PySem.pushCells_keeps
def qS:=@Option.map_some
def lU:=@Nat.lt_trans
def qT:=@Nat.min_eq_left
def qU:=@List.length_zip
def AD:=@List.find?_eq_some_iff_getElem
def AF:=@List.Nodup.length_le_of_subset
def vJ:=@PySem.wpAny_isSubtype_exc
def vK:=@List.length_flatMap
def gn:=@if_true
def qV:=@decide_eq_true
def AG:=@PySem.W.length_le_weightAllW
def qW:=@Option.or_none
def lV:=@PySem.sizeLine_eq
def vL:=@Array.find?_toList
def vM:=@List.all_takeWhile
def vN:=@of_decide_eq_false
def qX:=@PySem.Paired.length
def AH:=@List.takeWhile_cons_of_neg
def qY:=@List.cons.inj
def vO:=@PySem.wpAny_assign_Name
def vP:=@PySem.wpAny_pyIter_list
def vQ:=@Nat.lt_succ_of_lt
def vR:=@List.foldl_append
def vS:=@List.find?_append
def AI:=@PySem.F.slot_dict_getitem
def vT:=@PySem.wpAny_lookBehind
def vU:=@PySem.pastItsLine_dict
def vV:=@List.getElem_inj
def jt:=@if_false
def qZ:=@Bool.true_or
def q0:=@Nat.zero_add
def ju:=@or_false
def vW:=@Nat.lt_of_not_le
def vX:=@Bool.not_eq_true
def vY:=@List.flatMap_nil
def AJ:=@List.getElem?_replicate
def AK:=@PySem.F.type_list_index
def vZ:=@List.find?_some
def q_:=@Nat.le_succ
def AO:=@Array.getElem?_eq_none
def AQ:=@List.dropWhile_sublist
def AR:=@List.take_append_drop
def AT:=@List.length_replicate
def AU:=@List.takeWhile_prefix
def v8:=@Option.none_or
def v9:=@Nat.sub_self
def v_:=@Nat.gcd_comm
def au:=True.intro
section
namespace Lot
open PySem PySem.W PySem.Calls PyProof.Rows
structure Zt where
 T:BT
 n:Nat
 t:Nat
def Zt.push (z:Zt) (o:Obj):Zt:=#[z.T.ins z.n o,z.n+1,z.t]
def Zt.put (z:Zt) (a:Nat) (f:Obj->Obj):Zt:=#[z.T.set a f,z.n,z.t]
def Jd:List Str->Nat->List Value
 | [],_=> []
 | s :: l,t=> .str s t :: Jd l (t+1)
noncomputable def Je (e:Expr) (t:Nat):Value:=match e with
 | .Constant (.int k) _ _=> .int k t
 | .Constant (.str s) _ _=> .str s t
 | _=> .none
def NS:List Expr->Nat->List Value
 | [],_=> []
 | s :: l,t=>Je s t :: NS l (t+1)
def C3 (l:List Value):Obj:={cls:= .type "tuple",data:= .seq l.toArray}
def QW (l:List Value):Obj:={cls:= .none,data:= .fields l.toArray}
def QX (l:List Value):Obj:={cls:= .type "builtin_function_or_method",data:= .fields l.toArray}
def OQ (l:List DictEntry) (k:Nat):Obj:={cls:= .type "dict",data:= .dict l.toArray k}
def L6:Str:= "/claim/cut.py"
noncomputable def QY (l:List Value) (o:Obj):Obj:=match o with
 | #[c,d,.fields v,s]=>#[c,d,.fields (v.toList++l).toArray,s]
 | o=>o
section
variable (P:Params)
def Gd (x:Str) (t:Nat) (v:Value):DictEntry:=#[PyData.keyHash P x,.str x t,v]
noncomputable def QZ (x:Str) (t:Nat) (v:Value) (o:Obj):Obj:=match o with
 | #[c,d,.dict es k,s]=>match es.toList,x == "__name__" with
  | e :: l,true=>#[c,d,.dict (#[e.hash,e.key,v] :: l).toArray k,s]
  | l,_=>#[c,d,.dict (l++ [Gd P x t v]).toArray (k+1),s]
 | o=>o
noncomputable def Q0 (z:Zt):Value:=match z.T.get 3 with
 | some #[_,_,.dict es _,_]=>match es.toList with
  | e :: _=>e.val
  | _=> .none
 | _=> .none
noncomputable def NT:List (Option Expr)->List Expr->Nat->List DictEntry
 | some k :: ks,v :: vs,t=>(match Je k t with
  | .str x u=>Gd P x u (Je v (t+1))
  | .int i u=>#[i,.int i u,Je v (t+1)]
  | _=>default) :: NT ks vs (t+2)
 | _,_,_=> []
noncomputable def Ue (z:Zt) (e:Expr):Zt×Value:=match e with
 | .UnaryOp _ (.Constant (.int k) _ _) _=>(#[z.T,z.n,z.t+2],.int (-k) (z.t+1))
 | .Tuple l _ _=>(Zt.push #[z.T,z.n,z.t+l.length] (C3 (NS l z.t)),.ref z.n)
 | .Dict ks vs _=>(Zt.push #[z.T,z.n,z.t+3 * vs.length] (OQ (NT P ks vs z.t) vs.length),.ref z.n)
 | e=>(#[z.T,z.n,z.t+1],Je e z.t)
noncomputable def Q1:List Nat:= [83,85,174,524,552,570,629,670,675,680,682,684,686,688,691,701,730,886,900,760]
def We (z:Zt) (c:Str) (p:Addr) (s:Stmt):Zt×Str×Value:=match s with
 | .FunctionDef x a b _ _ _ sc _ _ q=>
  let m:=Q0 z;let vs:=if Q1.contains q.line then [] else (sc.names.filter λe=>e.2 == .local).map (·.1)
  let k:=if Q1.contains q.line then 0 else 2
  let u:=z.t+3+vs.length;let fd:FuncData:={name:=x,qualname:=c++x,params:=a,body:= .stmts b,scope:=sc,globals:=0,closure:= [],defaults:= .none,kwdefaults:= .none};let f:=z.n+k+2;let V:Nat->Value:=λi=>match k with | 0=> .none | _=> .ref (z.n+i)
  let z1:=(z.push (C3 [])).push (QW []);let z2:=match k with | 0=>z1 | _=>(z1.push (C3 (Jd vs (z.t+3)))).push (C3 [])
  let z3:=((z2.push {cls:= .none,data:= .func fd}).push {cls:= .type "code",data:= .fields (List.toArray [.str x z.t,.str (c++x) (z.t+1),.str L6 (z.t+2),.int q.line 0,.int a.args.length 0,.int 0 0,.int 0 0,.int 3 0,.ref z.n,.bool true,.int 181 0,.ref (z.n+1),.none,V 2,V 3,.ref f,.int u 0,.int q.line 0,.str L6 (u+1)])}).push
   {cls:= .type "function",data:= .func {fd with globals:=3,pyModule:=m,code:= .ref (f+1)}}
  (#[z3.T.set p (QY [.int q.line 0,.int q.col 0,.ref (f+1)]),z3.n,u+2],x,.ref (f+2))
 | _=>(z,"",.none)
def Jf (c:Str) (p:Addr):List Stmt->Zt->Zt×List DictEntry
 | [],z=>(z,[])
 | s :: l,z=>
  let (z1,x,v):=We z c p s;let (z2,es):=Jf c p l #[z1.T,z1.n,z1.t+1];(z2,Gd P x z1.t v :: es)
def Uf (z:Zt) (x:Str) (bs:List Expr) (body:List Stmt) (sa:List Str) (q:Pos):Zt×Value:=
 let m:=Q0 z
 let n:=z.n
 let t:=z.t
 let B:List Value:=bs.map λ_=> .type "Exception"
 let e1:= [Gd P "__module__" (t+7) m]
 let eq:=Gd P "__qualname__" (t+9) (.str x (t+8))
 let e2:=Gd P "__firstlineno__" (t+11) (.int q.line (t+10))
 let z1:=((((((z.push (C3 B)).push (QX [.builtin "type.__prepare__",.type "type"])).push (C3 [])).push (C3 [])).push (QW [])).push
  {cls:= .type "code",data:= .fields (List.toArray [.str x (t+2),.str x (t+3),.str L6 (t+4),.int q.line 0,.int 0 0,.int 0 0,.int 0 0,.int 0 0,.ref (n+3),.bool false,.int 181 0,.ref (n+4),.none,.none,.none,.none,.int (t+5) 0,.int q.line 0,.str L6 (t+6)])}).push
  {cls:= .type "frame",slots:= (List.toArray [some (.ref (n+5)),some (.ref 3),some (.ref (n+2)),none,some m,none,some (.ref 0)])}
 let (z2,es):=Jf P (x++ ".") (n+4) body #[z1.T,z1.n,t+12]
 let u:=z2.t+sa.length
 let k:=z2.n
 let es:=es++ [Gd P "__static_attributes__" u (.ref k)]
 let z3:=z2.push (C3 (Jd sa z2.t))
 let gs:=λ(y:Str) (d:Nat) (a b:Value)=>({cls:= .type "getset_descriptor",data:= .fields (List.toArray [.str y d,.ref (k+2),a,b])}:Obj)
 let wr:=Value.builtin "ExceptionGroup.__weakref__"
 let ds:=match bs with | []=> [Gd P "__dict__" (u+2) (.ref (k+3)),Gd P "__weakref__" (u+4) (.ref (k+4)),Gd P "__doc__" (u+5) .none] | _=> [Gd P "__weakref__" (u+2) (.ref (k+3)),Gd P "__doc__" (u+3) .none]
 let z4:=z3.push (OQ (e1++e2 :: es++ds) (ds.length+1))
 let z5:=match bs with
  | []=>((z4.push {cls:= .type "type",data:= .cls {name:=x,bases:= [.type "object"],mro:= [.ref (k+2),.type "object"],ns:=k+1,qualname:=x},slots:= (List.toArray [none,none,some (.str x t),some (.str x (t+8)),some (.builtin "object.__new__"),some (.bool true)])}).push
   (gs "__dict__" (u+1) (.builtin "function.__dict__") (.builtin "function.__dict__#set"))).push (gs "__weakref__" (u+3) wr .none)
  | _=>(z4.push {cls:= .type "type",data:= .cls {name:=x,bases:= [.type "Exception"],mro:= [.ref (k+2),.type "Exception",.type "BaseException",.type "object"],ns:=k+1,qualname:=x},slots:= (List.toArray [some (.ref n),none,some (.str x t),some (.str x (t+8)),some (.builtin "Exception.__new__"),some (.bool true)])}).push
   (gs "__weakref__" (u+1) wr .none)
 let z6:=(z5.push {cls:= .type "super",data:= .fields (List.toArray [.ref (k+2),.ref (k+2),.ref (k+2)])}).push (QX [.builtin "object.__init_subclass__",.ref (k+2)])
 let T:=(z6.T.set (n+2) λ_=>OQ (e1++eq :: e2 :: es) (es.length+3)).set 12 (QY [.int q.line 0,.int q.col 0,.ref (n+5)])
 match bs with
 | []=>(#[T,z6.n,u+7],.ref (k+2))
 | _=>(#[T.set 2 λo=>{o with data:= .dict (List.toArray [Gd P "type.__subclasses__.Exception.0" (u+4) (.int (k+2) 0),Gd P "type.__subclasses__.Exception.n" (u+5) (.int 1 0)]) 2},z6.n,u+7],.ref (k+2))
def Jg (z:Zt) (s:Stmt):Zt:=
 let (z,x,v):Zt×Str×Value:=match s with
  | .Assign [.Name x _] e _=>let (z,v):=Ue P z e;(z,x,v)
  | .ClassDef x bs _ body _ _ _ _ _ sa q=>let (z,v):=Uf P z x bs body sa q;(z,x,v)
  | s=>We z "" 12 s
 #[z.T.set 3 (QZ P x z.t v),z.n,z.t+1]
end
abbrev pr:Program:=Challenge.pw_lotprograms_s01_answers
abbrev p0:Pos:=#[0,0,0,0]
abbrev bh:List Stmt:=behindTheImports pr
abbrev ev1:Env:={scope:=pr.main.scope,locals:=mainNs,globals:=mainNs,cells:= [],code:= .ref 13,frame:=some 14}
abbrev AV:Code:= .body bh ev1
abbrev Ta:List Frame:= [topFrame p0]
abbrev Q2:Option Value:=some (.ref 6)
noncomputable abbrev Wf (w:World) (os:OsState):Option (Shared×Thread):=topGo treeTable pr w 11 Q2 12 #[boot_heap w.params,#[],boot_drawn,boot_toks,os] (topStub pr)
def Wg:List Obj->Nat->BT->BT
 | [],_,t=>t
 | o :: l,i,t=>Wg l (i+1) (t.ins i o)
noncomputable def Tb (P:Params):Zt:=#[Wg (((Wf #[λ_ _=>0,P] {}).map λs=>s.1.heap.objs.toList).getD []) 0 .nil,15,187]
abbrev vn (z:Zt) (n t:Nat) (os:OsState):SharedT:=#[z.T,n,{},#[],{},t,os]
abbrev Ge (w:World) (s:SharedT) (l:List Stmt) (p:Pos):Option (Flow×SharedT×Code×Pos):=segRunT treeTable pr w 11 Q2 1 3000 s (piecesOf l ev1 AV p Ta)
abbrev Tc (w:World) (N:Nat) (s:SharedT) (l:List Stmt) (p:Pos) (r:Shared):=topRun treeTable pr w 11 Q2 N s.abs (restOf l ev1 AV p Ta)=some r
def jC {w:World} {s s':SharedT} {l:List Stmt} {k N:Nat} {p q:Pos} {r:Shared} (h:Ge w s (l.take k) p=some (.next,s',AV,q)) (n:Tc w N s' (l.drop k) q r):Tc w (3000+N) s l p r:=by
 have e:=piece_app (segRun_of h) n;rw [AR] at e;exact e
noncomputable def Ug (P:Params):Zt:=(List.take 20 bh).foldl (Jg P) (Tb P)
def Xd (w:World) (os:OsState):Ge w (vn (Tb w.params) 15 187 os) (List.take 20 bh) p0=some (.next,vn (Ug w.params) 134 372 os,AV,#[50,0,55,24]):=#v[]
abbrev bl1:List Stmt:=List.drop 20 bh
noncomputable def Uh (P:Params):Zt:=(List.take 18 bl1).foldl (Jg P) (Ug P)
def Xe (w:World) (os:OsState):Ge w (vn (Ug w.params) 134 372 os) (List.take 18 bl1) #[50,0,55,24]=some (.next,vn (Uh w.params) 236 553 os,AV,#[103,0,103,4]):=#v[]
abbrev bl2:List Stmt:=List.drop 18 bl1
noncomputable def Td (P:Params):Zt:=(List.take 5 bl2).foldl (Jg P) (Uh P)
def Xf (w:World) (os:OsState):Ge w (vn (Uh w.params) 236 553 os) (List.take 5 bl2) #[103,0,103,4]=some (.next,vn (Td w.params) 236 563 os,AV,#[108,0,108,13]):=#v[]
abbrev Te:List Stmt:=List.drop 5 bl2
noncomputable def Tf (P:Params):Zt:=(List.take 1 Te).foldl (Jg P) (Td P)
def Xg (w:World):∀os,Ge w (vn (Td w.params) 236 563 os) (List.take 1 Te) #[108,0,108,13]=some (.next,vn (Tf w.params) 237 600 os,AV,#[109,0,109,14]):=byRow2 "special-get-raises" (P:=λw=> ∀os,Ge w (vn (Td w.params) 236 563 os) (List.take 1 Te) #[108,0,108,13]=some (.next,vn (Tf w.params) 237 600 os,AV,#[109,0,109,14])) (λw os=>#v[]) (λw os=>#v[]) w
abbrev Ui:List Stmt:=List.drop 1 Te
noncomputable def Uj (P:Params):Zt:=(List.take 20 Ui).foldl (Jg P) (Tf P)
def Xh (w:World) (os:OsState):Ge w (vn (Tf w.params) 237 600 os) (List.take 20 Ui) #[109,0,109,14]=some (.next,vn (Uj w.params) 348 774 os,AV,#[205,0,205,8]):=#v[]
abbrev Uk:List Stmt:=List.drop 20 Ui
noncomputable def Tg (P:Params):Zt:=(List.take 12 Uk).foldl (Jg P) (Uj P)
def Xi (w:World) (os:OsState):Ge w (vn (Uj w.params) 348 774 os) (List.take 12 Uk) #[205,0,205,8]=some (.next,vn (Tg w.params) 462 929 os,AV,#[287,0,287,8]):=#v[]
abbrev Th:List Stmt:=List.drop 12 Uk
noncomputable def Ti (P:Params):Zt:=(List.take 1 Th).foldl (Jg P) (Tg P)
def Xj (w:World):∀os,Ge w (vn (Tg w.params) 462 929 os) (List.take 1 Th) #[287,0,287,8]=some (.next,vn (Ti w.params) 463 969 os,AV,#[288,0,288,10]):=byRow2 "special-get-raises" (P:=λw=> ∀os,Ge w (vn (Tg w.params) 462 929 os) (List.take 1 Th) #[287,0,287,8]=some (.next,vn (Ti w.params) 463 969 os,AV,#[288,0,288,10])) (λw os=>#v[]) (λw os=>#v[]) w
abbrev Ul:List Stmt:=List.drop 1 Th
noncomputable def Um (P:Params):Zt:=(List.take 41 Ul).foldl (Jg P) (Ti P)
def Xk (w:World) (os:OsState):Ge w (vn (Ti w.params) 463 969 os) (List.take 41 Ul) #[288,0,288,10]=some (.next,vn (Um w.params) 680 1283 os,AV,#[529,0,529,10]):=#v[]
abbrev Uo:List Stmt:=List.drop 41 Ul
noncomputable def Up (P:Params):Zt:=(List.take 33 Uo).foldl (Jg P) (Um P)
def Xl (w:World) (os:OsState):Ge w (vn (Um w.params) 680 1283 os) (List.take 33 Uo) #[529,0,529,10]=some (.next,vn (Up w.params) 873 1559 os,AV,#[713,0,716,64]):=#v[]
abbrev Uq:List Stmt:=List.drop 33 Uo
noncomputable def OS (P:Params):Zt:=(List.take 26 Uq).foldl (Jg P) (Up P)
def Xm (w:World) (os:OsState):Ge w (vn (Up w.params) 873 1559 os) (List.take 26 Uq) #[713,0,716,64]=some (.next,vn (OS w.params) 995 1759 os,AV,#[806,0,823,34]):=#v[]
abbrev OT:List Stmt:=List.drop 26 Uq
@[irreducible] noncomputable def OU (P:Params):Zt:=(List.take 15 OT).foldl (Jg P) (OS P)
def Ur (w:World) (os:OsState):Ge w (vn (OS w.params) 995 1759 os) (List.take 15 OT) #[806,0,823,34]=some (.next,vn (OU w.params) 1096 1888 os,AV,#[900,0,901,48]):=#v[]
abbrev Us:List Stmt:=List.drop 15 OT
noncomputable abbrev hp0 (P:Params):Heap:=absHeap (Tb P).T 15 {}
noncomputable abbrev Ut (P:Params):BT:=(OU P).T
noncomputable abbrev hp1 (P:Params):Heap:=absHeap (Ut P) 1096 {}
noncomputable abbrev Uu (P:Params) (os:OsState):Shared:=#[hp0 P,#[],{},187,os]
noncomputable abbrev sh1 (P:Params) (os:OsState):Shared:=#[hp1 P,#[],{},1888,os]
def L7 (w:World) (os:OsState):Wf w os=some (Uu w.params os,#[denote treeTable AV,AV,p0,Ta]):=#v[]
def HB (w:World) (os:OsState):segRun treeTable pr w 11 Q2 1 1 (Uu w.params os) (blockOf bh ev1 AV p0 Ta)=some (.next,Uu w.params os,AV,p0):=#v[]
def fin_run (w:World) (os:OsState):Tc w 2 (vn (OU w.params) 1096 1888 os) Us #[900,0,901,48] (sh1 w.params os):=#v[]
abbrev qv:Program:={pr with main:={pr.main with body:= [pr.main.body.getD 171 (.Pass p0)]}}
abbrev Uv:List Str:=(pr.main.scope.names.map (·.1)).filter λx=>x != "answers" && x != "__name__" && x != "Exception"
abbrev Xt:Shared->Bool:=λs=>xlAt qv [] s && recOk [] s
def EL:opening pr=plainProg pr.main.scope.names:=#v[]
def Jh:∀s,fenceModules? pr s=some s:=λs=>#v[]
def L8 (w:World):((boot_heap w.params).isNs mainGlobals && (#[]:Array GenState).size == 0,(boot_heap w.params).objs.size,(boot_heap w.params).nsMap mainGlobals "__annotations__")=(true,11,some (.ref 6)):=#v[]
def Q3 (w:World):staticsOk (importedModules pr.main.body) (boot_heap w.params) (hp1 w.params)=true/\laidKept (boot_heap w.params) (hp1 w.params)=true:=#[#v[],#v[]]
def Uw (w:World):namesBound pr (hp1 w.params)=true:=#v[]
def Q4 (w:World) (os:OsState):gensDone (sh1 w.params os)=true/\openSeen qv Uv (importedModules pr.main.body) Xt true (sh1 w.params os)=openGood qv Uv:=#[#v[],#v[]]
def left:LeftO pr qv Uv Xt (λs=>s.heap) (λw=>hp1 w.params) 100000:=by
 have run:∀(w:World) (os:OsState),topRun treeTable pr w 11 Q2 (12+(1+(3000+(3000+(3000+(3000+(3000+(3000+(3000+(3000+(3000+(3000+(3000+2))))))))))))) #[boot_heap w.params,#[],boot_drawn,boot_toks,os] (topStub pr)=some #[hp1 w.params,#[],{},1888,os]:=λw os=>by
  have k:Tc w (3000+(3000+(3000+(3000+(3000+(3000+(3000+(3000+(3000+(3000+(3000+2))))))))))) (vn (Tb w.params) 15 187 os) bh p0 (sh1 w.params os):=jC (Xd w os) <| jC (Xe w os) <| jC (Xf w os) <| jC (Xg w os) <| jC (Xh w os) <| jC (Xi w os) <| jC (Xj w os) <| jC (Xk w os) <| jC (Xl w os) <| jC (Xm w os) <| jC (Ur w os) <| fin_run w os
  exact go_top (L7 w os) (piece_block (HB w os) k)
 refine LeftO.of_pieces (boot_open EL ∅ Jh) L8 run (by decide+kernel) λw=>?_;funext os;refine Prod.ext ?_ (Prod.ext (Q4 w os).2 rfl);show (staticsOk (importedModules pr.main.body) (boot_heap w.params) (hp1 w.params) && namesBound pr (hp1 w.params) && gensDone (sh1 w.params os) && laidKept (boot_heap w.params) (hp1 w.params))=true;rw [(Q3 w).1,(Q3 w).2,Uw,(Q4 w os).1];rfl
def L9:pr.bare:=#[rfl,rfl,rfl,rfl,rfl,by decide+kernel]
end Lot
end
section
open PySem PySem.W PyProof.Rows
namespace Sd
abbrev pr:Program:=Challenge.pw_lotprograms_s01_answers
def a1:sreFenced pr.main=true:=by decide+kernel
def a2:((moduleNames pr.main.body).isEmpty || lookedIntoSs (moduleNames pr.main.body) pr.main.body)=true:=by decide+kernel
def a3:namesResolve pr=true:=by decide+kernel
def a4:pr.boundNames.all (λn=>!worldNames.contains n)=true:=by decide+kernel
def a5:noRoadLSs {strict:= !(importedModules pr.main.body).all cThrough.contains,foot:=none,bare:=(["vars","dir","locals"]:List Str).filter (readsOut pr pr.main.body)} pr.main.body=true:=by decide+kernel
def a6:(namesMeet pr pr.main.body λ_ n=>attrL n)=true:=by decide+kernel
def a7:pr.boundNames.contains "answers" = true:=by decide+kernel
def said:Challenge.rw_lotprograms_s01_answers.wellSaid=true:=by
 show (looksOpen pr && _ && _ && _ && _ && _)=true;have lo:looksOpen pr=true:=by
  show (sreFenced pr.main && _ && namesResolve pr && _ && _ && _)=true;rw [a1,a2,a3,a4,a5,a6];rfl
 rw [lo];decide+kernel
end Sd
end
section
namespace XE
open PySem
open Sem (wp)
open Builtin Builtin.ObjectAttr
abbrev BM:List Value:= [.type "Exception",.type "BaseException",.type "object"]
section
variable {prog:Program} {w:World} {A:Around} {E:Value->Shared->Prop} {h:Heap} {g:Array GenState} {d:Drawn} {t:Nat} {os:OsState} {a:Addr} {o:Obj}
 {nm q:Str} {C N:Addr} {bs:List Value} {sn:List Str} {sub:List Value} {ab:Bool} {col:Option Bool} {dd:Option Addr} {k0 k1 k2 k3 k5:Option Value} {newId:String} {mN mA:Str->Option Value}
 {name:Str} {v:Value}
def Ji {M:Model} {nv:Value} {Q:Unit->Shared->Prop} (hC:h.get? C=some (excClassObj nm q C N bs BM true sn sub ab col dd k0 k1 k2 k3 k5 newId))
 (hx:h.get? a=some o) (hc:o.cls= .ref C) (hq:Q () #[h,g,d,t,os]):wpAny M A (checkBuiltinCall "BaseException.__getattribute__" #[[.ref a,nv],[]]) Q E #[h,g,d,t,os]:=by
 have hk1:builtinKind "BaseException.__getattribute__" = some .slot:=by decide+kernel
 have hsp:splitId "BaseException.__getattribute__" = some ("BaseException","__getattribute__"):=by decide+kernel
 have hcB:(Value.ref C :: BM).contains (.type "BaseException")=true:=by rw [fO];rfl
 have har:=F.args_bexc_ga (.ref a) nv;simp only [checkBuiltinCall,hk1,hsp];refine aw ?_
 . unfold isInstance;repeat (first | (with_reducible refine et hx ?_;rw [hc]) | (with_reducible refine vJ hC ?_;rw [hcB]) | wp_step)
   exact hq
def Jj {tk:Tok} {Q:Fin->Shared->Prop} (hC:h.get? C=some (excClassObj nm q C N bs BM true sn sub ab col dd k0 k1 k2 k3 k5 newId)) (hN:h.Ns N mN)
 (hna:mN name=none) (hB:typeLookup (.type "Exception") name=pure none) (I:h.Inst a C mA) (hv:mA name=some v) (hq:Q (.done (.ret v)) #[h,g,d,t,os]):
 wpAny (model prog w) A (Builtin.«object.__getattribute__» #[[.ref a,.str name tk],[]]) Q E #[h,g,d,t,os]:=by
 ext I o hx hc hnc hd;rcases hd with ⟨_,hmA⟩ | ⟨dx,hdx,k7,hns⟩
 . rw [hmA name] at hv;cases hv
 unfold Builtin.«object.__getattribute__»;repeat (first | (with_reducible refine et hx ?_;rw [hc]) | (with_reducible refine lw hC hN jz.mro hB ?_;rw [hna]) | wp_step)
 split
 . rename_i c hcd;exact absurd hcd (hnc c)
 unfold instanceDict;repeat (first | (with_reducible refine et hx ?_;rw [hc]) | with_reducible refine et hC ?_ | wp_step)
 rw [hdx];repeat (first | (with_reducible refine wpAny_nsGet hns.ns ?_;rw [hv]) | wp_step)
 exact hq
def L_ {tk:Tok} {R:Result->Shared->Prop} (hC:h.get? C=some (excClassObj nm q C N bs BM true sn sub ab col dd k0 k1 k2 k3 k5 newId)) (hN:h.Ns N mN)
 (hna:mN name=none) (hB:typeLookup (.type "Exception") name=pure none) (I:h.Inst a C mA) (hv:mA name=some v) (hq:R (.ok (.ret v)) #[h,g,d,t,os]):
 codeAny (model prog w) A (.call (.builtin "BaseException.__getattribute__") #[[.ref a,.str name tk],[]]) R #[h,g,d,t,os]:=by
 obtain ⟨o,hx,hc,_⟩:=id I;exact codeAny_call_builtin jz.ga.plain F.entry_bexc_ga (Ji hC hx hc (Jj hC hN hna hB I hv hq))
def Q5 {tk:Tok} {fill expr:Bool} {Q:Value->Shared->Prop} (hC:h.get? C=some (excClassObj nm q C N bs BM true sn sub ab col dd k0 k1 k2 k3 k5 newId)) (hN:h.Ns N mN)
 (hg1:mN "__getattribute__" = none) (hg2:mN "__getattr__" = none)
 (hna:mN name=none) (hB:typeLookup (.type "Exception") name=pure none) (I:h.Inst a C mA) (hv:mA name=some v) (hh:handedOut v=pure v) (hq:Q v #[h,g,d,t,os]):
 wpAny (model prog w) A (getAttrBy (.ref a) (.str name tk) fill expr) Q E #[h,g,d,t,os]:=by
 obtain ⟨o,hx,hc,_⟩:=id I;have f3:=jz.ga.bind (.ref a);have hx0:(expr && onTheHeap (Value.builtin "BaseException.__getattribute__"))=false:=by cases expr <;> rfl
 have hx2:(Value.builtin "BaseException.__getattribute__" == Value.builtin "object.__getattribute__")=false:=by decide+kernel
 have hx1:(onTheHeap (Value.ref C) && Value.builtin "BaseException.__getattribute__" == Value.builtin "object.__getattribute__")=false:=by rw [hx2];rfl
 repeat (any_goals (first | assumption | (with_reducible refine et hx ?_;rw [hc]) | (with_reducible refine lw hC hN jz.mro jz.ga.lookup ?_;rw [hg1]) | (with_reducible refine lw hC hN jz.mro jz.noGetattr ?_;rw [hg2]) | wp_step))
 refine L_ hC hN hna hB I hv ?_;repeat (any_goals (first | assumption | (rw [hh];exact bo hq) | wp_step))
def L' {expr:Bool} {Q:Value->Shared->Prop} (hC:h.get? C=some (excClassObj nm q C N bs BM true sn sub ab col dd k0 k1 k2 k3 k5 newId)) (hN:h.Ns N mN)
 (hg1:mN "__getattribute__" = none) (hg2:mN "__getattr__" = none)
 (hna:mN name=none) (hB:typeLookup (.type "Exception") name=pure none) (I:h.Inst a C mA) (hv:mA name=some v) (hh:handedOut v=pure v) (hq:Q v #[h,g,d,t+1,os]):
 wpAny (model prog w) A (getAttr (.ref a) name expr) Q E #[h,g,d,t,os]:=by
 unfold getAttr;repeat (any_goals (first | assumption | with_reducible apply Q5 hC hN hg1 hg2 hna hB I hv hh | wp_step))
end
section
variable {M:Model} {A:Around} {E:Value->Shared->Prop} {env:Env} {s:Shared}
variable {nm q:Str} {C N:Addr} {bs:List Value} {sn:List Str} {sub:List Value} {ab:Bool} {col:Option Bool} {dd:Option Addr} {k0 k1 k2 k3 k5:Option Value} {newId:String}
def HC {x:Sem Value} {Q:Flow->Shared->Prop} (hh:A.handled=none)
 (h:wpAny M A x (λv s1=> ∃e oe vs,v= .ref e/\s1.heap.get? C=some (excClassObj nm q C N bs BM true sn sub ab col dd k0 k1 k2 k3 k5 newId)/\
  s1.heap.get? e=some oe/\oe.cls= .ref C/\oe.data= .fields vs/\vs[1]? = some .none/\E (.ref e) s1) E s):
 wpAny M A (raiseStmt env (some x) none) Q E s:=by
 have hcB:(Value.ref C :: BM).contains (.type "BaseException")=true:=by rw [fO];rfl
 unfold raiseStmt;refine aw (bT h (λv s1 h1=>?_) λ_ _ y=>y);ext h1 e oe vs rfl hC he hcls hd h1' hE;ext s1 hp g d tk os;repeat (first | (with_reducible refine et he ?_;rw [hcls]) | with_reducible refine et hC ?_ | (with_reducible refine vJ hC ?_;rw [hcB]) | with_reducible refine gl he hd h1' ?_ | wp_step)
 exact wpAny_raiseNew_none hh hE
end
end XE
end
section
namespace XE
open PySem
open Sem (wp)
structure oO (h:Heap) (C e dx:Addr) (tb:Value):Prop where
 ex:∃(sl:Array (Option Value)) (vs:Array Value) (a0:Value),h.get? e=some {cls:= .ref C,dict:=some dx,data:= .fields vs,slots:=sl}/\vs[0]? = some a0/\vs[1]? = some tb
structure sG (h:Heap) (T:Addr) (fl:Value):Prop where
 ex:∃oT ts,h.get? T=some oT/\oT.data= .fields ts/\ts[3]? = some fl
structure ki (fr:List Addr) (chg:Addr->Prop) (h h':Heap):Prop where
 keep:∀b o,h.get? b=some o->b∉fr->¬chg b->h'.get? b=some o
 slot:∀b o,h.get? b=some o->b∈fr->∃sl,h'.get? b=some {o with slots:=sl}
 there:∀b o,h.get? b=some o->∃o',h'.get? b=some o'
def ki.trans {fr:List Addr} {c1 c2 c3:Addr->Prop} {h h1 h2:Heap} (x:ki fr c1 h h1) (y:ki fr c2 h1 h2) (s1:∀b,c1 b->c3 b) (s2:∀b o,h.get? b=some o->c2 b->c3 b):ki fr c3 h h2 where
 keep:=λb o e hb hc=>y.keep b o (x.keep b o e hb λz=>hc (s1 b z)) hb λz=>hc (s2 b o e z)
 slot:=λb o e hb=>by
  obtain ⟨sl,e1⟩:=x.slot b o e hb;obtain ⟨sl',e2⟩:=y.slot b _ e1 hb;exists sl',e2
 there:=λb o e=>by
  obtain ⟨o1,e1⟩:=x.there b o e;exact y.there b o1 e1
section
variable {M:Model} {A:Around} {E:Value->Shared->Prop} {s:Shared} {base:Heap} {env:Env} {outer:List Env} {L e C dx T:Addr} {Q:Unit->Shared->Prop}
def x_ {h:Heap} {a:Addr} {o:Obj} {vs:Array Value} (i:Nat) (x:Value) (he:h.get? a=some o) (hd:o.data= .fields vs):
 (h.update a (Obj.mapFields (·.setIfInBounds i x))).get? a=some {o with data:= .fields (vs.setIfInBounds i x)}:=by
 have Xn:=Obj.data_mapFields hd (·.setIfInBounds i x);rw [Heap.get?_update_self (Obj.mapFields (·.setIfInBounds i x)) he (Obj.isFreed_of_fields Xn)];ext o oc od odt osl;dsimp only at hd;subst hd;rfl
def ent {tb head:Value} {hadNext:Bool} (hfr:A.frames=some (env :: outer)) (hl:s.heap.FunFrames base (env :: outer)) (hf:env.frame=some L) (R:oO s.heap C e dx tb)
 (k:∀h' T',ki ((env :: outer).filterMap (·.frame)) (λb=>b=e) s.heap h'->s.heap.objs.size<=T'->oO h' C e dx (.ref T')->sG h' T' (rawInt L)->T'≠e->Q () {s with heap:=h'}):
 wpAny M A (do let a<-frameOf env;let pl<-entryPlaceOf L hadNext;let b<-EntryCells.newEntry head a .none (rawInt L) .none pl;setField (.ref e) 1 b) Q E s:=by
 ext R sl vs a0 he h0 h1;have k7:e∉(env :: outer).filterMap (·.frame):=λhm=>by
  obtain ⟨_,o,ho,hnf⟩:=hl.mem hm;rw [he] at ho;cases ho;exact hnf vs rfl
 refine aw (wpAny_frameOf_fun hfr hl hf λh1' hs1=>?_);refine aw (wpAny_entryPlaceOf λpl g6=>?_);unfold EntryCells.newEntry newFields;refine aw (wpAny_newObj_type ?_ (g6.sizeOk5 _ _ _ _ _));have Wh:h1'.get? e=some _:=(hs1.2.1 e k7).trans he;generalize hoT:({cls:= .type "traceback",dict:=none,data:= .fields ([head,.ref L,.none,rawInt L,.none]++(if pl.isEmpty then List.replicate 6 Value.none else pl)).toArray}:Obj)=oT;have hTd:oT.data= .fields ([head,.ref L,.none,rawInt L,.none]++(if pl.isEmpty then List.replicate 6 Value.none else pl)).toArray:=by rw [<-hoT]
 have hTf:oT.isFreed=false:=by rw [<-hoT];rfl
 have he2:=bK (h:=h1') oT Wh;have hsz:1 < vs.size:=(vq.mp h1).1;have hTe:h1'.objs.size≠e:=fU (aI Wh);refine wpAny_setField he2 rfl hsz (k _ h1'.objs.size #[λb o hb hbf hbe=>?_,λb o hb hbf=>?_,λb o hb=>?_] ?_ #[sl,_,a0,x_ 1 _ he2 rfl,?_,?_] #[oT,_,?_,hTd,?_] hTe)
 . rw [jx _ _ (bX hbe)];exact bK _ ((hs1.2.1 b hbf).trans hb)
 . obtain ⟨sl',hb'⟩:=hs1.2.2 b o hb;exists sl',?_;rw [jx _ _ (show e≠b from λz=>k7 (z.symm ▸ hbf))];exact bK _ hb'
 . by_cases z:b=e
   . subst z;exists _,x_ 1 _ he2 U
   . obtain ⟨sl',hb'⟩:=hs1.2.2 b o hb;exists {o with slots:=sl'},?_;rw [jx _ _ (bX z)];exact bK _ hb'
 . rw [hs1.1];exact az _
 . rw [Array.getElem?_setIfInBounds_ne ∅];exact h0
 . simp [hsz]
 . rw [jx _ _ (bX hTe)];exact cJ h1' hTf
 . first | (simp;done) | (rcases g6 with rfl | ⟨_,_,_,_,_,_,_,rfl⟩ <;> simp)
def Q6 (hfr:A.frames=some (env :: outer)) (hl:s.heap.FunFrames base (env :: outer)) (hf:env.frame=some L) (R:oO s.heap C e dx .none)
 (k:∀h' T',ki ((env :: outer).filterMap (·.frame)) (λb=>b=e) s.heap h'->s.heap.objs.size<=T'->oO h' C e dx (.ref T')->sG h' T' (rawInt L)->T'≠e->Q () {s with heap:=h'}):
 wpAny M A (noteFrame (.ref e) env) Q E s:=by
 obtain ⟨sl,vs,a0,he,h0,h1⟩:=id R;unfold noteFrame;simp only [hf];refine aw (gl he rfl h1 ?_);rw [ae ∅];exact ent hfr hl hf R k
def Jk {fl:Value} (hfr:A.frames=some (env :: outer)) (hl:s.heap.FunFrames base (env :: outer)) (hf:env.frame=some L) (R:oO s.heap C e dx (.ref T)) (TR:sG s.heap T fl) (hfl:(fl == rawInt L)=false) (hTe:T≠e)
 (k:∀h' T',ki ((env :: outer).filterMap (·.frame)) (λb=>b=e\/b=T) s.heap h'->s.heap.objs.size<=T'->oO h' C e dx (.ref T')->sG h' T' (rawInt L)->T'≠e->Q () {s with heap:=h'}):
 wpAny M A (noteFrame (.ref e) env) Q E s:=by
 obtain ⟨sl,vs,a0,he,h0,h1⟩:=id R;ext TR oT ts hT hdT h3;unfold noteFrame;simp only [hf];refine aw (gl he rfl h1 ?_);rw [ah (show (Value.ref T != Value.none)=true from by simp)];refine aw (gl hT hdT h3 ?_);rw [ae (by rw [hfl];exact aO)];refine aw (wpAny_setField hT hdT (vq.mp h3).1 ?_);have oth:∀b,b≠T->(s.heap.update T (Obj.mapFields (·.setIfInBounds 3 Value.none))).get? b=s.heap.get? b:=λb hb=>jx _ _ (bX hb);have Tj:=x_ 3 Value.none hT hdT;have OV:T∉(env :: outer).filterMap (·.frame):=λhm=>by
  obtain ⟨_,o,ho,hnf⟩:=hl.mem hm;rw [hT] at ho;cases ho;exact hnf ts hdT
 have N1:ki ((env :: outer).filterMap (·.frame)) (λb=>b=T) s.heap (s.heap.update T (Obj.mapFields (·.setIfInBounds 3 Value.none))):=⟨λb o hb _ hc=>(oth b hc).trans hb,λb o hb hbf=>#[o.slots,(oth b (λz=>OV (z ▸ hbf))).trans hb],λb o hb=>by
  by_cases z:b=T
  . subst z;exists _,Tj
  . exact #[o,(oth b z).trans hb]⟩
 refine ent (s:={s with heap:=s.heap.update T (Obj.mapFields (·.setIfInBounds 3 Value.none))}) hfr (hl.of_keeps λb o hb hnf=>#[o,(oth b λz=>?_).trans hb,rfl]) hf #[sl,vs,a0,(oth e (bX hTe)).trans he,h0,h1] λh' T' N2 hn R' Ux ne=>k h' T' (N1.trans N2 (λb z=> .inr z) λb o _ z=> .inl z) ?_ R' Ux ne
 . subst z;rw [hT] at hb;cases hb;exact hnf ts hdT
 . have hn:(s.heap.update T (Obj.mapFields (·.setIfInBounds 3 Value.none))).objs.size<=T':=hn;rw [Heap.size_update] at hn;exact hn
def C4 (L:Addr):(Value.none == rawInt L)=false:=by simp [rawInt]
def Q7 (hf:env.frame=some L) (R:oO s.heap C e dx (.ref T)) (TR:sG s.heap T (rawInt L)) (k:Q () s):wpAny M A (noteFrame (.ref e) env) Q E s:=by
 obtain ⟨sl,vs,a0,he,h0,h1⟩:=id R;ext TR oT ts hT hdT h3;unfold noteFrame;simp only [hf];refine aw (gl he rfl h1 ?_);rw [ah (show (Value.ref T != Value.none)=true from by simp)];refine aw (gl hT hdT h3 ?_);rw [ah (show (rawInt L == rawInt L)=true from by simp)];exact bo k
def Tl {fr:List Addr} {fl:Value} {to:Option Addr} (R:oO s.heap C e dx (.ref T)) (TR:sG s.heap T fl) (hTe:T≠e) (hTf:T∉fr)
 (k:∀h',ki fr (λb=>b=T) s.heap h'->oO h' C e dx (.ref T)->sG h' T (to.elim .none λf=>rawInt f)->Q () {s with heap:=h'}):
 wpAny M A (setFlight (.ref e) to) Q E s:=by
 obtain ⟨sl,vs,a0,he,h0,h1⟩:=id R;ext TR oT ts hT hdT h3;have hsz3:3 < ts.size:=(vq.mp h3).1;unfold setFlight;refine aw (gl he rfl h1 ?_);rw [ah (show (Value.ref T != Value.none)=true from by simp)];have oth:∀b x,b≠T->(s.heap.update T (Obj.mapFields (·.setIfInBounds 3 x))).get? b=s.heap.get? b:=λb x hb=>jx _ _ (bX hb);have Tj:=λx=>x_ 3 x hT hdT;refine wpAny_setField hT hdT hsz3 (k _ #[λb o hb _ hc=>(oth b _ hc).trans hb,λb o hb hbf=>#[o.slots,(oth b _ (λz=>hTf (z ▸ hbf))).trans hb],λb o hb=>?_] #[sl,vs,a0,(oth e _ (bX hTe)).trans he,h0,h1] #[_,_,Tj _,rfl,by simp [hsz3]]);by_cases z:b=T
 . subst z;exists _,Tj _
 . exists o,(oth b _ z).trans hb
end
end XE
end
section
namespace XE
open PySem PySem.W
open Sem (wp)
section
variable {prog:Program} {w:World} {A:Around} {R:Result->Shared->Prop} {h:Heap} {g:Array GenState} {d:Drawn} {t:Nat} {os:OsState}
variable {nm q:Str} {C N fI:Addr} {bs:List Value} {sn:List Str} {sub:List Value} {ab:Bool} {col:Option Bool} {dd:Option Addr} {k0 k1 k2 k3 k5:Option Value} {mN:Str->Option Value} {rest:List Value}
abbrev newExc (C:Addr) (t:Addr):Obj:={cls:= .ref C,data:= .fields (List.toArray [.ref t,.none,.none,.none,.bool false,.none])}
abbrev jD (rest:List Value):Obj:={cls:= .type "tuple",data:= .seq rest.toArray}
def OW {K:Frag} {Q:Fin->Shared->Prop} {E:Value->Shared->Prop} (hC:h.get? C=some (excClassObj nm q C N bs BM true sn sub ab col dd k0 k1 k2 k3 k5 "Exception.__new__")) (hn:h.Ns N mN) (hni:mN "__init__" = some (.ref fI))
 (X:K.In h) (hf:typeIn K (.ref fI)=some (.type "function"))
 (hq:codeAny (model prog w) A (.call (.ref fI) #[.ref (h.objs.size+1) :: rest,[]]) (λr s'=>match r with
  | .ok (.ret v)=>v= .none/\Q (.done (.ret (.ref (h.objs.size+1)))) s'
  | .ok _=>False
  | .error e=>E e s') #[(h.push (jD rest)).push (newExc C h.objs.size),g,d,t,os]) (hrest:rest.length<=sizeLine):
 wpAny (model prog w) A (Builtin.«type.__call__» #[.ref C :: rest,[]]) Q E #[h,g,d,t,os]:=by
 have Fx:=F.excBase_Exception;repeat (first | with_reducible refine et hC ?_ | with_reducible refine wpAny_madeBy_exc hC ?_ | wp_step)
 refine codeAny_call_builtin_code (Code.quiet_builtin _ Fx.quiet) (wpAny_check_new_sub Fx hC ?_);refine codeAny_exc_new_sub Fx hC ?_ hrest;show wpAny _ _ _ _ _ _;have k2':∀b o,h.get? b=some o->((h.push (jD rest)).push (newExc C h.objs.size)).get? b=some o:=λb o e=>bK _ (bK _ e);have Wi:=k2' _ _ hC;have mZ:((h.push (jD rest)).push (newExc C h.objs.size)).Ns N mN:=let #[o,es,ep,e,r]:=hn;#[o,es,ep,k2' _ _ e,r];have hget:((h.push (jD rest)).push (newExc C h.objs.size)).get? (h.objs.size+1)=some (newExc C h.objs.size):=by
  have:=cJ (h.push (jD rest)) (o:=newExc C h.objs.size) rfl;rwa [c7] at this
 have hcC:(Value.ref C :: BM).contains (.ref C)=true:=by simp
 unfold isInstance;repeat (first | with_reducible refine et hget ?_ | (with_reducible refine vJ Wi ?_;rw [hcC]) | wp_step)
 show wpAny _ _ (typeLookup (.ref C) _) _ _ _;refine lw Wi mZ Fx.mroIs Fx.init.lookup ?_;rw [hni];have b1:=bind_fn (M:=model prog w) (X.keeps k2') (.ref (h.objs.size+1)) hf;refine wpAny_holding (aw (b1.at ?_));refine aw (jr (gZ hq λr s' z=>?_));rcases r with e | (v | _ | _ | _) <;> first | exact z | exact z.elim | skip
 ext z rfl z;wp_walk;exact z
def Ma {K:Frag} (hC:h.get? C=some (excClassObj nm q C N bs BM true sn sub ab col dd k0 k1 k2 k3 k5 "Exception.__new__")) (hn:h.Ns N mN) (hni:mN "__init__" = some (.ref fI))
 (X:K.In h) (hf:typeIn K (.ref fI)=some (.type "function"))
 (hq:codeAny (model prog w) (A.under (.builtin "type.__call__" #[.ref C :: rest,[]])) (.call (.ref fI) #[.ref (h.objs.size+1) :: rest,[]]) (InitBack (h.objs.size+1) R) #[(h.push (jD rest)).push (newExc C h.objs.size),g,d,t,os]) (hrest:rest.length<=sizeLine):
 codeAny (model prog w) A (.call (.ref C) #[rest,[]]) R #[h,g,d,t,os]:=by
 have f1:=tc_lookup;have f2:=tc_bind (.ref C);have hT:(#[h,g,d,t,os]:Shared).TypeIs (.ref C) "type" :=#[_,hC,rfl];refine codeAny_of_tree ?_;show wpAny _ _ (callAny (.ref C) _) _ _ _;repeat (any_goals (first | assumption | with_reducible refine et hC ?_ | wp_step))
 exists U,?_;refine codeAny_call_builtin_at (Code.quiet_builtin _ (by decide+kernel)) entry_typeCall (wpAny_check_type_call_sub hC (OW hC hn hni X hf (gZ hq λr s' z=>?_) hrest));rcases r with e | (v | _ | _ | _) <;> exact z
end
end XE
end
section
namespace XE
open PySem
open Sem (wp)
open Builtin Builtin.ObjectAttr
section
variable {prog:Program} {w:World} {A:Around} {E:Value->Shared->Prop} {h:Heap} {g:Array GenState} {d:Drawn} {t:Nat} {os:OsState} {x:Addr} {o:Obj}
 {nm q:Str} {C N:Addr} {bs:List Value} {sn:List Str} {sub:List Value} {ab:Bool} {col:Option Bool} {dd:Option Addr} {k0 k1 k2 k3 k5:Option Value} {newId:String} {mN mA:Str->Option Value}
 {name:Str} {v:Value} {sa owner:String}
def EQ (x:Addr) (o:Obj) (mA:Str->Option Value) (name:Str) (v:Value) (h h':Heap):Prop:=
 (o.dict=none/\h'.get? x=some {o with dict:=some h.objs.size}/\h'.Ns1 h.objs.size (λy=>if y=name then some v else none)/\∀b ob,b≠x->h.get? b=some ob->h'.get? b=some ob)\/
 (∃dx,o.dict=some dx/\dx≠x/\h'.Ns1 dx (λy=>if y=name then some v else mA y)/\Heap.SameBut dx h h')
theorem Jl {tk:Tok} {Q:Fin->Shared->Prop} {ns:List Str} (SF:StoreFacts "Exception" BM sa owner)
 (hC:h.get? C=some (excClassObj nm q C N bs BM true sn sub ab col dd k0 k1 k2 k3 k5 newId)) (hn:h.Ns N mN) (hna:mN name=none)
 (hB:typeLookup (.type "Exception") name=pure none) (hx:h.get? x=some o) (hc:o.cls= .ref C) (hnc:∀c,o.data≠ .cls c) (hfr:o.isFreed=false) (hd:o.dict=none\/∃dx,o.dict=some dx/\dx≠x/\h.Ns1 dx mA)
 (hq:∀h' tk',EQ x o mA name v h h'->Q (.done (.ret .none)) #[h',g,d,tk',os]) (hw:Within mA ns) (hsz:ns.length<=sizeLine):
 wpAny (model prog w) A (Builtin.«object.__setattr__» #[[.ref x,.str name tk,v],[]]) Q E #[h,g,d,t,os]:=by
 have hpass:=SF.passes (.ref x);unfold Builtin.«object.__setattr__»;repeat (first | rw [refuse_eq] | (rw [refuseLoop_ref,hpass]) | (with_reducible refine et hx ?_;rw [hc]) | with_reducible refine wpAny_mroOf_exc hC ?_ | (with_reducible refine lw hC hn SF.mro hB ?_;rw [hna]) | wp_step)
 rcases hd with hdn | ⟨dx,hdx,k7,hns⟩
 . rw [hdn,ae (by simp [typeHasDict])];split
   . rename_i hcd;cases hcd
   split
   . rename_i c hcd;exact absurd hcd (hnc c)
   . have hx1:(h.push {cls:= .type "dict",data:= .dict #[]}).get? x=some o:=bK _ hx;have hxs:x≠h.objs.size:=a9 (aI hx);refine aw (wpAny_alloc' (aw (wpAny_update' hx1 (bo ?_))));have hgd:((h.push {cls:= .type "dict",data:= .dict #[]}).update x λo=>{cls:=o.cls,dict:=some h.objs.size,data:=o.data,slots:=o.slots}).get? h.objs.size=some {cls:= .type "dict",data:= .dict #[]}:=
      (Heap.get?_update_ne _ _ _ _ hxs.symm).trans (Heap.get?_push_at rfl rfl)
     have hnd:((h.push {cls:= .type "dict",data:= .dict #[]}).update x λo=>{cls:=o.cls,dict:=some h.objs.size,data:=o.data,slots:=o.slots}).Ns h.objs.size (λ_=>none):=
      #[_,#[],_,hgd,rfl,λe he=>absurd he (by simp),λ_=>rfl]
     show wpAny _ _ (storeInDict h.objs.size (.str name tk) name v) _ _ _;unfold storeInDict newKeyGuard;refine aw (bo (aw (wpAny_nsSet1 (Heap.Ns1.of_empty hnd) λh' hn' hs=>?_)));obtain ⟨oD,esD,epD,hoD,hdD,hcD⟩:=hn'.count (Within.cons name v Within.nil);refine aw (vT hoD (by rw [hdD];exact vU (aP hcD (by rw [aT,fQ,lV];lia))) ?_);wp_walk;refine hq h' _ (.inl #[hdn,?_,hn',λb ob hbx hb=>?_])
     . refine (hs.2 x hxs).trans (Heap.get?_update_self _ hx1 ?_);ext o oc od odt osl;cases odt <;> first | rfl | exact hfr
     . exact (hs.2 b (a9 (aI hb))).trans ((Heap.get?_update_ne _ _ _ _ hbx).trans (bK _ hb))
 . rw [hdx];refine bo ?_;show wpAny _ _ (storeInDict dx (.str name tk) name v) _ _ _;unfold storeInDict newKeyGuard;refine aw (bo (aw (wpAny_nsSet1 hns λh' hn' hs=>?_)));obtain ⟨oD,esD,epD,hoD,hdD,hcD⟩:=hn'.count (Within.cons name v hw);refine aw (vT hoD (by rw [hdD];exact vU (aP hcD (by rw [aT];lia))) ?_);wp_walk;exact hq h' _ (.inr #[dx,hdx,k7,hn',hs])
def Mb {tk:Tok} {R:Result->Shared->Prop} {ns:List Str} (SF:StoreFacts "Exception" BM sa owner)
 (hC:h.get? C=some (excClassObj nm q C N bs BM true sn sub ab col dd k0 k1 k2 k3 k5 newId)) (hn:h.Ns N mN) (hna:mN name=none)
 (hB:typeLookup (.type "Exception") name=pure none) (hx:h.get? x=some o) (hc:o.cls= .ref C) (hnc:∀c,o.data≠ .cls c) (hfr:o.isFreed=false) (hd:o.dict=none\/∃dx,o.dict=some dx/\dx≠x/\h.Ns1 dx mA)
 (hq:∀h' tk',EQ x o mA name v h h'->R (.ok (.ret .none)) #[h',g,d,tk',os]) (hw:Within mA ns) (hsz:ns.length<=sizeLine):
 codeAny (model prog w) A (.call (.builtin sa) #[[.ref x,.str name tk,v],[]]) R #[h,g,d,t,os]:=
 codeAny_call_builtin SF.slot.plain SF.entry (wpAny_check_sa SF hC hx hc (Jl SF hC hn hna hB hx hc hnc hfr hd hq hw hsz))
def Gf {Q:Unit->Shared->Prop} {ns:List Str} (SF:StoreFacts "Exception" BM sa owner)
 (hC:h.get? C=some (excClassObj nm q C N bs BM true sn sub ab col dd k0 k1 k2 k3 k5 newId)) (hn:h.Ns N mN) (hns:mN "__setattr__" = none) (hna:mN name=none)
 (hB:typeLookup (.type "Exception") name=pure none) (hx:h.get? x=some o) (hc:o.cls= .ref C) (hnc:∀c,o.data≠ .cls c) (hfr:o.isFreed=false) (hd:o.dict=none\/∃dx,o.dict=some dx/\dx≠x/\h.Ns1 dx mA)
 (hq:∀h' tk',EQ x o mA name v h h'->Q () #[h',g,d,tk',os]) (hw:Within mA ns) (hsz:ns.length<=sizeLine):
 wpAny (model prog w) A (setAttr (.ref x) name v) Q E #[h,g,d,t,os]:=by
 have f3:=SF.slot.bind (.ref x);unfold setAttr callSpecial? specialOf;repeat (any_goals (first | assumption | (with_reducible refine et hx ?_;rw [hc]) | (with_reducible refine lw hC hn SF.mro SF.slot.lookup ?_;rw [hns]) | wp_step))
 refine Mb SF hC hn hna hB hx hc hnc hfr hd (λh' tk' z=>?_) hw hsz;repeat (any_goals (first | wp_step | assumption))
 exact hq _ _ z
end
end XE
end
namespace HT
open PySem PyProof.Rows
section
variable {prog:Program} {w:World} {A:Around} {E:Value->Shared->Prop} {s:Shared}
def EC (n d:Nat):Option Int->Nat
 | none=>d
 | some v=>if v < 0 then (v+(n:Int)).toNat else min v.toNat n
theorem ya (n d k:Nat):EC n d (some (k:Int))=min k n:=by
 show (if (k:Int) < 0 then ((k:Int)+(n:Int)).toNat else min (k:Int).toNat n)=min k n;rw [ae (by lia),qI]
end
end HT
namespace Uy
open PySem PyProof.Rows
end Uy
namespace TL
open PySem PySem.Builtin PySem.Builtin.Str StrLaws
abbrev tl (x:Str):List Nat:=x.cps.toList
def OX (x:Str):x.length=(tl x).length:=by simp [tl,Str.length]
def OY {x y:Str} (h:tl x=tl y):x=y:=Str.ext' (Array.toList_inj.mp h)
def AW (x y:Str):tl (x++y)=tl x++tl y:=by
 show (x++y).cps.toList=_;rw [Str.cps_append,Array.toList_append]
def pre (S l:List Nat):Bool:=l.take S.length == S
def par (S:List Nat):List Nat->List Nat->Option (List Nat×List Nat)
 | _,[]=>none
 | acc,c :: r=>if pre S (c :: r)=true then some (acc,(c :: r).drop S.length) else par S (acc++ [c]) r
def yu (L:List Nat) (a b:Nat):(L.drop a).drop b=L.drop (a+b):=by
 first
  | rw [fR]
  | rw [fR,lT]
def Jn {y:Str} (hy:tl y≠ []):1<=y.length:=by
 have e2:0 < (tl y).length:=List.length_pos_iff.mpr hy;rw [OX y];exact e2
def AX (S:List Nat):List (List Nat)->List Nat
 | []=> []
 | [p]=>p
 | p :: q :: r=>p++(S++AX S (q :: r))
theorem Gg (y:Str):∀parts:List Str,tl (Str.join y parts)=AX (tl y) (parts.map tl)
 | []=>rfl
 | [_]=>rfl
 | x :: z :: r=>by
  show tl (x++y++Str.join y (z :: r))=tl x++(tl y++AX (tl y) ((z :: r).map tl));rw [AW,AW,Gg y (z :: r),bz]
def join_eq (y:Str) (parts:List Str):Txt.join y parts=Str.join y parts:=glued_eq_join y parts
end TL
namespace Xo
open PySem PySem.W PySem.Calls PyProof.Rows
end Xo
namespace L2
open PySem Spec PyProof.Rows
open PySem.W (Frag)
open PySem.W (instObj methodObj lookIn plainGet hasDictIn findIn handedIn plainGet_of isFn plainOver takerIn Looks makesIn emptyDict keepIn mroIn kitOne kia_one kitx_list kitx_dict callWith_K methodCall_KW callWith_K0 cellsFrom_some fnOf codeIn codeRec_of nsOkIn nsIn isNs_of_in nsMap_none_of_in WRecords WalkOS)
open PySem.F (slot_list_getattribute)
variable {us bU:List Value} {x m qual:Str} {u cd eB:Value} {a b f dx C l CF fI:Addr} {P prog:Program} {w:World} {h h' base:Heap} {α:Type} {e c tg iter elt:Expr} {pN:List (Addr×Obj)} {s s' s1:Shared} {t' j n kk iy:Nat} {ch fp:List Addr} {N ps:List Str} {M:Model} {A:Around} {E Q Qf:Value->Shared->Prop} {pos pos' p tpos apos p2 eU py p1 p3 p4 pa np hpos:Pos} {K:Frag} {st:Stmt} {es ifs elts:List Expr} {body:List Stmt} {vs items:Array Value} {mA mg:Str->Option Value} {pl:Sem Bool} {R:Result->Shared->Prop} {kw:List (Str×Value)} {env:Env} {fd:FuncData} {outer:List Env} {kindOf:Str->Option NameKind} {sc scope:Scope} {T:String} {cells:List (Str×Addr)} {own:List (Str×Nat)} {z:Int} {ds:List WData}
abbrev Key:=Sum Int Str
def lW:Key->Value->Bool
 | .inl k,v=>Value.isInt k v
 | .inr x,v=>Value.isStrOf x v
def Q8 (w:World):Key->Int
 | .inl k=>hashInt k
 | .inr x=>hashStr w x
def dH:∀{k:Key} {v:Value},lW k v=true->(∃i t,k=Sum.inl i/\v=Value.int i t)\/(∃x t,k=Sum.inr x/\v=Value.str x t)
 | .inl i,v,h=>by
  obtain ⟨t,e⟩:=Value.isInt_shape (k:=i) (v:=v) h;exact .inl #[i,t,rfl,e]
 | .inr x,v,h=>by
  obtain ⟨t,e⟩:=Value.isStrOf_shape (x:=x) (v:=v) h;exact .inr #[x,t,rfl,e]
def AY (i:Int) (t:Tok):lW (.inl i) (.int i t)=true:=by simp [lW,Value.isInt]
def AZ (x:Str) (t:Tok):lW (.inr x) (.str x t)=true:=by simp [lW,Value.isStrOf]
def OZ (a b:Int):decide ((Sum.inl a:Key)=Sum.inl b)=(a == b):=by
 by_cases e:a=b
 . subst e;simp
 . have h:¬(Sum.inl a:Key)=Sum.inl b:=λq=>e (Sum.inl.inj q);rw [dG h];exact (c4.mpr e).symm
def O0 (a b:Str):decide ((Sum.inr a:Key)=Sum.inr b)=decide (a=b):=by
 by_cases e:a=b
 . subst e;simp
 . have h:¬(Sum.inr a:Key)=Sum.inr b:=λq=>e (Sum.inr.inj q);rw [dG h,dG e]
def O1 (a:Int) (b:Str):decide ((Sum.inl a:Key)=Sum.inr b)=false:=dG (λq=>nomatch q)
def O2 (a:Str) (b:Int):decide ((Sum.inr a:Key)=Sum.inl b)=false:=dG (λq=>nomatch q)
def cz (prog:Program) (w:World):KeyKind prog w Key where
 is:=lW
 hash:=Q8 w
 inj:=λv a b ha hb=>by
  rcases dH ha with ⟨i,t,rfl,rfl⟩ | ⟨x,t,rfl,rfl⟩
  . rcases dH hb with ⟨j,u,rfl,e⟩ | ⟨y,u,rfl,e⟩
    . injection e with e1 _;rw [e1]
    . exact nomatch e
  . rcases dH hb with ⟨j,u,rfl,e⟩ | ⟨y,u,rfl,e⟩
    . exact nomatch e
    . injection e with e1 _;rw [e1]
 byValue:=λk v h=>by
  rcases dH h with ⟨i,t,rfl,rfl⟩ | ⟨x,t,rfl,rfl⟩ <;> rfl
 pyHash:=λhv h=>by
  rcases dH hv with ⟨i,t,rfl,rfl⟩ | ⟨x,t,rfl,rfl⟩
  . exact wpAny_pyHash_int h
  . exact wpAny_pyHash_str h
 eqBool:=λhu hv h=>by
  rcases dH hu with ⟨i,t,rfl,rfl⟩ | ⟨x,t,rfl,rfl⟩
  . rcases dH hv with ⟨j,u,rfl,rfl⟩ | ⟨y,u,rfl,rfl⟩
    . rw [OZ] at h;exact wpAny_eqBool_int h
    . rw [O1] at h;exact SeqAt.EqAt.int_str i t y u _ _ _ _ h
  . rcases dH hv with ⟨j,u,rfl,rfl⟩ | ⟨y,u,rfl,rfl⟩
    . rw [O2] at h;exact SeqAt.EqAt.str_int x t j u _ _ _ _ h
    . rw [O0] at h;exact wpAny_eqBool_str h
 «strs» :=λk x t v h=>by
  rcases dH h with ⟨i,u,rfl,e⟩ | ⟨y,u,rfl,e⟩
  . exact nomatch e
  . injection e with e1 _;subst e1;cases v <;> rfl
def C5 (prog:Program) (w:World) (i:Int) (t:Tok):(cz prog w).is (.inl i) (.int i t)=true:=AY i t
def C6 (prog:Program) (w:World) (x:Str) (t:Tok):(cz prog w).is (.inr x) (.str x t)=true:=AZ x t
inductive V where
 | cx | bl (b:Bool) | int (i:Int) | str (x:Str) | CZ (b:Array UInt8) | flt (b:UInt64) | ref (a:Addr) | ty (n:String)
 deriving DecidableEq
variable {xs ys:List V} {v y:V} {aG:List (List Key×V)}
def RelV:V->Value->Prop
 | .cx,u=>u=Value.none
 | .bl b,u=>u=Value.bool b
 | .int i,u=> ∃t,u=Value.int i t
 | .str x,u=> ∃t,u=Value.str x t
 | .CZ b,u=> ∃t,u=Value.bytes b t
 | .flt b,u=> ∃t,u=Value.float b t
 | .ref a,u=>u=Value.ref a
 | .ty n,u=>u=Value.type n
abbrev Vals:List V->List Value->Prop:=Paired RelV
def Vals.length (r:Vals xs us):xs.length=us.length:=qX r
theorem Vals.get:∀{xs:List V} {us:List Value} {i:Nat} {x:V},Vals xs us->xs[i]? = some x->∃u,us[i]? = some u/\RelV x u
 | _,_,_,_,.nil,e=>by simp at e
 | _,_,0,_,.cons r _,e=>by simp at e;subst e;exists _,U,r
 | _,_,i+1,x,.cons _ t,e=>by
  obtain ⟨u,h1,h2⟩:=Vals.get (i:=i) (x:=x) t (~~~e);exists u,~~~h1,h2
def Vals.set {x:V} (r:RelV x u):∀{xs:List V} {us:List Value} (i:Nat),Vals xs us->Vals (xs.set i x) (us.set i u)
 | _,_,_,.nil=> .nil
 | _,_,0,.cons _ t=> .cons r t
 | _,_,i+1,.cons q t=> .cons q (Vals.set r i t)
def Vals.append:∀{xs ys:List V} {us ws:List Value},Vals xs us->Vals ys ws->Vals (xs++ys) (us++ws)
 | _,_,_,_,.nil,s=>s
 | _,_,_,_,.cons r t,s=> .cons r (Vals.append t s)
def Vals.take:∀{xs:List V} {us:List Value} (n:Nat),Vals xs us->Vals (xs.take n) (us.take n)
 | _,_,0,_=> .nil
 | _,_,_+1,.nil=> .nil
 | _,_,n+1,.cons r t=> .cons r (Vals.take n t)
def Vals.drop:∀{xs:List V} {us:List Value} (n:Nat),Vals xs us->Vals (xs.drop n) (us.drop n)
 | _,_,0,r=>r
 | _,_,_+1,.nil=> .nil
 | _,_,n+1,.cons _ t=>Vals.drop n t
theorem Vals.none_of:∀{xs:List V} {us:List Value} {i:Nat},Vals xs us->xs[i]? = none->us[i]? = none:=λ{xs us i} r e=>by
 have h1:=r.length;have h2:xs.length<=i:=oK.mp e;exact oK.mpr (by lia)
def jE:Option V->Option Value->Prop
 | some v,some u=>RelV v u
 | none,none=>True
 | _,_=>False
def KV {κ:Type}:List (κ×V)->List (κ×Value)->Prop:=Paired λ(p:κ×V) (q:κ×Value)=>p.1=q.1/\RelV p.2 q.2
def kV:Key->V
 | .inl i=> .int i
 | .inr x=> .str x
inductive HO where
 | lst (xs:List V)
 | tup (xs:List V)
 | dK (aG:List (Key×V)) | dT (aG:List (List Key×V))
 | set (S:Int->Bool) (n:Nat)
 | ins (C dx:Addr) (fs:List (Str×V))
 | own (x:Addr)
 | xd (fs:List (Str×V))
 | met (f x:Addr)
 | Uz (lo hi:Int)
 | g8 (o:Obj) (u:HO)
 | O3 (ps:Array Value)
 | ext (φ:Heap->Prop)
abbrev Hp:=Addr->Option HO
variable {H H' H1 H2:Hp} {Qd:Hp->Prop}
def upd (H:Hp) (a:Addr) (o:HO):Hp:=λb=>if b=a then some o else H b
def aa {o:HO}:upd H a o a=some o:=by unfold upd;rw [ah rfl]
def aA {o:HO} (h:b≠a):upd H a o b=H b:=by unfold upd;rw [ae h]
def Q9 {o u:HO} (h:H a=some o) (h':H b=some u) (d:o≠u):a≠b:=by
 intro e;subst e;rw [h] at h';exact d (bE h')
def bp {o:HO} (h:H a=some o) (h':H b=none):a≠b:=by
 intro e;subst e;rw [h] at h';cases h'
section
variable (P:Program) (w:World)
def dc (H:Hp) (h:Heap) (a:Addr):HO->Prop
 | .lst xs=>xs.length<=sizeLine/\∃(bU:List Value) (n:Nat),Vals xs bU/\h.get? a=some {cls:= .type "list",data:= .seq bU.toArray n}
 | .tup xs=>xs.length<=sizeLine/\∃bU:List Value,Vals xs bU/\IsTup h a bU.toArray
 | .dK aG=>aG.length<=sizeLine/\(a == sysModules)=false/\∃vs,KV aG vs/\h.DictOf (cz P w) a vs
 | .dT aG=>aG.length<=sizeLine/\(a == sysModules)=false/\∃xs:List (List Key×Addr×Value),
  Paired (λ(p:List Key×V) (q:List Key×Addr×Value)=>p.1=q.1/\H q.2.1=some (.tup (p.1.map kV))/\RelV p.2 q.2.2) aG xs/\
  ∃o es ep,h.get? a=some o/\o.ExactDict/\o.data= .dict es ep/\es.toList=xs.map (entryOfKey (tupleKind (cz P w)))/\(xs.map (·.1)).Nodup
 | .set S n=>h.SetOf (intKind P w) a S n
 | .ins C dx fs=>H dx=some (.own a)/\fs.length<=1000/\dx≠a/\h.get? a=some (instObj C dx)/\
  ∃mA,h.Ns1 dx mA/\(∀f,jE (fs.lookup f) (mA f))/\PySem.Within mA (fs.map (·.1))
 | .own _=> ∃o,h.get? a=some o
 | .xd fs=> ∃mA,h.Ns1 a mA/\∀f,jE (fs.lookup f) (mA f)
 | .Uz lo hi=> ∃t u v,h.get? a=some {cls:= .type "range",data:= .fields (List.toArray [.int lo t,.int hi u,.int 1 v])}
 | .g8 o u=>h.get? a=some o/\dc H h a u
 | .O3 ps=>h.get? a=some {cls:= .none,data:= .fields ps}
 | .met f x=>h.get? a=some (methodObj (.ref f) (.ref x))
 | .ext φ=>φ h/\(∃o,h.get? a=some o)/\∀h1 h2:Heap,φ h1->(∀o,h1.get? a=some o->h2.get? a=some o)->φ h2
def lX (H:Hp) (h:Heap):= ∀a o,H a=some o->dc P w H h a o
end
section
variable {o:HO}
def dc.lt (x:dc P w H h a o):a < h.objs.size:=by
 cases o with
 | lst xs=>ext x _ _ _ _ e;exact aI e
 | tup xs=>ext x _ _ _ p;exact p.lt
 | dK aG=>ext x _ _ _ _ o _ _ e _;exact aI e
 | dT aG=>ext x _ _ _ _ o _ _ e _;exact aI e
 | set S n=>ext x o _ _ _ e _;exact aI e
 | ins C dx fs=>ext x _ _ _ e _;exact aI e
 | own y=>ext x _ e;exact aI e
 | xd fs=>ext x _ ⟨_,_,_,e,_⟩ _;exact aI e
 | Uz lo hi=>ext x _ _ _ e;exact aI e
 | g8 ob u=>ext x e _;exact aI e
 | O3 ps=>exact aI (show h.get? a=some _ from x)
 | met f y=>exact aI (show h.get? a=some _ from x)
 | ext φ=>ext x _ ⟨_,e⟩ _;exact aI e
theorem Paired.O4 {β:Type} {F G:α->β->Prop}:∀{l₁:List α} {l₂:List β},Paired F l₁ l₂->(∀a b,F a b->G a b)->Paired G l₁ l₂
 | _,_,.nil,_=> .nil
 | _,_,.cons r t,f=> .cons (f _ _ r) (Paired.O4 t f)
def dc.stay (x:dc P w H h a o) (k:∀b u,(b=a\/H b=some (.own a))->h.get? b=some u->h'.get? b=some u) (ho:∀b,H b=some (.own a)->H' b=some (.own a)) (ht:∀b xs,H b=some (.tup xs)->H' b=some (.tup xs)):dc P w H' h' a o:=by
 induction o with
 | lst xs=>ext x z bU n r e;exists z,bU,n,r,k _ _ (.inl U) e
 | tup xs=>ext x z bU r ob e c;exists z,bU,r,ob,k _ _ (.inl U) e,c
 | dK aG=>ext x z y vs r ob es ep e c;exists z,y,vs,r,ob,es,ep,k _ _ (.inl U) e,c
 | dT aG=>
  ext x z y xs r ob es ep e c;exists z,y,xs,Paired.O4 r λp q z=>#[z.1,ht _ _ z.2.1,z.2.2],ob,es,ep,k _ _ (.inl U) e,c
 | set S n=>ext x ob es ep t e c;exists ob,es,ep,t,k _ _ (.inl U) e,c
 | ins C dx fs=>
  ext x d z ne e mA ⟨od,es,ep,e2,c⟩ r;exists ho _ d,z,ne,k _ _ (.inl U) e,mA,#[od,es,ep,k _ _ (.inr d) e2,c],r
 | own y=>ext x ob e;exists ob,k _ _ (.inl U) e
 | xd fs=>ext x mA ⟨od,es,ep,e,c⟩ r;exists mA,#[od,es,ep,k _ _ (.inl U) e,c],r
 | Uz lo hi=>ext x t u v e;exists t,u,v,k _ _ (.inl U) e
 | g8 ob u ih=>ext x e q;exists k _ _ (.inl U) e,ih q
 | O3 ps=>
  have e:h.get? a=some {cls:= .none,data:= .fields ps}:=x;show h'.get? a=some {cls:= .none,data:= .fields ps};exact k a _ (.inl rfl) e
 | met f y=>
  have e:h.get? a=some (methodObj (.ref f) (.ref y)):=x;show h'.get? a=some (methodObj (.ref f) (.ref y));exact k a _ (.inl rfl) e
 | ext φ=>ext x p ⟨o,e⟩ st;exists st _ _ p λo q=>k _ _ (.inl U) q,#[o,k _ _ (.inl U) e],st
def lX.lt (x:lX P w H h) (e:H a=some o):a < h.objs.size:=(x a o e).lt
def lX.fresh (x:lX P w H h) (e:h.objs.size<=a):H a=none:=by
 cases q:H a with
 | none=>rfl
 | some u=>exact absurd (bw (x.lt q) e) (cM _)
def lX.kept (x:lX P w H h) (k:∀b u,h.get? b=some u->h'.get? b=some u):lX P w H h':=λa o e=>
 (x a o e).stay (λb u _ q=>k b u q) (λ_ q=>q) λ_ _ q=>q
def lX.laid (x:lX P w H h) (k:∀b u,h.get? b=some u->h'.get? b=some u) (hp:h.objs.size<=a) (new:dc P w (upd H a o) h' a o):lX P w (upd H a o) h':=λb u e=>by
 have hn:=x.fresh hp;by_cases hb:b=a
 . subst hb;rw [aa] at e;cases e;exact new
 . rw [aA hb] at e;exact (x b u e).stay (λc v _ q=>k c v q) (λc q=>by rw [aA (bp q hn)];exact q) λc xs q=>by rw [aA (bp q hn)];exact q
end
def Rd (H:Hp) (a:Addr) (u:HO):=H a=some u\/∃o,H a=some (.g8 o u)
def Rd.of {u:HO} (h:H a=some u):Rd H a u:= .inl h
def Rd.ok {u:HO} (r:Rd H a u) (x:lX P w H h):dc P w H h a u:=by
 rcases r with r | ⟨o,r⟩
 . exact x a u r
 . obtain ⟨_,q⟩:=x a _ r;exact q
def O5:Option HO->Prop
 | some (.lst _)=>True
 | some (.dK _)=>True
 | some (.dT _)=>True
 | some (.set _ _)=>True
 | some (.ins _ _ _)=>True
 | some (.ext _)=>True
 | _=>False
section
variable {x e:Addr} {o':HO}
def lX.write (ok:lX P w H h) (mu:O5 (H x)) (he:e=x\/H e=some (.own x)) (k:∀b u,b≠e->h.get? b=some u->h'.get? b=some u) (heo:∃u,h'.get? e=some u) (new:dc P w (upd H x o') h' x o'):lX P w (upd H x o') h':=λb u q=>by
 have Q_:∀c y,H c=some (.own y)->c≠x:=λc y r z=>by subst z;rw [r] at mu;exact mu
 have UA:∀c xs,H c=some (.tup xs)->c≠x:=λc xs r z=>by subst z;rw [r] at mu;exact mu
 by_cases hb:b=x
 . subst hb;rw [aa] at q;cases q;exact new
 . rw [aA hb] at q;by_cases hbe:b=e
   . have q':H b=some (.own x):=by
      rcases he with z | z
      . exact absurd (hbe.trans z) hb
      . rw [hbe];exact z
     rw [q] at q';cases q';ext heo v hv;exists v,by rw [hbe];exact hv
   . refine (ok b u q).stay (λc v hc r=>k c v ?_ r) (λc r=>by rw [aA (Q_ c b r)];exact r) λc xs r=>by rw [aA (UA c xs r)];exact r
     rcases hc with rfl | hc
     . exact hbe
     . rintro rfl;rcases he with z | z
       . exact Q_ c b hc z
       . rw [hc] at z;cases z;exact hb rfl
end
structure Un (fs ex:List Addr) (H H':Hp) (h h':Heap):Prop where
 keep:∀b o,h.get? b=some o->H b=none->b∉fs->b∉ex->h'.get? b=some o
 slot:∀b o,h.get? b=some o->H b=none->b∈fs->b∉ex->∃sl,h'.get? b=some {o with slots:=sl}
 free:∀b o,h.get? b=some o->H b=none->b∉ex->H' b=none
 there:∀b o,h.get? b=some o->b∉ex->∃o',h'.get? b=some o'
 tups:∀b xs,H b=some (.tup xs)->H' b=some (.tup xs)
 rG:∀b o u,H b=some (.g8 o u)->H' b=some (.g8 o u)
 sI:∀b ps,H b=some (.O3 ps)->∃more,H' b=some (.O3 (ps++more))
section
variable {fs fs' ex ex':List Addr} {h1 h2:Heap} {x e:Addr} {o:HO}
def Un.any (u:Un fs ex H H1 h h1) {ob:Obj} (q:h.get? b=some ob) (n:H b=none) (hx:b∉ex):∃sl,h1.get? b=some {ob with slots:=sl}:=by
 by_cases hb:b∈fs
 . exact u.slot b ob q n hb hx
 . exists ob.slots,u.keep b ob q n hb hx
def Un.trans (a:Un fs ex H H1 h h1) (b:Un fs ex H1 H2 h1 h2):Un fs ex H H2 h h2 where
 keep:=λc ob q n hc hx=>b.keep c ob (a.keep c ob q n hc hx) (a.free c ob q n hx) hc hx
 slot:=λc ob q n hc hx=>by
  obtain ⟨sl,e1⟩:=a.slot c ob q n hc hx;obtain ⟨sl',e2⟩:=b.slot c _ e1 (a.free c ob q n hx) hc hx;exists sl',e2
 free:=λc ob q n hx=>by
  obtain ⟨o',e1⟩:=a.there c ob q hx;exact b.free c o' e1 (a.free c ob q n hx) hx
 there:=λc ob q hx=>by
  obtain ⟨o',e1⟩:=a.there c ob q hx;exact b.there c o' e1 hx
 tups:=λc xs q=>b.tups c xs (a.tups c xs q)
 rG:=λc ob xs q=>b.rG c ob xs (a.rG c ob xs q)
 sI:=λc ps q=>by
  obtain ⟨m1,e1⟩:=a.sI c ps q;obtain ⟨m2,e2⟩:=b.sI c _ e1;exists m1++m2,by rw [e2,Array.append_assoc]
def Un.kept (k:∀b u,h.get? b=some u->h'.get? b=some u):Un fs ex H H h h':=
 #[λb ob q _ _ _=>k b ob q,λb ob q _ _ _=>#[ob.slots,k b ob q],λ_ _ _ n _=>n,λb ob q _=>#[ob,k b ob q],λ_ _ q=>q,λ_ _ _ q=>q,λ_ ps q=>#[#[],by rw [q];simp]]
def Un.refl:Un fs ex H H h h:=Un.kept λ_ _ q=>q
def Un.laid (k:∀b u,h.get? b=some u->h'.get? b=some u) (hp:h.objs.size<=a) (hn:H a=none):Un fs ex H (upd H a o) h h' where
 keep:=λb u q _ _ _=>k b u q
 slot:=λb u q _ _ _=>#[u.slots,k b u q]
 free:=λb u q n _=>by rw [aA (a9 (bw (aI q) hp))];exact n
 there:=λb u q _=>#[u,k b u q]
 tups:=λb xs q=>by rw [aA (bp q hn)];exact q
 rG:=λb u xs q=>by rw [aA (bp q hn)];exact q
 sI:=λb ps q=>#[#[],by rw [aA (bp q hn),q];simp]
def Un.write (mu:O5 (H x)) (he:e=x\/H e=some (.own x)) (k:∀b u,b≠e->h.get? b=some u->h'.get? b=some u) (heo:∃u,h'.get? e=some u):Un fs ex H (upd H x o) h h':=by
 have hx:∀b,H b=none->b≠x:=λb n z=>by subst z;rw [n] at mu;exact mu
 have hb:∀b,H b=none->b≠e:=λb n z=>by
  subst z;rcases he with r | r
  . exact hx b n r
  . rw [n] at r;cases r
 have hm:∀b u,H b=some u->¬O5 (some u)->b≠x:=λb u q nm z=>by subst z;rw [q] at mu;exact nm mu
 exists λb u q n _ _=>k b u (hb b n) q,λb u q n _ _=>#[u.slots,k b u (hb b n) q],λb u q n _=>by rw [aA (hx b n)];exact n,λb u q _=>?_,
  λb xs q=>by rw [aA (hm b _ q λz=>z)];exact q,λb u xs q=>by rw [aA (hm b _ q λz=>z)];exact q,λb ps q=>#[#[],by rw [aA (hm b _ q λz=>z),q];simp]
 by_cases hbe:b=e
 . subst hbe;exact heo
 . exists u,k b u hbe q
def Un.mono (u:Un fs ex H H1 h h1) (hs:∀b∈fs,b∈fs') (hx:∀b∈ex,b∈ex'):Un fs' ex' H H1 h h1:=
 #[λb ob q n hb he=>u.keep b ob q n (λz=>hb (hs b z)) λz=>he (hx b z),λ_ _ q n _ he=>u.any q n λz=>he (hx _ z),λb ob q n he=>u.free b ob q n λz=>he (hx b z),λb ob q he=>u.there b ob q λz=>he (hx b z),u.tups,u.rG,u.sI]
end
def Tn (h:Heap) (H:Hp):List Addr:=(List.range h.objs.size).filter λa=>(H a).isSome
def BJ (h:Heap) (H:Hp):Heap:=PySem.W.hideAll h (Tn h H)
def HD (h:Heap) (H:Hp):(BJ h H).objs.size=h.objs.size:=PySem.W.hideAll_size _ _
def Jo {o:Obj} (e:h.get? b=some o) (n:H b=none):(BJ h H).get? b=some o:=
 PySem.W.hideAll_get _ e λhm=>by
  have q:(H b).isSome=true:=(ip.mp hm).2;rw [n] at q;simp at q
def Md {o:Obj} (e:(BJ h H).get? b=some o):h.get? b=some o/\H b=none:=by
 have e':h.get? b=some o:=PySem.W.of_hideAll (Tn h H) e;exists e',?_;cases q:H b with
 | none=>rfl
 | some x=>
  have hm:b∈Tn h H:=ip.mpr #[List.mem_range.mpr (aI e'),by simp [q]];have z:(BJ h H).get? b=none:=PySem.W.hideAll_none (Tn h H) hm;rw [z] at e;cases e
def Mf (g h:Heap) (L:Addr):List (Addr×Obj):=(List.range h.objs.size).filterMap λa=>if a=L\/(g.get? a).isSome=true then none else (h.get? a).map λo=>(a,o)
def rest (g h:Heap) (L d:Addr):List (Addr×Obj):=(Mf g h L).filter λp=>decide (p.1≠d)
structure Mod (K:Frag) (mg:Str->Option Value) (base:Heap):Prop where
 Mg:K.In base
 glob:base.Ns mainGlobals mg
 blt:∃mb,base.Ns builtinsNs mb/\∀x:Str,x≠ "__name__" ->mb x=bootBuiltins x
 nolimit:base.NoLimit
structure Cx where
 prog:Program
 w:World
 K:Frag
 mg:Str->Option Value
 base:Heap
 A:Around
 N:List Str
 ra:Shared
 LZ:Hp
 env:Env
 outer:List Env
 stack:List Env
 ex:List Addr
 fn:Str->Bool
 calm:Bool
 pn:List (Addr×Obj)
 xe:Value->Shared->Prop
variable {X:Cx}
def frs (l:List Env):List Addr:=l.filterMap (·.frame)
abbrev Cx.fs (X:Cx):List Addr:=frs X.outer
def IX (sc:Scope) (x:Str):=sc.names.lookup x=some .local\/sc.names.lookup x=some .cell\/sc.names.lookup x=some .free
def Loc (sc:Scope) (x:Str):=sc.names.lookup x=some .local\/sc.names.lookup x=some .cell
def Look (env:Env) (h:Heap) (m:Str->Option Value) (x:Str) (u:Value):Prop:=
 (env.kindOf x=some .local/\m x=some u)\/((env.kindOf x=some .cell\/env.kindOf x=some .free)/\∃c,env.cells.lookup x=some c/\h.IsCell c (some u))
structure Cx.Ok (X:Cx):Prop where
 mod:Mod X.K X.mg X.base
 kind:X.env.scope.kind= .function
 glob:X.env.globals=mainGlobals
 blt:X.env.builtins=builtinsNs
 above:X.ra.heap.objs.size<=X.env.locals
 inj:∀x y c,X.env.cells.lookup x=some c->X.env.cells.lookup y=some c->x=y
 has:∀x,(X.env.kindOf x=some .cell\/X.env.kindOf x=some .free)->∃c,X.env.cells.lookup x=some c
 cab:∀x c,X.fn x=true->X.env.cells.lookup x=some c->X.ra.heap.objs.size<=c
 hd:X.calm=true->X.A.handled=none
 frames:X.A.frames=some X.stack
 A0:X.stack=X.outer\/(X.stack=X.env :: X.outer/\X.env.frame=some X.env.locals)
 L0:∀b∈X.ex,b≠X.env.locals/\∀x c,X.env.cells.lookup x=some c->c≠b
 bs:∀b o,X.base.get? b=some o->X.ra.heap.get? b=some o/\X.LZ b=none
 C7:X.base.objs.size<=X.ra.heap.objs.size
 Aj:∀b o,X.base.get? b=some o->b∉X.ex
 xR:∀b∈X.ex,b∉X.fs
 funs:X.ra.heap.FunFrames X.base X.outer
 Gh:∀b∈X.fs,X.LZ b=none
structure Inv (X:Cx) (pN:List (Addr×Obj)) (Z:List (Option V)) (H:Hp) (s:Shared):Prop where
 ok:X.Ok
 os:s.os=X.ra.os
 bare:AllBare s.gens
 base:Un X.fs X.ex X.LZ H X.ra.heap s.heap
 loc:∃m,s.heap.Ns X.env.locals m/\∀(i:Nat) (x:Str) (v:V),X.N[i]? = some x->Z[i]? = some (some v)->IX X.env.scope x->∃u,RelV v u/\Look X.env s.heap m x u
 cell:∀x c,X.env.cells.lookup x=some c->∃v,s.heap.IsCell c v
 free:H X.env.locals=none
 gr:∀x c,X.env.cells.lookup x=some c->H c=none
 pin:∀p∈X.pn++pN,s.heap.get? p.1=some p.2/\H p.1=none/\p.1≠X.env.locals/\p.1∉X.fs/\∀v,p.2.data≠ .cell v
 bQ:lX X.prog X.w H s.heap
 len:Z.length=X.N.length
section
variable {Z:List (Option V)}
def Cx.Ok.OV (ok:X.Ok) {o:Obj} (e:X.base.get? b=some o):b∉X.fs:=λhb=>by
 have:=(ok.funs.mem hb).1;rw [e] at this;cases this
def Inv.bs (I:Inv X pN Z H s):∀b o,X.base.get? b=some o->s.heap.get? b=some o/\H b=none:=λb o e=>
 #[I.base.keep b o (I.ok.bs b o e).1 (I.ok.bs b o e).2 (I.ok.OV e) (I.ok.Aj b o e),I.base.free b o (I.ok.bs b o e).1 (I.ok.bs b o e).2 (I.ok.Aj b o e)]
def Inv.bk (I:Inv X pN Z H s):∀b o,X.base.get? b=some o->s.heap.get? b=some o:=λb o e=>(I.bs b o e).1
def Inv.mod (I:Inv X pN Z H s):Mod X.K X.mg X.base:=I.ok.mod
def Inv.lY (I:Inv X pN Z H s):X.K.In s.heap:=I.ok.mod.Mg.keeps I.bk
def Inv.nolimit (I:Inv X pN Z H s):s.heap.NoLimit:=I.ok.mod.nolimit.keeps I.bk
def Inv.fr (I:Inv X pN Z H s):∃m,Fr X.base X.env.locals s.heap m:=
 let #[m,hn,_]:=I.loc
 #[m,hn,I.bk,aP I.ok.C7 I.ok.above]
def Inv.lt (I:Inv X pN Z H s):X.env.locals < s.heap.objs.size:=let #[_,hn,_]:=I.loc;hn.lt
def Inv.sz (I:Inv X pN Z H s):X.ra.heap.objs.size<=s.heap.objs.size:=aP I.ok.above (iw I.lt)
def Inv.UB (I:Inv X pN Z H s) (h:s.heap.objs.size<=a):a∉X.fs:=λhb=>by
 obtain ⟨_,o,ho,_⟩:=I.ok.funs.mem hb;exact absurd (bw (aI ho) (aP I.sz h)) (cM _)
def Inv.NU (I:Inv X pN Z H s):∀x c,X.env.cells.lookup x=some c->c≠X.env.locals:=λx c e z=>by
 obtain ⟨v,o,ho,hd⟩:=I.cell x c e;ext I.loc m ⟨o',es,ep,ho',hd',_⟩ _;rw [z,ho'] at ho;cases ho;rw [hd'] at hd;cases hd
def Inv.funs (I:Inv X pN Z H s):s.heap.FunFrames X.base X.outer:=by
 have all:∀(l:List Env),(∀b∈frs l,b∈X.fs)->X.ra.heap.FunFrames X.base l->s.heap.FunFrames X.base l:=by
  intro l;induction l with
  | nil=>intro _ _;trivial
  | cons env r ih=>
   intro hs hl;ext hl hk ⟨L,o,hf,hn,ho,hd⟩ hr;have hL:L∈X.fs:=hs L (by unfold frs;rw [ly,hf];exact bi);obtain ⟨sl,e⟩:=I.base.slot L o ho (I.ok.Gh L hL) hL λz=>I.ok.xR L z hL;exists hk,#[L,_,hf,hn,e,hd],ih (λb hb=>hs b (by unfold frs;rw [ly,hf];exact aW _ hb)) hr
 exact all X.outer (λ_ hb=>hb) I.ok.funs
def Inv.stack (I:Inv X pN Z H s):s.heap.FunFrames X.base X.stack:=by
 rcases I.ok.A0 with e | ⟨e,hf⟩
 . rw [e];exact I.funs
 . rw [e];ext I.loc m hn _;refine .cons (by rw [I.ok.kind];decide) hf hn ?_ I.funs;exact vH (aP I.ok.C7 I.ok.above)
def Inv.BK (I:Inv X pN Z H s):∀b∈frs X.stack,b∈X.env.locals :: X.fs:=λb hb=>by
 rcases I.ok.A0 with e | ⟨e,hf⟩
 . rw [e] at hb;exact aW _ hb
 . rw [e] at hb;unfold frs at hb;rw [ly,hf] at hb;exact hb
def Inv.tT (I:Inv X pN Z H s):∀b∈frs X.stack,H b=none:=λb hb=>by
 rcases aF.mp (I.BK b hb) with e | hb
 . rw [e];exact I.free
 . obtain ⟨_,o,ho,_⟩:=I.ok.funs.mem hb;exact I.base.free b o ho (I.ok.Gh b hb) λz=>I.ok.xR b z hb
def Inv.step {g':Array GenState} {d':Drawn} (I:Inv X pN Z H s) (hch:∀b∈ch,(b∈X.ex\/X.ra.heap.objs.size<=b)/\b≠X.env.locals/\(∀x c,X.env.cells.lookup x=some c->c≠b)/\∀p∈X.pn++pN,p.1≠b) (keep:∀b o,b≠X.env.locals->b∉X.fs->b∉ch->s.heap.get? b=some o->H b=none->h'.get? b=some o) (slot:∀b o,b≠X.env.locals->b∈X.fs->b∉ch->s.heap.get? b=some o->H b=none->∃sl,h'.get? b=some {o with slots:=sl}) (free:∀b o,b∉ch->s.heap.get? b=some o->H b=none->H' b=none) (there:∀b o,b∉ch->s.heap.get? b=some o->∃o',h'.get? b=some o') (tups:∀b xs,H b=some (.tup xs)->H' b=some (.tup xs)) (rG:∀b o u,H b=some (.g8 o u)->H' b=some (.g8 o u)) (sI:∀b ps,H b=some (.O3 ps)->∃more,H' b=some (.O3 (ps++more))) (ns:∀m,s.heap.Ns X.env.locals m->h'.Ns X.env.locals m) (bQ:lX X.prog X.w H' h') (hg:AllBare g'):
 Inv X pN Z H' {s with heap:=h',gens:=g',drawn:=d',toks:=t'}:=by
 have Wj:∀b o,X.ra.heap.get? b=some o->b≠X.env.locals:=λb o e=>a9 (bw (aI e) I.ok.above);have To:∀b o,X.ra.heap.get? b=some o->b∉X.ex->b∉ch:=λb o e hx hb=>by
  rcases (hch b hb).1 with z | z
  . exact hx z
  . exact absurd (bw (aI e) z) (cM _)
 have cellK:∀x c,X.env.cells.lookup x=some c->∀v,s.heap.IsCell c v->h'.IsCell c v:=λx c e v #[o,ho,hd]=>by
  have Ra:c∉ch:=λz=>(hch c z).2.2.1 x c e rfl;by_cases hc:c∈X.fs
  . obtain ⟨sl,q⟩:=slot c o (I.NU x c e) hc Ra ho (I.gr x c e);exists _,q,hd
  . exists o,keep c o (I.NU x c e) hc Ra ho (I.gr x c e),hd
 exists I.ok,I.os,hg,#[λb o e n hb hx=>?_,λb o e n hb hx=>?_,λb o e n hx=>?_,λb o e hx=>?_,λb xs e=>tups b xs (I.base.tups b xs e),λb o xs e=>rG b o xs (I.base.rG b o xs e),λb ps e=>?_],?_,λx c e=>?_,?_,λx c e=>?_,λp hp=>?_,bQ,I.len
 . exact keep b o (Wj b o e) hb (To b o e hx) (I.base.keep b o e n hb hx) (I.base.free b o e n hx)
 . obtain ⟨sl,e1⟩:=I.base.slot b o e n hb hx;obtain ⟨sl',e2⟩:=slot b _ (Wj b o e) hb (To b o e hx) e1 (I.base.free b o e n hx);exists sl',e2
 . obtain ⟨o',e1⟩:=I.base.there b o e hx;exact free b o' (To b o e hx) e1 (I.base.free b o e n hx)
 . obtain ⟨o',e1⟩:=I.base.there b o e hx;exact there b o' (To b o e hx) e1
 . obtain ⟨m1,e1⟩:=I.base.sI b ps e;obtain ⟨m2,e2⟩:=sI b _ e1;exists m1++m2,by rw [e2,Array.append_assoc]
 . ext I.loc m hn hl;exists m,ns m hn,λi x v e1 e2 e3=>?_;obtain ⟨u,r,l⟩:=hl i x v e1 e2 e3;exists u,r,?_;rcases l with l | ⟨k,c,e,z⟩
   . exact .inl l
   . exact .inr #[k,c,e,cellK x c e _ z]
 . obtain ⟨v,z⟩:=I.cell x c e;exists v,cellK x c e v z
 . ext I.loc m ⟨o,_,_,ho,_⟩ _;exact free _ o (λz=>(hch _ z).2.1 rfl) ho I.free
 . obtain ⟨v,o,ho,hd⟩:=I.cell x c e;exact free c o (λz=>(hch c z).2.2.1 x c e rfl) ho (I.gr x c e)
 . obtain ⟨e,n,ne,nf,d⟩:=I.pin p hp;have Ra:p.1∉ch:=λz=>(hch p.1 z).2.2.2 p hp rfl;exists keep p.1 p.2 ne nf Ra e n,free p.1 p.2 Ra e n,ne,nf,d
def Inv.un (I:Inv X pN Z H s) (u:Un X.fs [] H H' s.heap h') (bQ:lX X.prog X.w H' h'):Inv X pN Z H' {s with heap:=h',toks:=t'}:=by
 obtain ⟨m,⟨o,es,ep,ho,r⟩,_⟩:=id I.loc;obtain ⟨sl,hL⟩:=u.any ho I.free (by simp);exact I.step (g':=s.gens) (d':=s.drawn) (ch:= []) (λ_ z=>nomatch z) (λb o _ hb _ e n=>u.keep b o e n hb (by simp)) (λb o _ hb _ e n=>u.slot b o e n hb (by simp)) (λb o _ e n=>u.free b o e n (by simp)) (λb o _ e=>u.there b o e (by simp)) u.tups u.rG u.sI (λm' hm=>by
  ext hm o' es' ep' ho' r';rw [ho] at ho';cases ho';exists _,es',ep',hL,r') bQ I.bare
def Inv.call {g':Array GenState} {d':Drawn} (I:Inv X pN Z H s) (u:Un (frs X.stack) ch H H' s.heap h') (bQ:lX X.prog X.w H' h') (hg:AllBare g') (hch:∀b∈ch,(b∈X.ex\/X.ra.heap.objs.size<=b)/\b≠X.env.locals/\(∀x c,X.env.cells.lookup x=some c->c≠b)/\∀p∈X.pn++pN,p.1≠b):
 Inv X pN Z H' {s with heap:=h',gens:=g',drawn:=d',toks:=t'}:=by
 obtain ⟨m,⟨o,es,ep,ho,r⟩,_⟩:=id I.loc;obtain ⟨sl,hL⟩:=u.any ho I.free λz=>(hch _ z).2.1 rfl;exact I.step (ch:=ch) hch (λb o hL hb hc e n=>u.keep b o e n (λz=>(aF.mp (I.BK b z)).elim hL hb) hc) (λb o _ _ hc e n=>u.any e n hc) (λb o hc e n=>u.free b o e n hc) (λb o hc e=>u.there b o e hc) u.tups u.rG u.sI (λm' hm=>by
  ext hm o' es' ep' ho' r';rw [ho] at ho';cases ho';exists _,es',ep',hL,r') bQ hg
def Inv.turned {it:Addr} (I:Inv X pN Z H s) (k:∀b o,b≠it->s.heap.get? b=some o->h'.get? b=some o) (hn:H it=none) (hL:it≠X.env.locals) (h1:it∈X.ex\/X.ra.heap.objs.size<=it) (h2:∀x c,X.env.cells.lookup x=some c->c≠it) (h3:∀p∈X.pn++pN,p.1≠it):Inv X pN Z H {s with heap:=h',toks:=t'}:=by
 have NV:∀b u,H b=some u->b≠it:=λb u e z=>by rw [z,hn] at e;cases e
 refine I.step (g':=s.gens) (d':=s.drawn) (ch:= [it]) (λb hb=>?_) (λb o _ _ hc e _=>k b o (λz=>hc (by simp [z])) e) (λb o _ _ hc e _=>#[o.slots,k b o (λz=>hc (by simp [z])) e]) (λ_ _ _ _ n=>n)
  (λb o hc e=>#[o,k b o (λz=>hc (by simp [z])) e]) (λ_ _ e=>e) (λ_ _ _ e=>e) (λb ps e=>#[#[],by rw [e];simp]) (λm hm=>?_) (λb u e=>?_) I.bare
 . have e:b=it:= ~~~hb
   subst e;exists h1,hL,h2,h3
 . ext hm o es ep ho r;exists o,es,ep,k _ o (bX hL) ho,r
 . refine (I.bQ b u e).stay (λc v hc q=>k c v ?_ q) (λ_ q=>q) λ_ _ q=>q;rcases hc with z | z
   . rw [z];exact NV b u e
   . exact NV c _ z
def Inv.tok (I:Inv X pN Z H s) (t:Nat):Inv X pN Z H {s with toks:=t}:=I.un (h':=s.heap) (t':=t) Un.refl I.bQ
def Inv.kept (I:Inv X pN Z H s) (k:∀b u,s.heap.get? b=some u->h'.get? b=some u):Inv X pN Z H {s with heap:=h',toks:=t'}:=I.un (Un.kept k) (I.bQ.kept k)
def Inv.laid {o:HO} (I:Inv X pN Z H s) (k:∀b u,s.heap.get? b=some u->h'.get? b=some u) (hp:s.heap.objs.size<=a) (new:dc X.prog X.w (upd H a o) h' a o):
 Inv X pN Z (upd H a o) {s with heap:=h',toks:=t'}:=I.un (Un.laid k hp (I.bQ.fresh hp)) (I.bQ.laid k hp new)
def Inv.write {x e:Addr} {o:HO} (I:Inv X pN Z H s) (mu:O5 (H x)) (he:e=x\/H e=some (.own x)) (k:∀b u,b≠e->s.heap.get? b=some u->h'.get? b=some u) (heo:∃u,h'.get? e=some u) (new:dc X.prog X.w (upd H x o) h' x o):Inv X pN Z (upd H x o) {s with heap:=h',toks:=t'}:=I.un (Un.write mu he k heo) (I.bQ.write mu he k heo new)
def Inv.weak {Z':List (Option V)} (I:Inv X pN Z H s) (hl:Z'.length=Z.length) (w:∀(i:Nat) v,Z'[i]? = some (some v)->Z[i]? = some (some v)):Inv X pN Z' H s:=
 #[I.ok,I.os,I.bare,I.base,let #[m,hn,hl']:=I.loc;#[m,hn,λi x v e1 e2 e3=>hl' i x v e1 (w i v e2) e3],I.cell,I.free,I.gr,I.pin,I.bQ,hl.trans I.len]
def Inv.m3 {Gi:List (Addr×Obj)} (I:Inv X pN Z H s) (h:∀p∈Gi,s.heap.get? p.1=some p.2/\H p.1=none/\p.1≠X.env.locals/\p.1∉X.fs/\∀v,p.2.data≠ .cell v):Inv X Gi Z H s:=
 #[I.ok,I.os,I.bare,I.base,I.loc,I.cell,I.free,I.gr,λp hp=>(cg.mp hp).elim (λz=>I.pin p (oM _ z)) (h p),I.bQ,I.len]
def yw (hN:N.Nodup) {i:Nat} (a:N[i]? = some x) (b:N[j]? = some x):i=j:=by
 obtain ⟨h1,e1⟩:=bj.mp a;obtain ⟨h2,e2⟩:=bj.mp b;exact (vV hN).mp (e1.trans e2.symm)
def wd {i:Nat} {Q:Unit->Shared->Prop} (I:Inv X pN Z H s) (hN:X.N.Nodup) (hi:X.N[i]? = some x) (hx:Loc X.env.scope x) (r:RelV v u) (h:∀s',Inv X pN (Z.set i (some v)) H s'->(∃a,Heap.SameBut a s.heap s'.heap/\(a=X.env.locals\/X.env.cells.lookup x=some a))->Q () s') (hf:X.fn x=true\/X.env.scope.names.lookup x=some .local:=by first | exact .inl rfl | exact .inr rfl | assumption):wpAny M A (storeName X.env x u) Q E s:=by
 obtain ⟨m,hn,hl⟩:=id I.loc;have hcls:(X.env.scope.kind == .class || (X.env.scope.kind == .module && X.env.locals != X.env.globals))=false:=by rw [I.ok.kind];rfl
 have Wk:i < Z.length:=by rw [I.len];exact (bj.mp hi).1
 have NU:=I.NU;have tracked:∀{a:Addr} {h':Heap},(∃o,s.heap.get? a=some o/\H a=none)->Heap.SameBut a s.heap h'->lX X.prog X.w H h':=λ{a h'} ha hs b ob e=>by
  ext ha _ _ hfree;refine (I.bQ b ob e).stay (λc w' hc q=>(hs.2 c ?_).trans q) (λ_ q=>q) λ_ _ q=>q;rintro rfl;rcases hc with rfl | hc
  . rw [hfree] at e;cases e
  . rw [hfree] at hc;cases hc
 rcases hx with hk | hk
 . refine wpAny_storeName_local hk hn (λh' hn' hs=>?_) hcls;obtain ⟨oL,_,_,hoL,_⟩:=id hn;refine h _ #[I.ok,I.os,I.bare,#[λb o e n hb hx=>?_,λb o e n hb hx=>?_,I.base.free,λb o e hx=>?_,I.base.tups,I.base.rG,I.base.sI],#[_,hn',λj y v' e1 e2 e3=>?_],λy c e=>?_,I.free,I.gr,λp hp=>?_,tracked #[oL,hoL,I.free] hs,~~~I.len] #[_,hs,.inl rfl]
   . exact (hs.2 b (a9 (bw (aI e) I.ok.above))).trans (I.base.keep b o e n hb hx)
   . obtain ⟨sl,e1⟩:=I.base.slot b o e n hb hx;exists sl,(hs.2 b (a9 (bw (aI e) I.ok.above))).trans e1
   . obtain ⟨o',e1⟩:=I.base.there b o e hx;exists o',(hs.2 b (a9 (bw (aI e) I.ok.above))).trans e1
   . by_cases hj:j=i
     . subst hj;rw [hi] at e1;cases e1;rw [qD Wk] at e2;cases e2;exists u,r,.inl #[hk,by simp]
     . rw [vI (bX hj)] at e2;obtain ⟨u',r',q⟩:=hl j y v' e1 e2 e3;exists u',r',?_;rcases q with ⟨k,e⟩ | ⟨k,c,e,z⟩
       . refine .inl #[k,?_];have:y≠x:=λe=>hj (yw hN e1 (e ▸ hi));simp [this,e]
       . exact .inr #[k,c,e,z.sameBut hs (NU y c e)]
   . obtain ⟨w',z⟩:=I.cell y c e;exists w',z.sameBut hs (NU y c e)
   . obtain ⟨e,n,ne,nf,d⟩:=I.pin p hp;exists (hs.2 p.1 ne).trans e,n,ne,nf,d
 . have hfn:X.fn x=true:=by
    rcases hf with z | z
    . exact z
    . rw [z] at hk;cases hk
   obtain ⟨c,hc⟩:=I.ok.has x (.inl hk);obtain ⟨w',z⟩:=I.cell x c hc;refine wpAny_storeName_cell I.ok.kind hk hc z (λh' hc' hs=>?_);obtain ⟨oc,hoc,UC⟩:=id z;refine h {s with heap:=h'} #[I.ok,I.os,I.bare,#[λb o e n hb hx=>?_,λb o e n hb hx=>?_,I.base.free,λb o e hx=>?_,I.base.tups,I.base.rG,I.base.sI],#[m,hn.sameBut hs (bX (NU x c hc)),λj y v' e1 e2 e3=>?_],λy c' e=>?_,I.free,I.gr,λp hp=>?_,tracked #[oc,hoc,I.gr x c hc] hs,~~~I.len] #[c,hs,.inr hc]
   . exact (hs.2 b (a9 (bw (aI e) (I.ok.cab x c hfn hc)))).trans (I.base.keep b o e n hb hx)
   . obtain ⟨sl,e1⟩:=I.base.slot b o e n hb hx;exists sl,(hs.2 b (a9 (bw (aI e) (I.ok.cab x c hfn hc)))).trans e1
   . obtain ⟨o',e1⟩:=I.base.there b o e hx;exists o',(hs.2 b (a9 (bw (aI e) (I.ok.cab x c hfn hc)))).trans e1
   . by_cases hj:j=i
     . subst hj;rw [hi] at e1;cases e1;rw [qD Wk] at e2;cases e2;exists u,r,.inr #[.inl hk,c,hc,hc']
     . rw [vI (bX hj)] at e2;obtain ⟨u',r',q⟩:=hl j y v' e1 e2 e3;exists u',r',?_;rcases q with q | ⟨k,c',e,z'⟩
       . exact .inl q
       . refine .inr #[k,c',e,z'.sameBut hs ?_];rintro rfl;exact hj (yw hN e1 (I.ok.inj _ _ _ e hc ▸ hi))
   . by_cases hcc:c'=c
     . subst hcc;exists _,hc'
     . obtain ⟨w2,z2⟩:=I.cell y c' e;exists w2,z2.sameBut hs hcc
   . obtain ⟨e,n,ne,nf,d⟩:=I.pin p hp;exists (hs.2 p.1 ?_).trans e,n,ne,nf,d;intro q;rw [q,hoc] at e;have q':oc=p.2:=bE e;exact d w' (by rw [<-q'];exact UC)
def oP {i:Nat} {Q:Unit->Shared->Prop} (I:Inv X pN Z H s) (hN:X.N.Nodup) (hi:X.N[i]? = some x) (hx:Loc X.env.scope x) (r:RelV v u) (h:∀s',Inv X pN (Z.set i (some v)) H s'->Q () s') (hf:X.fn x=true\/X.env.scope.names.lookup x=some .local:=by first | exact .inl rfl | exact .inr rfl | assumption):wpAny M A (storeName X.env x u) Q E s:=
 wd I hN hi hx r (λs' I' _=>h s' I') hf
def Inv.call' (I:Inv X pN Z H s) (ho:s'.os=s.os) (u:Un (frs X.stack) ch H H' s.heap s'.heap) (bQ:lX X.prog X.w H' s'.heap) (hg:AllBare s'.gens) (hch:∀b∈ch,(b∈X.ex\/X.ra.heap.objs.size<=b)/\b≠X.env.locals/\(∀x c,X.env.cells.lookup x=some c->c≠b)/\∀p∈X.pn++pN,p.1≠b):Inv X pN Z H' s':=by
 ext s' h' g' d' t' o';have e:o'=s.os:=ho;subst e;exact I.call (g':=g') (t':=t') (d':=d') u bQ hg hch
end
abbrev XK:=Value->Option Addr->Hp->Prop
abbrev St:=List (Option V)
variable {Z:St}
abbrev VK:=V->Hp->Prop
abbrev TE:=St->Hp->VK->Prop
variable {ta tb te:TE}
abbrev TT:=St->Hp->(Bool->Hp->Prop)->Prop
variable {tt:TT}
abbrev TA:=St->Hp->(List V->Hp->Prop)->Prop
structure Ends where
 nx:St->Hp->Prop
 rt:VK
 bk:St->Hp->Prop:=λ_ _=>False
 ct:St->Hp->Prop:=λ_ _=>False
variable {D:Ends}
abbrev TS:=Ends->St->Hp->Prop
def Ends.fin (Q:VK):Ends:={nx:=λ_ H'=>Q .cx H',rt:=Q}
def Ends.dY (D:Ends) (u:TS):Ends:={D with nx:=u D}
def Ends.lp (D:Ends) (N:St->Hp->Prop):Ends:={D with nx:=N,ct:=N,bk:=D.nx}
def EP (X:Cx) (pN:List (Addr×Obj)) (Z:St) (Q:VK) (u:Value) (s':Shared):= ∃v H',Inv X pN Z H' s'/\RelV v u/\Q v H'
def TP (X:Cx) (pN:List (Addr×Obj)) (Z:St) (Q:Bool->Hp->Prop) (b:Bool) (s':Shared):= ∃H',Inv X pN Z H' s'/\Q b H'
def AP (X:Cx) (pN:List (Addr×Obj)) (Z:St) (Q:List V->Hp->Prop) (us:List Value) (s':Shared):= ∃vs H',Inv X pN Z H' s'/\Vals vs us/\Q vs H'
def SP (X:Cx) (pN:List (Addr×Obj)) (D:Ends) (f:Flow) (s':Shared):Prop:=
 match f with
 | .next=> ∃Z' H',Inv X pN Z' H' s'/\D.nx Z' H'
 | .brk=> ∃Z' H',Inv X pN Z' H' s'/\D.bk Z' H'
 | .cont=> ∃Z' H',Inv X pN Z' H' s'/\D.ct Z' H'
 | .ret u=> ∃v Z' H',Inv X pN Z' H' s'/\RelV v u/\D.rt v H'
def PE (X:Cx) (e:Expr) (t:TE):Prop:=
 ∀(pN:List (Addr×Obj)) (s:Shared) (Z:St) (H:Hp) (Q:VK),Inv X pN Z H s->t Z H Q->wpAny (model X.prog X.w) X.A (eval e X.env) (EP X pN Z Q) X.xe s
def PT (X:Cx) (e:Expr) (t:TT):Prop:=
 ∀(pN:List (Addr×Obj)) (s:Shared) (Z:St) (H:Hp) (Q:Bool->Hp->Prop),Inv X pN Z H s->t Z H Q->wpAny (model X.prog X.w) X.A (isTrue e X.env (eval e X.env)) (TP X pN Z Q) X.xe s
def PW (X:Cx) (e:Expr) (t:TT):Prop:=
 ∀(whole:Sem Value) (pN:List (Addr×Obj)) (s:Shared) (Z:St) (H:Hp) (Q:Bool->Hp->Prop),Inv X pN Z H s->t Z H Q->wpAny (model X.prog X.w) X.A (isTrue e X.env whole) (TP X pN Z Q) X.xe s
def PW.pt {t:TT} (h:PW X e t):PT X e t:=h _
def PA (X:Cx) (es:List Expr) (t:TA):Prop:=
 ∀(pos:Pos) (pN:List (Addr×Obj)) (s:Shared) (Z:St) (H:Hp) (Q:List V->Hp->Prop),Inv X pN Z H s->t Z H Q->wpAny (model X.prog X.w) X.A (spliced (backTo pos (starEach es X.env))) (AP X pN Z Q) X.xe s
def PS (X:Cx) (st:Stmt) (t:TS):Prop:=
 ∀(pN:List (Addr×Obj)) (s:Shared) (Z:St) (H:Hp) (D:Ends),Inv X pN Z H s->t D Z H->wpAny (model X.prog X.w) X.A (exec st X.env) (SP X pN D) X.xe s
def tR (X:Cx) (st:List Stmt) (t:TS):Prop:=
 ∀(pN:List (Addr×Obj)) (s:Shared) (Z:St) (H:Hp) (D:Ends),Inv X pN Z H s->t D Z H->wpAny (model X.prog X.w) X.A (execs st X.env) (SP X pN D) X.xe s
def dY {t:Sem α} {Q Q':α->Shared->Prop} (h:wpAny M A t Q E s) (hQ:∀a s,Q a s->Q' a s):wpAny M A t Q' E s:=bT h hQ λ_ _ x=>x
section
def bin {a b:Expr} (ha:PE X a ta) (hb:PE X b tb) {R:V->V->Hp->Prop} (I:Inv X pN Z H s) (h:ta Z H λx H1=>tb Z H1 λy H2=>R x y H2) {Q:α->Shared->Prop} {f:Value->Value->Sem α} (hf:∀v u s2 x y H2,Inv X pN Z H2 s2->RelV x v->RelV y u->R x y H2->wpAny (model X.prog X.w) X.A (f v u) Q X.xe s2):
 wpAny (model X.prog X.w) X.A (eval a X.env) (λv s₁=>wpAny (model X.prog X.w) X.A (eval b X.env) (λu s₂=>wpAny (model X.prog X.w) X.A (f v u) Q X.xe s₂) X.xe s₁) X.xe s:=by
 refine dY (ha pN s Z H _ I h) λv s1 #[x,H1,I1,r1,q1]=>?_;refine dY (hb pN s1 Z H1 _ I1 q1) λu s2 #[y,H2,I2,r2,q2]=>?_;exact hf v u s2 x y H2 I2 r1 r2 q2
def Xp (o:Option (Option V)) (H:Hp) (Q:VK):Prop:=match o with
 | some (some v)=>Q v H
 | _=>False
def we (i:Nat) (Z:St) (H:Hp) (Q:VK):=Xp Z[i]? H Q
def we.i {i:Nat} {Q:VK} (q:Q v H) (e:Z[i]? = some (some v):=by rfl):we i Z H Q:=by
 unfold we;rw [e];exact q
def we.o {i:Nat} {Q:VK} (h:we i Z H Q):∃v,Z[i]? = some (some v)/\Q v H:=by
 unfold we at h;rcases e:Z[i]? with _ | _ | v <;> rw [e] at h
 . exact h.elim
 . exact h.elim
 . exists v,U,h
def tC (v:V):TE:=λ_ H Q=>Q v H
def yx {i:Nat} (hN:X.N[i]? = some x) (hv:IX X.env.scope x) (hd:(x == ("__debug__" :Str))=false:=by decide) (hcd:(x == ("__classdict__" :Str))=false:=by decide):PE X (.Name x pos) (we i):=by
 intro pN s Z H Q I h;ext h.o v e h;ext I.loc m hn hl;obtain ⟨u,r,l⟩:=hl i x v hN e hv;have fin:EP X pN Z Q u s:=#[v,H,I,r,h];rcases l with ⟨hk,hm⟩ | ⟨hk,c,hc,hcell⟩
 . exact wpAny_Name (wpAny_loadName_local I.ok.kind hk hn hm fin) hd
 . rcases hk with hk | hk
   . exact wpAny_Name (wpAny_loadName_cell I.ok.kind hk hc hcell fin) hd
   . exact wpAny_Name (wpAny_loadName_free I.ok.kind hk hc hcell fin hcd) hd
def wg {i j pos}:PE X (.Constant (.int i) j pos) (tC (.int i)):=λ_ _ _ H _ I h=>wpAny_Constant_int #[.int i,H,I.tok _,#[_,rfl],h]
def C8 {b j pos}:PE X (.Constant (.bool b) j pos) (tC (.bl b)):=λ_ _ _ H _ I h=>Constant_bool #[.bl b,H,I,rfl,h]
def O6 {j pos}:PE X (.Constant .none j pos) (tC .cx):=λ_ _ _ H _ I h=>Constant_none #[.cx,H,I,rfl,h]
def wj {x j pos}:PE X (.Constant (.str x) j pos) (tC (.str x)):=λ_ _ _ H _ I h=>Calls.Constant_str #[.str x,H,I.tok _,#[_,rfl],h]
def Gl (X:Cx) (x:Str):=X.env.kindOf x=some .globalImplicit
def kj (I:Inv X pN Z H s) (hg:Gl X x) (hm:X.mg x=some u) (h:Q u s) (hd:(x == ("__debug__" :Str))=false:=by decide):wpAny (model X.prog X.w) X.A (eval (.Name x pos) X.env) Q E s:=
 Calls.Name_function_global I.ok.kind hg (Calls.loadGlobal_global (by rw [I.ok.glob];exact I.mod.glob.keeps I.bk) hm h) hd
def yy (I:Inv X pN Z H s) (hg:Gl X x) (hm:X.mg x=none) (hv:bootBuiltins x=some u) (h:Q u s) (hn:x≠ "__name__" :=by decide) (hd:(x == ("__debug__" :Str))=false:=by decide):wpAny (model X.prog X.w) X.A (eval (.Name x pos) X.env) Q E s:=by
 ext I.mod.blt mb h1 h2;exact Calls.Name_function_global I.ok.kind hg (Calls.loadGlobal_builtin (by rw [I.ok.glob];exact I.mod.glob.keeps I.bk) hm (by rw [I.ok.blt];exact h1.keeps I.bk) ((h2 x hn).trans hv) h) hd
def yb (hg:Gl X x) (hm:X.mg x=some u) (r:RelV v u) (hd:(x == ("__debug__" :Str))=false:=by decide):PE X (.Name x pos) (tC v):=
 λ_ _ _ H _ I h=>kj I hg hm #[v,H,I,r,h] hd
variable {a b:Expr}
variable {tA Tp:TT} {rest:List Expr}
def UD (t u:TT):TT:=λZ H Q=>t Z H ((λ(u:TT) (Z:St) (Q:Bool->Hp->Prop) (c:Bool) (H1:Hp)=>if c=true then u Z H1 Q else Q false H1) u Z Q)
def Xq (t u:TT):TT:=λZ H Q=>t Z H ((λ(u:TT) (Z:St) (Q:Bool->Hp->Prop) (c:Bool) (H1:Hp)=>if c=true then Q true H1 else u Z H1 Q) u Z Q)
def UE (t:TT):TT:=λZ H Q=>t Z H λc H1=>Q (!c) H1
def pw_and1 (ha:PT X a tA):PW X (.BoolOp .And [a] pos) tA:=by
 intro wh pN s Z H Q I h;refine isTrue_and (dY (ha pN s Z H Q I h) λc s1 e=>?_);cases c with
 | true=>exact isTrue_and_nil e
 | false=>exact e
def pw_or1 (ha:PT X a tA):PW X (.BoolOp .Or [a] pos) tA:=by
 intro wh pN s Z H Q I h;refine isTrue_or (dY (ha pN s Z H Q I h) λc s1 e=>?_);cases c with
 | false=>exact isTrue_or_nil e
 | true=>exact e
def pw_and (ha:PT X a tA) (hb:PW X (.BoolOp .And (b :: rest) pos) Tp):PW X (.BoolOp .And (a :: b :: rest) pos) (UD tA Tp):=by
 intro wh pN s Z H Q I h;refine isTrue_and (dY (ha pN s Z H _ I h) λc s1 #[H1,I1,q1]=>?_);cases c with
 | true=>exact hb wh pN s1 Z H1 Q I1 q1
 | false=>exists H1,I1,q1
def pw_or (ha:PT X a tA) (hb:PW X (.BoolOp .Or (b :: rest) pos) Tp):PW X (.BoolOp .Or (a :: b :: rest) pos) (Xq tA Tp):=by
 intro wh pN s Z H Q I h;refine isTrue_or (dY (ha pN s Z H _ I h) λc s1 #[H1,I1,q1]=>?_);cases c with
 | true=>exists H1,I1,q1
 | false=>exact hb wh pN s1 Z H1 Q I1 q1
def O7 (ha:PT X a tA):PT X (.UnaryOp .Not a pos) (UE tA):=by
 intro pN s Z H Q I h;exact isTrue_not (ha pN s Z H (λc H1=>Q (!c) H1) I h)
def Rb (ta tb:TE):TE:=λZ H Q=>ta Z H ((λ(tb:TE) (Z:St) (Q:VK) (x:V) (H1:Hp)=> ∃c,x= .bl c/\if c=true then tb Z H1 Q else Q (.bl false) H1) tb Z Q)
def UF (ta tb:TE):TE:=λZ H Q=>ta Z H ((λ(tb:TE) (Z:St) (Q:VK) (x:V) (H1:Hp)=> ∃c,x= .bl c/\if c=true then Q (.bl true) H1 else tb Z H1 Q) tb Z Q)
def wm {op} {t:TE} (h:PE X a t):PE X (.BoolOp op [a] pos) t:=λpN s Z H Q I hw=>BoolOp_one (h pN s Z H Q I hw)
def BL (ha:PE X a ta) (hb:PE X (.BoolOp .And (b :: rest) pos) tb):PE X (.BoolOp .And (a :: b :: rest) pos) (Rb ta tb):=by
 intro pN s Z H Q I h;refine BoolOp_and (dY (ha pN s Z H _ I h) λv s1 #[x,H1,I1,r1,q1]=>?_);ext q1 c rfl q1;cases r1;refine lH ?_;cases c with
 | true=>exact hb pN s1 Z H1 Q I1 q1
 | false=>exists .bl false,H1,I1,U,q1
def Gj (ha:PE X a ta) (hb:PE X (.BoolOp .Or (b :: rest) pos) tb):PE X (.BoolOp .Or (a :: b :: rest) pos) (UF ta tb):=by
 intro pN s Z H Q I h;refine BoolOp_or (dY (ha pN s Z H _ I h) λv s1 #[x,H1,I1,r1,q1]=>?_);ext q1 c rfl q1;cases r1;refine lH ?_;cases c with
 | false=>exact hb pN s1 Z H1 Q I1 q1
 | true=>exists .bl true,H1,I1,U,q1
def Xr (t:TT) (ta tb:TE):TE:=λZ H Q=>t Z H ((λ(ta tb:TE) (Z:St) (Q:VK) (c:Bool) (H1:Hp)=>if c=true then ta Z H1 Q else tb Z H1 Q) ta tb Z Q)
def Jp (hc:PT X c tA) (ha:PE X a ta) (hb:PE X b tb):PE X (.IfExp c a b pos) (Xr tA ta tb):=by
 intro pN s Z H Q I h;refine wpAny_IfExp (dY (hc pN s Z H _ I h) λd s1 #[H1,I1,q1]=>?_);cases d with
 | true=>exact ha pN s1 Z H1 Q I1 q1
 | false=>exact hb pN s1 Z H1 Q I1 q1
end
def cw (K:Frag) (H:Hp) (a:Addr) (xs:List V):Prop:=
 Rd H a (.lst xs)\/
  ∃(o:Obj) (bU:Array Value) (n:Nat),K.lookup a=some o/\o.cls= .type "list" /\o.dict=none/\o.data= .seq bU n/\bU.size<=sizeLine/\Vals xs bU.toList
def g9 (K:Frag) (H:Hp) (a:Addr) (xs:List V):Prop:=
 Rd H a (.tup xs)\/
  ∃(o:Obj) (bU:Array Value) (n:Nat),K.lookup a=some o/\o.cls= .type "tuple" /\o.data= .seq bU n/\bU.size<=sizeLine/\Vals xs bU.toList
noncomputable def UG:Value->Option V
 | .none=>some .cx
 | .bool b=>some (.bl b)
 | .int i _=>some (.int i)
 | .str x _=>some (.str x)
 | .bytes b _=>some (.CZ b)
 | .float b _=>some (.flt b)
 | .ref a=>some (.ref a)
 | .type n=>some (.ty n)
 | _=>none
def RelV.abs {x:V} (r:RelV x u):UG u=some x:=by
 cases x with
 | cx=>cases r;rfl
 | bl _=>cases r;rfl
 | int _=>ext r t rfl;rfl
 | str _=>ext r t rfl;rfl
 | CZ _=>ext r t rfl;rfl
 | flt _=>ext r t rfl;rfl
 | ref _=>cases r;rfl
 | ty _=>cases r;rfl
def RelV.inj {x:V} (r:RelV x u) (q:RelV y u):x=y:=bE (r.abs.symm.trans q.abs)
def Vals.inj:∀{xs ys:List V} {us:List Value},Vals xs us->Vals ys us->xs=ys
 | _,_,_,.nil,.nil=>rfl
 | _,_,_,.cons r t,.cons r' t'=>by rw [r.inj r',Vals.inj t t']
section
def cw.of (h:H a=some (.lst xs)):cw K H a xs:= .inl (.inl h)
def g9.of (h:H a=some (.tup xs)):g9 K H a xs:= .inl (.inl h)
theorem Inv.list (I:Inv X pN Z H s) (h:cw X.K H a xs):∃bU:List Value,Vals xs bU/\PlainL s.heap a bU.toArray/\xs.length<=sizeLine:=by
 rcases h with h | ⟨o,bU,n,hk,hc,hd,hs,hz,r⟩
 . obtain ⟨z,bU,n,r,e⟩:=h.ok I.bQ;exists bU,r,#[_,n,e,U,U,U],z
 . exists bU.toList,r,#[o,n,I.lY a o hk,hc,hd,~~~hs],?_;have e:=r.length;simp only [lz] at e;lia
theorem Inv.tuple (I:Inv X pN Z H s) (h:g9 X.K H a xs):∃bU:List Value,Vals xs bU/\IsTup s.heap a bU.toArray/\xs.length<=sizeLine:=by
 rcases h with h | ⟨o,bU,n,hk,hc,hs,hz,r⟩
 . obtain ⟨z,bU,r,p⟩:=h.ok I.bQ;exists bU,r,p,z
 . exists bU.toList,r,#[o,I.lY a o hk,hc,n,~~~hs],?_;have e:=r.length;simp only [lz] at e;lia
def Inv.tU (I:Inv X pN Z H s) (h:cw X.K H a xs) (h':cw X.K H a ys):xs=ys:=by
 obtain ⟨bU,r,⟨o,n,e,_,_,d⟩,_⟩:=I.list h;obtain ⟨its',r',⟨o',n',e',_,_,d'⟩,_⟩:=I.list h';rw [e] at e';cases e';rw [d] at d';injection d' with d1 _;have:bU=its':= ~~~(bq Array.toList d1)
 subst this;exact r.inj r'
end
abbrev Cx.wish (X:Cx) (E:Value->Shared->Prop):Cx:={X with xe:=E}
abbrev Cx.ER (X:Cx):Cx:=X.wish λ_ _=>False
def Cx.Ok.wish (ok:X.Ok) (E:Value->Shared->Prop):(X.wish E).Ok:=
 #[ok.mod,ok.kind,ok.glob,ok.blt,ok.above,ok.inj,ok.has,ok.cab,ok.hd,ok.frames,ok.A0,ok.L0,ok.bs,ok.C7,ok.Aj,ok.xR,ok.funs,ok.Gh]
def Cx.Ok.iT (ok:(X.wish E).Ok):X.Ok:=
 #[ok.mod,ok.kind,ok.glob,ok.blt,ok.above,ok.inj,ok.has,ok.cab,ok.hd,ok.frames,ok.A0,ok.L0,ok.bs,ok.C7,ok.Aj,ok.xR,ok.funs,ok.Gh]
section
def Inv.wish (I:Inv X pN Z H s) (E:Value->Shared->Prop):Inv (X.wish E) pN Z H s:=#[I.ok.wish E,I.os,I.bare,I.base,I.loc,I.cell,I.free,I.gr,I.pin,I.bQ,I.len]
def Inv.iT (I:Inv (X.wish E) pN Z H s):Inv X pN Z H s:=#[I.ok.iT,I.os,I.bare,I.base,I.loc,I.cell,I.free,I.gr,I.pin,I.bQ,I.len]
def SP.iT {f:Flow} (h:SP (X.wish E) pN D f s'):SP X pN D f s':=by
 cases f with
 | next=>ext h Z' H' I q;exists Z',H',I.iT,q
 | brk=>ext h Z' H' I q;exists Z',H',I.iT,q
 | cont=>ext h Z' H' I q;exists Z',H',I.iT,q
 | ret u=>ext h v Z' H' I r q;exists v,Z',H',I.iT,r,q
def PE.ER {t:TE} (h:PE X.ER e t):PE X e t:=λpN s Z H Q I hw=>
 bT (h pN s Z H Q (I.wish _) hw) (λ_ _ #[v,H',I',r,q]=>#[v,H',I'.iT,r,q]) λ_ _ z=>False.elim z
def PT.ER {t:TT} (h:PT X.ER e t):PT X e t:=λpN s Z H Q I hw=>
 bT (h pN s Z H Q (I.wish _) hw) (λ_ _ #[H',I',q]=>#[H',I'.iT,q]) λ_ _ z=>False.elim z
def tR.ER {st:List Stmt} {t:TS} (h:tR X.ER st t):tR X st t:=λpN s Z H D I hw=>
 bT (h pN s Z H D (I.wish _) hw) (λ_ _ q=>q.iT) λ_ _ z=>False.elim z
end
section
variable {rest:List Stmt} {t u:TS}
def NW:TS:=λD Z H=>D.nx Z H
def UH (t u:TS):TS:=λD Z H=>t (D.dY u) Z H
def Gk:tR X [] NW:=λ_ _ Z H _ I h=>iq #[Z,H,I,h]
def tV (h1:PS X st t) (h2:tR X rest u):tR X (st :: rest) (UH t u):=by
 intro pN s Z H D I h;refine lB (dY (h1 pN s Z H {D with nx:=u D} I h) λf s1 q=>?_);cases f with
 | next=>
  ext q Z' H' I' q;exact h2 pN s1 Z' H' D I' q
 | ret v=>exact q
 | brk=>exact q
 | cont=>exact q
def yc (h1:PS X st t):tR X [st] t:=by
 intro pN s Z H D I h;refine lB (dY (h1 pN s Z H D I h) λf s1 q=>?_);cases f with
 | next=>exact iq q
 | ret v=>exact q
 | brk=>exact q
 | cont=>exact q
def Inv.quiet (I:Inv X pN Z H s):interactive X.env=false:=by simp [interactive,I.ok.kind]
def Rc (te:TE):TS:=λD Z H=>te Z H ((λ(D:Ends) (Z:St) (_:V) (H1:Hp)=>D.nx Z H1) D Z)
def Mh (he:PE X e te) (hs:swapsWith e none pos.line X.env=pure false:=by rfl):PS X (.Expr e pos) (Rc te):=by
 intro pN s Z H D I h;exact wpAny_Expr_any (dY (he pN s Z H _ I h) λv s1 #[x,H1,I1,r1,q1]=>#[Z,H1,I1,q1]) I.quiet hs
def Re (te:TE):TS:=λD Z H=>te Z H D.rt
def sJ (he:PE X e te):PS X (.Return (some e) pos) (Re te):=by
 intro pN s Z H D I h;exact wpAny_Return_some (dY (he pN s Z H _ I h) λv s1 #[x,H1,I1,r1,q1]=>#[x,Z,H1,I1,r1,q1])
def Rf (c:TT) (t u:TS):TS:=λD Z H=>c Z H ((λ(t u:TS) (D:Ends) (Z:St) (b:Bool) (H1:Hp)=>if b=true then t D Z H1 else u D Z H1) t u D Z)
def NX {a b:List Stmt} {tc:TT} (hc:PT X c tc) (ha:tR X a t) (hb:tR X b u):PS X (.If c a b pos) (Rf tc t u):=by
 intro pN s Z H D I h;refine wpAny_If (dY (hc pN s Z H _ I h) λd s1 #[H1,I1,q1]=>?_);cases d with
 | true=>exact ha pN s1 Z H1 D I1 q1
 | false=>exact hb pN s1 Z H1 D I1 q1
end
abbrev TG:=V->St->Hp->(St->Hp->Prop)->Prop
variable {g:TG}
abbrev NY:=List V->St->Hp->(St->Hp->Prop)->Prop
def PG (X:Cx) (target:Expr) (t:TG):Prop:=
 ∀(pN:List (Addr×Obj)) (s:Shared) (Z:St) (H:Hp) (v:V) (u:Value) (Q:St->Hp->Prop),Inv X pN Z H s->RelV v u->t v Z H Q->
  wpAny (model X.prog X.w) X.A (assign target X.env u) (λ_ s'=> ∃Z' H',Inv X pN Z' H' s'/\Q Z' H') X.xe s
def Rg (X:Cx) (ts:List Expr) (t:NY):Prop:=
 ∀(pN:List (Addr×Obj)) (s:Shared) (Z:St) (H:Hp) (vs:List V) (us:List Value) (Q:St->Hp->Prop),Inv X pN Z H s->Vals vs us->t vs Z H Q->
  wpAny (model X.prog X.w) X.A (assignInOrder ((assignEach ts X.env).map (·.2)) us) (λ_ s'=> ∃Z' H',Inv X pN Z' H' s'/\Q Z' H') X.xe s
abbrev Qy:=V->V->Hp->VK->Prop
def UI (X:Cx) (op:Operator) (t:Qy):Prop:=
 ∀(pN:List (Addr×Obj)) (s:Shared) (Z:St) (H:Hp) (x y:V) (v u:Value) (Q:VK),Inv X pN Z H s->RelV x v->RelV y u->t x y H Q->
  wpAny (model X.prog X.w) X.A (inplaceOp op v u) (EP X pN Z Q) X.xe s
section
def yz (i:Nat):TG:=λv Z H Q=>Q (Z.set i (some v)) H
def bL (i:Nat) (hN:X.N.Nodup:=by assumption) (hi:X.N[i]? = some x:=by rfl) (hx:Loc X.env.scope x:=by first | exact .inl rfl | exact .inr rfl) (hf:X.fn x=true\/X.env.scope.names.lookup x=some .local:=by first | exact .inl rfl | exact .inr rfl | assumption):PG X (.Name x pos) (yz i):=by
 intro pN s Z H v u Q I r h;exact vO (oP I hN hi hx r (λs' I'=>#[_,H,I',h]) hf)
def UJ:NY:=λvs Z H Q=>vs= []/\Q Z H
def Rh (t:TG) (u:NY):NY:=λvs Z H Q=> ∃v r,vs=v :: r/\t v Z H λZ' H'=>u r Z' H' Q
def tW:Rg X [] UJ:=by
 intro pN s Z H vs us Q I r h;ext h e h;subst e;cases r;exact assignInOrder_nil #[Z,H,I,h]
def fV {t:TG} {u:NY} (h1:PG X e t) (h2:Rg X es u) (hs:(assignEach (e :: es) X.env).map (·.2)=assign e X.env :: (assignEach es X.env).map (·.2):=by rfl):Rg X (e :: es) (Rh t u):=by
 intro pN s Z H vs us Q I r h;ext h v vr e1 h;subst e1;cases r with
 | cons r rr=>
  rw [hs];refine assignInOrder_cons (dY (h1 pN s Z H _ _ _ I r h) λ_ s1 #[Z1,H1,I1,q1]=>?_);exact h2 pN s1 Z1 H1 _ _ Q I1 rr q1
def Ri (K:Frag) (n:Nat) (t:NY):TG:=λv Z H Q=> ∃a xs,v= .ref a/\g9 K H a xs/\xs.length=n/\t xs Z H Q
def BO {k:Nat} {t:NY} (hc:X.calm=true) (h:Rg X es t) (hn:(assignEach es X.env).length=n:=by rfl) (fZ:(assignEach es X.env).findIdx? (·.1)=none:=by rfl):PG X (.Tuple es k pos) (Ri X.K n t):=by
 intro pN s Z H v u Q I r hw;ext hw a xs e1 hq hl hw;subst e1;cases r;obtain ⟨bU,rv,ht,hz⟩:=I.tuple hq;refine assign_Tuple_tuple (I.ok.hd hc) ht (by simp [hn,<-hl,rv.length]) fZ λh' hx=>?_;have I1:Inv X pN Z H {s with heap:=h'}:=I.kept (t':=s.toks) λb o e=>hx b o (a9 (aI e)) e;exact h pN _ Z H xs _ Q I1 (~~~rv) hw
def O8 (te:TE) (g:TG):TS:=λD Z H=>te Z H ((λ(g:TG) (D:Ends) (Z:St) (x:V) (H1:Hp)=>g x Z H1 D.nx) g D Z)
def BP (i:Nat) (he:PE X e te) (hN:X.N.Nodup:=by assumption) (hi:X.N[i]? = some x:=by rfl) (hx:Loc X.env.scope x:=by first | exact .inl rfl | exact .inr rfl) (hs:swapsWith e (some (.Name x pos')) pos.line X.env=pure false:=by rfl) (hf:X.fn x=true\/X.env.scope.names.lookup x=some .local:=by first | exact .inl rfl | exact .inr rfl | assumption):
 PS X (.Assign [.Name x pos'] e pos) (O8 te (yz i)):=by
 intro pN s Z H D I h;refine wpAny_Assign_Name (dY (he pN s Z H _ I h) λv s1 #[y,H1,I1,r1,q1]=>?_) hs;exact oP I1 hN hi hx r1 (λs2 I2=>#[_,H1,I2,q1]) hf
def UK (i:Nat) (te:TE) (ti:Qy):TS:=λD Z H=>we i Z H ((λ(i:Nat) (te:TE) (ti:Qy) (D:Ends) (Z:St) (x:V) (H:Hp)=>te Z H ((λ(i:Nat) (ti:Qy) (D:Ends) (Z:St) (x y:V) (H1:Hp)=>ti x y H1 ((λ(i:Nat) (D:Ends) (Z:St) (z:V) (H2:Hp)=>D.nx (Z.set i (some z)) H2) i D Z)) i ti D Z x)) i te ti D Z)
def BQ {op:Operator} {ti:Qy} (i:Nat) (he:PE X e te) (ho:UI X op ti) (hN:X.N.Nodup:=by assumption) (hi:X.N[i]? = some x:=by rfl) (hx:Loc X.env.scope x:=by first | exact .inl rfl | exact .inr rfl) (hf:X.fn x=true\/X.env.scope.names.lookup x=some .local:=by first | exact .inl rfl | exact .inr rfl | assumption):
 PS X (.AugAssign (.Name x pos') op e pos) (UK i te ti):=by
 intro pN s Z H D I h;obtain ⟨v,e1,h⟩:=we.o h;ext I.loc m hn hl;have Qz:IX X.env.scope x:=by rcases hx with k | k;exact .inl k;exact .inr (.inl k)
 obtain ⟨u,r,l⟩:=hl i x v hi e1 Qz;refine wpAny_AugAssign_Name ?_;have go:wpAny (model X.prog X.w) X.A (eval e X.env) (λw s₂=>wpAny (model X.prog X.w) X.A (inplaceOp op u w) (λr s₃=>wpAny (model X.prog X.w) X.A (storeName X.env x r) (λ_=>SP X pN D .next) X.xe s₃) X.xe s₂) X.xe s:=by
  refine dY (he pN s Z H _ I h) λw s1 #[y,H1,I1,r1,q1]=>?_;refine dY (ho pN s1 Z H1 v y u w _ I1 r r1 q1) λz s2 #[zv,H2,I2,r2,q2]=>?_;exact oP I2 hN hi hx r2 (λs3 I3=>#[_,H2,I3,q2]) hf
 rcases l with ⟨hk,hm⟩ | ⟨hk,c,hc,hcell⟩
 . exact wpAny_loadName_local I.ok.kind hk hn hm go
 . rcases hk with hk | hk
   . exact wpAny_loadName_cell I.ok.kind hk hc hcell go
   . rcases hx with k | k
     . have:X.env.scope.names.lookup x=some .free:=hk;rw [k] at this;cases this
     . have:X.env.scope.names.lookup x=some .free:=hk;rw [k] at this;cases this
inductive Wl (f:Int->Int->Int) (x y:V) (H:Hp) (Q:VK):Prop | mk i j (_:x= .int i) (_:y= .int j) (_:Q (.int (f i j)) H):Wl f x y H Q
def sK:UI X .Add (Wl λi j=>i+j):=by
 intro pN s Z H x y v u Q I r1 r2 h;ext h i j e1 e2 q;subst e1;subst e2;ext r1 t rfl;ext r2 t' rfl;exact iadd_int #[.int _,H,I.tok _,#[_,rfl],q]
end
section
def O9 (c:TT) (tb:TS):TS:=λD Z H=> ∃W:Nat->St->Hp->Prop,(∃m,W m Z H)/\∀m Z H,W m Z H->
 c Z H λb H1=>if b=true then∃N:St->Hp->Prop,(∀Z' H',N Z' H'->∃m',m' < m/\W m' Z' H')/\tb (D.lp N) Z H1 else D.nx Z H1
def Jq {tc:TT} {tb:TS} (hc:PT X c tc) (hb:tR X body tb) (hp:PassesOwn (model X.prog X.w) X.A X.env X.xe:=by first | exact PassesOwn.never | exact Rj gE):PS X (.While c body [] pos) (O9 tc tb):=by
 intro pN s Z H D I h;ext h W ⟨m0,w0⟩ turn;refine wpAny_While (codeAny_whileLoop (λn s'=> ∃Z' H',Inv X pN Z' H' s'/\W n Z' H') ?_ m0 #[Z,H,I,w0]);rintro n s1 ⟨Z1,H1,I1,w1⟩;refine jA hp (dY (hc pN s1 Z1 H1 _ I1 (turn n Z1 H1 w1)) λb s2 #[H2,I2,q2]=>?_);cases b with
 | true=>
  ext q2 N hN q2;rw [ah rfl];refine jA hp (dY (hb pN s2 Z1 H2 _ I2 q2) λf s3 q3=>?_);cases f with
  | next=>
   ext q3 Z3 H3 I3 n3;obtain ⟨m',hm,w3⟩:=hN Z3 H3 n3;exists m',hm,Z3,H3,I3,w3
  | cont=>
   ext q3 Z3 H3 I3 n3;obtain ⟨m',hm,w3⟩:=hN Z3 H3 n3;exists m',hm,Z3,H3,I3,w3
  | brk=>exact q3
  | ret v=>exact q3
 | false=>
  rw [ae aO];exact iq #[Z1,H2,I2,q2]
end
structure It where
 go:Nat->Hp->Prop
 ED:Nat->Hp->V->Hp->Prop
 stop:Nat->Hp->Prop
variable {J:It}
def oy (X:Cx) (pN:List (Addr×Obj)) (H:Hp) (b:Addr):Prop:=
 H b=none/\b≠X.env.locals/\b∉X.fs/\(b∈X.ex\/X.ra.heap.objs.size<=b)/\(∀x c,X.env.cells.lookup x=some c->c≠b)/\∀p∈X.pn++pN,p.1≠b
def Inv.Ak (I:Inv X pN Z H s) (hb:s.heap.objs.size<=b) (hn:H' b=none):oy X pN H' b:=by
 exists hn,fU (bw I.lt hb),I.UB hb,.inr (aP I.sz hb),λx c e z=>?_,λp hp z=>?_
 . obtain ⟨v,q⟩:=I.cell x c e;exact absurd (bw q.lt (by rw [z];exact hb)) (cM _)
 . exact absurd (bw (aI (I.pin p hp).1) (by rw [z];exact hb)) (cM _)
structure Turn (P:Program) (w:World) (K:Frag) (tg:Expr) (J:It) (fp:List Addr) (it:Addr) (tn:Nat->Heap->Prop):Prop where
 mem:it∈fp
 obj:∀i h,tn i h->∀b∈fp,∃o,h.get? b=some o/\∀v,o.data≠ .cell v
 keep:∀i h h',tn i h->(∀b∈fp,∀o,h.get? b=some o->h'.get? b=some o)->tn i h'
 item:∀(X:Cx),X.prog=P->X.w=w->X.K=K->X.calm=true->∀(i:Nat) (pN:List (Addr×Obj)) (s:Shared) (Z:St) (H:Hp) (E:Value->Shared->Prop),Inv X pN Z H s->(∀b∈fp,oy X pN H b)->tn i s.heap->J.go i H->
  wpAny (model P w) X.A (pyNext (.ref it)) (λr s1=> ∃u,r=some u/\
   wpAny (model P w) X.A (letOwnedTupleGo tg (.ref it) u) (λ_ s2=> ∃x H',Inv X pN Z H' s2/\RelV x u/\J.ED i H x H'/\tn (i+1) s2.heap/\∀b∈fp,H' b=none) E s1) E s
 done:∀(X:Cx),X.prog=P->X.w=w->X.K=K->X.calm=true->∀(i:Nat) (pN:List (Addr×Obj)) (s:Shared) (Z:St) (H:Hp) (E:Value->Shared->Prop),Inv X pN Z H s->(∀b∈fp,oy X pN H b)->tn i s.heap->J.stop i H->
  wpAny (model P w) X.A (pyNext (.ref it)) (λr s1=>r=none/\Inv X pN Z H s1) E s
 self:∀(A:Around) (i:Nat) (s:Shared) (Q:Value->Shared->Prop) (E:Value->Shared->Prop),tn i s.heap->Q (.ref it) s->wpAny (model P w) A (pyIter (.ref it)) Q E s
abbrev TI:=St->Hp->(It->Hp->Prop)->Prop
def PIE (X:Cx) (pN:List (Addr×Obj)) (Z:St) (tg:Expr) (R:It->Hp->Prop) (itv:Value) (s2:Shared):Prop:=
 ∃(it:Addr) (fp:List Addr) (tn:Nat->Heap->Prop) (J:It) (H':Hp),itv= .ref it/\Inv X pN Z H' s2/\Turn X.prog X.w X.K tg J fp it tn/\tn 0 s2.heap/\(∀b∈fp,oy X pN H' b)/\R J H'
def PI (X:Cx) (tg iter:Expr) (wi:TI):Prop:=
 ∀(pN:List (Addr×Obj)) (s:Shared) (Z:St) (H:Hp) (R:It->Hp->Prop),Inv X pN Z H s->wi Z H R->
  wpAny (model X.prog X.w) X.A (eval iter X.env) (λv s1=>wpAny (model X.prog X.w) X.A (pyIter v) (PIE X pN Z tg R) X.xe s1) X.xe s
def Jr {it:Addr} {o:Obj} {n:String} {Q:Unit->Shared->Prop} (ho:s.heap.get? it=some o) (hc:o.cls= .type n) (hd:o.data= .fields vs) (hn: ["enumerate","zip","dict_itemiterator","dict_reverseitemiterator","odict_iterator","itertools.zip_longest","itertools.pairwise"].contains n=false) (hQ:Q () s):wpAny M A (letOwnedTupleGo tg (.ref it) u) Q E s:=by
 unfold letOwnedTupleGo;cases tg <;> first
  | exact bo hQ
  | (cases u <;> first
   | exact bo hQ
   | (refine aw (wpAny_load ho ?_);rw [hc,hd];show wpAny M A (if (["enumerate","zip","dict_itemiterator","dict_reverseitemiterator","odict_iterator","itertools.zip_longest","itertools.pairwise"].contains n && vs[0]? == some (rawInt _))=true then _ else _) Q E s;rw [ae (by intro h;rw [hn,Bool.false_and] at h;cases h)];exact bo hQ))
def C9 (K:Frag) (a:Addr):It:=
 #[λi H=> ∃xs x,cw K H a xs/\xs[i]? = some x,λi H x H'=>H'=H/\∀xs,cw K H a xs->xs[i]? = some x,λi H=> ∃xs,cw K H a xs/\xs.length<=i]
def UL (lo:Int) (n:Nat):It:=#[λi _=>i < n,λi H x H'=>H'=H/\x= .int (lo+i),λi _=>n<=i]
theorem HE (a it:Addr):Turn P w K tg (C9 K a) [it] it (λi h=>h.IsListIter it a i) where
 mem:=by simp
 obj:=λi h st b hb=>by
  have e:b=it:= ~~~hb
  subst e;ext st o e c d;exists o,e,λv z=>by rw [d] at z;cases z
 keep:=λi h h' st k=>st.at λo e=>k it (by simp) o e
 item:=by
  intro X hP hw hK hc i pN s Z H E I hf st hg;subst hP hw hK;ext hg xs x hq hx;obtain ⟨bU,rv,p,hz⟩:=I.list hq;obtain ⟨u,hu,ru⟩:=rv.get hx;obtain ⟨f0,f1,f2,f3,f4,f5⟩:=hf it (by simp);refine wpAny_pyNext_list_item st p.isList (x:=u) (~~~hu) λh' st' sb=>?_;have I1:Inv X pN Z H {s with heap:=h'}:=I.turned (t':=s.toks) (λb o hb e=>(sb.2 b hb).trans e) f0 f1 f3 f4 f5;obtain ⟨o,e,c,d⟩:=id st';exists u,U,Jr (s:={s with heap:=h'}) e c d ∅ #[x,H,I1,ru,#[U,λys hy=>by rw [I.tU hy hq];exact hx],st',λb hb=>(hf b hb).1]
 done:=by
  intro X hP hw hK hc i pN s Z H E I hf st hg;subst hP hw hK;ext hg xs hq hx;obtain ⟨bU,rv,p,hz⟩:=I.list hq;obtain ⟨f0,f1,f2,f3,f4,f5⟩:=hf it (by simp);have hl:=rv.length;exact wpAny_pyNext_list_end (I.ok.hd hc) st p.isList (by simp;lia) λh' eb=>#[rfl,I.turned (t':=s.toks) (λb o hb e=>eb b o hb e) f0 f1 f3 f4 f5]
 self:=λ_ _ _ _ _ st h=>wpAny_pyIter_listiter st h
theorem EV (it:Addr) (lo:Int) (n:Nat):Turn P w K tg (UL lo n) [it] it (λi h=>IsRangeIter h it (lo+(i:Nat) * 1) ((n:Int) - (i:Nat)) 1) where
 mem:=by simp
 obj:=λi h st b hb=>by
  have e:b=it:= ~~~hb
  subst e;exists _,st,λv z=>by
   have z':Data.fields _=Data.cell v:=z;cases z'
 keep:=λi h h' st k=>k it (by simp) _ st
 item:=by
  intro X hP hw hK hc i pN s Z H E I hf st hg;subst hP hw hK;obtain ⟨f0,f1,f2,f3,f4,f5⟩:=hf it (by simp);have W:=Walks.range (prog:=X.prog) (w:=X.w) (I.ok.hd hc) it lo 1 n;refine W.item i s _ _ hg st λv h' tk hv st' kk=>?_;ext hv t rfl;have I1:Inv X pN Z H {s with heap:=h',toks:=tk}:=I.turned (λb o hb e=>kk b o (~~~hb) e) f0 f1 f3 f4 f5;exists _,U,Jr (s:={s with heap:=h',toks:=tk}) (n:= "range_iterator") st' U U ∅ #[.int (lo+i),H,I1,#[t,?_],#[U,U],st',λb hb=>(hf b hb).1];rw [Int.mul_one]
 done:=by
  intro X hP hw hK hc i pN s Z H E I hf st hg;subst hP hw hK;obtain ⟨f0,f1,f2,f3,f4,f5⟩:=hf it (by simp);exact wpAny_pyNext_range_end (I.ok.hd hc) st (by have:n<=i:=hg;lia) λh' eb=>#[rfl,I.turned (t':=s.toks) (λb o hb e=>eb b o hb e) f0 f1 f3 f4 f5]
 self:=λ_ _ _ _ _ st h=>wpAny_pyIter_rangeiter st h
section
inductive Wm (K:Frag) (R:It->Hp->Prop) (x:V) (H:Hp):Prop | mk a (_:x= .ref a) (_:∃xs,cw K H a xs) (_:R (C9 K a) H):Wm K R x H
def Rk (K:Frag) (tl:TE):TI:=λZ H R=>tl Z H (Wm K R)
def bD {l:Expr} {tl:TE} (hl:PE X l tl):PI X tg l (Rk X.K tl):=by
 intro pN s Z H R I h;refine dY (hl pN s Z H _ I h) λv s1 #[x,H1,I1,r1,q1]=>?_;ext q1 a e ⟨xs,hq⟩ q;subst e;cases r1;obtain ⟨bU,rv,p,hz⟩:=I1.list hq;refine vP p.isList ?_;exists s1.heap.objs.size,[s1.heap.objs.size],_,_,H1,U,I1.kept (t':=s1.toks) λb o e=>bK _ e,HE a _,#[_,cJ _ U,U,U],λb hb=>?_,q;have e:b=s1.heap.objs.size:= ~~~hb
 subst e;exact I1.Ak (az _) (I1.bQ.fresh (az _))
theorem Js {R:It->Hp->Prop} {lo hi:Int} {t u v:Tok} {tk:Nat} (I:Inv X pN Z H s) (h1: -(2 ^ 62)<=lo) (h2:lo < 2 ^ 62) (h3: -(2 ^ 62)<=hi) (h4:hi < 2 ^ 62) (q:R (UL lo (hi - lo).toNat) H):wpAny (model X.prog X.w) X.A (pyIter (.ref s.heap.objs.size)) (PIE X pN Z tg R) E {s with heap:=s.heap.push {cls:= .type "range",data:= .fields (List.toArray [.int lo t,.int hi u,.int 1 v])},toks:=tk}:=by
 refine wpAny_pyIter_range (IsRange.new ..) (small_one h1 h2 h3 h4) ?_;have I1:Inv X pN Z H {s with heap:=s.heap.push {cls:= .type "range",data:= .fields (List.toArray [.int lo t,.int hi u,.int 1 v])},toks:=tk}:=I.kept λb o e=>bK _ e;exists (s.heap.push {cls:= .type "range",data:= .fields (List.toArray [.int lo t,.int hi u,.int 1 v])}).objs.size,[(s.heap.push {cls:= .type "range",data:= .fields (List.toArray [.int lo t,.int hi u,.int 1 v])}).objs.size],_,_,H,U,
  I1.kept (t':=tk) λb o e=>bK _ e,EV _ lo (hi - lo).toNat,?_,λb hb=>?_,q
 . have e1:lo+((0:Nat):Int) * 1=lo:=by simp
   have e2:(((hi - lo).toNat:Nat):Int) - ((0:Nat):Int)=Builtin.Range.rangeSize lo hi 1:=by rw [rangeSize_one];split <;> lia
   show IsRangeIter _ _ (lo+((0:Nat):Int) * 1) ((((hi - lo).toNat:Nat):Int) - ((0:Nat):Int)) 1;rw [e1,e2];exact cJ _ rfl
 . have e:b=(s.heap.push {cls:= .type "range",data:= .fields (List.toArray [.int lo t,.int hi u,.int 1 v])}).objs.size:= ~~~hb
   subst e;exact I1.Ak (az _) (I1.bQ.fresh (az _))
def Rl (ta:TA):TI:=λZ H R=>ta Z H ((λ(R:It->Hp->Prop) (vs:List V) (H1:Hp)=> ∃j:Int,vs= [.int j]/\ -(2 ^ 62)<=j/\j < 2 ^ 62/\R (UL 0 j.toNat) H1) R)
theorem HF {a:Expr} {ta:TA} (ha:PA X [a] ta) (hg:Gl X "range" :=by exact rfl) (hm:X.mg "range" = none:=by walk_at "m") (hs:starEach [a] X.env= [(false,eval a X.env)]:=by rfl):PI X tg (.Call (.Name "range" p) [a] [] pos) (Rl ta):=by
 intro pN s Z H R I h;refine Call_ (yy I hg hm boot_range (callWith_type1 (dY (ha pos pN s Z H _ I h) λus s1 #[vs,H1,I1,r1,q1]=>?_) hs rfl));ext q1 j e q1 q2 q;subst e;cases r1 with
 | cons r rr=>
  cases rr;ext r t rfl;exact call_range_1 (Js I1 (by lia) (by lia) q1 q2 (~~~q))
def UM (wi:TI) (g:TG) (tb:TS):TS:=λD Z H=>wi Z H λJ H1=> ∃W:Nat->Nat->St->Hp->Prop,(∃m,W 0 m Z H1)/\∀i m Z H,W i m Z H->
 (J.stop i H/\D.nx Z H)\/(J.go i H/\∃N:St->Hp->Prop,(∀Z' H',N Z' H'->∃m',m' < m/\W (i+1) m' Z' H')/\∀x H',J.ED i H x H'->g x Z H' λZ2 H2=>tb (D.lp N) Z2 H2)
def yA (fp:List Addr) (h:Heap):List (Addr×Obj):=fp.filterMap λb=>(h.get? b).map λo=>(b,o)
def sM {o:Obj} (hb:b∈fp) (e:h.get? b=some o):(b,o)∈yA fp h:=List.mem_filterMap.mpr #[b,hb,by rw [e];rfl]
def HG {p:Addr×Obj} (hp:p∈yA fp h):p.1∈fp/\h.get? p.1=some p.2:=by
 obtain ⟨b,hb,e⟩:=List.mem_filterMap.mp hp;cases q:h.get? b with
 | none=>rw [q] at e;cases e
 | some o=>
  rw [q] at e;have e':(b,o)=p:=bE e;subst e';exists hb,q
def Inv.pinned (I:Inv X pN Z H s) (hf:∀b∈fp,oy X pN H b) (ho:∀b∈fp,∃o,s.heap.get? b=some o/\∀v,o.data≠ .cell v):Inv X (pN++yA fp s.heap) Z H s:=
 I.m3 λp hp=>(cg.mp hp).elim (λz=>I.pin p (eQ _ z)) λz=>by
  obtain ⟨hb,e⟩:=HG z;obtain ⟨f0,f1,f2,_⟩:=hf p.1 hb;obtain ⟨o,e',d⟩:=ho p.1 hb;rw [e] at e';cases e';exists e,f0,f1,f2,d
def Inv.lZ {pl:List (Addr×Obj)} (I:Inv X (pN++pl) Z H s):Inv X pN Z H s:=I.m3 λp hp=>I.pin p (eQ _ (oM _ hp))
def O_ {wi:TI} {tb:TS} (hi:PI X tg iter wi) (hg:PG X tg g) (hb:tR X body tb) (hp:PassesOwn (model X.prog X.w) X.A X.env X.xe:=by first | exact PassesOwn.never | exact Rj gE) (hc:X.calm=true:=by exact rfl) (hs:∀x,foldedSetIterable iter X.env x=pure x:=by intro _;rfl):PS X (.For tg iter body [] pos) (UM wi g tb):=by
 intro pN s Z H D I h;refine wpAny_For (dY (hi pN s Z H _ I h) λv s1 h1=>dY h1 λitv s2 h2=>?_) hs;ext h2 it fp tn J H2 e I2 T st2 f2 W ⟨m0,w0⟩ turn;subst e;have stat:∀{H':Hp},(∀b∈fp,H' b=none)->∀b∈fp,oy X pN H' b:=λhn b hb=>#[hn b hb,(f2 b hb).2];refine codeAny_forLoop_any (λn s'=> ∃i Z' H',Inv X pN Z' H' s'/\tn i s'.heap/\(∀b∈fp,H' b=none)/\W i n Z' H') ?_ m0 #[0,Z,H2,I2,st2,λb hb=>(f2 b hb).1,w0];rintro n s3 ⟨i,Z3,H3,I3,st3,Wn,w3⟩;rcases turn i n Z3 H3 w3 with ⟨stop,qn⟩ | ⟨go,N,hN,step⟩
 . refine jA hp (dY (T.done X rfl rfl rfl hc i pN s3 Z3 H3 X.xe I3 (stat Wn) st3 stop) λr s4 #[hr,I4]=>?_);subst hr;exact iq #[Z3,H3,I4,qn]
 . refine jA hp (dY (T.item X rfl rfl rfl hc i pN s3 Z3 H3 X.xe I3 (stat Wn) st3 go) λr s4 #[u,hr,h4]=>?_);subst hr;refine jA hp (dY h4 λ_ s5 hZ=>?_);ext hZ x H5 I5 r5 y5 st5 Xs;have Xu:=I5.pinned (stat Xs) (T.obj _ _ st5);refine jA hp (dY (hg _ s5 Z3 H5 x u _ Xu r5 (step x H5 y5)) λ_ s6 #[Z6,H6,I6,q6]=>?_);refine jA hp (dY (hb _ s6 Z6 H6 _ I6 q6) λf s7 q7=>?_);have again:∀{Z7:St} {H7:Hp},Inv X (pN++yA fp s5.heap) Z7 H7 s7->N Z7 H7->∃m,m < n/\∃i Z' H',Inv X pN Z' H' s7/\tn i s7.heap/\(∀b∈fp,H' b=none)/\W i m Z' H':=λ{Z7 H7} I7 n7=>by
    obtain ⟨m',hm,w7⟩:=hN Z7 H7 n7;exists m',hm,i+1,Z7,H7,I7.lZ,T.keep _ _ _ st5 λb hb o e=>(I7.pin (b,o) (eQ _ (eQ _ (sM hb e)))).1,λb hb=>?_,w7;obtain ⟨o,e,d⟩:=T.obj _ _ st5 b hb;exact (I7.pin (b,o) (eQ _ (eQ _ (sM hb e)))).2.1
   cases f with
   | next=>ext q7 Z7 H7 I7 n7;exact again I7 n7
   | cont=>ext q7 Z7 H7 I7 n7;exact again I7 n7
   | brk=>ext q7 Z7 H7 I7 q7;exists Z7,H7,I7.lZ,q7
   | ret v=>ext q7 x7 Z7 H7 I7 r7 q7;exists x7,Z7,H7,I7.lZ,r7,q7
end
theorem cC {tb:TS} (Pv:Nat->St->Hp->Prop) (h0:Pv 0 Z H) (hl:∀i Z H,i<=xs.length->Pv i Z H->cw K H a xs) (hs:∀i x Z H,xs[i]? = some x->Pv i Z H->g x Z H λZ2 H2=>tb (D.lp (Pv (i+1))) Z2 H2) (hd:∀Z H,Pv xs.length Z H->D.nx Z H):
 ∃W:Nat->Nat->St->Hp->Prop,(∃m,W 0 m Z H)/\∀i m Z H,W i m Z H->
  ((C9 K a).stop i H/\D.nx Z H)\/((C9 K a).go i H/\∃N:St->Hp->Prop,(∀Z' H',N Z' H'->∃m',m' < m/\W (i+1) m' Z' H')/\∀x H',(C9 K a).ED i H x H'->g x Z H' λZ2 H2=>tb (D.lp N) Z2 H2):=by
 exists λi m Z H=>m=xs.length - i/\i<=xs.length/\Pv i Z H,#[xs.length,by simp,aD _,h0],?_;rintro i m Z H ⟨rfl,hi,p⟩;have q:=hl i Z H hi p;by_cases iU:i < xs.length
 . refine .inr #[#[xs,xs[i],q,by simp [iU]],Pv (i+1),λZ' H' p'=>#[xs.length - (i+1),by lia,rfl,iU,p'],λx H' y=>?_];ext y e y;subst e;exact hs i x Z _ (y xs q) p
 . have e:i=xs.length:=by lia
   subst e;exact .inl #[#[xs,q,az _],hd Z H p]
abbrev R2:=V->V->Hp->VK->Prop
variable {r:R2}
def rO (X:Cx) (f:Value->Value->Sem Value) (r:R2):Prop:=
 ∀(pN:List (Addr×Obj)) (s:Shared) (Z:St) (H:Hp) (x y:V) (v u:Value) (Q:VK),Inv X pN Z H s->RelV x v->RelV y u->r x y H Q->
  wpAny (model X.prog X.w) X.A (f v u) (EP X pN Z Q) X.xe s
def UN (X:Cx) (f:Value->Sem Value) (r:V->Hp->VK->Prop):Prop:=
 ∀(pN:List (Addr×Obj)) (s:Shared) (Z:St) (H:Hp) (x:V) (v:Value) (Q:VK),Inv X pN Z H s->RelV x v->r x H Q->
  wpAny (model X.prog X.w) X.A (f v) (EP X pN Z Q) X.xe s
def gu (X:Cx) (f:Value) (r:List V->Hp->VK->Prop):Prop:=
 ∀(pN:List (Addr×Obj)) (s:Shared) (Z:St) (H:Hp) (xs:List V) (us:List Value) (Q:VK),Inv X pN Z H s->Vals xs us->r xs H Q->
  wpAny (model X.prog X.w) X.A (call f us) (EP X pN Z Q) X.xe s
def UO (X:Cx) (r:V->Hp->(Bool->Hp->Prop)->Prop):Prop:=
 ∀(pN:List (Addr×Obj)) (s:Shared) (Z:St) (H:Hp) (x:V) (v:Value) (Q:Bool->Hp->Prop),Inv X pN Z H s->RelV x v->r x H Q->
  wpAny (model X.prog X.w) X.A (truthy v) (TP X pN Z Q) X.xe s
def Tq (r:R2) (ta tb:TE):TE:=λZ H Q=>ta Z H ((λ(r:R2) (tb:TE) (Z:St) (Q:VK) (x:V) (H1:Hp)=>tb Z H1 ((λ(r:R2) (Q:VK) (x y:V) (H2:Hp)=>r x y H2 Q) r Q x)) r tb Z Q)
def Xv (r:V->Hp->VK->Prop) (ta:TE):TE:=λZ H Q=>ta Z H ((λ(r:V->Hp->VK->Prop) (Q:VK) (x:V) (H1:Hp)=>r x H1 Q) r Q)
inductive rI (C:Int->Int->Prop) (g:Int->Int->V) (x y:V) (H:Hp) (Q:VK):Prop | mk i j (_:x= .int i) (_:y= .int j) (_:C i j) (_:Q (g i j) H):rI C g x y H Q
inductive Mi (g:Int->Int->V) (x y:V) (H:Hp) (Q:VK):Prop | mk i j (_:x= .int i) (_:y= .int j) (_:Q (g i j) H):Mi g x y H Q
def rU (g:Int->V):V->Hp->VK->Prop:=λx H Q=> ∃i,x= .int i/\Q (g i) H
section
variable {a b:Expr} {tc:TE}
def Pa (ha:PE X a ta) (hb:PE X b tb) {R:V->V->Hp->Prop} (I:Inv X pN Z H s) (h:ta Z H λx H1=>tb Z H1 λy H2=>R x y H2) {f:Value->Value->Sem Value} (hf:∀v u s2 x y H2,Inv X pN Z H2 s2->RelV x v->RelV y u->R x y H2->wpAny (model X.prog X.w) X.A (f v u) Q X.xe s2):
 wpAny (model X.prog X.w) X.A (eval a X.env) (λv s₁=>wpAny (model X.prog X.w) X.A (eval b X.env) (λu s₂=>wpAny (model X.prog X.w) X.A (f v u) Q X.xe s₂) X.xe s₁) X.xe s:=by
 refine dY (ha pN s Z H _ I h) λv s1 #[x,H1,I1,r1,q1]=>?_;refine dY (hb pN s1 Z H1 _ I1 q1) λu s2 #[y,H2,I2,r2,q2]=>?_;exact hf v u s2 x y H2 I2 r1 r2 q2
def yB {op:Operator} (ho:rO X (binaryOp op) r) (ha:PE X a ta) (hb:PE X b tb):PE X (.BinOp a op b pos) (Tq r ta tb):=by
 intro pN s Z H Q I h;exact wpAny_BinOp (Pa ha hb I h λv u s2 x y H2 I2 rx ry q=>ho pN s2 Z H2 x y v u Q I2 rx ry q)
def Gm {op:UnaryOp} {r:V->Hp->VK->Prop} (ho:UN X (unaryOp op) r) (ha:PE X a ta):PE X (.UnaryOp op a pos) (Xv r ta):=by
 intro pN s Z H Q I h;exact UnaryOp_ (dY (ha pN s Z H _ I h) λv s1 #[x,H1,I1,r1,q1]=>ho pN s1 Z H1 x v Q I1 r1 q1)
def UP {f:Value->Value->Sem Value} {C:Int->Int->Prop} {g:Int->Int->Int} (rule:∀(i j:Int) (t u:Tok) (s:Shared) (Q:Value->Shared->Prop) (E:Value->Shared->Prop),C i j->Q (.int (g i j) s.toks) {s with toks:=s.toks+1}->wpAny (model X.prog X.w) X.A (f (.int i t) (.int j u)) Q E s):
 rO X f (rI C λi j=> .int (g i j)):=by
 intro pN s Z H x y v u Q I rx ry h;ext h i j rfl rfl hc q;ext rx t rfl;ext ry t' rfl;exact rule i j t t' s _ _ hc #[.int (g i j),H,I.tok _,#[_,rfl],q]
def Rm {f:Value->Value->Sem Value} {g:Int->Int->Int} (rule:∀(i j:Int) (t u:Tok) (s:Shared) (Q:Value->Shared->Prop) (E:Value->Shared->Prop),Q (.int (g i j) s.toks) {s with toks:=s.toks+1}->wpAny (model X.prog X.w) X.A (f (.int i t) (.int j u)) Q E s):
 rO X f (Mi λi j=> .int (g i j)):=by
 intro pN s Z H x y v u Q I rx ry h;ext h i j rfl rfl q;ext rx t rfl;ext ry t' rfl;exact rule i j t t' s _ _ #[.int (g i j),H,I.tok _,#[_,rfl],q]
def Mj {f:Value->Value->Sem Value} {g:Int->Int->Bool} (rule:∀(i j:Int) (t u:Tok) (s:Shared) (Q:Value->Shared->Prop) (E:Value->Shared->Prop),Q (.bool (g i j)) s->wpAny (model X.prog X.w) X.A (f (.int i t) (.int j u)) Q E s):
 rO X f (Mi λi j=> .bl (g i j)):=by
 intro pN s Z H x y v u Q I rx ry h;ext h i j rfl rfl q;ext rx t rfl;ext ry t' rfl;exact rule i j t t' s _ _ #[.bl (g i j),H,I,rfl,q]
def UQ (i j:Int):Prop:=0 < j/\j < 1073741824
def Ml (i j:Int):=(-(2 ^ 64) < i/\i < 2 ^ 64)\/(-(2 ^ 64) < j/\j < 2 ^ 64)
def Ml.ok {i j:Int} (h:Ml i j):IntMulOk i j:=by
 rcases h with ⟨h1,h2⟩ | ⟨h1,h2⟩
 . exact .of_left (intBits_le_64 h1 h2)
 . exact .of_right (intBits_le_64 h1 h2)
def dZ:rO X (binaryOp .Add) (Mi λi j=> .int (i+j)):=Rm λ_ _ _ _ _ _ _ q=>add_int q
def jF:rO X (binaryOp .Sub) (Mi λi j=> .int (i - j)):=Rm λ_ _ _ _ _ _ _ q=>sub_int q
def yC:rO X (binaryOp .Mult) (rI Ml λi j=> .int (i * j)):=UP λ_ _ _ _ _ _ _ hc q=>mul_int q hc.ok
theorem Gn:rO X (binaryOp .FloorDiv) (rI UQ λi j=> .int (i / j)):=UP λi j _ _ _ _ _ hc q=>by
 have h1:(0:Int) < j:=hc.1;have h2:j < 1073741824:=hc.2;exact floordiv_int (by lia) (by rw [Int.fdiv_eq_ediv_of_nonneg i (by lia)];exact q) (.inl (PyProof.noPylong_small (by lia)))
theorem Pb:rO X (binaryOp .Mod) (rI (λ_ j=>0 < j) λi j=> .int (i % j)):=UP λi j _ _ _ _ _ hc q=>by
 have h1:(0:Int) < j:=hc;exact mod_int' (by lia) (by rw [Int.fmod_eq_emod_of_nonneg i (by lia)];exact q)
def Xw {f:Value->Sem Value} {g:Int->Int} (rule:∀(i:Int) (t:Tok) (s:Shared) (Q:Value->Shared->Prop) (E:Value->Shared->Prop),Q (.int (g i) s.toks) {s with toks:=s.toks+1}->wpAny (model X.prog X.w) X.A (f (.int i t)) Q E s):
 UN X f (rU λi=> .int (g i)):=by
 intro pN s Z H x v Q I rx h;ext h i rfl q;ext rx t rfl;exact rule i t s _ _ #[.int (g i),H,I.tok _,#[_,rfl],q]
def BR:UN X (unaryOp .USub) (rU λi=> .int (-i)):=Xw λ_ _ _ _ _ q=>neg_int q
end
def Rn:V->V->Bool
 | .cx,.cx=>true | .cx,.int _=>true | .int _,.cx=>true | .cx,.bl _=>true | .bl _,.cx=>true | .cx,.str _=>true | .str _,.cx=>true
 | .int _,.int _=>true | .bl _,.bl _=>true | .str _,.str _=>true | .CZ _,.CZ _=>true
 | .int _,.str _=>true | .str _,.int _=>true | .bl _,.str _=>true | .str _,.bl _=>true
 | _,_=>false
def Xx:R2:=λx y H Q=>Rn x y=true/\Q (.bl (decide (x=y))) H
def Xy:R2:=λx y H Q=>Rn x y=true/\Q (.bl (!decide (x=y))) H
def Go {i j:Int}:decide (V.int i=V.int j)=(i == j):=by
 rw [b8];simp
def Jt {i j:Bool}:decide (V.bl i=V.bl j)=(i == j):=by
 rw [b8];simp
def Gp {i j:Str}:decide (V.str i=V.str j)=(i == j):=by
 rw [b8];simp
def Gq {i j:Array UInt8}:decide (V.CZ i=V.CZ j)=(i.toList == j.toList):=by
 rw [b8];cases i;cases j;simp
section
variable {a b:Expr} {tc:TE}
def cv {Q:VK} {k k':Bool} (I:Inv X pN Z H s) (q:Q (.bl k) H) (e:k=k'):EP X pN Z Q (.bool k') s:=by
 subst e;exists .bl k,H,I,U,q
def bJ:rO X (compareOp .Eq) Xx:=by
 intro pN s Z H x y v u Q I rx ry h;ext h hs q;cases x with
 | cx=>
  cases rx;cases y with
  | cx=>cases ry;exact EqNone.eq_none_none (cv I q (by simp))
  | bl j=>cases ry;exact EqNone.eq_none_bool (cv I q (by simp))
  | int j=>ext ry t' rfl;exact EqNone.eq_none_int (cv I q (by simp))
  | str j=>ext ry t' rfl;exact EqNone.eq_none_str (cv I q (by simp))
  | _=>exact absurd (show false=true from hs) aO
 | bl i=>
  cases rx;cases y with
  | cx=>cases ry;exact EqNone.eq_bool_none (cv I q (by simp))
  | bl j=>cases ry;exact eq_bool (cv I q Jt)
  | str j=>ext ry t' rfl;exact EqMixed.eq_bool_str (cv I q (by simp))
  | _=>exact absurd (show false=true from hs) aO
 | int i=>
  ext rx t rfl;cases y with
  | cx=>cases ry;exact EqNone.eq_int_none (cv I q (by simp))
  | int j=>ext ry t' rfl;exact eq_int (cv I q Go)
  | str j=>ext ry t' rfl;exact EqMixed.eq_int_str (cv I q (by simp))
  | _=>exact absurd (show false=true from hs) aO
 | str i=>
  ext rx t rfl;cases y with
  | cx=>cases ry;exact EqNone.eq_str_none (cv I q (by simp))
  | bl j=>cases ry;exact EqMixed.eq_str_bool (cv I q (by simp))
  | int j=>ext ry t' rfl;exact EqMixed.eq_str_int (cv I q (by simp))
  | str j=>ext ry t' rfl;exact eq_str (cv I q Gp)
  | _=>exact absurd (show false=true from hs) aO
 | CZ i=>
  ext rx t rfl;cases y with
  | CZ j=>ext ry t' rfl;exact PySem.W.eq_bytes (cv I q Gq)
  | _=>exact absurd (show false=true from hs) aO
 | _=>cases y <;> exact absurd (show false=true from hs) aO
def A5:rO X (compareOp .NotEq) Xy:=by
 intro pN s Z H x y v u Q I rx ry h;ext h hs q;cases x with
 | cx=>
  cases rx;cases y with
  | cx=>cases ry;exact EqNone.ne_none_none (cv I q (by simp))
  | bl j=>cases ry;exact EqNone.ne_none_bool (cv I q (by simp))
  | int j=>ext ry t' rfl;exact EqNone.ne_none_int (cv I q (by simp))
  | str j=>ext ry t' rfl;exact EqNone.ne_none_str (cv I q (by simp))
  | _=>exact absurd (show false=true from hs) aO
 | bl i=>
  cases rx;cases y with
  | cx=>cases ry;exact EqNone.ne_bool_none (cv I q (by simp))
  | bl j=>cases ry;exact ne_bool (cv I q (bq not Jt))
  | str j=>ext ry t' rfl;exact EqMixed.ne_bool_str (cv I q (by simp))
  | _=>exact absurd (show false=true from hs) aO
 | int i=>
  ext rx t rfl;cases y with
  | cx=>cases ry;exact EqNone.ne_int_none (cv I q (by simp))
  | int j=>ext ry t' rfl;exact ne_int (cv I q (bq not Go))
  | str j=>ext ry t' rfl;exact EqMixed.ne_int_str (cv I q (by simp))
  | _=>exact absurd (show false=true from hs) aO
 | str i=>
  ext rx t rfl;cases y with
  | cx=>cases ry;exact EqNone.ne_str_none (cv I q (by simp))
  | bl j=>cases ry;exact EqMixed.ne_str_bool (cv I q (by simp))
  | int j=>ext ry t' rfl;exact EqMixed.ne_str_int (cv I q (by simp))
  | str j=>ext ry t' rfl;exact ne_str (cv I q (bq not Gp))
  | _=>exact absurd (show false=true from hs) aO
 | CZ i=>
  ext rx t rfl;cases y with
  | CZ j=>ext ry t' rfl;exact PySem.W.ne_bytes (cv I q (bq not Gq))
  | _=>exact absurd (show false=true from hs) aO
 | _=>cases y <;> exact absurd (show false=true from hs) aO
def eV:rO X (compareOp .Lt) (Mi λi j=> .bl (decide (i < j))):=Mj λ_ _ _ _ _ _ _ q=>lt_int q
def Gr:rO X (compareOp .LtE) (Mi λi j=> .bl (decide (i<=j))):=Mj λ_ _ _ _ _ _ _ q=>le_int q
def iz:rO X (compareOp .Gt) (Mi λi j=> .bl (decide (j < i))):=Mj λ_ _ _ _ _ _ _ q=>gt_int q
def Ju:rO X (compareOp .GtE) (Mi λi j=> .bl (decide (j<=i))):=Mj λ_ _ _ _ _ _ _ q=>ge_int q
def Jv:rO X (compareOp .Is) (λx y H Q=>y= .cx/\Q (.bl (decide (x= .cx))) H):=by
 intro pN s Z H x y v u Q I rx ry h;ext h rfl q;cases ry;refine is_none_gen (cv I q ?_);cases x <;> first
  | (cases rx;rfl)
  | (ext rx t rfl;rfl)
def Mm:rO X (compareOp .IsNot) (λx y H Q=>y= .cx/\Q (.bl (!decide (x= .cx))) H):=by
 intro pN s Z H x y v u Q I rx ry h;ext h rfl q;cases ry;refine isnot_none_gen (cv I q ?_);cases x <;> first
  | (cases rx;rfl)
  | (ext rx t rfl;rfl)
def rO.or {f:Value->Value->Sem Value} {r':R2} (h:rO X f r) (h':rO X f r'):rO X f (λx y H Q=>r x y H Q\/r' x y H Q):=by
 intro pN s Z H x y v u Q I rx ry q;rcases q with q | q
 . exact h pN s Z H x y v u Q I rx ry q
 . exact h' pN s Z H x y v u Q I rx ry q
def Jw (b:Expr) {op:CmpOp} (h:op≠ .In:=by decide) (h2:op≠ .NotIn:=by decide):behindInMarks op b=false:=by
 have e1:(op == CmpOp.In)=false:=by cases op <;> first | rfl | exact absurd rfl h
 have e2:(op == CmpOp.NotIn)=false:=by cases op <;> first | rfl | exact absurd rfl h2
 cases b <;> simp [behindInMarks,e1,e2]
def Gs {op:CmpOp} (ho:rO X (compareOp op) r) (ha:PE X a ta) (hb:PE X b tb) (hm:behindInMarks op b=false:=by first | exact Jw _ | with_unfolding_all rfl):PE X (.Compare a [op] [b] pos) (Tq r ta tb):=by
 intro pN s Z H Q I h;exact wpAny_Compare1 (Pa ha hb I h λv u s2 x y H2 I2 rx ry q=>ho pN s2 Z H2 x y v u Q I2 rx ry q) hm
def NZ (t:TE):TT:=λZ H Q=>t Z H ((λ(Q:Bool->Hp->Prop) (x:V) (H':Hp)=> ∃k,x= .bl k/\Q k H') Q)
def gF {op:CmpOp} (ho:rO X (compareOp op) r) (ha:PE X a ta) (hb:PE X b tb) (hm:behindInMarks op b=false:=by first | exact Jw _ | with_unfolding_all rfl):PT X (.Compare a [op] [b] pos) (NZ (Tq r ta tb)):=by
 intro pN s Z H Q I h;refine wpAny_isTrue_Compare1 (dY (ha pN s Z H _ I h) λv s1 #[x,H1,I1,r1,q1]=>dY (hb pN s1 Z H1 _ I1 q1) λu s2 #[y,H2,I2,r2,q2]=>
  dY (ho pN s2 Z H2 x y v u _ I2 r1 r2 q2) λc s3 #[z,H3,I3,r3,k,e,q3]=>?_) hm
 subst e;cases r3;exact lH #[H3,I3,q3]
def Pg (K:Frag) (x:V) (H:Hp) (k:Bool):Prop:=
 match x with
 | .cx=>k=false
 | .bl b=>k=b
 | .int i=>k=(i != 0)
 | .str y=>y.length<=sizeLine/\k=((y.length:Int) != 0)
 | .CZ y=>y.size<=sizeLine/\k=((y.size:Int) != 0)
 | .ref p=>(∃xs,cw K H p xs/\k=!xs.isEmpty)\/(∃xs,g9 K H p xs/\k=!xs.isEmpty)\/∃aG,H p=some (.dK aG)/\k=!aG.isEmpty
 | _=>False
def EW {κ:Type} {aG:List (κ×V)} {vs:List (κ×Value)} (r:KV aG vs):(!vs.isEmpty)=!aG.isEmpty:=by
 cases r <;> rfl
def yD (r:Vals xs bU):(!bU.toArray.isEmpty)=!xs.isEmpty:=by
 cases r <;> simp
def wo:(sizeLine:Nat) < 2 ^ 63:=by rw [lV];decide
theorem Ph:UO X (λx H Q=> ∃k,Pg X.K x H k/\Q k H):=by
 intro pN s Z H x v Q I rx h;ext h k e q;have hl:=wo;have hs:sizeLine=16777216:=lV;cases x with
 | cx=>
  cases rx;have e':k=false:=e;subst e';exact truthy_none #[H,I,q]
 | bl b=>
  cases rx;have e':k=b:=e;subst e';exact lH #[H,I,q]
 | int i=>
  ext rx t rfl;have e':k=(i != 0):=e;subst e';exact PySem.P.truthy_int #[H,I,q]
 | str y=>
  ext rx t rfl;obtain ⟨hy,e'⟩:y.length<=sizeLine/\k=((y.length:Int) != 0):=e;subst e';exact PySem.P.truthy_str (by lia) #[H,I.tok _,q]
 | CZ y=>
  ext rx t rfl;obtain ⟨hy,e'⟩:y.size<=sizeLine/\k=((y.size:Int) != 0):=e;subst e';exact PySem.W.truthy_bytes (by lia) #[H,I.tok _,q]
 | ref p=>
  cases rx;have e':(∃xs,cw X.K H p xs/\k=!xs.isEmpty)\/(∃xs,g9 X.K H p xs/\k=!xs.isEmpty)\/∃aG,H p=some (.dK aG)/\k=!aG.isEmpty:=e;rcases e' with ⟨xs,hx,e'⟩ | ⟨xs,hx,e'⟩ | ⟨aG,hx,e'⟩
  . subst e';obtain ⟨bU,r,pl,hz⟩:=I.list hx;have hlen:=r.length;exact wpAny_truthy_list pl.isList (by simp only [cb];lia) #[H,I.tok _,by rw [yD r];exact q]
  . subst e';obtain ⟨bU,r,pl,hz⟩:=I.tuple hx;have hlen:=r.length;exact truthy_tuple pl (by simp only [cb];lia) #[H,I.tok _,by rw [yD r];exact q]
  . subst e';obtain ⟨hz,hS,vs,r,m⟩:aG.length<=sizeLine/\(p == sysModules)=false/\∃vs,KV aG vs/\s.heap.DictOf (cz X.prog X.w) p vs:=I.bQ p _ hx;have hlen:aG.length=vs.length:=qX r;exact wpAny_truthy_dict hS m (by lia) #[H,I.tok _,by rw [EW r];exact q]
 | _=>exact (show False from e).elim
def Jx (ha:PE X a ta) (he:∀whole,isTrue a X.env whole=(do let v<-whole;standAt a.pos;holding [v] (truthy v))):
 PT X a (λZ H Q=>ta Z H λx H'=> ∃k,Pg X.K x H' k/\Q k H'):=by
 intro pN s Z H Q I h;exact isTrue_plain (dY (ha pN s Z H _ I h) λv s1 #[x,H1,I1,r1,q1]=>Ph pN s1 Z H1 x v Q I1 r1 q1) (he _)
def aY:rO X (binaryOp .Add) (λx y H Q=> ∃i j,x= .str i/\y= .str j/\i.length+j.length<=sizeLine/\Q (.str (i++j)) H):=by
 intro pN s Z H x y v u Q I rx ry h;ext h i j rfl rfl hz q;ext rx t rfl;ext ry t' rfl;exact add_str (λt' tk=>#[.str (i++j),H,I.tok _,#[_,rfl],q]) hz
def C_:rO X (inplaceOp .Add) (λx y H Q=> ∃i j,x= .str i/\y= .str j/\i.length+j.length<=sizeLine/\Q (.str (i++j)) H):=by
 intro pN s Z H x y v u Q I rx ry h;ext h i j rfl rfl hz q;ext rx t rfl;ext ry t' rfl;exact iadd_str (λt' tk=>#[.str (i++j),H,I.tok _,#[_,rfl],q]) hz
def vals1 {x:V} (r:Vals [x] us):∃u,us= [u]/\RelV x u:=by
 cases r with
 | cons r1 r2=>cases r2;exists _,U,r1
def vals2 {x:V} (r:Vals [x,y] us):∃u w',us= [u,w']/\RelV x u/\RelV y w':=by
 cases r with
 | cons r1 r2=>
  cases r2 with
  | cons r3 r4=>cases r4;exists _,_,U,r1,r3
def Jy:gu X (.builtin "abs") (λxs H Q=> ∃i,xs= [.int i]/\Q (.int (if i < 0 then -i else i)) H):=by
 intro pN s Z H xs us Q I r h;ext h i rfl q;obtain ⟨u,rfl,t,rfl⟩:=vals1 r;exact call_abs_int λu tk=>#[.int (if i < 0 then -i else i),H,I.tok _,#[_,rfl],q]
def rc (hc:X.calm=true):gu X (.builtin "max") (λxs H Q=> ∃i j,xs= [.int i,.int j]/\Q (.int (if j > i then j else i)) H):=by
 intro pN s Z H xs us Q I r h;ext h i j rfl q;obtain ⟨u,w',rfl,⟨t,rfl⟩,⟨t',rfl⟩⟩:=vals2 r;refine max_two_ints (I.ok.hd hc) λh' tk k=>#[_,H,I.kept k,?_,q];by_cases hj:j > i
 . rw [ah hj,ah hj];exists _,U
 . rw [ae hj,ae hj];exists _,U
def wq (hc:X.calm=true):gu X (.builtin "min") (λxs H Q=> ∃i j,xs= [.int i,.int j]/\Q (.int (if j < i then j else i)) H):=by
 intro pN s Z H xs us Q I r h;ext h i j rfl q;obtain ⟨u,w',rfl,⟨t,rfl⟩,⟨t',rfl⟩⟩:=vals2 r;refine min_two_ints (I.ok.hd hc) λh' tk k=>#[_,H,I.kept k,?_,q];by_cases hj:j < i
 . rw [ah hj,ah hj];exists _,U
 . rw [ae hj,ae hj];exists _,U
def cP:gu X (.type "str") (λxs H Q=> ∃i,xs= [.int i]/\i.natAbs.log2 < 1920/\Q (.str (toString i)) H):=by
 intro pN s Z H xs us Q I r h;ext h i rfl hz q;obtain ⟨u,rfl,t,rfl⟩:=vals1 r;exact PySem.P.str_of_int hz #[.str _,H,I.tok _,#[_,rfl],q]
def Db:gu X (.builtin "ord") (λxs H Q=> ∃x,xs= [.str x]/\x.length=1/\Q (.int (x.cps.getD 0 0:Nat)) H):=by
 intro pN s Z H xs us Q I r h;ext h x rfl hz q;obtain ⟨u,rfl,t,rfl⟩:=vals1 r;exact ord_of_one hz #[.int _,H,I.tok _,#[_,rfl],q]
end
structure EX (h:Heap) (x dx C:Addr) (mA:Str->Option Value):Prop where
 obj:h.get? x=some (instObj C dx)
 ns:h.Ns1 dx mA
 ne:dx≠x
def HH (n:h.Ns1 dx mA):∃od,h.get? dx=some od/\∀name,lookIn name od=some (mA name):=by
 ext n o es ep ho hd hk _ hm;exists o,ho,λname=>?_;have e:=hm name;unfold nsFind findBy at e;rw [<-vL] at e;unfold lookIn;rw [hd];dsimp only;split
 . rename_i y q;rw [q] at e;exact bq some e
 . rename_i q;rw [q] at e;have a:es.toList.any (·.refKey)=false:=by
    rw [List.any_eq_false];intro y hy;obtain ⟨z,t,hkey⟩:=hk y (Array.mem_toList_iff.mp hy);simp [DictEntry.refKey,hkey]
   have a':¬es.toList.any (·.refKey)=true:=by rw [a];exact aO
   rw [ae a'];exact bq some e
def EX.look {x:Addr} (I:EX h x dx C mA):∃od,PySem.W.InstAt h x (instObj C dx) C (some od)/\∀name,lookIn name od=some (mA name):=
 let #[od,ho,hl]:=HH I.ns
 #[od,#[I.obj,rfl,rfl,ho],hl]
section
variable {x:Addr} {name:Str} {v:Value}
def get_map {expr:Bool} (X:K.In s.heap) (I:EX s.heap x dx C mA) (hg:plainGet K C name=true) (hh:hasDictIn K C=true) (ha:findIn K (.ref C) name=some none) (hv:mA name=some v) (hv':handedIn v=true) (h:Q v {s with toks:=s.toks+1}):
 wpAny (model prog w) A (getAttr (.ref x) name expr) Q E s:=by
 ext I.look od J hl;exact PySem.W.get_value X J (plainGet_of hg).1 (PySem.W.findObj_own hh ha rfl (by rw [hl,hv])) hv' h
def Jz {Q:Value×List Value->Shared->Prop} (X:K.In s.heap) (I:EX s.heap x dx C mA) (hg:plainGet K C name=true) (hf:findIn K (.ref C) name=some (some (.ref f))) (ht:isFn K (.ref f)=true) (hv:mA name=none) (h:Q (.ref f,[.ref x]) s):
 wpAny (model prog w) A (getMethod (.ref x) name pl) Q E s:=by
 ext I.look od J hl;exact PySem.W.method_fn X J (plainGet_of hg).1 (plainGet_of hg).2 hf (bO.mp ht) (by show (lookIn name od).map (·.isSome)=some false;rw [hl,hv];rfl) h
theorem Mo {ns:List Str} {Q:Unit->Shared->Prop} (X:K.In s.heap) (I:EX s.heap x dx C mA) (hs:findIn K (.ref C) "__setattr__" = some (some (.builtin "object.__setattr__"))) (hp:plainOver K C=true) (ht:takerIn K C name=some none) (hh:hasDictIn K C=true) (hw:PySem.Within mA ns) (hsz:ns.length<=sizeLine) (h:∀h',EX h' x dx C (λy=>if y=name then some v else mA y)->Heap.SameBut dx s.heap h'->Q () {s with heap:=h',toks:=s.toks+2}):
 wpAny (model prog w) A (setAttr (.ref x) name v) Q E s:=by
 ext I.look od J hl;refine PySem.W.set_plain X J hs (PySem.W.osa_open (s:={s with toks:=s.toks+1}) (r:=none) X J hp ht λb=>?_);obtain ⟨cd,hc,hd'⟩:=PySem.W.any_some hh;have hx:s.heap.get? x=some #[.ref C,some dx,.plain,#[]]:=I.obj;refine aw (bo (aw (aw (wpAny_loadPart hx (aw (Looks.here (s:={s with toks:=s.toks+1}) (PySem.W.looks_clsIn X hc) ?_))))));rw [hd'];refine bo (a:=some dx) (aw (bo (aw ?_)));refine wpAny_nsSet1 (s:={s with toks:=s.toks+1}) I.ns λh' hn2 hs2=>?_;obtain ⟨oD,esD,epD,hoD,hdD,hcD⟩:=hn2.count (PySem.Within.cons name v hw);refine aw (vT hoD (by rw [hdD];exact vU (aP hcD (by rw [aT];lia))) ?_);exact bo (h _ #[(hs2.2 _ (bX I.ne)).trans I.obj,hn2,I.ne] hs2)
def JA {vs:List Value} (X:K.In s.heap) (hm:makesIn K C=true) (hi:findIn K (.ref C) "__init__" = some (some (.ref f))) (hf:PySem.W.typeIn K (.ref f)=some (.type "function")) (h:codeAny (model prog w) (A.under (.builtin "type.__call__" #[.ref C :: vs,kw])) (.call (.ref f) #[.ref (s.heap.objs.size+1) :: vs,kw]) (PySem.W.InitBack (s.heap.objs.size+1) R)
 {s with heap:=(s.heap.push emptyDict).push (instObj C s.heap.objs.size)}):
 codeAny (model prog w) A (.call (.ref C) #[vs,kw]) R s:=by
 ext s hh g d t os;exact PySem.W.make_core (PySem.W.makes_of X hm) (PySem.W.looks_findIn X hi) (λself=>PySem.W.bind_fn X self hf) (.inl rfl) h
end
noncomputable def oQ (f:Str) (v:V):List (Str×V)->List (Str×V)
 | []=> [(f,v)]
 | (g,x) :: r=>if g=f then (g,v) :: r else (g,x) :: oQ f v r
theorem wX (f g:Str) (v:V):∀fs:List (Str×V),(oQ f v fs).lookup g=if g=f then some v else fs.lookup g
 | []=>by
  show List.lookup g [(f,v)]=_;by_cases h:g=f
  . have hb:(g == f)=true:=bO.mpr h;simp only [List.lookup,hb,ah h]
  . have hb:(g == f)=false:=c4.mpr h;simp only [List.lookup,hb,ae h]
 | (k,x) :: r=>by
  have ih:=wX f g v r;rw [show oQ f v ((k,x) :: r)=(if k=f then (k,v) :: r else (k,x) :: oQ f v r) from rfl];by_cases hk:k=f
  . rw [ah hk];by_cases h:g=k
    . have hb:(g == k)=true:=bO.mpr h;simp only [List.lookup,hb,ah (h.trans hk)]
    . have hb:(g == k)=false:=c4.mpr h;simp only [List.lookup,hb,ae (λe:g=f=>h (e.trans hk.symm))]
  . rw [ae hk];by_cases h:g=k
    . have hb:(g == k)=true:=bO.mpr h;simp only [List.lookup,hb,ae (λe:g=f=>hk (h.symm.trans e))]
    . have hb:(g == k)=false:=c4.mpr h;simp only [List.lookup,hb];exact ih
theorem wu (f:Str) (v:V):∀fs:List (Str×V),f∈(oQ f v fs).map (·.1)/\∀g,g∈fs.map (·.1)->g∈(oQ f v fs).map (·.1)
 | []=>#[by simp [oQ],λg h=>by simp at h]
 | (k,x) :: r=>by
  obtain ⟨i1,i2⟩:=wu f v r;rw [show oQ f v ((k,x) :: r)=(if k=f then (k,v) :: r else (k,x) :: oQ f v r) from rfl];by_cases hk:k=f
  . rw [ah hk];subst hk;exists by simp,λg h=> ~~~h
  . rw [ae hk];exists ?_,λg h=>?_
    . rw [bF];exact aW _ i1
    . rw [bF] at h ⊢;rcases aF.mp h with e | e
      . exact aF.mpr (.inl e)
      . exact aW _ (i2 g e)
theorem wY (f:Str) (v:V):∀fs:List (Str×V),(oQ f v fs).length<=fs.length+1
 | []=>by simp [oQ]
 | (k,x) :: r=>by
  have ih:=wY f v r;rw [show oQ f v ((k,x) :: r)=(if k=f then (k,v) :: r else (k,x) :: oQ f v r) from rfl];by_cases hk:k=f
  . rw [ah hk,aT,aT];lia
  . rw [ae hk,aT,aT];lia
def jE.some_of {o:Option Value} (r:jE (some v) o):∃u,o=some u/\RelV v u:=by
 cases o with
 | none=>exact (show False from r).elim
 | some u=>exists u,U,r
def jE.none_of {o:Option Value} (r:jE none o):o=none:=by
 cases o with
 | none=>rfl
 | some u=>exact (show False from r).elim
def HI (r:RelV v u):handedIn u=true:=by
 cases v with
 | cx=>cases (show u=Value.none from r);rfl
 | bl b=>cases (show u=Value.bool b from r);rfl
 | int i=>obtain ⟨t,e⟩:=(show∃t,u=Value.int i t from r);cases e;rfl
 | str x=>obtain ⟨t,e⟩:=(show∃t,u=Value.str x t from r);cases e;rfl
 | CZ b=>obtain ⟨t,e⟩:=(show∃t,u=Value.bytes b t from r);cases e;rfl
 | flt b=>obtain ⟨t,e⟩:=(show∃t,u=Value.float b t from r);cases e;rfl
 | ref a=>cases (show u=Value.ref a from r);rfl
 | ty n=>cases (show u=Value.type n from r);rfl
section
variable {fs fs':List (Str×V)}
def yd (bQ:lX P w H h) (e:H a=some (.ins C dx fs)):∃mA,EX h a dx C mA/\(∀f,jE (fs.lookup f) (mA f))/\PySem.Within mA (fs.map (·.1))/\fs.length<=1000/\H dx=some (.own a):=by
 obtain ⟨d,z,ne,ob,mA,n,r,q⟩:=(show dc P w H h a (.ins C dx fs) from bQ a _ e);exists mA,#[ob,n,ne],r,q,z,d
end
structure lq (K:Frag) (C:Addr):Prop where
 pg:plainGet K C Str.empty=true
 hd:hasDictIn K C=true
 po:plainOver K C=true
 sa:findIn K (.ref C) "__setattr__" = some (some (.builtin "object.__setattr__"))
theorem lq.get (c:lq K C) (f:Str):plainGet K C f=true:=c.pg
def dg (K:Frag) (C:Addr) (f:Str):=findIn K (.ref C) f=some none
def dg.taker {f:Str} (n:dg K C f):takerIn K C f=some none:=by
 unfold takerIn;rw [show findIn K (.ref C) f=some none from n];rfl
structure Meth (K:Frag) (C:Addr) (m:Str) (f:Addr):Prop where
 at_:findIn K (.ref C) m=some (some (.ref f))
 fn:isFn K (.ref f)=true
 kp:keepIn K (.ref f)=true
section
variable {fs:List (Str×V)} {f:Str}
def yE {b:Bool} (I:Inv X pN Z H s) (e:H a=some (.ins C dx fs)) (c:lq X.K C) (n:dg X.K C f) (l:fs.lookup f=some v) (h:∀u s',Inv X pN Z H s'->RelV v u->Q u s'):wpAny (model X.prog X.w) A (getAttr (.ref a) f b) Q E s:=by
 obtain ⟨mA,O,r,_,_,_⟩:=yd I.bQ e;obtain ⟨u,hu,ru⟩:=jE.some_of (v:=v) (o:=mA f) (by rw [<-l];exact r f);exact get_map I.lY O (c.get f) c.hd n hu (HI ru) (h u _ (I.tok _) ru)
theorem yF {g:Addr} {Q:Value×List Value->Shared->Prop} (I:Inv X pN Z H s) (e:H a=some (.ins C dx fs)) (c:lq X.K C) (k:Meth X.K C m g) (l:fs.lookup m=none) (h:Q (.ref g,[.ref a]) s):wpAny (model X.prog X.w) A (getMethod (.ref a) m pl) Q E s:=by
 obtain ⟨mA,O,r,_,_,_⟩:=yd I.bQ e;have hn:mA m=none:=jE.none_of (by rw [<-l];exact r m);exact Jz I.lY O (c.get m) k.at_ k.fn hn h
theorem yG {Q:Unit->Shared->Prop} (I:Inv X pN Z H s) (e:H a=some (.ins C dx fs)) (c:lq X.K C) (n:dg X.K C f) (hl:fs.length < 1000) (ry:RelV y u) (h:∀s',Inv X pN Z (upd H a (.ins C dx (oQ f y fs))) s'->Q () s'):wpAny (model X.prog X.w) A (setAttr (.ref a) f u) Q E s:=by
 obtain ⟨mA,O,r,wi,_,ho⟩:=yd I.bQ e;have hz:(fs.map (·.1)).length<=sizeLine:=by rw [aB,lV];lia
 refine Mo I.lY O c.sa c.po n.taker c.hd wi hz λh' O' sb=>h _ ?_;have hd:∃o,h'.get? dx=some o:=let #[o,_,_,e',_]:=O'.ns;#[o,e'];refine I.write (x:=a) (e:=dx) (by rw [e];exact au) (.inr ho) (λb q hb z=>(sb.2 b hb).trans z) hd ?_;exists by rw [aA O.ne];exact ho,?_,O.ne,O'.obj,_,O'.ns,λg=>?_,λg hg=>?_
 . have:=wY f y fs;lia
 . show jE ((oQ f y fs).lookup g) (if g=f then some u else mA g);rw [wX];by_cases q:g=f
   . rw [ah q,ah q];exact ry
   . rw [ae q,ae q];exact r g
 . by_cases q:g=f
   . rw [q];exact (wu f y fs).1
   . refine (wu f y fs).2 g (wi g λz=>hg ?_);show (if g=f then some u else mA g)=none;rw [ae q];exact z
def Inv.made (I:Inv X pN Z H s):Inv X pN Z (upd (upd H s.heap.objs.size (.own (s.heap.objs.size+1))) (s.heap.objs.size+1) (.ins C s.heap.objs.size []))
 {s with heap:=(s.heap.push emptyDict).push (instObj C s.heap.objs.size)}:=by
 have e1:(s.heap.push emptyDict).get? s.heap.objs.size=some emptyDict:=cJ s.heap rfl;have e2:((s.heap.push emptyDict).push (instObj C s.heap.objs.size)).get? (s.heap.objs.size+1)=some (instObj C s.heap.objs.size):=by
  have:=cJ (s.heap.push emptyDict) (o:=instObj C s.heap.objs.size) rfl;rwa [c7] at this
 have e3:(s.heap.push emptyDict).Ns s.heap.objs.size (λ_=>none):=#[emptyDict,#[],_,e1,rfl,(λe he=>absurd he (by simp)),λ_=>rfl];have I1:=I.laid (a:=s.heap.objs.size) (o:= .own (s.heap.objs.size+1)) (h':=s.heap.push emptyDict) (t':=s.toks) (λb u q=>bK _ q) (az _) #[_,e1];refine I1.laid (a:=s.heap.objs.size+1) (o:= .ins C s.heap.objs.size []) (t':=s.toks) (λb u q=>bK _ q) (gD (c7 _ _)) ?_;have ne:s.heap.objs.size≠s.heap.objs.size+1:=a9 (du _);exists by rw [aA ne,aa],aD _,ne,e2,λ_=>none,(Heap.Ns1.of_empty e3).at λo q=>bK _ q,λ_=>au,λy hy=>absurd U hy
def Gu (hb:attributeBase e f env (eval e env)=eval e env) (h:wpAny (model prog w) A (eval e env) (λo s₁=>wpAny (model prog w) A (getAttr o f true) Q E s₁) E s):wpAny (model prog w) A (eval (.Attribute e f pos) env) Q E s:=
 Attribute_any_ h (by rw [arm_eval_Attribute,hb])
end
def Ro (K:Frag) (ta:TE) (f:Str):TE:=λZ H Q=>ta Z H ((λ(K:Frag) (f:Str) (Q:VK) (x:V) (H1:Hp)=> ∃a C dx fs v,x= .ref a/\H1 a=some (.ins C dx fs)/\lq K C/\dg K C f/\fs.lookup f=some v/\Q v H1) K f Q)
def UR (K:Frag) (ta tv:TE) (f:Str):TS:=λD Z H=>tv Z H ((λ(K:Frag) (ta:TE) (f:Str) (D:Ends) (Z:St) (y:V) (H1:Hp)=>ta Z H1 ((λ(K:Frag) (f:Str) (D:Ends) (Z:St) (y x:V) (H2:Hp)=> ∃a C dx fs,x= .ref a/\H2 a=some (.ins C dx fs)/\lq K C/\dg K C f/\fs.length < 1000/\D.nx Z (upd H2 a (.ins C dx (oQ f y fs)))) K f D Z y)) K ta f D Z)
def Rp (X:Cx) (op:Operator) (rd:V->V->Hp->VK->Prop):Prop:=
 ∀(pN:List (Addr×Obj)) (s:Shared) (Z:St) (H:Hp) (x y:V) (u v:Value) (Q:VK),Inv X pN Z H s->RelV x u->RelV y v->rd x y H Q->wpAny (model X.prog X.w) X.A (inplaceOp op u v) (EP X pN Z Q) X.xe s
def Mp (K:Frag) (ta tv:TE) (rd:V->V->Hp->VK->Prop) (f:Str):TS:=λD Z H=>ta Z H λx H1=> ∃a C dx fs v,x= .ref a/\H1 a=some (.ins C dx fs)/\lq K C/\dg K C f/\fs.lookup f=some v/\
 tv Z H1 λy H2=>rd v y H2 λz H3=> ∃Al fs',H3 a=some (.ins C Al fs')/\fs'.length < 1000/\D.nx Z (upd H3 a (.ins C Al (oQ f z fs')))
section
variable {o value:Expr} {f:Str} {tv:TE}
def b_ (he:PE X e ta) (hb:attributeBase e f X.env (eval e X.env)=eval e X.env:=by rfl):PE X (.Attribute e f pos) (Ro X.K ta f):=by
 intro pN s Z H Q I h;refine Gu hb (dY (he pN s Z H _ I h) λu s1 hZ=>?_);ext hZ x H1 I1 rx a C dx fs v ex ea c n l q;subst ex;obtain rfl:u=Value.ref a:=rx;exact yE I1 ea c n l λu' s2 I2 ru=>#[v,H1,I2,ru,q]
def Pj (ha:PE X o ta) (hv:PE X value tv) (hs:swapsWith value (some (.Attribute o f pos')) pos.line X.env=pure false:=by rfl):PS X (.Assign [.Attribute o f pos'] value pos) (UR X.K ta tv f):=by
 intro pN s Z H D I h;refine yt (dY (hv pN s Z H _ I h) λu s1 #[y,H1,I1,ry,q]=>dY (ha pN s1 Z H1 _ I1 q) λov s2 hZ=>?_) hs;ext hZ x H2 I2 rx a C dx fs ex ea c n l q2;subst ex;obtain rfl:ov=Value.ref a:=rx;exact yG I2 ea c n l ry λs3 I3=>#[Z,_,I3,q2]
def HJ {op:Operator} {rd:V->V->Hp->VK->Prop} (ha:PE X o ta) (hv:PE X value tv) (hop:Rp X op rd):PS X (.AugAssign (.Attribute o f tpos) op value pos) (Mp X.K ta tv rd f):=by
 intro pN s Z H D I h;refine wpAny_AugAssign_AttributeAny (dY (ha pN s Z H _ I h) λov s1 hZ=>?_);ext hZ x H1 I1 rx a C dx fs v ex ea c n l q;subst ex;obtain rfl:ov=Value.ref a:=rx;refine yE I1 ea c n l λu s2 I2 ru=>dY (hv pN s2 Z H1 _ I2 q) λw3 s3 #[y,H2,I3,ry,q3]=>dY (hop pN s3 Z H2 v y u w3 _ I3 ru ry q3) λw4 s4 hZ=>?_;ext hZ z H3 I4 rz Al fs' Xz l' q4;exact yG I4 Xz c n l' rz λs5 I5=>#[Z,_,I5,q4]
def UT:V->V->Hp->VK->Prop:=λx y H Q=> ∃i j,x= .int i/\y= .int j/\Q (.int (i+j)) H
def Pk:Rp X .Add UT:=by
 rintro pN s Z H x y u v Q I rx ry ⟨i,j,rfl,rfl,q⟩;obtain ⟨t,rfl⟩:=(show∃t,u=Value.int i t from rx);obtain ⟨t',rfl⟩:=(show∃t',v=Value.int j t' from ry);exact PyProof.Rows.iadd_int #[.int (i+j),H,I.tok _,#[_,rfl],q]
end
section
variable {c:Value} {b:Bool}
inductive rH (K:Frag) (H:Hp):V->Value->Prop where
 | cx:rH K H .cx (.type "NoneType")
 | bl (x:Bool):rH K H (.bl x) (.type "bool")
 | int (i:Int):rH K H (.int i) (.type "int")
 | str (x:Str):rH K H (.str x) (.type "str")
 | flt (x:UInt64):rH K H (.flt x) (.type "float")
 | lst {a:Addr} {xs:List V} (e:H a=some (.lst xs)):rH K H (.ref a) (.type "list")
 | g8 {a:Addr} {o:Obj} {xs:List V} (e:H a=some (.g8 o (.lst xs))):rH K H (.ref a) (.type "list")
 | tup {a:Addr} {xs:List V} (e:H a=some (.tup xs)):rH K H (.ref a) (.type "tuple")
 | dK {a:Addr} {aG:List (Key×V)} (e:H a=some (.dK aG)):rH K H (.ref a) (.type "dict")
 | dT {a:Addr} {aG:List (List Key×V)} (e:H a=some (.dT aG)):rH K H (.ref a) (.type "dict")
 | ins {a C dx:Addr} {fs:List (Str×V)} (e:H a=some (.ins C dx fs)) (cl:lq K C) (ha:findIn K (.ref C) "__class__" = some (some (.builtin "object.__class__")))
  (hn:PySem.W.specialIn K (.builtin "object.__class__") "__get__" = some (some (.builtin "getset_descriptor.__get__"))) (htk:PySem.W.takesIn K (.builtin "object.__class__")=some true)
  (hm:mroIn K C (.type "object")=some true):rH K H (.ref a) (.ref C)
def HK {x:V} {t:Value} (I:Inv X pN Z H s) (rx:RelV x u) (ty:rH X.K H x t) (e:kitOne X.K t c=some b) (h:∀tk,Q (.bool b) {s with toks:=tk}):
 wpAny (model X.prog X.w) A (call (.builtin "isinstance") [u,c]) Q E s:=by
 cases ty with
 | cx=>cases (show u=Value.none from rx);exact kia_one PySem.W.kitx_none I.lY au e (λz=>nomatch z) h
 | bl y=>cases (show u=Value.bool y from rx);exact kia_one PySem.W.kitx_bool I.lY au e (λz=>nomatch z) h
 | int i=>obtain ⟨t,q⟩:=(show∃t,u=Value.int i t from rx);cases q;exact kia_one PySem.W.kitx_int I.lY au e (λz=>nomatch z) h
 | str y=>obtain ⟨t,q⟩:=(show∃t,u=Value.str y t from rx);cases q;exact kia_one PySem.W.kitx_str I.lY au e (λz=>nomatch z) h
 | flt y=>obtain ⟨t,q⟩:=(show∃t,u=Value.float y t from rx);cases q;exact kia_one PySem.W.kitx_float I.lY au e (λz=>nomatch z) h
 | @lst a xs ea=>
  cases (show u=Value.ref a from rx);obtain ⟨_,_,n,_,h1⟩:=(show dc X.prog X.w H s.heap a (.lst xs) from I.bQ a _ ea);exact kia_one kitx_list I.lY #[_,h1,rfl] e (λz=>nomatch z) h
 | @g8 a ob xs ea=>
  cases (show u=Value.ref a from rx);obtain ⟨_,_,_,n,_,h1⟩:=(show dc X.prog X.w H s.heap a (.g8 ob (.lst xs)) from I.bQ a _ ea);exact kia_one kitx_list I.lY #[_,h1,rfl] e (λz=>nomatch z) h
 | @tup a xs ea=>
  cases (show u=Value.ref a from rx);obtain ⟨_,_,_,p⟩:=(show dc X.prog X.w H s.heap a (.tup xs) from I.bQ a _ ea);ext p o h1 h2 _;exact kia_one PySem.W.kitx_tuple I.lY #[o,h1,h2] e (λz=>nomatch z) h
 | @dK a aG ea=>
  cases (show u=Value.ref a from rx);obtain ⟨_,_,vs,_,p⟩:=(show dc X.prog X.w H s.heap a (.dK aG) from I.bQ a _ ea);ext p o es ep h1 h2 _;exact kia_one kitx_dict I.lY #[o,h1,h2.1] e (λz=>nomatch z) h
 | @dT a aG ea=>
  cases (show u=Value.ref a from rx);obtain ⟨_,_,xs,_,o,es,ep,h1,h2,_⟩:=(show dc X.prog X.w H s.heap a (.dT aG) from I.bQ a _ ea);exact kia_one kitx_dict I.lY #[o,h1,h2.1] e (λz=>nomatch z) h
 | @ins a C dx fs ea cl ha hn htk hm=>
  cases (show u=Value.ref a from rx);obtain ⟨mA,O,_⟩:=yd I.bQ ea;ext O.look od J _;exact kia_one (PySem.W.kitx_own (cl.get _) cl.hd ha hn htk hm) I.lY J e (λz=>nomatch z) h
end
structure cY (k:Nat) (A:Around):Prop where
 hd:A.handled=none
 dp:A.depth+3 * k+5 < recursionLimit
 un:A.units+16 * k+200 < cLine
theorem cY.mono {k:Nat} (r:cY k A) (h:j<=k):cY j A:=#[r.hd,by have:=r.dp;lia,by have:=r.un;lia]
theorem cY.deeper {k:Nat} (r:cY (k+1) A) (env:Env):cY k (A.deeper env):=
 #[r.hd,by have:=r.dp;show A.depth+1+3 * k+5 < _;lia,by have:=r.un;show A.units+3+16 * k+200 < _;lia]
theorem cY.in1 {k:Nat} (r:cY (k+1) A):cY k A.in1:=
 #[r.hd,by have:=r.dp;show A.depth+3 * k+5 < _;lia,by have:=r.un;show A.units+1+16 * k+200 < _;lia]
def EY:(A.under (.builtin "type.__call__" #[.ref C :: us,kw])).depth=A.depth+1:=by
 first | rfl | simp [Around.under,Code.weight,Code.isCreation,Code.isGuard,Code.isCaller,Code.frames,Code.isFrame,guardIds]
def EZ:(A.under (.builtin "type.__call__" #[.ref C :: us,kw])).units=A.units+1:=by
 first | rfl | simp [Around.under,Code.cUnits,Code.frames,Code.isFrame]
theorem cY.make {k:Nat} (r:cY (k+1) A) (C:Addr) (us:List Value) (kw:List (Str×Value)):cY k (A.under (.builtin "type.__call__" #[.ref C :: us,kw])):=
 #[r.hd,by have:=r.dp;rw [EY];omega,by have:=r.un;rw [EZ];omega]
theorem cY.depth {k:Nat} (r:cY k A):A.depth < recursionLimit:=by have:=r.dp;lia
theorem cY.units {k:Nat} (r:cY k A):A.units+64 < cLine:=by have:=r.un;lia
def E1:TA:=λ_ H Q=>Q [] H
def JB (ta:TE) (tr:TA):TA:=λZ H Q=>ta Z H ((λ(tr:TA) (Z:St) (Q:List V->Hp->Prop) (x:V) (H1:Hp)=>tr Z H1 ((λ(Q:List V->Hp->Prop) (x:V) (xs:List V) (H2:Hp)=>Q (x :: xs) H2) Q x)) tr Z Q)
section
variable {t:TA}
def yH:PA X [] E1:=λ_ _ _ _ H Q I h=>Calls.spliced_nil #[[],H,I,.nil,h]
def aH (ha:PE X e te) (hr:PA X es t) (hs:starEach (e :: es) X.env=(false,eval e X.env) :: starEach es X.env:=by rfl):PA X (e :: es) (JB te t):=by
 intro pos pN s Z H Q I h;rw [hs];show wpAny _ _ (spliced ((false,eval e X.env) :: backTo pos (starEach es X.env))) _ _ s;refine Calls.spliced_cons (dY (ha pN s Z H _ I h) λu s1 #[x,H1,I1,r1,q1]=>?_);exact dY (hr pos pN s1 Z H1 _ I1 q1) λus s2 #[xs,H2,I2,r2,q2]=>#[x :: xs,H2,I2,.cons r1 r2,q2]
def UU (t:TA):TE:=λZ H Q=>t Z H ((λ(Q:VK) (xs:List V) (H1:Hp)=>xs.length<=sizeLine/\∀p,H1 p=none->Q (.ref p) (upd H1 p (.tup xs))) Q)
def UV (t:TA):TE:=λZ H Q=>t Z H ((λ(Q:VK) (xs:List V) (H1:Hp)=>xs.length<=sizeLine/\∀p,H1 p=none->Q (.ref p) (upd H1 p (.lst xs))) Q)
def E2 {x1} (h:PA X es t):PE X (.Tuple es x1 pos) (UU t):=by
 intro pN s Z H Q I hq;refine wpAny_Tuple_spliced (dY (h pos pN s Z H _ I hq) λus s1 #[xs,H1,I1,r,z,q]=>#[by rw [<-r.length];exact z,?_]);have hf:H1 s1.heap.objs.size=none:=I1.bQ.fresh (az _);exists .ref s1.heap.objs.size,upd H1 s1.heap.objs.size (.tup xs),I1.laid (t':=s1.toks) (λb u e=>bK _ e) (az _) ?_,U,q _ hf;exists z,us,r,#[_,cJ _ U,U,_,U]
def E3 (h:PA X es t):PE X (.List es pos) (UV t):=by
 intro pN s Z H Q I hq;refine wpAny_List_spliced (dY (h pos pN s Z H _ I hq) λus s1 #[xs,H1,I1,r,z,q]=>#[by rw [<-r.length];exact z,?_]);have hf:H1 s1.heap.objs.size=none:=I1.bQ.fresh (az _);exists .ref s1.heap.objs.size,upd H1 s1.heap.objs.size (.lst xs),I1.laid (t':=s1.toks) (λb u e=>bK _ e) (az _) ?_,U,q _ hf;exists z,us,0,r,cJ _ U
end
abbrev Sp:=List V->Hp->VK->XK->Prop
variable {sp:Sp}
abbrev JC:=List Env->Hp->Shared->XK->Value->Shared->Prop
variable {CX:JC}
structure yI (P:Program) (w:World) (K:Frag) (mg:Str->Option Value) (base:Heap) (A:Around) (outer:List Env) (s:Shared) (H:Hp):Prop where
 frames:A.frames=some outer
 mod:Mod K mg base
 bs:∀b o,base.get? b=some o->s.heap.get? b=some o/\H b=none
 C7:base.objs.size<=s.heap.objs.size
 funs:s.heap.FunFrames base outer
 Gh:∀b∈frs outer,H b=none
 bQ:lX P w H s.heap
 bare:AllBare s.gens
def CE (outer:List Env) (P:Program) (w:World) (H:Hp) (s:Shared) (Q:VK) (u:Value) (s':Shared):Prop:=
 ∃v H',s'.os=s.os/\AllBare s'.gens/\Un (frs outer) [] H H' s.heap s'.heap/\lX P w H' s'.heap/\RelV v u/\Q v H'
def CR (CX:JC) (outer:List Env) (P:Program) (w:World) (H:Hp) (s:Shared) (Q:VK) (E:XK) (r:Result) (s':Shared):Prop:=
 match r with
 | .ok (.ret u)=>CE outer P w H s Q u s'
 | .ok _=>False
 | .error e=>CX outer H s E e s'
structure jg (P:Program) (w:World) (K:Frag) (mg:Str->Option Value) (base:Heap) (CX:JC) (k:Nat) (f:Addr) (fd:FuncData) (ps:List Str) (sp:Sp):Prop where
 len:∀vs H Q E,sp vs H Q E->vs.length=ps.length
 run:∀(A:Around) (outer:List Env) (s:Shared) (H:Hp) (args:Args) (us:List Value) (vs:List V) (Q:VK) (E:XK),cY k A->yI P w K mg base A outer s H->BindsTo s fd args (ps.zip us)->Vals vs us->sp vs H Q E->
  codeAny (model P w) A (.call (.ref f) args) (CR CX outer P w H s Q E) s
def jg.mono {k:Nat} (F:jg P w K mg base CX j f fd ps sp) (h:j<=k):
 jg P w K mg base CX k f fd ps sp:=#[F.len,λA outer s H args us vs Q E hr=>F.run A outer s H args us vs Q E (hr.mono h)]
def jg.imp {k:Nat} {Rq:Sp} (F:jg P w K mg base CX k f fd ps sp) (h:∀vs H Q E,Rq vs H Q E->sp vs H Q E):jg P w K mg base CX k f fd ps Rq:=
 #[λvs H Q E q=>F.len vs H Q E (h _ _ _ _ q),λA outer s H args us vs Q E hr he hb hv hs=>F.run A outer s H args us vs Q E hr he hb hv (h _ _ _ _ hs)]
def yI.make (e:yI P w K mg base A outer s H) (C:Addr) (us:List Value) (kw:List (Str×Value)):
 yI P w K mg base (A.under (.builtin "type.__call__" #[.ref C :: us,kw])) outer s H:=#[by first | exact e.frames | (simpa [Around.under,Code.envs,Code.isFrame,pushEnvs] using e.frames),e.mod,e.bs,e.C7,e.funs,e.Gh,e.bQ,e.bare]
def yI.in1 (e:yI P w K mg base A outer s H):
 yI P w K mg base A.in1 outer s H:=#[e.frames,e.mod,e.bs,e.C7,e.funs,e.Gh,e.bQ,e.bare]
section
def Inv.env0 (I:Inv X pN Z H s):yI X.prog X.w X.K X.mg X.base X.A X.stack s H:=
 #[I.ok.frames,I.ok.mod,I.bs,aP I.ok.C7 I.sz,I.stack,I.tT,I.bQ,I.bare]
def Inv.after {Q:VK} (I:Inv X pN Z H s) (h:CE X.stack X.prog X.w H s Q u s'):EP X pN Z Q u s':=by
 ext h v H' os bare un bQ r q;ext s' hh g d t os';obtain rfl:os'=s.os:=os;exists v,H',I.call (h':=hh) (g':=g) (d':=d) (t':=t) (ch:= []) un bQ bare (λb z=>absurd z (by simp)),r,q
end
def N0 (sp:Sp) (sN:List V) (E:XK) (t:TA):TE:=λZ H Q=>t Z H ((λ(sp:Sp) (sN:List V) (E:XK) (Q:VK) (vs:List V) (H1:Hp)=>sp (vs++sN) H1 Q E) sp sN E Q)
def Gv (C:Addr) (m:Str) (sp:Sp) (sN:List V) (E:XK) (ta:TE) (t:TA):TE:=λZ H Q=>ta Z H ((λ(C:Addr) (m:Str) (sp:Sp) (sN:List V) (E:XK) (t:TA) (Z:St) (Q:VK) (x:V) (H1:Hp)=> ∃a dx fs,x= .ref a/\H1 a=some (.ins C dx fs)/\fs.lookup m=none/\t Z H1 ((λ(sp:Sp) (sN:List V) (E:XK) (Q:VK) (x:V) (vs:List V) (H2:Hp)=>sp (x :: (vs++sN)) H2 Q E) sp sN E Q x)) C m sp sN E t Z Q)
def Gw (C:Addr) (sp:Sp) (sN:List V) (E:XK) (t:TA):TE:=λZ H Q=>t Z H ((λ(C:Addr) (sp:Sp) (sN:List V) (E:XK) (Q:VK) (vs:List V) (H1:Hp)=> ∀x dx,H1 x=none->H1 dx=none->dx≠x->sp (.ref x :: (vs++sN)) (upd (upd H1 dx (.own x)) x (.ins C dx [])) ((λ(Q:VK) (x:Addr) (v:V) (H2:Hp)=>v= .cx/\Q (.ref x) H2) Q x) E) C sp sN E Q)
def Binds (K:Frag) (fd:FuncData) (ps:List Str) (ds:List Value):Prop:=
 ∀(s:Shared) (us:List Value),K.In s.heap->(us++ds).length=ps.length->BindsTo s fd #[us,[]] (ps.zip (us++ds))
theorem Binds.all (h:∀us:List Value,us.length=ps.length->bindArgs fd #[us,[]]=pure (ps.zip us)):Binds K fd ps []:=λs us _ hl=>by
 rw [bH] at hl ⊢;exact .of_eq (h us hl)
def Passes (CX:JC) (X:Cx) (E:XK):= ∀(pN:List (Addr×Obj)) (Z:St) (H:Hp) (s:Shared) (e:Value) (s':Shared),Inv X pN Z H s->CX X.stack H s E e s'->X.xe e s'
section
variable {k:Nat} {sN:List V} {ds:List Value} {E:XK} {o:Expr} {t:TA}
def E4 {Q:VK} {vs:List V} (F:jg X.prog X.w X.K X.mg X.base CX k f fd ps sp) (hr:cY k X.A) (hb:Binds X.K fd ps ds) (hd:Vals sN ds) (hx:Passes CX X E) (I:Inv X pN Z H s) (r:Vals vs us) (h:sp (vs++sN) H Q E):wpAny (model X.prog X.w) X.A (call (.ref f) us) (EP X pN Z Q) X.xe s:=by
 have r2:Vals (vs++sN) (us++ds):=r.append hd;have hl:(us++ds).length=ps.length:=by rw [<-r2.length];exact F.len _ _ _ _ h
 refine jr (gZ (F.run X.A X.stack s H #[us,[]] (us++ds) (vs++sN) Q E hr I.env0 (hb s us I.lY hl) r2 h) λr s' hq=>?_);cases r with
 | error e=>exact hx pN Z H s e s' I hq
 | ok fl=>
  cases fl with
  | ret u=>exact I.after hq
  | next=>exact False.elim hq
  | brk=>exact False.elim hq
  | cont=>exact False.elim hq
def Mq (F:jg X.prog X.w X.K X.mg X.base CX k f fd ps sp) (hr:cY k X.A) (hg:Gl X x) (hm:X.mg x=some (.ref f)) (hk:keepIn X.K (.ref f)=true) (hb:Binds X.K fd ps ds) (hd:Vals sN ds) (hx:Passes CX X E) (ha:PA X (e :: es) t) (hdb:(x == ("__debug__" :Str))=false:=by decide) (he:starEach (e :: es) X.env=(false,eval e X.env) :: starEach es X.env:=by rfl) (g6:(backTo pos (starEach es X.env)).any (·.1)=false:=by rfl):
 PE X (.Call (.Name x p) (e :: es) [] pos) (N0 sp sN E t):=by
 intro pN s Z H Q I h;refine ik (kj I hg hm ?_ hdb);refine callWith_K (h₀:=X.base) I.ok.mod.Mg hk (dY (ha pos pN s Z H _ I h) λus s1 #[vs,H1,I1,r,q]=>#[I1.lY,?_]) he g6;exact E4 F hr hb hd hx I1 r q
def Mr (he:PE X o ta) (c:lq X.K C) (hm:Meth X.K C m f) (F:jg X.prog X.w X.K X.mg X.base CX k f fd ps sp) (hr:cY k X.A) (hb:Binds X.K fd ps ds) (hd:Vals sN ds) (hx:Passes CX X E) (ha:PA X (e :: es) t) (fZ:starEach (e :: es) X.env=(false,eval e X.env) :: starEach es X.env:=by rfl) (g6:(backTo pos (starEach es X.env)).any (·.1)=false:=by rfl) (ht:eval (.Call (.Attribute o m apos) (e :: es) [] pos) X.env=(do
 let ov<-eval o X.env;standAt apos.atName;let (f,first)<-holding [ov] (getMethod ov m pl);callWith pos f first (backTo pos (starEach (e :: es) X.env)) (backToKw pos (keywordEach [] X.env))):=by rfl):
 PE X (.Call (.Attribute o m apos) (e :: es) [] pos) (Gv C m sp sN E ta t):=by
 intro pN s Z H Q I h;refine methodCall_KW (pl:=pl) (dY (he pN s Z H _ I h) λu s1 hZ=>?_) ht;ext hZ x H1 I1 rx a dx fs ex ea l q;subst ex;obtain rfl:u=Value.ref a:=rx;refine yF I1 ea c hm l ?_;refine callWith_K (first:= [.ref a]) (h₀:=X.base) I.ok.mod.Mg hm.kp (dY (ha pos pN s1 Z H1 _ I1 q) λus s2 #[vs,H2,I2,r,q2]=>#[I2.lY,?_]) fZ g6;exact E4 (us:= .ref a :: us) (vs:= .ref a :: vs) F hr hb hd hx I2 (.cons rfl r) q2
def JD (he:PE X o ta) (c:lq X.K C) (hm:Meth X.K C m f) (F:jg X.prog X.w X.K X.mg X.base CX k f fd ps sp) (hr:cY k X.A) (hb:Binds X.K fd ps ds) (hd:Vals sN ds) (hx:Passes CX X E) (ht:eval (.Call (.Attribute o m apos) [] [] pos) X.env=(do
 let ov<-eval o X.env;standAt apos.atName;let (f,first)<-holding [ov] (getMethod ov m pl);callWith pos f first (backTo pos (starEach [] X.env)) (backToKw pos (keywordEach [] X.env))):=by rfl):
 PE X (.Call (.Attribute o m apos) [] [] pos) (Gv C m sp sN E ta E1):=by
 intro pN s Z H Q I h;refine methodCall_KW (pl:=pl) (dY (he pN s Z H _ I h) λu s1 hZ=>?_) ht;ext hZ x H1 I1 rx a dx fs ex ea l q;subst ex;obtain rfl:u=Value.ref a:=rx;refine yF I1 ea c hm l ?_;exact callWith_K0 (first:= [.ref a]) I1.lY hm.kp (E4 (us:= [.ref a]) (vs:= [.ref a]) F hr hb hd hx I1 (.cons rfl .nil) q)
structure Mk (K:Frag) (C f:Addr):Prop where
 makes:makesIn K C=true
 init:findIn K (.ref C) "__init__" = some (some (.ref f))
 fn:isFn K (.ref f)=true
 kp:keepIn K (.ref C)=true
def Dc {Q:VK} {vs:List V} (M:Mk X.K C f) (F:jg X.prog X.w X.K X.mg X.base CX k f fd ps sp) (hr:cY (k+1) X.A) (hb:Binds X.K fd ps ds) (hd:Vals sN ds) (hx:Passes CX X E) (I:Inv X pN Z H s) (r:Vals vs us) (h:∀x dx,H x=none->H dx=none->dx≠x->sp (.ref x :: (vs++sN)) (upd (upd H dx (.own x)) x (.ins C dx [])) (λv H2=>v= .cx/\Q (.ref x) H2) E):
 wpAny (model X.prog X.w) X.A (call (.ref C) us) (EP X pN Z Q) X.xe s:=by
 have hq:=h (s.heap.objs.size+1) s.heap.objs.size (I.bQ.fresh (q_ _)) (I.bQ.fresh (az _)) (a9 (du _));have I2:=Inv.made (C:=C) I;have r2:Vals (V.ref (s.heap.objs.size+1) :: (vs++sN)) (Value.ref (s.heap.objs.size+1) :: (us++ds)):= .cons rfl (r.append hd);have hl:(Value.ref (s.heap.objs.size+1) :: us++ds).length=ps.length:=by
  have e:=r2.length;rw [F.len _ _ _ _ hq] at e;exact e.symm
 refine jr (JA (f:=f) I.lY M.makes M.init (bO.mp M.fn) (gZ (F.run _ X.stack _ _ #[Value.ref (s.heap.objs.size+1) :: us,[]] (Value.ref (s.heap.objs.size+1) :: (us++ds)) _ _ E (hr.make C us [])
  (I2.env0.make C us []) (hb _ (Value.ref (s.heap.objs.size+1) :: us) I2.lY hl) r2 hq) λr s' hq'=>?_))
 cases r with
 | error e=>exact hx pN Z _ _ e s' I2 hq'
 | ok fl=>
  cases fl with
  | ret u=>
   obtain ⟨v,H',I3,rv,ev,q3⟩:=I2.after hq';subst ev;exists rv,#[V.ref (s.heap.objs.size+1),H',I3,U,q3]
  | next=>exact False.elim hq'
  | brk=>exact False.elim hq'
  | cont=>exact False.elim hq'
def Ms (M:Mk X.K C f) (F:jg X.prog X.w X.K X.mg X.base CX k f fd ps sp) (hr:cY (k+1) X.A) (hg:Gl X x) (hm:X.mg x=some (.ref C)) (hb:Binds X.K fd ps ds) (hd:Vals sN ds) (hx:Passes CX X E) (ha:PA X (e :: es) t) (hdb:(x == ("__debug__" :Str))=false:=by decide) (he:starEach (e :: es) X.env=(false,eval e X.env) :: starEach es X.env:=by rfl) (g6:(backTo pos (starEach es X.env)).any (·.1)=false:=by rfl):
 PE X (.Call (.Name x p) (e :: es) [] pos) (Gw C sp sN E t):=by
 intro pN s Z H Q I h;refine ik (kj I hg hm ?_ hdb);refine callWith_K (h₀:=X.base) I.ok.mod.Mg M.kp (dY (ha pos pN s Z H _ I h) λus s1 #[vs,H1,I1,r,q]=>#[I1.lY,?_]) he g6;exact Dc M F hr hb hd hx I1 r q
def JE (M:Mk X.K C f) (F:jg X.prog X.w X.K X.mg X.base CX k f fd ps sp) (hr:cY (k+1) X.A) (hg:Gl X x) (hm:X.mg x=some (.ref C)) (hb:Binds X.K fd ps ds) (hd:Vals sN ds) (hx:Passes CX X E) (hdb:(x == ("__debug__" :Str))=false:=by decide):PE X (.Call (.Name x p) [] [] pos) (Gw C sp sN E E1):=by
 intro pN s Z H Q I h;refine ik (kj I hg hm ?_ hdb);exact callWith_K0 I.lY M.kp (Dc (us:= []) M F hr hb hd hx I .nil h)
end
structure d_ (N P:List Str) (sc:Scope):Prop where
 kind:sc.kind= .function
 co:sc.isCoroutine=false
 gen:sc.isGenerator=false
 nd:N.Nodup
 pre:N.take P.length=P
 par:∀x∈P,sc.names.lookup x=some .local\/sc.names.lookup x=some .cell
 Pl:∀y∈sc.names,y.2≠ .free
theorem A6:∀{binds:List (Str×Value)} {m:Str->Option Value},(∀v,(x,v)∉binds)->bindL kindOf binds m x=m x
 | [],_,_=>rfl
 | (n,v) :: r,m,h=>by
  unfold bindL;rw [A6 λw hw=>h w (aW _ hw)];split
  . have:x≠n:=by rintro rfl;exact h v bi
    simp [this]
  . rfl
theorem A7:∀{binds:List (Str×Value)} {m:Str->Option Value},(∀v,(x,v)∉binds)->bindC kindOf binds m x=m x
 | [],_,_=>rfl
 | (n,v) :: r,m,h=>by
  unfold bindC;rw [A7 λw hw=>h w (aW _ hw)];split
  . rfl
  . have:x≠n:=by rintro rfl;exact h v bi
    simp [this]
theorem A8 {v:Value}:∀{P:List Str} {vs:List Value} {i:Nat} {m:Str->Option Value},P.Nodup->P[i]? = some x->vs[i]? = some v->kindOf x=some .local->
 bindL kindOf (P.zip vs) m x=some v
 | [],_,_,_,_,h,_,_=>by simp at h
 | _ :: _,[],_,_,_,_,h,_=>by simp at h
 | p :: P,w :: vs,0,m,nd,h1,h2,hk=>by
  simp at h1 h2;subst h1;subst h2;show bindL kindOf ((p,w) :: P.zip vs) m p=_;unfold bindL;rw [A6 λv hv=>(lD.mp nd).1 (lM hv).1,ah hk];simp
 | p :: P,w :: vs,i+1,m,nd,h1,h2,hk=>by
  show bindL kindOf ((p,w) :: P.zip vs) m x=_;unfold bindL;exact A8 (i:=i) (lD.mp nd).2 (~~~h1) (~~~h2) hk
theorem A9 {v:Value}:∀{P:List Str} {vs:List Value} {i:Nat} {m:Str->Option Value},P.Nodup->P[i]? = some x->vs[i]? = some v->kindOf x≠some .local->
 bindC kindOf (P.zip vs) m x=some v
 | [],_,_,_,_,h,_,_=>by simp at h
 | _ :: _,[],_,_,_,_,h,_=>by simp at h
 | p :: P,w :: vs,0,m,nd,h1,h2,hk=>by
  simp at h1 h2;subst h1;subst h2;show bindC kindOf ((p,w) :: P.zip vs) m p=_;unfold bindC;rw [A7 λv hv=>(lD.mp nd).1 (lM hv).1,ae hk];simp
 | p :: P,w :: vs,i+1,m,nd,h1,h2,hk=>by
  show bindC kindOf ((p,w) :: P.zip vs) m x=_;unfold bindC;exact A9 (i:=i) (lD.mp nd).2 (~~~h1) (~~~h2) hk
def start (N:List Str) (vs:List V):St:=vs.map some++List.replicate (N.length - vs.length) none
def jG (CX:JC) (P:Program) (w:World) (K:Frag) (mg:Str->Option Value) (base:Heap) (N:List Str) (qual:Str) (scope:Scope) (f:Addr) (cd:Value) (A:Around) (outer:List Env) (s:Shared) (H:Hp) (E:XK):Cx where
 prog:=P
 w:=w
 K:=K
 mg:=mg
 base:=base
 A:=A.deeper (envOfC qual scope s.heap.objs.size f cd)
 N:=N
 ra:=s
 LZ:=H
 env:=envOfC qual scope s.heap.objs.size f cd
 outer:=outer
 stack:=envOfC qual scope s.heap.objs.size f cd :: outer
 ex:= []
 calm:=true
 fn:=λ_=>true
 pn:= []
 xe:=λe s'=>wpAny (model P w) (A.deeper (envOfC qual scope s.heap.objs.size f cd)) (noteFrame e (envOfC qual scope s.heap.objs.size f cd)) (λ_ s1=>wpAny (model P w) (A.deeper (envOfC qual scope s.heap.objs.size f cd)) (setFlight e none) (λ_ s''=>CX outer H s E e s'') (λe' s''=>CX outer H s E e' s'') s1) (λe' s''=>CX outer H s E e' s'') s'
def Dd (h:sc.names.lookup x=some .cell):∃c,(cellsFrom n sc.names []).lookup x=some c:=by
 have q:=cellsFrom_some sc.names n [] (.inl h);exact vA.mp q
theorem yJ {cm:Bool} {E:XK} {vs:List V} (S:d_ N ps scope) (hd:cm=true->A.handled=none) (e0:yI P w K mg base A outer s H) (hl:vs.length=ps.length) (r:Vals vs us) (x:InCallC s s.heap.objs.size (bindL (envOfC qual scope s.heap.objs.size f cd).kindOf (ps.zip us) λ_=>none) (cellsFrom (s.heap.objs.size+1) scope.names []) (bindC (envOfC qual scope s.heap.objs.size f cd).kindOf (ps.zip us) λ_=>none) s1):
 Inv {jG CX P w K mg base N qual scope f cd A outer s H E with calm:=cm} [] (start N vs) H s1:=by
 have g6:ps.length<=N.length:=by have:=bq List.length S.pre;rw [il] at this;lia
 ext x.done h1 tk rfl hk;have QA:∀b:Addr,b∉({jG CX P w K mg base N qual scope f cd A outer s H E with calm:=cm}:Cx).ex:=λb z=>absurd (show b∈([]:List Addr) from z) (by simp);exists #[e0.mod,S.kind,U,U,az _,λy z c h1 h2=>?_,λy hy=>?_,λy c _ h=>?_,hd,Around.frames_deeper e0.frames,.inr #[U,U],λb z=>absurd z (QA b),e0.bs,e0.C7,λb _ _=>QA b,λb z=>absurd z (QA b),e0.funs,e0.Gh],
  rfl,e0.bare,Un.kept hk,#[_,x.toInCall.ns,λi y v h1 h2 h3=>?_],λy c h=>#[_,x.cell y c h],e0.bQ.fresh (az _),λy c h=>?_,λp hp=>absurd (show p∈([]:List (Addr×Obj)) from hp) (by simp),e0.bQ.kept hk,?_
 . exact name_of_addr x.apart (mem_of_lookup h1) (mem_of_lookup h2)
 . have hy:scope.names.lookup y=some .cell\/scope.names.lookup y=some .free:=hy;rcases hy with hy | hy
   . exact Dd hy
   . exact absurd rfl (S.Pl _ (mem_of_lookup hy))
 . exact iw (x.above y c (mem_of_lookup h))
 . have hi:i < vs.length:=by
    unfold start at h2;by_cases hi:i < vs.length
    . exact hi
    . rw [vt (~~~hi)] at h2;rw [AJ] at h2;split at h2 <;> cases (h2)
   have ha:vs[i]? = some v:=by
    unfold start at h2;rw [vy (~~~hi),bA] at h2;cases e:vs[i]? with
    | none=>rw [e] at h2;cases (h2)
    | some a=>rw [e] at h2;cases (h2);rfl
   obtain ⟨u,hu,rv⟩:=r.get ha;have hp:ps[i]? = some y:=by
    rw [<-S.pre,List.getElem?_take_of_lt (by lia)];exact h1
   have Wo:ps.Nodup:=by rw [<-S.pre];exact S.nd.sublist (List.take_sublist _ _)
   exists u,rv,?_;rcases S.par y (bc hp) with k | k
   . exact .inl #[k,A8 Wo hp hu k]
   . obtain ⟨c,e⟩:=Dd (n:=s.heap.objs.size+1) k;refine .inr #[.inl k,c,e,?_];have q:=x.cell y c e;rw [A9 Wo hp hu (by show scope.names.lookup y≠_;rw [k];decide)] at q;exact q
 . exact e0.bQ.fresh (iw (x.above y c (mem_of_lookup h)))
 . unfold start;show _=N.length;rw [ao,aB,AT];lia
def A_ {E:XK} {vs:List V} (S:d_ N ps scope) (hd:A.handled=none) (e0:yI P w K mg base A outer s H) (hl:vs.length=ps.length) (r:Vals vs us) (x:InCallC s s.heap.objs.size (bindL (envOfC qual scope s.heap.objs.size f cd).kindOf (ps.zip us) λ_=>none) (cellsFrom (s.heap.objs.size+1) scope.names []) (bindC (envOfC qual scope s.heap.objs.size f cd).kindOf (ps.zip us) λ_=>none) s1):
 Inv (jG CX P w K mg base N qual scope f cd A outer s H E) [] (start N vs) H s1:=
 yJ (cm:=true) S (λ_=>hd) e0 hl r x
def N4 {k:Nat} {name:Str} {params:Arguments} {dV kV doc pm ct oc:Value} {an od:Option Addr} {osl:Array (Option Value)} (lk:K.lookup f=some #[oc,od,.func (fnOf name qual params body scope dV kV doc pm an eB ct),osl]) (hcd:codeIn K eB qual=true) (S:d_ N ps scope) (len:∀vs H Q E,sp vs H Q E->vs.length=ps.length) (hbody:∀(A:Around) (outer:List Env) (s:Shared) (H:Hp) (vs:List V) (Q:VK) (E:XK),cY k (A.deeper (envOfC qual scope s.heap.objs.size f eB))->sp vs H Q E->
 ∃t,tR (jG CX P w K mg base N qual scope f eB A outer s H E) body t/\t (Ends.fin Q) (start N vs) H):
 jg P w K mg base CX (k+1) f (fnOf name qual params body scope dV kV doc pm an eB ct) ps sp:=by
 exists len,λA outer s H args us vs Q E hr e0 hb r hsp=>?_;have hl:=len _ _ _ _ hsp;have KX:K.In s.heap:=e0.mod.Mg.keeps λb o e=>(e0.bs b o e).1;have lim:s.heap.NoLimit:=e0.mod.nolimit.keeps λb o e=>(e0.bs b o e).1;have hkind:∀y∈ps.zip us,scope.names.lookup y.1=some .local\/(scope.names.lookup y.1=some .cell/\((cellsFrom (s.heap.objs.size+1) scope.names []).lookup y.1).isSome=true):=λ#[n,v] hy=>by
  rcases S.par n (lM hy).1 with q | q
  . exact .inl q
  . exact .inr #[q,cellsFrom_some _ _ _ (.inl q)]
 refine vG hr.depth (KX _ _ lk) rfl S.co S.gen rfl (codeRec_of KX hcd) (hb _ _ _ _ ?_);refine vw S.kind hkind λenv he s1 x=>?_;subst he;exists lim.keeps x.toInCall.keep,codeAny_func ?_;obtain ⟨t,ht,hq⟩:=hbody A outer s H vs Q E (hr.deeper _) hsp;have I:Inv (jG CX P w K mg base N qual scope f eB A outer s H E) [] (start N vs) H s1:=A_ S hr.hd e0 hl r x;refine bT (ht [] s1 (start N vs) H _ I hq) (λfl s' hs=>?_) λe s' hs=>aw hs;have fin:∀{Z':St} {H':Hp} {v:V} {u:Value},Inv (jG CX P w K mg base N qual scope f eB A outer s H E) [] Z' H' s'->RelV v u->Q v H'->CE outer P w H s Q u s':=
  λ{Z' H' v u} J rv q=>#[v,H',J.os,J.bare,J.base,J.bQ,rv,q]
 cases fl with
 | ret u=>
  ext hs v Z' H' J rv q;exact fin J rv q
 | next=>
  ext hs Z' H' J q;exact fin (v:=V.cx) (u:=Value.none) J rfl q
 | brk=>
  ext hs _ _ _ q;exact False.elim q
 | cont=>
  ext hs _ _ _ q;exact False.elim q
section
variable {t:TA} {id:String} {r:List V->Hp->VK->Prop}
def Wq (r:List V->Hp->VK->Prop) (t:TA):TE:=λZ H Q=>t Z H ((λ(r:List V->Hp->VK->Prop) (Q:VK) (vs:List V) (H1:Hp)=>r vs H1 Q) r Q)
def aM (hc:gu X (.builtin id) r) (ha:PA X (e :: es) t) (hg:Gl X x:=by exact rfl) (hm:X.mg x=none:=by walk_at "m") (hv:bootBuiltins x=some (.builtin id):=by first | rfl | exact boot_len) (hn:x≠ "__name__" :=by decide) (hdb:(x == ("__debug__" :Str))=false:=by decide) (he:starEach (e :: es) X.env=(false,eval e X.env) :: starEach es X.env:=by rfl) (g6:(backTo pos (starEach es X.env)).any (·.1)=false:=by rfl):PE X (.Call (.Name x p) (e :: es) [] pos) (Wq r t):=by
 intro pN s Z H Q I h;refine ik (yy I hg hm hv ?_ hn hdb);exact callWith_builtin1 (dY (ha pos pN s Z H _ I h) λus s1 #[vs,H1,I1,r1,q1]=>hc pN s1 Z H1 vs us Q I1 r1 q1) he g6
def cr (hc:gu X (.type T) r) (ha:PA X (e :: es) t) (hg:Gl X x:=by exact rfl) (hm:X.mg x=none:=by walk_at "m") (hv:bootBuiltins x=some (.type T):=by first | rfl | exact boot_len) (hn:x≠ "__name__" :=by decide) (hdb:(x == ("__debug__" :Str))=false:=by decide) (he:starEach (e :: es) X.env=(false,eval e X.env) :: starEach es X.env:=by rfl) (g6:(backTo pos (starEach es X.env)).any (·.1)=false:=by rfl):PE X (.Call (.Name x p) (e :: es) [] pos) (Wq r t):=by
 intro pN s Z H Q I h;refine ik (yy I hg hm hv ?_ hn hdb);exact callWith_type1 (dY (ha pos pN s Z H _ I h) λus s1 #[vs,H1,I1,r1,q1]=>hc pN s1 Z H1 vs us Q I1 r1 q1) he g6
end
abbrev TO:=St->Hp->(Option Int->Hp->Prop)->Prop
def PO (X:Cx) (e:Option Expr) (t:TO):Prop:=
 ∀(pN:List (Addr×Obj)) (s:Shared) (Z:St) (H:Hp) (Q:Option Int->Hp->Prop),Inv X pN Z H s->t Z H Q->
  wpAny (model X.prog X.w) X.A (evalPart e X.env) (λu s'=> ∃o H',Inv X pN Z H' s'/\IsPart u o/\Q o H') X.xe s
def Mt:TO:=λ_ H Q=>Q none H
def Rr (t:TE):TO:=λZ H Q=>t Z H λx H1=> ∃i,x= .int i/\Q (some i) H1
section
variable {lo hi:Option Expr} {tl th:TO}
def Mu:PO X none Mt:=by
 intro pN s Z H Q I h;rw [evalPart_none];exact bo #[none,H,I,.none,h]
def m4 (h:PE X e te):PO X (some e) (Rr te):=by
 intro pN s Z H Q I hw;rw [evalPart_some];refine dY (h pN s Z H _ I hw) λu s1 #[x,H1,I1,r1,q1]=>?_;ext q1 i rfl q;ext r1 t rfl;exists some i,H1,I1,.int i t,q
def QB (X:Cx) (r:V->Option Int->Option Int->Hp->VK->Prop):Prop:=
 ∀(pN:List (Addr×Obj)) (s:Shared) (Z:St) (H:Hp) (x:V) (v vl vu:Value) (lo hi:Option Int) (sl:Addr) (Q:VK),Inv X pN Z H s->RelV x v->s.heap.IsSliceOf sl vl vu .none->IsPart vl lo->IsPart vu hi->r x lo hi H Q->
  ∃T id,typeLookup (.type T) "__getitem__" = pure (some (.builtin id))/\s.TypeIs v T/\wpAny (model X.prog X.w) X.A (getItem v (.ref sl)) (EP X pN Z Q) X.xe s
def QB.or {r r':V->Option Int->Option Int->Hp->VK->Prop} (h:QB X r) (h':QB X r'):QB X (λx lo hi H Q=>r x lo hi H Q\/r' x lo hi H Q):=by
 intro pN s Z H x v vl vu lo hi sl Q I rx hs pl pu q;rcases q with q | q
 . exact h pN s Z H x v vl vu lo hi sl Q I rx hs pl pu q
 . exact h' pN s Z H x v vl vu lo hi sl Q I rx hs pl pu q
def XA (r:V->Option Int->Option Int->Hp->VK->Prop) (te:TE) (tl th:TO):TE:=λZ H Q=>te Z H λx H1=>tl Z H1 λl H2=>th Z H2 λu H3=>r x l u H3 Q
def tX {r:V->Option Int->Option Int->Hp->VK->Prop} (hr:QB X r) (he:PE X e te) (hl:PO X lo tl) (hu:PO X hi th):PE X (.Subscript e (.Slice lo hi none p2) pos) (XA r te tl th):=by
 intro pN s Z H Q I h;refine Subscript_ (dY (he pN s Z H _ I h) λv s1 #[x,H1,I1,r1,q1]=>?_);refine wpAny_Slice (dY (hl pN s1 Z H1 _ I1 q1) λvl s2 #[l,H2,I2,pl,q2]=>dY (hu pN s2 Z H2 _ I2 q2) λvu s3 #[u,H3,I3,pu,q3]=>?_);rw [evalPart_none];refine bo ?_;have I4:Inv X pN Z H3 {s3 with heap:=s3.heap.push {cls:= .type "slice",data:= .fields (List.toArray [vl,vu,.none])}}:=I3.kept (t':=s3.toks) λb ob q=>bK _ q;obtain ⟨T,id,hT,ht,hg⟩:=hr pN {s3 with heap:=s3.heap.push {cls:= .type "slice",data:= .fields (List.toArray [vl,vu,.none])}} Z H3 x v vl vu l u s3.heap.objs.size Q I4 r1 (Heap.IsSliceOf.new ..) pl pu q3;show wpAny (model X.prog X.w) X.A (subscriptTail e (.Slice lo hi none p2) v (.ref s3.heap.objs.size)) (EP X pN Z Q) X.xe {s3 with heap:=s3.heap.push {cls:= .type "slice",data:= .fields (List.toArray [vl,vu,.none])}};exact tail_any (ops:= [.ref s3.heap.objs.size,v]) ht hT hg (by with_unfolding_all rfl)
def ww (xs:List V) (lo hi:Option Int):List V:=(xs.drop (HT.EC xs.length 0 lo)).take (HT.EC xs.length xs.length hi - HT.EC xs.length 0 lo)
theorem De (xs:List V) (lo hi:Option Int):(ww xs lo hi).length<=xs.length:=by
 unfold ww;rw [il,cS];omega
end
noncomputable def QC (n:Nat) (i:Int):Option Nat:=if 0<=i then (if i < n then some i.toNat else none) else if -(n:Int)<=i then some (i+n).toNat else none
def E5 {α:Type} (xs:List α) (i:Int):Option α:=(QC xs.length i).bind λj=>xs[j]?
theorem Mv {i:Int} (h:QC n i=some j):seqIndex? i n=some j/\j < n/\ -(n:Int)<=i/\i < n:=by
 unfold QC at h;by_cases h0:0<=i
 . rw [ah h0] at h;by_cases h1:i < n
   . rw [ah h1] at h;have e:i.toNat=j:=bE h;exists by rw [seqIndex_of h0 h1,e],by lia,by lia,h1
   . rw [ae h1] at h;cases h
 . rw [ae h0] at h;by_cases h1: -(n:Int)<=i
   . rw [ah h1] at h;have e:(i+n).toNat=j:=bE h;exists by rw [seqIndex_neg (by lia) h1,e],by lia,h1,by lia
   . rw [ae h1] at h;cases h
def BU {xs:List α} {i:Int} {v:α} (h:E5 xs i=some v):∃j,seqIndex? i xs.length=some j/\xs[j]? = some v/\j < xs.length/\ -(xs.length:Int)<=i/\i < xs.length:=by
 unfold E5 at h;cases e:QC xs.length i with
 | none=>rw [e] at h;cases h
 | some j=>
  rw [e] at h;obtain ⟨h1,h2,h3,h4⟩:=Mv e;exists j,h1,h,h2,h3,h4
theorem BV {xs:List α} {v:α} (h:xs[j]? = some v):E5 xs (j:Int)=some v:=by
 have hj:j < xs.length:=(bj.mp h).1;have e:QC xs.length (j:Int)=some j:=by
  unfold QC;rw [ah (by lia),ah (by lia)];simp
 unfold E5;rw [e];exact h
def Mw (b:Expr):= ∀o i,subscripted b false o i=operate [o,i] (getItem o i)
def Mx (X:Cx) (r:R2):Prop:=
 ∀(value slice:Expr) (pN:List (Addr×Obj)) (s:Shared) (Z:St) (H:Hp) (x y:V) (v u:Value) (Q:VK),Inv X pN Z H s->RelV x v->RelV y u->r x y H Q->
  subscripted slice false v u=operate [v,u] (getItem v u)->wpAny (model X.prog X.w) X.A (subscriptTail value slice v u) (EP X pN Z Q) X.xe s
def L1 (X:Cx) (id:String) (r:V->List V->Hp->VK->Prop):Prop:=
 ∀(pN:List (Addr×Obj)) (s:Shared) (Z:St) (H:Hp) (x:V) (xs:List V) (v:Value) (us:List Value) (Q:VK),Inv X pN Z H s->RelV x v->Vals xs us->r x xs H Q->
  wpAny (model X.prog X.w) X.A (call (.builtin id) (v :: us)) (EP X pN Z Q) X.xe s
section
variable {a b:Expr}
def Mx.or {r':R2} (h:Mx X r) (h':Mx X r'):Mx X (λx y H Q=>r x y H Q\/r' x y H Q):=by
 intro value slice pN s Z H x y v u Q I rx ry q hs;rcases q with q | q
 . exact h value slice pN s Z H x y v u Q I rx ry q hs
 . exact h' value slice pN s Z H x y v u Q I rx ry q hs
def L1.or {id:String} {r r':V->List V->Hp->VK->Prop} (h:L1 X id r) (h':L1 X id r'):L1 X id (λx xs H Q=>r x xs H Q\/r' x xs H Q):=by
 intro pN s Z H x xs v us Q I rx rs q;rcases q with q | q
 . exact h pN s Z H x xs v us Q I rx rs q
 . exact h' pN s Z H x xs v us Q I rx rs q
def N5 (hr:Mx X r) (ha:PE X a ta) (hb:PE X b tb) (hs:Mw b:=by exact λ_ _=>rfl):PE X (.Subscript a b pos) (Tq r ta tb):=by
 intro pN s Z H Q I h;exact Subscript_ (Pa ha hb I h λv u s2 x y H2 I2 rx ry q=>hr a b pN s2 Z H2 x y v u Q I2 rx ry q (hs _ _))
inductive Rs (K:Frag) (x y:V) (H:Hp) (Q:VK):Prop | mk p xs i v (_:x= .ref p) (_:y= .int i) (_:cw K H p xs) (_:E5 xs i=some v) (_:Q v H):Rs K x y H Q
inductive Pn (K:Frag) (x y:V) (H:Hp) (Q:VK):Prop | mk p xs i v (_:x= .ref p) (_:y= .int i) (_:g9 K H p xs) (_:E5 xs i=some v) (_:Q v H):Pn K x y H Q
def UW:R2:=λx y H Q=> ∃z i c,x= .str z/\y= .int i/\z.length<=sizeLine/\E5 z.cps.toList i=some c/\Q (.str ⟨(List.toArray [c])⟩) H
theorem bR:Mx X (Rs X.K):=by
 intro value slice pN s Z H x y v u Q I rx ry h hs;ext h p xs i z rfl rfl hq he q;cases rx;ext ry t rfl;obtain ⟨bU,r,pl,hz⟩:=I.list hq;obtain ⟨j,h1,h2,h3,h4,h5⟩:=BU he;obtain ⟨w,ew,JF⟩:=r.get h2;have hl:=r.length;have hn:=wo;have fin:EP X pN Z Q w s:=#[z,H,I,JF,q];by_cases h0:0<=i
 . have hj:i.toNat=j:=by
    rw [seqIndex_of h0 h5] at h1;exact bE h1
   exact item_listR pl.isList h0 (by lia) (by rw [hj];simpa using ew) fin hs
 . have hj:(i+(bU.toArray.size:Int)).toNat=j:=by
    rw [seqIndex_neg (by lia) h4] at h1;rw [cb,<-hl];exact bE h1
   exact subscriptTail_builtinR (x:=w) pl.isList.typeIs slot_list_getitem.lookup
    (wpAny_getItem_list_neg (Q:=λr s'=>r=w/\EP X pN Z Q r s') pl.isList (by lia) (by rw [cb] <;> lia) (by lia) (by rw [hj];simpa using ew) #[rfl,fin]) hs
theorem gG:Mx X (Pn X.K):=by
 intro value slice pN s Z H x y v u Q I rx ry h hs;ext h p xs i z rfl rfl hq he q;cases rx;ext ry t rfl;obtain ⟨bU,r,pl,hz⟩:=I.tuple hq;obtain ⟨j,h1,h2,h3,h4,h5⟩:=BU he;obtain ⟨w,ew,JF⟩:=r.get h2;have hl:=r.length;have hn:=wo;have fin:EP X pN Z Q w s:=#[z,H,I,JF,q];exact subscriptTail_builtinR (x:=w) pl.typeIs slot_tuple_getitem.lookup
  (getItem_tuple (j:=j) (Q:=λr s'=>r=w/\EP X pN Z Q r s') pl (by lia) (by lia) (by rw [cb,<-hl];exact h1) (~~~ew) #[rfl,fin]) hs
theorem E6:Mx X UW:=by
 intro value slice pN s Z H x y v u Q I rx ry h hs;ext h z i c rfl rfl hz he q;ext rx t rfl;ext ry t' rfl;obtain ⟨j,h1,h2,h3,h4,h5⟩:=BU he;have hl:z.cps.toList.length=z.length:=by simp [Str.length]
 rw [hl] at h1 h4 h5;have hn:=wo;exact tail_any (typeIs_str s z t) slot_str_getitem.lookup (getItem_str (c:=c) (by
  have e1:decide (i < -(2 ^ 63:Int))=false:=dG (by lia);have e2:decide (i>=2 ^ 63)=false:=dG (by lia);rw [e1,e2,ir]) (by rw [h1];simpa using h2) #[.str ⟨(List.toArray [c])⟩,H,I.tok _,#[_,rfl],q]) hs
def Inv.lst {p:Addr} (I:Inv X pN Z H s) (h:H p=some (.lst xs)):
 ∃(bU:List Value) (n:Nat),Vals xs bU/\s.heap.get? p=some {cls:= .type "list",data:= .seq bU.toArray n}/\xs.length<=sizeLine:=by
 obtain ⟨z,bU,n,r,e⟩:=I.bQ p _ h;exists bU,n,r,e,z
theorem BW (lo hi:Option Int) (n:Nat):(sliceBounds lo hi none n).1=((HT.EC n 0 lo:Nat):Int)/\(sliceBounds lo hi none n).2.1=((HT.EC n n hi:Nat):Int)/\(sliceBounds lo hi none n).2.2=1:=by
 exists ?_,?_,U
 . cases lo with
   | none=>simp [sliceBounds,HT.EC]
   | some i=>
    simp only [sliceBounds,HT.EC,Option.getD_none,show (1:Int) > 0 by decide,gn];by_cases h:i < 0
    . simp only [h,gn] <;> lia
    . simp only [h,jt] <;> lia
 . cases hi with
   | none=>simp [sliceBounds,HT.EC]
   | some i=>
    simp only [sliceBounds,HT.EC,Option.getD_none,show (1:Int) > 0 by decide,gn];by_cases h:i < 0
    . simp only [h,gn] <;> lia
    . simp only [h,jt] <;> lia
def Am (bU:List Value) (lo hi:Option Int):slicePick bU.toArray lo hi none=((bU.drop (HT.EC bU.length 0 lo)).take (HT.EC bU.length bU.length hi - HT.EC bU.length 0 lo)).toArray:=by
 obtain ⟨h1,h2,h3⟩:=BW lo hi bU.toArray.size;unfold slicePick;rw [h1,h2,h3];simp only [sliceRange_one,pick_run,cb] <;> rfl
def UX (K:Frag):V->Option Int->Option Int->Hp->VK->Prop:=λx lo hi H Q=> ∃a xs,x= .ref a/\cw K H a xs/\∀p,H p=none->Q (.ref p) (upd H p (.lst (ww xs lo hi)))
theorem ye:QB X (UX X.K):=by
 intro pN s Z H x v vl vu lo hi sl Q I rx hs pl pu h;ext h a xs rfl hx q;cases rx;obtain ⟨bU,r,ht,hz⟩:=I.list hx;have hlen:=r.length;exists "list",_,slot_list_getitem.lookup,ht.isList.typeIs,?_;refine wpAny_getItem_list_slice ht.isList hs pl pu .none (by simp) ?_ (by rw [cb] <;> lia);rw [Am,<-hlen];exists .ref s.heap.objs.size,_,I.laid (t':=s.toks) (o:= .lst (ww xs lo hi)) (λb ob q=>bK _ q) (az _) ?_,U,q _ (I.bQ.fresh (az _));exists aP (De xs lo hi) hz,_,0,(r.drop (HT.EC xs.length 0 lo)).take (HT.EC xs.length xs.length hi - HT.EC xs.length 0 lo),cJ _ U
def i_:V->Bool
 | .cx=>true
 | .bl _=>true
 | .int _=>true
 | .str _=>true
 | _=>false
def IY:V->V->Bool
 | .cx,.cx=>true
 | .bl a,.bl b=>a == b
 | .bl a,.int b=>(if a then 1 else 0) == b
 | .int a,.bl b=>a == (if b then 1 else 0)
 | .int a,.int b=>a == b
 | .str a,.str b=>a == b
 | _,_=>false
def Pp {x:V} {v:Value} (ry:RelV y u) (rx:RelV x v) (fy:i_ y=true) (fx:i_ x=true):SeqAt.EqAt A s u v (IY y x):=by
 cases y with
 | cx=>
  cases ry;cases x with
  | cx=>cases rx;exact SeqAt.EqAt.same _
  | bl b=>cases rx;exact SeqAt.EqAt.none_bool b
  | int b=>ext rx t rfl;exact SeqAt.EqAt.none_int b t
  | str b=>ext rx t rfl;exact SeqAt.EqAt.none_str b t
  | _=>exact absurd (show false=true from fx) aO
 | bl a=>
  cases ry;cases x with
  | cx=>cases rx;exact SeqAt.EqAt.bool_none a
  | bl b=>cases rx;exact SeqAt.EqAt.bool_bool a b
  | int b=>ext rx t rfl;exact SeqAt.EqAt.bool_int a b t
  | str b=>ext rx t rfl;exact SeqAt.EqAt.bool_str a b t
  | _=>exact absurd (show false=true from fx) aO
 | int a=>
  ext ry t' rfl;cases x with
  | cx=>cases rx;exact SeqAt.EqAt.int_none a t'
  | bl b=>cases rx;exact SeqAt.EqAt.int_bool a t' b
  | int b=>ext rx t rfl;exact SeqAt.EqAt.int_int a t' b t
  | str b=>ext rx t rfl;exact SeqAt.EqAt.int_str a t' b t
  | _=>exact absurd (show false=true from fx) aO
 | str a=>
  ext ry t' rfl;cases x with
  | cx=>cases rx;exact SeqAt.EqAt.str_none a t'
  | bl b=>cases rx;exact SeqAt.EqAt.str_bool a t' b
  | int b=>ext rx t rfl;exact SeqAt.EqAt.str_int a t' b t
  | str b=>ext rx t rfl;exact SeqAt.EqAt.str_str a t' b t
  | _=>exact absurd (show false=true from fx) aO
 | _=>exact absurd (show false=true from fy) aO
def EF (x:V) (u:Value):Bool:=match u with
 | .none=>IY .cx x
 | .bool b=>IY (.bl b) x
 | .int i _=>IY (.int i) x
 | .str z _=>IY (.str z) x
 | _=>false
def BZ {x:V} (r:RelV y u) (f:i_ y=true):EF x u=IY y x:=by
 cases y with
 | cx=>cases r;rfl
 | bl b=>cases r;rfl
 | int i=>ext r t rfl;rfl
 | str z=>ext r t rfl;rfl
 | _=>exact absurd (show false=true from f) aO
theorem tY {x:V}:∀{xs:List V} {us:List Value},Vals xs us->xs.all i_=true->us.any (EF x)=xs.any λy=>IY y x
 | _,_,.nil,_=>rfl
 | y :: xs,u :: us,.cons r t,f=>by
  rw [jp,c5] at f;rw [jq,jq,BZ r f.1,tY t f.2]
theorem l_ {x:V} {v:Value} (rx:RelV x v) (fx:i_ x=true):∀{xs:List V} {us:List Value},Vals xs us->xs.all i_=true->∀u∈us,SeqAt.EqAt A s u v (EF x u)
 | _,_,.nil,_=>λu hu=>by cases hu
 | y :: xs,u :: us,.cons r t,f=>λu' hu=>by
  rw [jp,c5] at f;rcases aF.mp hu with rfl | hu
  . rw [BZ r f.1];exact Pp r rx f.1 fx
  . exact l_ rx fx t f.2 u' hu
def inV (x:V) (xs:List V):Bool:=xs.any λy=>IY y x
inductive UY (K:Frag) (neg:Bool) (x y:V) (H:Hp) (Q:VK):Prop | mk p xs (_:y= .ref p) (_:cw K H p xs\/g9 K H p xs) (_:i_ x=true) (_:xs.all i_=true) (_:Q (.bl (if neg then !inV x xs else inV x xs)) H):UY K neg x y H Q
def eD:rO X (compareOp .In) (UY X.K false):=by
 intro pN s Z H x y v u Q I rx ry h;ext h p xs rfl hq fx fs q;cases ry;rcases hq with hq | hq
 . obtain ⟨bU,r,pl,hz⟩:=I.list hq;refine SeqAt.in_listAt (EF x) pl.isList (λw hw=>l_ rx fx r fs w (~~~hw)) #[.bl _,H,I,rfl,?_];rw [show bU.toArray.any (EF x)=bU.any (EF x) by simp,tY r fs];exact q
 . obtain ⟨bU,r,pl,hz⟩:=I.tuple hq;refine SeqAt.in_tupleAt (EF x) pl (λw hw=>l_ rx fx r fs w (~~~hw)) #[.bl _,H,I,rfl,?_];rw [show bU.toArray.any (EF x)=bU.any (EF x) by simp,tY r fs];exact q
def m5:rO X (compareOp .NotIn) (UY X.K true):=by
 intro pN s Z H x y v u Q I rx ry h;ext h p xs rfl hq fx fs q;cases ry;rcases hq with hq | hq
 . obtain ⟨bU,r,pl,hz⟩:=I.list hq;refine SeqAt.notIn_listAt (EF x) pl.isList (λw hw=>l_ rx fx r fs w (~~~hw)) #[.bl _,H,I,rfl,?_];rw [show bU.toArray.any (EF x)=bU.any (EF x) by simp,tY r fs];exact q
 . obtain ⟨bU,r,pl,hz⟩:=I.tuple hq;refine SeqAt.notIn_tupleAt (EF x) pl (λw hw=>l_ rx fx r fs w (~~~hw)) #[.bl _,H,I,rfl,?_];rw [show bU.toArray.any (EF x)=bU.any (EF x) by simp,tY r fs];exact q
theorem aJ:gu X (.builtin "len") (λxs H Q=> ∃p ys,xs= [.ref p]/\(cw X.K H p ys\/g9 X.K H p ys)/\Q (.int ys.length) H):=by
 intro pN s Z H xs us Q I r h;ext h p ys rfl hq q;obtain ⟨u,rfl,rx⟩:=vals1 r;cases rx;have hn:=wo;rcases hq with hq | hq
 . obtain ⟨bU,r',pl,hz⟩:=I.list hq;have hlen:=r'.length;exact Calls.call_len_list pl.isList (by simp only [cb] <;> lia) #[.int ys.length,H,I.tok _,#[s.toks+1,by rw [cb,hlen]],q]
 . obtain ⟨bU,r',pl,hz⟩:=I.tuple hq;have hlen:=r'.length;exact len_tuple pl (by simp only [cb] <;> lia) #[.int ys.length,H,I.tok _,#[s.toks+1,by rw [cb,hlen]],q]
theorem m6:gu X (.builtin "len") (λxs H Q=> ∃z,xs= [.str z]/\z.length<=sizeLine/\Q (.int z.length) H):=by
 intro pN s Z H xs us Q I r h;ext h z rfl hz q;obtain ⟨u,rfl,t,rfl⟩:=vals1 r;have hn:=wo;exact len_str (by lia) #[.int z.length,H,I.tok _,#[_,rfl],q]
def gu.or {f:Value} {r r':List V->Hp->VK->Prop} (h:gu X f r) (h':gu X f r'):gu X f (λxs H Q=>r xs H Q\/r' xs H Q):=by
 intro pN s Z H xs us Q I rs q;rcases q with q | q
 . exact h pN s Z H xs us Q I rs q
 . exact h' pN s Z H xs us Q I rs q
theorem fo:gu X (.type "list") (λxs H Q=> ∃p ys,xs= [.ref p]/\(cw X.K H p ys\/g9 X.K H p ys)/\∀l,H l=none->Q (.ref l) (upd H l (.lst ys))):=by
 intro pN s Z H xs us Q I r h;ext h p ys rfl hq q;obtain ⟨u,rfl,rx⟩:=vals1 r;cases rx;have fin:∀(bU:List Value),Vals ys bU->ys.length<=sizeLine->∀(h':Heap) (c':Nat),(∀b o',s.heap.get? b=some o'->h'.get? b=some o')->
  h'.get? s.heap.objs.size=some {cls:= .type "list",dict:=none,data:= .seq bU.toArray c',slots:= #[]}->EP X pN Z Q (.ref s.heap.objs.size) {s with heap:=h'}:=λbU r' hz h' c' kp e=>
  #[.ref s.heap.objs.size,_,I.laid (t':=s.toks) kp (az _) (show dc X.prog X.w _ h' _ (.lst ys) from #[hz,bU,c',r',e]),rfl,q _ (I.bQ.fresh (az _))]
 rcases hq with hq | hq
 . obtain ⟨bU,r',pl,hz⟩:=I.list hq;have hlen:=r'.length;ext pl.isList o ho hc n hd;exact call_list_seq p (.inl rfl) ho hc hd (λh' c' kp e=>fin bU r' hz h' c' kp e) (by simp only [cb] <;> lia)
 . obtain ⟨bU,r',pl,hz⟩:=I.tuple hq;have hlen:=r'.length;ext pl o ho hc n hd;exact call_list_seq p (.inr rfl) ho hc hd (λh' c' kp e=>fin bU r' hz h' c' kp e) (by simp only [cb] <;> lia)
def Tr (K:Frag) (T:String) (x:V) (H:Hp):Prop:=match x with
 | .str _=>T= "str"
 | .int _=>T= "int"
 | .ref p=>(T= "list" /\∃xs,cw K H p xs)\/(T= "tuple" /\∃o,K.lookup p=some o/\o.cls= .type "tuple" /\o.dict=none)\/
  (T= "dict" /\((∃aG,H p=some (.dK aG))\/∃aG,H p=some (.dT aG)))\/(T= "set" /\∃S n,H p=some (.set S n))
 | _=>False
def Pq {x:V} {v:Value} (I:Inv X pN Z H s) (r:RelV x v) (ty:Tr X.K T x H):
 s.TypeIs v T/\∀a,v= .ref a->∃ob,s.heap.get? a=some ob/\ob.dict=none:=by
 cases x with
 | str z=>
  ext r t rfl;cases (show T= "str" from ty);exists typeIs_str s z t,λ_ e=>nomatch e
 | int i=>
  ext r t rfl;cases (show T= "int" from ty);exists typeIs_int s i t,λ_ e=>nomatch e
 | ref p=>
  cases r;rcases ty with ⟨rfl,xs,hq⟩ | ⟨rfl,o,hk,hc,hd⟩ | ⟨rfl,hk⟩ | ⟨rfl,S,n,hk⟩
  . obtain ⟨bU,_,pl,_⟩:=I.list hq;exists pl.isList.typeIs,λa e=>?_;cases e;ext pl o n e c hd _;exists o,e,hd
  . exists #[o,I.lY p o hk,hc],λa e=>?_;cases e;exists o,I.lY _ o hk,hd
  . have z:∃o,s.heap.get? p=some o/\o.ExactDict:=by
     rcases hk with ⟨aG,hk⟩ | ⟨aG,hk⟩
     . obtain ⟨_,_,_,_,o,_,_,e,ex,_⟩:=I.bQ p _ hk;exists o,e,ex
     . obtain ⟨_,_,_,_,o,_,_,e,ex,_⟩:=I.bQ p _ hk;exists o,e,ex
    ext z o e ex;exists #[o,e,ex.1],λa e2=>?_;cases e2;exists o,e,ex.2.1
  . obtain ⟨o,_,_,_,e,ex,_⟩:=I.bQ p _ hk;exists #[o,e,ex.1],λa e2=>?_;cases e2;exists o,e,ex.2.1
 | _=>exact False.elim ty
def Wr (K:Frag) (T:String) (r:V->List V->Hp->VK->Prop) (to:TE) (t:TA):TE:=λZ H Q=>to Z H ((λ(K:Frag) (T:String) (r:V->List V->Hp->VK->Prop) (t:TA) (Z:St) (Q:VK) (x:V) (H1:Hp)=>Tr K T x H1/\t Z H1 ((λ(r:V->List V->Hp->VK->Prop) (Q:VK) (x:V) (xs:List V) (H2:Hp)=>r x xs H2 Q) r Q x)) K T r t Z Q)
variable {o:Expr} {to:TE} {t:TA} {name:Str} {id:String} {r:V->List V->Hp->VK->Prop}
def cH (hm:L1 X id r) (ho:PE X o to) (ha:PA X (e :: es) t) (pa:PlainAttrs T:=by exact vB) (slot:Slot T name id:=by first | with_reducible exact PySem.F.slot_list_append | with_reducible exact PySem.F.slot_list_extend) (hty:typeOf (.builtin id)=pure (.type "method_descriptor"):=by first | with_reducible exact PySem.F.type_list_append | with_reducible exact PySem.F.type_list_extend) (hbase:attributeBase o name X.env (eval o X.env)=eval o X.env:=by rfl) (hfew:((backTo eU (starEach (e :: es) X.env)).all (λx=>!x.1) && (backToKw eU (keywordEach [] X.env)).all (λx=>x.1.isSome)
 && decide ((e :: es).length+([]:List Keyword).length+(if ([]:List Keyword).isEmpty then 0 else 1) < 30))=true:=by rfl) (hline:(apos.endLine == eU.line)=true:=by rfl) (hs:starEach (e :: es) X.env=(false,eval e X.env) :: starEach es X.env:=by rfl) (hplain:(backTo eU (starEach es X.env)).any (·.1)=false:=by rfl):
  PE X (.Call (.Attribute o name apos) (e :: es) [] eU) (Wr X.K T r to t):=by
  intro pN s Z H Q I h;refine wpAny_Call_method_late hbase hfew hline rfl (dY (ho pN s Z H _ I h) λv s1 hZ=>?_);ext hZ x H1 I1 r1 ty q1;obtain ⟨h1,h2⟩:=Pq I1 r1 ty;exists T,id,pa,slot,hty,h1,h2,?_;have hA:=ha eU pN s1 Z H1 _ I1 q1;rw [hs] at hA ⊢;refine Calls.callWith_builtin (by show (false || (backTo eU (starEach es X.env)).any (·.1))=false;rw [hplain] <;> rfl) (Calls.evalArgs_plain ?_);exact dY hA λus s2 #[vs,H2,I2,r2,q2]=>hm pN s2 Z H2 x vs v us Q I2 r1 r2 q2
end
def Ws (X:Cx) (id:String) (r:V->List V->Hp->VK->Prop):Prop:=
 ∀(pN:List (Addr×Obj)) (s:Shared) (Z:St) (H:Hp) (x:V) (xs:List V) (v:Value) (us:List Value) (Q:VK),Inv X pN Z H s->RelV x v->Vals xs us->r x xs H Q->
  wpAny (model X.prog X.w) X.A (call (.builtin id) (v :: us)) (EP X pN Z Q) X.xe s
def Vals.one {x:V} (h:Vals [x] us):∃u,us= [u]/\RelV x u:=by
 cases h with | cons r t=>cases t with | nil=>exists _,U,r
def Vals.zero:∀{us:List Value},Vals [] us->us= []
 | _,.nil=>rfl
section
variable {zs:List V}
def Inv.Rt {its':List Value} {f:Array Value->Array Value} (I:Inv X pN Z H s) (hH:H l=some (.lst xs)) (e:s.heap.get? l=some {cls:= .type "list",data:= .seq bU.toArray n}) (hf:f bU.toArray=its'.toArray) (hv:Vals ys its') (hz:ys.length<=sizeLine):
 Inv X pN Z (upd H l (.lst ys)) {s with heap:=s.heap.update l (Obj.mapSeq f),toks:=t'}:=by
 have q:=IsL.update e f;rw [hf] at q;refine I.write (x:=l) (e:=l) (by rw [hH];exact trivial) (.inl rfl) (λb' u hb hu=>(jx s.heap (Obj.mapSeq f) (bX hb)).trans hu) #[_,q] ?_;exists hz,its',_,hv,q
def Inv.UZ (I:Inv X pN Z H s) (hv:Vals ys bU) (hz:ys.length<=sizeLine):
 Inv X pN Z (upd H s.heap.objs.size (.lst ys)) {s with heap:=s.heap.push {cls:= .type "list",data:= .seq bU.toArray},toks:=t'}:=
 I.laid (λ_ _ q=>bK _ q) (az _) #[hz,bU,0,hv,cJ _ rfl]
def Inv.fresh (I:Inv X pN Z H s):H s.heap.objs.size=none:=I.bQ.fresh (az _)
def Inv.My (I:Inv X pN Z H s) (hH:H l=some (.lst xs)):xs.length<=sizeLine/\∃(bU:List Value) (n:Nat),Vals xs bU/\xs.length=bU.length/\s.heap.get? l=some {cls:= .type "list",data:= .seq bU.toArray n}:=by
 obtain ⟨z,bU,n,r,e⟩:=I.bQ l _ hH;exists z,bU,n,r,r.length,e
theorem JG (h:n<=sizeLine):Builtin.List.listTooLong n=false:=by
 unfold Builtin.List.listTooLong;exact dG (by lia)
end
section
def Mz:V->List V->Hp->VK->Prop:=λx vs H Q=> ∃l xs y,x= .ref l/\vs= [y]/\H l=some (.lst xs)/\xs.length < sizeLine/\Q .cx (upd H l (.lst (xs++ [y])))
theorem bN:Ws X "list.append" Mz:=by
 intro pN s Z H x vs v us Q I rx rv h;ext h l xs y rfl rfl hH hz q;cases rx;ext rv.one u rfl ru;obtain ⟨z,bU,n,r,hl,e⟩:=I.My hH;refine call_meets F.slot_list_append #[_,e,rfl] F.entry_list_append (F.args_list_append_2 _ _) (list_append l bU.toArray n u (by rw [cb];lia)) #[e,?_];exists .cx,_,I.Rt (its':=bU++ [u]) hH e (by simp) (r.append (.cons ru .nil)) ?_,U,q;rw [ao,aC];lia
def MA:V->List V->Hp->VK->Prop:=λx vs H Q=> ∃l b xs zs,x= .ref l/\vs= [.ref b]/\H l=some (.lst xs)/\H b=some (.lst zs)/\xs.length+zs.length<=sizeLine/\Q .cx (upd H l (.lst (xs++zs)))
theorem dB:Ws X "list.extend" MA:=by
 intro pN s Z H x vs v us Q I rx rv h;ext h l b xs zs rfl rfl hH hB hz q;cases rx;ext rv.one u rfl ru;cases ru;obtain ⟨z,bU,n,r,hl,e⟩:=I.My hH;obtain ⟨z2,its2,n2,r2,hl2,e2⟩:=I.My hB;have hsz:bU.toArray.size+its2.toArray.size<=sizeLine:=by rw [cb,cb];lia
 have Ru:¬(!bU.toArray.isEmpty && Builtin.List.listTooLong (bU.toArray.size+its2.toArray.size))=true:=by
  rw [JG hsz,Bool.and_false];exact aO
 refine call_meets F.slot_list_extend #[_,e,rfl] F.entry_list_extend (F.args_list_extend_2 _ _)
  (AutoSeq1.list_extend_list_list_0 l bU.toArray n b its2.toArray n2 Ru (by rw [cb];lia) (by lia)) #[e,e2,?_]
 exists .cx,_,I.Rt (its':=bU++its2) hH e (by simp) (r.append r2) ?_,U,q;rw [ao];lia
end
section
set_option maxRecDepth 100000 in
end
theorem Vals.ints:∀{ns:List Int} {us:List Value},Vals (ns.map V.int) us->IntsAre us ns
 | [],us,h=>by
  rw [cB] at h;cases h;exact IntsAre.nil
 | n :: ns,us,h=>by
  rw [bF] at h;cases h with
  | cons r t=>
   ext r k rfl;exact IntsAre.cons n k (Vals.ints t)
theorem Vals.strs:∀{xs:List Str} {us:List Value},Vals (xs.map V.str) us->StrsAre us xs
 | [],us,h=>by
  rw [cB] at h;cases h;exact StrsAre.nil
 | x :: xs,us,h=>by
  rw [bF] at h;cases h with
  | cons r t=>
   ext r k rfl;exact StrsAre.cons x k (Vals.strs t)
theorem Vals.Wt:∀{bs:List Bool} {us:List Value},Vals (bs.map V.bl) us->us=bs.map Value.bool
 | [],us,h=>by
  rw [cB] at h;cases h;rfl
 | b :: bs,us,h=>by
  rw [bF] at h;cases h with
  | cons r t=>
   cases r;rw [Vals.Wt t,bF]
def Vals.MB (r:Vals [V.ref a] us):us= [Value.ref a]:=by
 cases r with
 | cons r t=>
  cases t;cases r;rfl
def Vals.U0 {i j:Int} (r:Vals [V.int i,V.int j] us):∃t u,us= [Value.int i t,Value.int j u]:=by
 cases r with
 | cons r t=>
  cases t with
  | cons r2 t2=>
   cases t2;ext r t rfl;ext r2 u rfl;exists t,u,U
section
variable {ns:List Int}
theorem MC (hh:A.handled=none) (hl:s.heap.IsList l bU.toArray) (hi:IntsAre bU ns) (k7:0 < ns.length) (h:∀h' tk M t',(∀b o,s.heap.get? b=some o->h'.get? b=some o)->M∈ns->(∀a,a∈ns->a<=M)->Q (.int M t') {s with heap:=h',toks:=tk}):wpAny (model prog w) A (call (.builtin "max") [.ref l]) Q E s:=by
 ext hi.allInts.items xs e;have hn:numsOf (intItems xs).toList=ns:=by rw [<-e];exact hi.numsOf
 rw [nums_intItems] at hn;subst hn;rw [e] at hl;have hsz:0 < xs.size:= ~~~k7
 refine max_intList hh hl hsz λv h' tk hv hk=>?_;obtain ⟨t,rfl⟩:=intItems_at hv;obtain ⟨h1,h2⟩:=argBest_gt (numAt xs) (xs.size - 1);refine h h' tk _ t hk ?_ λa ha=>?_
 . rw [numAt_eq];exact getD_mem (by rw [aB,lz];omega)
 . obtain ⟨j,hj,rfl⟩:=mem_getD ha;rw [aB,lz] at hj;rw [<-numAt_eq];exact h2 j (by omega)
theorem MD (hh:A.handled=none) (hl:s.heap.IsList l bU.toArray) (hi:IntsAre bU ns) (k7:0 < ns.length) (h:∀h' tk M t',(∀b o,s.heap.get? b=some o->h'.get? b=some o)->M∈ns->(∀a,a∈ns->M<=a)->Q (.int M t') {s with heap:=h',toks:=tk}):wpAny (model prog w) A (call (.builtin "min") [.ref l]) Q E s:=by
 ext hi.allInts.items xs e;have hn:numsOf (intItems xs).toList=ns:=by rw [<-e];exact hi.numsOf
 rw [nums_intItems] at hn;subst hn;rw [e] at hl;have hsz:0 < xs.size:= ~~~k7
 refine min_intList hh hl hsz λv h' tk hv hk=>?_;obtain ⟨t,rfl⟩:=intItems_at hv;obtain ⟨h1,h2⟩:=argBest_lt (numAt xs) (xs.size - 1);refine h h' tk _ t hk ?_ λa ha=>?_
 . rw [numAt_eq];exact getD_mem (by rw [aB,lz];omega)
 . obtain ⟨j,hj,rfl⟩:=mem_getD ha;rw [aB,lz] at hj;rw [<-numAt_eq];exact h2 j (by omega)
end
section
def U1 (K:Frag):List V->Hp->VK->Prop:=λvs H Q=> ∃(a:Addr) (ns:List Int),vs= [V.ref a]/\cw K H a (ns.map V.int)/\0 < ns.length/\∀m,m∈ns->(∀y,y∈ns->y<=m)->Q (.int m) H
def U2 (K:Frag):List V->Hp->VK->Prop:=λvs H Q=> ∃(a:Addr) (ns:List Int),vs= [V.ref a]/\cw K H a (ns.map V.int)/\0 < ns.length/\∀m,m∈ns->(∀y,y∈ns->m<=y)->Q (.int m) H
def Pt (hc:X.calm=true):gu X (.builtin "max") (U1 X.K):=by
 intro pN s Z H vs us Q I r h;ext h a ns rfl hs k7 q;obtain ⟨bU,rv,hl,_⟩:=I.list hs;rw [Vals.MB r];exact MC (I.ok.hd hc) hl.isList rv.ints k7 λh' tk m t' hk h1 h2=>#[.int _,H,I.kept hk,#[_,rfl],q m h1 h2]
def Pu (hc:X.calm=true):gu X (.builtin "min") (U2 X.K):=by
 intro pN s Z H vs us Q I r h;ext h a ns rfl hs k7 q;obtain ⟨bU,rv,hl,_⟩:=I.list hs;rw [Vals.MB r];exact MD (I.ok.hd hc) hl.isList rv.ints k7 λh' tk m t' hk h1 h2=>#[.int _,H,I.kept hk,#[_,rfl],q m h1 h2]
end
section
def JH (K:Frag):V->List V->Hp->VK->Prop:=λx xs H Q=> ∃(a:Addr) (ys:List V) (y:V) (j:Nat) (z:V),x=V.ref a/\xs= [y]/\cw K H a ys/\i_ y=true/\ys.all i_=true/\ys[j]? = some z/\IY z y=true/\
 (∀(m:Nat) (z':V),m < j->ys[m]? = some z'->IY z' y=false)/\Q (.int (j:Nat)) H
def Gx (f:ys.all i_=true) {z:V} (h:ys[j]? = some z):i_ z=true:=c6.mp f z (bc h)
theorem JI:L1 X "list.index" (JH X.K):=by
 intro pN s Z H x xs v us Q I rx XB h;ext h a ys y j z rfl rfl hs fy U3 hz XC md q;cases rx;cases XB with
 | cons ry rt=>
  rename_i uy ut;cases rt;obtain ⟨bU,rv,⟨⟨cls,dd,data,sl⟩,n,ho,hc,hdn,hd⟩,hlen⟩:=I.list hs;simp only at hc hd;subst hc hd;obtain ⟨u,hu,ru⟩:=rv.get hz;obtain ⟨hjl,XD⟩:=bj.mp hu;have hvl:=rv.length;have hj:j < bU.toArray.size:= ~~~hjl
  have hsl:=lV;refine call_meets vC #[_,ho,rfl] PySem.F.entry_list_index (PySem.F.args_list_index_2 _ _)
   (SeqAt.list_indexAt a bU.toArray n dd sl uy (EF y) j hj (by lia) ?_ ?_) #[ho,λu' hu'=>l_ ry fy rv U3 u' (~~~hu'),?_]
  . have e1:bU.toArray[j]=u:= ~~~XD
    rw [e1,BZ ru (Gx U3 hz)];exact XC
  . intro m hm XF;have Ts:m < bU.length:= ~~~hm
    have XG:m < ys.length:=by lia
    have hy':ys[m]? = some ys[m]:=bB XG;obtain ⟨u2,hu2,U4⟩:=rv.get hy';obtain ⟨_,XH⟩:=bj.mp hu2;have e1:bU.toArray[m]=u2:= ~~~XH
    rw [e1,BZ U4 (Gx U3 hy')];exact md m _ XF hy'
  . exists .int (j:Nat),H,I.tok _,#[_,U],q
end
def JK (hl:s.heap.IsList l items) (h:∀s₂:Shared,s₂={s with heap:=s.heap.push {cls:= .type "list_iterator",data:= .fields (List.toArray [.ref l,.int 0 0])}}->
 (s₂.heap.IsListIter s.heap.objs.size l 0/\s₂.heap.IsList l items)->l≠s.heap.objs.size->Q (.ref s.heap.objs.size) s₂):wpAny (model prog w) A (pyIter (.ref l)) Q E s:=by
 have iU:l < s.heap.objs.size:=by ext hl _ e _;exact aI e
 exact vP hl (h _ rfl #[#[_,cJ _ rfl,rfl,rfl],hl.push _] (a9 iU))
def Df {bs:List Bool} (e:bU=bs.map Value.bool):
 TruthOf prog w A (λi v=>bU.toArray[i]? = some v) (λi=>bs.getD i false):=λi v s Q E hv hq=>by
 have hv':bU[i]? = some v:= ~~~hv
 rw [e,bA] at hv';obtain ⟨b,hb,rfl⟩:=gC.mp hv';have hg:bs.getD i false=b:=by rw [List.getD_eq_getElem?_getD,hb] <;> rfl
 have hq':Q (bs.getD i false) s:=hq;rw [hg] at hq';exact lH hq'
theorem all_range:∀bs:List Bool,(List.range bs.length).all (λi=>bs.getD i false)=bs.all id
 | []=>rfl
 | b :: bs=>by
  rw [aT,List.range_succ_eq_map,jp,List.all_map,jp,<-all_range bs];all_goals rfl
section
def U5 (K:Frag):List V->Hp->VK->Prop:=λvs H Q=> ∃(a:Addr) (bs:List Bool),vs= [V.ref a]/\cw K H a (bs.map V.bl)/\Q (.bl (bs.all id)) H
def Pw (hc:X.calm=true):gu X (.builtin "all") (U5 X.K):=by
 intro pN s Z H vs us Q I r h;ext h a bs rfl hs q;obtain ⟨bU,rv,hl,_⟩:=I.list hs;rw [Vals.MB r];have hb:=rv.Wt;refine call_all_walk (JK hl.isList λs₂ e2 st k7=>?_);subst e2;exists _,_,_,_,_,_,_,U,Walks.list (A:=X.A.in1) (I.ok.hd hc) _ a k7 bU.toArray,st,Df hb,λh' tk hk=>?_;exists .bl _,H,I.kept λb o eo=>hk b o (λhmem=>?_) (bK _ eo),?_,q
 . rcases aF.mp hmem with e1 | hmem
   . exact absurd (e1 ▸ aI eo) (cM _)
   . cases hmem
 . show Value.bool _=Value.bool _;rw [<-all_range,hb,cb,aB]
end
mutual
inductive Dp (K:Frag) (H:Hp):V->PyData->Prop
 | cx:Dp K H .cx .none
 | bl (b:Bool):Dp K H (.bl b) (.bool b)
 | int (i:Int):Dp K H (.int i) (.int i)
 | str (x:Str):Dp K H (.str x) (.str x)
 | lst {a:Addr} {xs:List V} {ds:List PyData}:cw K H a xs->yK K H xs ds->Dp K H (.ref a) (.list ds)
 | tup {a:Addr} {xs:List V} {ds:List PyData}:g9 K H a xs->yK K H xs ds->Dp K H (.ref a) (.tuple ds)
inductive yK (K:Frag) (H:Hp):List V->List PyData->Prop
 | nil:yK K H [] []
 | cons {v:V} {vs:List V} {d:PyData} {ds:List PyData}:Dp K H v d->yK K H vs ds->yK K H (v :: vs) (d :: ds)
end
section
mutual
theorem Dp.reads (I:Inv X pN Z H s):∀(d:PyData) (v:V) (u:Value),Dp X.K H v d->RelV v u->∃as,Reads s.heap u d as
 | .none,_,_,h,r=>by
  cases h;cases r;exists _,Reads.none
 | .bool b,_,_,h,r=>by
  cases h;cases r;exists _,Reads.bool b
 | .int i,_,_,h,r=>by
  cases h;ext r t rfl;exists _,Reads.int i t
 | .str x,_,_,h,r=>by
  cases h;ext r t rfl;exists _,Reads.str x t
 | .list ds,_,_,h,r=>by
  cases h with
  | lst hs ha=>
   cases r;obtain ⟨bU,rv,⟨o,n,ho,hc,_,hd⟩,_⟩:=I.list hs;obtain ⟨as,hr⟩:=Dp.readsAll I ds _ bU ha rv;exists _,Reads.list ho hc hd hr
 | .tuple ds,_,_,h,r=>by
  cases h with
  | tup hs ha=>
   cases r;obtain ⟨bU,rv,⟨o,ho,hc,n,hd⟩,_⟩:=I.tuple hs;obtain ⟨as,hr⟩:=Dp.readsAll I ds _ bU ha rv;exists _,Reads.tuple ho hc hd hr
 | .dict _,_,_,h,_=>by cases h
theorem Dp.readsAll (I:Inv X pN Z H s):∀(ds:List PyData) (vs:List V) (us:List Value),yK X.K H vs ds->Vals vs us->∃as,ReadsAll s.heap us ds as
 | [],_,_,h,r=>by
  cases h;cases r;exists _,ReadsAll.nil
 | d :: ds,_,_,h,r=>by
  cases h with
  | cons h1 h2=>
   cases r with
   | cons r1 r2=>
    obtain ⟨as,q1⟩:=Dp.reads I d _ _ h1 r1;obtain ⟨bs,q2⟩:=Dp.readsAll I ds _ _ h2 r2;exists _,ReadsAll.cons q1 q2
end
end
section
def U6 (K:Frag):R2:=λx y H Q=> ∃d e,Dp K H x d/\Dp K H y e/\SeqAt.shaped d=true/\SeqAt.shaped e=true/\Q (.bl (PyData.eqv d e)) H
def JL (hu:X.A.units+64 < cLine):rO X (compareOp .Eq) (U6 X.K):=by
 intro pN s Z H x y v u Q I rx ry h;ext h d e hd he sd se q;obtain ⟨as,r1⟩:=Dp.reads I d x v hd rx;obtain ⟨bs,r2⟩:=Dp.reads I e y u he ry;exact SeqAt.compareEq_shaped r1 r2 sd se hu #[.bl _,H,I,rfl,q]
end
abbrev JM (h:Heap) (c:Addr) (v:Option Value):=h.IsCell c v
def U7 (scope sc:Scope):Scope:=
 {scope with names:=scope.names.map λ(n,k)=>if (k == .free && sc.kind == .function && sc.names.lookup n == some .cell) then (n,.cell) else (n,k)}
noncomputable def cQ (cells:List (Str×Addr)):List (Str×NameKind)->List (Str×Addr)->List (Str×Addr)
 | [],acc=>acc
 | (n,k) :: r,acc=>if k == .free then cQ cells r ((n,(cells.lookup n).getD 0) :: acc) else cQ cells r acc
theorem tZ (env:Env) (f:Str×NameKind->List (Str×Addr)->Sem (ForInStep (List (Str×Addr)))) (hf:∀n k c,f (n,k) c=if k == .free then (do let a<-cellOf env n;pure (.yield ((n,a) :: c))) else pure (.yield c)):
 ∀(names:List (Str×NameKind)) (acc:List (Str×Addr)),(∀y∈names,y.2= .free->∃c,env.cells.lookup y.1=some c)->forIn names acc f=pure (cQ env.cells names acc)
 | [],acc,_=>by rw [List.forIn_nil];rfl
 | (n,k) :: r,acc,h=>by
  rw [List.forIn_cons,hf];have ih:=λacc=>tZ env f hf r acc λy hy=>h y (aW _ hy);unfold cQ;by_cases hk:(k == NameKind.free)=true
  . rw [ah hk,ah hk];obtain ⟨c,hc⟩:=h (n,k) bi (~~~hk);have e:cellOf env n=pure c:=by unfold cellOf;rw [hc]
    rw [e];have e2:(env.cells.lookup n).getD 0=c:=by rw [hc];rfl
    rw [e2];exact ih _
  . rw [ae hk,ae hk];exact ih _
def E7 (h:∀y∈scope.names,y.2= .free->∃c,env.cells.lookup y.1=some c):closureFor scope env=pure (cQ env.cells scope.names []):=by
 simp only [closureFor];rw [tZ env _ (λn k c=>rfl) scope.names [] h];rfl
theorem mem_lookup:∀{l:List (Str×α)} {n:Str} {c:α},(n,c)∈l->∃c',l.lookup n=some c'
 | (k,v) :: r,n,c,h=>by
  rw [eR];cases hb:n == k with
  | true=>exists _,U
  | false=>
   rcases aF.mp h with e | h
   . cases e;simp at hb
   . exact mem_lookup h
theorem kl:∀{names:List (Str×NameKind)} {acc:List (Str×Addr)} {n:Str} {c:Addr},(n,c)∈cQ cells names acc->(n,c)∈acc\/((n,.free)∈names/\c=(cells.lookup n).getD 0)
 | [],_,_,_,h=> .inl h
 | (m,k) :: r,acc,n,c,h=>by
  unfold cQ at h;split at h
  . rename_i hk;have hk:k= .free:= ~~~hk
    rcases kl h with h | ⟨h1,h2⟩
    . rcases aF.mp h with e | h
      . cases e;exact .inr #[hk ▸ bi,rfl]
      . exact .inl h
    . exact .inr #[aW _ h1,h2]
  . rcases kl h with h | ⟨h1,h2⟩
    . exact .inl h
    . exact .inr #[aW _ h1,h2]
theorem oR:∀{names:List (Str×NameKind)} {acc:List (Str×Addr)} {p:Str×Addr},p∈acc->p∈cQ cells names acc
 | [],_,_,h=>h
 | (m,k) :: r,acc,p,h=>by
  unfold cQ;split
  . exact oR (aW _ h)
  . exact oR h
theorem oS:∀{names:List (Str×NameKind)} {acc:List (Str×Addr)} {n:Str},(n,.free)∈names->(n,(cells.lookup n).getD 0)∈cQ cells names acc
 | (m,k) :: r,acc,n,h=>by
  unfold cQ;rcases aF.mp h with e | h
  . cases e;exact oR bi
  . split
    . exact oS h
    . exact oS h
theorem mh:∀{names:List (Str×NameKind)} {h:Heap} {acc:List (Str×Addr)} {x:Str} {c:Addr},(x,c)∈cellsFrom h.objs.size names acc->
 (x,c)∈acc\/((x,.cell)∈names/\h.objs.size<=c/\JM (pushCells h names) c none)
 | [],_,_,_,_,h=> .inl h
 | (n,k) :: r,h,acc,x,c,hm=>by
  unfold cellsFrom at hm;unfold pushCells;split at hm
  . rename_i hk;rw [ah hk];have hk:k= .cell:= ~~~hk
    rw [<-c7 h {cls:= .type "cell",data:= .cell none}] at hm;rcases mh hm with hm | ⟨h1,h2,h3⟩
    . rcases aF.mp hm with e | hm
      . cases e;exact .inr #[hk ▸ bi,az _,_,qR r _ _ _ (cJ _ rfl),rfl]
      . exact .inl hm
    . rw [c7] at h2;exact .inr #[aW _ h1,qJ h2,h3]
  . rename_i hk;rw [ae hk];rcases mh hm with hm | ⟨h1,h2,h3⟩
    . exact .inl hm
    . exact .inr #[aW _ h1,h2,h3]
theorem rg:∀{names:List (Str×NameKind)} {n:Nat} {acc:List (Str×Addr)} {p:Str×Addr},p∈acc->p∈cellsFrom n names acc
 | [],_,_,_,h=>h
 | (m,k) :: r,n,acc,p,h=>by
  unfold cellsFrom;split
  . exact rg (aW _ h)
  . exact rg h
theorem wx:∀{names:List (Str×NameKind)} {n:Nat} {acc:List (Str×Addr)} {x:Str},(x,.cell)∈names->∃c,(x,c)∈cellsFrom n names acc
 | (m,k) :: r,n,acc,x,h=>by
  unfold cellsFrom;rcases aF.mp h with e | h
  . cases e;exists n,rg bi
  . split
    . exact wx h
    . exact wx h
theorem wy:∀{names:List (Str×NameKind)} {h:Heap} {acc:List (Str×Addr)} {x y:Str} {c:Addr},(∀p∈acc,p.2 < h.objs.size)->(∀x y c,(x,c)∈acc->(y,c)∈acc->x=y)->
 (x,c)∈cellsFrom h.objs.size names acc->(y,c)∈cellsFrom h.objs.size names acc->x=y
 | [],_,_,_,_,_,_,hi,h1,h2=>hi _ _ _ h1 h2
 | (n,k) :: r,h,acc,x,y,c,hl,hi,h1,h2=>by
  unfold cellsFrom at h1 h2;split at h1
  . rename_i hk;rw [ah hk] at h2;rw [<-c7 h {cls:= .type "cell",data:= .cell none}] at h1 h2;refine wy (h:=h.push _) (λp hp=>?_) (λx y c a b=>?_) h1 h2
    . rw [c7];rcases aF.mp hp with rfl | hp
      . exact du _
      . exact vQ (hl p hp)
    . rcases aF.mp a with e | a <;> rcases aF.mp b with e' | b
      . cases (e);cases (e');rfl
      . cases (e);exact absurd (hl _ b) (cM _)
      . cases (e');exact absurd (hl _ a) (cM _)
      . exact hi _ _ _ a b
  . rename_i hk;rw [ae hk] at h2;exact wy hl hi h1 h2
def Dg {globals:Addr} {closure:List (Str×Addr)} {func:Option Addr} {code:Value} {around:Env} {builtins:Addr} {Q:Env->Shared->Prop} (h:Q (newEnv scope s.heap.objs.size globals (cellsFrom (s.heap.objs.size+1) scope.names closure) qual func code (some around) builtins)
 {s with heap:=pushCells (s.heap.push {cls:= .type "dict",data:= .dict #[]}) scope.names}):
 wpAny M A (newFunctionEnv scope globals closure [] qual func code (some around) builtins) Q E s:=by
 simp only [newFunctionEnv,Option.isSome_some,gn];refine aw (wpAny_alloc ?_);refine aw (wpAny_layCells _ (λn k c=>rfl) scope.names closure _ _ ?_);rw [show ({s with heap:=s.heap.push {cls:= .type "dict",data:= .dict #[]}}:Shared).heap.objs.size=s.heap.objs.size+1 from c7 ..];rw [List.forIn_nil];exact aw (bo (bo h))
theorem oU {sc:Scope}:∀{names:List (Str×NameKind)} {x:Str} {k:NameKind},
 (names.map λ(n,k)=>if (k == NameKind.free && sc.kind == .function && sc.names.lookup n == some .cell) then (n,NameKind.cell) else (n,k)).lookup x=some k->
 ∃k',names.lookup x=some k'/\(k=k'\/(k'= .free/\k= .cell))
 | [],_,_,h=>by simp at h
 | (n,k₀) :: r,x,k,h=>by
  have ih:=@oU sc r x k;have h':List.lookup x ((if (k₀ == NameKind.free && sc.kind == .function && sc.names.lookup n == some .cell)=true then (n,NameKind.cell) else (n,k₀)) :: (r.map _))=some k:=h;cases hx:x == n with
  | true=>
   simp only [eR,hx];by_cases hc:(k₀ == NameKind.free && sc.kind == .function && sc.names.lookup n == some .cell)=true
   . rw [ah hc] at h';simp only [eR,hx] at h';cases h';simp only [c5,bO] at hc;exists k₀,U,.inr #[hc.1.1,U]
   . rw [ae hc] at h';simp only [eR,hx] at h';cases h';exists _,U,.inl U
  | false=>
   simp only [eR,hx];by_cases hc:(k₀ == NameKind.free && sc.kind == .function && sc.names.lookup n == some .cell)=true
   . rw [ah hc] at h';simp only [eR,hx] at h';exact ih h'
   . rw [ae hc] at h';simp only [eR,hx] at h';exact ih h'
structure yL (N:List Str) (sc scope:Scope) (own:List (Str×Nat)):Prop where
 kind:scope.kind= .function
 uniq:∀y∈scope.names,scope.names.lookup y.1=some y.2
 ix:∀p∈own,N[p.2]? = some p.1
 free:∀y∈scope.names,y.2= .free->sc.names.lookup y.1=some .cell\/sc.names.lookup y.1=some .free
 own:∀y∈scope.names,y.2= .local\/y.2= .cell->y.1∈own.map (·.1)\/y.1∉N
def wipe (Z:St):List Nat->St
 | []=>Z
 | v :: vs=>(wipe Z vs).set v none
theorem oV (Z:St):∀vs:List Nat,(wipe Z vs).length=Z.length
 | []=>rfl
 | v :: vs=>by unfold wipe;rw [List.length_set,oV Z vs]
theorem wz {i:Nat} {x:V}:∀{vs:List Nat},(wipe Z vs)[i]? = some (some x)->Z[i]? = some (some x)/\i∉vs
 | [],h=>#[h,by simp]
 | v :: vs,h=>by
  unfold wipe at h;by_cases hi:v=i
  . subst hi;by_cases hv:v < (wipe Z vs).length
    . rw [qD hv] at h;cases h
    . rw [List.getElem?_eq_none (~~~hv)] at h;cases h
  . rw [vI hi] at h;obtain ⟨h1,h2⟩:=wz h;exists h1,by simp only [aF,not_or];exists λe=>hi e.symm,h2
abbrev Cx.blk (X:Cx) (s:Shared) (H:Hp) (scope:Scope) (fW:Env) (fp:List Addr):Cx:={X with ra:=s,LZ:=H,env:=fW,outer:=X.stack,ex:=fp,fn:=λx=>scope.names.lookup x == some .cell,pn:= [],xe:=λ_ _=>False}
section
def Dh (I:Inv X pN Z H s) (ok:yL X.N X.env.scope scope own) (hN:X.N.Nodup) (hfp:∀b∈fp,oy X pN H b/\b < s.heap.objs.size):
 Inv (X.blk s H scope (compEnvC scope (cellsFrom (s.heap.objs.size+1) scope.names (cQ X.env.cells scope.names [])) s.heap.objs.size X.env) fp) [] (wipe Z (own.map (·.2))) H {s with heap:=pushCells (s.heap.push {cls:= .type "dict",data:= .dict #[]}) scope.names}:=by
 have hfree:∀y∈scope.names,y.2= .free->∃c,X.env.cells.lookup y.1=some c:=λy hy e=>by
  rcases ok.free y hy e with k | k
  . exact I.ok.has _ (.inl k)
  . exact I.ok.has _ (.inr k)
 generalize Di:compEnvC scope (cellsFrom (s.heap.objs.size+1) scope.names (cQ X.env.cells scope.names [])) s.heap.objs.size X.env=fW;have kp:∀b o,s.heap.get? b=some o->(pushCells (s.heap.push {cls:= .type "dict",data:= .dict #[]}) scope.names).get? b=some o:=λb o e=>qR _ _ _ _ (bK _ e);have hL:fW.locals=s.heap.objs.size:=by rw [<-Di];rfl
 have hcl:fW.cells=cellsFrom (s.heap.objs.size+1) scope.names (cQ X.env.cells scope.names []):=by rw [<-Di];rfl
 have hsc:fW.scope=U7 scope X.env.scope:=by rw [<-Di];rfl
 rw [<-c7 s.heap {cls:= .type "dict",data:= .dict #[]}] at hcl;have cm:∀{y c},(y,c)∈cQ X.env.cells scope.names []->X.env.cells.lookup y=some c/\c < s.heap.objs.size:=λ{y c} hm=>by
  rcases kl hm with hm | ⟨h1,rfl⟩
  . cases hm
  . obtain ⟨c,hc⟩:=hfree _ h1 rfl;rw [hc];obtain ⟨w,z⟩:=I.cell _ _ hc;exists U,z.lt
 have mem:∀{y c},fW.cells.lookup y=some c->(X.env.cells.lookup y=some c/\c < s.heap.objs.size)\/(s.heap.objs.size+1<=c/\JM (pushCells (s.heap.push {cls:= .type "dict",data:= .dict #[]}) scope.names) c none):=λ{y c} e=>by
  rw [hcl] at e;rcases mh (mem_of_lookup e) with hm | ⟨_,h2,h3⟩
  . exact .inl (cm hm)
  . rw [c7] at h2;exact .inr #[h2,h3]
 have look:∀{y},scope.names.lookup y=some .free->∃c,fW.cells.lookup y=some c/\X.env.cells.lookup y=some c:=λ{y} hl=>by
  have hy:(y,NameKind.free)∈scope.names:=mem_of_lookup hl;obtain ⟨c',e'⟩:=mem_lookup (rg (names:=scope.names) (n:=(s.heap.push {cls:= .type "dict",data:= .dict #[]}).objs.size) (oS (cells:=X.env.cells) (acc:= []) hy));rw [<-hcl] at e';exists c',e',?_;rw [hcl] at e';rcases mh (mem_of_lookup e') with hm | ⟨h1,_,_⟩
  . exact (cm hm).1
  . have:=ok.uniq _ h1;rw [hl] at this;cases this
 have XI:(X.blk s H scope fW fp).Ok:=by
  exists I.ok.mod,by show fW.scope.kind=_;rw [hsc];exact ok.kind,by show fW.globals=_;rw [<-Di];exact I.ok.glob,by show fW.builtins=_;rw [<-Di];exact I.ok.blt,by show s.heap.objs.size<=fW.locals;rw [hL];exact az _,
   λy z c e1 e2=>?_,λy hy=>?_,λy c z e=>?_,I.ok.hd,I.ok.frames,.inl rfl,λb hb=>#[?_,λy c e z=>?_],I.bs,aP I.ok.C7 I.sz,λb o e hb=>?_,λb hb z=>?_,I.stack,I.tT
  . have e1:fW.cells.lookup y=some c:=e1;have e2:fW.cells.lookup z=some c:=e2;rw [hcl] at e1 e2;refine wy (λp hp=>?_) (λy z c a b=>I.ok.inj y z c (cm a).1 (cm b).1) (mem_of_lookup e1) (mem_of_lookup e2);rw [c7];exact vQ (cm (y:=p.1) (c:=p.2) hp).2
  . show∃c,fW.cells.lookup y=some c;have key:∀k,fW.kindOf y=some k->(k= .cell\/k= .free)->∃c,fW.cells.lookup y=some c:=λk hk hk'=>by
     unfold Env.kindOf at hk;rw [hsc] at hk;obtain ⟨k',e,r⟩:=oU hk;have:k'= .cell\/k'= .free:=by
      rcases r with rfl | ⟨rfl,_⟩
      . exact hk'
      . exact .inr rfl
     rcases this with rfl | rfl
     . obtain ⟨c,hm⟩:=wx (n:=(s.heap.push {cls:= .type "dict",data:= .dict #[]}).objs.size) (acc:=cQ X.env.cells scope.names []) (mem_of_lookup e);obtain ⟨c',e'⟩:=mem_lookup hm;exists c',by rw [hcl];exact e'
     . obtain ⟨c,h1,_⟩:=look e;exists c,h1
    rcases hy with hy | hy
    . exact key _ hy (.inl rfl)
    . exact key _ hy (.inr rfl)
  . have z:(scope.names.lookup y == some NameKind.cell)=true:=z;have z:scope.names.lookup y=some .cell:= ~~~z
    have e:fW.cells.lookup y=some c:=e;rw [hcl] at e;rcases mh (mem_of_lookup e) with hm | ⟨_,h2,_⟩
    . rcases kl hm with hm | ⟨h1,_⟩
      . cases hm
      . have q:=ok.uniq _ h1;rw [z] at q;cases q
    . rw [c7] at h2;exact qJ h2
  . show b≠fW.locals;rw [hL];exact a9 (hfp b hb).2
  . have e:fW.cells.lookup y=some c:=e;rcases mem e with ⟨h1,_⟩ | ⟨h1,_⟩
    . exact (hfp b hb).1.2.2.2.2.1 y c h1 z
    . have h2:s.heap.objs.size+1<=b:=by rw [<-z];exact h1
      exact absurd (bw (hfp b hb).2 (qJ h2)) (cM _)
  . rcases (hfp b hb).1.2.2.2.1 with z | z
    . exact I.ok.Aj b o e z
    . exact absurd (bw (aI e) (aP I.ok.C7 z)) (cM _)
  . rcases aF.mp (I.BK b z) with z | z
    . exact (hfp b hb).1.2.1 z
    . exact (hfp b hb).1.2.2.1 z
 exists XI,U,I.bare,Un.kept kp,#[λ_=>none,?_,λi y av e1 e2 e3=>?_],λy c e=>?_,?_,λy c e=>?_,λp hp=>?_,I.bQ.kept kp,by rw [oV];exact I.len
 . show Heap.Ns _ fW.locals _;rw [hL];exact Heap.Ns.keeps (Heap.Ns.new ..) λb o e=>qR _ _ _ _ e
 . obtain ⟨e2,k7⟩:=wz e2;have hfr:scope.names.lookup y=some .free/\(fW.kindOf y=some .cell\/fW.kindOf y=some .free):=by
    have key:∀k,fW.scope.names.lookup y=some k->k= .local\/k= .cell\/k= .free->scope.names.lookup y=some .free/\(fW.kindOf y=some .cell\/fW.kindOf y=some .free):=λk hk hk'=>by
     have hk0:=hk;rw [hsc] at hk;obtain ⟨k',e,r⟩:=oU hk;have no:¬(k'= .local\/k'= .cell):=λhh=>by
      rcases ok.own _ (mem_of_lookup e) hh with e' | e'
      . obtain ⟨p,hp,hpy⟩:=ci.mp e';have e3:=ok.ix p hp;have:p.1=y:=hpy;rw [this] at e3;exact k7 (ci.mpr #[p,hp,yw hN e3 e1])
      . exact e' (bc e1)
     rcases r with rfl | ⟨rfl,rfl⟩
     . rcases hk' with rfl | rfl | rfl
       . exact absurd (.inl rfl) no
       . exact absurd (.inr rfl) no
       . exists e,.inr hk0
     . exists e,.inl hk0
    have e3:IX fW.scope y:=e3;rcases e3 with e3 | e3 | e3
    . exact key _ e3 (.inl rfl)
    . exact key _ e3 (.inr (.inl rfl))
    . exact key _ e3 (.inr (.inr rfl))
   ext I.loc m hn hl;have U8:IX X.env.scope y:=(ok.free _ (mem_of_lookup hfr.1) rfl).elim (λk=> .inr (.inl k)) (λk=> .inr (.inr k));obtain ⟨w,r,q⟩:=hl i y av e1 e2 U8;exists w,r,.inr #[hfr.2,?_];obtain ⟨c,h1,h2⟩:=look hfr.1;rcases q with ⟨k,_⟩ | ⟨_,c',e',z⟩
   . have k:X.env.scope.names.lookup y=some .local:=k;rcases ok.free _ (mem_of_lookup hfr.1) rfl with k' | k' <;> rw [show X.env.scope.names.lookup y=_ from k'] at k <;> cases k
   . rw [h2] at e';cases e';exists c,h1,z.keeps kp
 . have e:fW.cells.lookup y=some c:=e;rcases mem e with ⟨h1,_⟩ | ⟨_,z⟩
   . obtain ⟨w,z⟩:=I.cell y c h1;exists w,z.keeps kp
   . exists _,z
 . show H fW.locals=none;rw [hL];exact I.bQ.fresh (az _)
 . have e:fW.cells.lookup y=some c:=e;rcases mem e with ⟨h1,_⟩ | ⟨h1,_⟩
   . exact I.gr y c h1
   . exact I.bQ.fresh (qJ h1)
 . exact absurd (show p∈([]:List (Addr×Obj))++ [] from hp) (by simp)
theorem Px {D:Addr} {v:Value} (I:Inv X pN Z H s) (hD:H D=some (.lst xs)) (hz:xs.length < sizeLine) (r:RelV y v) (h:∀s',Inv X pN Z (upd H D (.lst (xs++ [y]))) s'->Q .none s'):wpAny (model X.prog X.w) X.A (call (.builtin "list.append") [.ref D,v]) Q E s:=by
 obtain ⟨hz',bU,n,ri,e⟩:=I.bQ D _ hD;have hl:=ri.length;refine append_at (hsz:=by rw [cb];lia) e λh' sb ho'=>?_;refine h {s with heap:=h'} (I.write (t':=s.toks) (by rw [hD];trivial) (.inl rfl) (λb u hb q=>(sb.2 b hb).trans q) #[_,ho'] #[by rw [ao];exact hz,bU++ [v],n+1,ri.append (.cons r .nil),?_]);rw [ho'];simp
def Py (X:Cx) (ifs:List Expr) (t:TT):Prop:=
 ∀(pN:List (Addr×Obj)) (s:Shared) (Z:St) (H:Hp) (Q:Bool->Hp->Prop),Inv X pN Z H s->t Z H Q->
  wpAny (model X.prog X.w) X.A (forIn ifs true λc r=>if r=true then do let ok<-isTrue c X.env (eval c X.env);pure (ForInStep.yield ok) else pure (ForInStep.yield r)) (TP X pN Z Q) X.xe s
def HL:TT:=λ_ H Q=>Q true H
def B3:Py X [] HL:=λ_ _ _ H _ I h=>wpAny_tests_nil #[H,I,h]
def ME {t:TT} (h:PT X c t):Py X [c] t:=λpN s Z H Q I hw=>wpAny_tests_one (h pN s Z H Q I hw)
end
def E8 {t:Sem α} {Q Q':α->Shared->Prop} (h:wpAny M A t Q (λ_ _=>False) s) (hQ:∀a s,Q a s->Q' a s):wpAny M A t Q' E s:=bT h hQ λ_ _ z=>False.elim z
def B4 {target:Expr} {it acc:Value} (I:Nat->Shared->Prop) (turn:∀n s,I n s->wpAny (model prog w) A (pyNext it) (λr s₁=>match r with
 | none=>R (.ok .next) s₁
 | some v=>wpAny (model prog w) A (letOwnedTupleGo target it v) (λ_ s₁'=>wpAny (model prog w) A (assign target env v) (λ_ s₂=>
  wpAny (model prog w) A (forIn ifs true λc r=>if r=true then do let ok<-isTrue c env (eval c env);pure (ForInStep.yield ok) else pure (ForInStep.yield r)) (λok s₃=>
   if ok=true then wpAny (model prog w) A (eval elt env) (λx s₄=>
    wpAny (model prog w) A (call (.builtin "list.append") [acc,x]) (λ_ s₅=> ∃m,m < n/\I m s₅) (notedBy (model prog w) A env λe s'=>R (.error e) s') s₄) (notedBy (model prog w) A env λe s'=>R (.error e) s') s₃
   else∃m,m < n/\I m s₃) (notedBy (model prog w) A env λe s'=>R (.error e) s') s₂) (notedBy (model prog w) A env λe s'=>R (.error e) s') s₁') (notedBy (model prog w) A env λe s'=>R (.error e) s') s₁) (notedBy (model prog w) A env λe s'=>R (.error e) s') s) (n:Nat) (h:I n s):
 codeAny (model prog w) A (.compLoop (.ListComp elt [#[target,iter,ifs,0]] scope pos) 0 it acc env) R s:=by
 refine codeAny_loop rfl I (λn s hI=>?_) n h;show wpAny _ A ((compTurn (.ListComp elt [#[target,iter,ifs,0]] scope pos) 0 it acc env).onRaise (λx=>do noteFrame x env;theTreesLotGoes x)) _ _ s;refine wpAny_noted ?_;rw [compTurn_list];refine aw (lR (aw (bT (turn n s hI) (λr s₁ h₁=>?_) λ_ _ h'=>h')));cases r with
 | none=>exact bo h₁
 | some v=>
  refine aw (bT h₁ (λ_ s₁' h₁'=>?_) λ_ _ h'=>h');refine aw (bT h₁' (λ_ s₂ h₂=>aw (bT h₂ (λok s₃ h₃=>?_) λ_ _ h'=>h')) λ_ _ h'=>h');cases ok with
  | false=>exact bo #[rfl,h₃]
  | true=>
   exact aw (aw (bT h₃ (λx s₄ h₄=>aw (bT h₄ (λ_ s₅ h₅=>bo (bo #[rfl,h₅])) λ_ _ h'=>h')) λ_ _ h'=>h'))
section
def Pz (wi:TI) (g:TG) (tt:TT) (te:TE) (vs:List Nat):TE:=λZ H Q=>wi Z H λJ H1=> ∀D,H1 D=none->∃W:Nat->Nat->Hp->Prop,(∃m,W 0 m (upd H1 D (.lst [])))/\∀i m H,W i m H->
 (J.stop i H/\Q (.ref D) H)\/(J.go i H/\∃Nx:Hp->Prop,(∀H',Nx H'->∃m',m' < m/\W (i+1) m' H')/\∀x H',J.ED i H x H'->g x (wipe Z vs) H' λZ2 H2=>wipe Z2 vs=wipe Z vs/\tt Z2 H2 λb H3=>
  if b=true then te Z2 H3 λy H4=> ∃acc,H4 D=some (.lst acc)/\acc.length < sizeLine/\Nx (upd H4 D (.lst (acc++ [y]))) else Nx H3)
def Dj {bx:Shared->Hp->Env->List Addr->Value->Shared->Prop} {Q:VK} {wi:TI} {use:Option (Value->Sem Unit)} (hc:X.calm=true) (hN:X.N.Nodup) (I:Inv X pN Z H s) (hi:PI X tg iter wi) (ok:yL X.N X.env.scope scope own) (hg:∀(s:Shared) (H:Hp) (C:Addr) (cl:List (Str×Addr)) (fp:List Addr),PG (X.blk s H scope (compEnvC scope cl C X.env) fp) tg g) (ht:∀(s:Shared) (H:Hp) (C:Addr) (cl:List (Str×Addr)) (fp:List Addr),Py (X.blk s H scope (compEnvC scope cl C X.env) fp) ifs tt) (he:∀(s:Shared) (H:Hp) (C:Addr) (cl:List (Str×Addr)) (fp:List Addr),PE ((X.blk s H scope (compEnvC scope cl C X.env) fp).wish (bx s H (compEnvC scope cl C X.env) fp)) elt te) (hs:∀x,foldedSetIterable iter X.env x=pure x) (hbx:∀s3 H3 ce fp D e s',Inv X pN Z H3 s3->ce.frame=X.env.frame->ce.locals=s3.heap.objs.size->(∀b∈fp,oy X pN H3 b/\b < s3.heap.objs.size)->bx s3 H3 ce fp e s'->
 notedBy (model X.prog X.w) X.A ce (λe s'=>compPost (model X.prog X.w) X.A X.xe use Qf (.ref D) s3.heap.objs.size (.error e) s') e s') (h:Pz wi g tt te (own.map (·.2)) Z H Q) (hRR:∀D C s' m H',Inv X pN Z H' s'->Q (.ref D) H'->s'.heap.Ns C m->oy X pN H' C->compPost (model X.prog X.w) X.A X.xe use Qf (.ref D) C (.ok .next) s'):
 wpAny (model X.prog X.w) X.A (comprehension (.ListComp elt [#[tg,iter,ifs,0]] scope pos) scope X.env pos' (newList []) false (eval iter X.env) use) Qf X.xe s:=by
 have hfree:∀y∈scope.names,y.2= .free->∃c,X.env.cells.lookup y.1=some c:=λy hy e=>by
  rcases ok.free y hy e with k | k
  . exact I.ok.has _ (.inl k)
  . exact I.ok.has _ (.inr k)
 refine wpAny_comprehension_free (use:=use) rfl hs (E7 hfree) ok.kind (λy hy e=>by rw [ok.uniq y hy,e])
  (dY (hi pN s Z H _ I h) λxv s1 hx=>dY hx λitv s2 h2=>?_)
 ext h2 it fp tn J H2 e I2 T st2 f2 q;subst e;refine wpAny_newObj_type (Dg ?_) (by show 0<=sizeLine;decide);generalize hD:s2.heap.objs.size=D;have XJ:H2 D=none:=I2.bQ.fresh (gD hD);obtain ⟨W,⟨m0,w0⟩,turn⟩:=q D XJ;generalize hs3:({s2 with heap:=s2.heap.push {cls:= .type "list",data:= .seq ([]:List Value).toArray}}:Shared)=s3;have I3:Inv X pN Z (upd H2 D (.lst [])) s3:=by
  rw [<-hs3];refine I2.laid (t':=s2.toks) (λb o e=>bK _ e) (gD hD) #[aD _,[],0,.nil,?_];rw [<-hD];exact cJ _ rfl
 have h3:s3.heap=s2.heap.push {cls:= .type "list",data:= .seq ([]:List Value).toArray}:=by rw [<-hs3]
 have sz:∀b∈fp,b < s2.heap.objs.size:=λb hb=>by
  obtain ⟨o,e,_⟩:=T.obj _ _ st2 b hb;exact aI e
 have f3:∀b∈fp,oy X pN (upd H2 D (.lst [])) b/\b < s3.heap.objs.size:=λb hb=>by
  have iU:=sz b hb;refine #[#[?_,(f2 b hb).2],by rw [h3,c7];exact vQ iU];rw [aA (by rw [<-hD];exact a9 iU)];exact (f2 b hb).1
 have st3:tn 0 s3.heap:=T.keep _ _ _ st2 λb _ o e=>by rw [h3];exact bK _ e
 have I4:=Dh I3 ok hN f3;have pg:=hg s3 (upd H2 D (.lst [])) s3.heap.objs.size (cellsFrom (s3.heap.objs.size+1) scope.names (cQ X.env.cells scope.names [])) fp;have pt:=ht s3 (upd H2 D (.lst [])) s3.heap.objs.size (cellsFrom (s3.heap.objs.size+1) scope.names (cQ X.env.cells scope.names [])) fp;have pe:=he s3 (upd H2 D (.lst [])) s3.heap.objs.size (cellsFrom (s3.heap.objs.size+1) scope.names (cQ X.env.cells scope.names [])) fp;show codeAny _ _ (.compStart (.ListComp elt [#[tg,iter,ifs,0]] scope pos) 0 (.ref it) (.ref D) (compEnvC scope (cellsFrom (s3.heap.objs.size+1) scope.names (cQ X.env.cells scope.names [])) s3.heap.objs.size X.env)) (compPost (model X.prog X.w) X.A X.xe use Qf (.ref D) s3.heap.objs.size) {s3 with heap:=pushCells (s3.heap.push {cls:= .type "dict",data:= .dict #[]}) scope.names};have Wu:∀b∈fp,(upd H2 D (.lst [])) b=none:=λb hb=>(f3 b hb).1.1;generalize hce:compEnvC scope (cellsFrom (s3.heap.objs.size+1) scope.names (cQ X.env.cells scope.names [])) s3.heap.objs.size X.env=ce at I4 pg pt pe ⊢;have cL:ce.locals=s3.heap.objs.size:=by subst hce;rfl
 have cF:ce.frame=X.env.frame:=by subst hce;rfl
 generalize Zk:upd H2 D (.lst [])=H3 at I3 I4 pg pt pe w0 Wu f3;generalize XM:({s3 with heap:=pushCells (s3.heap.push {cls:= .type "dict",data:= .dict #[]}) scope.names}:Shared)=s4 at I4 ⊢;have st4:tn 0 s4.heap:=T.keep _ _ _ st3 λb _ o e=>by rw [<-XM];exact qR _ _ _ _ (bK _ e)
 have stat:∀{Z':St} {H':Hp} {s':Shared},Inv (X.blk s3 H3 scope ce fp) [] Z' H' s'->(∀b∈fp,H' b=none)->∀b∈fp,oy (X.blk s3 H3 scope ce fp) [] H' b:=λ{Z' H' s'} I' hn b hb=>
  #[hn b hb,(I'.ok.L0 b hb).1,I'.ok.xR b hb,.inl hb,λx c e=>(I'.ok.L0 b hb).2 x c e,λp hp=>absurd (show p∈([]:List (Addr×Obj))++ [] from hp) (by simp)]
 have loop:codeAny (model X.prog X.w) X.A (.compLoop (.ListComp elt [#[tg,iter,ifs,0]] scope pos) 0 (.ref it) (.ref D) ce) (compPost (model X.prog X.w) X.A X.xe use Qf (.ref D) s3.heap.objs.size) s4:=by
  refine B4 (λn s'=> ∃i H',Inv (X.blk s3 H3 scope ce fp) [] (wipe Z (own.map (·.2))) H' s'/\tn i s'.heap/\(∀b∈fp,H' b=none)/\W i n H') ?_ m0 #[0,H3,I4,st4,Wu,w0];rintro n s5 ⟨i,H5,I5,st5,n5,w5⟩;rcases turn i n H5 w5 with ⟨stop,qq⟩ | ⟨go,Nx,XN,step⟩
  . have td:=T.done (X.blk s3 H3 scope ce fp) rfl rfl rfl hc i [] s5 _ H5 (λ_ _=>False) I5 (stat I5 n5) st5 stop;refine E8 td λr s6 #[hr,I6]=>?_;subst hr;have I7:Inv X pN Z H5 s6:=I3.call' (ch:=fp) I6.os I6.base I6.bQ I6.bare λb hb=>#[(f3 b hb).1.2.2.2.1,(f3 b hb).1.2.1,(f3 b hb).1.2.2.2.2.1,(f3 b hb).1.2.2.2.2.2];have nC:H5 s3.heap.objs.size=none:=by
     have z:H5 ce.locals=none:=I6.free;rw [cL] at z;exact z
    ext I6.loc m hn _;have hn:s6.heap.Ns ce.locals m:=hn;rw [cL] at hn;exact hRR D s3.heap.objs.size s6 m H5 I7 qq hn (I3.Ak (az _) nC)
  . have ti:=T.item (X.blk s3 H3 scope ce fp) rfl rfl rfl hc i [] s5 _ H5 (λ_ _=>False) I5 (stat I5 n5) st5 go;refine E8 ti λr s6 #[u,hr,h6]=>?_;subst hr;refine E8 h6 λ_ s7 hZ=>?_;ext hZ x H7 I7 r7 y7 U9 n7;have XO:=I7.pinned (stat I7 n7) (T.obj _ _ U9);refine E8 (pg _ s7 _ H7 x u _ XO r7 (step x H7 y7)) λ_ s8 #[Z8,H8,I8,Wv,q8]=>?_;refine E8 (pt _ s8 Z8 H8 _ I8 q8) λb s9 #[H9,I9,q9]=>?_;have fin:∀{s':Shared} {H':Hp},Inv (X.blk s3 H3 scope ce fp) ([]++yA fp s7.heap) Z8 H' s'->Nx H'->∃m,m < n/\∃i H',Inv (X.blk s3 H3 scope ce fp) [] (wipe Z (own.map (·.2))) H' s'/\tn i s'.heap/\(∀b∈fp,H' b=none)/\W i m H':=λ{s' H'} I' nx=>by
     obtain ⟨m',hm,w'⟩:=XN H' nx;have Rv:∀b∈fp,∀o,s7.heap.get? b=some o->s'.heap.get? b=some o/\H' b=none:=λb hb o e=>
      let z:=I'.pin (b,o) (eQ _ (eQ _ (sM hb e)));#[z.1,z.2.1]
     have hl:(wipe Z (own.map (·.2))).length=Z8.length:=by rw [<-Wv,oV]
     exists m',hm,i+1,H',(I'.lZ (pN:= [])).weak hl (λj v e=>?_),T.keep _ _ _ U9 λb hb o e=>(Rv b hb o e).1,λb hb=>?_,w'
     . rw [<-Wv] at e;exact (wz e).1
     . obtain ⟨o,e,_⟩:=T.obj _ _ U9 b hb;exact (Rv b hb o e).2
    cases b with
    | false=>
     simp only [qF,jt] at q9 ⊢;exact fin I9 q9
    | true=>
     simp only [gn] at q9 ⊢;refine bT (pe _ s9 Z8 H9 _ (I9.wish _) q9) (λz Zm hZ=>?_) λe s' ze=>hbx s3 H3 ce fp D e s' I3 cF cL f3 ze;ext hZ yv Rw XQ r10 acc U_ U' nx;exact Px (X:=X.blk s3 H3 scope ce fp) XQ.iT U_ U' r10 λZn XR=>fin XR nx
 exact codeAny_compStart_list loop (T.self X.A 0 _ _ _ st4 loop)
def Gy {Q:VK} {wi:TI} {use:Option (Value->Sem Unit)} (hc:X.calm=true) (hN:X.N.Nodup) (I:Inv X pN Z H s) (hi:PI X tg iter wi) (ok:yL X.N X.env.scope scope own) (hg:∀(s:Shared) (H:Hp) (C:Addr) (cl:List (Str×Addr)) (fp:List Addr),PG (X.blk s H scope (compEnvC scope cl C X.env) fp) tg g) (ht:∀(s:Shared) (H:Hp) (C:Addr) (cl:List (Str×Addr)) (fp:List Addr),Py (X.blk s H scope (compEnvC scope cl C X.env) fp) ifs tt) (he:∀(s:Shared) (H:Hp) (C:Addr) (cl:List (Str×Addr)) (fp:List Addr),PE (X.blk s H scope (compEnvC scope cl C X.env) fp) elt te) (hs:∀x,foldedSetIterable iter X.env x=pure x) (h:Pz wi g tt te (own.map (·.2)) Z H Q) (hRR:∀D C s' m H',Inv X pN Z H' s'->Q (.ref D) H'->s'.heap.Ns C m->oy X pN H' C->compPost (model X.prog X.w) X.A X.xe use Qf (.ref D) C (.ok .next) s'):
 wpAny (model X.prog X.w) X.A (comprehension (.ListComp elt [#[tg,iter,ifs,0]] scope pos) scope X.env pos' (newList []) false (eval iter X.env) use) Qf X.xe s:=
 Dj (bx:=λ_ _ _ _ _ _=>False) hc hN I hi ok hg ht he hs (λ_ _ _ _ _ _ _ _ _ _ _ z=>z.elim) h hRR
def iA {wi:TI} (hi:PI X tg iter wi) (own:List (Str×Nat)) (hg:∀(s:Shared) (H:Hp) (C:Addr) (cl:List (Str×Addr)) (fp:List Addr),PG (X.blk s H scope (compEnvC scope cl C X.env) fp) tg g) (he:∀(s:Shared) (H:Hp) (C:Addr) (cl:List (Str×Addr)) (fp:List Addr),PE (X.blk s H scope (compEnvC scope cl C X.env) fp) elt te) (hc:X.calm=true:=by exact rfl) (hN:X.N.Nodup:=by assumption) (ok:yL X.N X.env.scope scope own:=by exact yM #v[]) (ht:∀(s:Shared) (H:Hp) (C:Addr) (cl:List (Str×Addr)) (fp:List Addr),Py (X.blk s H scope (compEnvC scope cl C X.env) fp) ifs tt:=by exact λ_ _ _ _ _=>B3) (hs:∀x,foldedSetIterable iter X.env x=pure x:=by intro _;rfl):
 PE X (.ListComp elt [#[tg,iter,ifs,0]] scope pos) (Pz wi g tt te (own.map (·.2))):=by
 intro pN s Z H Q I h;rw [eval_ListComp];refine Gy hc hN I hi ok hg ht he hs h λD C s' m H' I' q hn f=>#[m,hn,λh'' sb=>?_];ext f f0 f1 f2 f3 f4 f5;exists .ref D,H',I'.turned (t':=s'.toks) (λb o hb e=>(sb.2 b hb).trans e) f0 f1 f3 f4 f5,U,q
def oW {y:Str} {spos:Pos} {wi:TI} (i:Nat) (hi:PI X tg iter wi) (own:List (Str×Nat)) (hg:∀(s:Shared) (H:Hp) (C:Addr) (cl:List (Str×Addr)) (fp:List Addr),PG (X.blk s H scope (compEnvC scope cl C X.env) fp) tg g) (he:∀(s:Shared) (H:Hp) (C:Addr) (cl:List (Str×Addr)) (fp:List Addr),PE (X.blk s H scope (compEnvC scope cl C X.env) fp) elt te) (hc:X.calm=true:=by exact rfl) (hN:X.N.Nodup:=by assumption) (hy:X.N[i]? = some y:=by rfl) (hyl:X.env.scope.names.lookup y=some .local:=by rfl) (hsw:swapsWith (.ListComp elt [#[tg,iter,ifs,0]] scope pos) (some (.Name y py)) spos.line X.env=pure true:=by exact Gz rfl rfl rfl (by decide+kernel)) (ok:yL X.N X.env.scope scope own:=by exact yM #v[]) (ht:∀(s:Shared) (H:Hp) (C:Addr) (cl:List (Str×Addr)) (fp:List Addr),Py (X.blk s H scope (compEnvC scope cl C X.env) fp) ifs tt:=by exact λ_ _ _ _ _=>B3) (hs:∀x,foldedSetIterable iter X.env x=pure x:=by intro _;rfl):
 PS X (.Assign [.Name y py] (.ListComp elt [#[tg,iter,ifs,0]] scope pos) spos) (O8 (Pz wi g tt te (own.map (·.2))) (yz i)):=by
 intro pN s Z H D I h;rw [exec_Assign_Name_used _ _ _ _ hsw];refine aw (lR (aw ?_));show wpAny _ X.A (do let _<-comprehension (.ListComp elt [#[tg,iter,ifs,0]] scope pos) scope X.env (firstIterPos [#[tg,iter,ifs,0]] pos) (newList []) false (eval iter X.env) (some (assign (.Name y py) X.env))) _ _ s;have h:Pz wi g tt te (own.map (·.2)) Z H (λx H1=>yz i x Z H1 D.nx):=h;refine aw (dY (Gy (Qf:=λ_ s'=>SP X pN D .next s') hc hN I hi ok hg ht he hs h λL C s' m H' I' q hn f=>?_) λ_ s' hq=>bo (bo hq));show wpAny _ _ (assign (.Name y py) X.env (.ref L)) _ _ _;refine vO (wd (v:=V.ref L) I' hN hy (.inl hyl) rfl (λs2 I2 #[a,sb,ha]=>?_) (.inr hyl));ext f f0 f1 f2 f3 f4 f5;have haC:C≠a:=by
  rcases ha with z | z
  . rw [z];exact f1
  . exact λe=>f4 y a z e.symm
 exists m,hn.sameBut sb haC,λh3 Va=>?_;exists _,H',I2.turned (t':=s2.toks) (λb o hb e=>(Va.2 b hb).trans e) f0 f1 f3 f4 f5,q
def Gz {gs:List Comprehension} {y:Str} {l:Nat} (hk:env.scope.kind= .function) (hy:env.scope.names.lookup y=some .local) (hl:(py.line == pos.line)=true) (ha:(scope.names.any λ(n,k)=>n == y && (k == .local || k == .cell))=false):swapsWith (.ListComp elt gs scope pos) (some (.Name y py)) l env=pure true:=by
 have ky:env.kindOf y=some .local:=hy;have hb:env.blockKind= .function:=by unfold Env.blockKind;rw [hk];rfl
 unfold swapsWith;simp only [hb,ky,ha,Expr.pos,hl];rfl
end
theorem B5 {vs:List Nat} {D:Addr} (Pv:Nat->Hp->Prop) (h0:Pv 0 (upd H1 D (.lst []))) (hl:∀i H,i<=xs.length->Pv i H->cw K H a xs) (hs:∀i x H,xs[i]? = some x->Pv i H->g x (wipe Z vs) H λZ2 H2=>wipe Z2 vs=wipe Z vs/\tt Z2 H2 λb H3=>
 if b=true then te Z2 H3 λy H4=> ∃acc,H4 D=some (.lst acc)/\acc.length < sizeLine/\Pv (i+1) (upd H4 D (.lst (acc++ [y]))) else Pv (i+1) H3) (hd:∀H,Pv xs.length H->Qd H):
 ∃W:Nat->Nat->Hp->Prop,(∃m,W 0 m (upd H1 D (.lst [])))/\∀i m H,W i m H->
  ((C9 K a).stop i H/\Qd H)\/((C9 K a).go i H/\∃Nx:Hp->Prop,(∀H',Nx H'->∃m',m' < m/\W (i+1) m' H')/\∀x H',(C9 K a).ED i H x H'->g x (wipe Z vs) H' λZ2 H2=>wipe Z2 vs=wipe Z vs/\tt Z2 H2 λb H3=>
   if b=true then te Z2 H3 λy H4=> ∃acc,H4 D=some (.lst acc)/\acc.length < sizeLine/\Nx (upd H4 D (.lst (acc++ [y]))) else Nx H3):=by
 exists λi m H=>m=xs.length - i/\i<=xs.length/\Pv i H,#[xs.length,by simp,aD _,h0],?_;rintro i m H ⟨rfl,hi,p⟩;have q:=hl i H hi p;by_cases iU:i < xs.length
 . refine .inr #[#[xs,xs[i],q,by simp [iU]],Pv (i+1),λH' p'=>#[xs.length - (i+1),by omega,rfl,iU,p'],λx H' y=>?_];ext y e y;subst e;exact hs i x _ (y xs q) p
 . have e:i=xs.length:=by omega
   subst e;exact .inl #[#[xs,q,az _],hd H p]
def Ry (N:List Str) (sc scope:Scope) (own:List (Str×Nat)):Bool:=
 (match scope.kind with | .function=>true | _=>false) && (scope.names.all λy=>decide (scope.names.lookup y.1=some y.2)) && (own.all λp=>decide (N[p.2]? = some p.1)) &&
  (scope.names.all λy=>match y.2 with
   | .free=>(match sc.names.lookup y.1 with | some .cell=>true | some .free=>true | _=>false)
   | .local=>decide (y.1∈own.map (·.1)) || decide (y.1∉N)
   | .cell=>decide (y.1∈own.map (·.1)) || decide (y.1∉N)
   | _=>true)
def yM (h:Ry N sc scope own=true):yL N sc scope own:=by
 unfold Ry at h;simp only [c5,c6,dr] at h;ext h ⟨⟨h1,h2⟩,h3⟩ h4;exists ?_,h2,h3,λy hy e=>?_,λy hy e=>?_
 . split at h1
   . assumption
   . cases h1
 . have q:=h4 y hy;simp only [e] at q;split at q <;> first | exact .inl (by assumption) | exact .inr (by assumption) | cases q
 . have q:=h4 y hy;rcases e with e | e <;> (simp only [e,lN,dr] at q;exact q)
section
variable {κ:Type} [DecidableEq κ]
noncomputable def cq (aG:List (κ×V)) (k:κ):Option V:=(aG.find? λkv=>decide (kv.1=k)).map (·.2)
noncomputable def putK (aG:List (κ×V)) (k:κ) (v:V):List (κ×V):=
 if (aG.any λkv=>decide (kv.1=k))=true then aG.map (λkv=>if kv.1=k then (kv.1,v) else kv) else aG++ [(k,v)]
def N6 (aG:List (κ×V)) (k:κ):List (κ×V):=aG.filter λkv=>decide (kv.1≠k)
def eW {p:κ×V} {r:List (κ×V)} {k:κ} (e:p.1=k):cq (p :: r) k=some p.2:=by simp [cq,dW,e]
def eX {p:κ×V} {r:List (κ×V)} {k:κ} (e:¬p.1=k):cq (p :: r) k=cq r k:=by simp [cq,dW,e]
theorem t9 (k:κ):∀aG:List (κ×V),(aG.any λkv=>decide (kv.1=k))=(cq aG k).isSome
 | []=>rfl
 | p :: r=>by
  rw [jq];by_cases e:p.1=k
  . simp only [eW e,qV e,qZ,Option.isSome_some]
  . rw [eX e,dG e,jB];exact t9 k r
theorem Dk (k j:κ) (y:V):∀aG:List (κ×V),cq (aG.map λkv=>if kv.1=k then (kv.1,y) else kv) j=(cq aG j).map λx=>if j=k then y else x
 | []=>rfl
 | p :: r=>by
  have ih:=Dk k j y r;rw [bF];by_cases h:p.1=k
  . rw [ah h];by_cases e:p.1=j
    . rw [eW (p:=(p.1,y)) e,eW e,qS,ah (e.symm.trans h)]
    . rw [eX (p:=(p.1,y)) e,eX e,ih]
  . rw [ae h];by_cases e:p.1=j
    . rw [eW (p:=p) e,eW e,qS,ae (λz=>h (e.trans z))]
    . rw [eX (p:=p) e,eX e,ih]
theorem Ba (k j:κ) (y:V):∀aG:List (κ×V),cq aG k=none->cq (aG++ [(k,y)]) j=if j=k then some y else cq aG j
 | [],_=>by
  by_cases e:k=j
  . rw [ah e.symm];exact eW (p:=(k,y)) e
  . rw [ae (λz=>e z.symm)];exact eX (p:=(k,y)) e
 | p :: r,hn=>by
  rw [lK];have hk:¬p.1=k:=λz=>by rw [eW z] at hn;cases hn
  rw [eX hk] at hn;have ih:=Ba k j y r hn;by_cases e:p.1=j
  . rw [eW e,eW e,ae (λz=>hk (e.trans z))]
  . rw [eX e,eX e,ih]
def t_ (aG:List (κ×V)) (k j:κ) (y:V):cq (putK aG k y) j=if j=k then some y else cq aG j:=by
 unfold putK;by_cases a:(aG.any λkv=>decide (kv.1=k))=true
 . rw [ah a,Dk];rw [t9] at a;by_cases e:j=k
   . obtain ⟨x,hx⟩:=vA.mp a;rw [ah e,e,hx,qS,ah rfl]
   . rw [ae e];cases cq aG j with
     | none=>rfl
     | some x=>rw [qS,ae e]
 . rw [ae a];refine Ba k j y aG ?_;rw [t9] at a;cases q:cq aG k with
   | none=>rfl
   | some x=>rw [q] at a;exact (a rfl).elim
theorem dk (aG:List (κ×V)) (k:κ) (v:V):(putK aG k v).length<=aG.length+1:=by
 unfold putK;split
 . rw [aB];lia
 . rw [ao,aT,fQ];lia
def jE.jv {o:Option V} {u:Option Value} (r:jE o u):o.isSome=u.isSome:=by
 cases o with
 | none=>cases u with
  | none=>rfl
  | some _=>exact (show False from r).elim
 | some _=>cases u with
  | none=>exact (show False from r).elim
  | some _=>rfl
def jE.getD {o:Option V} {u:Option Value} {d:V} {d':Value} (r:jE o u) (rd:RelV d d'):RelV (o.getD d) (u.getD d'):=by
 cases o with
 | none=>cases u with
  | none=>exact rd
  | some _=>exact (show False from r).elim
 | some _=>cases u with
  | none=>exact (show False from r).elim
  | some _=>exact r
def KV.val {aG:List (κ×V)} {vs:List (κ×Value)} (r:KV aG vs) (k:κ):jE (cq aG k) (valueAt vs k):=by
 unfold KV at r;induction r with
 | nil=>exact au
 | @cons p q ps qs h t ih=>
  ext h h1 h2;by_cases e:p.1=k
  . have e':q.1=k:=h1.symm.trans e;have b:valueAt (q :: qs) k=some q.2:=by simp [valueAt,dW,e']
    rw [eW e,b];exact h2
  . have e':¬q.1=k:=λz=>e (h1.trans z);have b:valueAt (q :: qs) k=valueAt qs k:=by simp [valueAt,dW,e']
    rw [eX e,b];exact ih
def KV.any {aG:List (κ×V)} {vs:List (κ×Value)} (r:KV aG vs) (k:κ):(aG.any λkv=>decide (kv.1=k))=vs.any λkv=>decide (kv.1=k):=by
 unfold KV at r;induction r with
 | nil=>rfl
 | cons h t ih=>rw [jq,jq,ih,h.1]
def KV.repl {aG:List (κ×V)} {vs:List (κ×Value)} (r:KV aG vs) (k:κ) (ry:RelV y u):
 KV (aG.map λkv=>if kv.1=k then (kv.1,y) else kv) (vs.map λkv=>if kv.1=k then (kv.1,u) else kv):=by
 unfold KV at r ⊢;induction r with
 | nil=>exact .nil
 | @cons p q ps qs h t ih=>
  rw [bF,bF];refine .cons ?_ ih;ext h h1 h2;by_cases e:p.1=k
  . rw [ah e,ah (h1.symm.trans e)];exists h1,ry
  . rw [ae e,ae (λz=>e (h1.trans z))];exists h1,h2
def KV.put {aG:List (κ×V)} {vs:List (κ×Value)} (r:KV aG vs) (k:κ) (ry:RelV y u):KV (putK aG k y) (stored vs k u):=by
 unfold putK stored;rw [r.any k];by_cases e:(vs.any λkv=>decide (kv.1=k))=true
 . rw [ah e,ah e];exact r.repl k ry
 . rw [ae e,ae e];exact Paired.snoc r #[rfl,ry]
def KV.drop {aG:List (κ×V)} {vs:List (κ×Value)} (r:KV aG vs) (k:κ):KV (N6 aG k) (without vs k):=by
 unfold KV at r ⊢;unfold N6 without;induction r with
 | nil=>exact .nil
 | @cons p q ps qs h t ih=>
  ext h h1 h2;rw [List.filter_cons,List.filter_cons];by_cases e:p.1=k
  . have a:¬decide (p.1≠k)=true:=by simp [e]
    have b:¬decide (q.1≠k)=true:=by simp [h1.symm.trans e]
    rw [ae a,ae b];exact ih
  . have e':¬q.1=k:=λz=>e (h1.trans z);have a:decide (p.1≠k)=true:=by simp [e]
    have b:decide (q.1≠k)=true:=by simp [e']
    rw [ah a,ah b];exact .cons #[h1,h2] ih
def KV.length {aG:List (κ×V)} {vs:List (κ×Value)} (r:KV aG vs):aG.length=vs.length:=qX r
end
def wZ {k:Key} (r:RelV (kV k) u):(cz P w).is k u=true:=by
 cases k with
 | inl i=>obtain ⟨t,e⟩:=(show∃t,u=Value.int i t from r);subst e;exact C5 P w i t
 | inr x=>obtain ⟨t,e⟩:=(show∃t,u=Value.str x t from r);subst e;exact C6 P w x t
theorem Bb:∀{ks:List Key} {us:List Value},Vals (ks.map kV) us->ItemsAre (cz P w) ks us
 | [],_,r=>by rw [cB] at r;cases r;exact .nil
 | k :: ks,_,r=>by
  rw [bF] at r;cases r with
  | cons h t=>exact .cons (wZ h) (Bb t)
abbrev KT (H:Hp):List (List Key×V)->List (List Key×Addr×Value)->Prop:=Paired λp q=>p.1=q.1/\H q.2.1=some (.tup (p.1.map kV))/\RelV p.2 q.2.2
def KT.val {xs:List (List Key×Addr×Value)} (r:KT H aG xs) (k:List Key):jE (cq aG k) ((atKey xs k).map (·.2)):=by
 induction r with
 | nil=>exact au
 | @cons p q ps qs h t ih=>
  ext h h1 _ h2;by_cases e:p.1=k
  . have e':q.1=k:=h1.symm.trans e;have b:atKey (q :: qs) k=some q.2:=by simp [atKey,dW,e']
    rw [eW e,b];exact h2
  . have e':¬q.1=k:=λz=>e (h1.trans z);have b:atKey (q :: qs) k=atKey qs k:=by simp [atKey,dW,e']
    rw [eX e,b];exact ih
def KT.repl {xs:List (List Key×Addr×Value)} (r:KT H aG xs) (k:List Key) (ry:RelV y u):
 KT H (aG.map λkv=>if kv.1=k then (kv.1,y) else kv) (xs.map (putAt k u)):=by
 induction r with
 | nil=>exact .nil
 | @cons p q ps qs h t ih=>
  rw [bF,bF];refine .cons ?_ ih;ext h h1 h2 h3;unfold putAt;by_cases e:p.1=k
  . rw [ah e,ah (h1.symm.trans e)];exists h1,h2,ry
  . rw [ae e,ae (λz=>e (h1.trans z))];exists h1,h2,h3
def KT.put {xs:List (List Key×Addr×Value)} (r:KT H aG xs) (k:List Key) (hb:H b=some (.tup (k.map kV))) (ry:RelV y u):
 KT H (putK aG k y) (storedH xs k b u):=by
 have e:(aG.any λkv=>decide (kv.1=k))=(atKey xs k).isSome:=by
  rw [t9,(r.val k).jv,lI]
 unfold putK storedH;rw [e];by_cases q:(atKey xs k).isSome=true
 . rw [ah q,ah q];exact r.repl k ry
 . rw [ae q,ae q];exact Paired.snoc r #[rfl,hb,ry]
def KT.keeps {xs:List (List Key×Addr×Value)} (r:KT H aG xs) (ht:∀b ys,H b=some (.tup ys)->H' b=some (.tup ys)):KT H' aG xs:=
 Paired.O4 r λ_ _ z=>#[z.1,ht _ _ z.2.1,z.2.2]
section
def N7 {u:HO} (ok:lX P w H h) (e:Rd H a u):dc P w H h a u:=e.ok ok
def Dl {aG:List (Key×V)} (ok:lX P w H h) (e:Rd H a (.dK aG)):aG.length<=sizeLine/\(a == sysModules)=false/\∃vs,KV aG vs/\h.DictOf (cz P w) a vs:=
 show dc P w H h a (.dK aG) from N7 ok e
def RA {aG:List (Key×V)} (ok:lX P w H h) (e:H a=some (.dK aG)):aG.length<=sizeLine/\(a == sysModules)=false/\∃vs,KV aG vs/\h.DictOf (cz P w) a vs:=Dl ok (.inl e)
def yN {ks:List Key} (ok:lX P w H h) (e:H a=some (.tup (ks.map kV))):(tupleKind (cz P w)).is h ks a:=by
 obtain ⟨_,bU,r,o,h1,h2,n,h3⟩:=(show dc P w H h a (.tup (ks.map kV)) from ok a _ e);exists o,bU.toArray,n,h1,h2,h3,~~~(Bb r)
def Dm (ok:lX P w H h) (e:Rd H a (.dT aG)):aG.length<=sizeLine/\(a == sysModules)=false/\
 ∃xs,KT H aG xs/\h.DictOfH (tupleKind (cz P w)) a xs:=by
 obtain ⟨z,y,xs,r,o,es,ep,h1,h2,h3,h4,h5⟩:=(show dc P w H h a (.dT aG) from N7 ok e);exists z,y,xs,r,o,es,ep,h1,h2,h3,h4,λx hx=>?_,h5;have all:∀{l:List (List Key×V)} {m:List (List Key×Addr×Value)},KT H l m->∀x∈m,(tupleKind (cz P w)).is h x.1 x.2.1:=by
  intro l m q;induction q with
  | nil=>intro x hx;exact nomatch hx
  | @cons p q ps qs hq t ih=>
   intro x hx;rcases aF.mp hx with e | hx
   . subst e;exact yN ok (by rw [<-hq.1];exact hq.2.1)
   . exact ih x hx
 exact all r x hx
def RB (ok:lX P w H h) (e:H a=some (.dT aG)):aG.length<=sizeLine/\(a == sysModules)=false/\
 ∃xs,KT H aG xs/\h.DictOfH (tupleKind (cz P w)) a xs:=Dm ok (.inl e)
end
def ua (H:Hp) (a:Addr) (y:V) (r:Option V):Prop:=
 (∃aG k,Rd H a (.dK aG)/\y=kV k/\r=cq aG k)\/∃aG k b,Rd H a (.dT aG)/\y= .ref b/\H b=some (.tup (k.map kV))/\r=cq aG k
def wA (H:Hp) (a:Addr) (y v:V) (H':Hp):Prop:=
 (∃aG k,H a=some (.dK aG)/\y=kV k/\aG.length < sizeLine/\H'=upd H a (.dK (putK aG k v)))\/
 ∃aG k b,H a=some (.dT aG)/\y= .ref b/\H b=some (.tup (k.map kV))/\aG.length < sizeLine/\H'=upd H a (.dT (putK aG k v))
def ua.k {aG:List (Key×V)} {k:Key} (e:H a=some (.dK aG)):ua H a (kV k) (cq aG k):= .inl #[aG,k,.inl e,rfl,rfl]
def ua.t {k:List Key} (e:H a=some (.dT aG)) (eb:H b=some (.tup (k.map kV))):ua H a (.ref b) (cq aG k):= .inr #[aG,k,b,.inl e,rfl,eb,rfl]
def wA.k {aG:List (Key×V)} {k:Key} (e:H a=some (.dK aG)) (hl:aG.length < sizeLine):wA H a (kV k) v (upd H a (.dK (putK aG k v))):= .inl #[aG,k,e,rfl,hl,rfl]
def wA.t {k:List Key} (e:H a=some (.dT aG)) (eb:H b=some (.tup (k.map kV))) (hl:aG.length < sizeLine):
 wA H a (.ref b) v (upd H a (.dT (putK aG k v))):= .inr #[aG,k,b,e,rfl,eb,hl,rfl]
section
variable {r:Value} {o:Option V}
def Inv.big (I:Inv X pN Z H s):sysModules < s.heap.objs.size:=by
 have h:mainGlobals < s.heap.objs.size:=(I.mod.glob.keeps I.bk).lt;exact lU ∅ h
def HM (hu:A.units+1 < cLine) (I:Inv X pN Z H s) (g:ua H a y (some v)) (ry:RelV y u) (h:∀w' s',Inv X pN Z H s'->RelV v w'->Q w' s'):
 wpAny (model X.prog X.w) A (getItem (.ref a) u) Q E s:=by
 rcases g with ⟨aG,k,e,ey,l⟩ | ⟨aG,k,b,e,ey,eb,l⟩
 . subst ey;obtain ⟨z,hd,vs,rel,dd⟩:=Dl I.bQ e;obtain ⟨w',hw,JF⟩:=jE.some_of (v:=v) (o:=valueAt vs k) (by rw [l];exact rel.val k);exact wpAny_getItem_of (wZ ry) dd.mapOf hw (h w' _ (I.tok _) JF)
 . subst ey;cases (show u=Value.ref b from ry);obtain ⟨z,hd,xs,rel,dd⟩:=Dm I.bQ e;obtain ⟨w',hw,JF⟩:=jE.some_of (v:=v) (o:=(atKey xs k).map (·.2)) (by rw [l];exact rel.val k);obtain ⟨p,hp,hp2⟩:=gC.mp hw;refine wpAny_getItem_heap (qG hu) (yN I.bQ eb) dd hp ?_;rw [hp2];exact h w' _ (I.tok _) JF
def Vb (hu:A.units+1 < cLine) (I:Inv X pN Z H s) (g:ua H a y o) (ry:RelV y u) (h:∀s',Inv X pN Z H s'->Q (.bool o.isSome) s'):
 wpAny (model X.prog X.w) A (compareOp .In u (.ref a)) Q E s:=by
 rcases g with ⟨aG,k,e,ey,l⟩ | ⟨aG,k,b,e,ey,eb,l⟩
 . subst ey;obtain ⟨z,hd,vs,rel,dd⟩:=Dl I.bQ e;refine wpAny_in_of (wZ ry) hd dd.mapOf ?_;rw [<-(rel.val k).jv,<-l];exact h _ (I.tok _)
 . subst ey;cases (show u=Value.ref b from ry);obtain ⟨z,hd,xs,rel,dd⟩:=Dm I.bQ e;refine wpAny_in_heap (qG hu) (yN I.bQ eb) hd dd ?_;have q:=(rel.val k).jv;rw [lI] at q;rw [<-q,<-l];exact h _ (I.tok _)
def MF (hu:A.units+1 < cLine) (I:Inv X pN Z H s) (g:ua H a y o) (ry:RelV y u) (h:∀s',Inv X pN Z H s'->Q (.bool (!o.isSome)) s'):
 wpAny (model X.prog X.w) A (compareOp .NotIn u (.ref a)) Q E s:=by
 rcases g with ⟨aG,k,e,ey,l⟩ | ⟨aG,k,b,e,ey,eb,l⟩
 . subst ey;obtain ⟨z,hd,vs,rel,dd⟩:=Dl I.bQ e;refine wpAny_notIn_of (wZ ry) hd dd.mapOf ?_;rw [<-(rel.val k).jv,<-l];exact h _ (I.tok _)
 . subst ey;cases (show u=Value.ref b from ry);obtain ⟨z,hd,xs,rel,dd⟩:=Dm I.bQ e;refine wpAny_notIn_heap (qG hu) (yN I.bQ eb) hd dd ?_;have q:=(rel.val k).jv;rw [lI] at q;rw [<-q,<-l];exact h _ (I.tok _)
def GB {ob:HO} (I:Inv X pN Z H s) (mu:O5 (H a)) (hs:Heap.SameBut a s.heap h') (he:∃q,h'.get? a=some q) (new:dc X.prog X.w (upd H a ob) h' a ob):
 Inv X pN Z (upd H a ob) {s with heap:=h',toks:=t'}:=
 I.write (x:=a) (e:=a) mu (.inl rfl) (λb q hb z=>(hs.2 b hb).trans z) he new
def PB {aG:List (Key×V)} {vs:List (Key×Value)} (z:aG.length<=sizeLine) (hd:(a == sysModules)=false) (rel:KV aG vs) (dd:h'.DictOf (cz P w) a vs):
 dc P w H' h' a (.dK aG):=#[z,hd,vs,rel,dd]
theorem HN {Q:Unit->Shared->Prop} (hu:A.units+1 < cLine) (I:Inv X pN Z H s) (g:wA H a y v H') (ry:RelV y u) (rv:RelV v r) (h:∀s',Inv X pN Z H' s'->Q () s'):
 wpAny (model X.prog X.w) A (setItem (.ref a) u r) Q E s:=by
 rcases g with ⟨aG,k,e,ey,l,eH⟩ | ⟨aG,k,b,e,ey,eb,l,eH⟩
 . subst ey eH;obtain ⟨z,hd,vs,rel,dd⟩:=RA I.bQ e;have hz:vs.length<=sizeLine:=by rw [<-rel.length];exact z
   have hl:(putK aG k v).length<=sizeLine:=by have:=dk aG k v;lia
   refine wpAny_setItem_pairs (hsz:=hz) (wZ ry) dd λh' Tt hs=>h _ ?_;have he:∃q,h'.get? a=some q:=let #[q,_,_,hq,_]:=Tt;#[q,hq];exact GB I (by rw [e];exact au) hs he (PB hl hd (rel.put k rv) Tt)
 . subst ey eH;cases (show u=Value.ref b from ry);obtain ⟨z,hd,xs,rel,dd⟩:=RB I.bQ e;have hz:xs.length<=sizeLine:=by rw [<-qX rel];exact z
   have hl:(putK aG k v).length<=sizeLine:=by have:=dk aG k v;lia
   refine wpAny_setItem_heap (hsz:=hz) (qG hu) (yN I.bQ eb) dd λh' Tt hs=>h _ ?_;ext Tt q es ep hq h2 h3 h4 _ h5;refine GB I (by rw [e];exact au) hs #[q,hq] #[hl,hd,_,(rel.put k eb rv).keeps λc ys ec=>?_,q,es,ep,hq,h2,h3,h4,h5];rw [aA (Q9 ec e (λz=>nomatch z))];exact ec
end
def PC (i:Expr):= ∀ov iv,subscripted i false ov iv=operate [ov,iv] (getItem ov iv)
def GC {value slice:Expr} {id:String} (hl:typeLookup (.type T) "__getitem__" = pure (some (.builtin id))) (hs:PC slice) (h:wpAny (model prog w) A (eval value env) (λo s₁=>wpAny (model prog w) A (eval slice env) (λi s₂=>s₂.TypeIs o T/\wpAny (model prog w) A (getItem o i) Q E s₂) E s₁) E s):
 wpAny (model prog w) A (eval (.Subscript value slice pos) env) Q E s:=by
 refine Subscript_ (bT h (λo s₁ h₁=>bT h₁ (λi s₂ h₂=>?_) λ_ _ x=>x) λ_ _ x=>x);ext h₂ hT h₂;unfold subscriptTail;refine aw ?_;rw [getitemInPython_of_ne hT.not_modules];refine aw (wpAny_specialOf hT hl ?_);have fin:wpAny (model prog w) A (subscripted slice false o i) (λr s₃=>wpAny (model prog w) A (letTemporaryGo value o r >>= λ_=>pure r) Q E s₃) E s₂:=by
  rw [hs o i];exact wpAny_operating (bT h₂ (λr s₃ h₃=>aw (wpAny_letTemporaryGo (bo h₃))) λ_ _ x=>x)
 first
  | exact bo (aw fin)
  | exact aw (bo (aw fin))
  | exact aw fin
def Dn {o:Option V} (I:Inv X pN Z H s) (g:ua H a y o):s.TypeIs (.ref a) "dict" :=by
 rcases g with ⟨aG,k,e,_,_⟩ | ⟨aG,k,b,e,_,_,_⟩
 . obtain ⟨_,_,vs,_,dd⟩:=Dl I.bQ e;exact dd.typeIs
 . obtain ⟨_,_,xs,_,dd⟩:=Dm I.bQ e;exact dd.typeIs
inductive Ww (Q:VK) (x y:V) (H:Hp):Prop | mk a v (_:x= .ref a) (_:ua H a y (some v)) (_:Q v H):Ww Q x y H
def RC (td ty:TE):TE:=λZ H Q=>td Z H ((λ(ty:TE) (Z:St) (Q:VK) (x:V) (H1:Hp)=>ty Z H1 (Ww Q x)) ty Z Q)
def RD (td ty tv:TE):TS:=λD Z H=>tv Z H ((λ(td ty:TE) (D:Ends) (Z:St) (v:V) (H1:Hp)=>td Z H1 ((λ(ty:TE) (D:Ends) (Z:St) (v x:V) (H2:Hp)=>ty Z H2 ((λ(D:Ends) (Z:St) (v x y:V) (H3:Hp)=> ∃a H4,x= .ref a/\wA H3 a y v H4/\D.nx Z H4) D Z v x)) ty D Z v)) td ty D Z)
section
variable {o i value:Expr} {td ty tv:TE}
def ic (ho:PE X o td) (hi:PE X i ty) (hu:X.A.units+1 < cLine:=by exact rP (by assumption)) (hs:PC i:=by exact λ_ _=>rfl):PE X (.Subscript o i pos) (RC td ty):=by
 intro pN s Z H Q I h;refine GC AI.lookup hs (dY (ho pN s Z H _ I h) λu s1 #[x,H1,I1,rx,q1]=>dY (hi pN s1 Z H1 _ I1 q1) λiv s2 hZ=>?_);ext hZ y H2 I2 ry a v ex g q2;subst ex;obtain rfl:u=Value.ref a:=rx;exists Dn I2 g,HM hu I2 g ry λw' s3 I3 JF=>#[v,H2,I3,JF,q2]
def m8 (ho:PE X o td) (hi:PE X i ty) (hv:PE X value tv) (hu:X.A.units+1 < cLine:=by exact rP (by assumption)) (hs:swapsWith value (some (.Subscript o i pos')) pos.line X.env=pure false:=by rfl):
 PS X (.Assign [.Subscript o i pos'] value pos) (RD td ty tv):=by
 intro pN s Z H D I h;refine wpAny_Assign_Subscript (dY (hv pN s Z H _ I h) λr s1 #[v,H1,I1,rv,q1]=>dY (ho pN s1 Z H1 _ I1 q1) λu s2 #[x,H2,I2,rx,q2]=>dY (hi pN s2 Z H2 _ I2 q2) λiv s3 hZ=>?_) hs;ext hZ y H3 I3 ry a H4 ex g q3;subst ex;obtain rfl:u=Value.ref a:=rx;exact HN hu I3 g ry rv λs4 I4=>#[Z,H4,I4,q3]
end
def JN (h:Heap) (hb:sysModules < h.objs.size):dc P w H (h.push {cls:= .type "dict",data:= .dict #[]}) h.objs.size (.dK []):=
 #[aD _,c4.mpr (bX (a9 hb)),[],.nil,Heap.DictOf.new h]
def PD:TE:=λ_ H Q=> ∀p,H p=none->Q (.ref p) (upd H p (.dK []))
section
def jH:PE X (.Dict [] [] pos) PD:=λpN s Z H Q I h=>
 wpAny_Dict_empty #[.ref s.heap.objs.size,_,I.laid (a:=s.heap.objs.size) (o:= .dK []) (t':=s.toks) (λ_ _ q=>bK _ q) (az _) (JN s.heap I.big),rfl,h _ (I.bQ.fresh (az _))]
end
def m9 (aG more:List (Key×V)):List (Key×V):=more.foldl (λacc kv=>putK acc kv.1 kv.2) aG
def KV.merge:∀{more:List (Key×V)} {rs:List (Key×Value)} {aG:List (Key×V)} {vs:List (Key×Value)},KV more rs->KV aG vs->KV (m9 aG more) (merged vs rs):=by
 intro more rs aG vs r;unfold KV at r;induction r generalizing aG vs with
 | nil=>intro q;exact q
 | @cons p q ps qs h t ih=>
  intro r0;have e:KV (putK aG p.1 p.2) (stored vs q.1 q.2):=by
   have:=r0.put p.1 h.2;rw [<-h.1];exact this
  exact ih e
theorem rQ:∀(more aG:List (Key×V)),(m9 aG more).length<=aG.length+more.length
 | [],aG=>by show aG.length<=aG.length+0;lia
 | p :: r,aG=>by
  have h1:=rQ r (putK aG p.1 p.2);have h2:=dk aG p.1 p.2;show (m9 (putK aG p.1 p.2) r).length<=_;rw [aT];lia
structure M1 (X:Cx) (o:Expr) (m:Str) (apos:Pos) (e:Expr) (eU:Pos):Prop where
 base:attributeBase o m X.env (eval o X.env)=eval o X.env
 few:((backTo eU (starEach [e] X.env)).all (λx=>!x.1) && (backToKw eU (keywordEach [] X.env)).all (λx=>x.1.isSome)
  && decide (([e]:List Expr).length+([]:List Keyword).length+(if ([]:List Keyword).isEmpty then 0 else 1) < 30))=true
 line:(apos.endLine == eU.line)=true
 trees:backTo eU (starEach [e] X.env)= [(false,eval e X.env)]
structure M2 (X:Cx) (o:Expr) (m:Str) (apos:Pos) (e f:Expr) (eU:Pos):Prop where
 base:attributeBase o m X.env (eval o X.env)=eval o X.env
 few:((backTo eU (starEach [e,f] X.env)).all (λx=>!x.1) && (backToKw eU (keywordEach [] X.env)).all (λx=>x.1.isSome)
  && decide (([e,f]:List Expr).length+([]:List Keyword).length+(if ([]:List Keyword).isEmpty then 0 else 1) < 30))=true
 line:(apos.endLine == eU.line)=true
 trees:backTo eU (starEach [e,f] X.env)= [(false,eval e X.env),(false,eval f X.env)]
def yO:typeLookup (.type "list") "keys" = pure none:=am_miss_of_fast (by first | decide+kernel | rfl)
def Do:entryFor table "dict.update.loop" = some Builtin.«dict.update.loop» :=entryFor_of_tree #v[]
def oX:plainId "dict.update.loop" = true:=by decide+kernel
section
def HP {o:Obj} {xs:Array Value} {k:Nat} {Q:Option Value->Shared->Prop} (hx:s.heap.get? a=some o) (hc:o.cls= .type "list") (hdat:o.data= .seq xs k) (hd:o.dict=none) (hA:A.handled=none) (h:∀h' tk,(∀b ob,s.heap.get? b=some ob->h'.get? b=some ob)->Q none {s with heap:=h',toks:=tk}):wpAny (model prog w) A (getAttr? (.ref a) "keys") Q E s:=by
 ext o c dct dat sl;simp only at hc hdat hd;subst hc hdat hd;ext s hp g d tk os;have hT:∀tk',(#[hp,g,d,tk',os]:Shared).TypeIs (.ref a) "list" :=λ_=>#[_,hx,rfl];have hmiss:=yO;have hname:(["__module__","__name__","__qualname__","__doc__","__annotations__"]:List Str).contains "keys" = false:=by decide+kernel
 have hsz:("keys" :Str).length+100<=sizeLine:=by first | size_fits | decide+kernel
 have f1:=sub_AttributeError;have f3:=slot_list_getattribute.lookup;have f4:=slot_list_getattribute.bind (.ref a);have f5:=am_list_getattr_none;unfold getAttr? getAttrBy? getAttrBy;repeat (any_goals (first | assumption | exact hT _ | ((with_reducible show wpAny _ _ (call (Value.builtin "list.__getattribute__") _ _) _ _ _);refine call_meets slot_list_getattribute (hT _) am_entry_list_getattribute (PySem.F.args_list_getattribute_2 _ _) (meets_getattribute_miss_list a xs k sl "keys" _ hmiss hname hsz) #[hx,hA,λh' tk' e hx'=>?_]) | wp_step))
 ext hx'.there t' u' he;show wpAny _ _ (getattributeRaised _ _ _ _ _ _ _) _ _ _;unfold getattributeRaised;repeat (any_goals (first | assumption | wp_step))
 all_goals first | exact h _ _ hx'.keeps | (dsimp only;repeat (any_goals (first | assumption | exact h _ _ hx'.keeps | wp_step)))
theorem Dq {S I:Addr} {items:Array Value} {res:Value} (hh:A.handled=none) (hlI:l≠I) (hSI:S≠I) (hSl:S≠l):
 ∀(rest:List (Key×Value)) (i:Nat) (acc:List (Key×Value)) (ix:Int) (t:Tok) (s:Shared),items.size=i+rest.length->acc.length+rest.length<=sizeLine->
  (∀(j:Nat) (q:Key×Value),rest[j]? = some q->∃(b:Addr) (u:Value),items[i+j]? = some (.ref b)/\b≠S/\b≠I/\IsTup s.heap b (List.toArray [u,q.2])/\lW q.1 u=true)->
  s.heap.IsListIter I l i->s.heap.IsList l items->s.heap.DictOf (cz prog w) S acc->
  (∀h' tk,h'.DictOf (cz prog w) S (merged acc rest)->(∀b o,b≠S->b≠I->s.heap.get? b=some o->h'.get? b=some o)->R (.ok (.ret res)) {s with heap:=h',toks:=tk})->
  codeAny (model prog w) A (.builtin "dict.update.loop" #[[.ref S,.ref I,.int ix t,res],[]]) R s
 | [],i,acc,ix,t,s,hsz,nR,ht,hit,hl,hm,hR=>by
  refine codeAny_builtin Do ?_;rw [Around.under_plainId oX _];show wpAny _ A.in1 (pyNext (.ref I) >>= _) _ _ s;refine aw (wpAny_pyNext_list_end (A:=A.in1) hh hit hl (by first | exact AO (gD hsz) | (simp at hsz;simp;lia)) λh' he=>?_);show wpAny _ A.in1 (Builtin.Dict.addKeywords S [] >>= _) _ _ _;refine aw (bo (bo ?_));exact hR h' s.toks (hm.extBut he hSI) λb o _ hb e=>he b o hb e
 | q :: rest,i,acc,ix,t,s,hsz,nR,ht,hit,hl,hm,hR=>by
  obtain ⟨b,u,hb,hbS,hbI,htup,hk⟩:=ht 0 q rfl;rw [aT] at hsz nR;refine codeAny_builtin Do ?_;rw [Around.under_plainId oX _];show wpAny _ A.in1 (pyNext (.ref I) >>= _) _ _ s;refine aw (wpAny_pyNext_list_item (x:= .ref b) hit hl (~~~hb) λh1 hit1 hs1=>?_);have ht1:IsTup h1 b (List.toArray [u,q.2]):=htup.extBut hs1.extBut hbI;have hl1:h1.IsList l items:=hl.extBut hs1.extBut hlI;have hm1:h1.DictOf (cz prog w) S acc:=hm.extBut hs1.extBut hSI;obtain ⟨o,ho,hc,n,hd⟩:=id ht1;show wpAny _ A.in1 (holding [Value.ref b] _ >>= _) _ _ _;refine aw (wpAny_holding ?_);refine aw (wpAny_tryCatch ?_);unfold Builtin.Dict.pairItems;refine aw (wpAny_typeOf (T:= "tuple") #[o,ho,hc] ?_);rw [ah (by first | decide | rfl | simp)];refine aw (wpAny_seqItems ho hd (bo ?_));show wpAny _ A.in1 (holding [u,q.2] (dictSet S u q.2)) _ _ _;refine wpAny_holding (wpAny_dictSet_pairs (knd:=cz prog w) (k:=q.1) hk hm1 (λh2 hm2 hs2=>?_) (by lia));refine bo #[plainId_quiet oX _,Dq (items:=items) hh hlI hSI hSl rest (i+1) (stored acc q.1 q.2) (ix+1) 0 _ (show items.size=i+1+rest.length by lia) ?_ (λj q' e=>?_) ?_ ?_ hm2 λh' tk hd' k=>?_]
  . have z:=stored_length_le acc q.1 q.2;lia
  . obtain ⟨b',u',hb',RE,RF,RG,hk'⟩:=ht (j+1) q' (~~~e);exists b',u',?_,RE,RF,(RG.extBut hs1.extBut RF).extBut hs2.extBut RE,hk';rw [show i+1+j=i+(j+1) by lia];exact hb'
  . exact hit1.at λo' e=>hs2.extBut I o' (bX hSI) e
  . exact hl1.extBut hs2.extBut (bX hSl)
  . exact hR h' tk hd' λc oc h3 h4 e=>k c oc h3 h4 (hs2.extBut c oc h3 (hs1.extBut c oc h4 e))
def xS {ol:Obj} {prs:List (Key×Value)} (hh:A.handled=none) (hl:s.heap.get? l=some ol) (hc:ol.cls= .type "list") (hd:ol.dict=none) (hdat:ol.data= .seq items n) (hsz:items.size=prs.length) (nR:prs.length<=sizeLine) (ht:∀(j:Nat) (q:Key×Value),prs[j]? = some q->∃(b:Addr) (u:Value),items[j]? = some (.ref b)/\IsTup s.heap b (List.toArray [u,q.2])/\lW q.1 u=true) (h:∀h' tk,h'.DictOf (cz prog w) s.heap.objs.size (merged [] prs)->(∀b o,s.heap.get? b=some o->h'.get? b=some o)->Q (.ref s.heap.objs.size) {s with heap:=h',toks:=tk}):
 wpAny (model prog w) A (call (.type "dict") [.ref l]) Q E s:=by
 refine callType_codes (Q₁:=λobj s₁=>obj= .ref s.heap.objs.size/\s₁={s with heap:=s.heap.push {cls:= .type "dict",data:= .dict #[]}}) PySem.F.kt_called_dict (PySem.F.kt_typeCall_dict_1 _) PySem.F.entry_dict_init (kt_code_dict_new _ #[rfl,rfl]) ?_;rintro obj s₁ ⟨rfl,rfl⟩;have hnew:(s.heap.push {cls:= .type "dict",data:= .dict #[]}).DictOf (cz prog w) s.heap.objs.size []:=Heap.DictOf.new s.heap;have k0:∀b o,s.heap.get? b=some o->(s.heap.push {cls:= .type "dict",data:= .dict #[]}).get? b=some o:=λb o e=>bK _ e;exists hnew.typeIs,PySem.F.args_dict_init_2 _ _,?_;unfold Builtin.«dict.__init__»;refine aw ?_;unfold Builtin.Dict.selfAndRest;refine aw (wpAny_notOrdered_dict hnew.typeIs ?_);show wpAny _ _ (pure (s.heap.objs.size,[Value.ref l])) _ _ _;refine bo ?_;show wpAny _ _ (Builtin.Dict.updateFrom "dict.__init__" s.heap.objs.size (.ref l) [] .none) _ _ _;unfold Builtin.Dict.updateFrom;refine aw (wpAny_typeOf (T:= "list") #[ol,k0 _ _ hl,hc] ?_);rw [ah (by first | decide | rfl | simp)];refine aw (HP (k0 _ _ hl) hc hdat hd hh λh1 XS hk1=>?_);rw [ah (show (none:Option Value).isNone=true from rfl)];refine aw (wpAny_rule ?_);have hl1:h1.IsList l items:=#[ol,hk1 _ _ (k0 _ _ hl),hc,n,hdat];have hS1:s.heap.objs.size < h1.objs.size:=by
  have e:(s.heap.push {cls:= .type "dict",data:= .dict #[]}).get? s.heap.objs.size=some {cls:= .type "dict",data:= .dict #[]}:=cJ _ rfl;exact aI (hk1 _ _ e)
 refine aw (vP hl1 ?_);have k2:∀b o,h1.get? b=some o->(h1.push {cls:= .type "list_iterator",data:= .fields (List.toArray [.ref l,.int 0 0])}).get? b=some o:=λb o e=>bK _ e;have iU:l < s.heap.objs.size:=aI hl;have key:=Dq (prog:=prog) (w:=w) (A:=A.in1) (R:=wants (λr s₂=>r= .none/\Q (.ref s.heap.objs.size) s₂) E) (S:=s.heap.objs.size) (I:=h1.objs.size) (l:=l) (items:=items) (res:=Value.none) hh
  (a9 (lU iU hS1)) (a9 hS1) (fU iU) prs 0 [] 0 0
  {s with heap:=h1.push {cls:= .type "list_iterator",data:= .fields (List.toArray [.ref l,.int 0 0])},toks:=XS} (by rw [hsz,q0]) (by rw [fQ,q0];exact nR)
  (λj q e=>by
   obtain ⟨b,u,e1,e2,e3⟩:=ht j q e;have hb:b < s.heap.objs.size:=e2.lt;exists b,u,by rw [q0];exact e1,a9 hb,a9 (lU hb hS1),e2.keeps λc o z=>k2 _ _ (hk1 _ _ (k0 _ _ z)),e3)
  #[_,cJ _ rfl,rfl,rfl] (hl1.at λo e=>k2 _ _ e) ((hnew.at λo e=>hk1 _ _ e).at λo e=>k2 _ _ e)
  (λh' tk hd' k=>#[rfl,h h' tk hd' λb o e=>k b o (a9 (aI e)) (a9 (lU (aI e) hS1)) (k2 _ _ (hk1 _ _ (k0 _ _ e)))])
 first
  | exact bo #[plainId_quiet oX _,key]
  | exact aw (bo (bo #[plainId_quiet oX _,key]))
end
section
theorem Dr (I:Inv X pN Z H s):∀{ps:List Addr} {aG:List (Key×V)},Paired (λp kv=>g9 X.K H p [kV kv.1,kv.2]) ps aG->
 ∃prs:List (Key×Value),KV aG prs/\prs.length=ps.length/\∀(j:Nat) (q:Key×Value),prs[j]? = some q->∃(b:Addr) (u:Value),ps[j]? = some b/\IsTup s.heap b (List.toArray [u,q.2])/\lW q.1 u=true
 | _,_,.nil=>#[[],.nil,rfl,λj q e=>by simp at e]
 | _,_,.cons (a:=p) (b:=kv) h t=>by
  obtain ⟨prs,r,hl,hp⟩:=Dr I t;obtain ⟨bU,rv,ht,_⟩:=I.tuple h;obtain ⟨u,y,ei,ru,ry⟩:=vals2 rv;subst ei;exists (kv.1,y) :: prs,.cons #[U,ry] r,by rw [aT,aT,hl],λj q e=>?_;cases j with
  | zero=>
   have e':(kv.1,y)=q:=bE e;subst e';exists p,u,U,ht,wZ (P:=X.prog) (w:=X.w) ru
  | succ j=>
   obtain ⟨b,u',e1,e2,e3⟩:=hp j q (~~~e);exists b,u',~~~e1,e2,e3
theorem GD:∀{ps:List Addr} {us:List Value},Vals (ps.map V.ref) us->us=ps.map Value.ref
 | [],us,r=>by
  rw [cB] at r;cases r;rfl
 | p :: ps,us,r=>by
  rw [bF] at r;cases r with
  | cons h t=>
   cases h;rw [bF,<-GD t]
def yP (hcalm:X.calm=true):gu X (.type "dict") (λxs H Q=> ∃(a:Addr) (ps:List Addr) (aG:List (Key×V)),xs= [.ref a]/\cw X.K H a (ps.map V.ref)/\Paired (λp kv=>g9 X.K H p [kV kv.1,kv.2]) ps aG/\
 ∀p,H p=none->Q (.ref p) (upd H p (.dK (m9 [] aG)))):=by
 intro pN s Z H xs us Q I r q;ext q a ps aG ex hq hp q;subst ex;obtain ⟨u,eu,rx⟩:=vals1 r;subst eu;cases rx;obtain ⟨bU,rv,pl,hz⟩:=I.list hq;have ei:=GD rv;subst ei;rw [aB] at hz;obtain ⟨prs,rel,hl,hpr⟩:=Dr I hp;ext pl o n ho hc hd hdat;refine xS (prs:=prs) (I.ok.hd hcalm) ho hc hd hdat (by simp [hl]) (by rw [hl];exact hz) (λj q' e=>?_) λh' tk hd' k=>?_
 . obtain ⟨b,u,e1,e2,e3⟩:=hpr j q' e;exists b,u,by simp [e1],e2,e3
 . have hm:(s.heap.objs.size == sysModules)=false:=c4.mpr (fU I.big);have hlen:(m9 [] aG).length<=sizeLine:=by
    refine aP (rQ aG []) ?_;rw [fQ,q0,rel.length,hl];exact hz
   exists .ref s.heap.objs.size,upd H s.heap.objs.size (.dK (m9 [] aG)),I.laid (t':=tk) k (az _) (show dc X.prog X.w _ _ _ (.dK (m9 [] aG)) from #[hlen,hm,merged [] prs,KV.merge rel .nil,hd']),U,q _ (I.bQ.fresh (az _))
end
section
def Inv.MG (I:Inv X pN Z H s) (k:∀b o,b∉ch->s.heap.get? b=some o->h'.get? b=some o) (hf:∀b∈ch,oy X pN H b):Inv X pN Z H {s with heap:=h',toks:=t'}:=by
 have NV:∀b u,H b=some u->b∉ch:=λb u e z=>by
  have q:=(hf b z).1;rw [q] at e;cases e
 refine I.step (g':=s.gens) (d':=s.drawn) (ch:=ch) (λb hb=>#[(hf b hb).2.2.2.1,(hf b hb).2.1,(hf b hb).2.2.2.2.1,(hf b hb).2.2.2.2.2]) (λb o _ _ hc e _=>k b o hc e) (λb o _ _ hc e _=>#[o.slots,k b o hc e])
  (λ_ _ _ _ n=>n) (λb o hc e=>#[o,k b o hc e]) (λ_ _ e=>e) (λ_ _ _ e=>e) (λb ps e=>#[#[],by rw [e];simp]) (λm hm=>?_) (λb u e=>?_) I.bare
 . ext hm o es ep ho r;exists o,es,ep,k _ o (λz=>(hf _ z).2.1 U) ho,r
 . refine (I.bQ b u e).stay (λc v hc q=>k c v ?_ q) (λ_ q=>q) λ_ _ q=>q;rcases hc with z | z
   . rw [z];exact NV b u e
   . exact NV c _ z
def Inv.Bc {T:Addr} {ob:HO} (I:Inv X pN Z H s) (k:∀b o,b∉ch->s.heap.get? b=some o->h'.get? b=some o) (hf:∀b∈ch,oy X pN H b) (hT:s.heap.objs.size<=T) (new:dc X.prog X.w (upd H T ob) h' T ob):Inv X pN Z (upd H T ob) {s with heap:=h',toks:=t'}:=by
 have hn:H T=none:=I.bQ.fresh hT;have NV:∀b u,H b=some u->b∉ch:=λb u e z=>by
  have q:=(hf b z).1;rw [q] at e;cases e
 refine I.step (g':=s.gens) (d':=s.drawn) (ch:=ch) (λb hb=>#[(hf b hb).2.2.2.1,(hf b hb).2.1,(hf b hb).2.2.2.2.1,(hf b hb).2.2.2.2.2]) (λb o _ _ hc e _=>k b o hc e) (λb o _ _ hc e _=>#[o.slots,k b o hc e])
  (λb o _ e n=>?_) (λb o hc e=>#[o,k b o hc e]) (λb xs e=>?_) (λb o u e=>?_) (λb ps e=>#[#[],?_]) (λm hm=>?_) (λb u e=>?_) I.bare
 . rw [aA (a9 (bw (aI e) hT))];exact n
 . rw [aA (bp e hn)];exact e
 . rw [aA (bp e hn)];exact e
 . rw [aA (bp e hn),e];simp
 . ext hm o es ep ho r;exists o,es,ep,k _ o (λz=>(hf _ z).2.1 U) ho,r
 . by_cases hb:b=T
   . subst hb;rw [aa] at e;cases e;exact new
   . rw [aA hb] at e;refine (I.bQ b u e).stay (λc v hc q=>k c v ?_ q) (λc q=>by rw [aA (bp q hn)];exact q) λc xs q=>by rw [aA (bp q hn)];exact q
     rcases hc with z | z
     . rw [z];exact NV b u e
     . exact NV c _ z
def Inv.lock {d:Addr} {u:HO} (I:Inv X pN Z H s) (h:H d=some u) (mu:O5 (some u)):∃od,Inv X pN Z (upd H d (.g8 od u)) s:=by
 have x:=I.bQ d u h;have ex:∃od,s.heap.get? d=some od:=by
  cases u with
  | lst xs=>ext x _ _ _ _ e;exists _,e
  | dK aG=>ext x _ _ _ _ o _ _ e _;exists o,e
  | dT aG=>ext x _ _ _ _ o _ _ e _;exists o,e
  | set S n=>ext x o _ _ _ e _;exists o,e
  | ins C dx fs=>ext x _ _ _ e _;exists _,e
  | ext φ=>ext x _ ⟨_,e⟩ _;exists _,e
  | _=>exact False.elim mu
 ext ex od e;have new:dc X.prog X.w (upd H d (.g8 od u)) s.heap d (.g8 od u):=by
  exists e,x.stay (λb v _ q=>q) (λb q=>?_) λb xs q=>?_
  . rw [aA (λz=>by rw [z,h] at q;cases q;exact mu)];exact q
  . rw [aA (λz=>by rw [z,h] at q;cases q;exact mu)];exact q
 exists od,I.write (x:=d) (e:=d) (t':=s.toks) (h':=s.heap) (by rw [h];exact mu) (.inl U) (λb v _ q=>q) #[od,e] new
end
section
def JO {R:It->Hp->Prop} {tn:Nat->Heap->Prop} {tk:Nat} (I:Inv X pN Z H s) (o:Obj) (T:Turn X.prog X.w X.K tg J [s.heap.objs.size] s.heap.objs.size tn) (st:tn 0 (s.heap.push o)) (q:R J H):PIE X pN Z tg R (.ref s.heap.objs.size) {s with heap:=s.heap.push o,toks:=tk}:=by
 exists s.heap.objs.size,[s.heap.objs.size],tn,J,H,U,I.kept λb ob e=>bK _ e,T,st,λb hb=>?_,q;have e:b=s.heap.objs.size:= ~~~hb
 subst e;exact I.Ak (az _) (I.bQ.fresh (az _))
end
def Wx (i j c:Int) (n:Nat):=c≠0/\c.natAbs < 1073741824/\Builtin.Range.small i j c=true/\Builtin.Range.rangeSize i j c=n
def Wx.neg {i j:Int} (ha: -(2 ^ 62)<=i) (ha':i < 2 ^ 62) (hb: -(2 ^ 62)<=j) (hb':j < 2 ^ 62):Wx i j (-1) (i - j).toNat:=
 #[∅,∅,PySem.W.small_down ha ha' hb hb',PySem.W.rangeSize_downNat i j]
def Its (x:Str):It:=#[λi _=>i < x.cps.size,λi H v H'=>H'=H/\∃c,x.cps[i]? = some c/\v= .str ⟨(List.toArray [c])⟩,λi _=>x.cps.size<=i]
def Ds (it:Addr) (x:Str) (t:Tok) (ty:String) (hty:ty= "str_ascii_iterator" \/ty= "str_iterator"):
 Turn P w K tg (Its x) [it] it (λi h=>h.IsStrIter it ty x t i) where
 mem:=by simp
 obj:=λi h st b hb=>by
  have e:b=it:= ~~~hb
  subst e;ext st o e c d;exists o,e,λv z=>by rw [d] at z;cases z
 keep:=λi h h' st k=>let #[o,ho,r]:=st;#[o,k it (by simp) o ho,r]
 item:=by
  intro X hP hw hK hc i pN s Z H E I hf st hg;subst hP hw hK;obtain ⟨f0,f1,f2,f3,f4,f5⟩:=hf it (by simp);have W:Walks X.prog X.w X.A it [it] [it] x.cps.size (SignAt x) (λi h=>h.IsStrIter it ty x t i):=by
   rcases hty with e | e
   . rw [e];exact Walks.strAscii (I.ok.hd hc) it x t
   . rw [e];exact Walks.strWide (I.ok.hd hc) it x t
  have md: ["enumerate","zip","dict_itemiterator","dict_reverseitemiterator","odict_iterator","itertools.zip_longest","itertools.pairwise"].contains ty=false:=by
   rcases hty with e | e
   . rw [e];decide
   . rw [e];decide
  refine W.item i s _ _ hg st λv h' tk hv st' kk=>?_;ext hv c u hcx rfl;have I1:Inv X pN Z H {s with heap:=h',toks:=tk}:=I.turned (λb o hb e=>kk b o (~~~hb) e) f0 f1 f3 f4 f5;obtain ⟨oi,e,cc,dd⟩:=id st';exists _,U,Jr (s:={s with heap:=h',toks:=tk}) e cc dd md #[.str ⟨(List.toArray [c])⟩,H,I1,#[u,U],#[U,c,hcx,U],st',λb hb=>(hf b hb).1]
 done:=by
  intro X hP hw hK hc i pN s Z H E I hf st hg;subst hP hw hK;obtain ⟨f0,f1,f2,f3,f4,f5⟩:=hf it (by simp);have hx:x.cps[i]? = none:=AO hg;rcases hty with e | e
  . rw [e] at st;exact wpAny_pyNext_ascii_end (I.ok.hd hc) st hx λh' eb=>#[rfl,I.turned (t':=s.toks) (λb o hb e=>eb b o hb e) f0 f1 f3 f4 f5]
  . rw [e] at st;exact wpAny_pyNext_wide_end (I.ok.hd hc) st hx λh' eb=>#[rfl,I.turned (t':=s.toks) (λb o hb e=>eb b o hb e) f0 f1 f3 f4 f5]
 self:=λA i s Q E st h=>by
  rcases hty with e | e
  . rw [e] at st;exact wpAny_pyIter_striter_ascii st h
  . rw [e] at st;exact wpAny_pyIter_striter_wide st h
def Vc (te:TE):TI:=λZ H R=>te Z H λv H1=> ∃x,v= .str x/\R (Its x) H1
def JP (he:PE X e te):PI X tg e (Vc te):=by
 intro pN s Z H R I h;refine dY (he pN s Z H _ I h) λv s1 hZ=>?_;ext hZ y H1 I1 r1 x ex q;subst ex;ext r1 t rfl;cases ha:x.cps.all (· < 128)
 . exact wpAny_pyIter_wide ha (JO (tk:=s1.toks) I1 _ (Ds _ x t "str_iterator" (.inr rfl)) #[_,cJ _ rfl,rfl,rfl] q)
 . exact wpAny_pyIter_ascii ha (JO (tk:=s1.toks) I1 _ (Ds _ x t "str_ascii_iterator" (.inl rfl)) #[_,cJ _ rfl,rfl,rfl] q)
def Wy (K:Frag) (a:Addr):It:=
 #[λi H=> ∃(xs:List V) (x:V),cw K H a xs/\xs[i]? = some x,λi H v H'=> ∃T x,v= .ref T/\H T=none/\H'=upd H T (.tup [.int (i:Nat),x])/\∀xs,cw K H a xs->xs[i]? = some x,λi H=> ∃xs:List V,cw K H a xs/\xs.length<=i]
theorem HQ (a e it:Addr):
 Turn P w K (.Tuple elts kk tpos) (Wy K a) [e,it] e (λi h=>(∃old,IsEnum h e it ((i:Nat):Int) old)/\h.IsListIter it a i/\e≠it) where
 mem:=by simp
 obj:=λi h st b hb=>by
  ext st ⟨old,he⟩ ⟨o,ho,hc,hd⟩ _;have e':b=e\/b=it:= ~~~hb
  rcases e' with z | z
  . rw [z];exists _,he,λv q=>nomatch q
  . rw [z];exists o,ho,λv q=>by rw [hd] at q;cases q
 keep:=λi h h' st k=>let #[#[old,he],hi,k7]:=st;#[#[old,k e (by simp) _ he],hi.at λo q=>k it (by simp) o q,k7]
 item:=by
  intro X hP hw hK hc i pN s Z H E I hf st hg;subst hP hw hK;ext st ⟨old,he⟩ hit k7;ext hg xs x hq hx;obtain ⟨bU,rv,p,hz⟩:=I.list hq;obtain ⟨u,hu,ru⟩:=rv.get hx;have hel:e < s.heap.objs.size:=aI he;have hil:it < s.heap.objs.size:=by ext hit _ q _;exact aI q
  refine wpAny_pyNext_enum_item he hit p.isList (x:=u) (~~~hu) k7 λh' ho hit' hT hsz hk=>?_;exists _,U,wpAny_letOwnedTupleGo_enum (s:={s with heap:=h',toks:=s.toks+1}) ho λh'' he' sb=>?_;have hT2:h''.get? s.heap.objs.size=some {cls:= .type "tuple",data:= .seq (List.toArray [.int i s.toks,u])}:=(sb.2 _ (fU hel)).trans hT;have new:dc X.prog X.w (upd H s.heap.objs.size (.tup [.int (i:Nat),x])) h'' s.heap.objs.size (.tup [.int (i:Nat),x]):=
   #[by show 2<=sizeLine;decide,[.int i s.toks,u],.cons #[_,rfl] (.cons ru .nil),#[_,hT2,rfl,_,rfl]]
  have I1:Inv X pN Z (upd H s.heap.objs.size (.tup [.int (i:Nat),x])) {s with heap:=h'',toks:=s.toks+1}:=
   I.Bc (ch:= [e,it]) (λb ob hb q=>(sb.2 b (λz=>hb (by simp [z]))).trans (hk b ob (λz=>hb (by simp [z])) (λz=>hb (by simp [z])) q)) hf (az _) new
  exists .ref s.heap.objs.size,_,I1,U,#[_,x,U,I.bQ.fresh (az _),U,λys hy=>by rw [I.tU hy hq];exact hx],#[#[u,?_],hit'.at λo q=>(sb.2 it (bX k7)).trans q,k7],λb hb=>?_
  . have e1:((i+1:Nat):Int)=(i:Int)+1:=by lia
    rw [e1];exact he'
  . have hb':b < s.heap.objs.size:=by
     have e':b=e\/b=it:= ~~~hb
     rcases e' with z | z
     . rw [z];exact hel
     . rw [z];exact hil
    rw [aA (a9 hb')];exact (hf b hb).1
 done:=by
  intro X hP hw hK hc i pN s Z H E I hf st hg;subst hP hw hK;ext st ⟨old,he⟩ hit k7;ext hg xs hq hx;obtain ⟨bU,rv,p,hz⟩:=I.list hq;obtain ⟨f0,f1,f2,f3,f4,f5⟩:=hf it (by simp);have hl:=rv.length;exact wpAny_pyNext_enum_end (I.ok.hd hc) he hit p.isList (by simp;lia) λh' eb=>#[rfl,I.turned (t':=s.toks) (λb o hb q=>eb b o hb q) f0 f1 f3 f4 f5]
 self:=λA i s Q E st h=>let #[#[_,he],_]:=st;wpAny_pyIter_enum he h
def RH (K:Frag) (ta:TA):TI:=λZ H R=>ta Z H ((λ(K:Frag) (R:It->Hp->Prop) (vs:List V) (H1:Hp)=> ∃a xs,vs= [.ref a]/\cw K H1 a xs/\R (Wy K a) H1) K R)
def MH {ta:TA} (ha:PA X [e] ta) (hg:Gl X "enumerate" :=by exact rfl) (hm:X.mg "enumerate" = none:=by walk_at "m") (hs:starEach [e] X.env= [(false,eval e X.env)]:=by rfl):
 PI X (.Tuple elts kk tpos) (.Call (.Name "enumerate" p) [e] [] pos) (RH X.K ta):=by
 intro pN s Z H R I h;refine Call_ (yy I hg hm boot_enumerate (callWith_type1 (dY (ha pos pN s Z H _ I h) λus s1 #[vs,H1,I1,r1,q1]=>?_) hs rfl));ext q1 a xs ex hq q;subst ex;cases r1 with
 | cons r rr=>
  cases rr;cases r;obtain ⟨bU,rv,p',hz⟩:=I1.list hq;refine call_enumerate_list p'.isList λh' he hit hsz hk=>wpAny_pyIter_enum he ?_;have I2:Inv X pN Z H1 {s1 with heap:=h'}:=I1.kept (t':=s1.toks) hk;exists s1.heap.objs.size+1,[s1.heap.objs.size+1,s1.heap.objs.size],_,_,H1,U,I2,HQ a (s1.heap.objs.size+1) s1.heap.objs.size,#[#[.none,he],hit,Nat.succ_ne_self _],λb hb=>?_,q;have e':b=s1.heap.objs.size+1\/b=s1.heap.objs.size:= ~~~hb
  have hle:s1.heap.objs.size<=b:=by
   rcases e' with z | z
   . rw [z];exact dU _ _
   . rw [z];exact az _
  exact I1.Ak hle (I1.bQ.fresh hle)
def HR:bootBuiltins "zip" = some (.type "zip"):=by decide+kernel
def RJ (K:Frag) (a b:Addr):It:=
 ⟨λi H=> ∃(xs ys:List V) (x y:V),cw K H a xs/\cw K H b ys/\xs[i]? = some x/\ys[i]? = some y,
  λi H v H'=> ∃T x y,v= .ref T/\H T=none/\H'=upd H T (.tup [x,y])/\(∀xs,cw K H a xs->xs[i]? = some x)/\∀ys,cw K H b ys->ys[i]? = some y,
  λi H=> ∃xs ys:List V,cw K H a xs/\cw K H b ys/\(xs.length<=i\/ys.length<=i)⟩
theorem JQ {z TI TO i1 i2:Addr} (D:ZipApart z TI TO i1 i2 a b):
 Turn P w K (.Tuple elts kk tpos) (RJ K a b) [z,TI,TO,i1,i2] z (λi h=>IsZip h z TI TO .none/\IsPair h TI (.ref i1) (.ref i2)/\(∃x y,IsPair h TO x y)/\h.IsListIter i1 a i/\h.IsListIter i2 b i) where
 mem:=by simp
 obj:=λi h st c hc=>by
  ext st hz hTI ⟨x,y,hTO⟩ ⟨o1,e1,_,d1⟩ ⟨o2,e2,_,d2⟩;have e':c=z\/c=TI\/c=TO\/c=i1\/c=i2:= ~~~hc
  rcases e' with q | q | q | q | q
  . rw [q];exists _,hz,λv q=>nomatch q
  . rw [q];exists _,hTI,λv q=>nomatch q
  . rw [q];exists _,hTO,λv q=>nomatch q
  . rw [q];exists o1,e1,λv q=>by rw [d1] at q;cases q
  . rw [q];exists o2,e2,λv q=>by rw [d2] at q;cases q
 keep:=λi h h' st k=>by
  ext st hz hTI ⟨x,y,hTO⟩ h1 h2;exists k z (by simp) _ hz,k TI (by simp) _ hTI,#[x,y,k TO (by simp) _ hTO],h1.at λo q=>k i1 (by simp) o q,h2.at λo q=>k i2 (by simp) o q
 item:=by
  intro X hP hw hK hc i pN s Z H E I hf st hg;subst hP hw hK;ext st hz hTI ⟨x0,y0,hTO⟩ h1 h2;ext hg xs ys x y QD QE hx hy;obtain ⟨bU,rv,p,_⟩:=I.list QD;obtain ⟨its2,Tu,p2,_⟩:=I.list QE;obtain ⟨u,hu,ru⟩:=rv.get hx;obtain ⟨u2,hu2,U4⟩:=Tu.get hy;have QF:z < s.heap.objs.size:=aI hz;refine wpAny_pyNext_zip_item D hz hTI hTO h1 h2 p.isList p2.isList (x:=u) (y:=u2) (~~~hu) (~~~hu2) λh' z' XT h1' h2' hT hsz hk=>?_;exists _,U,wpAny_letOwnedTupleGo_zip (s:={s with heap:=h'}) z' λh'' z'' sb=>?_;have hT2:h''.get? s.heap.objs.size=some {cls:= .type "tuple",data:= .seq (List.toArray [u,u2])}:=(sb.2 _ (fU QF)).trans hT;have new:dc X.prog X.w (upd H s.heap.objs.size (.tup [x,y])) h'' s.heap.objs.size (.tup [x,y]):=
   #[by show 2<=sizeLine;decide,[u,u2],.cons ru (.cons U4 .nil),#[_,hT2,rfl,_,rfl]]
  have I1:Inv X pN Z (upd H s.heap.objs.size (.tup [x,y])) {s with heap:=h''}:=
   I.Bc (t':=s.toks) (ch:= [z,TI,TO,i1,i2]) (λc o hb q=>(sb.2 c (λq'=>hb (by simp [q']))).trans (hk c o (λq'=>hb (by simp [q'])) (λq'=>hb (by simp [q'])) (λq'=>hb (by simp [q'])) (λq'=>hb (by simp [q'])) q)) hf (az _) new
  exists .ref s.heap.objs.size,_,I1,U,#[_,x,y,U,I.bQ.fresh (az _),U,λl hl=>by rw [I.tU hl QD];exact hx,λl hl=>by rw [I.tU hl QE];exact hy],#[z'',?_,#[u,u2,?_],?_,?_],λc hcm=>?_
  . exact (sb.2 _ D.TIz).trans (hk _ _ D.TIz D.TITO D.TIi1 D.TIi2 hTI)
  . exact (sb.2 _ D.TOz).trans XT
  . exact h1'.at λo q=>(sb.2 _ D.i1z).trans q
  . exact h2'.at λo q=>(sb.2 _ D.i2z).trans q
  . have iU:c < s.heap.objs.size:=by
     have e':c=z\/c=TI\/c=TO\/c=i1\/c=i2:= ~~~hcm
     rcases e' with q | q | q | q | q
     . rw [q];exact QF
     . rw [q];exact aI hTI
     . rw [q];exact aI hTO
     . rw [q];ext h1 _ e1 _;exact aI e1
     . rw [q];ext h2 _ e2 _;exact aI e2
    rw [aA (a9 iU)];exact (hf c hcm).1
 done:=by
  intro X hP hw hK hc i pN s Z H E I hf st hg;subst hP hw hK;ext st hz hTI ⟨x0,y0,hTO⟩ h1 h2;ext hg xs ys QD QE hend;obtain ⟨bU,rv,p,_⟩:=I.list QD;obtain ⟨its2,Tu,p2,_⟩:=I.list QE;have l1:=rv.length;have l2:=Tu.length;have he:bU.toArray[i]? = none\/its2.toArray[i]? = none:=by
   rcases hend with q | q
   . exact .inl (by simp;lia)
   . exact .inr (by simp;lia)
  exact wpAny_pyNext_zip_end (I.ok.hd hc) D hz hTI hTO h1 h2 p.isList p2.isList he λh' hk=>⟨rfl,I.MG (t':=s.toks) (ch:= [z,TI,TO,i1,i2]) (λc o hb q=>
   hk c o (λq'=>hb (by simp [q'])) (λq'=>hb (by simp [q'])) (λq'=>hb (by simp [q'])) (λq'=>hb (by simp [q'])) q) hf⟩
 self:=λA i s Q E st h=>wpAny_pyIter_zip st.1 h
def Vd (K:Frag) (ta:TA):TI:=λZ H R=>ta Z H λvs H1=> ∃a b xs ys,vs= [.ref a,.ref b]/\cw K H1 a xs/\cw K H1 b ys/\R (RJ K a b) H1
def B6 {e2:Expr} {ta:TA} (ha:PA X [e,e2] ta) (hg:Gl X "zip" :=by exact rfl) (hm:X.mg "zip" = none:=by walk_at "m") (hs:starEach [e,e2] X.env=(false,eval e X.env) :: starEach [e2] X.env:=by rfl) (g6:(backTo pos (starEach [e2] X.env)).any (·.1)=false:=by rfl):
 PI X (.Tuple elts kk tpos) (.Call (.Name "zip" p) [e,e2] [] pos) (Vd X.K ta):=by
 intro pN s Z H R I h;refine Call_ (yy I hg hm HR (callWith_type1 (dY (ha pos pN s Z H _ I h) λus s1 #[vs,H1,I1,r1,q1]=>?_) hs g6));ext q1 a b xs ys ex QD QE q;subst ex;cases r1 with
 | cons r rr=>
  cases rr with
  | cons r' rr=>
   cases rr;cases r;cases r';obtain ⟨bU,rv,p1,_⟩:=I1.list QD;obtain ⟨its2,Tu,p2,_⟩:=I1.list QE;have la:a < s1.heap.objs.size:=p1.lt;have lb:b < s1.heap.objs.size:=p2.lt;refine call_zip_2 p1.isList p2.isList λh' hz hTI hTO h1 h2 hsz hk=>wpAny_pyIter_zip hz ?_;have I2:Inv X pN Z H1 {s1 with heap:=h'}:=I1.kept (t':=s1.toks) hk;exists s1.heap.objs.size+4,[s1.heap.objs.size+4,s1.heap.objs.size+2,s1.heap.objs.size+3,s1.heap.objs.size,s1.heap.objs.size+1],_,_,H1,U,I2,JQ (PySem.W.ktu_apart s1.heap.objs.size a b la lb),#[hz,hTI,#[_,_,hTO],h1,h2],λc hcm=>?_,q;have e':c=s1.heap.objs.size+4\/c=s1.heap.objs.size+2\/c=s1.heap.objs.size+3\/c=s1.heap.objs.size\/c=s1.heap.objs.size+1:= ~~~hcm
   have hle:s1.heap.objs.size<=c:=by
    rcases e' with z | z | z | z | z
    . rw [z];exact dU _ _
    . rw [z];exact dU _ _
    . rw [z];exact dU _ _
    . rw [z];exact az _
    . rw [z];exact dU _ _
   exact I1.Ak hle (I1.bQ.fresh hle)
theorem m_:∀{ys:List Str} {us:List Value},Vals (ys.map V.str) us->StrsAre us ys
 | [],_,.nil=> .nil
 | y :: ys,_,.cons r t=>by
  ext r k rfl;exact .cons y k (m_ t)
section
def MI:L1 X "str.join" (λx xs H Q=> ∃a p,∃ys:List Str,x= .str a/\xs= [.ref p]/\(cw X.K H p (ys.map V.str)\/g9 X.K H p (ys.map V.str))/\
 (ys.map (·.length)).sum+ys.length * a.length<=16777216/\Q (.str (Txt.join a ys)) H):=by
 intro pN s Z H x xs v us Q I rx rs h;ext h a p ys rfl rfl hp hz h;ext rx t rfl;cases rs with
 | cons r1 rs=>
  cases rs;cases r1;rcases hp with hp | hp
  . obtain ⟨bU,r,⟨o,n,ho,hc,_,hd⟩,_⟩:=I.list hp;exact join_list (items:=bU.toArray) #[o,ho,hc,n,hd] (by rw [List.toList_toArray];exact m_ r) hz λt' k=>#[.str _,H,I.tok k,#[t',rfl],h]
  . obtain ⟨bU,r,ht,_⟩:=I.tuple hp;exact join_tuple (items:=bU.toArray) ht (by rw [List.toList_toArray];exact m_ r) hz λt' k=>#[.str _,H,I.tok k,#[t',rfl],h]
end
section
variable {o:Expr} {to:TE}
def Wz (r:V->List V->Hp->VK->Prop) (to te:TE):TE:=λZ H Q=>to Z H λx H1=>(∃a,x= .str a)/\te Z H1 λy H2=>r x [y] H2 Q
def RK {id:String} {name:Str} {r:V->List V->Hp->VK->Prop} (slot:Slot "str" name id) (ty:typeOf (.builtin id)=pure (.type "method_descriptor")) (rule:L1 X id r) (ho:PE X o to) (he:PE X e te) (hs:starEach [e] X.env= [(false,eval e X.env)]:=by rfl) (hbase:attributeBase o name X.env (eval o X.env)=eval o X.env:=by rfl) (hline:(apos.endLine == pos.line)=true:=by rfl):
 PE X (.Call (.Attribute o name apos) [e] [] pos) (Wz r to te):=by
 intro pN s Z H Q I h;refine Call_method1 hbase hs hline (dY (ho pN s Z H _ I h) λv s1 #[x,H1,I1,r1,q1]=>?_);ext q1 ⟨a,rfl⟩ q1;obtain ⟨t,rfl⟩:=_root_.id r1;exists "str",_,F.plainAttrs_str,slot,ty,typeIs_str _ _ _,(λ_ e=>nomatch e),Calls.callWith_builtin U (Calls.evalArgs_plain (Calls.spliced_cons ?_));exact dY (he pN s1 Z H1 _ I1 q1) λu s2 #[y,H2,I2,r2,q2]=>Calls.spliced_nil (rule pN s2 Z H2 _ [y] _ [u] Q I2 r1 (.cons r2 .nil) q2)
def uc (ho:PE X o to) (he:PE X e te) (hs:starEach [e] X.env= [(false,eval e X.env)]:=by rfl) (hbase:attributeBase o "join" X.env (eval o X.env)=eval o X.env:=by rfl) (hline:(apos.endLine == pos.line)=true:=by rfl):
 PE X (.Call (.Attribute o "join" apos) [e] [] pos) (Wz (λx xs H Q=> ∃a p,∃ys:List Str,x= .str a/\xs= [.ref p]/\(cw X.K H p (ys.map V.str)\/g9 X.K H p (ys.map V.str))/\
  (ys.map (·.length)).sum+ys.length * a.length<=16777216/\Q (.str (Txt.join a ys)) H) to te):=
 RK F.slot_str_join F.type_str_join MI ho he hs hbase hline
end
def inClass (s:Stmt) (j:Nat):Stmt:=match s with
 | .ClassDef _ _ _ body _ _ _ _ _ _ _=>body.getD j (.Pass #[0,0,0,0])
 | _=> .Pass #[0,0,0,0]
def fq (s:Stmt):Arguments:=match s with
 | .FunctionDef _ a _ _ _ _ _ _ _ _=>a
 | _=>{posonlyargs:= [],args:= [],vararg:=none,kwonlyargs:= [],kw_defaults:= [],kwarg:=none,defaults:= []}
def cR (s:Stmt):List Stmt:=match s with
 | .FunctionDef _ _ b _ _ _ _ _ _ _=>b
 | _=> []
def aX (s:Stmt):Scope:=match s with
 | .FunctionDef _ _ _ _ _ _ sc _ _ _=>sc
 | _=>{kind:= .function,names:= [],isGenerator:=false,isCoroutine:=false}
abbrev Dt:JC:=λ_ _ _ _ _ _=>False
abbrev E0:XK:=λ_ _ _=>False
def Du:Passes Dt X E0:=λ_ _ _ _ _ _ _ h=>h.elim
structure Fun (K:Frag) (x qual:Str) (st:Stmt) (f:Addr) (fd:FuncData):Prop where
 ex:∃(oc:Value) (od:Option Addr) (kV doc pm:Value) (an:Option Addr) (eB ct:Value) (osl:Array (Option Value)),
  fd=fnOf x qual (fq st) (cR st) (aX st) .none kV doc pm an eB ct/\K.lookup f=some #[oc,od,.func fd,osl]/\codeIn K eB qual=true
 kp:keepIn K (.ref f)=true
section
def Fun.ok {k:Nat} (F:Fun K x qual st f fd) (S:d_ N ps (aX st)) (len:∀vs H Q E,sp vs H Q E->vs.length=ps.length) (hbody:∀(eB:Value) (A:Around) (outer:List Env) (s:Shared) (H:Hp) (vs:List V) (Q:VK) (E:XK),cY k (A.deeper (envOfC qual (aX st) s.heap.objs.size f eB))->sp vs H Q E->
 ∃t,tR (jG Dt P w K mg base N qual (aX st) f eB A outer s H E).ER (cR st) t/\t (Ends.fin Q) (start N vs) H):jg P w K mg base Dt (k+1) f fd ps sp:=by
 ext F.ex oc od kV doc pm an eB ct osl rfl lk hcd;refine N4 lk hcd S len λA outer s H vs Q E hr hsp=>?_;obtain ⟨t,h,q⟩:=hbody eB A outer s H vs Q E hr hsp;exists t,h.ER,q
def Fun.binds (F:Fun K x qual st f fd) (h:∀(kV doc pm:Value) (an:Option Addr) (eB ct:Value) (us:List Value),us.length=ps.length->bindArgs (fnOf x qual (fq st) (cR st) (aX st) .none kV doc pm an eB ct) #[us,[]]=pure (ps.zip us)):Binds K fd ps []:=by
 ext F.ex oc od kV doc pm an eB ct osl rfl lk hcd;exact .all (h kV doc pm an eB ct)
end
def rP {k:Nat} (hr:cY k A):A.units+1 < cLine:=Nat.lt_of_le_of_lt (Nat.add_le_add_left (by decide:1<=64) _) hr.units
section
def pv (i:Nat) (hN:X.N[i]? = some x:=by rfl) (hv:IX X.env.scope x:=by first | exact Or.inl rfl | exact Or.inr (Or.inl rfl) | exact Or.inr (Or.inr rfl)) (hd:(x == ("__debug__" :Str))=false:=by decide) (hcd:(x == ("__classdict__" :Str))=false:=by decide):PE X (.Name x pos) (we i):=yx hN hv hd hcd
end
def oz {A B:Prop} (h:B):if false=true then A else B:=by
 rw [ae aO];exact h
def oY {A B:Prop} (h:A):if true=true then A else B:=by
 rw [ah rfl];exact h
def aq (H H':Hp):= ∀b o,H b=some o->H' b=some o
def aq.refl (H:Hp):aq H H:=λ_ _ h=>h
def aq.trans (a:aq H H1) (b:aq H1 H2):aq H H2:=λc o h=>b c o (a c o h)
def aq.free (e:aq H H') (h:H' l=Option.none):H l=Option.none:=by
 cases q:H l with
 | none=>rfl
 | some o=>
  rw [e l o q] at h;cases h
def aq.seq (e:aq H H') (h:cw K H a xs):cw K H' a xs:=by
 rcases h with (h | ⟨o,h⟩) | h
 . exact .inl (.inl (e _ _ h))
 . exact .inl (.inr #[o,e _ _ h])
 . exact .inr h
def aq.made {x:Addr} (nx:H x=Option.none) (nd:H dx=Option.none) (k:∀b o,(upd (upd H dx (.own x)) x (.ins C dx [])) b=some o->b≠x->H1 b=some o):aq H H1:=λb o e=>
 k b o (by rw [aA (bp e nx),aA (bp e nd)];exact e) (bp e nx)
open XE (oO sG ki BM)
def An (P:Program) (w:World) (CF:Addr):JC:=λouter H s E e s'=>
 ∃(x T dx:Addr) (fs:List (Str×V)) (H':Hp),e= .ref x/\s'.os=s.os/\AllBare s'.gens/\Un (frs outer) [] H H' s.heap s'.heap/\lX P w H' s'.heap/\
  oO s'.heap CF x dx (.ref T)/\sG s'.heap T .none/\T≠x/\s.heap.objs.size<=x/\s.heap.objs.size<=T/\H' x=none/\H' T=none/\
  H' dx=some (.xd fs)/\E (.ref CF) (some dx) H'
structure Cx.Out (X:Cx) (CF:Addr) (E:XK):Prop where
 xe:X.xe=λe s'=>wpAny (model X.prog X.w) X.A (noteFrame e X.env) (λ_ s1=>wpAny (model X.prog X.w) X.A (setFlight e none) (λ_ s''=>An X.prog X.w CF X.outer X.LZ X.ra E e s'') (λe' s''=>An X.prog X.w CF X.outer X.LZ X.ra E e' s'') s1) (λe' s''=>An X.prog X.w CF X.outer X.LZ X.ra E e' s'') s'
 A0:X.stack=X.env :: X.outer
 frm:X.env.frame=some X.env.locals
 ex:X.ex= []
def gE {E:XK}:
 (jG (An P w CF) P w K mg base N qual scope f cd A outer s H E).Out CF E:=#[rfl,rfl,rfl,rfl]
section
variable {E:XK}
def ud {fr:List Addr} {chg:Addr->Prop} (ok:lX P w H h) (N:ki fr chg h h') (hf:∀b∈fr,H b=none) (hc:∀b,chg b->(H b=none\/h.get? b=none)):lX P w H h':=λa o e=>
 (ok a o e).stay (λb u hb q=>by
  refine N.keep b u q (λz=>?_) λz=>?_
  . rcases hb with rfl | hb
    . rw [hf _ z] at e;cases e
    . rw [hf _ z] at hb;cases hb
  . rcases hc b z with n | n
    . rcases hb with rfl | hb
      . rw [n] at e;cases e
      . rw [n] at hb;cases hb
    . rw [n] at q;cases q) (λ_ q=>q) λ_ _ q=>q
def E9 (O:X.Out CF E) (I:Inv X pN Z H s) {x:Addr} {tb:Value} {fs:List (Str×V)} (R:oO s.heap CF x dx tb) (ht:tb= .none\/∃T fl,tb= .ref T/\sG s.heap T fl/\T≠x/\H T=none/\X.ra.heap.objs.size<=T) (nx:H x=none) (fx:X.ra.heap.objs.size<=x) (hdx:H dx=some (.xd fs)) (hE:E (.ref CF) (some dx) H):X.xe (.ref x) s:=by
 rw [O.xe];have hfr:X.A.frames=some (X.env :: X.outer):=O.A0 ▸ I.ok.frames;have hl:s.heap.FunFrames X.base (X.env :: X.outer):=O.A0 ▸ I.stack;have sf:∀b∈frs (X.env :: X.outer),H b=none:=by
  have:=I.tT;rw [O.A0] at this;exact this
 have XU:∀b o,X.ra.heap.get? b=some o->b≠X.env.locals:=λb o e=>a9 (bw (aI e) I.ok.above);have ub:=I.base;rw [O.ex] at ub;have fin:∀(chg:Addr->Prop) (h1:Heap) (T1:Addr) (WB:Value),ki (frs (X.env :: X.outer)) chg s.heap h1->(∀b,chg b->(H b=none/\X.ra.heap.objs.size<=b))->H T1=none->X.ra.heap.objs.size<=T1->T1∉frs (X.env :: X.outer)->oO h1 CF x dx (.ref T1)->sG h1 T1 WB->T1≠x->
  wpAny (model X.prog X.w) X.A (setFlight (.ref x) none) (λ_ s''=>An X.prog X.w CF X.outer X.LZ X.ra E (.ref x) s'') (λe' s''=>An X.prog X.w CF X.outer X.LZ X.ra E e' s'') {s with heap:=h1}:=λchg h1 T1 WB N1 hc nH n0 QG R1 MJ ne1=>by
  refine XE.Tl (s:={s with heap:=h1}) (fr:=frs (X.env :: X.outer)) R1 MJ ne1 QG λh2 N2 R2 PF=>?_;have MK:ki (frs (X.env :: X.outer)) (λb=>chg b\/b=T1) s.heap h2:=N1.trans N2 (λb z=> .inl z) λb o _ z=> .inr z;exists x,T1,dx,fs,H,U,I.os,I.bare,#[λb o e n hb _=>?_,λb o e n hb _=>?_,λb o e n _=>ub.free b o e n (by simp),λb o e _=>?_,ub.tups,ub.rG,ub.sI],?_,R2,PF,ne1,fx,n0,nx,nH,hdx,hE
  . refine MK.keep b o (ub.keep b o e n hb (by simp)) (λz=>?_) λz=>?_
    . unfold frs at z;rw [ly,O.frm] at z;rcases aF.mp z with q | q
      . exact XU b o e q
      . exact hb q
    . rcases z with z | z
      . exact absurd (bw (aI e) (hc b z).2) (cM _)
      . rw [z] at e;exact absurd (bw (aI e) n0) (cM _)
  . obtain ⟨sl,e1⟩:=ub.slot b o e n hb (by simp);obtain ⟨sl2,e2⟩:=MK.slot b _ e1 (by unfold frs;rw [ly,O.frm];exact aW _ hb);exists sl2,e2
  . obtain ⟨o',e1⟩:=ub.there b o e (by simp);exact MK.there b o' e1
  . exact ud I.bQ MK sf λb z=>by
     rcases z with z | z
     . exact .inl (hc b z).1
     . rw [z];exact .inl nH
 have QG:∀T1,s.heap.objs.size<=T1->T1∉frs (X.env :: X.outer):=λT1 hn z=>by
  obtain ⟨_,o,ho,_⟩:=hl.mem z;exact absurd (bw (aI ho) hn) (cM _)
 rcases ht with rfl | ⟨T,fl,rfl,TR,IZ,nT,fT⟩
 . exact (XE.Q6 hfr hl O.frm R λh1 T1 N1 mZ R1 MJ ne1=>fin _ h1 T1 _ N1 (λb z=>by rw [z];exists nx,fx) (I.bQ.fresh mZ) (aP I.sz mZ) (QG T1 mZ) R1 MJ ne1)
 . cases hfl:(fl == rawInt X.env.locals) with
   | false=>exact (XE.Jk hfr hl O.frm R TR hfl IZ λh1 T1 N1 mZ R1 MJ ne1=>fin _ h1 T1 _ N1 (λb z=>z.elim (λq=>by rw [q];exists nx,fx) λq=>by rw [q];exists nT,fT) (I.bQ.fresh mZ) (aP I.sz mZ) (QG T1 mZ) R1 MJ ne1)
   | true=>
    obtain rfl:fl=rawInt X.env.locals:= ~~~hfl
    refine XE.Q7 O.frm R TR (fin (λ_=>False) s.heap T _ #[λ_ _ e _ _=>e,λb o e _=>#[o.slots,e],λ_ o e=>#[o,e]] (λ_ z=>z.elim) nT fT (λz=>?_) R TR IZ);ext TR oT ts hT hdT _;obtain ⟨_,o,ho,hnf⟩:=hl.mem z;rw [hT] at ho;cases ho;exact hnf ts hdT
def GH (O:X.Out CF E):Passes (An X.prog X.w CF) X E:=λpN Z H s e s' I h=>by
 ext h x T dx fs H' rfl hos bare un bQ R TR IZ fx fT nx nT hdx hE;have J:Inv X pN Z H' s':=I.call' (ch:= []) hos un bQ bare λb z=>absurd z (by simp);exact E9 O J R (.inr #[T,_,rfl,TR,IZ,nT,aP I.sz fT]) nx (aP I.sz fx) hdx hE
def Rj (O:X.Out CF E):PassesOwn (model X.prog X.w) X.A X.env X.xe:=λe s' h=>by
 rw [O.xe] at h ⊢;exact bT (wpAny_look_again (SameStack.refl X.A) h) (λ_ _ h1=>bT h1 (λ_ _ h2=>h2) λ_ _ z=>z) λ_ _ z=>z
end
structure FC (h:Heap) (CF fI:Addr):Prop where
 ex:∃(nm q:Str) (N:Addr) (bs:List Value) (sn:List Str) (sub:List Value) (ab:Bool) (col:Option Bool) (dd:Option Addr) (k0 k1 k2 k3 k5:Option Value) (mN:Str->Option Value),
  h.get? CF=some (excClassObj nm q CF N bs BM true sn sub ab col dd k0 k1 k2 k3 k5 "Exception.__new__")/\h.Ns N mN/\mN "__init__" = some (.ref fI)/\mN "code" = none/\mN "place" = none/\
  mN "__setattr__" = none/\mN "__getattribute__" = none/\mN "__getattr__" = none
noncomputable def gH (K:Frag) (CF fI:Addr):Bool:=match K.lookup CF with
 | some #[.type "type",_,.cls cd,sl]=>(match cd.mro,sl.toList with
  | .ref C' :: bm,[_,_,_,_,some (.builtin n),_]=>C' == CF && n == "Exception.__new__" && !cd.hasDel && cd.hasDict && bm == BM && nsOkIn K cd.ns && nsIn K cd.ns "__init__" == some (some (.ref fI)) &&
   nsIn K cd.ns "code" == some none && nsIn K cd.ns "place" == some none && nsIn K cd.ns "__setattr__" == some none && nsIn K cd.ns "__getattribute__" == some none && nsIn K cd.ns "__getattr__" == some none
  | _,_=>false)
 | _=>false
def E_ {N:Addr} {n:Str} {v:Value} (X:K.In h) (G:h.Ns N mg) (e:nsIn K N n=some (some v)):mg n=some v:=by
 ext G o es ep ho hd _ hf;unfold nsIn at e;split at e
 . rename_i c d es' n' sl q;have:=X _ _ q;rw [ho] at this;cases this;cases hd;split at e
   . rename_i en he;cases e;rw [<-hf];unfold nsFind findBy;rw [<-vL,he];rfl
   . split at e <;> cases e
 . cases e
def wB {N:Addr} {v:Value} (X:K.In h) (e:nsOkIn K N=true) (q:nsIn K N x=some (some v)):h.nsMap N x=some v:=
 E_ X (.of_isNs (isNs_of_in X e)) q
def Bd (X:K.In h) (q:gH K CF fI=true):FC h CF fI:=by
 unfold gH at q;split at q
 . rename_i dd cd sl ho;split at q
   . rename_i C' bm k0 k1 k2 k3 n k5 hm hs;simp only [c5,bO,Bool.not_eq_true'] at q;obtain ⟨⟨⟨⟨⟨⟨⟨⟨⟨⟨⟨rfl,rfl⟩,hdel⟩,hdi⟩,rfl⟩,bQ⟩,hni⟩,h1⟩,h2⟩,h3⟩,h4⟩,h5⟩:=q;ext cd nm bs mro ns qn hd sn sub ab col del;dsimp only at hm hdel hdi bQ hni h1 h2 h3 h4 h5;subst hm hdel hdi;have hsl:sl=(List.toArray [k0,k1,k2,k3,some (.builtin "Exception.__new__"),k5]):=by
      obtain ⟨l⟩:=sl;simp only at hs;rw [hs]
     subst hsl;exists nm,qn,ns,bs,sn,sub,ab,col,dd,k0,k1,k2,k3,k5,_,X _ _ ho,.of_isNs (isNs_of_in X bQ),wB X bQ hni,nsMap_none_of_in X bQ h1,nsMap_none_of_in X bQ h2,
      nsMap_none_of_in X bQ h3,nsMap_none_of_in X bQ h4,nsMap_none_of_in X bQ h5
   . cases q
 . cases q
def fF (c p:Int):List (Str×V):= [("code",.int c),("place",.int p)]
def sO:typeLookup (.type "Exception") "code" = pure none:=by rw [typeLookup_type,builtinLookup_eq_fast];kernel_rfl
def oZ:typeLookup (.type "Exception") "place" = pure none:=by rw [typeLookup_type,builtinLookup_eq_fast];kernel_rfl
structure JR (K:Frag) (fI:Addr) (eB:Value) (sc:Scope):Prop where
 ex:∃(params:Arguments) (body:List Stmt) (kV doc pm ct oc:Value) (an od:Option Addr) (osl:Array (Option Value)) (p1 p2 p3 p4 p5 p6 p7 p8:Pos),
  K.lookup fI=some #[oc,od,.func (fnOf "__init__" "Fault.__init__" params body sc .none kV doc pm an eB ct),osl]/\codeIn K eB "Fault.__init__" = true/\
  (∀us:List Value,us.length=3->bindArgs (fnOf "__init__" "Fault.__init__" params body sc .none kV doc pm an eB ct) #[us,[]]=pure ((["self","code","place"]:List Str).zip us))/\
  body= [.Assign [.Attribute (.Name "self" p1) "code" p2] (.Name "code" p3) p4,.Assign [.Attribute (.Name "self" p5) "place" p6] (.Name "place" p7) p8]
 Ve:d_ ["self","code","place"] ["self","code","place"] sc
 fn:PySem.W.typeIn K (.ref fI)=some (.type "function")
section
def Inv.PH {x:Addr} (I:Inv X pN Z H s) (hex:X.ex= []) (h1:x≠X.env.locals) (h2:∀y c,X.env.cells.lookup y=some c->c≠x) (h3:∀o,X.base.get? x≠some o) (h4:x∉X.fs) (E:Value->Shared->Prop):
 Inv {X with ex:= [x],xe:=E} pN Z H s:=by
 ext I ok os bare base loc cell free gr pin bQ len;ext ok mod kind glob blt above inj has cab hd frames A0 L0 bs C7 Aj xR funs Gh;exists #[mod,kind,glob,blt,above,inj,has,cab,hd,frames,A0,λb hb=>?_,bs,C7,λb o e hb=>?_,λb hb=>?_,funs,Gh],os,bare,base.mono (λ_ z=>z) (λb z=>by rw [hex] at z;cases z),loc,cell,free,gr,pin,bQ,len
 . obtain rfl:b=x:= ~~~hb
   exists h1,h2
 . obtain rfl:b=x:= ~~~hb
   exact h3 o e
 . obtain rfl:b=x:= ~~~hb
   exact h4
end
section
variable {x:Addr}
def yf {i:Nat} {y:Str} (I:Inv X pN Z H s) (hN:X.N[i]? = some y) (hv:IX X.env.scope y) (hd:(y == ("__debug__" :Str))=false) (hcd:(y == ("__classdict__" :Str))=false) (hs:Z[i]? = some (some v)) (k:∀u s',Inv X pN Z H s'->RelV v u->Q u s'):wpAny (model X.prog X.w) X.A (eval (.Name y pos) X.env) Q X.xe s:=
 dY (yx hN hv hd hcd pN s Z H (λv' H'=>v'=v/\H'=H) I (we.i #[rfl,rfl] hs)) λu s' #[v',H',I',r,e1,e2]=>by subst e1 e2;exact k u s' I' r
def RL {attr y:Str} {i:Nat} {Q:Flow->Shared->Prop} (I:Inv X [] Z H s) (q:gH X.K CF fI=true) (ha:attr= "code" \/attr= "place") (JS:X.N[0]? = some ("self" :Str)) (hv0:IX X.env.scope "self") (hs0:Z[0]? = some (some (.ref x))) (hN:X.N[i]? = some y) (hv:IX X.env.scope y) (hd:(y == ("__debug__" :Str))=false) (hcd:(y == ("__classdict__" :Str))=false) (hs:Z[i]? = some (some (.int z))) (hpn:X.pn= []) (hex:x∈X.ex) (hnx:H x=none) (hnl:x≠X.env.locals) (hx:s.heap.get? x=some {cls:= .ref CF,data:= .fields vs}) (k:∀s' dx t,Inv X [] Z H s'->s'.heap.get? x=some {cls:= .ref CF,dict:=some dx,data:= .fields vs}->s'.heap.Ns1 dx (λn=>if n=attr then some (.int z t) else none)->X.ra.heap.objs.size<=dx->H dx=none->dx≠x->dx≠X.env.locals->(∀y c,X.env.cells.lookup y=some c->c≠dx)->Q .next s'):
 wpAny (model X.prog X.w) X.A (exec (.Assign [.Attribute (.Name "self" p1) attr p2] (.Name y p3) p4) X.env) Q X.xe s:=by
 have I1:Inv X [(x,{cls:= .ref CF,data:= .fields vs})] Z H s:=I.m3 λp hp=>by
  obtain rfl:p=_:= ~~~hp
  exists hx,hnx,hnl,I.ok.xR x hex,λv e=>by cases e
 refine yt (yf I1 hN hv hd hcd hs λu s1 J1 ru=>yf J1 JS hv0 ∅ ∅ hs0 λov s2 J2 rx=>?_);ext ru t rfl;obtain rfl:ov=Value.ref x:=rx;obtain ⟨nm,qn,N,bs,sn,sub,ab,col,dd,k0,k1,k2,k3,k5,mN,hC,hn,hni,hc1,hc2,hsa,_,_⟩:=(Bd J2.lY q).ex;have px:=(J2.pin (x,{cls:= .ref CF,data:= .fields vs}) (by simp)).1;have hna:mN attr=none:=by rcases ha with rfl | rfl <;> assumption
 have hB:typeLookup (.type "Exception") attr=pure none:=ha.elim (λe=>by rw [e];exact sO) λe=>by rw [e];exact oZ
 ext s2 hp g d tk os;refine XE.Gf (mA:=λ_=>none) (ns:= []) F.store_Exception hC hn hsa hna hB px rfl (λc e=>by cases e) rfl (.inl rfl) (λh' tk' st=>?_) Within.nil (aD _);rcases st with ⟨_,e1,e2,e3⟩ | ⟨dx,e,_⟩
 . have J3:Inv X [] Z H {(#[hp,g,d,tk,os]:Shared) with heap:=h',toks:=tk'}:=(J2.m3 (Gi:= []) λp hp=>by simp at hp).turned (it:=x) (λb o hb e=>e3 b o hb e) hnx hnl (.inl hex) (λy c hc=>(J2.ok.L0 x hex).2 y c hc) λp hp=>by simp [hpn] at hp
   exact k _ hp.objs.size t J3 e1 e2 J2.sz (J2.bQ.fresh (az _)) (λz=>by
    have:=aI px;rw [<-z] at this;exact absurd this (cM _)) (fU J2.lt) λy c hc=>by
     obtain ⟨v,o,ho,_⟩:=J2.cell y c hc;exact a9 (aI ho)
 . cases e
def RM {attr y:Str} {i:Nat} {ns:List Str} {Q:Flow->Shared->Prop} (I:Inv X [] Z H s) (q:gH X.K CF fI=true) (ha:attr= "code" \/attr= "place") (JS:X.N[0]? = some ("self" :Str)) (hv0:IX X.env.scope "self") (hs0:Z[0]? = some (some (.ref x))) (hN:X.N[i]? = some y) (hv:IX X.env.scope y) (hd:(y == ("__debug__" :Str))=false) (hcd:(y == ("__classdict__" :Str))=false) (hs:Z[i]? = some (some (.int z))) (hpn:X.pn= []) (hex:x∈X.ex) (hnx:H x=none) (hnl:x≠X.env.locals) (hx:s.heap.get? x=some {cls:= .ref CF,dict:=some dx,data:= .fields vs}) (hm:s.heap.Ns1 dx mA) (hw:Within mA ns) (hsz:ns.length<=sizeLine) (hds:X.ra.heap.objs.size<=dx) (hdn:H dx=none) (hdx:dx≠x) (hdl:dx≠X.env.locals) (hdc:∀y c,X.env.cells.lookup y=some c->c≠dx) (k:∀s' t,Inv X [] Z H s'->s'.heap.get? x=some {cls:= .ref CF,dict:=some dx,data:= .fields vs}->s'.heap.Ns1 dx (λn=>if n=attr then some (.int z t) else mA n)->Q .next s'):
 wpAny (model X.prog X.w) X.A (exec (.Assign [.Attribute (.Name "self" p1) attr p2] (.Name y p3) p4) X.env) Q X.xe s:=by
 ext hm od es ep hod hdd hrest;have hdf:dx∉X.fs:=λz=>by
  obtain ⟨_,o,ho,_⟩:=I.ok.funs.mem z;exact absurd (bw (aI ho) hds) (cM _)
 have I1:Inv X [(x,{cls:= .ref CF,dict:=some dx,data:= .fields vs}),(dx,od)] Z H s:=I.m3 λp hp=>by
  rcases aF.mp hp with rfl | hp
  . exists hx,hnx,hnl,I.ok.xR x hex,λv e=>by cases e
  . obtain rfl:p=_:= ~~~hp
    exists hod,hdn,hdl,hdf,λv e=>by rw [hdd] at e;cases e
 refine yt (yf I1 hN hv hd hcd hs λu s1 J1 ru=>yf J1 JS hv0 ∅ ∅ hs0 λov s2 J2 rx=>?_);ext ru t rfl;obtain rfl:ov=Value.ref x:=rx;obtain ⟨nm,qn,N,bs,sn,sub,ab,col,dd,k0,k1,k2,k3,k5,mN,hC,hn,hni,hc1,hc2,hsa,_,_⟩:=(Bd J2.lY q).ex;have px:=(J2.pin (x,{cls:= .ref CF,dict:=some dx,data:= .fields vs}) (by simp)).1;have pd:=(J2.pin (dx,od) (by simp)).1;have hna:mN attr=none:=by rcases ha with rfl | rfl <;> assumption
 have hB:typeLookup (.type "Exception") attr=pure none:=ha.elim (λe=>by rw [e];exact sO) λe=>by rw [e];exact oZ
 ext s2 hp g d tk os;refine XE.Gf (mA:=mA) (ns:=ns) F.store_Exception hC hn hsa hna hB px rfl (λc e=>by cases e) rfl (.inr #[dx,rfl,hdx,od,es,ep,pd,hdd,hrest]) (λh' tk' st=>?_) hw hsz;rcases st with ⟨e,_⟩ | ⟨Al,e,e1,e2,e3⟩
 . cases e
 . cases e;have J3:Inv X [] Z H {(#[hp,g,d,tk,os]:Shared) with heap:=h',toks:=tk'}:=(J2.m3 (Gi:= []) λp hp=>by simp at hp).turned (it:=dx) (λb o hb e=>(e3.2 b hb).trans e) hdn hdl (.inr hds) (λy c hc=>hdc y c hc) λp hp=>by simp [hpn] at hp
   exact k _ t J3 ((e3.2 x (bX hdx)).trans px) e2
end
section
def HS {c p:Int} {t1 t2:Tok} (I:Inv X pN Z H s) (q:gH X.K CF fI=true) (FI:JR X.K fI eB sc) (hr:cY 3 X.A) (k:∀x dx tp s',s.heap.objs.size<=x->H x=none->H dx=none->Inv X pN Z (upd H dx (.xd (fF c p))) s'->
 s'.heap.get? x=some {cls:= .ref CF,dict:=some dx,data:= .fields (List.toArray [.ref tp,.none,.none,.none,.bool false,.none])}->Q (.ref x) s'):
 wpAny (model X.prog X.w) X.A (call (.ref CF) [.int c t1,.int p t2]) Q X.xe s:=by
 ext FI.ex params body kV doc pm ct oc an od osl p1 p2 p3 p4 p5 p6 p7 p8 lk hcd hbind rfl;have S:=FI.Ve;ext s hp g d tk os;have XV:=Bd I.lY q;ext XV.ex nm qn N bs sn sub ab col dd k0 k1 k2 k3 k5 mN hC hn hni _;refine jr (XE.Ma hC hn hni I.lY FI.fn ?_ (by show 2<=sizeLine;decide));have Tv:∀b o,hp.get? b=some o->((hp.push (XE.jD [.int c t1,.int p t2])).push (XE.newExc CF hp.objs.size)).get? b=some o:=λb o e=>bK _ (bK _ e);have hx1:((hp.push (XE.jD [.int c t1,.int p t2])).push (XE.newExc CF hp.objs.size)).get? (hp.objs.size+1)=some (XE.newExc CF hp.objs.size):=by
  have:=cJ (hp.push (XE.jD [.int c t1,.int p t2])) (o:=XE.newExc CF hp.objs.size) rfl;rwa [c7] at this
 have I1:Inv X pN Z H {(#[hp,g,d,tk,os]:Shared) with heap:=(hp.push (XE.jD [.int c t1,.int p t2])).push (XE.newExc CF hp.objs.size),toks:=tk}:=I.kept (t':=tk) Tv;generalize hg1:(hp.push (XE.jD [.int c t1,.int p t2])).push (XE.newExc CF hp.objs.size)=h1 at *;have WC:h1.objs.size=hp.objs.size+2:=by rw [<-hg1,c7,c7]
 generalize hxx:hp.objs.size+1=x at *;have nx:H x=none:=I.bQ.fresh (by rw [<-hxx];exact q_ _);have fx:hp.get? x=none:=vH (by rw [<-hxx];exact q_ _);have A1:cY 2 (X.A.under (.builtin "type.__call__" #[.ref CF :: [.int c t1,.int p t2],[]])):=hr.make CF _ [];have e0:=I1.env0.make CF [.int c t1,.int p t2] [];generalize X.A.under (.builtin "type.__call__" #[.ref CF :: [.int c t1,.int p t2],[]])=A' at *;have KX:X.K.In h1:=I1.lY;have lim:h1.NoLimit:=I1.nolimit;have hkind:∀y∈(["self","code","place"]:List Str).zip [Value.ref x,.int c t1,.int p t2],sc.names.lookup y.1=some .local\/(sc.names.lookup y.1=some .cell/\((cellsFrom (h1.objs.size+1) sc.names []).lookup y.1).isSome=true):=λ#[n,v] hy=>by
  rcases S.par n (lM hy).1 with z | z
  . exact .inl z
  . exact .inr #[z,cellsFrom_some _ _ _ (.inl z)]
 refine vG A1.depth (KX _ _ lk) rfl S.co S.gen rfl (codeRec_of KX hcd) (BindsTo.of_eq (hbind _ rfl) _ _ _ _ ?_);refine vw S.kind hkind λenv he s1 xx=>?_;subst he;exists lim.keeps xx.toInCall.keep,codeAny_func ?_;have vv:Vals [V.ref x,.int c,.int p] [Value.ref x,.int c t1,.int p t2]:= .cons rfl (.cons #[_,rfl] (.cons #[_,rfl] .nil));have J0:Inv (jG Dt X.prog X.w X.K X.mg X.base ["self","code","place"] "Fault.__init__" sc fI eB A' X.stack _ H E0) [] (start ["self","code","place"] [V.ref x,.int c,.int p]) H s1:=A_ S A1.hd e0 rfl vv xx;have Tw:x < h1.objs.size:=by rw [WC,<-hxx];exact du _
 have J1:=J0.PH (x:=x) rfl (a9 Tw) (λy c' hc=>fU (lU Tw (xx.above y c' (mem_of_lookup hc)))) (λo e=>by
  have:=(I.bs x o e).1;rw [show (#[hp,g,d,tk,os]:Shared).heap.get? x=none from fx] at this;cases this) (λz=>by
  obtain ⟨_,o,ho,_⟩:=I.stack.mem z;rw [show (#[hp,g,d,tk,os]:Shared).heap.get? x=none from fx] at ho;cases ho) (λ_ _=>False)
 have Qz:∀y∈(["self","code","place"]:List Str),IX sc y:=λy hy=>by
  rcases S.par y hy with z | z
  . exact .inl z
  . exact .inr (.inl z)
 have hx2:s1.heap.get? x=some (XE.newExc CF hp.objs.size):=xx.toInCall.keep x _ hx1;have fin:∀s' dx t,Inv {jG Dt X.prog X.w X.K X.mg X.base ["self","code","place"] "Fault.__init__" sc fI eB A' X.stack {heap:=h1,gens:=g,drawn:=d,toks:=tk,os:=os} H E0 with ex:= [x],xe:=λ_ _=>False} [] (start ["self","code","place"] [V.ref x,.int c,.int p]) H s'->
  s'.heap.get? x=some {cls:= .ref CF,dict:=some dx,data:= .fields (List.toArray [.ref hp.objs.size,.none,.none,.none,.bool false,.none])}->(∃t',s'.heap.Ns1 dx (λn=>if n= "place" then some (.int p t) else if n= "code" then some (.int c t') else none))->
  h1.objs.size<=dx->H dx=none->Q (.ref x) s':=λs' dx t J N8 hns hds hdn=>by
  have hpd:hp.objs.size<=dx:=by rw [WC] at hds;exact aP (dU _ _) hds
  refine k x dx hp.objs.size s' (by rw [<-hxx];exact q_ _) nx hdn ?_ N8;ext hns t' hns;have ub:=J.base;have un:Un (frs X.stack) [] H (upd H dx (.xd (fF c p))) hp s'.heap:=by
   have Vf:∀b o,hp.get? b=some o->b∉ [x]:=λb o e z=>by
    obtain rfl:b=x:= ~~~z
    rw [fx] at e;cases e
   have XW:∀b o,hp.get? b=some o->b≠dx:=λb o e z=>by
    rw [z] at e;exact absurd (bw (aI e) hpd) (cM _)
   have PJ:∀b o,H b=some o->b≠dx:=λb o e=>bp e hdn;exists λb o e n hb _=>ub.keep b o (Tv b o e) n hb (Vf b o e),λb o e n hb _=>ub.slot b o (Tv b o e) n hb (Vf b o e),λb o e n _=>by rw [aA (XW b o e)];exact n,
    λb o e _=>ub.there b o (Tv b o e) (Vf b o e),λb xs e=>by rw [aA (PJ b _ e)];exact e,λb o u e=>by rw [aA (PJ b _ e)];exact e,
    λb ps e=>#[#[],by rw [aA (PJ b _ e),e];simp]
  refine I.call' (ch:= []) J.os un ?_ J.bare λb z=>absurd z (by simp);intro a o e;by_cases had:a=dx
  . subst had;rw [aa] at e;cases e;exists _,hns,λf=>?_;unfold fF;by_cases h1:f= "place"
    . subst h1;rw [ah rfl];exists t,U
    . rw [ae h1];by_cases h2:f= "code"
      . subst h2;rw [ah rfl];exists t',U
      . rw [ae h2];have e1:(f == ("code" :Str))=false:=c4.mpr h2;have e2:(f == ("place" :Str))=false:=c4.mpr h1;simp only [List.lookup,e1,e2];trivial
  . rw [aA had] at e;exact (J.bQ a o e).stay (λ_ _ _ z=>z) (λb z=>by rw [aA (bp z hdn)];exact z) λb xs z=>by rw [aA (bp z hdn)];exact z
 have RN:wpAny (model X.prog X.w) (A'.deeper (envOfC "Fault.__init__" sc h1.objs.size fI eB)) (execs [.Assign [.Attribute (.Name "self" p1) "code" p2] (.Name "code" p3) p4,.Assign [.Attribute (.Name "self" p5) "place" p6] (.Name "place" p7) p8] (envOfC "Fault.__init__" sc h1.objs.size fI eB))
  (λfl s'=>fl= .next/\Q (.ref x) s') (λ_ _=>False) s1:=by
  refine lB (RL (X:={jG Dt X.prog X.w X.K X.mg X.base ["self","code","place"] "Fault.__init__" sc fI eB A' X.stack {heap:=h1,gens:=g,drawn:=d,toks:=tk,os:=os} H E0 with ex:= [x],xe:=λ_ _=>False}) (i:=1) (z:=c) J1 q (.inl rfl) rfl (Qz _ (by simp)) rfl rfl (Qz _ (by simp)) ∅ ∅ rfl rfl (by simp) nx (a9 Tw) hx2 λs2 dx t J2 N8 hns hds hdn hdx hdl hdc=>?_);refine lB (RM (X:={jG Dt X.prog X.w X.K X.mg X.base ["self","code","place"] "Fault.__init__" sc fI eB A' X.stack {heap:=h1,gens:=g,drawn:=d,toks:=tk,os:=os} H E0 with ex:= [x],xe:=λ_ _=>False}) (i:=2) (z:=p) J2 q (.inr rfl) rfl (Qz _ (by simp)) rfl rfl (Qz _ (by simp)) ∅ ∅ rfl rfl (by simp) nx (a9 Tw) N8 hns (Within.cons _ _ Within.nil) (by show 1<=sizeLine;decide) hds hdn hdx hdl hdc λs3 t3 J3 Vg Vh=>?_);exact iq #[rfl,fin s3 dx t3 J3 Vg #[t,Vh] hds hdn]
 refine bT RN (λfl s' z=>?_) λ_ _ z=>z.elim;ext z rfl z;exists U,z
end
structure Flt (K:Frag) (mg:Str->Option Value) (CF fI:Addr) (eB:Value) (sc:Scope):Prop where
 cl:gH K CF fI=true
 ini:JR K fI eB sc
 mg:mg "Fault" = some (.ref CF)
 kp:keepIn K (.ref CF)=true
inductive WD (E:XK) (CF:Addr) (vs:List V) (H:Hp):Prop | mk (c p:Int) (_:vs= [.int c,.int p]) (_:∀dx,H dx=none->E (.ref CF) (some dx) (upd H dx (.xd (fF c p)))):WD E CF vs H
def PK (E:XK) (CF:Addr) (t:TA):TS:=λ_ Z H=>t Z H (WD E CF)
theorem JT {E:XK} {a b:Expr} {t:TA} (ha:PA X [a,b] t) (O:X.Out CF E:=by exact gE) (T:Flt X.K X.mg CF fI eB sc:=by assumption) (hr:cY 3 X.A:=by exact cY.mono (by assumption) (by first | exact dn rfl | lia)) (hg:Gl X "Fault" :=by exact rfl) (he:starEach [a,b] X.env=(false,eval a X.env) :: starEach [b] X.env:=by rfl) (g6:(backTo eU (starEach [b] X.env)).any (·.1)=false:=by rfl):
 PS X (.Raise (some (.Call (.Name "Fault" p) [a,b] [] eU)) none pos) (PK E CF t):=by
 intro pN s Z H D I h;rw [arm_exec_Raise];refine aw (lR ?_);obtain ⟨nm,qn,N,bs,sn,sub,ab,col,dd,k0,k1,k2,k3,k5,mN,hC,_⟩:=(Bd I.mod.Mg T.cl).ex;refine XE.HC (C:=CF) (nm:=nm) (q:=qn) (N:=N) (bs:=bs) (sn:=sn) (sub:=sub) (ab:=ab) (col:=col) (dd:=dd) (k0:=k0) (k1:=k1) (k2:=k2) (k3:=k3) (k5:=k5) (newId:= "Exception.__new__") hr.hd ?_;refine aw (bT (Q:=λv s1=> ∃e oe vs,v= .ref e/\s1.heap.get? CF=some (excClassObj nm qn CF N bs BM true sn sub ab col dd k0 k1 k2 k3 k5 "Exception.__new__")/\
  s1.heap.get? e=some oe/\oe.cls= .ref CF/\oe.data= .fields vs/\vs[1]? = some .none/\X.xe (.ref e) s1) ?_ (λv s1 q=>aw (lR (bo q))) λ_ _ z=>z)
 refine ik (kj I hg T.mg ?_ ∅);refine callWith_K (h₀:=X.base) I.ok.mod.Mg T.kp (dY (ha eU pN s Z H _ I h) λus s1 #[vs,H1,I1,r,q]=>#[I1.lY,?_]) he g6;ext q c p rfl q;obtain ⟨t1,t2,rfl⟩:=Vals.U0 r;refine HS I1 T.cl T.ini hr λx dx tp s' fx nx nd J hx=>#[x,_,_,rfl,J.bk _ _ hC,hx,rfl,rfl,rfl,?_];have f0:X.ra.heap.objs.size<=x:=aP I1.sz fx;exact E9 O J (x:=x) (dx:=dx) (tb:= .none) #[_,_,_,hx,rfl,rfl] (.inl rfl) (by
  by_cases z:x=dx
  . exfalso;subst z;have:=J.bQ x _ aa;ext this mA ⟨o,es,ep,e,hd,_⟩ _;rw [hx] at e;cases e;cases hd
  . rw [aA z];exact nx) f0 aa (q dx nd)
section
def Fun.I0 {k:Nat} (F:Fun K x qual st f fd) (S:d_ N ps (aX st)) (len:∀vs H Q E,sp vs H Q E->vs.length=ps.length) (hbody:∀(eB:Value) (A:Around) (outer:List Env) (s:Shared) (H:Hp) (vs:List V) (Q:VK) (E:XK),cY k (A.deeper (envOfC qual (aX st) s.heap.objs.size f eB))->sp vs H Q E->
 ∃t,tR (jG (An P w CF) P w K mg base N qual (aX st) f eB A outer s H E) (cR st) t/\t (Ends.fin Q) (start N vs) H):jg P w K mg base (An P w CF) (k+1) f fd ps sp:=by
 ext F.ex oc od kV doc pm an eB ct osl rfl lk hcd;exact N4 lk hcd S len λA outer s H vs Q E hr hsp=>hbody eB A outer s H vs Q E hr hsp
end
abbrev Cx.mk' (X:Cx) (e:Addr):Cx:={X with A:=X.A.mark (some (.ref e)),calm:=false,xe:=λ_ _=>False}
section
def Inv.mk' (I:Inv X pN Z H s) (e:Addr):Inv (X.mk' e) pN Z H s:=by
 ext I ok os bare base loc cell free gr pin bQ len;ext ok mod kind glob blt above inj has cab hd frames A0 L0 bs C7 Aj xR funs Gh;exists #[mod,kind,glob,blt,above,inj,has,cab,λz=>(by cases z),frames,A0,L0,bs,C7,Aj,xR,funs,Gh],os,bare,base,loc,cell,free,gr,pin,bQ,len
def Inv.RO {e:Addr} (ok:X.Ok) (I:Inv (X.mk' e) pN Z H s):Inv X pN Z H s:=by
 ext I _ os bare base loc cell free gr pin bQ len;exists ok,os,bare,base,loc,cell,free,gr,pin,bQ,len
def Inv.gone {m':Str->Option Value} (I:Inv X pN Z H s) (hs:Heap.SameBut X.env.locals s.heap h') (hn:h'.Ns X.env.locals m'):Inv X pN (List.replicate Z.length none) H {s with heap:=h',toks:=t'}:=by
 have nL:∀b u,H b=some u->b≠X.env.locals:=λb u e=>bp e I.free;exists I.ok,I.os,I.bare,#[λb o e n hb hx=>?_,λb o e n hb hx=>?_,I.base.free,λb o e hx=>?_,I.base.tups,I.base.rG,I.base.sI],#[m',hn,λi x v e1 e2 e3=>?_],λy c e=>?_,I.free,I.gr,λp hp=>?_,λb u e=>?_,by rw [AT];exact I.len
 . exact (hs.2 b (a9 (bw (aI e) I.ok.above))).trans (I.base.keep b o e n hb hx)
 . obtain ⟨sl,e1⟩:=I.base.slot b o e n hb hx;exists sl,(hs.2 b (a9 (bw (aI e) I.ok.above))).trans e1
 . obtain ⟨o',e1⟩:=I.base.there b o e hx;exists o',(hs.2 b (a9 (bw (aI e) I.ok.above))).trans e1
 . rw [AJ] at e2;split at e2 <;> cases e2
 . obtain ⟨v,z⟩:=I.cell y c e;exists v,z.sameBut hs (I.NU y c e)
 . obtain ⟨e,n,ne,nf,d⟩:=I.pin p hp;exists (hs.2 _ ne).trans e,n,ne,nf,d
 . refine (I.bQ b u e).stay (λc v hc q=>(hs.2 c ?_).trans q) (λ_ q=>q) λ_ _ q=>q;rcases hc with rfl | hc
   . exact nL _ _ e
   . exact nL _ _ hc
def ML {x T:Addr} {Q:Unit->Shared->Prop} (J:Inv X pN Z H s) (fZ:X.stack=X.env :: X.outer) (hfm:X.env.frame=some X.env.locals) (R:oO s.heap CF x dx (.ref T)) (TR:sG s.heap T .none) (IZ:T≠x) (nx:H x=none) (nT:H T=none) (fx:oy X pN H x) (fT:oy X pN H T) (k:∀s' T',Inv X pN Z H s'->oO s'.heap CF x dx (.ref T')->sG s'.heap T' .none->T'≠x->oy X pN H T'->Q () s'):
 wpAny (model X.prog X.w) X.A (noteFrame (.ref x) X.env) (λ_ s2=>wpAny (model X.prog X.w) X.A (setFlight (.ref x) none) Q E s2) E s:=by
 have hfr:X.A.frames=some (X.env :: X.outer):=fZ ▸ J.ok.frames;have hl:s.heap.FunFrames X.base (X.env :: X.outer):=fZ ▸ J.stack;have sf:∀b∈frs (X.env :: X.outer),H b=none:=by
  have:=J.tT;rw [fZ] at this;exact this
 refine XE.Jk hfr hl hfm R TR (XE.C4 _) IZ λh1 T1 N1 mZ R1 MJ ne1=>?_;have hn0:s.heap.get? T1=none:=vH mZ;have QG:T1∉frs (X.env :: X.outer):=λz=>by
  obtain ⟨_,o,ho,_⟩:=hl.mem z;rw [hn0] at ho;cases ho
 refine XE.Tl (s:={s with heap:=h1}) (fr:=frs (X.env :: X.outer)) R1 MJ ne1 QG λh2 N2 R2 PF=>?_;have MK:ki (frs (X.env :: X.outer)) (λb=>(b=x\/b=T)\/b=T1) s.heap h2:=N1.trans N2 (λb z=> .inl z) λb o _ z=> .inr z;have WF:H T1=none:=J.bQ.fresh mZ;have un:Un (frs X.stack) [x,T] H H s.heap h2:=by
  rw [fZ];exists λb o e n hb hc=>MK.keep b o e hb λz=>?_,λb o e n hb hc=>MK.slot b o e hb,λb o e n _=>n,λb o e _=>MK.there b o e,λb xs e=>e,λb o u e=>e,λb ps e=>#[#[],by rw [e];simp];rcases z with (z | z) | z
  . exact hc (by simp [z])
  . exact hc (by simp [z])
  . rw [z,hn0] at e;cases e
 have J2:Inv X pN Z H {s with heap:=h2}:=J.call' (s':={s with heap:=h2}) (ch:= [x,T]) rfl un (ud J.bQ MK sf λb z=>by
  rcases z with (z | z) | z
  . rw [z];exact .inl nx
  . rw [z];exact .inl nT
  . rw [z];exact .inl WF) J.bare λb hb=>by
  rcases aF.mp hb with rfl | hb
  . exists fx.2.2.2.1,fx.2.1,fx.2.2.2.2.1,fx.2.2.2.2.2
  . obtain rfl:b=T:= ~~~hb
    exists fT.2.2.2.1,fT.2.1,fT.2.2.2.2.1,fT.2.2.2.2.2
 exact k {s with heap:=h2} T1 J2 R2 PF ne1 (J.Ak mZ WF)
end
section
def XX (x dx:Addr) (f:Str) (te:TE):TE:=λZ H Q=>te Z H λv H1=>v= .ref x/\∃fs y,H1 dx=some (.xd fs)/\fs.lookup f=some y/\(∃i,y= .int i)/\Q y H1
def N9 {x:Addr} {sl:Array (Option Value)} {f:Str} (he:PE X e te) (q:gH X.K CF fI=true) (hp:(x,{cls:= .ref CF,dict:=some dx,data:= .fields vs,slots:=sl})∈X.pn) (hf:f= "code" \/f= "place") (hb:attributeBase e f X.env (eval e X.env)=eval e X.env:=by rfl):PE X (.Attribute e f pos) (XX x dx f te):=by
 intro pN s Z H Q I h;refine Gu hb (dY (he pN s Z H _ I h) λov s1 hZ=>?_);ext hZ v H1 I1 rv ev fs y hd hl ⟨i,ei⟩ q1;subst ev ei;obtain rfl:ov=Value.ref x:=rv;obtain ⟨nm,qn,N,bs,sn,sub,ab,col,dd,k0,k1,k2,k3,k5,mN,hC,hn,hni,hc1,hc2,hsa,hg1,hg2⟩:=(Bd I1.lY q).ex;obtain ⟨px,nx,_⟩:=I1.pin _ (oM _ hp);obtain ⟨mA,hns,rel⟩:=I1.bQ dx _ hd;have r:=rel f;rw [hl] at r;obtain ⟨u,eu,t,rfl⟩:=jE.some_of r;have hna:mN f=none:=by rcases hf with rfl | rfl <;> assumption
 have hB:typeLookup (.type "Exception") f=pure none:=hf.elim (λe=>by rw [e];exact sO) λe=>by rw [e];exact oZ
 ext s1 hp g d tk os;refine XE.L' (mA:=mA) hC hn hg1 hg2 hna hB #[_,px,rfl,(λc e=>by cases e),.inr #[dx,rfl,bp hd nx,hns]] eu rfl ?_;exists .int i,H1,I1.tok _,#[t,U],q1
structure MM (K:Frag) (mg:Str->Option Value) (fN:Addr) (eB:Value) (sc:Scope):Prop where
 ex:∃(params:Arguments) (body:List Stmt) (kV doc pm ct oc:Value) (an od:Option Addr) (osl:Array (Option Value)) (j:Nat) (p1 p2 p3 p4 p5 p6 p7:Pos),
  K.lookup fN=some #[oc,od,.func (fnOf "fault_numbers" "fault_numbers" params body sc .none kV doc pm an eB ct),osl]/\codeIn K eB "fault_numbers" = true/\
  (∀us:List Value,us.length=1->bindArgs (fnOf "fault_numbers" "fault_numbers" params body sc .none kV doc pm an eB ct) #[us,[]]=pure ((["fault"]:List Str).zip us))/\
  body= [.Return (some (.List [.Constant (.int 0) j p1,.Attribute (.Name "fault" p2) "code" p3,.Attribute (.Name "fault" p4) "place" p5] p6)) p7]
 Ve:d_ ["fault"] ["fault"] sc
 loc:sc.names.lookup ("fault" :Str)=some .local
 mg:mg "fault_numbers" = some (.ref fN)
 kp:keepIn K (.ref fN)=true
theorem MN {x fN:Addr} {c p:Int} {sl:Array (Option Value)} {Q:VK} (I:Inv X pN Z H s) (q:gH X.K CF fI=true) (FN:MM X.K X.mg fN eB sc) (hdp:X.A.depth+20 < recursionLimit) (hp:(x,{cls:= .ref CF,dict:=some dx,data:= .fields vs,slots:=sl})∈pN) (hd:H dx=some (.xd (fF c p))) (k:∀l,H l=none->Q (.ref l) (upd H l (.lst [.int 0,.int c,.int p]))):
 wpAny (model X.prog X.w) X.A (call (.ref fN) [.ref x]) (EP X pN Z Q) E s:=by
 ext FN.ex params body kV doc pm ct oc an od osl j p1 p2 p3 p4 p5 p6 p7 lk hcd hbind rfl;have S:=FN.Ve;have KX:=I.lY;have lim:=I.nolimit;obtain ⟨px,nx,nl,nf,nc⟩:=I.pin _ (eQ X.pn hp);have hkind:∀y∈(["fault"]:List Str).zip [Value.ref x],sc.names.lookup y.1=some .local\/(sc.names.lookup y.1=some .cell/\((cellsFrom (s.heap.objs.size+1) sc.names []).lookup y.1).isSome=true):=λ#[n,v] hy=>by
  rcases S.par n (lM hy).1 with z | z
  . exact .inl z
  . exact .inr #[z,cellsFrom_some _ _ _ (.inl z)]
 refine jr (vG (by lia) (KX _ _ lk) rfl S.co S.gen rfl (codeRec_of KX hcd) (BindsTo.of_eq (hbind _ rfl) _ _ _ _ ?_));refine vw S.kind hkind λenv he s1 xx=>?_;subst he;exists lim.keeps xx.toInCall.keep,codeAny_func ?_;have vv:Vals [V.ref x] [Value.ref x]:= .cons rfl .nil;have e0:=I.env0;have J0:Inv {jG Dt X.prog X.w X.K X.mg X.base ["fault"] "fault_numbers" sc fN eB X.A X.stack s H E0 with calm:=false} [] (start ["fault"] [V.ref x]) H s1:=yJ (cm:=false) S (λz=>by cases z) e0 rfl vv xx;have J1:Inv {jG Dt X.prog X.w X.K X.mg X.base ["fault"] "fault_numbers" sc fN eB X.A X.stack s H E0 with calm:=false,pn:= [(x,{cls:= .ref CF,dict:=some dx,data:= .fields vs,slots:=sl})],xe:=λ_ _=>False} [] (start ["fault"] [V.ref x]) H s1:=by
  ext J0 ok os bare base loc cell free gr pin bQ len;ext ok mod kind glob blt above inj has cab hd frames A0 L0 bs C7 Aj xR funs Gh;exists #[mod,kind,glob,blt,above,inj,has,cab,hd,frames,A0,L0,bs,C7,Aj,xR,funs,Gh],os,bare,base,loc,cell,free,gr,λr hr=>?_,bQ,len;obtain rfl:r=(x,{cls:= .ref CF,dict:=some dx,data:= .fields vs,slots:=sl}):= ~~~hr
  exists xx.toInCall.keep x _ px,nx,a9 (aI px),λz=>?_,nc;rcases aF.mp (I.BK x z) with z | z
  . exact nl z
  . exact nf z
 have body:tR {jG Dt X.prog X.w X.K X.mg X.base ["fault"] "fault_numbers" sc fN eB X.A X.stack s H E0 with calm:=false,pn:= [(x,{cls:= .ref CF,dict:=some dx,data:= .fields vs,slots:=sl})],xe:=λ_ _=>False}
  [.Return (some (.List [.Constant (.int 0) j p1,.Attribute (.Name "fault" p2) "code" p3,.Attribute (.Name "fault" p4) "place" p5] p6)) p7] _:=
  yc (sJ (E3 (aH wg (aH (N9 (CF:=CF) (fI:=fI) (x:=x) (dx:=dx) (vs:=vs) (sl:=sl) (yx (i:=0) rfl (.inl FN.loc)) q (dE.mpr rfl) (.inl rfl)) (aH (N9 (CF:=CF) (fI:=fI) (x:=x) (dx:=dx) (vs:=vs) (sl:=sl) (yx (i:=0) rfl (.inl FN.loc)) q (dE.mpr rfl) (.inr rfl)) yH)))))
 refine bT (body [] s1 _ H {nx:=λ_ _=>False,rt:=Q} J1 ?_) (λfl s' hs=>?_) λ_ _ z=>z.elim
 . exists U,_,_,hd,U,#[_,U],U,_,_,hd,U,#[_,U],(by show 3<=sizeLine;decide),λl hl=>k l hl
 . cases fl with
   | ret u=>
    ext hs v Z' H' J rv qq;exact I.after #[v,H',J.os,J.bare,J.base,J.bQ,rv,qq]
   | next=>ext hs _ _ _ z;exact z.elim
   | brk=>ext hs _ _ _ z;exact z.elim
   | cont=>ext hs _ _ _ z;exact z.elim
end
section
variable {k:Nat}
def Dv {y:Str} {E:XK} {t:TA} {Q:Flow->Shared->Prop} {EE:Value->Shared->Prop} {N:VK} (F:jg X.prog X.w X.K X.mg X.base (An X.prog X.w CF) k f fd ps sp) (hr:cY k X.A) (hg:Gl X x) (hm:X.mg x=some (.ref f)) (hk:keepIn X.K (.ref f)=true) (hb:Binds X.K fd ps []) (ha:PA X.ER (e :: es) t) (hN:X.N.Nodup) (hi:X.N[iy]? = some y) (hy:X.env.scope.names.lookup y=some .local) (I:Inv X pN Z H s) (h:t Z H λvs H1=>sp vs H1 N E) (hq:∀v H' s',Inv X pN (Z.set iy (some v)) H' s'->N v H'->Q .next s') (hx:∀H1 s1 ev s',Inv X pN Z H1 s1->An X.prog X.w CF X.stack H1 s1 E ev s'->EE ev s') (hdb:(x == ("__debug__" :Str))=false:=by decide) (he:starEach (e :: es) X.env=(false,eval e X.env) :: starEach es X.env:=by rfl) (g6:(backTo eU (starEach es X.env)).any (·.1)=false:=by rfl) (hs:swapsWith (.Call (.Name x p) (e :: es) [] eU) (some (.Name y py)) pa.line X.env=pure false:=by rfl):
 wpAny (model X.prog X.w) X.A (execs [.Assign [.Name y py] (.Call (.Name x p) (e :: es) [] eU) pa] X.env) Q EE s:=by
 refine lB (wpAny_Assign_Name (ik (kj I hg hm ?_ hdb)) hs);refine callWith_K (h₀:=X.base) I.ok.mod.Mg hk (E8 (ha eU pN s Z H _ (I.wish _) h) λus s1 #[vs,H1,I1,r,q]=>#[I1.lY,?_]) he g6;have Tx:Inv X pN Z H1 s1:=I1.iT;have hl:(us++ []).length=ps.length:=by rw [bH,<-r.length];exact F.len _ _ _ _ q
 have b:=hb s1 us Tx.lY hl;rw [bH] at b;refine jr (gZ (F.run X.A X.stack s1 H1 #[us,[]] us vs N E hr Tx.env0 b r q) λr s' hq'=>?_);cases r with
 | error e=>exact hx H1 s1 e s' Tx hq'
 | ok fl=>
  cases fl with
  | ret u=>
   obtain ⟨v,H',I3,rv,q3⟩:=Tx.after hq';exact oP I3 hN hi (.inl hy) rv (λs2 I4=>iq (hq v H' s2 I4 q3)) (.inr hy)
  | next=>exact False.elim hq'
  | brk=>exact False.elim hq'
  | cont=>exact False.elim hq'
def B7 (R:Int->Int->Hp->Prop):XK:=λ_ d H=> ∃dx c p,d=some dx/\H dx=some (.xd (fF c p))/\R c p H
def Be {ev:Value} {R:Int->Int->Hp->Prop} {nm:Option Str} {b0:Stmt} {Q:Flow->Shared->Prop} (q:gH X.K CF fI=true) (RP:Gl X "Fault") (RQ:X.mg "Fault" = some (.ref CF)) (fZ:X.stack=X.env :: X.outer) (hfm:X.env.frame=some X.env.locals) (I:Inv X pN Z H1 s1) (h:An X.prog X.w CF X.stack H1 s1 (B7 R) ev s') (k:∀x dx vs sl c p H2 s2,ev= .ref x->Inv (X.mk' x) (pN++ [(x,{cls:= .ref CF,dict:=some dx,data:= .fields vs,slots:=sl})]) Z H2 s2->H2 dx=some (.xd (fF c p))->R c p H2->
 match nm with
 | none=>wpAny (model X.prog X.w) (X.A.mark (some (.ref x))) (execs (b0 :: body) X.env) (λfl s3=>Q fl s3) (λ_ _=>False) s2
 | some n=>wpAny (model X.prog X.w) (X.A.mark (some (.ref x))) (storeName X.env n (.ref x)) (λ_ s3=>wpAny (model X.prog X.w) (X.A.mark (some (.ref x))) (execs (b0 :: body) X.env)
  (λfl s4=>wpAny (model X.prog X.w) X.A (do bindName X.env n .none;unbindBehindTheSuite X.env n hpos) (λ_ s5=>Q fl s5) (λ_ _=>False) s4) (λ_ _=>False) s3) (λ_ _=>False) s2):
 wpAny (model X.prog X.w) X.A (noteFrame ev X.env) (λ_ s2=>wpAny (model X.prog X.w) X.A (setFlight ev none) (λ_ s3=>wpAny (model X.prog X.w) X.A (handleBy ev X.env [.ExceptHandler (some (.Name "Fault" np)) nm (b0 :: body) hpos]) Q X.xe s3) X.xe s2) X.xe s':=by
 ext h x T dx fs H' rfl hos bare un bQ Rx TR IZ fx fT nx nT hdx Al c p e1 e2 hR;cases e1;have J:Inv X pN Z H' s':=I.call' (ch:= []) hos un bQ bare λb z=>absurd z (by simp);refine ML J fZ hfm Rx TR IZ nx nT (I.Ak fx nx) (I.Ak fT nT) λs2 T2 J2 R2 PF ne2 RR=>?_;have Jm:Inv (X.mk' x) pN Z H' s2:=J2.mk' x;refine wpAny_handleBy_cons (codeAny_handlers_test (kj Jm RP RQ ?_ ∅)) (by intro q;cases q);obtain ⟨nm',qn,N,bs,sn,sub,ab,col,dd,k0,k1,k2,k3,k5,mN,hC,_⟩:=(Bd J2.lY q).ex;obtain ⟨sl,vs,a0,he,h0,h1⟩:=id R2;ext s2 hp g d tk os;refine wpAny_excMatches_sub_self hC he rfl (by rfl) ?_;have suite:∀{Q':Unit->Shared->Prop} {E':Value->Shared->Prop},(∀s3,Inv (X.mk' x) (pN++ [(x,{cls:= .ref CF,dict:=some dx,data:= .fields vs,slots:=sl})]) Z H' s3->Q' () s3)->
  wpAny (model X.prog X.w) (X.A.mark (some (.ref x))) (setFlight (.ref x) none) Q' E' #[hp,g,d,tk,os]:=λ{Q' E'} kk=>by
  refine XE.Tl (s:=#[hp,g,d,tk,os]) (fr:= []) R2 PF ne2 (by simp) λh3 N3 R3 Zo=>?_;have J3:Inv (X.mk' x) pN Z H' {(#[hp,g,d,tk,os]:Shared) with heap:=h3,toks:=tk}:=Jm.turned (it:=T2) (t':=tk) (λb o hb e=>N3.keep b o e (by simp) hb) RR.1 RR.2.1 RR.2.2.2.1 RR.2.2.2.2.1 RR.2.2.2.2.2;refine kk _ (J3.m3 λr hr=>?_);rcases cg.mp hr with z | z
  . exact J3.pin r (eQ _ z)
  . obtain rfl:r=(x,{cls:= .ref CF,dict:=some dx,data:= .fields vs,slots:=sl}):= ~~~z
    have WG:=I.Ak fx nx;exists N3.keep x _ he (by simp) (bX ne2),nx,WG.2.1,WG.2.2.1,λv e=>by cases e
 cases nm with
 | none=>
  refine codeAny_handlers_suite (suite λs3 J3=>?_);exact bT (k x dx vs sl c p H' s3 rfl J3 e2 hR) (λ_ _ z=>z) λ_ _ z=>z.elim
 | some n=>
  refine codeAny_handlers_suite_as (suite λs3 J3=>?_);refine bT (k x dx vs sl c p H' s3 rfl J3 e2 hR) (λ_ s4 z=>bT z (λfl s5 z=>?_) λ_ _ z=>z.elim) λ_ _ z=>z.elim;exact bT z (λ_ _ z=>z) λ_ _ z=>z.elim
def RT (sp:Sp) (iy:Nat) (t:TA):TS:=λD Z H=>t Z H λvs H1=>sp vs H1 (λv H2=>D.nx (Z.set iy (some v)) H2) (B7 λc p H2=> ∀l,H2 l=none->D.rt (.ref l) (upd H2 l (.lst [.int 0,.int c,.int p])))
def GJ {y n:Str} {i2:Nat} {t:TA} {fN:Addr} (F:jg X.prog X.w X.K X.mg X.base (An X.prog X.w CF) k f fd ps sp) (hr:cY k X.A) (hdp:X.A.depth+20 < recursionLimit) (hg:Gl X x) (hm:X.mg x=some (.ref f)) (hk:keepIn X.K (.ref f)=true) (hb:Binds X.K fd ps []) (ha:PA X.ER (e :: es) t) (hN:X.N.Nodup) (hi:X.N[iy]? = some y) (hy:X.env.scope.names.lookup y=some .local) (q:gH X.K CF fI=true) (RP:Gl X "Fault") (RQ:X.mg "Fault" = some (.ref CF)) (fZ:X.stack=X.env :: X.outer) (hfm:X.env.frame=some X.env.locals) (hn:X.env.scope.names.lookup n=some .local) (hi2:X.N[i2]? = some n) (FN:MM X.K X.mg fN eB sc) (XY:Gl X "fault_numbers") (hnd:(n == ("__debug__" :Str))=false) (hnc:(n == ("__classdict__" :Str))=false) (hdb:(x == ("__debug__" :Str))=false:=by decide) (he:starEach (e :: es) X.env=(false,eval e X.env) :: starEach es X.env:=by rfl) (g6:(backTo eU (starEach es X.env)).any (·.1)=false:=by rfl) (hs:swapsWith (.Call (.Name x p) (e :: es) [] eU) (some (.Name y py)) pa.line X.env=pure false:=by rfl) (he2:starEach [.Name n p2] X.env=(false,eval (.Name n p2) X.env) :: starEach [] X.env:=by rfl) (Vi:(backTo p3 (starEach [] X.env)).any (·.1)=false:=by rfl):
 PS X (.Try [.Assign [.Name y py] (.Call (.Name x p) (e :: es) [] eU) pa] [.ExceptHandler (some (.Name "Fault" np)) (some n) [.Return (some (.Call (.Name "fault_numbers" p1) [.Name n p2] [] p3)) p4] hpos] [] [] pos) (RT sp iy t):=by
 intro pN s Z H D I h;refine wpAny_Try_except (Dv F hr hg hm hk hb ha hN hi hy I h (λv H' s' I' nv=>?_) (λH1 s1 ev s' I1 hc=>?_) hdb he g6 hs)
 . exact iq #[_,_,I',nv]
 . refine Be q RP RQ fZ hfm I1 hc λx' dx vs sl c pp H2 s2 ee J hd hR=>?_;subst ee;have XZ:i2 < Z.length:=by
    rw [J.len];exact (bj.mp hi2).1
   refine oP (X:=X.mk' x') (i:=i2) (v:= .ref x') J hN hi2 (.inl hn) rfl (λs3 J3=>?_) (.inr hn);have X0:(Z.set i2 (some (V.ref x')))[i2]? = some (some (.ref x')):=qD XZ;have pa:PA (X.mk' x') [.Name n p2] (JB (we i2) E1):=aH (yx hi2 (.inl hn) hnd hnc) yH he2;refine lB (wpAny_Return_some (ik (kj J3 XY FN.mg ?_ ∅)));refine callWith_K (h₀:=X.base) J3.ok.mod.Mg FN.kp (dY (pa p3 _ s3 _ H2 (λvs' H'=>vs'= [.ref x']/\H'=H2) J3 (we.i (v:= .ref x') #[rfl,rfl] X0)) λus s4 #[vs',H',J4,r4,e4,e5]=>#[J4.lY,?_]) he2 Vi;subst e4 e5;obtain rfl:=Vals.MB r4;refine E8 (MN (Q:=λv H6=> ∃l,v= .ref l/\H' l=none/\H6=upd H' l (.lst [.int 0,.int c,.int pp])) J4 q FN hdp (eQ _ (dE.mpr rfl)) hd λl hl=>#[l,rfl,hl,rfl]) λu s5 hZ=>?_;ext hZ v H5 J5 rv l ev hl eH;subst ev eH;have J6:=J5.lZ;ext J6.loc m hns _;refine wpAny_nameGoes hn hns (by rw [J6.ok.kind];rfl) λh7 m7 X1 X2=>?_;exists _,_,_,(J6.gone (t':=s5.toks+1) X2 X1).RO I1.ok,rv,hR l hl
def RU (sp:Sp) (iy:Nat) (z:Int) (t:TA):TS:=λD Z H=>t Z H λvs H1=>sp vs H1 (λv H2=>D.nx (Z.set iy (some v)) H2) (B7 λ_ _ H2=> ∀l,H2 l=none->D.rt (.ref l) (upd H2 l (.lst [.int z])))
def MO {y c:Str} {t:TA} {X3:Tok} {p1:Pos} (F:jg X.prog X.w X.K X.mg X.base (An X.prog X.w CF) k f fd ps sp) (hr:cY k X.A) (hg:Gl X x) (hm:X.mg x=some (.ref f)) (hk:keepIn X.K (.ref f)=true) (hb:Binds X.K fd ps []) (ha:PA X.ER (e :: es) t) (hN:X.N.Nodup) (hi:X.N[iy]? = some y) (hy:X.env.scope.names.lookup y=some .local) (q:gH X.K CF fI=true) (RP:Gl X "Fault") (RQ:X.mg "Fault" = some (.ref CF)) (fZ:X.stack=X.env :: X.outer) (hfm:X.env.frame=some X.env.locals) (X4:Gl X c) (X5:X.mg c=some (.int z X3)) (hcd:(c == ("__debug__" :Str))=false) (hdb:(x == ("__debug__" :Str))=false:=by decide) (he:starEach (e :: es) X.env=(false,eval e X.env) :: starEach es X.env:=by rfl) (g6:(backTo eU (starEach es X.env)).any (·.1)=false:=by rfl) (hs:swapsWith (.Call (.Name x p) (e :: es) [] eU) (some (.Name y py)) pa.line X.env=pure false:=by rfl) (he2:starEach [.Name c p2] X.env=(false,eval (.Name c p2) X.env) :: starEach [] X.env:=by rfl):
 PS X (.Try [.Assign [.Name y py] (.Call (.Name x p) (e :: es) [] eU) pa] [.ExceptHandler (some (.Name "Fault" np)) none [.Return (some (.List [.Name c p2] p3)) p4] hpos] [] [] pos) (RU sp iy z t):=by
 intro pN s Z H D I h;refine wpAny_Try_except (Dv F hr hg hm hk hb ha hN hi hy I h (λv H' s' I' nv=>?_) (λH1 s1 ev s' I1 hc=>?_) hdb he g6 hs)
 . exact iq #[_,_,I',nv]
 . refine Be q RP RQ fZ hfm I1 hc λx' dx vs sl cc pp H2 s2 ee J hd hR=>?_;have body:tR (X.mk' x') [.Return (some (.List [.Name c p2] p3)) p4] _:=yc (sJ (E3 (aH (yb (v:= .int z) X4 X5 #[_,rfl] hcd) yH he2)));refine bT (body _ s2 Z H2 {nx:=λ_ _=>False,rt:=D.rt} J #[by show 1<=sizeLine;decide,λl hl=>hR l hl]) (λfl s5 Tz=>?_) λ_ _ z=>z;cases fl with
   | ret u=>
    ext Tz v Z' H' J5 rv qq;exists v,Z',H',J5.lZ.RO I1.ok,rv,qq
   | next=>ext Tz _ _ _ z;exact z.elim
   | brk=>ext Tz _ _ _ z;exact z.elim
   | cont=>ext Tz _ _ _ z;exact z.elim
end
def BX (CF:Addr) (E:XK) (X:Cx) (s3:Shared) (H3:Hp) (ce:Env) (fp:List Addr):Value->Shared->Prop:=λe s'=>
 ∃(x T dx:Addr) (fs:List (Str×V)) (H':Hp) (m:Str->Option Value),e= .ref x/\s'.os=s3.os/\AllBare s'.gens/\Un (frs X.stack) fp H3 H' s3.heap s'.heap/\lX X.prog X.w H' s'.heap/\
  oO s'.heap CF x dx (.ref T)/\sG s'.heap T .none/\T≠x/\s3.heap.objs.size<=x/\s3.heap.objs.size<=T/\H' x=none/\H' T=none/\
  H' dx=some (.xd fs)/\E (.ref CF) (some dx) H'/\x≠ce.locals/\T≠ce.locals/\s'.heap.Ns ce.locals m/\H' ce.locals=none/\ce.locals∉frs X.stack/\s3.heap.objs.size<=s'.heap.objs.size
section
variable {E:XK}
def N_ {s3:Shared} {H3:Hp} {ce:Env}:Passes (An X.prog X.w CF) ((X.blk s3 H3 scope ce fp).wish (BX CF E X s3 H3 ce fp)) E:=λpN Z H s e s' I h=>by
 ext h x T dx fs H' rfl hos bare un bQ R TR IZ fx fT nx nT hdx hE;have J:Inv ((X.blk s3 H3 scope ce fp).wish (BX CF E X s3 H3 ce fp)) pN Z H' s':=I.call' (ch:= []) hos un bQ bare λb z=>absurd z (by simp);ext J.loc m hm _;exists x,T,dx,fs,H',m,U,J.os,bare,J.base,bQ,R,TR,IZ,aP I.sz fx,aP I.sz fT,nx,nT,hdx,hE,fU (bw I.lt fx),fU (bw I.lt fT),hm,J.free,λz=>?_,J.sz;obtain ⟨_,o,ho,_⟩:=I.ok.funs.mem z;exact absurd (bw (aI ho) I.ok.above) (cM _)
def Vj (O:X.Out CF E) {use:Option (Value->Sem Unit)}:∀s3 H3 ce fp D e s',Inv X pN Z H3 s3->ce.frame=X.env.frame->ce.locals=s3.heap.objs.size->(∀b∈fp,oy X pN H3 b/\b < s3.heap.objs.size)->BX CF E X s3 H3 ce fp e s'->
 notedBy (model X.prog X.w) X.A ce (λe s'=>compPost (model X.prog X.w) X.A X.xe use Qf (.ref D) s3.heap.objs.size (.error e) s') e s':=λs3 H3 ce fp D e s' I3 hcf hcl f3 h=>by
 ext h x T dx fs H' m rfl hos bare un bQ R TR IZ fx fT nx nT hdx hE hxc X6 hm nc X7 hsz;have hch:∀b∈fp,(b∈X.ex\/X.ra.heap.objs.size<=b)/\b≠X.env.locals/\(∀x c,X.env.cells.lookup x=some c->c≠b)/\∀p∈X.pn++pN,p.1≠b:=λb hb=>
  #[(f3 b hb).1.2.2.2.1,(f3 b hb).1.2.1,(f3 b hb).1.2.2.2.2.1,(f3 b hb).1.2.2.2.2.2]
 have J:Inv X pN Z H' s':=I3.call' (ch:=fp) hos un bQ bare hch;have hfr:X.A.frames=some (X.env :: X.outer):=O.A0 ▸ J.ok.frames;have hl:s'.heap.FunFrames X.base (X.env :: X.outer):=O.A0 ▸ J.stack;have sf:∀b∈frs (X.env :: X.outer),H' b=none:=by
  have:=J.tT;rw [O.A0] at this;exact this
 have en:noteFrame (.ref x) ce=noteFrame (.ref x) X.env:=by
  unfold noteFrame PySem.frameOf;rw [hcf]
 unfold notedBy;rw [en];rw [<-hcl];refine XE.Jk hfr hl O.frm R TR (XE.C4 _) IZ λh1 T1 N1 mZ R1 MJ ne1=>?_;have Vk:T1≠ce.locals:=λz=>by
  ext hm o _ _ ho _;rw [z] at mZ;exact absurd (bw (aI ho) mZ) (cM _)
 have Vl:ce.locals∉frs (X.env :: X.outer):=by rw [<-O.A0];exact X7
 exists m,?_,λh' sb fW hce=>?_
 . ext hm o es ep ho r;exists o,es,ep,N1.keep _ _ ho Vl (λz=>z.elim (λq=>hxc q.symm) λq=>X6 q.symm),r
 have R':oO h' CF x dx (.ref T1):=by
  ext R1 sl vs a0 he r;exists sl,vs,a0,(sb.2 x hxc).trans he,r
 have Ux:sG h' T1 (rawInt X.env.locals):=by
  ext MJ oT ts hT r;exists oT,ts,(sb.2 T1 Vk).trans hT,r
 obtain ⟨sl,vs,a0,he,h0,h1'⟩:=id R';unfold PySem.passOn;refine aw (gl (s:={s' with heap:=h'}) he rfl h1' ?_);rw [ae (by simp)];refine aw (XE.Tl (s:={s' with heap:=h'}) (fr:= []) (to:=fW.frame) R' Ux ne1 (by simp) λh2 N2 R2 PF=>?_);refine wpAny_throw ?_;have RV:H' T1=none:=J.bQ.fresh mZ;have X8:Un (frs X.stack) fp H3 H' s3.heap h2:=by
  have nC:∀b o,s3.heap.get? b=some o->b≠ce.locals:=λb o e=>by rw [hcl];exact a9 (aI e)
  have nX:∀b o,s3.heap.get? b=some o->b≠x/\b≠T:=λb o e=>#[a9 (bw (aI e) fx),a9 (bw (aI e) fT)];have Vm:s3.heap.objs.size<=T1:=aP hsz mZ;have RV:∀b o,s3.heap.get? b=some o->b≠T1:=λb o e=>a9 (bw (aI e) Vm);exists λb o e n hb hx=>?_,λb o e n hb hx=>?_,un.free,λb o e hx=>?_,un.tups,un.rG,un.sI
  . have e1:=un.keep b o e n hb hx;have e2:=N1.keep b o e1 (by rw [<-O.A0];exact hb) (λz=>z.elim (nX b o e).1 (nX b o e).2);have e3:=(sb.2 b (nC b o e)).trans e2;exact N2.keep b o e3 (by simp) (RV b o e)
  . obtain ⟨Zq,e1⟩:=un.slot b o e n hb hx;obtain ⟨sl2,e2⟩:=N1.slot b _ e1 (by rw [<-O.A0];exact hb);have e3:=(sb.2 b (nC b o e)).trans e2;exists sl2,N2.keep b _ e3 (by simp) (RV b o e)
  . obtain ⟨o1,e1⟩:=un.there b o e hx;obtain ⟨o2,e2⟩:=N1.there b o1 e1;have e3:=(sb.2 b (nC b o e)).trans e2;exact N2.there b o2 e3
 have ok2:lX X.prog X.w H' h2:=by
  have k1:=ud bQ N1 sf λb z=>z.elim (λq=>by rw [q];exact .inl nx) λq=>by rw [q];exact .inl nT
  have k2:lX X.prog X.w H' h':=λa o e=>(k1 a o e).stay (λb u hb q=>(sb.2 b (by
   rcases hb with rfl | hb
   . exact bp e nc
   . exact bp hb nc)).trans q) (λ_ q=>q) λ_ _ q=>q
  exact ud k2 N2 (by simp) λb z=>by rw [z];exact .inl RV
 have J2:Inv X pN Z H' {s' with heap:=h2}:=I3.call' (s':={s' with heap:=h2}) (ch:=fp) hos X8 ok2 bare hch;exact E9 O J2 R2 (.inr #[T1,_,rfl,PF,ne1,RV,aP J.sz mZ]) nx (aP I3.sz fx) hdx hE
def Bf {E:XK} {y:Str} {spos:Pos} {wi:TI} (O:X.Out CF E) (i:Nat) (hi:PI X tg iter wi) (own:List (Str×Nat)) (hg:∀(s:Shared) (H:Hp) (C:Addr) (cl:List (Str×Addr)) (fp:List Addr),PG (X.blk s H scope (compEnvC scope cl C X.env) fp) tg g) (he:∀(s:Shared) (H:Hp) (C:Addr) (cl:List (Str×Addr)) (fp:List Addr),PE ((X.blk s H scope (compEnvC scope cl C X.env) fp).wish (BX CF E X s H (compEnvC scope cl C X.env) fp)) elt te) (hc:X.calm=true:=by exact rfl) (hN:X.N.Nodup:=by assumption) (hy:X.N[i]? = some y:=by rfl) (hyl:X.env.scope.names.lookup y=some .local:=by rfl) (hsw:swapsWith (.ListComp elt [#[tg,iter,ifs,0]] scope pos) (some (.Name y py)) spos.line X.env=pure true:=by exact Gz rfl rfl rfl (by decide+kernel)) (ok:yL X.N X.env.scope scope own:=by exact yM #v[]) (ht:∀(s:Shared) (H:Hp) (C:Addr) (cl:List (Str×Addr)) (fp:List Addr),Py (X.blk s H scope (compEnvC scope cl C X.env) fp) ifs tt:=by exact λ_ _ _ _ _=>B3) (hs:∀x,foldedSetIterable iter X.env x=pure x:=by intro _;rfl):
 PS X (.Assign [.Name y py] (.ListComp elt [#[tg,iter,ifs,0]] scope pos) spos) (O8 (Pz wi g tt te (own.map (·.2))) (yz i)):=by
 intro pN s Z H D I h;rw [exec_Assign_Name_used _ _ _ _ hsw];refine aw (lR (aw ?_));show wpAny _ X.A (do let _<-comprehension (.ListComp elt [#[tg,iter,ifs,0]] scope pos) scope X.env (firstIterPos [#[tg,iter,ifs,0]] pos) (newList []) false (eval iter X.env) (some (assign (.Name y py) X.env))) _ _ s;have h:Pz wi g tt te (own.map (·.2)) Z H (λx H1=>yz i x Z H1 D.nx):=h;refine aw (dY (Dj (Qf:=λ_ s'=>SP X pN D .next s') hc hN I hi ok hg ht he hs (Vj O) h λL C s' m H' I' q hn f=>?_) λ_ s' hq=>bo (bo hq));show wpAny _ _ (assign (.Name y py) X.env (.ref L)) _ _ _;refine vO (wd (v:=V.ref L) I' hN hy (.inl hyl) rfl (λs2 I2 #[a,sb,ha]=>?_) (.inr hyl));ext f f0 f1 f2 f3 f4 f5;have haC:C≠a:=by
  rcases ha with z | z
  . rw [z];exact f1
  . exact λe=>f4 y a z e.symm
 exists m,hn.sameBut sb haC,λh3 Va=>?_;exists _,H',I2.turned (t':=s2.toks) (λb o hb e=>(Va.2 b hb).trans e) f0 f1 f3 f4 f5,q
end
section
open PySem.W (WData Codec OpenSpec Well WellAll ReadsW ReadsAllW)
mutual
inductive Dw (K:Frag) (H:Hp):V->WData->Prop
 | cx:Dw K H .cx .none
 | bl (b:Bool):Dw K H (.bl b) (.bool b)
 | int (i:Int):Dw K H (.int i) (.int i)
 | str (x:Str):Dw K H (.str x) (.str x)
 | CZ (b:Array UInt8):Dw K H (.CZ b) (.bytes b.toList)
 | lst {a:Addr} {xs:List V} {ds:List WData}:cw K H a xs->o0 K H xs ds->Dw K H (.ref a) (.list ds)
 | tup {a:Addr} {xs:List V} {ds:List WData}:g9 K H a xs->o0 K H xs ds->Dw K H (.ref a) (.tuple ds)
inductive o0 (K:Frag) (H:Hp):List V->List WData->Prop
 | nil:o0 K H [] []
 | cons {v:V} {vs:List V} {d:WData} {ds:List WData}:Dw K H v d->o0 K H vs ds->o0 K H (v :: vs) (d :: ds)
end
theorem GK:∀ns:List Int,o0 K H (ns.map V.int) (ns.map WData.int)
 | []=> .nil
 | n :: r=> .cons (.int n) (GK r)
theorem GL:∀(ns:List Int) (xs:List V),o0 K H xs (ns.map WData.int)->xs=ns.map V.int
 | [],xs,h=>by
  cases h;rfl
 | n :: r,xs,h=>by
  cases h with
  | cons h1 h2=>
   cases h1;rw [GL r _ h2] <;> rfl
section
variable {R:WRecords} {cl:Str->Option Addr}
def PL (bQ:lX P w H h) (KX:K.In h) (q:cw K H a xs):∃(bU:List Value) (o:Obj) (n:Nat),Vals xs bU/\h.get? a=some o/\o.cls= .type "list" /\o.data= .seq bU.toArray n:=by
 rcases q with q | ⟨o,bU,n,e,hc,_,hd,_,hv⟩
 . obtain ⟨_,bU,n,hv,e⟩:=(show dc P w H h a (.lst xs) from q.ok bQ);exists bU,_,n,hv,e,U,U
 . exists bU.toList,o,n,hv,KX _ _ e,hc,by simp [hd]
def PN (bQ:lX P w H h) (KX:K.In h) (q:g9 K H a xs):∃(bU:List Value) (o:Obj) (n:Nat),Vals xs bU/\h.get? a=some o/\o.cls= .type "tuple" /\o.data= .seq bU.toArray n:=by
 rcases q with q | ⟨o,bU,n,e,hc,hd,_,hv⟩
 . obtain ⟨_,bU,hv,o,e,hc,n,hd⟩:=(show dc P w H h a (.tup xs) from q.ok bQ);exists bU,o,n,hv,e,hc,hd
 . exists bU.toList,o,n,hv,KX _ _ e,hc,by simp [hd]
mutual
theorem Dw.reads (bQ:lX P w H h) (KX:K.In h):∀(d:WData) (v:V) (u:Value),Dw K H v d->RelV v u->∃as,ReadsW R cl h u d as
 | .none,_,_,x,r=>by
  cases x;cases r;exists _,ReadsW.none
 | .bool b,_,_,x,r=>by
  cases x;cases r;exists _,ReadsW.bool b
 | .int i,_,_,x,r=>by
  cases x;ext r t rfl;exists _,ReadsW.int i t
 | .str s,_,_,x,r=>by
  cases x;ext r t rfl;exists _,ReadsW.str s t
 | .bytes b,_,_,x,r=>by
  cases x;ext r t rfl;exists _,ReadsW.bytes _ t
 | .list ds,_,_,x,r=>by
  cases x with
  | lst hs ha=>
   cases r;obtain ⟨bU,o,n,rv,ho,hc,hd⟩:=PL bQ KX hs;obtain ⟨as,hr⟩:=Dw.readsAll bQ KX ds _ bU ha rv;exists _,ReadsW.list ho hc hd hr
 | .tuple ds,_,_,x,r=>by
  cases x with
  | tup hs ha=>
   cases r;obtain ⟨bU,o,n,rv,ho,hc,hd⟩:=PN bQ KX hs;obtain ⟨as,hr⟩:=Dw.readsAll bQ KX ds _ bU ha rv;exists _,ReadsW.tuple ho hc hd hr
 | .float _,_,_,x,_=>by cases x
 | .dict _,_,_,x,_=>by cases x
 | .bytearray _,_,_,x,_=>by cases x
 | .set _,_,_,x,_=>by cases x
 | .frozenset _,_,_,x,_=>by cases x
 | .obj _ _,_,_,x,_=>by cases x
theorem Dw.readsAll (bQ:lX P w H h) (KX:K.In h):∀(ds:List WData) (vs:List V) (us:List Value),o0 K H vs ds->Vals vs us->∃as,ReadsAllW R cl h us ds as
 | [],_,_,x,r=>by
  cases x;cases r;exists _,ReadsAllW.nil
 | d :: ds,_,_,x,r=>by
  cases x with
  | cons h1 h2=>
   cases r with
   | cons r1 r2=>
    obtain ⟨as,q1⟩:=Dw.reads bQ KX d _ _ h1 r1;obtain ⟨bs,q2⟩:=Dw.readsAll bQ KX ds _ _ h2 r2;exists _,ReadsAllW.cons q1 q2
end
end
mutual
def GN:WData->Bool
 | .none=>true
 | .bool _=>true
 | .int _=>true
 | .str _=>true
 | .bytes _=>true
 | .list xs=>xT xs
 | .tuple xs=>xT xs
 | _=>false
def xT:List WData->Bool
 | []=>true
 | x :: r=>GN x && xT r
end
theorem Dx {f:α->WData} (h:∀a,GN (f a)=true):∀l:List α,xT (l.map f)=true
 | []=>rfl
 | x :: r=>by
  show (GN (f x) && xT (r.map f))=true;rw [h x,Dx h r] <;> rfl
theorem o3:∀(c:Codec) (a:c.denote),GN (c.enc a)=true
 | .unit,_=>rfl
 | .bool,_=>rfl
 | .int _ _,_=>rfl
 | .nat _ _,_=>rfl
 | .u8,_=>rfl
 | .bytes _ _,_=>rfl
 | .text _ _ _ _,_=>rfl
 | .list _ _ c,a=>Dx (λx=>o3 c x) a
 | .pair c d,a=>by
  show (GN (c.enc a.1) && (GN (d.enc a.2) && true))=true;rw [o3 c a.1,o3 d a.2] <;> rfl
 | .triple c d e,a=>by
  show (GN (c.enc a.1) && (GN (d.enc a.2.1) && (GN (e.enc a.2.2) && true)))=true;rw [o3 c a.1,o3 d a.2.1,o3 e a.2.2] <;> rfl
 | .option c,none=>rfl
 | .option c,some x=>o3 c x
theorem Bg:∀(cs:List Codec) (a:Codec.denoteAll cs),xT (Codec.encAll cs a)=true
 | [],_=>rfl
 | c :: cs,a=>by
  show (GN (c.enc a.1) && xT (Codec.encAll cs a.2))=true;rw [o3 c a.1,Bg cs a.2] <;> rfl
theorem sP:∀{xs:List WData} {d:WData},d∈xs->d.weight<=WData.weightAll xs
 | [],d,h=>absurd h (by simp)
 | x :: r,d,h=>by
  show d.weight<=x.weight+1+WData.weightAll r;rcases aF.mp h with e | m
  . rw [e];lia
  . have z:=sP m;lia
def toV:Value->V
 | .none=> .cx
 | .bool b=> .bl b
 | .int i _=> .int i
 | .str x _=> .str x
 | .bytes b _=> .CZ b
 | .ref a=> .ref a
 | _=> .cx
def HU (A:List Addr):Value->Prop
 | .none=>True
 | .bool _=>True
 | .int _ _=>True
 | .str _ _=>True
 | .bytes _ _=>True
 | .ref a=>a∈A
 | _=>False
def HU.mono {A B:List Addr} (h:∀a∈A,a∈B):∀{u:Value},HU A u->HU B u:=λ{u} x=>by
 cases u with
 | ref a=>exact h a x
 | none=>trivial
 | bool b=>trivial
 | int i t=>trivial
 | str s t=>trivial
 | bytes b t=>trivial
 | _=>exact False.elim x
def JU {A:List Addr} (x:HU A u):RelV (toV u) u:=by
 cases u with
 | ref a=>rfl
 | none=>rfl
 | bool b=>rfl
 | int i t=>exists t,U
 | str s t=>exists t,U
 | bytes b t=>exists t,U
 | _=>exact False.elim x
theorem mi {A:List Addr}:∀{vs:List Value},(∀u∈vs,HU A u)->Vals (vs.map toV) vs
 | [],_=> .nil
 | u :: r,h=> .cons (JU (h u (bi ..))) (mi λx hx=>h x (aW _ hx))
def nS (h:Heap) (A:List Addr) (a:Addr):= ∃vs:List Value,vs.length<=sizeLine/\(∀u∈vs,HU A u)/\
 (h.get? a=some {cls:= .type "list",data:= .seq vs.toArray}\/h.get? a=some {cls:= .type "tuple",data:= .seq vs.toArray})
def nS.mono {A B:List Addr} (k:∀a∈A,a∈B) (x:nS h A a):nS h B a:=by
 ext x vs h1 h2 h3;exists vs,h1,λu hu=>(h2 u hu).mono k,h3
theorem km {P:Params}:∀{vs:List Value} {ds:List WData},WellAll P h vs ds->vs.length=ds.length
 | _,_,.nil=>rfl
 | _,_,.cons _ b=>by
  show _+1=_+1;rw [km b]
def Bh {P:Params} {v:Value} (x:Well P h v (.list ds)):∃(a:Addr) (vs:List Value),v= .ref a/\h.get? a=some {cls:= .type "list",data:= .seq vs.toArray}/\WellAll P h vs ds:=by
 cases x with
 | list ho hall=>exists _,_,U,ho,hall
def yQ {P:Params} {v:Value} (x:Well P h v (.tuple ds)):∃(a:Addr) (vs:List Value),v= .ref a/\h.get? a=some {cls:= .type "tuple",data:= .seq vs.toArray}/\WellAll P h vs ds:=by
 cases x with
 | tuple ho hall=>exists _,_,U,ho,hall
def Bi {P:Params} {d:WData} (x:WellAll P h us (d :: ds)):∃(v:Value) (vs:List Value),us=v :: vs/\Well P h v d/\WellAll P h vs ds:=by
 cases x with
 | cons a b=>exists _,_,U,a,b
def GO (h:n<=1048576):n<=sizeLine:=aP h ∅
section
variable {P:Params}
mutual
theorem JV:∀(d:WData) (v:Value),Well P h v d->GN d=true->d.weight<=1048576->∃A:List Addr,HU A v/\∀a∈A,nS h A a
 | .none,_,x,_,_=>by
  cases x;exists [],trivial,λa m=>absurd m (by simp)
 | .bool b,_,x,_,_=>by
  cases x;exists [],trivial,λa m=>absurd m (by simp)
 | .int i,_,x,_,_=>by
  cases x;exists [],trivial,λa m=>absurd m (by simp)
 | .str s,_,x,_,_=>by
  cases x;exists [],trivial,λa m=>absurd m (by simp)
 | .bytes b,_,x,_,_=>by
  cases x;exists [],trivial,λa m=>absurd m (by simp)
 | .list ds,_,x,p,z=>by
  obtain ⟨a,vs,rfl,ho,hall⟩:=Bh x;have z2:WData.weightAll ds<=1048576:=z;obtain ⟨A,h1,h2⟩:=ue ds _ hall p λd hd=>aP (sP hd) z2;have k:∀b∈A,b∈a :: A:=λb hb=>aW _ hb;exists a :: A,bi ..,λb hb=>?_;rcases aF.mp hb with e | m
  . rw [e];exists vs,GO (by rw [km hall];exact aP (AG ds) z2),λu hu=>(h1 u hu).mono k,.inl ho
  . exact (h2 b m).mono k
 | .tuple ds,_,x,p,z=>by
  obtain ⟨a,vs,rfl,ho,hall⟩:=yQ x;have z2:WData.weightAll ds<=1048576:=z;obtain ⟨A,h1,h2⟩:=ue ds _ hall p λd hd=>aP (sP hd) z2;have k:∀b∈A,b∈a :: A:=λb hb=>aW _ hb;exists a :: A,bi ..,λb hb=>?_;rcases aF.mp hb with e | m
  . rw [e];exists vs,GO (by rw [km hall];exact aP (AG ds) z2),λu hu=>(h1 u hu).mono k,.inr ho
  . exact (h2 b m).mono k
 | .float _,_,_,p,_=>Bool.noConfusion (show false=true from p)
 | .dict _,_,_,p,_=>Bool.noConfusion (show false=true from p)
 | .bytearray _,_,_,p,_=>Bool.noConfusion (show false=true from p)
 | .set _,_,_,p,_=>Bool.noConfusion (show false=true from p)
 | .frozenset _,_,_,p,_=>Bool.noConfusion (show false=true from p)
 | .obj _ _,_,_,p,_=>Bool.noConfusion (show false=true from p)
theorem ue:∀(ds:List WData) (vs:List Value),WellAll P h vs ds->xT ds=true->(∀d∈ds,d.weight<=1048576)->∃A:List Addr,(∀u∈vs,HU A u)/\∀a∈A,nS h A a
 | [],_,x,_,_=>by
  cases x;exists [],λu m=>absurd m (by simp),λa m=>absurd m (by simp)
 | d :: ds,_,x,p,z=>by
  obtain ⟨v,vs,rfl,x1,x2⟩:=Bi x;have q:GN d=true/\xT ds=true:=ig.mp p;obtain ⟨A,a1,a2⟩:=JV d v x1 q.1 (z d (bi ..));obtain ⟨B,b1,b2⟩:=ue ds vs x2 q.2 λe he=>z e (aW _ he);have kA:∀b∈A,b∈A++B:=λb hb=>cg.mpr (.inl hb);have kB:∀b∈B,b∈A++B:=λb hb=>cg.mpr (.inr hb);exists A++B,λu hu=>?_,λb hb=>?_
  . rcases aF.mp hu with e | m
    . rw [e];exact a1.mono kA
    . exact (b1 u m).mono kB
  . rcases cg.mp hb with m | m
    . exact (a2 b m).mono kA
    . exact (b2 b m).mono kB
end
end
def MP (o:Obj):Option HO:=match o.data with
 | .seq vs _=>if (o.cls == Value.type "list")=true then some (.g8 o (.lst (vs.toList.map toV))) else some (.g8 o (.tup (vs.toList.map toV)))
 | _=>none
noncomputable def nb (K:Frag) (h:Heap) (A:List Addr):Hp:=λb=>if b∈A then (if (K.lookup b).isNone=true then (h.get? b).bind MP else none) else none
def GQ (H:Hp):= ∀b,H b=none\/∃o u,H b=some (.g8 o u)
def Dy (vs:List Value):MP {cls:= .type "list",data:= .seq vs.toArray}=some (.g8 {cls:= .type "list",data:= .seq vs.toArray} (.lst (vs.map toV))):=by
 show (if (Value.type "list" == Value.type "list")=true then some (HO.g8 {cls:= .type "list",data:= .seq vs.toArray} (.lst (vs.toArray.toList.map toV))) else some (HO.g8 {cls:= .type "list",data:= .seq vs.toArray} (.tup (vs.toArray.toList.map toV))))=_;rw [ah (lC _)]
def Dz (vs:List Value):MP {cls:= .type "tuple",data:= .seq vs.toArray}=some (.g8 {cls:= .type "tuple",data:= .seq vs.toArray} (.tup (vs.map toV))):=by
 show (if (Value.type "tuple" == Value.type "list")=true then some (HO.g8 {cls:= .type "tuple",data:= .seq vs.toArray} (.lst (vs.toArray.toList.map toV))) else some (HO.g8 {cls:= .type "tuple",data:= .seq vs.toArray} (.tup (vs.toArray.toList.map toV))))=_;rw [ae ∅]
section
variable {A:List Addr}
def yg {o:Obj} (hb:b∈A) (hk:K.lookup b=none) (e:h.get? b=some o):nb K h A b=MP o:=by
 unfold nb;rw [ah hb,hk,ah (show (none:Option Obj).isNone=true from rfl),e] <;> rfl
def MQ {u:HO} (q:nb K h A b=some u):b∈A/\K.lookup b=none:=by
 unfold nb at q;by_cases hb:b∈A
 . rw [ah hb] at q;cases hk:K.lookup b with
   | none=>exists hb,U
   | some o=>
    rw [hk,ae (by simp)] at q;cases q
 . rw [ae hb] at q;cases q
def yh (ar:∀a∈A,nS h A a) {u:HO} (q:nb K h A b=some u):K.lookup b=none/\∃vs:List Value,vs.length<=sizeLine/\(∀u∈vs,HU A u)/\
 ((h.get? b=some {cls:= .type "list",data:= .seq vs.toArray}/\u= .g8 {cls:= .type "list",data:= .seq vs.toArray} (.lst (vs.map toV)))\/
  (h.get? b=some {cls:= .type "tuple",data:= .seq vs.toArray}/\u= .g8 {cls:= .type "tuple",data:= .seq vs.toArray} (.tup (vs.map toV)))):=by
 obtain ⟨hb,hk⟩:=MQ q;obtain ⟨vs,h1,h2,h3⟩:=ar b hb;exists hk,vs,h1,h2,?_;rcases h3 with e | e
 . rw [yg hb hk e,Dy] at q;exact .inl #[e,(bE q).symm]
 . rw [yg hb hk e,Dz] at q;exact .inr #[e,(bE q).symm]
def HW (ar:∀a∈A,nS h A a):GQ (nb K h A):=λb=>by
 cases q:nb K h A b with
 | none=>exact .inl rfl
 | some u=>
  obtain ⟨_,vs,_,_,⟨_,e⟩ | ⟨_,e⟩⟩:=yh ar q
  . exact .inr #[_,_,by rw [e]]
  . exact .inr #[_,_,by rw [e]]
def MR (ar:∀a∈A,nS h A a):lX P w (nb K h A) h:=λb u q=>by
 obtain ⟨_,vs,h1,h2,⟨e,rfl⟩ | ⟨e,rfl⟩⟩:=yh ar q
 . exists e,by rw [aB];exact h1,vs,_,mi h2,e
 . exists e,by rw [aB];exact h1,vs,mi h2,_,e,rfl,_,rfl
def yi {c c':Value} {vs:List Value} (e:(some {cls:=c,data:= .seq vs.toArray}:Option Obj)=some {cls:=c',data:= .seq us.toArray}):c=c'/\vs=us:=by
 have e1:=bE e;have e2:c=c':=bq Obj.cls e1;have e3:Data.seq vs.toArray=Data.seq us.toArray:=bq Obj.data e1;injection e3 with e4;exists e2,?_;have e5:=bq Array.toList e4;simpa using e5
def Vn (KX:K.In h) (ar:∀a∈A,nS h A a) {vs:List Value} (ha:a∈A) (e:h.get? a=some {cls:= .type "list",data:= .seq vs.toArray}):(∀u∈vs,HU A u)/\cw K (nb K h A) a (vs.map toV):=by
 obtain ⟨us,h1,h2,h3⟩:=ar a ha;have hu:us=vs:=by
  rcases h3 with q | q
  . rw [e] at q;exact (yi q).2.symm
  . rw [e] at q;exact absurd (Value.type.inj (yi q).1) ∅
 subst hu;exists h2,?_;cases hk:K.lookup a with
 | none=>exact .inl (.inr #[_,by rw [yg ha hk e,Dy]])
 | some o=>
  have e2:=KX a o hk;rw [e] at e2;obtain rfl:=bE e2;exact .inr #[_,us.toArray,_,hk,rfl,rfl,rfl,by rw [cb];exact h1,~~~(mi h2)]
def Vo (KX:K.In h) (ar:∀a∈A,nS h A a) {vs:List Value} (ha:a∈A) (e:h.get? a=some {cls:= .type "tuple",data:= .seq vs.toArray}):(∀u∈vs,HU A u)/\g9 K (nb K h A) a (vs.map toV):=by
 obtain ⟨us,h1,h2,h3⟩:=ar a ha;have hu:us=vs:=by
  rcases h3 with q | q
  . rw [e] at q;exact absurd (Value.type.inj (yi q).1) ∅
  . rw [e] at q;exact (yi q).2.symm
 subst hu;exists h2,?_;cases hk:K.lookup a with
 | none=>exact .inl (.inr #[_,by rw [yg ha hk e,Dz]])
 | some o=>
  have e2:=KX a o hk;rw [e] at e2;obtain rfl:=bE e2;exact .inr #[_,us.toArray,_,hk,rfl,rfl,by rw [cb];exact h1,~~~(mi h2)]
mutual
theorem PP {Pm:Params} (KX:K.In h) (ar:∀a∈A,nS h A a):∀(d:WData) (v:Value),Well Pm h v d->GN d=true->HU A v->Dw K (nb K h A) (toV v) d
 | .none,_,x,_,_=>by
  cases x;exact .cx
 | .bool b,_,x,_,_=>by
  cases x;exact .bl b
 | .int i,_,x,_,_=>by
  cases x;exact .int i
 | .str s,_,x,_,_=>by
  cases x;exact .str s
 | .bytes b,_,x,_,_=>by
  cases x;have z:=Dw.CZ (K:=K) (H:=nb K h A) b.toArray;exact z
 | .list ds,_,x,p,hu=>by
  obtain ⟨a,vs,rfl,ho,hall⟩:=Bh x;obtain ⟨h2,hs⟩:=Vn KX ar hu ho;exact .lst hs (B8 KX ar ds _ hall p h2)
 | .tuple ds,_,x,p,hu=>by
  obtain ⟨a,vs,rfl,ho,hall⟩:=yQ x;obtain ⟨h2,hs⟩:=Vo KX ar hu ho;exact .tup hs (B8 KX ar ds _ hall p h2)
 | .float _,_,_,p,_=>Bool.noConfusion (show false=true from p)
 | .dict _,_,_,p,_=>Bool.noConfusion (show false=true from p)
 | .bytearray _,_,_,p,_=>Bool.noConfusion (show false=true from p)
 | .set _,_,_,p,_=>Bool.noConfusion (show false=true from p)
 | .frozenset _,_,_,p,_=>Bool.noConfusion (show false=true from p)
 | .obj _ _,_,_,p,_=>Bool.noConfusion (show false=true from p)
theorem B8 {Pm:Params} (KX:K.In h) (ar:∀a∈A,nS h A a):∀(ds:List WData) (vs:List Value),WellAll Pm h vs ds->xT ds=true->(∀u∈vs,HU A u)->o0 K (nb K h A) (vs.map toV) ds
 | [],_,x,_,_=>by
  cases x;exact .nil
 | d :: ds,_,x,p,hu=>by
  obtain ⟨v,vs,rfl,x1,x2⟩:=Bi x;have q:GN d=true/\xT ds=true:=ig.mp p;exact .cons (PP KX ar d v x1 q.1 (hu _ (bi ..))) (B8 KX ar ds vs x2 q.2 λu m=>hu u (aW _ m))
end
end
def HX {mb:Str->Option Value} {k:Nat} {fa:Addr} {s₁:Shared} {vals:List Value} {R:WRecords} {cl:Str->Option Addr} {d0:WData} (KX:K.In s₁.heap) (hns:s₁.heap.Ns mainGlobals mg) (hb:s₁.heap.Ns builtinsNs mb) (hbb:∀x:Str,x≠ "__name__" ->mb x=bootBuiltins x) (hlim:s₁.heap.NoLimit) (hg:s₁.gens=#[]) (hwl:WellAll w.params s₁.heap vals ds) (g6:xT ds=true) (X9:∀d∈ds,d.weight<=1048576) (hr:cY k callerA) (F:∀base:Heap,K.In base->base.Ns mainGlobals mg->∃fd:FuncData,Binds K fd ps []/\jg P w K mg base CX k fa fd ps sp) (hlen:ds.length=ps.length) (hsp:∀(H:Hp) (xs:List V),GQ H->o0 K H xs ds->sp xs H (λv H'=>Dw K H' v d0) λ_ _ _=>False) (Vp:∀H e s',CX [] H s₁ (λ_ _ _=>False) e s'->False):
 codeAny (model P w) callerA (.call (.ref fa) #[vals,[]]) (λr s'=> ∃u as,r= .ok (.ret u)/\ReadsW R cl s'.heap u d0 as/\OldK s₁.heap s'.heap/\s'.os=s₁.os/\AllBare s'.gens) s₁:=by
 obtain ⟨A,ho,ar⟩:=ue ds vals hwl g6 X9;have hO:GQ (nb K s₁.heap A):=HW ar;have bQ:lX P w (nb K s₁.heap A) s₁.heap:=MR ar;have hS:=B8 KX ar ds vals hwl g6 ho;have hV:=mi ho;have hK:∀b u,nb K s₁.heap A b=some u->K.lookup b=none:=λb u q=>(yh ar q).1;have QA:∀{b:Addr} {o:Obj} {es:Array DictEntry} {ep:Nat},s₁.heap.get? b=some o->o.data= .dict es ep->nb K s₁.heap A b=none:=λ{b o es ep} e d=>by
  cases q:nb K s₁.heap A b with
  | none=>rfl
  | some u=>
   obtain ⟨_,vs,_,_,⟨e2,_⟩ | ⟨e2,_⟩⟩:=yh ar q
   . rw [e2] at e;cases e;have d':Data.seq vs.toArray _=Data.dict es ep:=d;cases d'
   . rw [e2] at e;cases e;have d':Data.seq vs.toArray _=Data.dict es ep:=d;cases d'
 generalize nb K s₁.heap A=H at hO bQ hS hK QA;have GU:∀{b:Addr} {o:Obj},s₁.heap.get? b=some o->H b=none->(BJ s₁.heap H).get? b=some o:=λe n=>Jo e n;have TB:∀{b:Addr} {m:Str->Option Value},s₁.heap.Ns b m->(BJ s₁.heap H).Ns b m:=λ{b m} #[o,es,ep,e,d,r]=>#[o,es,ep,GU e (QA e d),d,r];have nK:∀b o,K.lookup b=some o->H b=none:=λb o e=>by
  cases q:H b with
  | none=>rfl
  | some u=>
   rw [hK b u q] at e;cases e
 have WH:K.In (BJ s₁.heap H):=λb o e=>GU (KX b o e) (nK b o e);have hM:Mod K mg (BJ s₁.heap H):=#[WH,TB hns,#[mb,TB hb,hbb],let #[mc,h1,h2]:=hlim;#[mc,TB h1,h2]];have e0:yI P w K mg (BJ s₁.heap H) callerA [] s₁ H:=#[rfl,hM,λb o e=>Md e,gD (HD _ _),trivial,λb hb=>absurd (show b∈([]:List Addr) from hb) (by simp),bQ,.of_eq hg];have hl:vals.length=ps.length:=by rw [km hwl];exact hlen
 obtain ⟨fd,hbind,hF⟩:=F _ WH (TB hns);refine gZ (hF.run callerA [] s₁ H #[vals,[]] vals (vals.map toV) _ _ hr e0 (by have:=hbind s₁ vals KX (by rw [bH];exact hl);rw [bH] at this;exact this) hV (hsp H _ hO hS)) λr s' x=>?_;cases r with
 | error e=>exact (Vp H e s' x).elim
 | ok fl=>
  cases fl with
  | next=>exact False.elim x
  | brk=>exact False.elim x
  | cont=>exact False.elim x
  | ret u=>
   ext x v H' os bare un hok' r' q;have kept:∀b o,s₁.heap.get? b=some o->s'.heap.get? b=some o:=λb o e=>by
    cases q2:H b with
    | none=>exact un.keep b o e q2 (by intro z;exact absurd (show b∈([]:List Addr) from z) (by simp)) (by simp)
    | some u2=>
     rcases hO b with z | ⟨ob,u3,z⟩
     . rw [q2] at z;cases z
     . have z2:=un.rG b ob _ z;obtain ⟨e1,_⟩:=bQ b _ z;obtain ⟨e2,_⟩:=hok' b _ z2;rw [e] at e1;cases e1;exact e2
   have X_:K.In s'.heap:=λb o e=>kept b o (KX b o e);obtain ⟨as,hrd⟩:=Dw.reads (R:=R) (cl:=cl) hok' X_ d0 v u q r';exists u,as,U,hrd,OldK.of_keep kept,os,bare
def yR (h:WData.layableAll ds=true):∀d∈ds,d.weight<=1048576:=λd hd=>
 (PySem.W.layableW_iff.mp (c6.mp h d hd)).2.2
theorem yS:∀(cs:List Codec) (a:Codec.denoteAll cs),(Codec.encAll cs a).length=cs.length
 | [],_=>rfl
 | c :: cs,a=>by
  show (Codec.encAll cs a.2).length+1=cs.length+1;rw [yS cs a.2]
def HY {r:OpenSpec} {k:Nat} {q:Program} {loose:List Str} {XP:(Str->Option Value)->Heap->Prop} {YP:World->Heap->Prop} {d:DefRec} {K:Params->Frag} {CX:World->JC} {sp:World->Sp} (RW:r.wellSaid=true) (hdf:d.params.defaults= []) (hlen:r.args.length=ps.length) (hr:cY k callerA) (hY:∀(w:World) (h:Heap),YP w h->(K w.params).In h) (F:∀(w:World) (mg:Str->Option Value) (fa:Addr) (h:Heap),YP w h->(K w.params).In h->h.Ns mainGlobals mg->mg d.name=some (.ref fa)->
 ∀base:Heap,(K w.params).In base->base.Ns mainGlobals mg->∃fd:FuncData,Binds (K w.params) fd ps []/\jg r.prog w (K w.params) mg base (CX w) k fa fd ps (sp w)) (hsp:∀(w:World) (H:Hp) (xs:List V) (a:Codec.denoteAll r.args),GQ H->Codec.withinAll r.args a=true->Codec.app r.args r.asked a=true->o0 (K w.params) H xs (Codec.encAll r.args a)->
 sp w xs H (λv H'=>Dw (K w.params) H' v (r.ret.enc (Codec.app r.args r.f a))) λ_ _ _=>False) (Vp:∀(w:World) (H:Hp) (s:Shared) (e:Value) (s':Shared),CX w [] H s (λ_ _ _=>False) e s'->False):
 WalkOS q loose XP YP r d [] (λf vs=>PySem.call f vs):=by
 intro w ra s₁ mg mb G Z_ fa o pm cd doc dV kV ho hd hcd hD Vq hg args vals as hpre hlay hrd hwl hlo;obtain ⟨a,e1,e2⟩:=PySem.W.os_pre_some hpre;obtain ⟨e3,hwi⟩:=Codec.encAll_of_decAll r.args args a e1;subst e3;have KX:=hY w _ Z_;have hF:=F w mg fa _ Z_ KX G.T.g Vq;refine PySem.W.enter_call (gZ (HX (R:= []) (cl:=classAt ra.heap) (d0:=r.ret.enc (Codec.app r.args r.f a)) KX G.T.g G.T.b G.T.builtins G.T.nolimit hg hwl (Bg _ _) (yR hlay) hr hF (by rw [yS];exact hlen)
  (λH xs hO hS=>hsp w H xs a hO hwi e2 hS) λH e s'=>Vp w H s₁ e s') λr' s' hq=>?_)
 ext hq u as' rfl h1 h2 h3 h4;exists .inl #[u,_,as',U,λ_=>U,h1,(OpenSpec.post_iff RW hwi _ _).mpr U,λz=>Bool.noConfusion (show false=true from z)],h2,h3,h4
end
def RX {α β:Type} (P:List α->Prop):List β->Prop
 | []=>P []
 | _ :: t=> ∀a,RX (λl=>P (a :: l)) t
def Fa {β:Type} {ps:List β} {P:List α->Prop} (h:RX P ps):∀us:List α,us.length=ps.length->P us:=by
 induction ps generalizing P with
 | nil=>intro us e;cases us with | nil=>exact h | cons a l=>exact nomatch e
 | cons b t ih=>intro us e;cases us with | nil=>exact nomatch e | cons a l=>exact ih (P:=λl=>P (a :: l)) (h a) l (Nat.succ.inj e)
section
variable (P:Program) (w:World) (K:Frag) (mg:Str->Option Value) (base:Heap)
def MS (CX:JC) (k:Nat) (x:Str) (ps:List Str) (sp:Sp):Prop:=
 ∃f fd,mg x=some (.ref f)/\keepIn K (.ref f)=true/\jg P w K mg base CX k f fd ps sp/\Binds K fd ps []
def Fb (CX:JC) (k:Nat) (C:Addr) (m:Str) (ps:List Str) (sp:Sp):Prop:=
 ∃f fd,lq K C/\Meth K C m f/\jg P w K mg base CX k f fd ps sp/\Binds K fd ps []
def Fc (CX:JC) (k:Nat) (C:Addr) (x:Str) (ps:List Str) (sp:Sp):Prop:=
 ∃f fd,Mk K C f/\mg x=some (.ref C)/\jg P w K mg base CX k f fd ps sp/\Binds K fd ps []
end
section
variable {k:Nat} {Rq:Sp}
def MS.mono (h:MS P w K mg base CX j x ps sp) (l:j<=k):MS P w K mg base CX k x ps sp:=by ext h f fd a b c d;exists f,fd,a,b,c.mono l,d
def Fb.mono (h:Fb P w K mg base CX j C m ps sp) (l:j<=k):Fb P w K mg base CX k C m ps sp:=by ext h f fd a b c d;exists f,fd,a,b,c.mono l,d
def Fc.mono (h:Fc P w K mg base CX j C x ps sp) (l:j<=k):Fc P w K mg base CX k C x ps sp:=by ext h f fd a b c d;exists f,fd,a,b,c.mono l,d
def MS.imp (h:MS P w K mg base CX k x ps sp) (i:∀vs H Q E,Rq vs H Q E->sp vs H Q E):MS P w K mg base CX k x ps Rq:=by ext h f fd a b c d;exists f,fd,a,b,c.imp i,d
end
section
variable {k:Nat} {E:XK} {o:Expr} {t:TA}
theorem dw (h:MS X.prog X.w X.K X.mg X.base CX k x ps sp) (ha:PA X (e :: es) t) (hr:cY j X.A:=by assumption) (l:k<=j:=by first | exact dn rfl | lia) (hx:Passes CX X E:=by first | exact Du | exact GH gE) (hg:Gl X x:=by exact rfl) (hdb:(x == ("__debug__" :Str))=false:=by decide) (he:starEach (e :: es) X.env=(false,eval e X.env) :: starEach es X.env:=by rfl) (g6:(backTo pos (starEach es X.env)).any (·.1)=false:=by rfl):
 PE X (.Call (.Name x p) (e :: es) [] pos) (N0 sp [] E t):=by
 ext h f fd a b c d;exact Mq c (hr.mono l) hg a b d .nil hx ha hdb he g6
theorem RY (ho:PE X o ta) (h:Fb X.prog X.w X.K X.mg X.base CX k C m ps sp) (ha:PA X (e :: es) t) (hr:cY j X.A:=by assumption) (l:k<=j:=by first | exact dn rfl | lia) (hx:Passes CX X E:=by first | exact Du | exact GH gE) (fZ:starEach (e :: es) X.env=(false,eval e X.env) :: starEach es X.env:=by rfl) (g6:(backTo pos (starEach es X.env)).any (·.1)=false:=by rfl) (ht:eval (.Call (.Attribute o m apos) (e :: es) [] pos) X.env=(do
 let ov<-eval o X.env;standAt apos.atName;let (f,first)<-holding [ov] (getMethod ov m pl);callWith pos f first (backTo pos (starEach (e :: es) X.env)) (backToKw pos (keywordEach [] X.env))):=by rfl):
  PE X (.Call (.Attribute o m apos) (e :: es) [] pos) (Gv C m sp [] E ta t):=by
  ext h f fd a b c d;exact Mr ho a b c (hr.mono l) d .nil hx ha fZ g6 ht
theorem PQ (ho:PE X o ta) (h:Fb X.prog X.w X.K X.mg X.base CX k C m ps sp) (hr:cY j X.A:=by assumption) (l:k<=j:=by first | exact dn rfl | lia) (hx:Passes CX X E:=by first | exact Du | exact GH gE) (ht:eval (.Call (.Attribute o m apos) [] [] pos) X.env=(do
 let ov<-eval o X.env;standAt apos.atName;let (f,first)<-holding [ov] (getMethod ov m pl);callWith pos f first (backTo pos (starEach [] X.env)) (backToKw pos (keywordEach [] X.env))):=by rfl):
  PE X (.Call (.Attribute o m apos) [] [] pos) (Gv C m sp [] E ta E1):=by
  ext h f fd a b c d;exact JD ho a b c (hr.mono l) d .nil hx ht
theorem gI (h:Fc X.prog X.w X.K X.mg X.base CX k C x ps sp) (ha:PA X (e :: es) t) (hr:cY j X.A:=by assumption) (l:k+1<=j:=by first | exact dn rfl | lia) (hx:Passes CX X E:=by first | exact Du | exact GH gE) (hg:Gl X x:=by exact rfl) (hdb:(x == ("__debug__" :Str))=false:=by decide) (he:starEach (e :: es) X.env=(false,eval e X.env) :: starEach es X.env:=by rfl) (g6:(backTo pos (starEach es X.env)).any (·.1)=false:=by rfl):
 PE X (.Call (.Name x p) (e :: es) [] pos) (Gw C sp [] E t):=by
 ext h f fd a b c d;exact Ms a c (hr.mono l) hg b d .nil hx ha hdb he g6
def RZ (h:Fc X.prog X.w X.K X.mg X.base CX k C x ps sp) (hr:cY j X.A) (l:k+1<=j) (hx:Passes CX X E) (hg:Gl X x) (hdb:(x == ("__debug__" :Str))=false:=by decide):PE X (.Call (.Name x p) [] [] pos) (Gw C sp [] E E1):=by
 ext h f fd a b c d;exact JE a c (hr.mono l) hg b d .nil hx hdb
end
def R0 (t:TE):TE:=λZ H Q=>t Z H ((λ(Q:VK) (v:V) (H1:Hp)=> ∃p u,v= .ref p/\H1 p=some u/\O5 (some u)/\∀o,Q v (upd H1 p (.g8 o u))) Q)
def di {t:TE} (h:PE X e t):PE X e (R0 t):=by
 intro pN s Z H Q I q;refine dY (h pN s Z H _ I q) λu s1 hZ=>?_;ext hZ v H1 I1 r p ob e1 e2 m k;obtain ⟨od,I2⟩:=I1.lock e2 m;exists v,_,I2,r,k od
structure Cl where
 (tok rd ex par fn mj obs prog GV call ld hold cf:Addr)
def Y (c:Cl):HO->Bool
 | .g8 _ _=>true
 | .tup _=>true
 | .xd _=>true
 | .ins C _ _=>!(C == c.rd) && !(C == c.hold)
 | _=>false
def bW (c:Cl) (H H':Hp):= ∀b o,H b=some o->Y c o=true->H' b=some o
def Sb (r:Addr) (H H':Hp):= ∀b o,H b=some o->b≠r->H' b=some o
section
variable {c:Cl} {r p:Addr} {o u:HO}
def bW.refl:bW c H H:=λ_ _ e _=>e
def bW.trans (a:bW c H H1) (b:bW c H1 H2):bW c H H2:=λx o e i=>b x o (a x o e i) i
theorem aq.Y (s:aq H H'):bW c H H':=λb o e _=>s b o e
theorem Sb.Y {fs:List (Str×V)} (s:Sb r H H') (e:H r=some (.ins c.rd dx fs)):bW c H H':=λb o h i=>s b o h λz=>by
 subst z;rw [e] at h;cases h;exact absurd i (by show¬(!(_ == _) && !(_ == _))=true;simp)
def Sb.Vr {fs:List (Str×V)} (s:Sb r H H') (e:H r=some (.ins c.hold dx fs)):bW c H H':=λb o h i=>s b o h λz=>by
 subst z;rw [e] at h;cases h;exact absurd i (by show¬(!(_ == _) && !(_ == _))=true;simp)
def Sb.refl:Sb r H H:=λ_ _ e _=>e
def Sb.trans (a:Sb r H H1) (b:Sb r H1 H2):Sb r H H2:=λx o e n=>b x o (a x o e n) n
def aq.sb (s:aq H H'):Sb r H H':=λb o e _=>s b o e
def aq.upd (n:H p=none):aq H (upd H p o):=λb u e=>by rw [aA (bp e n)];exact e
def aq.bM (s:aq H H1) (n:H p=none):aq H (L2.upd H1 p o):=λb u e=>by rw [aA (bp e n)];exact s b u e
def Sb.bM (s:Sb r H H1) (n:H p=none):Sb r H (L2.upd H1 p o):=λb u e q=>by rw [aA (bp e n)];exact s b u e q
def Sb.PR (s:Sb r H H1):Sb r H (L2.upd H1 r o):=λb u e q=>by rw [aA q];exact s b u e q
def bW.upd (e:H p=some u) (i:Y c u=false):bW c H (L2.upd H p o):=λb w h j=>by
 rw [aA λz=>by subst z;rw [e] at h;cases h;rw [i] at j;cases j];exact h
def bW.new (n:H p=none):bW c H (L2.upd H p o):=(aq.upd n).Y
def Sb.free (e:Sb r H H') (hr:H r=none->H' r=none) (h:H' l=none):H l=none\/l=r:=by
 by_cases q:l=r
 . exact .inr q
 . cases z:H l with
   | none=>exact .inl rfl
   | some o=>rw [e l o z q] at h;cases h
end
def FL (H:Hp) (a:Addr) (xs:List V):= ∃o,H a=some (.g8 o (.lst xs))
def FL.mono {c:Cl} (h:FL H a xs) (i:bW c H H'):FL H' a xs:=let #[o,e]:=h;#[o,i a _ e rfl]
def FL.sq (h:FL H a xs):cw K H a xs:=let #[o,e]:=h;.inl (.inr #[o,e])
def FL.inj (h:FL H a xs) (h':FL H a ys):xs=ys:=by
 ext h o e;ext h' o' e';rw [e] at e';cases (e');rfl
def Rz (cf:Addr) (E:XK) (H:Hp) (f:VaprbBase.Fault):= ∀dx,H dx=some (.xd (fF f.code f.place))->E (.ref cf) (some dx) H
def jI (cf:Addr) (E:XK) (H:Hp) (f:VaprbBase.Fault):= ∀H',aq H H'->Rz cf E H' f
def ml (cf:Addr) (E:XK) (r:Addr) (H:Hp) (f:VaprbBase.Fault):= ∀H',Sb r H H'->Rz cf E H' f
def aN {α:Type} (cf:Addr) (E:XK) (H:Hp) (x:Except VaprbBase.Fault α) (ok:α->Prop):Prop:=match x with
 | .ok a=>ok a
 | .error f=>jI cf E H f
def aQ {α:Type} (cf:Addr) (E:XK) (r:Addr) (H:Hp) (x:Except VaprbBase.Fault α) (ok:α->Prop):Prop:=match x with
 | .ok a=>ok a
 | .error f=>ml cf E r H f
section
variable {cf r:Addr} {E:XK} {f:VaprbBase.Fault}
def jI.go (h:jI cf E H f) (s:aq H H1):∀dx,H1 dx=none->E (.ref cf) (some dx) (upd H1 dx (.xd (fF f.code f.place))):=λdx n=>h _ (s.trans (aq.upd n)) dx aa
def ml.go (h:ml cf E r H f) (s:Sb r H H1):∀dx,H1 dx=none->E (.ref cf) (some dx) (upd H1 dx (.xd (fF f.code f.place))):=λdx n=>h _ (s.trans (aq.upd n).sb) dx aa
def jI.on (h:jI cf E H f) (s:aq H H1):jI cf E H1 f:=λH' s'=>h H' (s.trans s')
def ml.on (h:ml cf E r H f) (s:Sb r H H1):ml cf E r H1 f:=λH' s'=>h H' (s.trans s')
def ml.TC (h:ml cf E r H f) (s:Sb r H H1):jI cf E H1 f:=λH' s'=>h H' (s.trans s'.sb)
end
def GI (mg:Str->Option Value) (x:Str) (i:Int):= ∃t,mg x=some (.int i t)
def GS (mg:Str->Option Value) (x:Str) (s:Str):= ∃t,mg x=some (.str s t)
def GR (mg:Str->Option Value) (x:Str) (a:Addr):=mg x=some (.ref a)
section
variable {a b:Expr}
def R4 {i:Int} (h:GI X.mg x i) (hg:Gl X x:=by rfl) (hd:(x == ("__debug__" :Str))=false:=by decide):PE X (.Name x pos) (tC (.int i)):=let #[t,e]:=h;yb hg e #[t,rfl] hd
def iB {i:Str} (h:GS X.mg x i) (hg:Gl X x:=by rfl) (hd:(x == ("__debug__" :Str))=false:=by decide):PE X (.Name x pos) (tC (.str i)):=let #[t,e]:=h;yb hg e #[t,rfl] hd
def fG {i:Addr} (h:GR X.mg x i) (hg:Gl X x:=by rfl) (hd:(x == ("__debug__" :Str))=false:=by decide):PE X (.Name x pos) (tC (.ref i)):=yb hg h rfl hd
def yT (ha:PE X a ta) (he:∀whole,isTrue a X.env whole=(do let v<-whole;standAt a.pos;holding [v] (truthy v)):=by intro _;rfl):PT X a (NZ ta):=by
 intro pN s Z H Q I h;refine Jx (ta:=λZ H Q=>ta Z H λx H'=> ∃k,x= .bl k/\Q (.bl k) H') ?_ he pN s Z H Q I ?_
 . intro pN s Z H Q I h;exact dY (ha pN s Z H _ I h) λu s1 #[v,H1,I1,r,k,e,q]=>#[v,H1,I1,r,e ▸ q]
 . have:∀(Q:Bool->Hp->Prop),(λx H'=> ∃k,x=V.bl k/\Q k H')=(λx H'=> ∃k,x=V.bl k/\∃k',Pg X.K (V.bl k) H' k'/\Q k' H'):=λQ=>by
    funext x H';apply propext;constructor
    . rintro ⟨k,e,q⟩;exists k,e,k,U,q
    . rintro ⟨k,e,k',e',q⟩;exists k,e,by have e':k'=k:=e';rw [<-e'];exact q
   show ta Z H _;rw [<-this Q];exact h
def B9 (hu:X.A.units+1 < cLine):rO X (compareOp .In) (λx y H Q=> ∃a o,y= .ref a/\ua H a x o/\Q (.bl o.isSome) H):=by
 intro pN s Z H x y v u Q I rx ry h;ext h a o rfl g q;obtain rfl:u=Value.ref a:=ry;exact Vb hu I g rx λs' I'=>#[.bl _,H,I',rfl,q]
def rh (hu:X.A.units+1 < cLine):rO X (compareOp .NotIn) (λx y H Q=> ∃a o,y= .ref a/\ua H a x o/\Q (.bl (!o.isSome)) H):=by
 intro pN s Z H x y v u Q I rx ry h;ext h a o rfl g q;obtain rfl:u=Value.ref a:=ry;exact MF hu I g rx λs' I'=>#[.bl _,H,I',rfl,q]
def R5:R2:=λx y H Q=> ∃l b xs zs,x= .ref l/\y= .ref b/\H l=some (.lst xs)/\Rd H b (.lst zs)/\xs.length+zs.length<=sizeLine/\∀p,H p=none->Q (.ref p) (upd H p (.lst (xs++zs)))
theorem yj:rO X (binaryOp .Add) R5:=by
 intro pN s Z H x y v u Q I rx ry h;ext h l b xs zs rfl rfl hH hB hz q;cases rx;cases ry;obtain ⟨z,bU,n,r,hl,e⟩:=I.My hH;obtain ⟨z2,its2,n2,r2,e2⟩:=hB.ok I.bQ;have hl2:=r2.length;refine PySem.P.add_list e e2 ?_ (by rw [cb,cb];lia);have ea:bU.toArray++its2.toArray=(bU++its2).toArray:=by simp
 rw [ea];exists .ref _,_,I.UZ (t':=s.toks) (r.append r2) (by rw [ao];lia),U,q _ I.fresh
def MT:UI X .Add (λx y H Q=> ∃i j,x= .str i/\y= .str j/\i.length+j.length<=sizeLine/\Q (.str (i++j)) H):=C_
def o5:gu X (.builtin "isinstance") (λxs H Q=> ∃x t C b,xs= [x,.ref C]/\rH X.K H x t/\kitOne X.K t (.ref C)=some b/\Q (.bl b) H):=by
 intro pN s Z H xs us Q I r h;ext h x t C b rfl ty e q;obtain ⟨u,w',rfl,r1,r2⟩:=vals2 r;obtain rfl:w'=Value.ref C:=r2;exact HK I r1 ty e λtk=>#[.bl _,H,I.tok tk,rfl,q]
structure CD (K:Frag) (P:Program) (w:World) (a:Addr) (aG:List (Key×V)):Prop where
 ns:(a == sysModules)=false
 ex:∃(o:Obj) (es:Array DictEntry) (ep:Nat),K.lookup a=some o/\o.ExactDict/\o.data= .dict es ep/\KeysOf (cz P w) es/\∀k,jE (cq aG k) (findBy (cz P w).is es k)
def CD.map {ad:Addr} {aG:List (Key×V)} (d:CD K P w ad aG) (X:K.In h):∃f,h.MapOf (cz P w) ad f/\∀k,jE (cq aG k) (f k):=by
 ext d.ex o es ep lk ed dd ks r;exists _,#[o,es,ep,X _ _ lk,ed,dd,ks,λ_=>U],r
def B_:rO X (compareOp .In) (λx y H Q=> ∃ad aG k,x=kV k/\y= .ref ad/\CD X.K X.prog X.w ad aG/\Q (.bl (cq aG k).isSome) H):=by
 intro pN s Z H x y v u Q I rx ry h;ext h ad aG k rfl rfl d q;obtain rfl:u=Value.ref ad:=ry;obtain ⟨f,m,r⟩:=d.map I.lY;refine wpAny_in_of (wZ rx) d.ns m ?_;rw [<-(r k).jv];exists .bl _,H,I.tok _,U,q
def PU (X:Cx) (td ty:TE):TE:=λZ H Q=>td Z H λx H1=>ty Z H1 λy H2=> ∃ad aG k v,x= .ref ad/\y=kV k/\CD X.K X.prog X.w ad aG/\cq aG k=some v/\Q v H2
def DA (ha:PE X a ta) (hb:PE X b tb) (hs:PC b):PE X (.Subscript a b pos) (PU X ta tb):=by
 intro pN s Z H Q I h;refine GC AI.lookup hs (dY (ha pN s Z H _ I h) λov s1 #[x,H1,I1,rx,q1]=>dY (hb pN s1 Z H1 _ I1 q1) λiv s2 hZ=>?_);ext hZ y H2 I2 ry ad aG k v ex ey d l q2;subst ex ey;obtain rfl:ov=Value.ref ad:=rx;obtain ⟨f,m,r⟩:=d.map I2.lY;obtain ⟨w',hw,JF⟩:=jE.some_of (v:=v) (o:=f k) (by rw [<-l];exact r k);ext d.ex o es ep lk ed _;exists #[o,I2.lY _ _ lk,ed.1],wpAny_getItem_of (wZ ry) m hw #[v,H2,I2.tok _,JF,q2]
end
def fz (hK:X.K=K) {f:Str} (he:PE X e ta) (hb:attributeBase e f X.env (eval e X.env)=eval e X.env):PE X (.Attribute e f pos) (Ro K ta f):=by
 subst hK;exact b_ he hb
def MU (hK:X.K=K):Mx X (Pn K):=by
 subst hK;exact gG
def HZ (hK:X.K=K):gu X (.builtin "isinstance") (λxs H Q=> ∃x t C b,xs= [x,.ref C]/\rH K H x t/\kitOne K t (.ref C)=some b/\Q (.bl b) H):=by
 subst hK;exact o5
def Bj (hK:X.K=K):L1 X "list.index" (JH K):=by
 subst hK;exact JI
def JW (hK:X.K=K) {o:Expr} {to:TE} {t:TA} {name:Str} {id:String} {r:V->List V->Hp->VK->Prop} (pa:PlainAttrs T) (slot:Slot T name id) (hty:typeOf (.builtin id)=pure (.type "method_descriptor")) (hm:L1 X id r) (ho:PE X o to) (ha:PA X (e :: es) t) (hbase:attributeBase o name X.env (eval o X.env)=eval o X.env:=by rfl) (hfew:((backTo eU (starEach (e :: es) X.env)).all (λx=>!x.1) && (backToKw eU (keywordEach [] X.env)).all (λx=>x.1.isSome)
 && decide ((e :: es).length+([]:List Keyword).length+(if ([]:List Keyword).isEmpty then 0 else 1) < 30))=true:=by rfl) (hline:(apos.endLine == eU.line)=true:=by rfl) (hs:starEach (e :: es) X.env=(false,eval e X.env) :: starEach es X.env:=by rfl) (hplain:(backTo eU (starEach es X.env)).any (·.1)=false:=by rfl):
 PE X (.Call (.Attribute o name apos) (e :: es) [] eU) (Wr K T r to t):=by
 subst hK;exact cH hm ho ha pa slot hty hbase hfew hline hs hplain
theorem GW (N:Nat) {tb:TS} (Pv:Nat->St->Hp->Prop) (h0:Pv 0 Z H) (hgo:∀i Z H,i < N->Pv i Z H->J.go i H) (fZ:∀Z H,Pv N Z H->J.stop N H) (hs:∀i x Z H H',i < N->Pv i Z H->J.ED i H x H'->g x Z H' λZ2 H2=>tb (D.lp (Pv (i+1))) Z2 H2) (hd:∀Z H,Pv N Z H->D.nx Z H):
 ∃W:Nat->Nat->St->Hp->Prop,(∃m,W 0 m Z H)/\∀i m Z H,W i m Z H->
  (J.stop i H/\D.nx Z H)\/(J.go i H/\∃N:St->Hp->Prop,(∀Z' H',N Z' H'->∃m',m' < m/\W (i+1) m' Z' H')/\∀x H',J.ED i H x H'->g x Z H' λZ2 H2=>tb (D.lp N) Z2 H2):=by
 exists λi m Z H=>m=N - i/\i<=N/\Pv i Z H,#[N,U,aD _,h0],?_;rintro i m Z H ⟨rfl,hi,p⟩;by_cases iU:i < N
 . exact .inr #[hgo i Z H iU p,Pv (i+1),λZ' H' p'=>#[N - (i+1),by lia,rfl,iU,p'],λx H' y=>hs i x Z H H' iU p y]
 . have e:i=N:=by lia
   subst e;exact .inl #[fZ Z H p,hd Z H p]
theorem B' {tb:TS} (Pv:Nat->St->Hp->Prop) (h0:Pv 0 Z H) (hxy:xs.length=ys.length) (hl:∀i Z H,Pv i Z H->cw K H a xs/\cw K H b ys) (hs:∀i x y T Z H,xs[i]? = some x->ys[i]? = some y->Pv i Z H->H T=none->g (.ref T) Z (upd H T (.tup [x,y])) λZ2 H2=>tb (D.lp (Pv (i+1))) Z2 H2) (hd:∀Z H,Pv xs.length Z H->D.nx Z H):
 ∃W:Nat->Nat->St->Hp->Prop,(∃m,W 0 m Z H)/\∀i m Z H,W i m Z H->
  ((RJ K a b).stop i H/\D.nx Z H)\/((RJ K a b).go i H/\∃N:St->Hp->Prop,(∀Z' H',N Z' H'->∃m',m' < m/\W (i+1) m' Z' H')/\∀x H',(RJ K a b).ED i H x H'->g x Z H' λZ2 H2=>tb (D.lp N) Z2 H2):=by
 refine GW xs.length Pv h0 (λi Z H hi p=>?_) (λZ H p=>?_) (λi x Z H H' hi p y=>?_) hd
 . exists xs,ys,xs[i],ys[i]'(by lia),(hl i Z H p).1,(hl i Z H p).2,bB hi,bB (by lia)
 . exists xs,ys,(hl _ Z H p).1,(hl _ Z H p).2,.inl (az _)
 . ext y T x1 y1 rfl hT rfl h1 h2;exact hs i x1 y1 T Z H (h1 xs (hl i Z H p).1) (h2 ys (hl i Z H p).2) p hT
theorem JX (N:Nat) {vs:List Nat} {D:Addr} (Pv:Nat->Hp->Prop) (h0:Pv 0 (upd H1 D (.lst []))) (hgo:∀i H,i < N->Pv i H->J.go i H) (fZ:∀H,Pv N H->J.stop N H) (hs:∀i x H H',i < N->Pv i H->J.ED i H x H'->g x (wipe Z vs) H' λZ2 H2=>wipe Z2 vs=wipe Z vs/\tt Z2 H2 λb H3=>
 if b=true then te Z2 H3 λy H4=> ∃acc,H4 D=some (.lst acc)/\acc.length < sizeLine/\Pv (i+1) (upd H4 D (.lst (acc++ [y]))) else Pv (i+1) H3) (hd:∀H,Pv N H->Qd H):
 ∃W:Nat->Nat->Hp->Prop,(∃m,W 0 m (upd H1 D (.lst [])))/\∀i m H,W i m H->
  (J.stop i H/\Qd H)\/(J.go i H/\∃Nx:Hp->Prop,(∀H',Nx H'->∃m',m' < m/\W (i+1) m' H')/\∀x H',J.ED i H x H'->g x (wipe Z vs) H' λZ2 H2=>wipe Z2 vs=wipe Z vs/\tt Z2 H2 λb H3=>
   if b=true then te Z2 H3 λy H4=> ∃acc,H4 D=some (.lst acc)/\acc.length < sizeLine/\Nx (upd H4 D (.lst (acc++ [y]))) else Nx H3):=by
 exists λi m H=>m=N - i/\i<=N/\Pv i H,#[N,U,aD _,h0],?_;rintro i m H ⟨rfl,hi,p⟩;by_cases iU:i < N
 . exact .inr #[hgo i H iU p,Pv (i+1),λH' p'=>#[N - (i+1),by lia,rfl,iU,p'],λx H' y=>hs i x H H' iU p y]
 . have e:i=N:=by lia
   subst e;exact .inl #[fZ H p,hd H p]
def GY (hK:X.K=K) {k:Nat} {t:NY} (hc:X.calm=true) (h:Rg X es t) (hn:(assignEach es X.env).length=n:=by rfl) (fZ:(assignEach es X.env).findIdx? (·.1)=none:=by rfl):PG X (.Tuple es k pos) (Ri K n t):=by
 subst hK;exact BO hc h hn fZ
theorem JY {vs:List Nat} {D:Addr} (ys:List V) (Vs:ys.length=x.cps.size) (hD:H1 D=none) (hz:x.cps.size<=sizeLine) (hs:∀(i:Nat) cc y H (R:VK),x.cps[i]? = some cc->ys[i]? = some y->aq H1 H->R y H->g (.str ⟨(List.toArray [cc])⟩) (wipe Z vs) H λZ2 H2=>wipe Z2 vs=wipe Z vs/\te Z2 H2 R) (hd:∀H,aq H1 H->H D=some (.lst ys)->Qd H):
 ∃W:Nat->Nat->Hp->Prop,(∃m,W 0 m (upd H1 D (.lst [])))/\∀i m H,W i m H->
  ((Its x).stop i H/\Qd H)\/((Its x).go i H/\∃Nx:Hp->Prop,(∀H',Nx H'->∃m',m' < m/\W (i+1) m' H')/\∀v H',(Its x).ED i H v H'->g v (wipe Z vs) H' λZ2 H2=>wipe Z2 vs=wipe Z vs/\HL Z2 H2 λb H3=>
   if b=true then te Z2 H3 λy H4=> ∃acc,H4 D=some (.lst acc)/\acc.length < sizeLine/\Nx (upd H4 D (.lst (acc++ [y]))) else Nx H3):=by
 refine JX x.cps.size (λi H=>aq H1 H/\H D=some (.lst (ys.take i))) #[aq.upd hD,aa] (λi H hi _=>hi) (λH _=>az _) (λi v H H' hi p y=>?_) λH p=>?_
 . ext y rfl cc hc rfl;have hiy:i < ys.length:=by lia
   refine hs i cc ys[i] H' (λy H4=> ∃acc,H4 D=some (.lst acc)/\acc.length < sizeLine/\(aq H1 (upd H4 D (.lst (acc++ [y])))/\(upd H4 D (.lst (acc++ [y]))) D=some (.lst (ys.take (i+1))))) hc (bB hiy) p.1 ?_;exists ys.take i,p.2,by rw [il];lia,p.1.bM hD,?_;rw [aa,ej hiy]
 . ext p s e;rw [<-Vs,cK] at e;exact hd H s e
end L2
section
namespace M0
open VaprbBase Vaprbb
theorem wC {l:Bytes} {t:Tok} {k:Nat} (h:token l=some (t,k)):1<=k/\k<=l.length:=by
 unfold token at h;split at h
 . cases h
 . rename_i b r;split at h
   . rename_i hb;simp only at h;split at h
     . cases h
     . cases h;constructor
       . rw [oJ (by simp [hb])];simp
       . exact (vE _).length_le
   . split at h
     . rename_i hb hd;rw [gC] at h;ext h n _ e;cases e;constructor
       . rw [oJ (by simp [hd])];simp
       . exact (vE _).length_le
     . split at h
       . split at h
         . rename_i hh;cases h;exists by lia,?_;cases r with
           | nil=>simp at hh
           | cons c r=>simp
         . rw [gC] at h;ext h n _ e;cases e;have:=(vE (l:=r) isDigit).length_le;simp only [aT];lia
       . split at h
         . cases h;simp
         . cases h
theorem mm:∀(m n:Nat) (p:Nat) (l:Bytes),l.length < m->l.length < n->lex m p l=lex n p l
 | 0,_,_,_,h,_=>by lia
 | _,0,_,_,_,h=>by lia
 | m+1,n+1,p,[],_,_=>rfl
 | m+1,n+1,p,b :: r,hm,hn=>by
  have lr:(b :: r).length=r.length+1:=rfl;unfold lex;split
  . exact mm m n _ _ (by lia) (by lia)
  . split
    . have:=(AQ (l:=r) (λx=>x != 10)).length_le;exact mm m n _ _ (by lia) (by lia)
    . split
      . rfl
      . rename_i t k e;have hk:=wC e;have hd:((b :: r).drop k).length < m/\((b :: r).drop k).length < n:=by
         rw [cS];lia
        rw [mm m n _ _ hd.1 hd.2]
def o6 (b:Bytes) (p:Nat):Except Fault Toks:=lex (b.length - p+1) p (b.drop p)
def JZ (b:Bytes) (p:Nat) (h:p=b.length):o6 b p= .ok [#[p,.halt_]]:=by
 subst h;unfold o6;rw [fP];rfl
def H_ (b:Bytes) (h:¬TEXT < b.length):tokens b=o6 b 0:=by
 unfold tokens o6;rw [ae h];rfl
theorem GZ {b:Bytes} {p:Nat} {c:UInt8} {r:Bytes} (e:b.drop p=c :: r):o6 b p=
 if isBlank c=true then o6 b (p+1)
 else if c == 35 then o6 b (p+1+(r.takeWhile (· != 10)).length)
 else match token (b.drop p) with
  | none=> .error #[2,p]
  | some (t,k)=>(o6 b (p+k)).map λl=>#[p,t] :: l:=by
 have hl:b.length - p=r.length+1:=by rw [<-cS,e];rfl
 have hr:b.drop (p+1)=r:=by rw [<-fR,e];rfl
 unfold o6;rw [e,hl];show lex (r.length+1+1) p (c :: r)=_;rw [lex];split
 . rw [hr];exact mm _ _ _ _ (by omega) (by omega)
 . split
   . have hd:b.drop (p+1+(r.takeWhile (· != 10)).length)=r.dropWhile (· != 10):=by
      rw [<-fR,hr];have q:=List.drop_left (l₁:=r.takeWhile (λx=>x != 10)) (l₂:=r.dropWhile (λx=>x != 10));rw [AC] at q;exact q
     rw [hd];have h1:=(AQ (l:=r) (λx=>x != 10)).length_le;have h2:(r.takeWhile (λx=>x != 10)).length+(r.dropWhile (λx=>x != 10)).length=r.length:=by
      rw [<-ao,AC]
     exact mm _ _ _ _ (by omega) (by omega)
   . cases q:token (c :: r) with
     | none=>rfl
     | some x=>
      ext x t k;have hk:=wC q;have hd:b.drop (p+k)=(c :: r).drop k:=by rw [<-fR,e]
      simp only;rw [hd,mm (r.length+1) (b.length - (p+k)+1) _ _ (by rw [cS];simp only [aT] at hk ⊢;omega) (by rw [cS];simp only [aT] at hk ⊢;omega)]
end M0
end
namespace Lot
open PySem Spec PyProof.Rows L2
open PySem.W (Frag)
open PySem.W (kitOne)
open Vaprbb (State Reader unNames binNames exprOf put mentions reachedFrom recursive byNumber letExpr index readExpr Answer faulty)
open VaprbBase (SIGNS NAME lex TEXT RESERVED takeWord)
open VaprbbNeutral (natural bytes? asked)
open PyVaprbb (whole answers answers_asked)
open PyFlat (rows row played told atMost)
open VaprbBase (isDigit isLetter isBlank token numberOf decimal PTok Toks Fault word next take takeNum takeName takeKind takeFrac takeWeight takeChance frac Frac wrong here PName nameNext showNat showInt joined showFrac showVal showKind tokens textRow)
open Vaprbb (takeArgs takeWays takeExpr takeSpecial takeCall takeBounds inOne inTwo inThree exprNext unOf binOf unName binName takeDecl takeParams takeFun takeFuns takeStm takeStms takeTells takeBudget takeProg Decl Stm Prog named declsRight funsRight stmsRight tellsRight namesRight kindOf kindsOf aroundAll around argsHeld held numKind unKind binKind bothAre isNum alike numOp mulKind Un Bin funsKinds stmsKinds funEnv letNames renamed showExpr showFun showStm showDecl read kindRow listRow numbersOf letsAnswer funsAnswer kindAnswer sameAnswer looked)
open VaprbbNeutral (encode callOf asked1)
open PyVaprbb (shape)
variable {K:Frag} {a D dx r cf tk fI fN:Addr} {xs:List V} {A B:Prop} {c:Cl} {H H' H1:Hp} {te:TE} {n i j q pl:Nat} {v v1 v2 v3 v4 v5:V} {α β γ:Type} {x:UInt8} {p:Prog} {Q:VK} {E:XK} {vs:List Nat} {Z:L2.St} {Qd:Hp->Prop} {l l':Toks} {t:PTok} {w:World} {o:HO} {u:Unit} {aG:List (Key×V)} {st:State} {P:Program} {mg:Str->Option Value} {base:Heap} {EG L3:Value} {EH L4:Scope}
abbrev Kd:=VaprbBase.Kind
variable {k:Kd} {ks:List Kd}
abbrev Bytes:=VaprbBase.Bytes
variable {b:Bytes} {scope cV N1 N2:List Bytes} {xn fn:Bytes->Bytes}
def top (i:Nat):Stmt:=Challenge.pw_lotprograms_s01_answers.main.body.getD i (.Pass #[0,0,0,0])
structure WK (K:Frag) (mg:Str->Option Value) (x:Str) (st:Stmt) (f:Addr) (fd:FuncData):Prop where
 fn:Fun K x x st f fd
 mg:mg x=some (.ref f)
structure Fd (K:Frag) (mg:Str->Option Value) (x q:Str) (C:Addr) (st:Stmt) (f:Addr) (fd:FuncData):Prop where
 fn:Fun K "__init__" q st f fd
 WL:Mk K C f
 mg:mg x=some (.ref C)
structure J7 (K:Frag) (m q:Str) (C:Addr) (st:Stmt) (f:Addr) (fd:FuncData):Prop where
 fn:Fun K m q st f fd
 cl:lq K C
 me:Meth K C m f
structure GA where
 (flag blanks signs reserved truths builtin ops takes gives:Addr)
variable {g:GA}
def aR (b:Bytes):Str:=⟨(b.map (·.toNat)).toArray⟩
def kn (l:List String):List V:=l.map λx=>V.str (Str.ofString x)
noncomputable def xU:List (Key×V):= [("neg",1),("abs",1),("not",1),("add",2),("sub",2),("mul",2),("min",2),("max",2),("lt",2),("le",2),("eq",2),("and",2),("or",2)].map λ(x:String×Int)=>(.inr (Str.ofString x.1),V.int x.2)
noncomputable def yU:List (Key×V):= [(61,"="),(123,"{"),(125,"}"),(40,"("),(41,")"),(91,"["),(93,"]"),(44,","),(59,";"),(58,":"),(47,"/"),(124,"|")].map λ(x:Int×String)=>(.inl x.1,V.str (Str.ofString x.2))
def KT (K:Frag) (a:Addr) (xs:List V):= ∃(o:Obj) (bU:Array Value) (n:Nat),K.lookup a=some o/\o.cls= .type "tuple" /\o.data= .seq bU n/\bU.size<=sizeLine/\Vals xs bU.toList
def KT.sq (h:KT K a xs) (H:Hp):g9 K H a xs:= .inr h
structure GT (P:Program) (w:World) (K:Frag) (mg:Str->Option Value) (g:GA):Prop where
 ko:GI mg "FLAG_SORT" 0
 jJ:GI mg "NUM_SORT" 1
 Ca:GI mg "LEAST" (-1000)
 ng:GI mg "GREATEST" 1000
 yV:GI mg "WIDEST" 63
 gJ:GI mg "LONGEST_TEXT" 4096
 o7:GI mg "LONGEST_WORD" 16
 kq:GI mg "GREATEST_NUMBER" 1000000000
 rR:GI mg "MOST_DIGITS" 10
 Bk:GI mg "ROW_END" 10
 Fe:GI mg "HASH" 35
 G0:GI mg "MINUS" 45
 Bl:GI mg "GREATER" 62
 wE:GI mg "ZERO" 48
 rj:GI mg "GREAT_A" 65
 rl:GI mg "SMALL_A" 97
 yW:GS mg "DIGITS" "0123456789"
 iV:GS mg "GREAT_LETTERS" "ABCDEFGHIJKLMNOPQRSTUVWXYZ"
 iW:GS mg "SMALL_LETTERS" "abcdefghijklmnopqrstuvwxyz"
 Ff:GS mg "WORD" "word"
 o8:GS mg "NUMBER" "number"
 Fg:GS mg "SIGN" "sign"
 J8:GS mg "END" "end"
 wF:GI mg "DEEPEST" 24
 mn:GI mg "MOST_ARGUMENTS" 4
 w6:GI mg "MOST_WAYS" 8
 kt:GI mg "GREATEST_BUDGET" 20
 mo:GI mg "MOST_FUNCTIONS" 8
 ku:GI mg "MOST_PARAMETERS" 4
 kz:GI mg "MOST_STATEMENTS" 32
 w8:GI mg "MOST_TOLD" 6
 rS:GS mg "PLAIN_TITLE" "P"
 Fh:GI mg "LOAD" 0
 G1:GI mg "SHOWN" 1
 G2:GI mg "SIZES" 2
 Fi:GI mg "LETS" 3
 Fj:GI mg "FUNS" 4
 Fk:GI mg "KIND" 5
 DB:GI mg "POINTS" 6
 G3:GI mg "TELLS" 7
 G4:GI mg "PLAIN" 8
 J9:GI mg "SAME" 9
 w9:GI mg "NONE_HELD" (-1)
 wG:GI mg "NO_SUCH" (-2)
 uf:GI mg "NO_PROGRAM" (-4)
 yX:GR mg "FLAG" g.flag
 DC:GR mg "BLANKS" g.blanks
 g_:GR mg "ONE_BYTE_SIGNS" g.signs
 yY:GR mg "RESERVED" g.reserved
 yZ:GR mg "TRUTHS" g.truths
 sQ:GR mg "BUILT_IN" g.builtin
 jh:GR mg "OPERATIONS" g.ops
 rT:GR mg "TAKES_FLAGS" g.takes
 ug:GR mg "GIVES_FLAG" g.gives
 sR:KT K g.flag [.int 0]
 DE:KT K g.blanks [.int 32,.int 9,.int 10]
 y3:KT K g.reserved (kn ["chance","budget","def","let","observe","tell","table","net","flag","num","if","flip","pick","uniform","given","weigh","true","false"])
 y4:KT K g.truths (kn ["true","false"])
 sU:KT K g.builtin (kn ["if","flip","pick","uniform","given","weigh"])
 rV:KT K g.takes (kn ["not","and","or"])
 uh:KT K g.gives (kn ["not","and","or","lt","le","eq"])
 Cb:CD K P w g.signs yU
 DF:CD K P w g.ops xU
 N':mg "len" = none
 ui:mg "isinstance" = none
 Oa:mg "abs" = none
 Ob:mg "ord" = none
 Oc:mg "min" = none
 Od:mg "max" = none
 Oe:mg "all" = none
 Of:mg "str" = none
 J_:mg "list" = none
 J':mg "dict" = none
 Og:mg "zip" = none
 w_:mg "enumerate" = none
 G5:mg "range" = none
def kT:Kd->List V
 | .flag=> [.int 0]
 | .num lo hi=> [.int 1,.int lo,.int hi]
def DG:Kd->Int
 | .flag=>0
 | .num _ _=>1
def Vt (k:Kd):E5 (kT k) 0=some (.int (DG k)):=by cases k <;> rfl
def rm (k:Kd):Vaprbb.isNum k=decide (DG k=1):=by cases k <;> rfl
def wH (k l:Kd):Vaprbb.alike k l=decide (DG k=DG l):=by cases k <;> cases l <;> rfl
def y6 (a1 b1 a2 b2:Int) (pl:Nat):Vaprbb.held (.num a1 b1) (.num a2 b2) pl=if a2<=a1/\b1<=b2 then .ok () else .error #[14,pl]:=by
 unfold Vaprbb.held;rw [ae (show¬Vaprbb.alike (.num a1 b1) (.num a2 b2)=false from Bool.noConfusion)];show (if decide (a2<=a1/\b1<=b2)=true then _ else _)=_;simp only [dr]
def gf (p:Nat) (lo hi:Int):Vaprbb.numKind p lo hi=if lo < -1000\/1000 < hi\/lo+63 < hi then .error #[9,p] else .ok (.num lo hi):=rfl
def dI {m:Nat} {Pv:Nat->L2.St->Hp->Prop} {T:(L2.St->Hp->Prop)->Prop} (h:T λZ' H'=> ∃m',m' < m/\Pv m' Z' H'):∃N:L2.St->Hp->Prop,(∀Z' H',N Z' H'->∃m',m' < m/\Pv m' Z' H')/\T N:=#[_,λ_ _ z=>z,h]
def bG {b:Bool} (h1:b=true->A) (h2:b=false->B):if b=true then A else B:=by cases b <;> simp_all
def formOf:VaprbBase.Tok->Str
 | .name _=> "word"
 | .num _=> "number"
 | .sign _=> "sign"
 | .halt_=> "end"
def wordOf:VaprbBase.Tok->Str
 | .name b=>aR b
 | .num _=> ""
 | .sign n=>if n=1 then "->" else ⟨(List.toArray [n])⟩
 | .halt_=> ""
def numOf:VaprbBase.Tok->Int
 | .num n=>n
 | _=>0
noncomputable def tokF (t:VaprbBase.PTok) (bh:Int):List (Str×V):= [("form",.str (formOf t.tok)),("word",.str (wordOf t.tok)),("number",.int (numOf t.tok)),("place",.int t.place),("behind",.int bh)]
def y8 (c:Cl) (H:Hp) (a:Addr) (t:VaprbBase.PTok) (bh:Int):= ∃dx,H a=some (.ins c.tok dx (tokF t bh))
structure CT (K:Frag) (c:Cl):Prop where
 tok:lq K c.tok
 Ka:∀f:Str,f∈(["form","word","number","place","behind"]:List Str)->dg K c.tok f
 Oh:Y c (.ins c.tok 0 [])=true
 rd:lq K c.rd
 R6:∀f:Str,f∈(["tokens","taken"]:List Str)->dg K c.rd f
 ex:lq K c.ex
 R7:∀f:Str,f∈(["form","word","number","place","parts","fractions","bounds"]:List Str)->dg K c.ex f
 R8:Y c (.ins c.ex 0 [])=true
 par:lq K c.par
 Oi:∀f:Str,f∈(["name","place","kind"]:List Str)->dg K c.par f
 Oj:Y c (.ins c.par 0 [])=true
 fn:lq K c.fn
 R9:∀f:Str,f∈(["name","place","parameters","kind","body"]:List Str)->dg K c.fn f
 PV:Y c (.ins c.fn 0 [])=true
 mj:lq K c.mj
 Kb:∀f:Str,f∈(["name","place","written","expression"]:List Str)->dg K c.mj f
 Kc:Y c (.ins c.mj 0 [])=true
 obs:lq K c.obs
 Ol:∀f:Str,f∈(["expression"]:List Str)->dg K c.obs f
 Om:Y c (.ins c.obs 0 [])=true
 prog:lq K c.prog
 Ke:∀f:Str,f∈(["title","budget","functions","statements","told"]:List Str)->dg K c.prog f
 Kf:Y c (.ins c.prog 0 [])=true
 GV:lq K c.GV
 Oo:∀f:Str,f∈(["title","lets","functions","parameters"]:List Str)->dg K c.GV f
 R_:Y c (.ins c.GV 0 [])=true
 call:lq K c.call
 Kg:∀f:Str,f∈(["number","asked","text"]:List Str)->dg K c.call f
 Kh:Y c (.ins c.call 0 [])=true
 ld:lq K c.ld
 Sa:∀f:Str,f∈(["program","let_kinds","form_bytes","plain_bytes","let_names","function_names","called"]:List Str)->dg K c.ld f
 Se:Y c (.ins c.ld 0 [])=true
 hold:lq K c.hold
 Ki:∀f:Str,f∈(["loaded"]:List Str)->dg K c.hold f
 wI:∀(H:Hp) (a dx:Addr) (fs:List (Str×V)),H a=some (.ins c.mj dx fs)->rH K H (.ref a) (.ref c.mj)
 wJ:∀(H:Hp) (a dx:Addr) (fs:List (Str×V)),H a=some (.ins c.obs dx fs)->rH K H (.ref a) (.ref c.obs)
 rn:kitOne K (.ref c.mj) (.ref c.mj)=some true
 ro:kitOne K (.ref c.obs) (.ref c.mj)=some false
def y8.mono {t:VaprbBase.PTok} {bh:Int} (C:CT K c) (h:y8 c H a t bh) (i:bW c H H'):y8 c H' a t bh:=let #[dx,e]:=h;#[dx,i a _ e C.Oh]
section
variable {X:Cx} {e:Expr} {pos:Pos}
def pU (ha:PE X e te) (hs:starEach [e] X.env=(false,eval e X.env) :: starEach [] X.env:=by rfl):PA X [e] (JB te E1):=aH ha yH hs
def kg (h:n<=5:=by exact dn rfl):n<=sizeLine:=aP h ∅
def rF (he:PE X e te):PS X (.Return (some e) pos) (Re (R0 te)):=sJ (di he)
def iF {c:Expr} {a:List Stmt} {tc:TT} {t:TS} (hc:PT X c tc) (ha:tR X a t):PS X (.If c a [] pos) (Rf tc t NW):=NX hc ha Gk
end
section
variable {K':Frag} {fs:List (Str×V)} {f:Str}
def fr {R:Addr->Addr->Addr->List (Str×V)->V->Prop} (h:H a=some (.ins D dx fs)) (l:fs.lookup f=some v) (q:R a D dx fs v) (k:lq K' D/\dg K' D f:=by walk_at "k") (e:K'=K:=by rfl):∃a' C dx fs' v,V.ref a= .ref a'/\H a'=some (.ins C dx fs')/\lq K C/\dg K C f/\fs'.lookup f=some v/\R a' C dx fs' v:=by subst e;exists a,D,dx,fs,v,U,h,k.1,k.2,l,q
def fw {R:Addr->Addr->Addr->List (Str×V)->Prop} (h:H a=some (.ins D dx fs)) (q:R a D dx fs) (k:lq K' D/\dg K' D f:=by walk_at "k") (e:K'=K:=by rfl) (l:fs.length < 1000:=by exact dn rfl):∃a' C dx fs',V.ref a= .ref a'/\H a'=some (.ins C dx fs')/\lq K C/\dg K C f/\fs'.length < 1000/\R a' C dx fs':=by subst e;exists a,D,dx,fs,U,h,k.1,k.2,l,q
end
noncomputable def fns:List (Str×Nat×Addr):=("num_kind",9,42)::("sort_of",10,49)::("low_of",11,56)::("high_of",12,63)::("need_sort",13,70)::("hold_against",14,77)::("bounded_num",15,84)::("fitting_num",16,91)::("is_digit",51,272)::("is_great_letter",52,279)::("is_small_letter",53,286)::("is_letter",54,293)::("sign_of_byte",55,300)::("row_end",58,321)::("behind_blanks",57,314)::("number_at",62,347)::("minus_at",61,340)::("word_at",60,333)::("token_at",59,328)::("tokens_of",56,307)::("is_name",50,265)::("lowest_terms",67,445)::("read_kind",65,431)::("read_fraction",66,438)::("read_weight",68,452)::("read_share",69,459)::("begins_expression",77,469)::("refuse_more",83,511)::("read_parts",81,497)::("read_arguments",82,504)::("read_flip",84,518)::("read_uniform",85,525)::("read_weigh",86,532)::("read_way",88,546)::("read_pick",87,539)::("read_built_in",80,490)::("read_expression",79,483)::("refuse_more_names",101,595)::("read_budget",96,560)::("read_parameter",100,588)::("read_parameters",99,581)::("read_function",98,574)::("read_functions",97,567)::("read_statement",103,609)::("read_statements",102,602)::("read_told",104,616)::("read_program",95,553)::("read_lone_expression",78,476)::("within",26,234)::("lets_of",24,222)::("expressions_of",25,227)::("functions_by_name",107,630)::("check_weights",114,677)::("check_call",113,672)::("check_expression",112,665)::("check_told",111,658)::("checked_parameters",109,644)::("check_functions",108,637)::("check_statements",110,651)::("check_names",106,623)::("sort_taken",126,738)::("ends_of_one",127,745)::("ends_of_two",128,752)::("joined_kind",123,717)::("kind_of_call",124,724)::("kind_of_operation",125,731)::("kind_behind_question",122,710)::("kind_of",121,705)::("kind_of_let",120,700)::("check_statement_kinds",119,693)::("check_kinds",118,686)::("numbers_met",132,771)::("mentioned_in",130,759)::("called_in",131,766)::("ways_of",135,792)::("points_of",134,785)::("is_recursive",133,778)::("let_names",141,828)::("function_names",142,833)::("parameter_names",143,838)::("kept",144,843)::("numbered",145,848)::("own_names",139,818)::("names_by_number",140,823)::("kind_text",150,872)::("fraction_text",151,879)::("texts_in_brackets",153,891)::("expression_text",152,886)::("function_text",148,858)::("statement_text",149,865)::("one_form",147,853)::("counted",190,1090)::("name_numbers",191,1095)::("shown",179,1015)::("plain",187,1069)::("sizes",180,1022)::("has_text",173,973)::("has_number",174,980)::("tells",186,1062)::("points",185,1057)::("lets",181,1029)::("funs",182,1036)::("loaded_from",178,1008)::("kind_of_text",184,1050)::("load",177,1001)::("kind",183,1043)::("same",188,1076)::("answer_of_held",176,994)::("answer_to",175,987)::("calls_in",172,966)::("answers",171,959)::[]
theorem Cd [BEq α] [LawfulBEq α] {x:α} {y:β}:∀{l:List (α×β)},l.lookup x=some y->(x,y)∈l
 | (a,b) :: l,h=>by
  rw [eR] at h;cases e:x == a with
  | true=>rw [e] at h;cases h;rw [bO.mp e];exact bi
  | false=>rw [e] at h;exact aW _ (Cd h)
structure k8 (P:Program) (w:World) (K:Frag) (mg:Str->Option Value) (base:Heap) (c:Cl) (g:GA) (fI:Addr) (EG:Value) (EH:Scope) (fN:Addr) (L3:Value) (L4:Scope):Prop where
 T:GT P w K mg g
 C:CT K c
 FT:Flt K mg c.cf fI EG EH
 FN:MM K mg fN L3 L4
 Bm:GR mg "Let" c.mj
 fn:∀p∈fns,∃fd,WK K mg p.1 (top p.2.1) p.2.2 fd
 mq:∃f fd,Fd K mg "Token" "Token.__init__" c.tok (inClass (top 49) 0) f fd
 kC:∃f fd,Fd K mg "Reader" "Reader.__init__" c.rd (inClass (top 64) 0) f fd
 o9:∃f fd,J7 K "ahead" "Reader.ahead" c.rd (inClass (top 64) 1) f fd
 rW:∃f fd,J7 K "take" "Reader.take" c.rd (inClass (top 64) 2) f fd
 rX:∃f fd,J7 K "sees" "Reader.sees" c.rd (inClass (top 64) 3) f fd
 nU:∃f fd,J7 K "passes" "Reader.passes" c.rd (inClass (top 64) 4) f fd
 rY:∃f fd,J7 K "need" "Reader.need" c.rd (inClass (top 64) 5) f fd
 jK:∃f fd,J7 K "need_name" "Reader.need_name" c.rd (inClass (top 64) 6) f fd
 iC:∃f fd,J7 K "need_number" "Reader.need_number" c.rd (inClass (top 64) 7) f fd
 kD:∃f fd,J7 K "need_end" "Reader.need_end" c.rd (inClass (top 64) 8) f fd
 gW:∃f fd,Fd K mg "Expression" "Expression.__init__" c.ex (inClass (top 18) 0) f fd
 iE:∃f fd,Fd K mg "Parameter" "Parameter.__init__" c.par (inClass (top 19) 0) f fd
 jb:∃f fd,Fd K mg "Function" "Function.__init__" c.fn (inClass (top 20) 0) f fd
 o_:∃f fd,Fd K mg "Let" "Let.__init__" c.mj (inClass (top 21) 0) f fd
 jL:∃f fd,Fd K mg "Observe" "Observe.__init__" c.obs (inClass (top 22) 0) f fd
 jM:∃f fd,Fd K mg "Program" "Program.__init__" c.prog (inClass (top 23) 0) f fd
 kE:∃f fd,Fd K mg "Naming" "Naming.__init__" c.GV (inClass (top 138) 0) f fd
 nV:∃f fd,Fd K mg "Call" "Call.__init__" c.call (inClass (top 168) 0) f fd
 kF:∃f fd,Fd K mg "Holder" "Holder.__init__" c.hold (inClass (top 170) 0) f fd
 kG:∃f fd,Fd K mg "Loaded" "Loaded.__init__" c.ld (inClass (top 169) 0) f fd
abbrev SP:=Frag->Cl->Sp
section
abbrev k8.h0 (_A:k8 P w K mg base c g fI EG EH fN L3 L4) (k:Nat) (x:Str) (ps:List Str) (sp:SP):=MS P w K mg base Dt k x ps (sp K c)
abbrev k8.c0 (_A:k8 P w K mg base c g fI EG EH fN L3 L4) (k:Nat) (C:Addr) (x:Str) (ps:List Str) (sp:SP):=Fc P w K mg base Dt k C x ps (sp K c)
abbrev k8.m0 (_A:k8 P w K mg base c g fI EG EH fN L3 L4) (k:Nat) (C:Addr) (x:Str) (ps:List Str) (sp:SP):=Fb P w K mg base Dt k C x ps (sp K c)
abbrev k8.hF (_A:k8 P w K mg base c g fI EG EH fN L3 L4) (k:Nat) (x:Str) (ps:List Str) (sp:SP):=MS P w K mg base (An P w c.cf) k x ps (sp K c)
abbrev k8.cF (_A:k8 P w K mg base c g fI EG EH fN L3 L4) (k:Nat) (C:Addr) (x:Str) (ps:List Str) (sp:SP):=Fc P w K mg base (An P w c.cf) k C x ps (sp K c)
abbrev k8.mF (_A:k8 P w K mg base c g fI EG EH fN L3 L4) (k:Nat) (C:Addr) (x:Str) (ps:List Str) (sp:SP):=Fb P w K mg base (An P w c.cf) k C x ps (sp K c)
variable (AA:k8 P w K mg base c g fI EG EH fN L3 L4) {N ps:List Str} {k:Nat} {sp:SP} {f0 C0:Addr} {x q:Str} {st:Stmt}
def k8.n0 (body:∀{f:Addr} {eB:Value} {A:Around} {outer:List Env} {s:Shared} {vs:List V} (_:GT P w K mg g) (_:CT K c) (_:Flt K mg c.cf fI EG EH) (H:Hp) (Q:VK) (E:XK),N.Nodup->cY k (A.deeper (envOfC x (aX (top i)) s.heap.objs.size f eB))->sp K c vs H Q E->∃t,tR (jG Dt P w K mg base N x (aX (top i)) f eB A outer s H E).ER (cR (top i)) t/\t (Ends.fin Q) (start N vs) H) (hl:fns.lookup x=some (i,f0):=by rfl) (b:∀(kV doc pm:Value) (an:Option Addr) (eB ct:Value) (us:List Value),us.length=ps.length->bindArgs (PySem.W.fnOf x x (fq (top i)) (cR (top i)) (aX (top i)) .none kV doc pm an eB ct) #[us,[]]=pure (ps.zip us):=by walk_at "b") (len:∀vs H Q E,sp K c vs H Q E->vs.length=ps.length:=by walk_at "l") (S:d_ N ps (aX (top i)):=by walk_at "f"):AA.h0 (k+1) x ps sp:=let #[fd,F]:=AA.fn _ (Cd hl);#[f0,fd,F.mg,F.fn.kp,F.fn.ok S len λ_ _ _ _ _ _ _ _ hr h=>body AA.T AA.C AA.FT _ _ _ S.nd hr h,F.fn.binds b]
def k8.nF (body:∀{f:Addr} {eB:Value} {A:Around} {outer:List Env} {s:Shared} {vs:List V} (_:GT P w K mg g) (_:CT K c) (_:Flt K mg c.cf fI EG EH) (H:Hp) (Q:VK) (E:XK),N.Nodup->cY k (A.deeper (envOfC x (aX (top i)) s.heap.objs.size f eB))->sp K c vs H Q E->∃t,tR (jG (An P w c.cf) P w K mg base N x (aX (top i)) f eB A outer s H E) (cR (top i)) t/\t (Ends.fin Q) (start N vs) H) (hl:fns.lookup x=some (i,f0):=by rfl) (b:∀(kV doc pm:Value) (an:Option Addr) (eB ct:Value) (us:List Value),us.length=ps.length->bindArgs (PySem.W.fnOf x x (fq (top i)) (cR (top i)) (aX (top i)) .none kV doc pm an eB ct) #[us,[]]=pure (ps.zip us):=by walk_at "b") (len:∀vs H Q E,sp K c vs H Q E->vs.length=ps.length:=by walk_at "l") (S:d_ N ps (aX (top i)):=by walk_at "f"):AA.hF (k+1) x ps sp:=let #[fd,F]:=AA.fn _ (Cd hl);#[f0,fd,F.mg,F.fn.kp,F.fn.I0 S len λ_ _ _ _ _ _ _ _ hr h=>body AA.T AA.C AA.FT _ _ _ S.nd hr h,F.fn.binds b]
def k8.i0 (F:∃f fd,Fd K mg x q C0 st f fd) (body:∀{f:Addr} {eB:Value} {A:Around} {outer:List Env} {s:Shared} {vs:List V} (_:GT P w K mg g) (_:CT K c) (_:Flt K mg c.cf fI EG EH) (H:Hp) (Q:VK) (E:XK),N.Nodup->cY k (A.deeper (envOfC q (aX (st)) s.heap.objs.size f eB))->sp K c vs H Q E->∃t,tR (jG Dt P w K mg base N q (aX (st)) f eB A outer s H E).ER (cR (st)) t/\t (Ends.fin Q) (start N vs) H) (b:∀(kV doc pm:Value) (an:Option Addr) (eB ct:Value) (us:List Value),us.length=ps.length->bindArgs (PySem.W.fnOf "__init__" q (fq (st)) (cR (st)) (aX (st)) .none kV doc pm an eB ct) #[us,[]]=pure (ps.zip us):=by walk_at "b") (len:∀vs H Q E,sp K c vs H Q E->vs.length=ps.length:=by walk_at "l") (S:d_ N ps (aX (st)):=by walk_at "f"):AA.c0 (k+1) C0 x ps sp:=let #[f0,fd,F]:=F;#[f0,fd,F.WL,F.mg,F.fn.ok S len λ_ _ _ _ _ _ _ _ hr h=>body AA.T AA.C AA.FT _ _ _ S.nd hr h,F.fn.binds b]
def k8.iF (F:∃f fd,Fd K mg x q C0 st f fd) (body:∀{f:Addr} {eB:Value} {A:Around} {outer:List Env} {s:Shared} {vs:List V} (_:GT P w K mg g) (_:CT K c) (_:Flt K mg c.cf fI EG EH) (H:Hp) (Q:VK) (E:XK),N.Nodup->cY k (A.deeper (envOfC q (aX (st)) s.heap.objs.size f eB))->sp K c vs H Q E->∃t,tR (jG (An P w c.cf) P w K mg base N q (aX (st)) f eB A outer s H E) (cR (st)) t/\t (Ends.fin Q) (start N vs) H) (b:∀(kV doc pm:Value) (an:Option Addr) (eB ct:Value) (us:List Value),us.length=ps.length->bindArgs (PySem.W.fnOf "__init__" q (fq (st)) (cR (st)) (aX (st)) .none kV doc pm an eB ct) #[us,[]]=pure (ps.zip us):=by walk_at "b") (len:∀vs H Q E,sp K c vs H Q E->vs.length=ps.length:=by walk_at "l") (S:d_ N ps (aX (st)):=by walk_at "f"):AA.cF (k+1) C0 x ps sp:=let #[f0,fd,F]:=F;#[f0,fd,F.WL,F.mg,F.fn.I0 S len λ_ _ _ _ _ _ _ _ hr h=>body AA.T AA.C AA.FT _ _ _ S.nd hr h,F.fn.binds b]
def k8.TD (F:∃f fd,J7 K x q C0 st f fd) (body:∀{f:Addr} {eB:Value} {A:Around} {outer:List Env} {s:Shared} {vs:List V} (_:GT P w K mg g) (_:CT K c) (_:Flt K mg c.cf fI EG EH) (H:Hp) (Q:VK) (E:XK),N.Nodup->cY k (A.deeper (envOfC q (aX (st)) s.heap.objs.size f eB))->sp K c vs H Q E->∃t,tR (jG Dt P w K mg base N q (aX (st)) f eB A outer s H E).ER (cR (st)) t/\t (Ends.fin Q) (start N vs) H) (b:∀(kV doc pm:Value) (an:Option Addr) (eB ct:Value) (us:List Value),us.length=ps.length->bindArgs (PySem.W.fnOf x q (fq (st)) (cR (st)) (aX (st)) .none kV doc pm an eB ct) #[us,[]]=pure (ps.zip us):=by walk_at "b") (len:∀vs H Q E,sp K c vs H Q E->vs.length=ps.length:=by walk_at "l") (S:d_ N ps (aX (st)):=by walk_at "f"):AA.m0 (k+1) C0 x ps sp:=let #[f0,fd,F]:=F;#[f0,fd,F.cl,F.me,F.fn.ok S len λ_ _ _ _ _ _ _ _ hr h=>body AA.T AA.C AA.FT _ _ _ S.nd hr h,F.fn.binds b]
def k8.TF (F:∃f fd,J7 K x q C0 st f fd) (body:∀{f:Addr} {eB:Value} {A:Around} {outer:List Env} {s:Shared} {vs:List V} (_:GT P w K mg g) (_:CT K c) (_:Flt K mg c.cf fI EG EH) (H:Hp) (Q:VK) (E:XK),N.Nodup->cY k (A.deeper (envOfC q (aX (st)) s.heap.objs.size f eB))->sp K c vs H Q E->∃t,tR (jG (An P w c.cf) P w K mg base N q (aX (st)) f eB A outer s H E) (cR (st)) t/\t (Ends.fin Q) (start N vs) H) (b:∀(kV doc pm:Value) (an:Option Addr) (eB ct:Value) (us:List Value),us.length=ps.length->bindArgs (PySem.W.fnOf x q (fq (st)) (cR (st)) (aX (st)) .none kV doc pm an eB ct) #[us,[]]=pure (ps.zip us):=by walk_at "b") (len:∀vs H Q E,sp K c vs H Q E->vs.length=ps.length:=by walk_at "l") (S:d_ N ps (aX (st)):=by walk_at "f"):AA.mF (k+1) C0 x ps sp:=let #[f0,fd,F]:=F;#[f0,fd,F.cl,F.me,F.fn.I0 S len λ_ _ _ _ _ _ _ _ hr h=>body AA.T AA.C AA.FT _ _ _ S.nd hr h,F.fn.binds b]
end
section
open PySem PySem.W PyProof.Rows L2
noncomputable def kObj (P:Params) (a:Addr):Obj:=((Ut P).get a).getD default
noncomputable def TH:List Addr:= [3,27,28,30,31,35,41,42,48,49,55,56,62,63,69,70,76,77,83,84,90,91,104,105,107,108,125,126,128,129,146,147,149,150,167,168,170,171,188,189,191,192,209,210,212,213,221,222,226,227,233,234,235,236,237,250,251,253,254,264,265,271,272,278,279,285,286,292,293,299,300,306,307,313,314,320,321,327,328,332,333,339,340,346,347,360,361,367,368,374,375,381,382,388,389,395,396,402,403,409,410,416,417,419,420,430,431,437,438,444,445,451,452,458,459,460,461,462,468,469,475,476,482,483,489,490,496,497,503,504,510,511,517,518,524,525,531,532,538,539,545,546,552,553,559,560,566,567,573,574,580,581,587,588,594,595,601,602,608,609,615,616,622,623,629,630,636,637,643,644,650,651,657,658,664,665,671,672,676,677,678,679,685,686,692,693,699,700,704,705,709,710,716,717,723,724,730,731,737,738,744,745,751,752,758,759,765,766,770,771,777,778,784,785,791,792,805,806,808,809,817,818,822,823,827,828,832,833,837,838,842,843,847,848,852,853,857,858,864,865,871,872,878,879,885,886,890,891,904,905,907,908,923,924,926,927,944,945,947,948,958,959,965,966,972,973,979,980,986,987,993,994,1000,1001,1007,1008,1014,1015,1021,1022,1028,1029,1035,1036,1042,1043,1049,1050,1056,1057,1061,1062,1068,1069,1075,1076,1082,1083,1089,1090,1094,1095]
noncomputable def KK (P:Params):Frag:=TH.map λa=>(a,kObj P a)
theorem y9 {f:Addr->Obj}:∀{as:List Addr} {a:Addr} {o:Obj},(as.map λa=>(a,f a)).lookup a=some o->a∈as/\o=f a
 | [],_,_,h=>by cases h
 | b :: as,a,o,h=>by
  rw [bF,eR] at h;cases e:a == b with
  | true=>
   rw [e] at h;have e:=bO.mp e;subst e;exists bi,(bE h).symm
  | false=>
   rw [e] at h;obtain ⟨h1,h2⟩:=y9 h;exists aW _ h1,h2
def live (o:Obj):Bool:=match o.data with
 | .freed=>false
 | _=>true
def Sf:TH.all (λa=>Nat.blt a 1096)=true:=by decide+kernel
def Sg {P:Params} (hl:TH.all (λa=>live (kObj P a))=true):(KK P).In (hp1 P):=λa o h=>by
 obtain ⟨ha,rfl⟩:=y9 h;have h1:=c6.mp hl a ha;have h2:a < 1096:=by have:=c6.mp Sf a ha;simpa [Nat.blt_eq] using this
 have h3:(hp1 P).objs[a]? = some (kObj P a):=by
  show (absHeap (Ut P) 1096 {}).objs[a]? = _;rw [absHeap_at,ah h2];rfl
 unfold Heap.get?;rw [h3];unfold live at h1;generalize kObj P a=ob at *;ext ob oc od dt sl;cases dt <;> first | rfl | cases h1
noncomputable def pf (P:Params) (a:Addr):FuncData:=match (kObj P a).data with
 | .func fd=>fd
 | _=>default
def Fl {P:Params} {f:Addr} {x q:Str} {st:Stmt} (h1:(KK P).lookup f=some #[(kObj P f).cls,(kObj P f).dict,.func (pf P f),(kObj P f).slots]:=by kernel_rfl) (h3:pf P f=fnOf x q (fq st) (cR st) (aX st) .none (pf P f).kwdefaults (pf P f).doc (pf P f).pyModule (pf P f).annotations (pf P f).code (pf P f).closureTuple:=by kernel_rfl)
 (h4:codeIn (KK P) (pf P f).code q=true:=by kernel_rfl) (h5:keepIn (KK P) (.ref f)=true:=by kernel_rfl):Fun (KK P) x q st f (pf P f):=#[#[_,_,_,_,_,_,_,_,_,h3,h1,h4],h5]
def tokOf:Option (Option Value)->PySem.Tok
 | some (some (.int _ t))=>t
 | some (some (.str _ t))=>t
 | _=>0
noncomputable def MV (P:Params) (a:Addr):Array Value:=match (kObj P a).data with
 | .seq i _=>i
 | _=> #[]
noncomputable def Sh (P:Params) (a:Addr):Nat:=match (kObj P a).data with
 | .seq _ n=>n
 | _=>0
def I0:Value->Bool
 | .int _ _=>true
 | .str _ _=>true
 | _=>false
def DH {u:Value} (h:I0 u=true):RelV (toV u) u:=by
 cases u <;> first | exists _,U | cases h
def Bn:∀{vs:List Value},vs.all I0=true->Vals (vs.map toV) vs
 | [],_=> .nil
 | u :: vs,h=>by
  rw [jp,c5] at h;exact .cons (DH h.1) (Bn h.2)
def kt_at {P:Params} {a:Addr} {xs:List V} (h1:(KK P).lookup a=some (kObj P a):=by kernel_rfl) (h2:(kObj P a).cls= .type "tuple" :=by kernel_rfl) (h3:(kObj P a).data= .seq (MV P a) (Sh P a):=by kernel_rfl) (h4:Nat.ble (MV P a).size sizeLine=true:=by kernel_rfl)
 (h5:(MV P a).toList.all I0=true:=by kernel_rfl) (h6:(MV P a).toList.map toV=xs:=by kernel_rfl):KT (KK P) a xs:=#[_,_,_,h1,h2,h3,dn h4,h6 ▸ Bn h5]
noncomputable def PX (P:Params) (a:Addr):Array DictEntry:=match (kObj P a).data with
 | .dict es _=>es
 | _=> #[]
noncomputable def X' (P:Params) (a:Addr):Nat:=match (kObj P a).data with
 | .dict _ n=>n
 | _=>0
def Fm:Value->Key
 | .int i _=> .inl i
 | .str s _=> .inr s
 | _=> .inl 0
def Op {v:Value} (h:I0 v=true):lW (Fm v) v=true:=by
 cases v <;> first | exact AY _ _ | exact AZ _ _ | cases h
theorem DI (w:World):∀{l:List DictEntry} (k:Key),l.all (λe=>I0 e.key && I0 e.val)=true->jE (cq (l.map λe=>(Fm e.key,toV e.val)) k) ((l.find? λe=>lW k e.key).map (·.val))
 | [],k,_=>au
 | e :: l,k,h=>by
  rw [jp,c5,c5] at h;have ih:=DI w (l:=l) k h.2;unfold cq at ih ⊢;rw [bF,dW,dW];have hk:=Op h.1.1;by_cases ek:Fm e.key=k
  . rw [qV ek,<-ek,hk];exact DH h.1.2
  . rw [dG ek];have:lW k e.key=false:=by
     cases z:lW k e.key with
     | false=>rfl
     | true=>exact absurd ((cz (Challenge.pw_lotprograms_s01_answers) w).inj e.key (Fm e.key) k hk z) ek
    rw [this];exact ih
def Oq {Pr:Program} {w:World} {a:Addr} {aG:List (Key×V)} (h0:(a == sysModules)=false) (h1:(KK w.params).lookup a=some (kObj w.params a)) (h2:(kObj w.params a).cls= .type "dict") (h3:(kObj w.params a).dict=none) (h4:(kObj w.params a).slots=#[])
 (h5:(kObj w.params a).data= .dict (PX w.params a) (X' w.params a)) (h6:(PX w.params a).toList.all (λe=>I0 e.key && I0 e.val)=true) (h7:(PX w.params a).toList.map (λe=>(Fm e.key,toV e.val))=aG)
 (h8:(PX w.params a).toList.map (λe=>e.hash)=(PX w.params a).toList.map (λe=>Q8 w (Fm e.key))):CD (KK w.params) Pr w a aG:=by
 exists h0,_,_,_,h1,#[h2,h3,h4],h5,λe he=>?_,λk=>?_
 . have he:e∈(PX w.params a).toList:= ~~~he
   have h9:=c6.mp h6 e he;rw [c5] at h9;exists Fm e.key,Op h9.1,List.map_inj_left.mp h8 e he
 . rw [<-h7];have:=DI w (l:=(PX w.params a).toList) k h6;unfold findBy;rw [<-vL];exact this
def PY {w:World} {mg:Str->Option Value} {h:Heap} (X:(KK w.params).In h) (G:h.Ns mainGlobals mg) {x:Str} {st:Stmt} {f:Addr} (F:Fun (KK w.params) x x st f (pf w.params f):=by exact Fl) (e:nsIn (KK w.params) mainGlobals x=some (some (.ref f)):=by kernel_rfl):WK (KK w.params) mg x st f (pf w.params f):=#[F,mg_of X G e]
def int_at {w:World} {mg:Str->Option Value} {h:Heap} (X:(KK w.params).In h) (G:h.Ns mainGlobals mg) {x q:Str} {C:Addr} {st:Stmt} {f:Addr} (F:Fun (KK w.params) "__init__" q st f (pf w.params f):=by exact Fl) (e1:makesIn (KK w.params) C=true:=by kernel_rfl) (e2:findIn (KK w.params) (.ref C) "__init__" = some (some (.ref f)):=by kernel_rfl)
 (e3:isFn (KK w.params) (.ref f)=true:=by kernel_rfl) (e4:keepIn (KK w.params) (.ref C)=true:=by kernel_rfl) (e:nsIn (KK w.params) mainGlobals x=some (some (.ref C)):=by kernel_rfl):Fd (KK w.params) mg x q C st f (pf w.params f):=#[F,#[e1,e2,e3,e4],mg_of X G e]
def ph {w:World} {m q:Str} {C:Addr} {st:Stmt} {f:Addr} (cl:lq (KK w.params) C) (F:Fun (KK w.params) m q st f (pf w.params f):=by exact Fl) (e1:findIn (KK w.params) (.ref C) m=some (some (.ref f)):=by kernel_rfl) (e2:isFn (KK w.params) (.ref f)=true:=by kernel_rfl):J7 (KK w.params) m q C st f (pf w.params f):=#[F,cl,#[e1,e2,F.kp]]
section
variable {w:World} {mg:Str->Option Value} {h:Heap} (X:(KK w.params).In h) (G:h.Ns mainGlobals mg) {x:Str}
include X G
def cN {i:Int} (e:nsIn (KK w.params) mainGlobals x=some (some (.int i (tokOf (nsIn (KK w.params) mainGlobals x)))):=by kernel_rfl):GI mg x i:=#[_,mg_of X G e]
def xa {i:Str} (e:nsIn (KK w.params) mainGlobals x=some (some (.str i (tokOf (nsIn (KK w.params) mainGlobals x)))):=by kernel_rfl):GS mg x i:=#[_,mg_of X G e]
def uj {a:Addr} (e:nsIn (KK w.params) mainGlobals x=some (some (.ref a)):=by kernel_rfl):GR mg x a:=mg_of X G e
def mr (e:nsIn (KK w.params) mainGlobals x=some none:=by kernel_rfl):mg x=none:=mg_none_of X G e
end
def cZ {K:Frag} {C:Addr} {l:List Str} (h:(l.all λf=>findIn K (.ref C) f == some none)=true):∀f∈l,dg K C f:=λf hf=>bO.mp (c6.mp h f hf)
def cA:Cl:=#[254,420,108,129,150,171,192,213,809,908,927,948,31]
def gA:GA:=#[35,235,236,237,460,461,462,678,679]
abbrev Fn:Stmt:=inClass (top 1) 0
abbrev Ia:Stmt:=top 189
def Ot {P:Params} {f:Addr} {x q:Str} {st:Stmt} (h1:(KK P).lookup f=some #[(kObj P f).cls,(kObj P f).dict,.func (pf P f),(kObj P f).slots]) (h3:pf P f=fnOf x q (fq st) (cR st) (aX st) .none (pf P f).kwdefaults (pf P f).doc (pf P f).pyModule (pf P f).annotations (pf P f).code (pf P f).closureTuple):
 (KK P).lookup f=some #[(kObj P f).cls,(kObj P f).dict,.func (fnOf x q (fq st) (cR st) (aX st) .none (pf P f).kwdefaults (pf P f).doc (pf P f).pyModule (pf P f).annotations (pf P f).code (pf P f).closureTuple),(kObj P f).slots]:=by
 rw [<-h3];exact h1
def Si:d_ ["self","code","place"] ["self","code","place"] (aX Fn):=#[rfl,rfl,rfl,by decide+kernel,rfl,by decide+kernel,by decide+kernel]
def Sj:d_ ["fault"] ["fault"] (aX Ia):=#[rfl,rfl,rfl,by decide+kernel,rfl,by decide+kernel,by decide+kernel]
set_option maxRecDepth 1000000
def Bo (w:World):TH.all (λa=>live (kObj w.params a))=true/\
 ∀(Pr:Program) (mg:Str->Option Value) (h base:Heap),(KK w.params).In h->h.Ns mainGlobals mg->k8 Pr w (KK w.params) mg base cA gA 28 (pf w.params 28).code (aX Fn) 1083 (pf w.params 1083).code (aX Ia):=by
 exists #v[],λPr mg h base X G=>?_;have Kj:lq (KK w.params) cA.tok:=#[#v[],#v[],#v[],#v[]];have fA:lq (KK w.params) cA.rd:=#[#v[],#v[],#v[],#v[]];have Ao:lq (KK w.params) cA.ex:=#[#v[],#v[],#v[],#v[]];have Ce:lq (KK w.params) cA.par:=#[#v[],#v[],#v[],#v[]];have DJ:lq (KK w.params) cA.fn:=#[#v[],#v[],#v[],#v[]];have Kk:lq (KK w.params) cA.mj:=#[#v[],#v[],#v[],#v[]];have y_:lq (KK w.params) cA.obs:=#[#v[],#v[],#v[],#v[]];have Fo:lq (KK w.params) cA.prog:=#[#v[],#v[],#v[],#v[]];have Ib:lq (KK w.params) cA.GV:=#[#v[],#v[],#v[],#v[]];have MX:lq (KK w.params) cA.call:=#[#v[],#v[],#v[],#v[]];have Ic:lq (KK w.params) cA.ld:=#[#v[],#v[],#v[],#v[]];have Ie:lq (KK w.params) cA.hold:=#[#v[],#v[],#v[],#v[]];have ct:CT (KK w.params) cA:=by
  exact {tok:=Kj,Ka:=cZ (l:= ["form","word","number","place","behind"]) #v[],Oh:=rfl,rd:=fA,R6:=cZ (l:= ["tokens","taken"]) #v[],ex:=Ao,R7:=cZ (l:= ["form","word","number","place","parts","fractions","bounds"]) #v[],R8:=rfl,par:=Ce,Oi:=cZ (l:= ["name","place","kind"]) #v[],Oj:=rfl,fn:=DJ,R9:=cZ (l:= ["name","place","parameters","kind","body"]) #v[],PV:=rfl,mj:=Kk,Kb:=cZ (l:= ["name","place","written","expression"]) #v[],Kc:=rfl,obs:=y_,Ol:=cZ (l:= ["expression"]) #v[],Om:=rfl,prog:=Fo,Ke:=cZ (l:= ["title","budget","functions","statements","told"]) #v[],Kf:=rfl,GV:=Ib,Oo:=cZ (l:= ["title","lets","functions","parameters"]) #v[],R_:=rfl,call:=MX,Kg:=cZ (l:= ["number","asked","text"]) #v[],Kh:=rfl,ld:=Ic,Sa:=cZ (l:= ["program","let_kinds","form_bytes","plain_bytes","let_names","function_names","called"]) #v[],Se:=rfl,hold:=Ie,Ki:=cZ (l:= ["loaded"]) #v[],wI:=λH a dx fs e=> .ins e Kk #v[] #v[] #v[] #v[],wJ:=λH a dx fs e=> .ins e y_ #v[] #v[] #v[] #v[],rn:=by kernel_rfl,ro:=by kernel_rfl}
 have gt:GT Pr w (KK w.params) mg gA:=by
  exact {ko:=cN X G,jJ:=cN X G,Ca:=cN X G,ng:=cN X G,yV:=cN X G,gJ:=cN X G,o7:=cN X G,kq:=cN X G,rR:=cN X G,Bk:=cN X G,Fe:=cN X G,G0:=cN X G,Bl:=cN X G,wE:=cN X G,rj:=cN X G,rl:=cN X G,wF:=cN X G,mn:=cN X G,w6:=cN X G,kt:=cN X G,mo:=cN X G,ku:=cN X G,kz:=cN X G,w8:=cN X G,Fh:=cN X G,G1:=cN X G,G2:=cN X G,Fi:=cN X G,Fj:=cN X G,Fk:=cN X G,DB:=cN X G,G3:=cN X G,G4:=cN X G,J9:=cN X G,w9:=cN X G,wG:=cN X G,uf:=cN X G,yW:=xa X G,iV:=xa X G,iW:=xa X G,Ff:=xa X G,o8:=xa X G,Fg:=xa X G,J8:=xa X G,rS:=xa X G,yX:=uj X G,DC:=uj X G,g_:=uj X G,yY:=uj X G,yZ:=uj X G,sQ:=uj X G,jh:=uj X G,rT:=uj X G,ug:=uj X G,sR:=kt_at,DE:=kt_at,y3:=kt_at,y4:=kt_at,sU:=kt_at,rV:=kt_at,uh:=kt_at,Cb:=Oq #v[] #v[] #v[] #v[] #v[] #v[] #v[] #v[] #v[],DF:=Oq #v[] #v[] #v[] #v[] #v[] #v[] #v[] #v[] #v[],N':=mr X G,ui:=mr X G,Oa:=mr X G,Ob:=mr X G,Oc:=mr X G,Od:=mr X G,Oe:=mr X G,Of:=mr X G,J_:=mr X G,J':=mr X G,Og:=mr X G,w_:=mr X G,G5:=mr X G}
 have fi:JR (KK w.params) 28 (pf w.params 28).code (aX Fn):=
  #[#[fq Fn,cR Fn,_,_,_,_,_,_,_,_,_,_,_,_,_,_,_,_,Ot (st:=Fn) #v[] #v[],#v[],Fa (ps:= [(),(),()]) λ_ _ _=>rfl,rfl],Si,#v[]]
 have fl:Flt (KK w.params) mg cA.cf 28 (pf w.params 28).code (aX Fn):=#[#v[],fi,mg_of X G (v:= .ref 31) #v[],#v[]];have Ya:MM (KK w.params) mg 1083 (pf w.params 1083).code (aX Ia):=
  #[#[fq Ia,cR Ia,_,_,_,_,_,_,_,_,_,_,_,_,_,_,_,_,Ot (st:=Ia) #v[] #v[],#v[],Fa (ps:= [()]) λ_=>rfl,rfl],Sj,rfl,mg_of X G (v:= .ref 1083) #v[],#v[]]
 exact {T:=gt,C:=ct,FT:=fl,FN:=Ya,Bm:=mg_of X G (v:= .ref 171) #v[],fn:=by unfold fns;repeat (first | refine List.forall_mem_cons.2 #[#[_,PY X G],?_] | exact List.forall_mem_nil _),mq:=#[251,_,int_at X G],kC:=#[361,_,int_at X G],o9:=#[368,_,ph fA],rW:=#[375,_,ph fA],rX:=#[382,_,ph fA],nU:=#[389,_,ph fA],rY:=#[396,_,ph fA],jK:=#[403,_,ph fA],iC:=#[410,_,ph fA],kD:=#[417,_,ph fA],gW:=#[105,_,int_at X G],iE:=#[126,_,int_at X G],jb:=#[147,_,int_at X G],o_:=#[168,_,int_at X G],jL:=#[189,_,int_at X G],jM:=#[210,_,int_at X G],kE:=#[806,_,int_at X G],nV:=#[905,_,int_at X G],kF:=#[945,_,int_at X G],kG:=#[924,_,int_at X G]}
end
set_option hygiene false
local macro_rules | `(tactic| walk_at "r1")=> `(tactic| first | (exists rfl,?_) | (exists _,rfl,?_) | (exists _,_,rfl,rfl,?_) | (exists _,_,rfl,?_) | (exists _,_,rfl,by assumption,?_) | (exists _,_,_,rfl,by assumption,?_) | (exists _,_,_,_,rfl,by assumption,?_) | (exists _,_,_,_,_,rfl,by assumption,Lot.CT.tok (by assumption),Lot.CT.Ka (by assumption) _ (by decide),rfl,?_))
local macro_rules | `(tactic| walk_at "rd")=> `(tactic| repeat (walk_at "r1"))
local macro_rules | `(tactic| walk_at "k")=> `(tactic| first | (exists ?_,?_;(with_reducible exact Lot.CT.ex ‹_›);exact Lot.CT.R7 ‹_› _ (by decide)) | (exists ?_,?_;(with_reducible exact Lot.CT.tok ‹_›);exact Lot.CT.Ka ‹_› _ (by decide)) | (exists ?_,?_;(with_reducible exact Lot.CT.rd ‹_›);exact Lot.CT.R6 ‹_› _ (by decide)) | (exists ?_,?_;(with_reducible exact Lot.CT.call ‹_›);exact Lot.CT.Kg ‹_› _ (by decide)) | (exists ?_,?_;(with_reducible exact Lot.CT.mj ‹_›);exact Lot.CT.Kb ‹_› _ (by decide)) | (exists ?_,?_;(with_reducible exact Lot.CT.fn ‹_›);exact Lot.CT.R9 ‹_› _ (by decide)) | (exists ?_,?_;(with_reducible exact Lot.CT.prog ‹_›);exact Lot.CT.Ke ‹_› _ (by decide)) | (exists ?_,?_;(with_reducible exact Lot.CT.par ‹_›);exact Lot.CT.Oi ‹_› _ (by decide)) | (exists ?_,?_;(with_reducible exact Lot.CT.obs ‹_›);exact Lot.CT.Ol ‹_› _ (by decide)) | (exists ?_,?_;(with_reducible exact Lot.CT.GV ‹_›);exact Lot.CT.Oo ‹_› _ (by decide)) | (exists ?_,?_;(with_reducible exact Lot.CT.ld ‹_›);exact Lot.CT.Sa ‹_› _ (by decide)) | (exists ?_,?_;(with_reducible exact Lot.CT.hold ‹_›);exact Lot.CT.Ki ‹_› _ (by decide)))
local macro_rules | `(tactic| walk_at "b")=> `(tactic| exact λ_ _ _ _ _ _=>Fa (by (repeat intro _);rfl))
local macro_rules | `(tactic| walk_at "f")=> `(tactic| exact ⟨rfl,rfl,rfl,by decide+kernel,rfl,by decide+kernel,by decide+kernel⟩)
local macro_rules | `(tactic| walk_at "l")=> `(tactic| (intro vs H Q E h;cases (h);exact (bq List.length ‹vs=_›).trans rfl))
local macro_rules | `(tactic| walk_at "m")=> `(tactic| first | exact Lot.GT.N' (by assumption) | exact Lot.GT.ui (by assumption) | exact Lot.GT.Oa (by assumption) | exact Lot.GT.Ob (by assumption) | exact Lot.GT.Oc (by assumption) | exact Lot.GT.Od (by assumption) | exact Lot.GT.Oe (by assumption) | exact Lot.GT.Of (by assumption) | exact Lot.GT.J_ (by assumption) | exact Lot.GT.J' (by assumption) | exact Lot.GT.Og (by assumption) | exact Lot.GT.w_ (by assumption) | exact Lot.GT.G5 (by assumption))
local macro_rules | `(tactic| walk_at "s")=> `(tactic| repeat (first | (guard_target=PE _ _ _;first | (guard_target=PE _ (.Name _ _) _;first | exact pv 0 | exact pv 1 | exact pv 2 | exact pv 3 | exact pv 4 | exact pv 5 | exact pv 6 | exact pv 7 | exact pv 8 | exact pv 9) | (guard_target=PE _ (.Attribute _ _ _) _;refine' b_ ?_;rotate_left) | (guard_target=PE _ (.Constant _ _ _) _;first | exact wg | exact wj | exact O6 | exact C8) | (guard_target=PE _ (.List _ _) _;refine' E3 ?_;rotate_left) | (guard_target=PE _ (.Tuple _ _ _) _;refine' E2 ?_;rotate_left) | (guard_target=PE _ (.IfExp _ _ _ _) _;refine' Jp ?_ ?_ ?_;rotate_left 3)) | (guard_target=PA _ _ _;first | (guard_target=PA _ [_] _;refine' pU ?_;rotate_left) | (guard_target=PA _ (_ :: _) _;refine' aH ?_ ?_;rotate_left 2) | exact yH) | (guard_target=tR _ _ _;first | (guard_target=tR _ [_] _;refine' yc ?_;rotate_left) | (guard_target=tR _ (_ :: _) _;refine' tV ?_ ?_;rotate_left 2) | (guard_target=tR _ [] _;exact Gk)) | (guard_target=PT _ _ _;first | (guard_target=PT _ (.Attribute _ _ _) _;refine' yT ?_;rotate_left) | (guard_target=PT _ (.Name _ _) _;refine' yT ?_;rotate_left) | (guard_target=PT _ (.UnaryOp _ _ _) _;refine' O7 ?_;rotate_left) | (guard_target=PT _ (.BoolOp .Or _ _) _;refine' PW.pt (pw_or ?_ ?_);rotate_left 2) | (guard_target=PT _ (.BoolOp .And _ _) _;refine' PW.pt (pw_and ?_ ?_);rotate_left 2)) | (guard_target=PS _ _ _;first | (guard_target=PS _ (.Expr _ _) _;refine' Mh ?_;rotate_left) | (guard_target=PS _ (.If _ _ [] _) _;refine' iF ?_ ?_;rotate_left 2) | (guard_target=PS _ (.If _ _ _ _) _;refine' NX ?_ ?_ ?_;rotate_left 3) | (guard_target=PS _ (.Raise _ _ _) _;refine' JT ?_;rotate_left) | (guard_target=PS _ (.Assign [.Attribute _ _ _] _ _) _;refine' Pj ?_ ?_;rotate_left 2) | (guard_target=PS _ (.For _ _ _ _ _) _;refine' O_ ?_ ?_ ?_;rotate_left 3) | (guard_target=PS _ (.While _ _ _ _) _;refine' Jq ?_ ?_;rotate_left 2)) | (guard_target=PW _ _ _;first | (guard_target=PW _ (.BoolOp .Or [_] _) _;refine' pw_or1 ?_;rotate_left) | (guard_target=PW _ (.BoolOp .Or _ _) _;refine' pw_or ?_ ?_;rotate_left 2) | (guard_target=PW _ (.BoolOp .And [_] _) _;refine' pw_and1 ?_;rotate_left) | (guard_target=PW _ (.BoolOp .And _ _) _;refine' pw_and ?_ ?_;rotate_left 2)) | (guard_target=TE;rotate_left) | (guard_target=TA;rotate_left) | (guard_target=TS;rotate_left) | (guard_target=TT;rotate_left) | (guard_target=TI;rotate_left) | (guard_target=TG;rotate_left) | (guard_target=Qy;rotate_left)))
local macro_rules | `(tactic| exact_mod_cast $h)=> `(tactic| first | (guard_target=PS _ (.Return _ _) _;first | refine' $h | (refine' sJ ?_;rotate_left;walk_at "s";exact_mod_cast $h)) | (guard_target=PT _ (.Compare _ _ _ _) _;refine' $h) | (guard_target=PT _ _ _;first | refine' $h | (refine' yT ?_;rotate_left;walk_at "s";exact_mod_cast $h)) | refine' $h)
local macro_rules | `(tactic| exact_mod_cast $f:ident $x:ident)=> `(tactic| first | (guard_target=PS _ (.Return _ _) _;refine' sJ ?_;rotate_left;walk_at "s";exact_mod_cast $f $x) | (guard_target=PT _ (.Compare _ _ _ _) _;refine' $f $x) | (guard_target=PT _ _ _;refine' yT ?_;rotate_left;walk_at "s";exact_mod_cast $f $x) | (guard_target=PE _ (.Name _ _) _;exact $f $x) | (guard_target=PE _ (.Call (.Name _ _) _ _ _) _;refine' $f $x ?_;rotate_left) | refine' $f $x ?_ ?_;rotate_left 2)
local macro_rules | `(tactic| exact_mod_cast $h:ident)=> `(tactic| first | (guard_target=PS _ (.Return _ _) _;refine' sJ ?_;rotate_left;walk_at "s";exact_mod_cast $h) | (guard_target=PT _ (.Compare _ _ _ _) _;refine' gF $h ?_ ?_;rotate_left 2) | (guard_target=PT _ _ _;refine' yT ?_;rotate_left;walk_at "s";exact_mod_cast $h) | (guard_target=PI _ _ _ _;refine' $h ?_;rotate_left) | (guard_target=PE _ (.Name _ _) _;exact R4 $h) | (guard_target=PE _ (.BinOp _ _ _ _) _;refine' yB $h ?_ ?_;rotate_left 2) | (guard_target=PE _ (.Compare _ _ _ _) _;refine' Gs $h ?_ ?_;rotate_left 2) | (guard_target=PE _ (.Subscript _ _ _) _;refine' N5 $h ?_ ?_;rotate_left 2) | (guard_target=PE _ (.Call (.Name _ _) _ _ _) _;refine' dw ($h AA) ?_;rotate_left) | (guard_target=PE _ (.Call _ [] _ _) _;refine' PQ ?_ ($h AA);rotate_left) | (guard_target=PE _ (.Call _ _ _ _) _;refine' RY ?_ ($h AA) ?_;rotate_left 2) | exact $h)
local macro_rules | `(tactic| exact_mod_cast $n:num)=> `(tactic| first | (guard_target=PG _ _ _;exact bL $n) | (guard_target=PS _ (.Assign _ _ _) _;refine' BP $n ?_;rotate_left) | (guard_target=PS _ (.AugAssign _ _ _ _) _;refine' BQ $n ?_ ?_;rotate_left 2))
local macro_rules | `(tactic| exact_mod_cast 2)=> `(tactic| first | (guard_target=tR _ _ _;refine' tV ?_ ?_;rotate_left 2) | (guard_target=PG _ _ _;exact bL 2) | (guard_target=PS _ (.Assign _ _ _) _;refine' BP 2 ?_;rotate_left) | (guard_target=PS _ (.AugAssign _ _ _ _) _;refine' BQ 2 ?_ ?_;rotate_left 2))
local macro_rules | `(tactic| exact_mod_cast 1)=> `(tactic| first | (guard_target=tR _ _ _;refine' yc ?_;rotate_left) | (guard_target=PS _ (.Return _ _) _;refine' rF ?_;rotate_left) | (guard_target=PG _ _ _;exact bL 1) | (guard_target=PS _ (.Assign _ _ _) _;refine' BP 1 ?_;rotate_left) | (guard_target=PS _ (.AugAssign _ _ _ _) _;refine' BQ 1 ?_ ?_;rotate_left 2))
local macro_rules | `(tactic| exact_mod_cast 0)=> `(tactic| first | (guard_target=PS _ (.Return _ _) _;refine' sJ ?_;rotate_left) | (guard_target=PT _ _ _;refine' yT ?_;rotate_left) | (guard_target=PE _ _ _;refine' di ?_;rotate_left) | (guard_target=PG _ _ _;exact bL 0) | (guard_target=PS _ (.Assign _ _ _) _;refine' BP 0 ?_;rotate_left) | (guard_target=PS _ (.AugAssign _ _ _ _) _;refine' BQ 0 ?_ ?_;rotate_left 2))
local macro_rules | `(tactic| nomatch $hs,*)=> `(tactic| (exists _,by ($[(exact_mod_cast $hs;walk_at "s")];*),?_;try dsimp only [jG,Cx.ER]))
local macro_rules | `(tactic| nomatch $n)=> `(tactic| first | refine AA.n0 (N:= $n) λT C FT H Q E nN hr h=>?_ | refine AA.nF (N:= $n) λT C FT H Q E nN hr h=>?_)
local macro_rules | `(#v[0])=> `(Frag->Cl->List V->Hp->VK->XK->Prop)
set_option hygiene true
variable (AA:k8 P w K mg base c g fI EG EH fN L3 L4)
inductive xc: #v[0] | mk {K c vs H Q E:_} (lo hi:Int):vs= [.int lo,.int hi]->(∀p,H p=none->Q (.ref p) (upd H p (.tup (kT (.num lo hi)))))->xc K c vs H Q E
theorem xf:AA.h0 1 "num_kind" ["low","high"] xc:=by
 nomatch ["low","high"]
 ext h lo hi rfl q;nomatch 1,T.jJ
 walk_at "rd";exists kg,q
inductive za: #v[0] | mk {K c vs H Q E:_} a k:vs= [.ref a]->g9 K H a (kT k)->Q (.int (DG k)) H->za K c vs H Q E
theorem hJ:AA.h0 1 "sort_of" ["kind"] za:=by
 nomatch ["kind"]
 ext h a k rfl hk q;nomatch 1,gG
 exists a,_,_,_,U,U,hk,Vt k,q
inductive Bp: #v[0] | mk {K c vs H Q E:_} a lo hi:vs= [.ref a]->g9 K H a (kT (.num lo hi))->Q (.int lo) H->Bp K c vs H Q E
theorem eF:AA.h0 1 "low_of" ["kind"] Bp:=by
 nomatch ["kind"]
 ext h a lo hi rfl hk q;nomatch 1,gG
 exists a,_,_,_,U,U,hk,U,q
inductive zb: #v[0] | mk {K c vs H Q E:_} a lo hi:vs= [.ref a]->g9 K H a (kT (.num lo hi))->Q (.int hi) H->zb K c vs H Q E
theorem dO:AA.h0 1 "high_of" ["kind"] zb:=by
 nomatch ["kind"]
 ext h a lo hi rfl hk q;nomatch 1,gG
 exists a,_,_,_,U,U,hk,U,q
inductive uk: #v[0] | mk {K c vs H Q E:_} a k z pl:vs= [.ref a,.int z,.int (pl:Nat)]->g9 K H a (kT k)->(DG k=z->Q .cx H)->(DG k≠z->jI c.cf E H #[8,pl])->uk K c vs H Q E
theorem gK:AA.hF 4 "need_sort" ["kind","sort","place"] uk:=by
 nomatch ["kind","sort","place"]
 ext h a k z pl rfl hk q1 q2;nomatch 1,A5,hJ
 walk_at "rd";refine bG (λe=>?_) λe=>?_
 . exists _,_,U,(q2 (~~~e)).go (aq.refl _)
 . exact q1 (~~~e)
inductive nW: #v[0] | mk {K c vs H Q E:_} a b k l pl:vs= [.ref a,.ref b,.int (pl:Nat)]->g9 K H a (kT k)->g9 K H b (kT l)->aN c.cf E H (Vaprbb.held k l pl) (λ_=>Q .cx H)->nW K c vs H Q E
theorem iX:AA.hF 5 "hold_against" ["kind","wanted","place"] nW:=by
 nomatch ["kind","wanted","place"]
 ext h a b k l pl rfl hk hl q;nomatch 2,gK,hJ,bJ,hJ,T.jJ,eV,eF,eF,iz,dO,dO
 walk_at "rd";all_goals intro e
 . cases k <;> cases l <;> first | cases e | skip
   . walk_at "rd";exact q
   . rename_i a1 b1 a2 b2;walk_at "rd";refine bG (λe=>?_) λe=>?_
     . walk_at "rd";rw [y6,ae (by simp at e;lia)] at q;exact jI.go q (aq.refl _)
     . walk_at "rd";refine bG (λe'=>?_) λe'=>?_
       . walk_at "rd";rw [y6,ae (by simp at e';lia)] at q;exact jI.go q (aq.refl _)
       . rw [y6,ah (by simp at e e';lia)] at q;exact q
 . have z:Vaprbb.held k l pl= .error #[8,pl]:=by
    unfold Vaprbb.held;rw [wH,ah (~~~e)]
   rw [z] at q;exact q
inductive pj: #v[0] | mk {K c vs H Q E:_} a b t u bt bu:vs= [.ref a,.ref b]->y8 c H a t bt->y8 c H b u bu->aN c.cf E H (if numOf t.tok < -1000\/1000 < numOf t.tok then .error #[7,t.place] else if numOf u.tok < numOf t.tok\/1000 < numOf u.tok\/numOf t.tok+63 < numOf u.tok then .error #[7,u.place] else .ok ()) (λ_=> ∀p,H p=none->Q (.ref p) (upd H p (.tup (kT (.num (numOf t.tok) (numOf u.tok))))))->pj K c vs H Q E
theorem pk:AA.hF 4 "bounded_num" ["low","high"] pj:=by
 nomatch ["low","high"]
 ext h a b t u bt bu rfl ⟨da,ha⟩ ⟨db,hb⟩ q;nomatch 2,eV,T.Ca,iz,T.ng,eV,iz,T.ng,iz,jF,T.yV,xf
 walk_at "rd";refine bG (λe=>?_) λe=>?_
 . walk_at "rd";rw [ah (.inl (~~~e))] at q;exact jI.go q (aq.refl _)
 walk_at "rd";refine bG (λe1=>?_) λe1=>?_
 . walk_at "rd";rw [ah (.inr (~~~e1))] at q;exact jI.go q (aq.refl _)
 rw [ae (by simp at e e1;lia)] at q;walk_at "rd";refine bG (λe2=>?_) λe2=>?_
 . walk_at "rd";rw [ah (.inl (~~~e2))] at q;exact jI.go q (aq.refl _)
 walk_at "rd";refine bG (λe3=>?_) λe3=>?_
 . walk_at "rd";rw [ah (.inr (.inl (~~~e3)))] at q;exact jI.go q (aq.refl _)
 walk_at "rd";refine bG (λe4=>?_) λe4=>?_
 . walk_at "rd";rw [ah (.inr (.inr (by simp at e4;lia)))] at q;exact jI.go q (aq.refl _)
 rw [ae (by simp at e2 e3 e4;lia)] at q;walk_at "rd";exact q
inductive pq: #v[0] | mk {K c vs H Q E:_} lo hi pl:vs= [.int lo,.int hi,.int (pl:Nat)]->aN c.cf E H (Vaprbb.numKind pl lo hi) (λk=> ∀p,H p=none->Q (.ref p) (upd H p (.tup (kT k))))->pq K c vs H Q E
theorem jN:AA.hF 4 "fitting_num" ["low","high","place"] pq:=by
 nomatch ["low","high","place"]
 ext h lo hi pl rfl q;nomatch 2,eV,T.Ca,iz,T.ng,iz,jF,T.yV,xf
 rw [gf] at q;walk_at "rd";refine bG (λe=>?_) λe=>?_
 . walk_at "rd";rw [ah (.inl (~~~e))] at q;exact jI.go q (aq.refl _)
 walk_at "rd";refine bG (λe1=>?_) λe1=>?_
 . walk_at "rd";rw [ah (.inr (.inl (~~~e1)))] at q;exact jI.go q (aq.refl _)
 walk_at "rd";refine bG (λe2=>?_) λe2=>?_
 . walk_at "rd";rw [ah (.inr (.inr (by simp at e2;lia)))] at q;exact jI.go q (aq.refl _)
 rw [ae (by simp at e e1 e2;lia)] at q;walk_at "rd";exact q
def txt (b:Bytes):List V:=b.map λx=>V.int (x.toNat:Nat)
def cD (b:Bytes):(txt b).length=b.length:=by simp [txt]
def iY (h:b[j]? = some x):E5 (txt b) (j:Int)=some (.int (x.toNat:Nat)):=BV (by simp [txt,h])
theorem yk {r:Bytes} (h:b.drop j=x :: r):b[j]? = some x/\b.drop (j+1)=r/\j < b.length:=by
 have h1:(b.drop j)[0]? = some x:=by rw [h];rfl
 rw [qH] at h1;exists ~~~h1,?_,?_
 . have:(b.drop j).drop 1=r:=by rw [h];rfl
   rw [fR] at this;exact this
 . by_cases q:j < b.length
   . exact q
   . rw [jy (by lia)] at h;cases h
def ul (h:b[j]? = some x):b.drop j=x :: b.drop (j+1):=by
 obtain ⟨hl,e⟩:=bj.mp h;rw [vz hl,e]
def Bq (h:j < b.length):∃x,b[j]? = some x:=#[b[j],bB h]
def ls (p:UInt8->Bool) (b:Bytes) (j:Nat):Nat:=j+((b.drop j).takeWhile p).length
theorem pz {p:UInt8->Bool} (h:b[j]? = some x) (hp:p x=true):ls p b j=ls p b (j+1):=by
 unfold ls;rw [ul h,oJ hp,aT];lia
def zc {p:UInt8->Bool} (h:b[j]? = some x) (hp:p x=false):ls p b j=j:=by
 unfold ls;rw [ul h,AH (by rw [hp];exact aO)];rfl
def Cg {p:UInt8->Bool} (h:b.length<=j):ls p b j=j:=by
 unfold ls;rw [jy h];rfl
theorem Kl {p:UInt8->Bool} (h:j<=b.length):ls p b j<=b.length:=by
 unfold ls;have:=(AU p (l:=b.drop j)).length_le;rw [cS] at this;lia
theorem Fp (x:UInt8):isDigit x=(decide ((48:Int)<=(x.toNat:Int)) && decide ((x.toNat:Int) < 48+10)):=by
 unfold isDigit;rw [b8,c5];simp only [dr];omega
def um (x:UInt8):Bool:=decide (65<=x.toNat/\x.toNat<=90)
def isSmall (x:UInt8):Bool:=decide (97<=x.toNat/\x.toNat<=122)
def xg (x:UInt8):isLetter x=(um x || isSmall x):=rfl
theorem Fq (x:UInt8):um x=(decide ((65:Int)<=(x.toNat:Int)) && decide ((x.toNat:Int) < 65+26)):=by
 unfold um;rw [b8,c5];simp only [dr];omega
theorem Fs (x:UInt8):isSmall x=(decide ((97:Int)<=(x.toNat:Int)) && decide ((x.toNat:Int) < 97+26)):=by
 unfold isSmall;rw [b8,c5];simp only [dr];omega
def Ig:∀j:Nat,j < 10->E5 (Str.ofString "0123456789").cps.toList (j:Int)=some (48+j):=∅
def Ih:∀j:Nat,j < 26->E5 (Str.ofString "ABCDEFGHIJKLMNOPQRSTUVWXYZ").cps.toList (j:Int)=some (65+j):=∅
def Ii:∀j:Nat,j < 26->E5 (Str.ofString "abcdefghijklmnopqrstuvwxyz").cps.toList (j:Int)=some (97+j):=∅
inductive gL: #v[0] | mk {K c vs H Q E:_} x dx v1 v2 v3 v4 v5:vs= [.ref x,v1,v2,v3,v4,v5]->H x=some (.ins c.tok dx [])->(∀H':Hp,H' x=some (.ins c.tok dx [("form",v1),("word",v2),("number",v3),("place",v4),("behind",v5)])->(∀b o,H b=some o->b≠x->H' b=some o)->Q .cx H')->gL K c vs H Q E
def dJ:AA.c0 1 c.tok "Token" ["self","form","word","number","place","behind"] gL:=by
 refine AA.i0 AA.mq (N:= ["self","form","word","number","place","behind"]) λT C FT H Q E nN hr h=>?_;ext h x dx v1 v2 v3 v4 v5 rfl hx k;nomatch 2
 refine fw hx ?_;refine fw aa ?_;refine fw aa ?_;refine fw aa ?_;refine fw aa ?_;exact k _ aa λb o e ne=>by rw [aA ne,aA ne,aA ne,aA ne,aA ne];exact e
def uo (k:∀x H',H x=none->aq H H'->(∃dx,H' x=some (.ins c.tok dx [("form",v1),("word",v2),("number",v3),("place",v4),("behind",v5)]))->Q (.ref x) H'):
 ∀x dx,H x=none->H dx=none->dx≠x->gL K c (.ref x :: ([v1,v2,v3,v4,v5]++ [])) (upd (upd H dx (.own x)) x (.ins c.tok dx [])) (λv H2=>v= .cx/\Q (.ref x) H2) E:=
 λx dx nx nd _=>#[x,dx,v1,v2,v3,v4,v5,rfl,aa,λH' e kp=>#[rfl,k x H' nx (aq.made nx nd kp) #[dx,e]]]
inductive xh: #v[0] | mk {K c vs H Q E:_} (x:UInt8):vs= [.int (x.toNat:Nat)]->Q (.bl (isDigit x)) H->xh K c vs H Q E
theorem iG:AA.h0 1 "is_digit" ["byte"] xh:=by
 nomatch ["byte"]
 ext h x rfl q;nomatch 1,BL ?_ ?_,Gr,T.wE,wm ?_,eV,dZ,T.wE,aM m6,iB T.yW
 rw [Fp] at q;walk_at "rd";refine bG (λe=>?_) λe=>?_
 . rw [e] at q;exists _,U,dn U,_,_,U,U,_,_,U,U,q
 . rw [e] at q;exact q
inductive jO: #v[0] | mk {K c vs H Q E:_} (x:UInt8):vs= [.int (x.toNat:Nat)]->Q (.bl (um x)) H->jO K c vs H Q E
theorem jP:AA.h0 1 "is_great_letter" ["byte"] jO:=by
 nomatch ["byte"]
 ext h x rfl q;nomatch 1,BL ?_ ?_,Gr,T.rj,wm ?_,eV,dZ,T.rj,aM m6,iB T.iV
 rw [Fq] at q;walk_at "rd";refine bG (λe=>?_) λe=>?_
 . rw [e] at q;exists _,U,dn U,_,_,U,U,_,_,U,U,q
 . rw [e] at q;exact q
inductive jQ: #v[0] | mk {K c vs H Q E:_} (x:UInt8):vs= [.int (x.toNat:Nat)]->Q (.bl (isSmall x)) H->jQ K c vs H Q E
theorem sV:AA.h0 1 "is_small_letter" ["byte"] jQ:=by
 nomatch ["byte"]
 ext h x rfl q;nomatch 1,BL ?_ ?_,Gr,T.rl,wm ?_,eV,dZ,T.rl,aM m6,iB T.iW
 rw [Fs] at q;walk_at "rd";refine bG (λe=>?_) λe=>?_
 . rw [e] at q;exists _,U,dn U,_,_,U,U,_,_,U,U,q
 . rw [e] at q;exact q
inductive ur: #v[0] | mk {K c vs H Q E:_} (x:UInt8):vs= [.int (x.toNat:Nat)]->Q (.bl (isLetter x)) H->ur K c vs H Q E
theorem uv:AA.h0 2 "is_letter" ["byte"] ur:=by
 nomatch ["byte"]
 ext h x rfl q;nomatch 1,Gj ?_ ?_,jP,wm ?_,sV
 rw [xg] at q;exists x,U,_,U,bG (λe=>?_) λe=>?_
 . rw [e] at q;exact q
 . rw [e] at q;exists x,U,q
inductive nY: #v[0] | mk {K c vs H Q E:_} (x:UInt8):vs= [.int (x.toNat:Nat)]->(isLetter x || isDigit x)=true->Q (.str ⟨(List.toArray [x.toNat])⟩) H->nY K c vs H Q E
theorem xV:AA.h0 2 "sign_of_byte" ["byte"] nY:=by
 nomatch ["byte"]
 ext h x rfl hx q;nomatch 2,iG,E6,iB T.yW,jF,T.wE,jP,E6,iB T.iV,jF,T.rj,E6,iB T.iW,jF,T.rl
 have at_:∀(n m:Nat) (hx:n<=x.toNat) (z:Str) (hz:∀j:Nat,j < m->E5 z.cps.toList (j:Int)=some (n+j)) (hm:x.toNat < n+m),E5 z.cps.toList ((x.toNat:Nat) - (n:Nat):Int)=some x.toNat:=λn m hx z hz hm=>by
  have e:((x.toNat:Nat) - (n:Nat):Int)=((x.toNat - n:Nat):Int):=by lia
  rw [e,hz _ (by lia)];congr 1;lia
 exists x,U,_,U,bG (λe=>?_) λe=>?_
 . have e:48<=x.toNat/\x.toNat<=57:=by simpa [isDigit] using e
   exists _,_,U,U,_,_,_,U,U,dn U,at_ 48 10 e.1 _ Ig (by lia),q
 exists x,U,_,U,bG (λe1=>?_) λe1=>?_
 . have e1:65<=x.toNat/\x.toNat<=90:=by simpa [um] using e1
   exists _,_,U,U,_,_,_,U,U,dn U,at_ 65 26 e1.1 _ Ih (by lia),q
 . rw [xg,e,e1,ir,jB] at hx;have e2:97<=x.toNat/\x.toNat<=122:=by simpa [isSmall] using hx
   exists _,_,U,U,_,_,_,U,U,dn U,at_ 97 26 e2.1 _ Ii (by lia),q
inductive zf: #v[0] | mk {K c vs H Q E:_} a b j:vs= [.ref a,.int (j:Nat)]->cw K H a (txt b)->j<=b.length->Q (.int (ls (· != 10) b j:Nat)) H->zf K c vs H Q E
theorem Ft:AA.h0 1 "row_end" ["text","start"] zf:=by
 nomatch ["text","start","place"]
 ext h a b j rfl ht hj q;nomatch 2,2,eV,aM aJ,A5,bR,T.Bk,2,sK,0
 exists λm Z H'=> ∃i:Nat,Z= [some (.ref a),some (.int (j:Nat)),some (.int (i:Nat))]/\H'=H/\i<=b.length/\m=b.length - i/\ls (· != 10) b i=ls (· != 10) b j,#[_,j,U,U,hj,U,U],?_;rintro m Z H' ⟨i,rfl,rfl,hi,rfl,e⟩;exists a,_,U,.inl ht,_,_,U,U,_,U,bG (λe1=>?_) λe1=>?_
 . have iU:i < b.length:=by simpa [cD] using e1
   obtain ⟨x,hx⟩:=Bq iU;exists a,_,_,_,U,U,ht,iY hx,U,_,U,bG (λe2=>?_) λe2=>?_
   . have k7:(x != 10)=true:=by
      have:¬(x.toNat:Int)=10:= ~~~e2
      rw [bne_iff_ne];intro z;subst z;exact this rfl
     refine dI ?_;exists _,_,U,U,_,by lia,i+1,U,U,iU,U,(pz hx k7).symm.trans e
   . have heq:(x != 10)=false:=by
      have:(x.toNat:Int)=10:= ~~~e2
      have:x=10:=by apply eA;show x.toNat=10;lia
      subst this;rfl
     rw [<-e,zc hx heq] at q;exact q
 . have hge:b.length<=i:=by simpa [cD] using e1
   rw [<-e,Cg hge] at q;exact q
theorem sW {g:TG} (Rel:Nat->V->Hp->Prop) (hm:∀i y H H',bW c H H'->Rel i y H->Rel i y H') (hD:H1 D=none) (ha:cw K H1 a xs) (hz:xs.length<=sizeLine) (hs:∀i x H (R:VK),xs[i]? = some x->aq H1 H->(∀y H',aq H H'->Rel i y H'->R y H')->g x (wipe Z vs) H λZ2 H2=>wipe Z2 vs=wipe Z vs/\te Z2 H2 R) (hd:∀H ys,aq H1 H->H D=some (.lst ys)->ys.length=xs.length->(∀(i:Nat) y,ys[i]? = some y->Rel i y H)->Qd H):
 ∃W:Nat->Nat->Hp->Prop,(∃m,W 0 m (upd H1 D (.lst [])))/\∀i m H,W i m H->
  ((C9 K a).stop i H/\Qd H)\/((C9 K a).go i H/\∃Nx:Hp->Prop,(∀H',Nx H'->∃m',m' < m/\W (i+1) m' H')/\∀x H',(C9 K a).ED i H x H'->g x (wipe Z vs) H' λZ2 H2=>wipe Z2 vs=wipe Z vs/\HL Z2 H2 λb H3=>
   if b=true then te Z2 H3 λy H4=> ∃acc,H4 D=some (.lst acc)/\acc.length < sizeLine/\Nx (upd H4 D (.lst (acc++ [y]))) else Nx H3):=by
 refine B5 (K:=K) (a:=a) (xs:=xs) (λi H=>aq H1 H/\∃ys,H D=some (.lst ys)/\ys.length=i/\∀(k:Nat) y,ys[k]? = some y->Rel k y H) #[aq.upd hD,[],aa,rfl,λk y e=>by simp at e] (λi H _ p=>p.1.seq ha) ?_ ?_
 . rintro i x H hi ⟨s1,ys,hy,hl,hr⟩;have iU:i < xs.length:=(bj.mp hi).1;have:=hs i x H (λy H4=> ∃acc,H4 D=some (.lst acc)/\acc.length < sizeLine/\(aq H1 (upd H4 D (.lst (acc++ [y])))/\∃ys,upd H4 D (.lst (acc++ [y])) D=some (.lst ys)/\ys.length=i+1/\∀(k:Nat) y',ys[k]? = some y'->Rel k y' (upd H4 D (.lst (acc++ [y]))))) hi s1 λy H' s2 r=>?_
   . exact this
   . have e':=s2 D _ hy;have im:bW c H' (upd H' D (.lst (ys++ [y]))):=bW.upd e' rfl;exists ys,e',by lia,(s1.trans s2).bM hD,_,aa,by rw [ao,hl];rfl,λk y' e=>?_;by_cases hk:k < ys.length
     . rw [vy hk] at e;exact hm k y' _ _ im (hm k y' _ _ s2.Y (hr k y' e))
     . rw [vt (by lia)] at e;have hk2:k=i:=by
        have:=(bj.mp e).1;simp at this;lia
       subst hk2;rw [hl,v9] at e;cases e;exact hm k y _ _ im r
 . rintro H ⟨s1,ys,hy,hl,hr⟩;exact hd H ys s1 hy hl hr
theorem jR {g:TG} (ys:List V) (Vs:ys.length=xs.length) (hD:H1 D=none) (ha:cw K H1 a xs) (hz:xs.length<=sizeLine) (hs:∀(i:Nat) x y H (R:VK),xs[i]? = some x->ys[i]? = some y->aq H1 H->(∀H',aq H H'->R y H')->g x (wipe Z vs) H λZ2 H2=>wipe Z2 vs=wipe Z vs/\te Z2 H2 R) (hd:∀H,aq H1 H->H D=some (.lst ys)->Qd H):
 ∃W:Nat->Nat->Hp->Prop,(∃m,W 0 m (upd H1 D (.lst [])))/\∀i m H,W i m H->
  ((C9 K a).stop i H/\Qd H)\/((C9 K a).go i H/\∃Nx:Hp->Prop,(∀H',Nx H'->∃m',m' < m/\W (i+1) m' H')/\∀x H',(C9 K a).ED i H x H'->g x (wipe Z vs) H' λZ2 H2=>wipe Z2 vs=wipe Z vs/\HL Z2 H2 λb H3=>
   if b=true then te Z2 H3 λy H4=> ∃acc,H4 D=some (.lst acc)/\acc.length < sizeLine/\Nx (upd H4 D (.lst (acc++ [y]))) else Nx H3):=by
 refine sW (c:=#[0,0,0,0,0,0,0,0,0,0,0,0,0]) (λi y _=>ys[i]? = some y) (λ_ _ _ _ _ z=>z) hD ha hz (λi x H R hi s1 k=>?_) λH zs s1 hz' hl hr=>?_
 . have iU:i < ys.length:=by rw [Vs];exact (bj.mp hi).1
   exact hs i x ys[i] H R hi (bB iU) s1 λH' s2=>k _ H' s2 (bB iU)
 . have e:zs=ys:=by
    apply List.ext_getElem?;intro i;cases q:zs[i]? with
    | some y=>exact (hr i y q).symm
    | none=>
     have:zs.length<=i:=oK.mp q;exact (oK.mpr (by lia)).symm
   subst e;exact hd H s1 hz'
theorem Ij (x:UInt8):inV (.int (x.toNat:Nat)) [.int 32,.int 9,.int 10]=isBlank x:=by
 have h:∀n:UInt8,((n.toNat:Int) == (x.toNat:Int))=(x == n):=λn=>by
  rw [b8,bO,bO];constructor
  . intro e;exact eA (by lia)
  . intro e;rw [e]
 show ((32:Int) == (x.toNat:Int) || ((9:Int) == (x.toNat:Int) || ((10:Int) == (x.toNat:Int) || false)))=(x == 32 || x == 9 || x == 10);have h1:=h 32;have h2:=h 9;have h3:=h 10;have e1:((32:UInt8).toNat:Int)=32:=rfl;have e2:((9:UInt8).toNat:Int)=9:=rfl;have e3:((10:UInt8).toNat:Int)=10:=rfl;rw [e1] at h1;rw [e2] at h2;rw [e3] at h3;rw [h1,h2,h3,ir,Bool.or_assoc]
def rZ (b:Bytes) (j:Nat):Except VaprbBase.Fault (VaprbBase.Tok×Nat):=match token (b.drop j) with
 | none=> .error #[2,j]
 | some x=> .ok x
def G6 (b:Bytes) (p:UInt8->Bool) (j:Nat) (hj:j<=b.length):ww (txt b) (some (j:Int)) (some (ls p b j:Nat))=txt ((b.drop j).takeWhile p):=by
 unfold ww;rw [HT.ya,HT.ya,cD,qT hj,qT (Kl hj)];unfold ls txt;rw [vD,<-List.map_drop,<-List.map_take];congr 1;exact (List.prefix_iff_eq_take.mp (AU p)).symm
def Fv {r:Bytes} (h:b.drop j=x :: r) (hx:isLetter x=true):
 rZ b j=if 16 < ls (λc=>isLetter c || isDigit c) b j - j then .error #[2,j] else .ok (.name ((b.drop j).takeWhile λc=>isLetter c || isDigit c),ls (λc=>isLetter c || isDigit c) b j - j):=by
 have e:token (b.drop j)=if 16 < ((b.drop j).takeWhile λc=>isLetter c || isDigit c).length then none else some (.name ((b.drop j).takeWhile λc=>isLetter c || isDigit c),((b.drop j).takeWhile λc=>isLetter c || isDigit c).length):=by
  rw [h];unfold token;simp only [hx,gn];rfl
 unfold rZ ls;rw [vD,e];by_cases hl:16 < ((b.drop j).takeWhile λc=>isLetter c || isDigit c).length
 . rw [ah hl,ah hl]
 . rw [ae hl,ae hl]
def DK {r:Bytes} (h:b.drop j=x :: r) (hx:isLetter x=false) (hd:isDigit x=true):
 rZ b j=match numberOf false ((b.drop j).takeWhile isDigit) with | none=> .error #[2,j] | some n=> .ok (.num n,ls isDigit b j - j):=by
 unfold rZ token ls;rw [vD,h];simp only [hx,hd,gn,qF,jt];cases numberOf false ((x :: r).takeWhile isDigit) <;> rfl
def DL {r:Bytes} (h:b.drop j=45 :: r):
 rZ b j=if r.head? = some 62 then .ok (.sign 1,2) else match numberOf true (r.takeWhile isDigit) with | none=> .error #[2,j] | some n=> .ok (.num n,(r.takeWhile isDigit).length+1):=by
 unfold rZ token;rw [h];have h1:isLetter 45=false:=∅
 have h2:isDigit 45=false:=∅
 simp only [h1,h2,qF,jt];rw [ah ∅];by_cases TJ:r.head? = some 62
 . rw [ah TJ,ah TJ]
 . rw [ae TJ,ae TJ];cases numberOf true (r.takeWhile isDigit) <;> rfl
def Fw {r:Bytes} (h:b.drop j=x :: r) (hx:isLetter x=false) (hd:isDigit x=false) (hm:x≠45):
 rZ b j=if SIGNS.contains x=true then .ok (.sign x.toNat,1) else .error #[2,j]:=by
 unfold rZ token;rw [h];simp only [hx,hd,qF,jt];rw [ae (~~~hm)];split <;> rename_i q <;> split at q <;> simp_all
theorem DM:∀(l:Bytes) (n:Nat),n<=l.foldl (λn b=>10 * n+(b.toNat - 48)) n
 | [],n=>az n
 | x :: r,n=>by
  rw [List.foldl_cons];have:=DM r (10 * n+(x.toNat - 48));lia
theorem DN {neg:Bool} {r:Bytes} (hx:isDigit x=true):
 numberOf neg (x :: r)=if (x=48/\(neg=true\/1 < (x :: r).length))\/10 < (x :: r).length\/1000000000 < decimal (x :: r) then none else some (if neg=true then -(decimal (x :: r):Int) else (decimal (x :: r):Int)):=by
 have hd:48<=x.toNat/\x.toNat<=57:=by simpa [isDigit] using hx
 have z0:decimal (x :: r)=0->x=48:=λe=>by
  have:=DM r (10 * 0+(x.toNat - 48));have e:r.foldl (λn b=>10 * n+(b.toNat - 48)) (10 * 0+(x.toNat - 48))=0:=e;exact eA (show x.toNat=48 by lia)
 have z1:x=48->(x :: r).length<=1->decimal (x :: r)=0:=λe l=>by
  cases r with
  | nil=>subst e;rfl
  | cons y s=>simp at l
 have key:((x :: r= []\/10 < (x :: r).length\/(1 < (x :: r).length/\(x :: r).head? = some 48))\/(1000000000 < decimal (x :: r)\/(neg=true/\decimal (x :: r)=0)))↔((x=48/\(neg=true\/1 < (x :: r).length))\/10 < (x :: r).length\/1000000000 < decimal (x :: r)):=by
  constructor
  . rintro ((h | h | ⟨h,h'⟩) | h | ⟨h,h'⟩)
    . cases h
    . exact .inr (.inl h)
    . exact .inl #[~~~h',.inr h]
    . exact .inr (.inr h)
    . exact .inl #[z0 h',.inl h]
  . rintro (⟨h,h' | h'⟩ | h | h)
    . by_cases q:1 < (x :: r).length
      . exact .inl (.inr (.inr #[q,by rw [h];rfl]))
      . exact .inr (.inr #[h',z1 h (by lia)])
    . exact .inl (.inr (.inr #[h',by rw [h];rfl]))
    . exact .inl (.inr (.inl h))
    . exact .inr (.inl h)
 unfold numberOf;by_cases A:(x :: r= []\/10 < (x :: r).length\/(1 < (x :: r).length/\(x :: r).head? = some 48))
 . rw [ah A,ah (key.mp (.inl A))]
 . rw [ae A];by_cases B:(1000000000 < decimal (x :: r)\/(neg=true/\decimal (x :: r)=0))
   . rw [ah (key.mp (.inr B))];exact ah B
   . rw [ae (λz=>(key.mpr z).elim A B)];exact ae B
inductive mv: #v[0] | mk {K c vs H Q E:_} a b j:vs= [.ref a,.int (j:Nat)]->cw K H a (txt b)->j<=b.length->(∀i:Nat,j<=i->i<=b.length->M0.o6 b i=M0.o6 b j->(∀x r,b.drop i=x :: r->isBlank x=false/\x≠35)->Q (.int (i:Nat)) H)->mv K c vs H Q E
theorem mw:AA.h0 2 "behind_blanks" ["text","start"] mv:=by
 nomatch ["text","start","place"]
 ext h a b j rfl ht hj q;nomatch 2,2,eV,aM aJ,eD,bR,fG T.DC,bJ,bR,T.Fe,bJ,bR,T.Fe,2,Ft,2,sK,0
 exists λm Z H'=> ∃i:Nat,Z= [some (.ref a),some (.int (j:Nat)),some (.int (i:Nat))]/\H'=H/\j<=i/\i<=b.length/\m=b.length - i/\M0.o6 b i=M0.o6 b j,#[_,j,U,U,az _,hj,U,U],?_;rintro m Z H' ⟨i,rfl,rfl,hji,hi,rfl,e⟩;exists a,_,U,.inl ht,_,_,U,U,_,U,bG (λe1=>?_) λe1=>?_
 . have iU:i < b.length:=by simpa [cD] using e1
   obtain ⟨x,hx⟩:=Bq iU;have hdr:=ul hx;have lx:=M0.GZ hdr;exists a,_,_,_,U,U,ht,iY hx,g.blanks,_,U,.inr (T.DE.sq _),U,U,_,U,?_;rw [ae aO,Ij];refine bG (λe2=>?_) λe2=>?_
   . refine dI ?_;exists a,_,_,_,U,U,ht,iY hx,U,_,U,?_;refine bG (λe3=>?_) λe3=>?_
     . exfalso;have:(x.toNat:Int)=35:= ~~~e3
       have:x=35:=eA (show x.toNat=35 by lia);subst this;exact absurd e2 ∅
     . rw [ah e2] at lx;exists _,_,U,U,_,by lia,i+1,U,U,by lia,iU,U,lx.symm.trans e
   . exists a,_,_,_,U,U,ht,iY hx,U,_,U,?_;refine bG (λe3=>?_) λe3=>?_
     . refine dI ?_;have:(x.toNat:Int)=35:= ~~~e3
       have Vu:x=35:=eA (show x.toNat=35 by lia);subst Vu;exists a,_,_,_,U,U,ht,iY hx,U,_,U,oY ?_;exists a,b,i,U,ht,hi,?_;have t1:=pz (p:=(· != 10)) hx ∅;have t2:i+1<=ls (· != 10) b (i+1):=dU _ _;have t3:=Kl (p:=(· != 10)) hi;rw [ae ∅,ah ∅] at lx;exists _,?_,ls (· != 10) b i,U,U,by lia,t3,U,?_
       . lia
       . rw [t1];exact lx.symm.trans e
     . have Vu:x≠35:=λz=>by subst z;exact absurd e3 ∅
       refine q i hji hi e λy r hy=>?_;rw [hdr] at hy;cases hy;exists e2,Vu
 . have hge:b.length<=i:=by simpa [cD] using e1
   refine q i hji hi e λy r hy=>?_;rw [jy hge] at hy;cases hy
def bC {b:Bool} (h:b=true) (a:A):if b=true then A else B:=by rw [ah h];exact a
def aE {b:Bool} (h:b=false) (a:B):if b=true then A else B:=by rw [h];exact a
def G7 (h:(txt b)[i]? = some v):∃x,b[i]? = some x/\v= .int (x.toNat:Nat):=by
 unfold txt at h;rw [bA] at h;cases e:b[i]? with
 | none=>rw [e] at h;cases h
 | some x=>rw [e] at h;exists x,U,(bE h).symm
def aK (b:Bytes):(aR b).length=b.length:=by show (b.map (·.toNat)).toArray.size=_;simp
theorem join_nil:∀l:List (List Nat),TL.AX [] l=l.flatten
 | []=>rfl
 | [p]=>by simp [TL.AX]
 | p :: q :: r=>by
  show p++([]++TL.AX [] (q :: r))=_;rw [join_nil (q :: r)];simp
def Fy (b:Bytes):Txt.join "" (b.map λx=>(⟨(List.toArray [x.toNat])⟩:Str))=aR b:=by
 apply TL.OY;rw [TL.join_eq,TL.Gg];have e:TL.tl ("" :Str)= []:=rfl;rw [e,join_nil,c9];show (b.map λx=> [x.toNat]).flatten=b.map (·.toNat);induction b with
 | nil=>rfl
 | cons x r ih=>simp only [bF,List.flatten_cons,ih];rfl
theorem Km (b:Bytes):((b.map λx=>(⟨(List.toArray [x.toNat])⟩:Str)).map (·.length)).sum=b.length:=by
 induction b with
 | nil=>rfl
 | cons x r ih=>rw [bF,bF,lS,ih,aT];show 1+_=_;lia
def pA (c:Cl) (b:Bytes) (j:Nat) (H:Hp) (Q:VK) (E:XK):=aN c.cf E H (rZ b j) λtk=> ∀y H',aq H H'->y8 c H' y #[j,tk.1] ((j+tk.2:Nat):Int)->Q (.ref y) H'
theorem Kn (l:Bytes) (i:Nat) (x:UInt8) (h:l[i]? = some x) (hd:isDigit x=true):((decimal (l.take (i+1)):Nat):Int)=(decimal (l.take i):Int) * 10+(x.toNat:Int) - 48:=by
 have hd:48<=x.toNat/\x.toNat<=57:=by simpa [isDigit] using hd
 have e:l.take (i+1)=l.take i++ [x]:=by
  obtain ⟨hl,ex⟩:=bj.mp h;rw [ej hl,ex]
 unfold decimal;rw [e,vR];show ((10 * _+(x.toNat - 48):Nat):Int)=_;lia
inductive uw: #v[0] | mk {K c vs H Q E:_} a b j i x r neg:vs= [.ref a,.int (j:Nat),.int (i:Nat)]->cw K H a (txt b)->b.length<=4096->b.drop i=x :: r->isDigit x=true->((neg=false/\i=j)\/(neg=true/\i=j+1))->aN c.cf E H (match numberOf neg ((b.drop i).takeWhile isDigit) with | none=> .error #[2,j] | some n=> .ok n) (λn=> ∀y H',aq H H'->y8 c H' y #[j,.num n] ((ls isDigit b i:Nat):Int)->Q (.ref y) H')->uw K c vs H Q E
theorem ux:AA.hF 4 "number_at" ["text","place","first"] uw:=by
 nomatch ["text","place","first","behind","negative","count","size","byte"]
 ext h a b j i x r neg rfl ht uz hdr hx hij q;nomatch 2,3,eV,aM aJ,iG,bR,3,sK,4,iz,5,jF,bJ,bR,T.wE,iz,iz,T.rR,6,bD,tX ye (pv 0) (m4 (pv 2)) (m4 (pv 3)),7,6,jF,dZ,yC,T.wE,iz,T.kq,gI (dJ AA) ?_,iB T.o8,Gm BR ?_
 obtain ⟨hxi,hr,hil⟩:=yk hdr;have hneg:decide ((j:Int) < (i:Int))=neg:=by rcases hij with ⟨rfl,rfl⟩ | ⟨rfl,rfl⟩ <;> simp <;> lia
 exists λm Z H'=> ∃k:Nat,Z= [some (.ref a),some (.int (j:Nat)),some (.int (i:Nat)),some (.int (k:Nat)),none,none,none,none]/\H'=H/\k<=b.length/\m=b.length - k/\ls isDigit b k=ls isDigit b i,#[_,i,U,U,iw hil,U,U],?_;rintro m Z H' ⟨k,rfl,rfl,hk,rfl,e⟩;refine' (λ(rest:ls isDigit b i=k->(_:Prop))=>?_) (λek=>?_);rotate_left 1
 exists a,_,U,.inl ht,_,_,U,U,_,U,bG (λe1=>?_) λe1=>?_
 . have iU:k < b.length:=by simpa [cD] using e1
   obtain ⟨y,hy⟩:=Bq iU;exists a,_,_,_,U,U,ht,iY hy,y,U,_,U,bG (λe2=>?_) λe2=>?_
   . refine dI ?_;exists _,_,U,U,_,by lia,k+1,U,U,iU,U,(pz hy e2).symm.trans e
   . exact rest (e.symm.trans (zc hy e2))
 . have hge:b.length<=k:=by simpa [cD] using e1
   exact rest (e.symm.trans (Cg hge))
 subst ek;clear e hk;have hds:(b.drop i).takeWhile isDigit=x :: r.takeWhile isDigit:=by rw [hdr,oJ hx]
 have hlen:(ls isDigit b i:Int) - (i:Int)=((x :: r.takeWhile isDigit).length:Nat):=by
  rw [<-hds];unfold ls;lia
 have hall:∀y∈(b.drop i).takeWhile isDigit,isDigit y=true:=λy hy=>c6.mp vM y hy;rw [hds,DN hx] at q;exists _,_,U,U,?_;simp only [hneg];exists _,_,U,U,?_;simp only [hlen];exists a,_,_,_,U,U,ht,iY hxi,U,_,U,?_;refine' (λ(rest:¬(x=48/\(neg=true\/1 < (x :: r.takeWhile isDigit).length))->(_:Prop))=>?_) (λec=>?_);rotate_left 1
 . refine bG (λe1=>?_) λe1=>?_
   . have WM:x=48:=eA (show x.toNat=48 by have:(x.toNat:Int)=48:=(~~~e1);lia);exists _,U,bG (λe2=>?_) λe2=>?_
     . rw [ah (.inl #[WM,.inl e2])] at q;exists _,_,U,jI.go q (aq.refl _)
     . exists _,_,U,U,_,U,bG (λe3=>?_) λe3=>?_
       . rw [ah (.inl #[WM,.inr (by simp at e3 ⊢;lia)])] at q;exists _,_,U,jI.go q (aq.refl _)
       . exact rest (λz=>z.2.elim (λz=>by rw [e2] at z;cases z) λz=>by simp at e3 z;lia)
   . exact rest (λz=>by rw [z.1] at e1;exact absurd e1 ∅)
 exists _,_,U,U,_,U,bG (λe3=>?_) λe3=>?_
 . rw [ah (.inr (.inl (by simp at e3;simp;lia)))] at q;exists _,_,U,jI.go q (aq.refl _)
 have e3':¬10 < (x :: r.takeWhile isDigit).length:=by simp at e3;simp;lia
 exists _,U,_,U,a,_,U,ht,λp hp=>?_;rw [G6 b isDigit i (iw hil)];exists p,U,#[_,cw.of aa],cC (K:=K) (a:=p) (xs:=txt ((b.drop i).takeWhile isDigit)) (λn Z H2=> ∃v7:Option V,Z= [some (.ref a),some (.int (j:Nat)),some (.int (i:Nat)),some (.int (ls isDigit b i:Nat)),some (.bl neg),some (.int ((x :: r.takeWhile isDigit).length:Nat)),some (.int (decimal (((b.drop i).takeWhile isDigit).take n):Nat)),v7]/\H2=upd H' p (.lst (txt ((b.drop i).takeWhile isDigit))))
  #[_,rfl,rfl] (λn Z H2 _ #[_,_,e]=>by rw [e];exact cw.of aa) ?_ ?_
 . rintro n v Z H2 hn ⟨v7,rfl,rfl⟩;obtain ⟨y,hy,rfl⟩:=G7 hn;exists _,_,U,U,.inr #[∅,∅],_,_,U,U,_,_,U,U,some (.int (y.toNat:Nat)),?_,U;rw [Kn _ _ _ hy (hall y (bc hy))];rfl
 . rintro Z H2 ⟨v7,rfl,rfl⟩;rw [cD,cK,hds];exists _,_,U,U,_,U,bG (λe4=>?_) λe4=>?_
   . rw [ah (.inr (.inr (by simp at e4;lia)))] at q;exists _,_,U,jI.go q (aq.upd hp)
   . rw [ae (λz=>z.elim ec λz=>z.elim e3' λz=>by simp at e4;lia)] at q;exists _,U,bG (λe5=>?_) λe5=>?_
     . rw [e5,ah rfl] at q;exists _,U,uo λy H3 ny s3 hy=>q y H3 ((aq.upd hp).trans s3) hy
     . rw [e5,ae aO] at q;refine uo λy H3 ny s3 hy=>q y H3 ((aq.upd hp).trans s3) hy
inductive xi: #v[0] | mk {K c vs H Q E:_} a b j r:vs= [.ref a,.int (j:Nat)]->cw K H a (txt b)->b.length<=4096->b.drop j=45 :: r->pA c b j H Q E->xi K c vs H Q E
theorem DP:AA.hF 5 "minus_at" ["text","place"] xi:=by
 nomatch ["text","place","follower"]
 ext h a b j r rfl ht uz hdr q;nomatch 2,2,dZ,eV,aM aJ,bJ,bR,T.Bl,gI (dJ AA) ?_,iB T.Fg,dZ,eV,aM aJ,iG,bR,ux
 obtain ⟨hj,hr,hjl⟩:=yk hdr;unfold pA at q;rw [DL hdr] at q;have j1:((j:Nat):Int)+1=((j+1:Nat):Int):=by lia
 exists _,_,U,U,?_;simp only [j1];cases r with
 | nil=>
  have hl:b.length=j+1:=by
   have:=bq List.length hdr;rw [cS] at this;simp at this;lia
  have t0:decide (((j+1:Nat):Int) < ((txt b).length:Int))=false:=by rw [cD,hl];simp
  have nn:numberOf true []=none:=rfl;rw [ae (by simp),List.takeWhile_nil,nn] at q;exists a,_,U,.inl ht,_,_,U,U,_,U,?_;refine aE t0 ?_;exists a,_,U,.inl ht,_,_,U,U,_,U,?_;refine aE t0 ?_;exists _,_,U,jI.go q (aq.refl _)
 | cons y s=>
  obtain ⟨hy,hs,hyl⟩:=yk hr;have t1:decide (((j+1:Nat):Int) < ((txt b).length:Int))=true:=by rw [cD];simp;lia
  exists a,_,U,.inl ht,_,_,U,U,_,U,?_;refine bC t1 ?_;exists a,_,_,_,U,U,ht,iY hy,U,_,U,bG (λe1=>?_) λe1=>?_
  . have Vv:y=62:=eA (show y.toNat=62 by have:(y.toNat:Int)=62:=(~~~e1);lia);subst Vv;rw [ah (show (62 :: s).head? = some (62:UInt8) from rfl)] at q;exists _,_,U,U,uo λz H3 nz s3 hz=>q z H3 s3 ?_;ext hz dx hz;exists dx,by rw [hz];congr 3
  . have Vv:¬(y :: s).head? = some 62:=λz=>by
     have:y=62:= ~~~z
     subst this;exact absurd e1 ∅
    rw [ae Vv] at q;exists a,_,U,.inl ht,_,_,U,U,_,U,?_;refine bC t1 ?_;exists a,_,_,_,U,U,ht,iY hy,y,U,_,U,bG (λe2=>?_) λe2=>?_
    . exists a,b,j,j+1,y,s,true,U,ht,uz,hr,e2,.inr #[U,U],?_;rw [hr];cases hn:numberOf true ((y :: s).takeWhile isDigit) with
      | none=>rw [hn] at q;exact q
      | some n=>
       rw [hn] at q;refine λz H3 s3 hz=>q z H3 s3 ?_;have:((ls isDigit b (j+1):Nat):Int)=((j+(((y :: s).takeWhile isDigit).length+1):Nat):Int):=by unfold ls;rw [hr];lia
       rw [<-this];exact hz
    . have nn:numberOf true ((y :: s).takeWhile isDigit)=none:=by rw [AH (by rw [e2];exact aO)];rfl
      rw [nn] at q;exists _,_,U,jI.go q (aq.refl _)
inductive zg: #v[0] | mk {K c vs H Q E:_} a b j x r:vs= [.ref a,.int (j:Nat)]->cw K H a (txt b)->b.length<=4096->b.drop j=x :: r->isLetter x=true->pA c b j H Q E->zg K c vs H Q E
theorem Fz:AA.hF 4 "word_at" ["text","place"] zg:=by
 nomatch ["text","place","behind","word","byte"]
 ext h a b j x r rfl ht uz hdr hx q;nomatch 2,2,eV,aM aJ,uv,bR,iG,bR,2,sK,iz,jF,T.o7,3,uc ?_ ?_,iA (bD (tX ye (pv 0) (m4 (pv 1)) (m4 (pv 2)))) [("byte",4)] (λ_ _ _ _ _=>(bL 4)) (λ_ _ _ _ _=>(dw (xV AA) (pU (pv 4)))),gI (dJ AA) ?_,iB T.Ff
 obtain ⟨hj,hr,hjl⟩:=yk hdr;unfold pA at q;rw [Fv hdr hx] at q;exists λm Z H'=> ∃k:Nat,Z= [some (.ref a),some (.int (j:Nat)),some (.int (k:Nat)),none,none]/\H'=H/\k<=b.length/\m=b.length - k/\ls (λc=>isLetter c || isDigit c) b k=ls (λc=>isLetter c || isDigit c) b j,#[_,j,U,U,iw hjl,U,U],?_;rintro m Z H' ⟨k,rfl,rfl,hk,rfl,e⟩;refine' (λ(rest:ls (λc=>isLetter c || isDigit c) b j=k->(_:Prop))=>?_) (λek=>?_);rotate_left 1
 . exists a,_,U,.inl ht,_,_,U,U,_,U,bG (λe1=>?_) λe1=>?_
   . have iU:k < b.length:=by simpa [cD] using e1
     obtain ⟨y,hy⟩:=Bq iU;exists a,_,_,_,U,U,ht,iY hy,y,U,_,U,bG (λe2=>?_) λe2=>?_
     . refine dI ?_;exists _,_,U,U,_,by lia,k+1,U,U,iU,U,(pz hy (by simp [e2])).symm.trans e
     . exists a,_,_,_,U,U,ht,iY hy,y,U,_,U,bG (λe3=>?_) λe3=>?_
       . refine dI ?_;exists _,_,U,U,_,by lia,k+1,U,U,iU,U,(pz hy (by simp [e3])).symm.trans e
       . exact rest (e.symm.trans (zc hy (by simp [e2,e3])))
   . have hge:b.length<=k:=by simpa [cD] using e1
     exact rest (e.symm.trans (Cg hge))
 subst ek;have hge:j<=ls (λc=>isLetter c || isDigit c) b j:=dU _ _;exists _,_,U,U,_,_,U,U,_,U,bG (λe1=>?_) λe1=>?_
 . rw [ah (by simp at e1;lia)] at q;exists _,_,U,jI.go q (aq.refl _)
 rw [ae (by simp at e1;lia)] at q;have hall:∀y∈(b.drop j).takeWhile (λc=>isLetter c || isDigit c),(isLetter y || isDigit y)=true:=λy hy=>c6.mp vM y hy;have Vw:((b.drop j).takeWhile (λc=>isLetter c || isDigit c)).length<=16:=by
  have:ls (λc=>isLetter c || isDigit c) b j - j=((b.drop j).takeWhile (λc=>isLetter c || isDigit c)).length:=by unfold ls;lia
  simp at e1;lia
 exists #[_,U],_,U,_,U,a,_,U,ht,λp hp=>?_;rw [G6 b _ j (iw hjl)];exists p,U,#[_,cw.of aa],λD hD=>jR (K:=K) (a:=p) (((b.drop j).takeWhile (λc=>isLetter c || isDigit c)).map λx=>V.str ⟨(List.toArray [x.toNat])⟩) (by rw [aB,cD]) hD (cw.of aa) (by rw [cD];exact aP Vw ∅) (λi v y H2 R hv hy s2 kk=>?_) λH2 s2 e2=>?_
 . obtain ⟨z,hz,rfl⟩:=G7 hv;have hy':y=V.str ⟨(List.toArray [z.toNat])⟩:=by rw [bA,hz] at hy;exact (bE hy).symm
   subst hy';exists U,z,U,hall z (bc hz),kk H2 (aq.refl _)
 . exists _,D,((b.drop j).takeWhile (λc=>isLetter c || isDigit c)).map λx=>(⟨(List.toArray [x.toNat])⟩:Str),U,U,.inl (cw.of (by rw [e2,c9];rfl)),?_,?_
   . rw [Km,aB];show _+_ * 0<=_;lia
   rw [Fy];refine uo λz H3 nz s3 hz=>q z H3 (((aq.upd hp).trans s2).trans s3) ?_;ext hz dx hz;exists dx,?_;rw [hz];have:((j+(ls (λc=>isLetter c || isDigit c) b j - j):Nat):Int)=((ls (λc=>isLetter c || isDigit c) b j:Nat):Int):=by lia
   unfold tokF;rw [this];rfl
abbrev Tok:=VaprbBase.Tok
def A2 {α:Type} (R:V->α->Prop):List V->List α->Prop
 | [],[]=>True
 | v :: vs,a :: as=>R v a/\A2 R vs as
 | _,_=>False
theorem A2.len {R:V->α->Prop}:∀{vs:List V} {as:List α},A2 R vs as->vs.length=as.length
 | [],[],_=>rfl
 | _ :: _,_ :: _,h=>bq (· +1) (A2.len h.2)
 | [],_ :: _,h=>h.elim
 | _ :: _,[],h=>h.elim
def A2.mono {R S:V->α->Prop} (i:∀v a,R v a->S v a):∀{vs:List V} {as:List α},A2 R vs as->A2 S vs as
 | [],[],_=>au
 | _ :: _,_ :: _,h=>#[i _ _ h.1,A2.mono i h.2]
 | [],_ :: _,h=>h.elim
 | _ :: _,[],h=>h.elim
theorem A2.snoc {R:V->α->Prop} {a:α} (r:R v a):∀{vs:List V} {as:List α},A2 R vs as->A2 R (vs++ [v]) (as++ [a])
 | [],[],_=>#[r,au]
 | _ :: _,_ :: _,h=>#[h.1,A2.snoc r h.2]
 | [],_ :: _,h=>h.elim
 | _ :: _,[],h=>h.elim
def A2.append {R:V->α->Prop} {ws:List V} {bs:List α} (r:A2 R ws bs):∀{vs:List V} {as:List α},A2 R vs as->A2 R (vs++ws) (as++bs)
 | [],[],_=>r
 | _ :: _,_ :: _,h=>#[h.1,A2.append r h.2]
 | [],_ :: _,h=>h.elim
 | _ :: _,[],h=>h.elim
theorem A2.get {R:V->α->Prop}:∀{vs:List V} {as:List α},A2 R vs as->∀{i:Nat} {v:V},vs[i]? = some v->∃a,as[i]? = some a/\R v a
 | [],_,_,i,v,e=>by simp at e
 | w :: vs,a :: as,h,0,v,e=>#[a,rfl,by simp at e;subst e;exact h.1]
 | w :: vs,a :: as,h,i+1,v,e=>by
  obtain ⟨a',e',r⟩:=A2.get h.2 (i:=i) (v:=v) (~~~e);exists a',~~~e',r
 | _ :: _,[],h,_,_,_=>h.elim
def A2.get' {R:V->α->Prop} {vs:List V} {as:List α} (h:A2 R vs as) {a:α} (e:as[i]? = some a):∃v,vs[i]? = some v/\R v a:=by
 have hl:i < vs.length:=by rw [h.len];exact (bj.mp e).1
 obtain ⟨a',e',r⟩:=h.get (bB hl);rw [e] at e';cases e';exists _,bB hl,r
theorem A2.of_get {R:V->α->Prop}:∀{vs:List V} {as:List α},vs.length=as.length->(∀(i:Nat) v,vs[i]? = some v->∃a,as[i]? = some a/\R v a)->A2 R vs as
 | [],[],_,_=>au
 | v :: vs,a :: as,hl,h=>by
  obtain ⟨a',e,r⟩:=h 0 v rfl;cases e;exists r,A2.of_get (~~~hl) λi v e=>by
   obtain ⟨a',e',r⟩:=h (i+1) v (~~~e);exists a',~~~e',r
 | [],_ :: _,hl,_=>by cases hl
 | _ :: _,[],hl,_=>by cases hl
def A2.map {R:V->α->Prop} {S:V->β->Prop} {f:α->β} (i:∀v a,R v a->S v (f a)):∀{vs:List V} {as:List α},A2 R vs as->A2 S vs (as.map f)
 | [],[],_=>au
 | _ :: _,_ :: _,h=>#[i _ _ h.1,A2.map i h.2]
 | [],_ :: _,h=>h.elim
 | _ :: _,[],h=>h.elim
def A2.drop {R:V->α->Prop}:∀(n:Nat) {vs:List V} {as:List α},A2 R vs as->A2 R (vs.drop n) (as.drop n)
 | 0,_,_,h=>h
 | n+1,[],[],_=>au
 | n+1,_ :: _,_ :: _,h=>A2.drop n h.2
 | _+1,[],_ :: _,h=>h.elim
 | _+1,_ :: _,[],h=>h.elim
def uA:Tok->Prop
 | .name b=>b≠ []/\b.all (λc=>isLetter c || isDigit c)=true/\b.length<=16
 | .num n=> -1000000000<=n/\n<=1000000000
 | .sign n=>n=1\/n∈ [61,123,125,40,41,91,93,44,59,58,47,124]
 | .halt_=>True
def Tks:Toks->Prop
 | []=>False
 | t :: r=>uA t.tok/\(if t.tok= .halt_ then r= [] else Tks r)
def Tks.ne (h:Tks l):∃t r,l=t :: r:=by cases l with | nil=>exact h.elim | cons t r=>exists t,r,U
def Tks.tail (h:Tks (t :: l)) (n:t.tok≠ .halt_):Tks l:=by
 have:=h.2;rw [ae n] at this;exact this
def Tks.wf (h:Tks (t :: l)):uA t.tok:=h.1
def mx {a:Bytes} (h:aR a=aR b):a=b:=by
 have h:(a.map (·.toNat)).toArray=(b.map (·.toNat)).toArray:=bq Str.cps h;have h:a.map (·.toNat)=b.map (·.toNat):= ~~~h
 exact (List.map_inj_right λx y e=>eA e).mp h
def d5 (s:Str) (tk:Tok):=(∀t,uA t->decide (V.str (wordOf t)=V.str s)=(t == tk))/\tk≠ .halt_
def Vx:∀n∈List.range 256,(isLetter (UInt8.ofNat n) || isDigit (UInt8.ofNat n))=true->¬n=1/\¬n∈ [61,123,125,40,41,91,93,44,59,58,47,124]/\n≠45:=by decide+kernel
def WN (x:UInt8) (h:(isLetter x || isDigit x)=true):¬x.toNat=1/\¬x.toNat∈ [61,123,125,40,41,91,93,44,59,58,47,124]/\x.toNat≠45:=
 Vx x.toNat (List.mem_range.mpr x.toNat_lt) (by rw [UInt8.ofNat_toNat];exact h)
def MY (hb:b.all (λc=>isLetter c || isDigit c)=true) (hn:b≠ []):d5 (aR b) (.name b):=by
 exists λt ht=>?_,nofun;rw [b8,dr,bO];constructor
 . intro e;have e:wordOf t=aR b:=V.str.inj e;cases t with
   | name a=>rw [mx e]
   | num n=>
    exfalso;have:(aR b).cps.size=0:=by rw [<-e];rfl
    simp [aR] at this;exact hn this
   | halt_=>
    exfalso;have:(aR b).cps.size=0:=by rw [<-e];rfl
    simp [aR] at this;exact hn this
   | sign n=>
    exfalso;cases b with
    | nil=>exact hn rfl
    | cons x r=>
     have hx:=WN x (by simp at hb;simpa using hb.1);have e:(if n=1 then Str.ofString "->" else ⟨(List.toArray [n])⟩)=aR (x :: r):=e;by_cases h1:n=1
     . rw [ah h1] at e;have e:(Str.ofString "->").cps.toList=(aR (x :: r)).cps.toList:=by rw [e]
       have e: [45,62]=x.toNat :: r.map (·.toNat):=e;exact hx.2.2 (qY e).1.symm
     . rw [ae h1] at e;have e: [n]=x.toNat :: r.map (·.toNat):=bq (λs=>s.cps.toList) e;have e1:n=x.toNat:=(qY e).1;rcases ht with ht | ht
       . exact h1 ht
       . exact hx.2.1 (e1 ▸ ht)
 . rintro rfl;rfl
def nh (hn:n∈ [61,123,125,40,41,91,93,44,59,58,47,124]):d5 ⟨(List.toArray [n])⟩ (.sign n):=by
 have n1:n≠1:=λe=>by subst e;exact absurd hn ∅
 exists λt ht=>?_,nofun;rw [b8,dr,bO];constructor
 . intro e;have e:wordOf t=⟨(List.toArray [n])⟩:=V.str.inj e;cases t with
   | name b=>
    exfalso;have e:b.map (·.toNat)= [n]:=bq (λs=>s.cps.toList) e;cases b with
    | nil=>cases e
    | cons x r=>
     have hx:=WN x (by have:=ht.2.1;simp at this;simpa using this.1);have e1:x.toNat=n:=(qY e).1;exact hx.2.1 (e1 ▸ hn)
   | num m=>have e:([]:List Nat)= [n]:=bq (λs=>s.cps.toList) e;cases e
   | halt_=>have e:([]:List Nat)= [n]:=bq (λs=>s.cps.toList) e;cases e
   | sign m=>
    have e:(if m=1 then Str.ofString "->" else ⟨(List.toArray [m])⟩)=(⟨(List.toArray [n])⟩:Str):=e;by_cases h1:m=1
    . rw [ah h1] at e;have e:([45,62]:List Nat)= [n]:=bq (λs=>s.cps.toList) e;cases e
    . rw [ae h1] at e;have e: [m]= [n]:=bq (λs=>s.cps.toList) e;cases e;rfl
 . rintro rfl;show V.str (if n=1 then _ else _)=_;rw [ae n1]
def Ch (s:String) {x:Str} (e:aR (word s)=x) (hb:(word s).all (λc=>isLetter c || isDigit c)=true) (hn:word s≠ []):d5 x (.name (word s)):=e ▸ MY hb hn
def xj:d5 "(" (.sign 40):=nh ∅
def uB:d5 ")" (.sign 41):=nh ∅
def xk:d5 "," (.sign 44):=nh ∅
def Sl:d5 ":" (.sign 58):=nh ∅
def Ko:d5 ";" (.sign 59):=nh ∅
def sw_eq:d5 "=" (.sign 61):=nh ∅
def Sn:d5 "/" (.sign 47):=nh ∅
def MZ:d5 "flag" (.name (word "flag")):=Ch "flag" rfl ∅ ∅
def PZ:d5 "num" (.name (word "num")):=Ch "num" rfl ∅ ∅
def Ik:d5 "chance" (.name (word "chance")):=Ch "chance" rfl ∅ ∅
def Il:d5 "budget" (.name (word "budget")):=Ch "budget" rfl ∅ ∅
def Kp:d5 "def" (.name (word "def")):=Ch "def" rfl ∅ ∅
def Kq:d5 "let" (.name (word "let")):=Ch "let" rfl ∅ ∅
def zh:d5 "observe" (.name (word "observe")):=Ch "observe" rfl ∅ ∅
def G8:d5 "tell" (.name (word "tell")):=Ch "tell" rfl ∅ ∅
def ji (c:Cl) (H:Hp) (a:Addr) (t:PTok):= ∃bh,y8 c H a t bh
def ji.mono (C:CT K c) (h:ji c H a t) (i:bW c H H'):ji c H' a t:=let #[bh,e]:=h;#[bh,e.mono C i]
def Tk (c:Cl) (H:Hp) (v:V) (t:PTok):= ∃a,v= .ref a/\ji c H a t
def Tk.mono (C:CT K c) (h:Tk c H v t) (i:bW c H H'):Tk c H' v t:=let #[a,e,h]:=h;#[a,e,h.mono C i]
def Ci (c:Cl) (H:Hp) (p:Addr) (l:Toks):= ∃vs,FL H p vs/\A2 (Tk c H) vs l/\vs.length<=4097
def bS (c:Cl) (H:Hp) (r:Addr) (l:Toks):= ∃dx tl vs,∃k:Nat,H r=some (.ins c.rd dx [("tokens",.ref tl),("taken",.int k)])/\FL H tl vs/\A2 (Tk c H) (vs.drop k) l/\Tks l/\vs.length<=4097
def bS.sb (C:CT K c) (h:bS c H r l) (s:aq H H'):bS c H' r l:=by
 ext h dx tl vs k e f a t z;exists dx,tl,vs,k,s _ _ e,f.mono (c:=c) s.Y,a.mono λ_ _ q=>q.mono C s.Y,t,z
theorem bS.Y (h:bS c H r l) (s:Sb r H H'):bW c H H':=by
 ext h dx tl vs k e _;exact s.Y e
def bS.zi (h:bS c H r l):Tks l:=by
 ext h dx tl vs k e f a t z;exact t
section
def aQ.step {x:Except Fault α} {f:α->Except Fault β} {ok:β->Prop} {ok':α->Prop} (q:aQ cf E r H (x >>= f) ok) (h:∀a,x= .ok a->aQ cf E r H (f a) ok->ok' a):aQ cf E r H x ok':=by
 cases x with
 | ok a=>exact h a rfl q
 | error e=>exact q
def aQ.map {x:Except Fault α} {f:α->β} {ok:β->Prop} {ok':α->Prop} (q:aQ cf E r H (x.map f) ok) (h:∀a,x= .ok a->ok (f a)->ok' a):aQ cf E r H x ok':=by
 cases x with
 | ok a=>exact h a rfl q
 | error e=>exact q
def aQ.imp {x:Except Fault α} {ok ok':α->Prop} (q:aQ cf E r H x ok) (h:∀a,x= .ok a->ok a->ok' a):aQ cf E r H x ok':=by
 cases x with
 | ok a=>exact h a rfl q
 | error e=>exact q
def aQ.on {x:Except Fault α} {ok:α->Prop} (q:aQ cf E r H x ok) (s:Sb r H H1):aQ cf E r H1 x ok:=by
 cases x with
 | ok a=>exact q
 | error e=>exact ml.on q s
def aQ.TC {x:Except Fault α} {ok:α->Prop} (q:aQ cf E r H x ok) (s:Sb r H H1):aN cf E H1 x ok:=by
 cases x with
 | ok a=>exact q
 | error e=>exact ml.TC q s
def aN.step {x:Except Fault α} {f:α->Except Fault β} {ok:β->Prop} {ok':α->Prop} (q:aN cf E H (x >>= f) ok) (h:∀a,x= .ok a->aN cf E H (f a) ok->ok' a):aN cf E H x ok':=by
 cases x with
 | ok a=>exact h a rfl q
 | error e=>exact q
def aN.map {x:Except Fault α} {f:α->β} {ok:β->Prop} {ok':α->Prop} (q:aN cf E H (x.map f) ok) (h:∀a,x= .ok a->ok (f a)->ok' a):aN cf E H x ok':=by
 cases x with
 | ok a=>exact h a rfl q
 | error e=>exact q
def aN.imp {x:Except Fault α} {ok ok':α->Prop} (q:aN cf E H x ok) (h:∀a,x= .ok a->ok a->ok' a):aN cf E H x ok':=by
 cases x with
 | ok a=>exact h a rfl q
 | error e=>exact q
def aN.on {x:Except Fault α} {ok:α->Prop} (q:aN cf E H x ok) (s:aq H H1):aN cf E H1 x ok:=by
 cases x with
 | ok a=>exact q
 | error e=>exact jI.on q s
end
theorem P0 {l:Bytes} {t:Tok} {k:Nat} (h:token l=some (t,k)):uA t/\t≠ .halt_:=by
 have num:∀(neg:Bool) (ds:Bytes) (n:Int),numberOf neg ds=some n-> -1000000000<=n/\n<=1000000000:=λneg ds n e=>by
  unfold numberOf at e;split at e
  . cases e
  . split at e
    . cases e
    . rename_i hh;have hh:¬1000000000 < decimal ds:=λz=>hh (.inl z);have e:=bE e;split at e <;> omega
 unfold token at h;split at h
 . cases h
 . rename_i b r;split at h
   . rename_i hb;simp only at h;split at h
     . cases h
     . rename_i hl;cases h;exists #[?_,?_,?_],nofun
       . rw [oJ (by simp [hb])];exact lL _ _
       . exact vM
       . have:NAME=16:=rfl;omega
   . split at h
     . rw [gC] at h;ext h n e1 e;cases e;exists num _ _ _ e1,nofun
     . split at h
       . split at h
         . cases h;exists .inl U,nofun
         . rw [gC] at h;ext h n e1 e;cases e;exists num _ _ _ e1,nofun
       . split at h
         . rename_i hs;cases h;exists .inr ?_,nofun;simp [SIGNS] at hs;rcases hs with h | h | h | h | h | h | h | h | h | h | h | h <;> subst h <;> decide
         . cases h
theorem ym:∀(n p:Nat) (l:Bytes) (t:Toks),lex n p l= .ok t->Tks t
 | 0,p,l,t,h=>by cases h;exists au,by rw [ah rfl]
 | n+1,p,[],t,h=>by cases h;exists au,by rw [ah rfl]
 | n+1,p,b :: r,t,h=>by
  rw [lex] at h;split at h
  . exact ym n _ _ t h
  . split at h
    . exact ym n _ _ t h
    . split at h
      . cases h
      . rename_i tk k e;have w:=P0 e;cases q:lex n (p+k) ((b :: r).drop k) with
        | error f=>rw [q] at h;cases h
        | ok l=>
         rw [q] at h;cases h;exists w.1,by rw [ae w.2];exact ym n _ _ l q
def zj (h:VaprbBase.tokens b= .ok l):Tks l:=by
 unfold VaprbBase.tokens at h;split at h
 . cases h
 . exact ym _ _ _ _ h
def oA {vs:List V} (h:H D=some (.lst vs)):Tr K "list" (.ref D) H:= .inl #[rfl,_,cw.of h]
def Im:∀n:Nat,n < 256->cq yU (.inl (n:Int))=if (SIGNS.map (·.toNat)).contains n=true then some (V.str ⟨(List.toArray [n])⟩) else none:=by decide+kernel
def signs_at (x:UInt8):cq yU (.inl (x.toNat:Int))=if SIGNS.contains x=true then some (V.str ⟨(List.toArray [x.toNat])⟩) else none:=by
 rw [Im _ x.toNat_lt];have:(SIGNS.map (·.toNat)).contains x.toNat=SIGNS.contains x:=by
  rw [b8,em,em];exists λh=>by obtain ⟨y,hy,e⟩:=ci.mp h;exact eA e ▸ hy,λh=>ci.mpr #[x,h,rfl]
 rw [this]
def Kr (h:SIGNS.contains x=true):x.toNat≠1:=λe=>by
 have:x=1:=eA e;subst this;exact absurd h ∅
inductive xl: #v[0] | mk {K c vs H Q E:_} a b j:vs= [.ref a,.int (j:Nat)]->cw K H a (txt b)->b.length<=4096->j < b.length->pA c b j H Q E->xl K c vs H Q E
theorem DQ:AA.hF 6 "token_at" ["text","place"] xl:=by
 nomatch ["text","place","byte"]
 ext h a b j rfl ht uz hj q;nomatch 2,2,bR,uv,Fz,iG,ux,bJ,T.G0,DP,B_,fG T.g_,gI (dJ AA) ?_,iB T.Fg,DA (fG T.g_) (pv 2) (λ_ _=>rfl),dZ
 obtain ⟨x,hx⟩:=Bq hj;have hdr:=ul hx;exists a,_,_,_,U,U,ht,iY hx,?_;exists x,U,_,U,bG (λe1=>?_) λe1=>?_
 . exists a,b,j,x,_,U,ht,uz,hdr,e1,q
 exists x,U,_,U,bG (λe2=>?_) λe2=>?_
 . exists a,b,j,j,x,_,false,U,ht,uz,hdr,e2,.inl #[U,U],?_;unfold pA at q;rw [DK hdr e1 e2] at q;cases hn:numberOf false ((b.drop j).takeWhile isDigit) with
   | none=>rw [hn] at q;exact q
   | some n=>
    rw [hn] at q;refine λy H' s hy=>q y H' s ?_;have:(j+(ls isDigit b j - j):Nat)=ls isDigit b j:=by have:j<=ls isDigit b j:=dU _ _;lia
    show y8 c H' y _ ((j+(ls isDigit b j - j):Nat):Int);rw [this];exact hy
 exists U,_,U,bG (λe3=>?_) λe3=>?_
 . have Vy:x=45:=eA (show x.toNat=45 by have:(x.toNat:Int)=45:=(~~~e3);lia);subst Vy;exists a,b,j,_,U,ht,uz,hdr,q
 have Vy:x≠45:=λz=>by subst z;exact absurd e3 ∅
 unfold pA at q;rw [Fw hdr e1 e2 Vy] at q;have sv:=signs_at x;exists g.signs,yU,.inl (x.toNat:Int),U,U,T.Cb,_,U,?_;by_cases hs:SIGNS.contains x=true
 . rw [ah hs] at sv q;rw [sv];refine oY ?_;exists g.signs,yU,.inl (x.toNat:Int),_,U,U,T.Cb,sv,_,_,U,U,uo λy H' ny s hy=>q y H' s ?_;ext hy dx hy;exists dx,?_;rw [hy];have hw:wordOf (.sign x.toNat)=⟨(List.toArray [x.toNat])⟩:=ae (Kr hs);show _=some (HO.ins c.tok dx [_,(_,V.str (wordOf (.sign x.toNat))),_,_,_]);rw [hw];rfl
 . rw [ae hs] at sv q;rw [sv];refine oz ?_;exists _,_,U,jI.go q (aq.refl _)
inductive uC: #v[0] | mk {K c vs H Q E:_} a b:vs= [.ref a]->cw K H a (txt b)->(aN c.cf E H (VaprbBase.tokens b) λl=> ∀p H',aq H H'->Ci c H' p l->Q (.ref p) H')->uC K c vs H Q E
theorem uD:AA.hF 7 "tokens_of" ["text"] uC:=by
 nomatch ["text","tokens","place","token"]
 ext h a b rfl ht q;nomatch 2,iz,aM aJ,T.gJ,T.gJ,1,2,mw,eV,aM aJ,3,DQ,cH bN,2,mw,cH bN,gI (dJ AA) ?_,iB T.J8,aM aJ,aM aJ,1
 exists a,_,U,.inl ht,_,_,U,U,_,U,bG (λe1=>?_) λe1=>?_
 . have hl:TEXT < b.length:=by simp [cD] at e1;have:TEXT=4096:=rfl;lia
   unfold VaprbBase.tokens at q;rw [ah hl] at q;exists _,_,U,jI.go q (aq.refl _)
 have hl:¬TEXT < b.length:=by simp [cD] at e1;have:TEXT=4096:=rfl;lia
 have uz:b.length<=4096:=Nat.not_lt.mp hl;rw [M0.H_ b hl] at q;exists aD _,λD hD=>?_;have ht1:=(aq.upd (o:= .lst []) hD).seq ht;exists a,b,0,U,ht1,aD _,λi Yb hi e hb=>?_;exists λm Z H'=> ∃(i:Nat) (vs:List V) (done:Toks) (v3:Option V),Z= [some (.ref a),some (.ref D),some (.int (i:Nat)),v3]/\aq H H'/\H' D=some (.lst vs)/\A2 (Tk c H') vs done/\i<=b.length/\m=b.length - i/\vs.length<=i/\(∀x r,b.drop i=x :: r->isBlank x=false/\x≠35)/\M0.o6 b 0=(M0.o6 b i).map (done++ ·),
  #[_,i,[],[],none,rfl,aq.upd hD,aa,au,hi,rfl,aD _,hb,?_],?_
 . rw [e];cases M0.o6 b 0 <;> rfl
 clear e hb hi Yb i;rintro m Z H' ⟨i,vs,done,v3,rfl,hs,hH,hA,hi,rfl,hvl,hb,e⟩;have ht':=hs.seq ht;exists a,_,U,.inl ht',_,_,U,U,_,U,bG (λe1=>?_) λe1=>?_
 . have iU:i < b.length:=by simpa [cD] using e1
   obtain ⟨x,hx⟩:=Bq iU;have hdr:=ul hx;have lx:=M0.GZ hdr;obtain ⟨n1,n2⟩:=hb _ _ hdr;rw [ae (by rw [n1];exact aO),ae (~~~n2)] at lx;refine dI ?_;exists a,b,i,U,ht',uz,iU,?_;unfold pA rZ;cases hk:token (b.drop i) with
   | none=>
    rw [hk] at lx;rw [e,lx] at q;exact jI.on q hs
   | some tk=>
    ext tk t k;rw [hk] at lx;simp only at lx;have hkl:=M0.wC hk;rw [cS] at hkl;intro y H2 s2 hy;have eP:=s2 _ _ hH;exists oA eP,D,vs,_,U,U,eP,by have:(4096:Nat) < sizeLine:=∅;lia,?_;have im:bW c H2 (upd H2 D (.lst (vs++ [.ref y]))):=bW.upd eP rfl;have hs3:aq H (upd H2 D (.lst (vs++ [.ref y]))):=(hs.trans s2).bM hD;have Yc:=hy.mono C im;ext Yc dy ey;refine fr ey U #[a,b,i+k,U,hs3.seq ht,by lia,λi' hi1 hi2 e' hb'=>?_];exists _,?_,i',vs++ [.ref y],done++ [#[i,t]],_,U,hs3,aa,?_,hi2,U,?_,hb',?_
    . lia
    . exact (hA.mono λv a z=>(z.mono C s2.Y).mono C im).snoc #[y,rfl,_,dy,ey]
    . rw [ao,aC];lia
    . rw [e,lx,e'];cases M0.o6 b (i+k) with
      | error f=>rfl
      | ok l=>show Except.ok (done++(#[i,t] :: l))=Except.ok (done++ [#[i,t]]++l);rw [bz];rfl
 . have hge:b.length<=i:=by simpa [cD] using e1
   have hib:i=b.length:=by lia
   rw [e,M0.JZ b i hib] at q;have q:∀p H',aq H H'->Ci c H' p (done++ [#[i,.halt_]])->Q (.ref p) H':=q;exists oA hH,a,_,U,.inl ht',a,_,U,.inl ht',λy dx ny nd _=>#[y,dx,_,_,_,_,_,U,aa,λH2 hy kp=>#[U,?_]];have s2:aq H' H2:=aq.made ny nd kp;have hy:y8 c H2 y #[(txt b).length,.halt_] ((txt b).length:Nat):=#[dx,hy];have eP:=s2 _ _ hH;have im:bW c H2 (upd H2 D (.lst (vs++ [.ref y]))):=bW.upd eP rfl;exists D,vs,_,U,U,eP,by have:(4096:Nat) < sizeLine:=∅;lia,?_;exists D,_,U,aa,au,λo=>?_;have TK:bW c H2 (upd (upd H2 D (.lst (vs++ [.ref y]))) D (.g8 o (.lst (vs++ [.ref y])))):=im.trans (bW.upd aa rfl);refine q D _ (((hs.trans s2).bM hD).bM hD) #[_,#[o,aa],(hA.mono λv a z=>(z.mono C s2.Y).mono C TK).snoc #[y,rfl,(b.length:Nat),?_],?_]
   . rw [ao,aC];lia
   . refine y8.mono C ?_ TK;rw [hib];rw [cD] at hy;exact hy
def isNm:Tok->Bool
 | .name b=>!VaprbBase.RESERVED.contains b
 | _=>false
def DR (t:PTok) (l:Toks):VaprbBase.nameNext (t :: l)=isNm t.tok:=by
 ext t p k;cases k <;> rfl
def Vz (l:List String):Tok->Bool
 | .name b=>(l.map word).contains b
 | _=>false
theorem rp {t:Tok} (ht:uA t):∀(l:List String),(∀s∈l,d5 (Str.ofString s) (.name (word s)))->inV (.str (wordOf t)) (kn l)=Vz l t
 | [],_=>by cases (t) <;> rfl
 | s :: l,h=>by
  have ih:=rp ht l λx hx=>h x (aW _ hx);have h1:=(h s bi).1 t ht;have e1:IY (V.str (Str.ofString s)) (V.str (wordOf t))=(t == .name (word s)):=by
   rw [<-h1];show (Str.ofString s == wordOf t)=_;rw [b8,bO,dr];exists λe=>by rw [e],λe=>(V.str.inj e).symm
  show (IY (V.str (Str.ofString s)) (V.str (wordOf t)) || inV (.str (wordOf t)) (kn l))=_;rw [e1,ih];cases t with
  | name b=>
   show _=((s :: l).map word).contains b;rw [bF,fO];congr 1;rw [b8,bO,bO];exists λe=>by cases (e);rfl,λe=>by rw [e]
  | num n=>rfl
  | sign n=>rfl
  | halt_=>rfl
def FA {l:List String} (h:∀s∈l,aR (word s)=Str.ofString s/\(word s).all (λc=>isLetter c || isDigit c)=true/\word s≠ []):∀s∈l,d5 (Str.ofString s) (.name (word s)):=λs hs=>Ch s (h s hs).1 (h s hs).2.1 (h s hs).2.2
noncomputable def M3:List String:= ["chance","budget","def","let","observe","tell","table","net","flag","num","if","flip","pick","uniform","given","weigh","true","false"]
def P1:∀s∈M3,d5 (Str.ofString s) (.name (word s)):=FA ∅
def gv:∀l:List String,(kn l).all i_=true
 | []=>rfl
 | s :: l=>by show (true && (kn l).all i_)=true;rw [gv l];rfl
def Io (t:Tok):decide (V.str (formOf t)=V.str "word")=(match t with | .name _=>true | _=>false):=by cases t <;> rfl
def P2:Tok->Bool
 | .num _=>true
 | _=>false
def zk (t:Tok):decide (V.str (formOf t)=V.str "number")=P2 t:=by cases t <;> rfl
def Ks (t:Tok):decide (V.str (formOf t)=V.str "end")=(t == .halt_):=by cases t <;> rfl
def bS.me {m:Str} {G:Prop} (h:bS c H r l) (q:G) (hm:m≠ "tokens" /\m≠ "taken" :=by decide):∃a dx fs,V.ref r= .ref a/\H a=some (.ins c.rd dx fs)/\List.lookup m fs=none/\G:=by
 ext h dx tl vs k e _;exists r,dx,_,U,e,?_,q;rw [eR,eR];have h1:(m == ("tokens" :Str))=false:= ~~~hm.1
 have h2:(m == ("taken" :Str))=false:= ~~~hm.2
 rw [h1,h2];rfl
inductive zl: #v[0] | mk {K c vs H Q E:_} a t:vs= [.ref a]->ji c H a t->uA t.tok->Q (.bl (isNm t.tok)) H->zl K c vs H Q E
theorem sX:AA.h0 1 "is_name" ["token"] zl:=by
 nomatch ["token"]
 ext h a t rfl ⟨bh,dx,ht⟩ hw q;nomatch 1,BL ?_ ?_,bJ,iB T.Ff,wm ?_,m5,fG T.yY
 refine fr ht U #[U,_,U,?_];rw [Io];ext t p tk;cases tk with
 | name b=>
  refine oY ?_;refine fr ht U #[g.reserved,_,U,.inr (T.y3.sq _),U,gv M3,?_];rw [ah rfl];have:=rp hw M3 P1;have q':Q (.bl (!inV (.str (wordOf (.name b))) (kn M3))) H:=by rw [this];exact q
  exact q'
 | num n=>exact oz q
 | sign n=>exact oz q
 | halt_=>exact oz q
inductive jS: #v[0] | mk {K c vs H Q E:_} x dx v1:vs= [.ref x,v1]->H x=some (.ins c.rd dx [])->(∀H':Hp,H' x=some (.ins c.rd dx [("tokens",v1),("taken",.int 0)])->(∀b o,H b=some o->b≠x->H' b=some o)->Q .cx H')->jS K c vs H Q E
def jT:AA.c0 1 c.rd "Reader" ["self","tokens"] jS:=by
 refine AA.i0 AA.kC (N:= ["self","tokens"]) λT C FT H Q E nN hr h=>?_;ext h x dx v1 rfl hx k;nomatch 2
 refine fw hx ?_;refine fw aa ?_;exact k _ aa λb o e ne=>by rw [aA ne,aA ne];exact e
inductive nZ: #v[0] | mk {K c vs H Q E:_} r t l:vs= [.ref r]->bS c H r (t :: l)->(∀a,ji c H a t->Q (.ref a) H)->nZ K c vs H Q E
def aU:AA.m0 1 c.rd "ahead" ["self"] nZ:=by
 refine AA.TD AA.o9 (N:= ["self"]) λT C FT H Q E nN hr h=>?_;ext h r t l rfl ⟨dx,tl,vs,k,e,f,a2,tk,z⟩ q;nomatch 1,bR
 obtain ⟨v,hv,a,rfl,ha⟩:=a2.get' (i:=0) (a:=t) rfl;have hv:vs[k]? = some (V.ref a):=by rw [qH] at hv;exact hv
 refine fr e U (fr e U #[tl,vs,k,_,U,U,f.sq,BV hv,q a ha])
inductive pB: #v[0] | mk {K c vs H Q E:_} r t l:vs= [.ref r]->bS c H r (t :: l)->t.tok≠ .halt_->(∀a H',ji c H' a t->Sb r H H'->bS c H' r l->Q (.ref a) H')->pB K c vs H Q E
def eY:AA.m0 2 c.rd "take" ["self"] pB:=by
 refine AA.TD AA.rW (N:= ["self","token"]) λT C FT H Q E nN hr h=>?_;ext h r t l rfl hR hn q;nomatch 2,1,aU,HJ (pv 0) wg Pk,0
 refine hR.me #[r,t,l,U,hR,λa ha=>?_];ext hR dx tl vs k e f a2 tk z;refine fr e U #[_,_,U,U,dx,_,e,dn U,?_];have sb:Sb r H (upd H r (.ins c.rd dx [("tokens",.ref tl),("taken",.int ((k+1:Nat):Int))])):=Sb.refl.PR;have im:bW c H _:=sb.Y e;refine q a _ (ha.mono C im) sb #[dx,tl,vs,k+1,aa,f.mono im,?_,tk.tail hn,z];have:=(a2.drop 1).mono λ_ _ q=>q.mono C im;rw [fR] at this;exact this
inductive pC: #v[0] | mk {K c vs H Q E:_} r l s tk:vs= [.ref r,.str s]->d5 s tk->bS c H r l->Q (.bl (next tk l)) H->pC K c vs H Q E
def cT:AA.m0 2 c.rd "sees" ["self","word"] pC:=by
 refine AA.TD AA.rX (N:= ["self","word"]) λT C FT H Q E nN hr h=>?_;ext h r l s tk rfl hs hR q;nomatch 1,bJ,aU
 ext hR.zi.ne t l' rfl;refine hR.me #[r,t,l',U,hR,λa #[bh,da,ha]=>?_];refine (fr ha rfl #[rfl,?_]);rw [hs.1 t.tok hR.zi.wf];exact q
inductive my: #v[0] | mk {K c vs H Q E:_} r l s tk:vs= [.ref r,.str s]->d5 s tk->bS c H r l->(next tk l=true->∀H',Sb r H H'->bS c H' r (l.drop 1)->Q (.bl true) H')->(next tk l=false->Q (.bl false) H)->my K c vs H Q E
def bY:AA.m0 3 c.rd "passes" ["self","word"] my:=by
 refine AA.TD AA.nU (N:= ["self","word"]) λT C FT H Q E nN hr h=>?_;ext h r l s tk rfl hs hR q1 q2;nomatch 2,cT,0,eY,0
 refine hR.me #[r,l,s,tk,U,hs,hR,_,U,?_];cases hn:next tk l with
 | false=>exact oY (q2 hn)
 | true=>
  refine oz ?_;ext hR.zi.ne t l' rfl;have hk:t.tok=tk:=by simpa [next] using hn
  refine hR.me #[r,t,l',U,hR,hk ▸ hs.2,λa H' ha sb eh=>q1 hn H' sb eh]
inductive pE: #v[0] | mk {K c vs H Q E:_} r l s tk:vs= [.ref r,.str s]->d5 s tk->bS c H r l->aQ c.cf E r H (VaprbBase.take tk l) (λl'=> ∀a t H',l=t :: l'->ji c H' a t->Sb r H H'->bS c H' r l'->Q (.ref a) H')->pE K c vs H Q E
def aL:AA.mF 4 c.rd "need" ["self","word"] pE:=by
 refine AA.TF AA.rY (N:= ["self","word"]) λT C FT H Q E nN hr h=>?_;ext h r l s tk rfl hs hR q;nomatch 2,cT,aU,eY
 refine hR.me #[r,l,s,tk,U,hs,hR,_,U,?_];ext hR.zi.ne t l' rfl;unfold VaprbBase.take at q;cases hn:next tk (t :: l') with
 | false=>
  rw [hn,ae aO] at q;refine oY ?_;refine hR.me #[r,t,l',U,hR,λa #[bh,da,ha]=>?_];exact (fr ha rfl #[_,_,rfl,ml.go q Sb.refl])
 | true=>
  rw [hn,ah rfl] at q;refine oz ?_;have hk:t.tok=tk:=by simpa [next] using hn
  refine hR.me #[r,t,l',U,hR,hk ▸ hs.2,λa H' ha sb eh=>q a t H' U ha sb eh]
inductive jc: #v[0] | mk {K c vs H Q E:_} r l:vs= [.ref r]->bS c H r l->aQ c.cf E r H (VaprbBase.takeName l) (λx=> ∀a H',uA (.name x.1.name)->ji c H' a #[x.1.place,.name x.1.name]->Sb r H H'->bS c H' r x.2->Q (.ref a) H')->jc K c vs H Q E
def cG:AA.mF 4 c.rd "need_name" ["self"] jc:=by
 refine AA.TF AA.jK (N:= ["self"]) λT C FT H Q E nN hr h=>?_;ext h r l rfl hR q;nomatch 2,sX,aU,aU,eY
 ext hR.zi.ne t l' rfl;refine hR.me #[r,t,l',U,hR,λa ha=>#[a,t,U,ha,hR.zi.wf,_,U,?_]];ext t p tk;have bad:isNm tk=false->VaprbBase.takeName (#[p,tk] :: l')= .error #[3,p]:=λe=>by
  cases tk with
  | name b=>
   have e:RESERVED.contains b=true:=by simpa [isNm] using e
   show (if RESERVED.contains b=true then _ else _)=_;rw [ah e];rfl
  | num n=>rfl
  | sign n=>rfl
  | halt_=>rfl
 cases hn:isNm tk with
 | false=>
  rw [bad hn] at q;refine oY ?_;refine hR.me #[r,_,l',U,hR,λa #[bh,da,ha]=>?_];exact (fr ha rfl #[_,_,rfl,ml.go q Sb.refl])
 | true=>
  refine oz ?_;cases tk with
  | name b=>
   have e:¬RESERVED.contains b=true:=by simpa [isNm] using hn
   have q:aQ c.cf E r H (if RESERVED.contains b=true then (VaprbBase.wrong (#[p,.name b] :: l'):Except Fault (VaprbBase.PName×Toks)) else .ok (#[p,b],l')) _:=q;rw [ae e] at q;refine hR.me #[r,_,l',U,hR,nofun,λa H' ha sb eh=>q a H' hR.zi.wf ha sb eh]
  | num n=>cases hn
  | sign n=>cases hn
  | halt_=>cases hn
inductive gX: #v[0] | mk {K c vs H Q E:_} r l:vs= [.ref r]->bS c H r l->aQ c.cf E r H (VaprbBase.takeNum l) (λx=> ∀a H',uA (.num x.1.2)->ji c H' a #[x.1.1,.num x.1.2]->Sb r H H'->bS c H' r x.2->Q (.ref a) H')->gX K c vs H Q E
def bZ:AA.mF 4 c.rd "need_number" ["self"] gX:=by
 refine AA.TF AA.iC (N:= ["self"]) λT C FT H Q E nN hr h=>?_;ext h r l rfl hR q;nomatch 2,A5,aU,iB T.o8,aU,eY
 ext hR.zi.ne t l' rfl;refine hR.me #[r,t,l',U,hR,λa #[bh,da,ha]=>?_];refine (fr ha rfl #[rfl,_,rfl,?_]);rw [zk];have bad:P2 t.tok=false->VaprbBase.takeNum (t :: l')= .error #[3,t.place]:=λe=>by
  ext t p tk;cases tk with
  | num n=>cases e
  | name n=>rfl
  | sign n=>rfl
  | halt_=>rfl
 refine bG (λe=>?_) λe=>?_
 . rw [bad (~~~e)] at q;refine hR.me #[r,t,l',U,hR,λa #[bh,da,ha]=>?_];exact (fr ha rfl #[_,_,rfl,ml.go q Sb.refl])
 . ext t p tk;cases tk with
   | num n=>refine hR.me #[r,_,l',U,hR,nofun,λa H' ha sb eh=>q a H' hR.zi.wf ha sb eh]
   | name n=>cases e
   | sign n=>cases e
   | halt_=>cases e
inductive jU: #v[0] | mk {K c vs H Q E:_} r l:vs= [.ref r]->bS c H r l->aQ c.cf E r H (if next .halt_ l=false then VaprbBase.wrong l else .ok ()) (λ_=>Q .cx H)->jU K c vs H Q E
def jV:AA.mF 4 c.rd "need_end" ["self"] jU:=by
 refine AA.TF AA.kD (N:= ["self"]) λT C FT H Q E nN hr h=>?_;ext h r l rfl hR q;nomatch 1,A5,aU,iB T.J8,aU
 ext hR.zi.ne t l' rfl;refine hR.me #[r,t,l',U,hR,λa #[bh,da,ha]=>?_];refine (fr ha rfl #[rfl,_,rfl,?_]);have nm:=Ks t.tok;refine bG (λe=>?_) λe=>?_
 . have hn:next .halt_ (t :: l')=false:=by
    show (t.tok == .halt_)=false;rw [<-nm];simpa using e
   rw [ah hn] at q;refine hR.me #[r,t,l',U,hR,λa #[bh,da,ha]=>?_];exact (fr ha rfl #[_,_,rfl,ml.go q Sb.refl])
 . have hn:next .halt_ (t :: l')=true:=by
    show (t.tok == .halt_)=true;rw [<-nm];simpa using e
   rw [ae (by rw [hn];exact Bool.noConfusion)] at q;exact q
noncomputable def bnd (p1:Nat) (n1:Int) (p2:Nat) (n2:Int):Except Fault Unit:=if n1 < -1000\/1000 < n1 then .error #[7,p1] else if n2 < n1\/1000 < n2\/n1+63 < n2 then .error #[7,p2] else .ok ()
def Kt (p1:Nat) (n1:Int) (p2:Nat) (n2:Int) (x:α):(if n1 < -1000\/1000 < n1 then .error #[7,p1] else if n2 < n1\/1000 < n2\/n1+63 < n2 then .error #[7,p2] else .ok x:Except Fault α)=(bnd p1 n1 p2 n2 >>= λ_=> .ok x):=by
 unfold bnd;split
 . rfl
 . split <;> rfl
def pF (l:Toks):takeKind l=if next (.name (word "flag")) l=true then .ok (.flag,l.drop 1) else take (.name (word "num")) l >>= λl1=>takeNum l1 >>= λx=>takeNum x.2 >>= λy=>bnd x.1.1 x.1.2 y.1.1 y.1.2 >>= λ_=> .ok (.num x.1.2 y.1.2,y.2):=by
 unfold takeKind;split
 . rfl
 . unfold take;split
   . show (takeNum (l.drop 1) >>= _)=(takeNum (l.drop 1) >>= _);congr 1;funext x;show (takeNum x.2 >>= _)=(takeNum x.2 >>= _);congr 1;funext y;exact Kt _ _ _ _ _
   . rfl
theorem kH (l:Toks):takeFrac l=(takeNum l >>= λx=>if next (.sign 47) x.2=true then takeNum (x.2.drop 1) >>= λy=>if y.1.2 < 1 then .error #[7,y.1.1] else .ok ((x.1.1,frac x.1.2 y.1.2.toNat),y.2) else .ok ((x.1.1,Frac.ofInt x.1.2),x.2)):=rfl
def k9 (l:Toks):takeWeight l=(takeFrac l >>= λx=>if x.1.2.num < 0 then .error #[7,x.1.1] else .ok (x.1.2,x.2)):=rfl
def k_ (l:Toks):takeChance l=(takeFrac l >>= λx=>if x.1.2.num < 0\/(x.1.2.den:Int) < x.1.2.num then .error #[7,x.1.1] else .ok (x.1.2,x.2)):=rfl
def lg (l:Toks):takeBounds l=(takeNum l >>= λx=>take (.sign 44) x.2 >>= λl1=>takeNum l1 >>= λy=>bnd x.1.1 x.1.2 y.1.1 y.1.2 >>= λ_=> .ok ((x.1.2,y.1.2),y.2)):=by
 show (takeNum l >>= _)=_;congr 1;funext x;show (take (.sign 44) x.2 >>= _)=_;congr 1;funext l1;show (takeNum l1 >>= _)=_;congr 1;funext y;exact Kt _ _ _ _ _
def Ku (e:Reader) (l:Toks):inOne e l=(take (.sign 40) l >>= λl1=>e l1 >>= λa=>take (.sign 41) a.2 >>= λl2=> .ok (a.1,l2)):=rfl
def Kv (e:Reader) (l:Toks):inTwo e l=(take (.sign 40) l >>= λl1=>e l1 >>= λa=>take (.sign 44) a.2 >>= λl2=>e l2 >>= λb=>take (.sign 41) b.2 >>= λl3=> .ok ((a.1,b.1),l3)):=rfl
def FE (e:Reader) (l:Toks):inThree e l=(take (.sign 40) l >>= λl1=>e l1 >>= λa=>take (.sign 44) a.2 >>= λl2=>e l2 >>= λb=>take (.sign 44) b.2 >>= λl3=>e l3 >>= λd=>take (.sign 41) d.2 >>= λl4=> .ok ((a.1,b.1,d.1),l4)):=rfl
def pG {x:(Nat×Frac)×Toks} (h:takeFrac l= .ok x):x.1.1=here l:=by
 rw [kH] at h;cases l with
 | nil=>cases h
 | cons t r=>
  ext t p tk;cases tk with
  | num n=>
   have h:(if next (.sign 47) r=true then takeNum (r.drop 1) >>= λy=>if y.1.2 < 1 then .error #[7,y.1.1] else .ok ((p,frac n y.1.2.toNat),y.2) else .ok ((p,Frac.ofInt n),r):Except Fault _)= .ok x:=h;split at h
   . cases q:takeNum (r.drop 1) with
     | error f=>rw [q] at h;cases h
     | ok y=>
      rw [q] at h;have h:(if y.1.2 < 1 then .error #[7,y.1.1] else .ok ((p,frac n y.1.2.toNat),y.2):Except Fault _)= .ok x:=h;split at h
      . cases h
      . cases h;rfl
   . cases h;rfl
  | name n=>cases h
  | sign n=>cases h
  | halt_=>cases h
theorem g9.Y (h:g9 K H a xs) (i:bW c H H'):g9 K H' a xs:=by
 rcases h with (e | ⟨o,e⟩) | h
 . exact .inl (.inl (i a _ e rfl))
 . exact .inl (.inr #[o,i a _ e rfl])
 . exact .inr h
def fT (f:Frac):List V:= [.int f.num,.int (f.den:Nat)]
inductive n8: #v[0] | mk {K c vs H Q E:_} n d:vs= [.int n,.int (d:Nat)]->0 < d->d<=1000000000->(∀p,H p=none->Q (.ref p) (upd H p (.tup (fT (frac n d)))))->n8 K c vs H Q E
theorem xW:AA.h0 1 "lowest_terms" ["above","below"] n8:=by
 nomatch ["above","below","divisor","rest","remainder"]
 ext h n d rfl hd Zr q;nomatch 2,2,3,aM Jy,iz,4,Pb,2,3,Gn,Gn
 have hab:(if n < 0 then -n else n)=(n.natAbs:Int):=by split <;> lia
 exists _,U,λm Z H'=> ∃(a b:Nat) (v4:Option V),Z= [some (.int n),some (.int (d:Nat)),some (.int (a:Nat)),some (.int (b:Nat)),v4]/\H'=H/\Nat.gcd a b=Nat.gcd d n.natAbs/\0 < a/\m=b,#[_,d,n.natAbs,none,by rw [hab];rfl,U,U,hd,U],?_;rintro b Z H' ⟨a,b',v4,rfl,rfl,hg,ha,rfl⟩;exists _,_,U,U,_,U,bG (λe1=>?_) λe1=>?_
 . have hb:0 < b:= ~~~e1
   refine dI ?_;exists _,_,U,U,(show (0:Int) < (b:Int) by lia),a % b,Nat.mod_lt _ hb,b,a % b,some (.int ((a % b:Nat):Int)),?_,U,?_,hb,U
   . rw [Int.natCast_emod];rfl
   . rw [<-hg,v_ b (a % b),<-Nat.gcd_rec,v_]
 . have hb:b=0:= ~~~e1
   subst hb;rw [Nat.gcd_zero_right] at hg;have hle:a<=d:=by rw [hg];exact Nat.le_of_dvd hd (Nat.gcd_dvd_left _ _)
   have h9:(a:Int) < 1073741824:=by lia
   exists _,_,U,U,#[(by show (0:Int) < (a:Int);lia),h9],_,_,U,U,#[(by show (0:Int) < (a:Int);lia),h9],kg,λp hp=>?_;have:=q p hp;unfold frac fT at this;rw [ae (by lia),v_,<-hg] at this;simp only [Int.natCast_ediv] at this;exact this
inductive uE: #v[0] | mk {K c vs H Q E:_} r l:vs= [.ref r]->bS c H r l->aQ c.cf E r H (takeKind l) (λx=> ∀a H',g9 K H' a (kT x.1)->Sb r H H'->bS c H' r x.2->Q (.ref a) H')->uE K c vs H Q E
theorem ni:AA.hF 5 "read_kind" ["reader"] uE:=by
 nomatch ["reader","low","high"]
 ext h r l rfl hR q;nomatch 2,bY,fG T.yX,aL,1,bZ,2,bZ,pk
 rw [pF] at q;refine hR.me #[r,l,_,_,U,MZ,hR,λhn H1 s1 dL=>?_,λhn=>?_]
 . exists _,U,oY ?_;rw [ah hn] at q;exact q g.flag H1 (T.sR.sq _) s1 dL
 . exists _,U,oz ?_;rw [ae (by rw [hn];exact aO)] at q;refine hR.me #[r,l,_,_,U,PZ,hR,aQ.step q λl1 e1 q a t H1 hl ha s1 dL=>?_];refine dL.me #[r,l1,U,dL,aQ.step (aQ.on q s1) λx e2 q a1 H2 w1 ha1 s2 dR=>?_];refine dR.me #[r,_,U,dR,aQ.step (aQ.on q s2) λy e3 q a2 H3 w2 mW s3 oH=>?_];obtain ⟨b1,ha1⟩:=ha1.mono C (dR.Y s3);ext mW b2 mW;exists a1,a2,_,_,b1,b2,U,ha1,mW,aN.step (aQ.TC q s3) λ_ e4 q p hp=>?_;exact q p _ (.inl (.inl aa)) (((s1.trans s2).trans s3).trans (aq.upd hp).sb) (oH.sb C (aq.upd hp))
inductive mz: #v[0] | mk {K c vs H Q E:_} r l:vs= [.ref r]->bS c H r l->aQ c.cf E r H (takeFrac l) (λx=> ∀a H',H' a=some (.tup (fT x.1.2))->Sb r H H'->bS c H' r x.2->Q (.ref a) H')->mz K c vs H Q E
theorem mB:AA.hF 5 "read_fraction" ["reader"] mz:=by
 nomatch ["reader","above","below"]
 ext h r l rfl hR q;nomatch 2,1,bZ,bY,0,2,bZ,eV,xW
 rw [kH] at q;refine hR.me #[r,l,U,hR,aQ.step q λx e1 q a1 H1 w1 #[b1,d1,ha1] s1 dL=>?_];refine (fr ha1 rfl ?_);refine dL.me #[r,_,_,_,U,Sn,dL,λhn H2 s2 dR=>?_,λhn=>?_]
 . exists _,U,oz ?_;rw [ah hn] at q;refine dR.me #[r,_,U,dR,aQ.step (aQ.on q (s1.trans s2)) λy e3 q a2 H3 w2 #[b2,d2,mW] s3 oH=>?_];refine fr mW U #[_,_,U,U,_,U,bG (λe4=>?_) λe4=>?_]
   . have e4:y.1.2 < 1:=qK e4;rw [ah e4] at q;refine fr mW U #[_,_,U,ml.go q s3]
   . have e4:¬y.1.2 < 1:=vN e4;rw [ae e4] at q;have w2: -1000000000<=y.1.2/\y.1.2<=1000000000:=w2;refine fr mW U #[x.1.2,y.1.2.toNat,?_,by lia,by lia,λp hp=>?_]
     . have:((y.1.2.toNat:Nat):Int)=y.1.2:=by lia
       rw [this];rfl
     . exact q p _ aa ((s1.trans s2).trans (s3.trans (aq.upd hp).sb)) (oH.sb C (aq.upd hp))
 . exists _,U,oY ?_;rw [ae (by rw [hn];exact aO)] at q;exists kg,λp hp=>?_;exact q p _ aa (s1.trans (aq.upd hp).sb) (dL.sb C (aq.upd hp))
inductive pH: #v[0] | mk {K c vs H Q E:_} r l:vs= [.ref r]->bS c H r l->aQ c.cf E r H (takeWeight l) (λx=> ∀a H',H' a=some (.tup (fT x.1))->Sb r H H'->bS c H' r x.2->Q (.ref a) H')->pH K c vs H Q E
theorem pI:AA.hF 6 "read_weight" ["reader"] pH:=by
 nomatch ["reader","place","weight"]
 ext h r l rfl hR q;nomatch 2,1,aU,2,mB,eV,gG,0
 rw [k9] at q;ext hR.zi.ne t l' rfl;refine hR.me #[r,t,l',U,hR,λa #[bh,da,ha]=>?_];refine (fr ha rfl ?_);exists r,_,U,hR,aQ.step q λx e1 q a1 H1 ha1 s1 dL=>?_;have hp:=pG e1;exists a1,_,_,_,U,U,.inl (.inl ha1),U,_,_,U,U,_,U,bG (λe2=>?_) λe2=>?_
 . rw [ah (~~~e2),hp] at q;exists _,_,U,ml.go q s1
 . rw [ae (~~~e2)] at q;refine q a1 H1 ha1 s1 dL
inductive r6: #v[0] | mk {K c vs H Q E:_} r l:vs= [.ref r]->bS c H r l->aQ c.cf E r H (takeChance l) (λx=> ∀a H',H' a=some (.tup (fT x.1))->Sb r H H'->bS c H' r x.2->Q (.ref a) H')->r6 K c vs H Q E
theorem Ap:AA.hF 6 "read_share" ["reader"] r6:=by
 nomatch ["reader","place","share"]
 ext h r l rfl hR q;nomatch 2,1,aU,2,mB,eV,gG,iz,gG,gG,0
 rw [k_] at q;ext hR.zi.ne t l' rfl;refine hR.me #[r,t,l',U,hR,λa #[bh,da,ha]=>?_];refine (fr ha rfl ?_);exists r,_,U,hR,aQ.step q λx e1 q a1 H1 ha1 s1 dL=>?_;have hp:=pG e1;exists a1,_,_,_,U,U,.inl (.inl ha1),U,_,_,U,U,_,U,bG (λe2=>?_) λe2=>?_
 . rw [ah (.inl (~~~e2)),hp] at q;exists _,_,U,ml.go q s1
 . exists a1,_,_,_,U,U,.inl (.inl ha1),U,a1,_,_,_,U,U,.inl (.inl ha1),U,_,_,U,U,_,U,bG (λe3=>?_) λe3=>?_
   . rw [ah (.inr (~~~e3)),hp] at q;exists _,_,U,ml.go q s1
   . rw [ae (by simp at e2 e3;lia)] at q;refine q a1 H1 ha1 s1 dL
abbrev Ex:=Vaprbb.Expr
variable {e:Ex}
noncomputable def eG:Ex->Str
 | .lit _ (.num _)=> "number"
 | .lit _ (.flag _)=> "truth"
 | .name _ _=> "name"
 | .un _ _ _=> "operation"
 | .bin _ _ _ _=> "operation"
 | .flip _ _=> "flip"
 | .uniform _ _ _=> "uniform"
 | .cond _ _ _ _=> "if"
 | .given _ _ _=> "given"
 | .weigh _ _ _=> "weigh"
 | .call _ _ _=> "call"
 | .pick _ _=> "pick"
 | _=> ""
noncomputable def pJ:Ex->Str
 | .lit _ (.num _)=> ""
 | .lit _ (.flag b)=>if b=true then "true" else "false"
 | .name _ n=>aR n
 | .un _ o _=>aR (unName o)
 | .bin _ o _ _=>aR (binName o)
 | .flip _ _=> "flip"
 | .uniform _ _ _=> "uniform"
 | .cond _ _ _ _=> "if"
 | .given _ _ _=> "given"
 | .weigh _ _ _=> "weigh"
 | .call _ f _=>aR f
 | .pick _ _=> "pick"
 | _=> ""
def Sq:Ex->Int
 | .lit _ (.num n)=>n
 | _=>0
def DS:Ex->List Frac
 | .flip _ p=> [p]
 | .weigh _ w _=> [w]
 | .pick _ ways=>ways.weights
 | _=> []
def M4 (H:Hp) (v:V) (f:Frac):= ∃a,v= .ref a/\H a=some (.tup (fT f))
def Sr (K:Frag) (H:Hp) (bv:V):Ex->Prop
 | .uniform _ lo hi=> ∃b,bv= .ref b/\g9 K H b (kT (.num lo hi))
 | _=>bv= .cx
noncomputable def QH (e:Ex) (pl fl:Addr) (bv:V):List (Str×V):= [("form",.str (eG e)),("word",.str (pJ e)),("number",.int (Sq e)),("place",.int (e.place:Nat)),("parts",.ref pl),("fractions",.ref fl),("bounds",bv)]
def Node (K:Frag) (c:Cl) (H:Hp) (a pl:Addr) (e:Ex):= ∃dx fl bv fs,H a=some (.ins c.ex dx (QH e pl fl bv))/\Sr K H bv e/\FL H fl fs/\A2 (M4 H) fs (DS e)
def kh (K:Frag) (c:Cl) (H:Hp):Ex->List V->Prop
 | .nil,vs=>vs= []
 | .arg a r,vs=> ∃v ws,vs=v :: ws/\kh K c H a [v]/\kh K c H r ws
 | .way a _ r,vs=> ∃v ws,vs=v :: ws/\kh K c H a [v]/\kh K c H r ws
 | .lit p v,vs=> ∃a pl,vs= [.ref a]/\Node K c H a pl (.lit p v)/\FL H pl []
 | .name p n,vs=> ∃a pl,vs= [.ref a]/\Node K c H a pl (.name p n)/\FL H pl []
 | .flip p f,vs=> ∃a pl,vs= [.ref a]/\Node K c H a pl (.flip p f)/\FL H pl []
 | .uniform p lo hi,vs=> ∃a pl,vs= [.ref a]/\Node K c H a pl (.uniform p lo hi)/\FL H pl []
 | .un p o x,vs=> ∃a pl ps,vs= [.ref a]/\Node K c H a pl (.un p o x)/\FL H pl [ps]/\kh K c H x [ps]
 | .bin p o x y,vs=> ∃a pl v w,vs= [.ref a]/\Node K c H a pl (.bin p o x y)/\FL H pl [v,w]/\kh K c H x [v]/\kh K c H y [w]
 | .cond p x y z,vs=> ∃a pl u v w,vs= [.ref a]/\Node K c H a pl (.cond p x y z)/\FL H pl [u,v,w]/\kh K c H x [u]/\kh K c H y [v]/\kh K c H z [w]
 | .given p x y,vs=> ∃a pl v w,vs= [.ref a]/\Node K c H a pl (.given p x y)/\FL H pl [v,w]/\kh K c H x [v]/\kh K c H y [w]
 | .weigh p f x,vs=> ∃a pl ps,vs= [.ref a]/\Node K c H a pl (.weigh p f x)/\FL H pl [ps]/\kh K c H x [ps]
 | .call p f x,vs=> ∃a pl ps,vs= [.ref a]/\Node K c H a pl (.call p f x)/\FL H pl ps/\kh K c H x ps
 | .pick p x,vs=> ∃a pl ps,vs= [.ref a]/\Node K c H a pl (.pick p x)/\FL H pl ps/\kh K c H x ps
section
theorem M4.Y {f:Frac} (h:M4 H v f) (i:bW c H H'):M4 H' v f:=let #[a,e,q]:=h;#[a,e,i a _ q rfl]
theorem Sr.Y {bv:V} (h:Sr K H bv e) (i:bW c H H'):Sr K H' bv e:=by
 cases e <;> first | exact h | (ext h b eb h;exists b,eb,g9.Y h i)
theorem Node.Y {pl:Addr} (C:CT K c) (h:Node K c H a pl e) (i:bW c H H'):Node K c H' a pl e:=by
 ext h dx fl bv fs h1 h2 h3 h4;exists dx,fl,bv,fs,i a _ h1 C.R8,h2.Y i,h3.mono i,h4.mono λ_ _ q=>q.Y i
theorem kh.Y (C:CT K c) (i:bW c H H'):∀{e:Ex} {vs:List V},kh K c H e vs->kh K c H' e vs
 | .nil,vs,h=>h
 | .arg _ _,vs,h=>by ext h v ws e h1 h2;exists v,ws,e,kh.Y C i h1,kh.Y C i h2
 | .way _ _ _,vs,h=>by ext h v ws e h1 h2;exists v,ws,e,kh.Y C i h1,kh.Y C i h2
 | .lit _ _,vs,h=>by ext h a pl e h1 h2;exists a,pl,e,h1.Y C i,h2.mono i
 | .name _ _,vs,h=>by ext h a pl e h1 h2;exists a,pl,e,h1.Y C i,h2.mono i
 | .flip _ _,vs,h=>by ext h a pl e h1 h2;exists a,pl,e,h1.Y C i,h2.mono i
 | .uniform _ _ _,vs,h=>by ext h a pl e h1 h2;exists a,pl,e,h1.Y C i,h2.mono i
 | .un _ _ _,vs,h=>by ext h a pl ps e h1 h2 h3;exists a,pl,ps,e,h1.Y C i,h2.mono i,kh.Y C i h3
 | .bin _ _ _ _,vs,h=>by ext h a pl v w e h1 h2 h3 h4;exists a,pl,v,w,e,h1.Y C i,h2.mono i,kh.Y C i h3,kh.Y C i h4
 | .cond _ _ _ _,vs,h=>by ext h a pl u v w e h1 h2 h3 h4 h5;exists a,pl,u,v,w,e,h1.Y C i,h2.mono i,kh.Y C i h3,kh.Y C i h4,kh.Y C i h5
 | .given _ _ _,vs,h=>by ext h a pl v w e h1 h2 h3 h4;exists a,pl,v,w,e,h1.Y C i,h2.mono i,kh.Y C i h3,kh.Y C i h4
 | .weigh _ _ _,vs,h=>by ext h a pl ps e h1 h2 h3;exists a,pl,ps,e,h1.Y C i,h2.mono i,kh.Y C i h3
 | .call _ _ _,vs,h=>by ext h a pl ps e h1 h2 h3;exists a,pl,ps,e,h1.Y C i,h2.mono i,kh.Y C i h3
 | .pick _ _,vs,h=>by ext h a pl ps e h1 h2 h3;exists a,pl,ps,e,h1.Y C i,h2.mono i,kh.Y C i h3
end
def aQ.go {x:Except Fault α} {f:α->Except Fault β} {ok:β->Prop} {ok':α->Prop} (q:aQ cf E r H (x >>= f) ok) (s:Sb r H H1) (h:∀a,x= .ok a->aQ cf E r H (f a) ok->ok' a):aQ cf E r H1 x ok':=by
 cases x with
 | ok a=>exact h a rfl q
 | error e=>exact ml.on q s
def aQ.Yd {x:Except Fault α} {f:α->Except Fault β} {ok:β->Prop} {ok':α->Prop} (q:aQ cf E r H (x >>= f) ok) (s:Sb r H H1) (h:∀a,x= .ok a->aQ cf E r H (f a) ok->ok' a):aN cf E H1 x ok':=by
 cases x with
 | ok a=>exact h a rfl q
 | error e=>exact ml.TC q s
def iH (K:Frag) (c:Cl) (H:Hp) (v:V) (e:Ex):=kh K c H e [v]
def aj {x:Except Fault α} {f:α->Except Fault β} {b:β} (h:(x >>= f)= .ok b):∃a,x= .ok a/\f a= .ok b:=by
 cases x with
 | ok a=>exists a,U,h
 | error e=>cases h
def jW {x:Except Fault α} {f:α->β} {b:β} (h:x.map f= .ok b):∃a,x= .ok a/\f a=b:=by
 cases x with
 | ok a=>exists a,U,Except.ok.inj h
 | error e=>cases h
def next_ne {t:Tok} (h:next t l=true):∃p r,l=#[p,t] :: r:=by
 cases l with
 | nil=>cases h
 | cons x r=>
  ext x p k;have:k=t:=by simpa [next] using h
  exists p,r,by rw [this]
def yn {t:Tok} (h:take t l= .ok l'):∃p,l=#[p,t] :: l':=by
 unfold take at h;split at h
 . rename_i hn;obtain ⟨p,r,rfl⟩:=next_ne hn;cases h;exists p,U
 . cases h
def aZ {t:Tok} (h:take t l= .ok l'):l'.length < l.length:=by
 obtain ⟨p,rfl⟩:=yn h;exact du _
def zm {x:(Nat×Int)×Toks} (h:takeNum l= .ok x):l=#[x.1.1,.num x.1.2] :: x.2:=by
 unfold takeNum at h;split at h
 . cases h;rfl
 . cases h
def xm {x:VaprbBase.PName×Toks} (h:takeName l= .ok x):l=#[x.1.place,.name x.1.name] :: x.2/\RESERVED.contains x.1.name=false:=by
 unfold takeName at h;split at h
 . split at h
   . cases h
   . rename_i hh;cases h;exists U,~~~hh
 . cases h
def gh {x:(Nat×Int)×Toks} (h:takeNum l= .ok x):x.2.length < l.length:=by rw [zm h];exact du _
def d6 {x:VaprbBase.PName×Toks} (h:takeName l= .ok x):x.2.length < l.length:=by rw [(xm h).1];exact du _
theorem xo {x:(Nat×Frac)×Toks} (h:takeFrac l= .ok x):x.2.length < l.length:=by
 rw [kH] at h;obtain ⟨a,h1,h⟩:=aj h;have:=gh h1;split at h
 . obtain ⟨b,h2,h⟩:=aj h;have:=gh h2;rw [cS] at this;split at h
   . cases h
   . cases h;show b.2.length < _;omega
 . cases h;exact this
def fX {x:Frac×Toks} (h:takeWeight l= .ok x):x.2.length < l.length:=by
 rw [k9] at h;obtain ⟨a,h1,h⟩:=aj h;split at h
 . cases h
 . cases h;exact xo h1
def r9 {x:Frac×Toks} (h:takeChance l= .ok x):x.2.length < l.length:=by
 rw [k_] at h;obtain ⟨a,h1,h⟩:=aj h;split at h
 . cases h
 . cases h;exact xo h1
theorem sg {x:(Int×Int)×Toks} (h:takeBounds l= .ok x):x.2.length < l.length:=by
 rw [lg] at h;obtain ⟨a,h1,h⟩:=aj h;obtain ⟨l1,h2,h⟩:=aj h;obtain ⟨b,h3,h⟩:=aj h;obtain ⟨u,h4,h⟩:=aj h;have:=gh h1;have:=aZ h2;have:=gh h3;cases h;show b.2.length < _;lia
theorem kI {x:VaprbBase.Kind×Toks} (h:takeKind l= .ok x):x.2.length < l.length:=by
 rw [pF] at h;split at h
 . rename_i hn;obtain ⟨p,r,rfl⟩:=next_ne hn;cases h;exact du _
 . obtain ⟨l1,h2,h⟩:=aj h;obtain ⟨a,h1,h⟩:=aj h;obtain ⟨b,h3,h⟩:=aj h;obtain ⟨u,h4,h⟩:=aj h;have:=gh h1;have:=aZ h2;have:=gh h3;cases h;show b.2.length < _;lia
noncomputable def jX (e:Reader):Nat->Toks->Except Fault (List Ex×Toks)
 | 0,l=>take (.sign 41) l >>= λl1=> .ok ([],l1)
 | k+1,l=>take (.sign 44) l >>= λl1=>e l1 >>= λa=>jX e k a.2 >>= λx=> .ok (a.1 :: x.1,x.2)
noncomputable def partsOf (e:Reader) (n:Nat) (l:Toks):Except Fault (List Ex×Toks):=take (.sign 40) l >>= λl1=>e l1 >>= λa=>jX e (n - 1) a.2 >>= λx=> .ok (a.1 :: x.1,x.2)
def aS {x:Except Fault α} {f g:α->Except Fault β} (h:∀a,f a=g a):(x >>= f)=(x >>= g):=by rw [funext h]
def bn (x:Except Fault α) (f:α->Except Fault β) (g:β->Except Fault γ):(x >>= f >>= g)=(x >>= λa=>f a >>= g):=by cases x <;> rfl
def pK (e:Reader) (l:Toks):inOne e l=(partsOf e 1 l >>= λx=>match x.1 with | [a]=> .ok (a,x.2) | _=> .error #[0,0]):=by
 rw [Ku];unfold partsOf;simp only [bn];refine aS λl1=>aS λa=>?_;simp only [v9,jX,bn];rfl
def kJ (e:Reader) (l:Toks):inTwo e l=(partsOf e 2 l >>= λx=>match x.1 with | [a,b]=> .ok ((a,b),x.2) | _=> .error #[0,0]):=by
 rw [Kv];unfold partsOf;simp only [bn];refine aS λl1=>aS λa=>?_;show _=(jX e 1 a.2 >>= _);simp only [jX,bn];rfl
def lh (e:Reader) (l:Toks):inThree e l=(partsOf e 3 l >>= λx=>match x.1 with | [a,b,d]=> .ok ((a,b,d),x.2) | _=> .error #[0,0]):=by
 rw [FE];unfold partsOf;simp only [bn];refine aS λl1=>aS λa=>?_;show _=(jX e 2 a.2 >>= _);simp only [jX,bn];rfl
theorem zn {e:Reader}:∀{k:Nat} {l:Toks} {x:List Ex×Toks},jX e k l= .ok x->x.1.length=k
 | 0,l,x,h=>by obtain ⟨l1,h1,h⟩:=aj h;cases h;rfl
 | k+1,l,x,h=>by
  obtain ⟨l1,h1,h⟩:=aj h;obtain ⟨a,h2,h⟩:=aj h;obtain ⟨y,h3,h⟩:=aj h;cases h;exact bq (· +1) (zn h3)
theorem kK {e:Reader} {k:Nat} (hk:0 < k) {x:List Ex×Toks} (h:partsOf e k l= .ok x):x.1.length=k:=by
 obtain ⟨l1,h1,h⟩:=aj h;obtain ⟨a,h2,h⟩:=aj h;obtain ⟨y,h3,h⟩:=aj h;cases h;have:=zn h3;show y.1.length+1=k;lia
section
variable {e:Reader} (he:∀l x,e l= .ok x->x.2.length < l.length)
include he
theorem Br:∀{k:Nat} {l:Toks} {x:List Ex×Toks},jX e k l= .ok x->x.2.length < l.length
 | 0,l,x,h=>by obtain ⟨l1,h1,h⟩:=aj h;cases h;exact aZ h1
 | k+1,l,x,h=>by
  obtain ⟨l1,h1,h⟩:=aj h;obtain ⟨a,h2,h⟩:=aj h;obtain ⟨y,h3,h⟩:=aj h;cases h;have:=aZ h1;have:=he _ _ h2;have:=Br h3;show y.2.length < _;lia
theorem sY {k:Nat} {x:List Ex×Toks} (h:partsOf e k l= .ok x):x.2.length < l.length:=by
 obtain ⟨l1,h1,h⟩:=aj h;obtain ⟨a,h2,h⟩:=aj h;obtain ⟨y,h3,h⟩:=aj h;cases h;have:=aZ h1;have:=he _ _ h2;have:=Br he h3;show y.2.length < _;lia
def Kw {x:Ex×Toks} (h:inOne e l= .ok x):x.2.length < l.length:=by
 rw [pK] at h;obtain ⟨y,h1,h⟩:=aj h;have:=sY he h1;split at h
 . cases h;exact this
 . cases h
def DT {x:(Ex×Ex)×Toks} (h:inTwo e l= .ok x):x.2.length < l.length:=by
 rw [kJ] at h;obtain ⟨y,h1,h⟩:=aj h;have:=sY he h1;split at h
 . cases h;exact this
 . cases h
def FG {x:(Ex×Ex×Ex)×Toks} (h:inThree e l= .ok x):x.2.length < l.length:=by
 rw [lh] at h;obtain ⟨y,h1,h⟩:=aj h;have:=sY he h1;split at h
 . cases h;exact this
 . cases h
end
def kL (e:Reader) (f k:Nat) (l:Toks):takeArgs e (f+1) k l=if exprNext l=true/\4<=k then .error #[4,here l] else e l >>= λa=>if next (.sign 44) a.2=true then takeArgs e f (k+1) (a.2.drop 1) >>= λr=> .ok (.arg a.1 r.1,r.2) else take (.sign 41) a.2 >>= λl2=> .ok (.arg a.1 .nil,l2):=rfl
def pL (e:Reader) (f k:Nat) (l:Toks):takeWays e (f+1) k l=if exprNext l=true/\8<=k then .error #[4,here l] else e l >>= λa=>take (.sign 58) a.2 >>= λl1=>takeWeight l1 >>= λw=>if next (.sign 44) w.2=true\/k=0 then take (.sign 44) w.2 >>= λl2=>takeWays e f (k+1) l2 >>= λr=> .ok (.way a.1 w.1 r.1,r.2) else take (.sign 41) w.2 >>= λl2=> .ok (.way a.1 w.1 .nil,l2):=rfl
section
variable {e:Reader} (he:∀l x,e l= .ok x->x.2.length < l.length)
include he
theorem xq:∀{f k:Nat} {l:Toks} {x:Ex×Toks},takeArgs e f k l= .ok x->x.2.length < l.length
 | 0,_,_,_,h=>by cases h
 | f+1,k,l,x,h=>by
  rw [kL] at h;split at h
  . cases h
  . obtain ⟨a,h1,h⟩:=aj h;have:=he _ _ h1;split at h
    . obtain ⟨r,h2,h⟩:=aj h;have:=xq h2;rw [cS] at this;cases h;show r.2.length < _;omega
    . obtain ⟨l2,h2,h⟩:=aj h;have:=aZ h2;cases h;show l2.length < _;omega
theorem xr:∀{f k:Nat} {l:Toks} {x:Ex×Toks},takeWays e f k l= .ok x->x.2.length < l.length
 | 0,_,_,_,h=>by cases h
 | f+1,k,l,x,h=>by
  rw [pL] at h;split at h
  . cases h
  . obtain ⟨a,h1,h⟩:=aj h;obtain ⟨l1,h2,h⟩:=aj h;obtain ⟨w,h3,h⟩:=aj h;have:=he _ _ h1;have:=aZ h2;have:=fX h3;split at h
    . obtain ⟨l2,h4,h⟩:=aj h;obtain ⟨r,h5,h⟩:=aj h;have:=aZ h4;have:=xr h5;cases h;show r.2.length < _;lia
    . obtain ⟨l2,h4,h⟩:=aj h;have:=aZ h4;cases h;show l2.length < _;lia
theorem zo {p:Nat} {w:Bytes} {x:Ex×Toks} (h:takeSpecial e p w l= .ok x):x.2.length < l.length:=by
 unfold takeSpecial at h;split at h
 . obtain ⟨l1,h1,h⟩:=aj h;obtain ⟨a,h2,h⟩:=aj h;obtain ⟨l2,h3,h⟩:=aj h;have:=aZ h1;have:=r9 h2;have:=aZ h3;cases h;show l2.length < _;lia
 . split at h
   . obtain ⟨l1,h1,h⟩:=aj h;obtain ⟨a,h2,h⟩:=aj h;obtain ⟨l2,h3,h⟩:=aj h;have:=aZ h1;have:=sg h2;have:=aZ h3;cases h;show l2.length < _;lia
   . split at h
     . obtain ⟨l1,h1,h⟩:=aj h;obtain ⟨a,h2,h⟩:=aj h;have:=aZ h1;have:=xr he h2;cases h;show a.2.length < _;lia
     . split at h
       . obtain ⟨a,h1,h⟩:=jW h;cases h;exact DT he h1
       . split at h
         . obtain ⟨a,h1,h⟩:=jW h;cases h;exact FG he h1
         . split at h
           . obtain ⟨l1,h1,h⟩:=aj h;obtain ⟨f,h2,h⟩:=aj h;obtain ⟨l2,h3,h⟩:=aj h;obtain ⟨a,h4,h⟩:=aj h;obtain ⟨l3,h5,h⟩:=aj h;have:=aZ h1;have:=fX h2;have:=aZ h3;have:=he _ _ h4;have:=aZ h5;cases h;show l3.length < _;lia
           . cases h
theorem DU {p:Nat} {w:Bytes} {x:Ex×Toks} (hl:l≠ []) (h:takeCall e p w l= .ok x):x.2.length < l.length:=by
 unfold takeCall at h;split at h
 . obtain ⟨a,h1,h⟩:=jW h;cases h;show a.2.length < _;exact Kw he h1
 . obtain ⟨a,h1,h⟩:=jW h;cases h;exact DT he h1
 . have:0 < l.length:=List.length_pos_iff.mpr hl;simp only at h;split at h
   . cases h;simp only [cS];omega
   . obtain ⟨a,h1,h⟩:=jW h;cases h;have:=xq he h1;simp only [cS] at this;show a.2.length < _;omega
end
theorem d8:∀(n:Nat) (l:Toks) (x:Ex×Toks),takeExpr n l= .ok x->x.2.length < l.length
 | 0,l,x,h=>by cases h
 | n+1,l,x,h=>by
  unfold takeExpr at h;split at h
  . cases h;exact du _
  . rename_i p w r;have lr:(#[p,.name w] :: r:Toks).length=r.length+1:=rfl;split at h
    . cases h;exact du _
    . split at h
      . cases h;exact du _
      . split at h
        . have:=zo (d8 n) h;lia
        . split at h
          . rename_i hn;obtain ⟨p',r',e⟩:=next_ne hn;have:=DU (d8 n) (by rw [e];exact lL _ _) h;lia
          . cases h;exact du _
  . cases h
noncomputable def FH (t:Tok):Bool:=match t with
 | .num _=>true
 | .name b=>!VaprbBase.RESERVED.contains b || (["true","false","if","flip","pick","uniform","given","weigh"].map word).contains b
 | _=>false
def pM (t:PTok) (l:Toks):exprNext (t :: l)=FH t.tok:=by
 ext t p k;cases k with
 | num n=>rfl
 | name b=>
  show (VaprbBase.nameNext (#[p,.name b] :: l) || (["true","false","if","flip","pick","uniform","given","weigh"].any λs=>next (.name (word s)) (#[p,.name b] :: l)))=(!VaprbBase.RESERVED.contains b || _);congr 1;have hk:∀s:String,next (.name (word s)) (#[p,.name b] :: l)=(b == word s):=λs=>by
   show (VaprbBase.Tok.name b == VaprbBase.Tok.name (word s))=(b == word s);rw [b8,bO,bO];exists λh=>by cases (h);rfl,λh=>by rw [h]
  simp only [hk,jq,List.any_nil,bF,cB,fO,lJ]
 | sign n=>rfl
 | halt_=>rfl
def jY (h:exprNext l=false):takeExpr (n+1) l= .error #[3,here l]:=by
 cases l with
 | nil=>rfl
 | cons t l=>
  rw [pM] at h;ext t p k;cases k with
  | num n=>cases h
  | sign n=>rfl
  | halt_=>rfl
  | name b=>
   have h:(!VaprbBase.RESERVED.contains b || (["true","false","if","flip","pick","uniform","given","weigh"].map word).contains b)=false:=h;rw [Bool.or_eq_false_iff] at h;ext h h1 h2;have hr:RESERVED.contains b=true:= ~~~h1
   simp only [bF,cB,fO,lJ,Bool.or_eq_false_iff,c4] at h2;obtain ⟨a1,a2,a3,a4,a5,a6,a7,a8,-⟩:=h2;show (if b=word "true" then _ else if b=word "false" then _ else if RESERVED.contains b=true then takeSpecial (takeExpr n) p b l else _)=_;rw [ae a1,ae a2,ah hr];unfold takeSpecial;rw [ae a4,ae a6,ae a5,ae a7,ae a3,ae a8];rfl
inductive ef: #v[0] | mk {K c vs H Q E:_} x dx v1 tk t v3 v4 v5:vs= [.ref x,v1,.ref tk,v3,v4,v5]->H x=some (.ins c.ex dx [])->ji c H tk t->(∀H':Hp,H' x=some (.ins c.ex dx [("form",v1),("word",.str (wordOf t.tok)),("number",.int (numOf t.tok)),("place",.int t.place),("parts",v3),("fractions",v4),("bounds",v5)])->(∀b o,H b=some o->b≠x->H' b=some o)->Q .cx H')->ef K c vs H Q E
def a_:AA.c0 1 c.ex "Expression" ["self","form","token","parts","fractions","bounds"] ef:=by
 refine AA.i0 AA.gW (N:= ["self","form","token","parts","fractions","bounds"]) λT C FT H Q E nN hr h=>?_;ext h x dx v1 tk t v3 v4 v5 rfl hx ⟨bh,dt,ht⟩ k;nomatch 2
 have ne:tk≠x:=λz=>by rw [z,hx] at ht;have:=(HO.ins.inj (bE ht)).2.2;cases this
 refine fw hx ?_;refine fr ((aA ne).trans ht) U (fw aa ?_);refine fr ((aA ne).trans ((aA ne).trans ht)) U (fw aa ?_);refine fr ((aA ne).trans ((aA ne).trans ((aA ne).trans ht))) U (fw aa ?_);refine fw aa ?_;refine fw aa ?_;refine fw aa ?_;exact k _ aa λb o e ne=>by rw [aA ne,aA ne,aA ne,aA ne,aA ne,aA ne,aA ne];exact e
def iZ (C:CT K c) (ht:ji c H tk t) (k:∀x H',H x=none->aq H H'->(∃dx,H' x=some (.ins c.ex dx [("form",v1),("word",.str (wordOf t.tok)),("number",.int (numOf t.tok)),("place",.int t.place),("parts",v3),("fractions",v4),("bounds",v5)]))->Q (.ref x) H'):
 ∀x dx,H x=none->H dx=none->dx≠x->ef K c (.ref x :: ([v1,.ref tk,v3,v4,v5]++ [])) (upd (upd H dx (.own x)) x (.ins c.ex dx [])) (λv H2=>v= .cx/\Q (.ref x) H2) E:=
 λx dx nx nd _=>#[x,dx,v1,tk,t,v3,v4,v5,rfl,aa,ht.mono C ((aq.upd nd).bM nx).Y,λH' e kp=>#[rfl,k x H' nx (aq.made nx nd kp) #[dx,e]]]
def Bs:∀s∈ ["true","false"],d5 (Str.ofString s) (.name (word s)):=FA ∅
def zp:∀s∈ ["if","flip","pick","uniform","given","weigh"],d5 (Str.ofString s) (.name (word s)):=FA ∅
def G9 (t:Tok):FH t=(P2 t || (isNm t || (Vz ["true","false"] t || Vz ["if","flip","pick","uniform","given","weigh"] t))):=by
 cases t with
 | num n=>rfl
 | sign n=>rfl
 | halt_=>rfl
 | name b=>
  show (!VaprbBase.RESERVED.contains b || _)=(false || (!VaprbBase.RESERVED.contains b || ((["true","false"].map word).contains b || (["if","flip","pick","uniform","given","weigh"].map word).contains b)));rw [jB];simp only [bF,cB,fO,lJ,ir,Bool.or_assoc]
inductive iI: #v[0] | mk {K c vs H Q E:_} a t:vs= [.ref a]->ji c H a t->uA t.tok->Q (.bl (FH t.tok)) H->iI K c vs H Q E
theorem iJ:AA.h0 2 "begins_expression" ["token"] iI:=by
 nomatch ["token"]
 ext h a t rfl hA hw q;nomatch 1,Gj ?_ ?_,bJ,iB T.o8,Gj ?_ ?_,sX,Gj ?_ ?_,eD,fG T.yZ,wm ?_,eD,fG T.sQ
 rw [G9] at q;obtain ⟨bh,dx,ht⟩:=id hA;refine fr ht U #[U,_,U,?_];rw [zk];refine bG (λe1=>?_) λe1=>?_
 . rw [e1,qZ] at q;exact q
 rw [e1,jB] at q;exists a,t,U,hA,hw,_,U,bG (λe2=>?_) λe2=>?_
 . rw [e2,qZ] at q;exact q
 rw [e2,jB] at q;refine fr ht U #[g.truths,_,U,.inr (T.y4.sq _),U,gv _,_,U,?_];rw [ae aO];have i1:=rp hw _ Bs;have i2:=rp hw _ zp;refine bG (λe3=>?_) λe3=>?_
 . rw [<-i1,e3,qZ] at q;exact q
 rw [<-i1,e3,jB,<-i2] at q;refine fr ht U #[g.builtin,_,U,.inr (T.sU.sq _),U,gv _,q]
inductive pO: #v[0] | mk {K c vs H Q E:_} r l cnt most:vs= [.ref r,.int cnt,.int most]->bS c H r l->(cnt≠most->Q .cx H)->(cnt=most->ml c.cf E r H #[if exprNext l=true then 4 else 3,here l])->pO K c vs H Q E
theorem pP:AA.hF 4 "refuse_more" ["reader","count","most"] pO:=by
 nomatch ["reader","count","most"]
 ext h r l cnt most rfl hR q1 q2;nomatch 1,bJ,iJ,aU,aU
 ext hR.zi.ne t l' rfl;exists U,_,U,bG (λe1=>?_) λe1=>?_
 . have q:=q2 (~~~e1);rw [pM] at q;refine hR.me #[r,t,l',U,hR,λa ha=>#[a,t,U,ha,hR.zi.wf,_,U,?_]];refine bG (λe2=>?_) λe2=>?_
   . rw [ah e2] at q;refine hR.me #[r,t,l',U,hR,λa #[bh,da,ha]=>?_];exact (fr ha rfl #[_,_,rfl,ml.go q Sb.refl])
   . rw [ae (by rw [e2];exact aO)] at q;refine hR.me #[r,t,l',U,hR,λa #[bh,da,ha]=>?_];exact (fr ha rfl #[_,_,rfl,ml.go q Sb.refl])
 . exact q1 (~~~e1)
abbrev Fu:=Vaprbb.Fun
variable {f:Fu}
def zr (K:Frag) (H:Hp) (v:V) (k:Kd):= ∃a,v= .ref a/\g9 K H a (kT k)
def Cj (K:Frag) (c:Cl) (H:Hp) (v:V) (d:Decl):= ∃a dx kv,v= .ref a/\H a=some (.ins c.par dx [("name",.str (aR d.name.name)),("place",.int (d.name.place:Nat)),("kind",kv)])/\zr K H kv d.kind
def FJ (K:Frag) (c:Cl) (H:Hp) (v:V) (f:Fu):= ∃a dx pl kv bv ps,v= .ref a/\H a=some (.ins c.fn dx [("name",.str (aR f.name.name)),("place",.int (f.name.place:Nat)),("parameters",.ref pl),("kind",kv),("body",bv)])/\FL H pl ps/\A2 (Cj K c H) ps f.params/\zr K H kv f.result/\iH K c H bv f.body
def QI (K:Frag) (H:Hp) (v:V):Option Kd->Prop
 | none=>v= .cx
 | some k=>zr K H v k
def EI (K:Frag) (c:Cl) (H:Hp) (v:V):Stm->Prop
 | .lets n k e=> ∃a dx wv ev,v= .ref a/\H a=some (.ins c.mj dx [("name",.str (aR n.name)),("place",.int (n.place:Nat)),("written",wv),("expression",ev)])/\QI K H wv k/\iH K c H ev e
 | .observe e=> ∃a dx ev,v= .ref a/\H a=some (.ins c.obs dx [("expression",ev)])/\iH K c H ev e
def Kx (c:Cl) (H:Hp) (v:V) (n:PName):=Tk c H v #[n.place,.name n.name]
def EJ (K:Frag) (c:Cl) (H:Hp) (v:V) (p:Prog):= ∃a dx fl sl tl fs ss ts,v= .ref a/\H a=some (.ins c.prog dx [("title",.str (aR p.title.name)),("budget",.int (p.budget:Nat)),("functions",.ref fl),("statements",.ref sl),("told",.ref tl)])/\
 FL H fl fs/\A2 (FJ K c H) fs p.funs/\FL H sl ss/\A2 (EI K c H) ss p.stms/\FL H tl ts/\A2 (Kx c H) ts p.tells
section
theorem zr.Y (h:zr K H v k) (i:bW c H H'):zr K H' v k:=let #[a,e,q]:=h;#[a,e,g9.Y q i]
theorem QI.Y {k:Option Kd} (h:QI K H v k) (i:bW c H H'):QI K H' v k:=by
 cases k with
 | none=>exact h
 | some k=>exact zr.Y h i
theorem Cj.Y {d:Decl} (C:CT K c) (h:Cj K c H v d) (i:bW c H H'):Cj K c H' v d:=by ext h a dx kv e q k;exists a,dx,kv,e,i a _ q C.Oj,k.Y i
theorem iH.Y (C:CT K c) (h:iH K c H v e) (i:bW c H H'):iH K c H' v e:=kh.Y C i h
theorem FJ.Y (C:CT K c) (h:FJ K c H v f) (i:bW c H H'):FJ K c H' v f:=by
 ext h a dx pl kv bv ps e q h1 h2 h3 h4;exists a,dx,pl,kv,bv,ps,e,i a _ q C.PV,h1.mono i,h2.mono λ_ _ z=>z.Y C i,h3.Y i,h4.Y C i
theorem EI.Y {s:Stm} (C:CT K c) (h:EI K c H v s) (i:bW c H H'):EI K c H' v s:=by
 cases s with
 | lets n k e=>ext h a dx wv ev e q h1 h2;exists a,dx,wv,ev,e,i a _ q C.Kc,h1.Y i,h2.Y C i
 | observe e=>ext h a dx ev e q h2;exists a,dx,ev,e,i a _ q C.Om,h2.Y C i
theorem Kx.Y {n:PName} (C:CT K c) (h:Kx c H v n) (i:bW c H H'):Kx c H' v n:=Tk.mono C h i
theorem EJ.Y (C:CT K c) (h:EJ K c H v p) (i:bW c H H'):EJ K c H' v p:=by
 ext h a dx fl sl tl fs ss ts e q h1 h2 h3 h4 h5 h6;exists a,dx,fl,sl,tl,fs,ss,ts,e,i a _ q C.Kf,h1.mono i,h2.mono λ_ _ z=>z.Y C i,h3.mono i,h4.mono λ_ _ z=>z.Y C i,h5.mono i,h6.mono λ_ _ z=>z.Y C i
end
def iK (l:Toks):takeDecl l=(takeName l >>= λx=>takeKind x.2 >>= λk=> .ok (#[x.1,k.1],k.2)):=rfl
def ie (f k:Nat) (l:Toks):takeParams (f+1) k l=if nameNext l=true/\4<=k then .error #[4,here l] else takeDecl l >>= λd=>if next (.sign 44) d.2=true then takeParams f (k+1) (d.2.drop 1) >>= λr=> .ok (d.1 :: r.1,r.2) else take (.sign 41) d.2 >>= λl2=> .ok ([d.1],l2):=rfl
def pQ (l:Toks):Except Fault (List Decl×Toks):=if next (.sign 41) l=true then .ok ([],l.drop 1) else takeParams (l.length+1) 0 l
def sZ (l:Toks):takeFun l=(take (.name (word "def")) l >>= λl1=>takeName l1 >>= λn=>take (.sign 40) n.2 >>= λl2=>pQ l2 >>= λps=>takeKind ps.2 >>= λk=>take (.sign 61) k.2 >>= λl3=>takeExpr 24 l3 >>= λe=>take (.sign 59) e.2 >>= λl4=> .ok (#[n.1,ps.1,k.1,e.1],l4)):=by
 show (take (.name (word "def")) l >>= _)=_;refine aS λl1=>?_;refine aS (x:=takeName l1) λn=>?_;refine aS (x:=take (.sign 40) n.2) λl2=>?_;unfold pQ;by_cases h:next (.sign 41) l2=true
 . rw [ah h,ah h];rfl
 . rw [ae h,ae h];rfl
def xt (f k:Nat) (l:Toks):takeFuns (f+1) k l=if next (.name (word "def")) l=false then .ok ([],l) else if 8<=k then .error #[4,here l] else takeFun l >>= λx=>takeFuns f (k+1) x.2 >>= λr=> .ok (x.1 :: r.1,r.2):=rfl
noncomputable def kM (l:Toks):Except Fault (Option Kd×Toks):=if next (.sign 61) l=true then .ok (none,l) else takeKind l >>= λx=> .ok (some x.1,x.2)
def jZ (l:Toks):takeStm l=if next (.name (word "observe")) l=true then takeExpr 24 (l.drop 1) >>= λe=>take (.sign 59) e.2 >>= λl2=> .ok (.observe e.1,l2) else take (.name (word "let")) l >>= λl1=>takeName l1 >>= λn=>kM n.2 >>= λk=>take (.sign 61) k.2 >>= λl2=>takeExpr 24 l2 >>= λe=>take (.sign 59) e.2 >>= λl3=> .ok (.lets n.1 k.1 e.1,l3):=by
 have hk:∀l,(if next (.sign 61) l=true then .ok (none,l) else (takeKind l).map λx=>(some x.1,x.2):Except Fault (Option Kd×Toks))=kM l:=λl=>by
  unfold kM;split
  . rfl
  . cases takeKind l <;> rfl
 unfold takeStm;by_cases hl:next (.name (word "let")) l=true
 . have ho:¬next (.name (word "observe")) l=true:=λz=>by
    obtain ⟨p,r,rfl⟩:=next_ne hl;exact Bool.noConfusion z
   rw [ah hl,ae ho];have:take (.name (word "let")) l= .ok (l.drop 1):=by unfold take;rw [ah hl]
   rw [this];show (takeName (l.drop 1) >>= _)=(takeName (l.drop 1) >>= _);refine aS λn=>?_;rw [<-hk];by_cases h:next (.sign 61) n.2=true
   . rw [ah h];exact ah h
   . rw [ae h];exact ae h
 . rw [ae hl];by_cases ho:next (.name (word "observe")) l=true
   . rw [ah ho];have:takeWord "observe" l= .ok (l.drop 1):=by unfold takeWord take;rw [ah ho]
     rw [this];rfl
   . rw [ae ho];have h1:takeWord "observe" l=wrong l:=by unfold takeWord take;rw [ae ho]
     have h2:take (.name (word "let")) l=wrong l:=by unfold take;rw [ae hl]
     rw [h1,h2];rfl
def pR (f k:Nat) (l:Toks):takeStms (f+1) k l=if next (.name (word "tell")) l=true/\0 < k then .ok ([],l) else if (next (.name (word "let")) l || next (.name (word "observe")) l)=true/\32<=k then .error #[4,here l] else takeStm l >>= λx=>takeStms f (k+1) x.2 >>= λr=> .ok (x.1 :: r.1,r.2):=rfl
def nj (f k:Nat) (l:Toks):takeTells (f+1) k l=if nameNext l=true/\6<=k then .error #[4,here l] else takeName l >>= λx=>if next .halt_ x.2=true then .ok [x.1] else take (.sign 44) x.2 >>= λl2=>takeTells f (k+1) l2 >>= λr=> .ok (x.1 :: r):=rfl
def si (l:Toks):takeBudget l=if next (.name (word "budget")) l=true then takeNum (l.drop 1) >>= λn=>if n.1.2 < 0\/20 < n.1.2 then .error #[7,n.1.1] else .ok (n.1.2.toNat,n.2) else .ok (0,l):=rfl
def xu (l:Toks):takeProg l=(take (.name (word "chance")) l >>= λl1=>takeName l1 >>= λt=>takeBudget t.2 >>= λb=>takeFuns (b.2.length+1) 0 b.2 >>= λfs=>takeStms (fs.2.length+1) 0 fs.2 >>= λss=>take (.name (word "tell")) ss.2 >>= λl2=>takeTells (l2.length+1) 0 l2 >>= λts=> .ok #[t.1,b.1,fs.1,ss.1,ts]):=rfl
theorem pS {x:Decl×Toks} (h:takeDecl l= .ok x):x.2.length < l.length:=by
 rw [iK] at h;obtain ⟨a,h1,h⟩:=aj h;obtain ⟨k,h2,h⟩:=aj h;have:=d6 h1;have:=kI h2;cases h;show k.2.length < _;lia
theorem sj:∀{f k:Nat} {l:Toks} {x:List Decl×Toks},takeParams f k l= .ok x->x.2.length < l.length
 | 0,_,_,_,h=>by cases h
 | f+1,k,l,x,h=>by
  rw [ie] at h;split at h
  . cases h
  . obtain ⟨a,h1,h⟩:=aj h;have:=pS h1;split at h
    . obtain ⟨r,h2,h⟩:=aj h;have:=sj h2;rw [cS] at this;cases h;show r.2.length < _;omega
    . obtain ⟨l2,h2,h⟩:=aj h;have:=aZ h2;cases h;show l2.length < _;omega
def Bt {x:List Decl×Toks} (h:pQ l= .ok x):x.2.length < l.length:=by
 unfold pQ at h;split at h
 . rename_i hn;obtain ⟨p,r,rfl⟩:=next_ne hn;cases h;exact du _
 . exact sj h
theorem tf {x:Fu×Toks} (h:takeFun l= .ok x):x.2.length < l.length:=by
 rw [sZ] at h;obtain ⟨l1,h1,h⟩:=aj h;obtain ⟨n,h2,h⟩:=aj h;obtain ⟨l2,h3,h⟩:=aj h;obtain ⟨ps,h4,h⟩:=aj h;obtain ⟨k,h5,h⟩:=aj h;obtain ⟨l3,h6,h⟩:=aj h;obtain ⟨e,h7,h⟩:=aj h;obtain ⟨l4,h8,h⟩:=aj h;have:=aZ h1;have:=d6 h2;have:=aZ h3;have:=Bt h4;have:=kI h5;have:=aZ h6;have:=d8 _ _ _ h7;have:=aZ h8;cases h;show l4.length < _;lia
theorem zt {x:Option Kd×Toks} (h:kM l= .ok x):x.2.length<=l.length:=by
 unfold kM at h;split at h
 . cases h;exact az _
 . obtain ⟨a,h1,h⟩:=aj h;have:=kI h1;cases h;show a.2.length<=_;lia
theorem tj {x:Stm×Toks} (h:takeStm l= .ok x):x.2.length < l.length:=by
 rw [jZ] at h;split at h
 . obtain ⟨e,h1,h⟩:=aj h;obtain ⟨l2,h2,h⟩:=aj h;have:=d8 _ _ _ h1;rw [cS] at this;have:=aZ h2;cases h;show l2.length < _;omega
 . obtain ⟨l1,h1,h⟩:=aj h;obtain ⟨n,h2,h⟩:=aj h;obtain ⟨k,h3,h⟩:=aj h;obtain ⟨l2,h4,h⟩:=aj h;obtain ⟨e,h5,h⟩:=aj h;obtain ⟨l3,h6,h⟩:=aj h;have:=aZ h1;have:=d6 h2;have:=zt h3;have:=aZ h4;have:=d8 _ _ _ h5;have:=aZ h6;cases h;show l3.length < _;omega
def kN (h:¬nameNext l=true):takeName l= .error #[3,here l]:=by
 unfold takeName;split
 . rename_i p b r;have h:¬(!VaprbBase.RESERVED.contains b)=true:=h;rw [ah (~~~h)];rfl
 . rfl
theorem Bu: [V.ref r,V.int (23 - (n:Int)+1)]= [V.ref r,V.int (24 - (n:Int))]:=by
 have:(23 - (n:Int)+1)=24 - (n:Int):=by lia
 rw [this]
inductive j0 (n:Nat): #v[0] | mk {K c vs H Q E:_} r l:vs= [.ref r,.int (24 - (n:Int))]->bS c H r l->aQ c.cf E r H (takeExpr n l) (λx=> ∀a H',iH K c H' (.ref a) x.1->Sb r H H'->bS c H' r x.2->Q (.ref a) H')->j0 n K c vs H Q E
abbrev cE (n:Nat):=AA.hF (7+4 * n+1) "read_expression" ["reader","around"] (j0 n)
def _root_.L2.Sb.at (s:Sb r H H') (hR:bS c H r l) (h:H D=some o) (n:∀dx fs,o≠ .ins c.rd dx fs:=by exact λ_ _ z=>by cases z):H' D=some o:=s D o h λz=>by
 subst z;ext hR dx tl vs k e _;rw [e] at h;exact n _ _ (bE h).symm
def _root_.L2.Sb.new (s:Sb r H H') (hR:bS c H r l) (eh:bS c H' r l') (hD:H' D=none):H D=none:=by
 rcases s.free (λz=>by ext hR dx tl vs k e _;rw [e] at z;cases z) hD with h | h
 . exact h
 . subst h;ext eh dx tl vs k e _;rw [e] at hD;cases hD
def bS.up {u:HO} (C:CT K c) (h:bS c H r l) (e:H D=some u) (hu:L2.Y c u=false) (n:∀dx fs,u≠ .ins c.rd dx fs:=by exact λ_ _ z=>by cases z):bS c (upd H D o) r l:=by
 ext h dx tl vs k e1 f a t z;have ne:r≠D:=λq=>by subst q;rw [e1] at e;exact n _ _ (bE e).symm
 have im:bW c H (upd H D o):=bW.upd e hu;exists dx,tl,vs,k,(aA ne).trans e1,f.mono im,a.mono λ_ _ q=>q.mono C im,t,z
inductive sk (n:Nat): #v[0] | mk {K c vs H Q E:_} r l (cnt:Nat):vs= [.ref r,.int cnt,.int (23 - (n:Int))]->0 < cnt->cnt<=3->bS c H r l->aQ c.cf E r H (partsOf (takeExpr n) cnt l) (λx=> ∀p ps H',FL H' p ps->A2 (iH K c H') ps x.1->Sb r H H'->bS c H' r x.2->Q (.ref p) H')->sk n K c vs H Q E
abbrev nq (n:Nat):=AA.hF (8+4*n+1) "read_parts" ["reader","count","around"] (sk n)
theorem Aq (n:Nat) (b9:cE AA n):nq AA n:=by
 nomatch ["reader","count","around","parts"]
 ext h r l cnt rfl h0 h3 hR q;nomatch 2,aL,3,dw b9 ?_,dZ,eV,aM aJ,aL,cH bN,dw b9 ?_,dZ,aL,1
 unfold partsOf at q;refine hR.me #[r,l,_,_,U,xj,hR,aQ.go q Sb.refl λl1 e1 q a t H1 hl ha s1 dL=>?_];exists _,_,U,U,r,l1,Bu,dL,aQ.go q s1 λx e2 q a1 H2 hx s2 dR=>?_;exists kg,λD hD=>?_;have ss:=aq.upd (o:= .lst [V.ref a1]) hD;have M5:H D=none:=(s1.trans s2).new hR dR hD;exists λm Z H'=> ∃(vs:List V) (done:List Ex) (l2:Toks) (k:Nat),Z= [some (.ref r),some (.int (cnt:Nat)),some (.int (23 - (n:Int))),some (.ref D)]/\H' D=some (.lst vs)/\A2 (iH K c H') vs done/\done.length+k=cnt/\m=k/\Sb r H H'/\bS c H' r l2/\aQ c.cf E r H (jX (takeExpr n) k l2) (λy=> ∀p ps Ck,FL Ck p ps->A2 (iH K c Ck) ps (done++y.1)->Sb r H Ck->bS c Ck r y.2->Q (.ref p) Ck),
  #[_,[.ref a1],[x.1],x.2,cnt - 1,rfl,aa,#[hx.Y C ss.Y,au],by show 1+(cnt - 1)=cnt;lia,rfl,(s1.trans s2).trans ss.sb,dR.sb C ss,aQ.go q Sb.refl λy _ q=>q],?_
 rintro m Z H' ⟨vs,done,l2,k,rfl,mC,hA,hk,rfl,sb,eh,q⟩;have hlen:=hA.len;exists D,_,U,.inl (cw.of mC),_,_,U,U,_,U,bG (λe3=>?_) λe3=>?_
 . have hk1:0 < m:=by simp at e3;lia
   obtain ⟨m,rfl⟩:∃j,m=j+1:=#[m - 1,by lia];refine dI ?_;refine eh.me #[r,l2,_,_,U,xk,eh,aQ.go q sb λl3 e4 q a t H3 hl ha s3 oH=>?_];have mX:=s3.at eh mC;exists oA mX,_,_,U,U,r,l3,Bu,oH,aQ.go q (sb.trans s3) λy e5 q a2 H4 hy s4 vo=>?_;have oI:=s4.at oH mX;have Ip:=(eh.Y s3).trans (oH.Y s4);have dM:bW c H4 (upd H4 D (.lst (vs++ [.ref a2]))):=bW.upd oI rfl;exists D,vs,_,U,U,oI,by have:(3:Nat) < sizeLine:=∅;lia,?_;exists m,du _,vs++ [.ref a2],done++ [y.1],y.2,m,U,aa,(hA.mono λ_ _ z=>(z.Y C Ip).Y C dM).snoc (hy.Y C dM),by rw [ao,aC];lia,rfl,((sb.trans s3).trans s4).bM M5,vo.up C oI rfl,?_;refine aQ.go q Sb.refl λz _ q p ps Ck f a s rr=>q p ps Ck f ?_ s rr;rw [bz] at a;exact a
 . have hk0:m=0:=by simp at e3;lia
   subst hk0;refine eh.me #[r,l2,_,_,U,uB,eh,aQ.go q sb λl3 e4 q a t H3 hl ha s3 oH=>?_];have mX:=s3.at eh mC;exists D,_,U,mX,au,λo=>?_;have dM:bW c H3 (upd H3 D (.g8 o (.lst vs))):=bW.upd mX rfl;refine q D vs _ #[o,aa] ?_ ((sb.trans s3).bM M5) (oH.up C mX rfl);rw [bH];exact hA.mono λ_ _ z=>(z.Y C (eh.Y s3)).Y C dM
inductive kO (n:Nat): #v[0] | mk {K c vs H Q E:_} r l:vs= [.ref r,.int (23 - (n:Int))]->bS c H r l->aQ c.cf E r H (take (.sign 40) l >>= λl1=>if next (.sign 41) l1=true then .ok (.nil,l1.drop 1) else takeArgs (takeExpr n) (l1.length+1) 0 l1) (λx=> ∀p ps H',FL H' p ps->kh K c H' x.1 ps->Sb r H H'->bS c H' r x.2->Q (.ref p) H')->kO n K c vs H Q E
abbrev mD (n:Nat):=AA.hF (8+4*n+1) "read_arguments" ["reader","around"] (kO n)
theorem uF (n:Nat) (b9:cE AA n):mD AA n:=by
 nomatch ["reader","around","parts"]
 ext h r l rfl hR q;nomatch 2,aL,2,bY,1,cH bN,dw b9 ?_,dZ,bY,pP,aM aJ,T.mn,cH bN,dw b9 ?_,dZ,aL,1
 refine hR.me #[r,l,_,_,U,xj,hR,aQ.go q Sb.refl λl1 e1 q a t H1 hl ha s1 dL=>?_];exists kg,λD hD=>?_;have ss:=aq.upd (o:= .lst ([]:List V)) hD;have M5:H D=none:=s1.new hR dL hD;have dL:=dL.sb C ss;replace s1:=s1.trans ss.sb;have hD1:upd H1 D (.lst []) D=some (.lst []):=aa;revert hD1 dL s1;generalize upd H1 D (.lst [])=Ye;intro dL s1 hD1;refine dL.me #[r,l1,_,_,U,uB,dL,λhn H2 s2 dR=>?_,λhn=>?_]
 . exists _,U,oY ?_;rw [ah hn] at q;have eP:=s2.at dL hD1;exists D,_,U,eP,au,λo=>?_;exact q D [] _ #[o,aa] rfl ((s1.trans s2).bM M5) (dR.up C eP rfl)
 exists _,U,oz ?_;rw [ae (by rw [hn];exact aO),kL,ae (λz=>by lia)] at q;exists oA hD1,_,_,U,U,r,l1,Bu,dL,aQ.go q s1 λx e2 q a1 H2 hx s2 dR=>?_;have hn0:∃n',n=n'+1:=by
  cases n with
  | zero=>cases e2
  | succ n'=>exists n',U
 have eP:=s2.at dL hD1;have dM:bW c H2 (upd H2 D (.lst ([]++ [.ref a1]))):=bW.upd eP rfl;exists D,[],_,U,U,eP,∅,?_;have hsh:=d8 _ _ _ e2;exists λm Z H'=> ∃(vs:List V) (l2:Toks) (fu k:Nat) (T:Ex->Ex),Z= [some (.ref r),some (.int (23 - (n:Int))),some (.ref D)]/\H' D=some (.lst vs)/\(∀Ck ws e,bW c H' Ck->kh K c Ck e ws->kh K c Ck (T e) (vs++ws))/\vs.length=k/\k<=4/\m=l2.length/\l2.length < fu+1/\Sb r H H'/\bS c H' r l2/\aQ c.cf E r H (if next (.sign 44) l2=true then takeArgs (takeExpr n) fu k (l2.drop 1) >>= λr=> .ok (T r.1,r.2) else take (.sign 41) l2 >>= λl3=> .ok (T .nil,l3)) (λx=> ∀p ps H',FL H' p ps->kh K c H' x.1 ps->Sb r H H'->bS c H' r x.2->Q (.ref p) H'),
  #[_,[.ref a1],x.2,l1.length,1,(.arg x.1 ·),rfl,aa,λCk ws e i h=>#[_,ws,rfl,(hx.Y C dM).Y C i,h],rfl,∅,rfl,by lia,(s1.trans s2).bM M5,dR.up C eP rfl,q],?_
 clear q hD1 eP hx dM hsh dR s2 e2 hn dL s1;rintro m Z H' ⟨vs,l2,fu,k,T',rfl,mC,hT,hk,VA,rfl,hfu,sb,eh,q⟩;refine eh.me #[r,l2,_,_,U,xk,eh,λhn H2 s2 dR=>?_,λhn=>?_]
 . exists _,U,oY ?_;rw [ah hn] at q;have eP:=s2.at eh mC;obtain ⟨p0,r0,hl2⟩:=next_ne hn;have hdl:(l2.drop 1).length+1=l2.length:=by rw [hl2];rfl
   obtain ⟨fu,rfl⟩:∃j,fu=j+1:=#[fu - 1,by lia];rw [kL] at q;refine dI ?_;exists D,_,U,.inl (cw.of eP),r,_,_,_,U,dR,λk7=>?_,λheq=>?_
   . rw [ae (λz=>by lia),bn] at q;exists oA eP,_,_,U,U,r,_,Bu,dR,aQ.go q (sb.trans s2) λy e5 q a2 H4 hy s4 vo=>?_;have oI:=s4.at dR eP;have Ip:=(eh.Y s2).trans (dR.Y s4);have dM:bW c H4 (upd H4 D (.lst (vs++ [.ref a2]))):=bW.upd oI rfl;have hsh:=d8 _ _ _ e5;exists D,vs,_,U,U,oI,by have:(4:Nat) < sizeLine:=∅;lia,?_;exists _,?_,vs++ [.ref a2],y.2,fu,k+1,λe=>T' (.arg y.1 e),U,aa,λCk ws e i h=>?_,by rw [ao,hk];rfl,by lia,rfl,by lia,((sb.trans s2).trans s4).bM M5,vo.up C oI rfl,?_
     . lia
     . rw [bz];exact hT _ _ _ ((Ip.trans dM).trans i) #[_,ws,rfl,(hy.Y C dM).Y C i,h]
     . split <;> rename_i hc
       . rw [ah hc,bn] at q;exact q
       . rw [ae hc,bn] at q;exact q
   . have heq:k=4:=by lia
     subst heq;by_cases hx:exprNext (l2.drop 1)=true
     . rw [ah #[hx,az _]] at q;rw [ah hx];exact ml.on q (sb.trans s2)
     . ext hn0 n' rfl;rw [ae (λz=>hx z.1),jY (~~~hx)] at q;rw [ae hx];exact ml.on q (sb.trans s2)
 . exists _,U,oz ?_;rw [ae (by rw [hn];exact aO)] at q;refine eh.me #[r,l2,_,_,U,uB,eh,aQ.go q sb λl3 e4 q a t H3 hl ha s3 oH=>?_];have mX:=s3.at eh mC;exists D,_,U,mX,au,λo=>?_;have dM:bW c H3 (upd H3 D (.g8 o (.lst vs))):=bW.upd mX rfl;refine q D vs _ #[o,aa] ?_ ((sb.trans s3).bM M5) (oH.up C mX rfl);have:=hT _ [] .nil ((eh.Y s3).trans dM) rfl;rw [bH] at this;exact this
def oB {o:Obj} (hD:H D=none):aq H (upd (upd H D (.lst xs)) D (.g8 o (.lst xs)))/\FL (upd (upd H D (.lst xs)) D (.g8 o (.lst xs))) D xs:=#[(aq.upd hD).bM hD,#[o,aa]]
abbrev Ky (K:Frag) (c:Cl) (H:Hp) (r:Addr) (Q:VK):Ex×Toks->Prop:=λx=> ∀a H',iH K c H' (.ref a) x.1->Sb r H H'->bS c H' r x.2->Q (.ref a) H'
def S3 (r p q:Addr) (H H':Hp):= ∀b o,H b=some o->b≠r->b≠p->b≠q->H' b=some o
def DV {α:Type} (cf:Addr) (E:XK) (r p q:Addr) (H:Hp) (x:Except Fault α) (ok:α->Prop):Prop:=match x with
 | .ok a=>ok a
 | .error f=> ∀H',S3 r p q H H'->Rz cf E H' f
def DV.go {p q:Addr} {x:Except Fault α} {f:α->Except Fault β} {ok:β->Prop} {ok':α->Prop} (w:DV cf E r p q H (x >>= f) ok) (s:S3 r p q H H1) (h:∀a,x= .ok a->DV cf E r p q H (f a) ok->ok' a):aQ cf E r H1 x ok':=by
 cases x with
 | ok a=>exact h a rfl w
 | error e=>exact λH' s'=>w H' λb o hb h1 h2 h3=>s' b o (s b o hb h1 h2 h3) h1
def S3.refl {p q:Addr}:S3 r p q H H:=λ_ _ e _ _ _=>e
def S3.sb {p q:Addr} {H2:Hp} (s:S3 r p q H H1) (t:Sb r H1 H2):S3 r p q H H2:=λb o e h1 h2 h3=>t b o (s b o e h1 h2 h3) h1
def S3.up {p q:Addr} (s:S3 r p q H H1):S3 r p q H (upd H1 p o):=λb o e h1 h2 h3=>(aA h2).trans (s b o e h1 h2 h3)
def S3.uq {p q:Addr} (s:S3 r p q H H1):S3 r p q H (upd H1 q o):=λb o e h1 h2 h3=>(aA h3).trans (s b o e h1 h2 h3)
inductive uG: #v[0] | mk {K c vs H Q E:_} r l tk p:vs= [.ref r,.ref tk]->ji c H tk #[p,.name (word "flip")]->bS c H r l->aQ c.cf E r H (take (.sign 40) l >>= λl1=>takeChance l1 >>= λx=>take (.sign 41) x.2 >>= λl2=> .ok (.flip p x.1,l2)) (Ky K c H r Q)->uG K c vs H Q E
theorem Cm:AA.hF 7 "read_flip" ["reader","first"] uG:=by
 nomatch ["reader","first","share"]
 ext h r l tk p rfl ht hR q;nomatch 2,aL,2,Ap,aL,gI (a_ AA) (aH ?_ (aH ?_ (aH (di ?_) (aH (di ?_) ?_))))
 refine hR.me #[r,l,_,_,U,xj,hR,aQ.go q Sb.refl λl1 e1 q a t H1 hl ha s1 dL=>?_];exists r,l1,U,dL,aQ.go q s1 λx e2 q a1 H2 hx s2 dR=>?_;refine dR.me #[r,_,_,_,U,uB,dR,aQ.go q (s1.trans s2) λl3 e1 q a t H3 hl ha s3 oH=>?_];have i3:=((hR.Y s1).trans (dL.Y s2)).trans (dR.Y s3);have TN:=ht.mono C i3;have N8:H3 a1=_:=dR.Y s3 _ _ hx rfl;exists aD _,λD hD=>#[D,_,U,aa,au,λo=>?_];obtain ⟨sD,fD⟩:=oB (xs:= []) (o:=o) hD;exists kg,λD2 eP=>#[D2,_,U,aa,au,λo2=>?_];obtain ⟨rJ,yo⟩:=oB (xs:= [.ref a1]) (o:=o2) eP;have ss:=sD.trans rJ;refine iZ C (TN.mono C ss.Y) λy H4 ny s4 #[dx,hy]=>?_;have P4:=ss.trans s4;exact q y H4 #[y,D,rfl,#[dx,D2,.cx,[.ref a1],hy,rfl,yo.mono (c:=c) s4.Y,#[#[a1,rfl,P4 _ _ N8],au]],fD.mono (c:=c) (rJ.trans s4).Y] (((s1.trans s2).trans s3).trans P4.sb) (oH.sb C P4)
inductive n_: #v[0] | mk {K c vs H Q E:_} r l tk p:vs= [.ref r,.ref tk]->ji c H tk #[p,.name (word "uniform")]->bS c H r l->aQ c.cf E r H (take (.sign 40) l >>= λl1=>takeBounds l1 >>= λx=>take (.sign 41) x.2 >>= λl2=> .ok (.uniform p x.1.1 x.1.2,l2)) (Ky K c H r Q)->n_ K c vs H Q E
theorem xX:AA.hF 5 "read_uniform" ["reader","first"] n_:=by
 nomatch ["reader","first","low","high","bounds"]
 ext h r l tk p rfl ht hR q;nomatch 2,aL,2,bZ,aL,3,bZ,4,pk,aL,gI (a_ AA) (aH ?_ (aH ?_ (aH (di ?_) (aH (di ?_) ?_))))
 refine hR.me #[r,l,_,_,U,xj,hR,aQ.go q Sb.refl λl1 e1 q a t H1 hl ha s1 dL=>?_];rw [lg,bn] at q;refine dL.me #[r,l1,U,dL,aQ.go q s1 λx e2 q a1 H2 w1 ha1 s2 dR=>?_];rw [bn] at q;refine dR.me #[r,_,_,_,U,xk,dR,aQ.go q (s1.trans s2) λl3 e3 q a t H3 hl ha s3 oH=>?_];rw [bn] at q;refine oH.me #[r,_,U,oH,aQ.go q ((s1.trans s2).trans s3) λy e4 q a2 H4 w2 mW s4 vo=>?_];rw [bn] at q;obtain ⟨b1,ha1⟩:=(ha1.mono C (dR.Y s3)).mono C (oH.Y s4);ext mW b2 mW;have i4:=(((hR.Y s1).trans (dL.Y s2)).trans (dR.Y s3)).trans (oH.Y s4);have P4:=((s1.trans s2).trans s3).trans s4;exists a1,a2,_,_,b1,b2,U,ha1,mW,aQ.Yd q P4 λ_ e5 q B hB=>?_;have sB:=aq.upd (o:= .tup (kT (.num x.1.2 y.1.2))) hB;have TQ:=vo.sb C sB;refine TQ.me #[r,_,_,_,U,uB,TQ,aQ.go q (P4.trans sB.sb) λl3 e1 q a t H5 hl ha s5 FK=>?_];have Yf:H5 B=_:=TQ.Y s5 _ _ aa rfl;have VB:=((ht.mono C i4).mono C sB.Y).mono C (TQ.Y s5);exists aD _,λD hD=>#[D,_,U,aa,au,λo=>?_];obtain ⟨sD,fD⟩:=oB (xs:= []) (o:=o) hD;exists aD _,λD2 eP=>#[D2,_,U,aa,au,λo2=>?_];obtain ⟨rJ,yo⟩:=oB (xs:= []) (o:=o2) eP;have ss:=sD.trans rJ;refine iZ C (VB.mono C ss.Y) λy H6 ny s6 #[dx,hy]=>?_;have jw:=ss.trans s6;exact q y H6 #[y,D,rfl,#[dx,D2,.ref B,[],hy,#[B,rfl,.inl (.inl (jw _ _ Yf))],yo.mono (c:=c) s6.Y,au],fD.mono (c:=c) (rJ.trans s6).Y] (((P4.trans sB.sb).trans s5).trans jw.sb) (FK.sb C jw)
inductive sm (n:Nat): #v[0] | mk {K c vs H Q E:_} r l tk p:vs= [.ref r,.ref tk,.int (23 - (n:Int))]->ji c H tk #[p,.name (word "weigh")]->bS c H r l->aQ c.cf E r H (take (.sign 40) l >>= λl1=>takeWeight l1 >>= λf=>take (.sign 44) f.2 >>= λl2=>takeExpr n l2 >>= λa=>take (.sign 41) a.2 >>= λl3=> .ok (.weigh p f.1 a.1,l3)) (Ky K c H r Q)->sm n K c vs H Q E
abbrev uH (n:Nat):=AA.hF (8+4*n+1) "read_weigh" ["reader","first","around"] (sm n)
theorem Ar (n:Nat) (b9:cE AA n):uH AA n:=by
 nomatch ["reader","first","around","weight","part"]
 ext h r l tk p rfl ht hR q;nomatch 2,aL,3,pI,aL,4,dw b9 ?_,dZ,aL,gI (a_ AA) (aH ?_ (aH ?_ (aH (di ?_) (aH (di ?_) ?_))))
 refine hR.me #[r,l,_,_,U,xj,hR,aQ.go q Sb.refl λl1 e1 q a t H1 hl ha s1 dL=>?_];exists r,l1,U,dL,aQ.go q s1 λx e2 q a1 H2 hx s2 dR=>?_;refine dR.me #[r,_,_,_,U,xk,dR,aQ.go q (s1.trans s2) λl3 e1 q a t H3 hl ha s3 oH=>?_];have VC:=(s1.trans s2).trans s3;exists _,_,U,U,r,_,Bu,oH,aQ.go q VC λy e4 q a2 H4 hy s4 vo=>?_;refine vo.me #[r,_,_,_,U,uB,vo,aQ.go q (VC.trans s4) λl5 e1 q a t H5 hl ha s5 FK=>?_];have WO:=((dR.Y s3).trans (oH.Y s4)).trans (vo.Y s5);have VB:=ht.mono C (((hR.Y s1).trans (dL.Y s2)).trans WO);have Ss:H5 a1=_:=WO _ _ hx rfl;have Yg:=hy.Y C (vo.Y s5);exists kg,λD hD=>#[D,_,U,aa,au,λo=>?_];obtain ⟨sD,fD⟩:=oB (xs:= [.ref a2]) (o:=o) hD;exists kg,λD2 eP=>#[D2,_,U,aa,au,λo2=>?_];obtain ⟨rJ,yo⟩:=oB (xs:= [.ref a1]) (o:=o2) eP;have ss:=sD.trans rJ;refine iZ C (VB.mono C ss.Y) λz H6 nz s6 #[dx,hz]=>?_;have jw:=ss.trans s6;exact q z H6 #[z,D,.ref a2,rfl,#[dx,D2,.cx,[.ref a1],hz,rfl,yo.mono (c:=c) s6.Y,#[#[a1,rfl,jw _ _ Ss],au]],fD.mono (c:=c) (rJ.trans s6).Y,Yg.Y C jw.Y] (((VC.trans s4).trans s5).trans jw.sb) (FK.sb C jw)
inductive xz (n:Nat): #v[0] | mk {K c vs H Q E:_} r l pD wD ps ws:vs= [.ref r,.int (23 - (n:Int)),.ref pD,.ref wD]->H pD=some (.lst ps)->H wD=some (.lst ws)->pD≠wD->ps.length<=8->ws.length<=8->bS c H r l->DV c.cf E r pD wD H (takeExpr n l >>= λa=>take (.sign 58) a.2 >>= λl1=>takeWeight l1 >>= λw=> .ok ((a.1,w.1),w.2)) (λx=> ∀H' v u,S3 r pD wD H H'->bW c H H'->H' pD=some (.lst (ps++ [v]))->H' wD=some (.lst (ws++ [u]))->iH K c H' v x.1.1->M4 H' u x.1.2->bS c H' r x.2->Q .cx H')->xz n K c vs H Q E
abbrev zu (n:Nat):=AA.hF (8+4*n+1) "read_way" ["reader","around","parts","weights"] (xz n)
theorem DW (n:Nat) (b9:cE AA n):zu AA n:=by
 nomatch ["reader","around","parts","weights"]
 ext h r l pD wD ps ws rfl hp hw k7 hl1 hl2 hR q;nomatch 2,cH bN,dw b9 ?_,dZ,aL,cH bN,pI
 have h8:(8:Nat) < sizeLine:=∅
 exists oA hp,_,_,U,U,r,l,Bu,hR,DV.go q S3.refl λx e1 q a1 H1 hx s1 dL=>?_;have hp1:=s1.at hR hp;have hw1:=s1.at hR hw;exists pD,ps,_,U,U,hp1,by lia,?_;have iu:bW c H1 (upd H1 pD (.lst (ps++ [.ref a1]))):=bW.upd hp1 rfl;have QJ:bS c (upd H1 pD (.lst (ps++ [.ref a1]))) r x.2:=dL.up C hp1 rfl;have su:=(S3.refl.sb s1).up (p:=pD) (q:=wD) (o:= .lst (ps++ [.ref a1]));refine QJ.me #[r,_,_,_,U,Sl,QJ,DV.go q su λl2 e2 q a t H2 hl ha s2 dR=>?_];have hp2:=s2.at QJ aa;have hw2:=s2.at QJ ((aA (bX k7)).trans hw1);exists oA hw2,r,l2,U,dR,DV.go q (su.sb s2) λy e3 q a2 H3 hy s3 oH=>?_;have hp3:=s3.at dR hp2;have zx:=s3.at dR hw2;exists wD,ws,_,U,U,zx,by lia,?_;have iv:bW c H3 (upd H3 wD (.lst (ws++ [.ref a2]))):=bW.upd zx rfl;exact q _ (.ref a1) (.ref a2) ((su.sb s2).sb s3).uq (((((hR.Y s1).trans iu).trans (QJ.Y s2)).trans (dR.Y s3)).trans iv) ((aA k7).trans hp3) aa ((((hx.Y C iu).Y C (QJ.Y s2)).Y C (dR.Y s3)).Y C iv) #[a2,rfl,iv _ _ hy rfl] (oH.up C zx rfl)
def S3.to {p q:Addr} {H0:Hp} (b:Sb r H0 H) (hp:H0 p=none) (hq:H0 q=none) (s:S3 r p q H H'):Sb r H0 H':=λx o e ne=>s x o (b x o e ne) ne (bp e hp) (bp e hq)
def aQ.way {p q:Addr} {x:Except Fault α} {f:α->Except Fault β} {ok:β->Prop} {ok':α->Prop} (hq:aQ cf E r H (x >>= f) ok) (b:Sb r H H1) (hp:H p=none) (hq0:H q=none) (h:∀a,x= .ok a->aQ cf E r H (f a) ok->ok' a):DV cf E r p q H1 x ok':=by
 cases x with
 | ok a=>exact h a rfl hq
 | error e=>exact λH' s=>hq H' (S3.to b hp hq0 s)
noncomputable def DX (n:Nat) (l:Toks):Except Fault ((Ex×Frac)×Toks):=takeExpr n l >>= λa=>take (.sign 58) a.2 >>= λl1=>takeWeight l1 >>= λw=> .ok ((a.1,w.1),w.2)
theorem zy {x:(Ex×Frac)×Toks} (h:DX n l= .ok x):x.2.length < l.length:=by
 obtain ⟨a,h1,h⟩:=aj h;obtain ⟨l1,h2,h⟩:=aj h;obtain ⟨w,h3,h⟩:=aj h;have:=d8 _ _ _ h1;have:=aZ h2;have:=fX h3;cases h;show w.2.length < _;lia
def nu (n f k:Nat) (l:Toks):takeWays (takeExpr n) (f+1) k l=if exprNext l=true/\8<=k then .error #[4,here l] else DX n l >>= λx=>if next (.sign 44) x.2=true\/k=0 then take (.sign 44) x.2 >>= λl2=>takeWays (takeExpr n) f (k+1) l2 >>= λr=> .ok (.way x.1.1 x.1.2 r.1,r.2) else take (.sign 41) x.2 >>= λl2=> .ok (.way x.1.1 x.1.2 .nil,l2):=by
 rw [pL];unfold DX;simp only [bn];rfl
inductive uI (n:Nat): #v[0] | mk {K c vs H Q E:_} r l tk p:vs= [.ref r,.ref tk,.int (23 - (n:Int))]->ji c H tk #[p,.name (word "pick")]->bS c H r l->aQ c.cf E r H (take (.sign 40) l >>= λl1=>takeWays (takeExpr n) (l1.length+1) 0 l1 >>= λws=> .ok (.pick p ws.1,ws.2)) (Ky K c H r Q)->uI n K c vs H Q E
abbrev xA (n:Nat):=AA.hF (9+4*n+1) "read_pick" ["reader","first","around"] (uI n)
theorem Cp (n:Nat) (tm:zu AA n):xA AA n:=by
 nomatch ["reader","first","around","parts","weights"]
 ext h r l tk p rfl ht hR q;nomatch 2,3,4,aL,dw tm ?_,aL,dw tm ?_,bY,pP,aM aJ,T.w6,dw tm ?_,aL,gI (a_ AA) (aH ?_ (aH ?_ (aH (di ?_) (aH (di ?_) ?_))))
 exists kg,λpD Ou=>?_;exists kg,λwD Kz=>?_;have sp:=aq.upd (o:= .lst ([]:List V)) Ou;have sw:=aq.upd (o:= .lst ([]:List V)) Kz;have P5:H wD=none:=by
  cases z:H wD with
  | none=>rfl
  | some o=>rw [sp _ _ z] at Kz;cases Kz
 have k7:pD≠wD:=λz=>by subst z;rw [aa] at Kz;cases Kz
 have hp1:upd (upd H pD (.lst [])) wD (.lst []) pD=some (.lst []):=(aA k7).trans aa;have hw1:upd (upd H pD (.lst [])) wD (.lst []) wD=some (.lst []):=aa;have b0:Sb r H (upd (upd H pD (.lst [])) wD (.lst [])):=(sp.trans sw).sb;have KA:=hR.sb C (sp.trans sw);have i0:bW c H (upd (upd H pD (.lst [])) wD (.lst [])):=(sp.trans sw).Y;revert hp1 hw1 b0 KA i0;generalize upd (upd H pD (.lst [])) wD (.lst [])=H0;intro hp1 hw1 b0 KA i0;refine KA.me #[r,l,_,_,U,xj,KA,aQ.go q b0 λl1 e1 q a t H1 hl ha s1 dL=>?_];have b1:=b0.trans s1;have i1:=i0.trans (KA.Y s1);have hp2:=s1.at KA hp1;have hw2:=s1.at KA hw1;rw [nu,ae (λz=>by lia),bn] at q;exists r,l1,pD,wD,[],[],U,hp2,hw2,k7,∅,∅,dL,aQ.way q b1 Ou P5 λx e2 q H2 v u s2 i2 hp3 zx hv hu dR=>?_;have hsh:=zy e2;have hn0:∃n',n=n'+1:=by
  cases n with
  | zero=>cases e2
  | succ n'=>exists n',U
 have b2:=s2.to b1 Ou P5;rw [ah (.inr rfl),bn] at q;refine dR.me #[r,_,_,_,U,xk,dR,aQ.go q b2 λl2 e3 q a t H3 hl ha s3 oH=>?_];have b3:=b2.trans s3;have i3:=(i1.trans i2).trans (dR.Y s3);have QK:=s3.at dR hp3;have P6:=s3.at dR zx;have htl:=aZ e3;obtain ⟨fu,hfu⟩:∃j,l1.length=j+1:=#[l1.length - 1,by lia];rw [hfu,nu,ae (λz=>by lia),bn,bn] at q;exists r,l2,pD,wD,[v],[u],U,QK,P6,k7,by show 1<=8;decide,by show 1<=8;decide,oH,aQ.way q b3 Ou P5 λy e4 q H4 v2 u2 s4 i4 M6 VD hv2 hu2 vo=>?_;have Yh:=zy e4;have WP:=(dR.Y s3).trans i4;exists λm Z H'=> ∃(vs us:List V) (l2:Toks) (fu k:Nat) (T:Ex->Ex) (fs:List Frac),Z= [some (.ref r),some (.ref tk),some (.int (23 - (n:Int))),some (.ref pD),some (.ref wD)]/\H' pD=some (.lst vs)/\H' wD=some (.lst us)/\(∀Ck ws e,bW c H' Ck->kh K c Ck e ws->kh K c Ck (T e) (vs++ws))/\(∀e,(T e).weights=fs++e.weights)/\A2 (M4 H') us fs/\vs.length=k/\us.length=k/\2<=k/\k<=8/\m=l2.length/\l2.length < fu+1/\Sb r H H'/\bW c H H'/\bS c H' r l2/\aQ c.cf E r H (if next (.sign 44) l2=true then take (.sign 44) l2 >>= λl3=>takeWays (takeExpr n) fu k l3 >>= λr=> .ok (.pick p (T r.1),r.2) else take (.sign 41) l2 >>= λl3=> .ok (.pick p (T .nil),l3)) (Ky K c H r Q),
  #[_,[v,v2],[u,u2],y.2,fu,2,λe=> .way x.1.1 x.1.2 (.way y.1.1 y.1.2 e),[x.1.2,y.1.2],rfl,M6,VD,λCk ws e i h=>#[v,v2 :: ws,rfl,(hv.Y C WP).Y C i,#[v2,ws,rfl,hv2.Y C i,h]],λe=>rfl,#[hu.Y WP,hu2,au],rfl,rfl,az _,∅,rfl,by lia,s4.to b3 Ou P5,i3.trans i4,vo,?_],?_
 . split <;> rename_i hc
   . rw [ah (.inl hc)] at q;simp only [bn] at q;exact q
   . rw [ae (λz=>z.elim hc (λz=>by lia))] at q;simp only [bn] at q;exact q
 rintro m Z H' ⟨vs,us,l2,fu,k,T',fs,rfl,hp',hw',hT,hTw,hA,hk,Yi,Zu,WQ,rfl,hfu,sb,im,eh,q⟩;refine eh.me #[r,l2,_,_,U,xk,eh,λhn H2 s2 dR=>?_,λhn=>?_]
 . exists _,U,oY ?_;obtain ⟨p0,r0,hl2⟩:=next_ne hn;have hdl:(l2.drop 1).length+1=l2.length:=by rw [hl2];rfl
   have htk:take (.sign 44) l2= .ok (l2.drop 1):=by unfold take;rw [ah hn]
   have q:aQ c.cf E r H (takeWays (takeExpr n) fu k (l2.drop 1) >>= λr=> .ok (.pick p (T' r.1),r.2)) (Ky K c H r Q):=by
    rw [ah hn,htk] at q;exact q
   have hp2:=s2.at eh hp';have hw2:=s2.at eh hw';obtain ⟨fu,rfl⟩:∃j,fu=j+1:=#[fu - 1,by lia];rw [nu] at q;refine dI ?_;exists pD,_,U,.inl (cw.of hp2),r,_,_,_,U,dR,λhne'=>?_,λheq=>?_
   . rw [ae (λz=>by lia),bn] at q;have b2:=sb.trans s2;exists r,_,pD,wD,vs,us,U,hp2,hw2,k7,by lia,by lia,dR,aQ.way q b2 Ou P5 λy e4 q H4 v2 u2 s4 i4 M6 VD hv2 hu2 vo=>?_;have hsh:=zy e4;have VE:=(eh.Y s2).trans i4;exists _,?_,vs++ [v2],us++ [u2],y.2,fu,k+1,λe=>T' (.way y.1.1 y.1.2 e),fs++ [y.1.2],U,M6,VD,λCk ws e i h=>?_,λe=>?_,(hA.mono λ_ _ z=>z.Y VE).snoc hu2,by rw [ao,hk];rfl,by rw [ao,Yi];rfl,by lia,by lia,rfl,by lia,s4.to b2 Ou P5,im.trans VE,vo,?_
     . lia
     . rw [bz];exact hT _ _ _ (VE.trans i) #[v2,ws,rfl,hv2.Y C i,h]
     . rw [hTw,bz];rfl
     . split <;> rename_i hc
       . rw [ah (.inl hc)] at q;simp only [bn] at q;exact q
       . rw [ae (λz=>z.elim hc (λz=>by lia))] at q;simp only [bn] at q;exact q
   . have heq:k=8:=by lia
     subst heq;by_cases hx:exprNext (l2.drop 1)=true
     . rw [ah #[hx,az _]] at q;rw [ah hx];exact ml.on q (sb.trans s2)
     . ext hn0 n' rfl;have hw:DX (n'+1) (l2.drop 1)= .error #[3,here (l2.drop 1)]:=by unfold DX;rw [jY (~~~hx)];rfl
       rw [ae (λz=>hx z.1),hw] at q;rw [ae hx];exact ml.on q (sb.trans s2)
 . exists _,U,oz ?_;rw [ae (by rw [hn];exact aO)] at q;refine eh.me #[r,l2,_,_,U,uB,eh,aQ.go q sb λl3 e4 q a t H3 hl ha s3 oH=>?_];have hp3:=s3.at eh hp';have zx:=s3.at eh hw';have i3:=eh.Y s3;exists pD,_,U,hp3,au,λo=>?_;have iu:bW c H3 (upd H3 pD (.g8 o (.lst vs))):=bW.upd hp3 rfl;have P6:upd H3 pD (.g8 o (.lst vs)) wD=some (.lst us):=(aA (bX k7)).trans zx;exists wD,_,U,P6,au,λo2=>?_;have iv:bW c (upd H3 pD (.g8 o (.lst vs))) (upd (upd H3 pD (.g8 o (.lst vs))) wD (.g8 o2 (.lst us))):=bW.upd P6 rfl;have ii:=(im.trans i3).trans (iu.trans iv);refine iZ C (ht.mono C ii) λz H6 nz s6 #[dx,hz]=>?_;have f1:FL H6 pD vs:=FL.mono (c:=c) #[o,(aA k7).trans aa] s6.Y;have f2:FL H6 wD us:=FL.mono (c:=c) #[o2,aa] s6.Y;have i6:bW c H' H6:=(i3.trans (iu.trans iv)).trans s6.Y;refine q z H6 #[z,pD,vs,rfl,#[dx,wD,.cx,us,hz,rfl,f2,?_],f1,?_] ((((sb.trans s3).bM Ou).bM P5).trans s6.sb) (((oH.up C hp3 rfl).up C P6 rfl).sb C s6)
   . show A2 (M4 H6) us (T' .nil).weights;rw [hTw];show A2 (M4 H6) us (fs++ []);rw [bH];exact hA.mono λ_ _ z=>z.Y i6
   . have:=hT H6 [] .nil i6 rfl;rw [bH] at this;exact this
def M7 (e:Reader) (p:Nat) (l:Toks):takeSpecial e p (word "flip") l=(take (.sign 40) l >>= λl1=>takeChance l1 >>= λx=>take (.sign 41) x.2 >>= λl2=> .ok (.flip p x.1,l2)):=rfl
def FM (e:Reader) (p:Nat) (l:Toks):takeSpecial e p (word "uniform") l=(take (.sign 40) l >>= λl1=>takeBounds l1 >>= λx=>take (.sign 41) x.2 >>= λl2=> .ok (.uniform p x.1.1 x.1.2,l2)):=rfl
def M8 (e:Reader) (p:Nat) (l:Toks):takeSpecial e p (word "pick") l=(take (.sign 40) l >>= λl1=>takeWays e (l1.length+1) 0 l1 >>= λws=> .ok (.pick p ws.1,ws.2)):=rfl
def KB (e:Reader) (p:Nat) (l:Toks):takeSpecial e p (word "weigh") l=(take (.sign 40) l >>= λl1=>takeWeight l1 >>= λf=>take (.sign 44) f.2 >>= λl2=>e l2 >>= λa=>take (.sign 41) a.2 >>= λl3=> .ok (.weigh p f.1 a.1,l3)):=rfl
def rq (x:Except Fault α) (f:α->Except Fault β) (g:β->γ):(x >>= f).map g=(x >>= λa=>(f a).map g):=by cases x <;> rfl
def KC (e:Reader) (p:Nat) (l:Toks):takeSpecial e p (word "given") l=(partsOf e 2 l >>= λx=>match x.1 with | [a,b]=> .ok (.given p a b,x.2) | _=> .error #[0,0]):=by
 have:takeSpecial e p (word "given") l=(inTwo e l).map λx=>(.given p x.1.1 x.1.2,x.2):=rfl;rw [this,kJ,rq];refine aS λx=>?_;ext x l1 l2;rcases l1 with _ | ⟨a,_ | ⟨b,_ | ⟨d,_ | _⟩⟩⟩ <;> rfl
def Su (e:Reader) (p:Nat) (l:Toks):takeSpecial e p (word "if") l=(partsOf e 3 l >>= λx=>match x.1 with | [a,b,d]=> .ok (.cond p a b d,x.2) | _=> .error #[0,0]):=by
 have:takeSpecial e p (word "if") l=(inThree e l).map λx=>(.cond p x.1.1 x.1.2.1 x.1.2.2,x.2):=rfl;rw [this,lh,rq];refine aS λx=>?_;ext x l1 l2;rcases l1 with _ | ⟨a,_ | ⟨b,_ | ⟨d,_ | _⟩⟩⟩ <;> rfl
def Sv {e:Reader} {p:Nat} {w:Bytes} {o:Vaprbb.Un} (h:unOf w=some o) (l:Toks):takeCall e p w l=(partsOf e 1 l >>= λx=>match x.1 with | [a]=> .ok (.un p o a,x.2) | _=> .error #[0,0]):=by
 have:takeCall e p w l=(inOne e l).map λx=>(.un p o x.1,x.2):=by unfold takeCall;rw [h]
 rw [this,pK,rq];refine aS λx=>?_;ext x l1 l2;rcases l1 with _ | ⟨a,_ | ⟨b,_ | ⟨d,_ | _⟩⟩⟩ <;> rfl
def P7 {e:Reader} {p:Nat} {w:Bytes} {o:Vaprbb.Bin} (h:unOf w=none) (h2:binOf w=some o) (l:Toks):takeCall e p w l=(partsOf e 2 l >>= λx=>match x.1 with | [a,b]=> .ok (.bin p o a b,x.2) | _=> .error #[0,0]):=by
 have:takeCall e p w l=(inTwo e l).map λx=>(.bin p o x.1.1 x.1.2,x.2):=by unfold takeCall;rw [h,h2]
 rw [this,kJ,rq];refine aS λx=>?_;ext x l1 l2;rcases l1 with _ | ⟨a,_ | ⟨b,_ | ⟨d,_ | _⟩⟩⟩ <;> rfl
def M9 {e:Reader} {p:Nat} {w:Bytes} (h:unOf w=none) (h2:binOf w=none) (hl:next (.sign 40) l=true):takeCall e p w l=((take (.sign 40) l >>= λl1=>if next (.sign 41) l1=true then .ok (.nil,l1.drop 1) else takeArgs e (l1.length+1) 0 l1) >>= λx=> .ok (.call p w x.1,x.2)):=by
 have htk:take (.sign 40) l= .ok (l.drop 1):=by unfold take;rw [ah hl]
 rw [htk];unfold takeCall;rw [h,h2];show (if next (.sign 41) (l.drop 1)=true then _ else _)=((if next (.sign 41) (l.drop 1)=true then _ else _) >>= _);split
 . rfl
 . cases takeArgs e ((l.drop 1).length+1) 0 (l.drop 1) <;> rfl
def Iq {o:Vaprbb.Un} (h:unOf b=some o):unName o=b:=by
 obtain ⟨x,h1,h2⟩:=gC.mp h;have hm:=lu h1;have hp:=vZ h1;have hp:word x.1=b:= ~~~hp
 subst h2 hp;simp only [unNames,aF,dv,ju] at hm;rcases hm with rfl | rfl | rfl <;> rfl
def FO {o:Vaprbb.Bin} (h:binOf b=some o):binName o=b:=by
 obtain ⟨x,h1,h2⟩:=gC.mp h;have hm:=lu h1;have hp:=vZ h1;have hp:word x.1=b:= ~~~hp
 subst h2 hp;simp only [binNames,aF,dv,ju] at hm;rcases hm with rfl | rfl | rfl | rfl | rfl | rfl | rfl | rfl | rfl | rfl <;> rfl
def mE {s:String} {x:Str} (hs:aR (word s)=x) (b:Bytes):decide ((Sum.inr x:Key)= .inr (aR b))=(word s == b):=by
 rw [b8,dr,bO,<-hs];exists λe=>mx (Sum.inr.inj e),λe=>by rw [e]
def yp (b:Bytes):cq xU (.inr (aR b))=if (unOf b).isSome=true then some (V.int 1) else if (binOf b).isSome=true then some (V.int 2) else none:=by
 by_cases hb:b∈(["neg","abs","not","add","sub","mul","min","max","lt","le","eq","and","or"]:List String).map word
 . exact (by decide+kernel:∀b∈(["neg","abs","not","add","sub","mul","min","max","lt","le","eq","and","or"]:List String).map word,cq xU (.inr (aR b))=if (unOf b).isSome=true then some (V.int 1) else if (binOf b).isSome=true then some (V.int 2) else none) b hb
 have h:∀s∈(["neg","abs","not","add","sub","mul","min","max","lt","le","eq","and","or"]:List String),(word s == b)=false:=λs hs=>c4.mpr λe=>hb (e ▸ List.mem_map_of_mem hs);unfold cq xU unOf binOf unNames binNames;simp only [bF,cB,dW,List.find?_nil];rw [mE (s:= "neg") (x:=Str.ofString "neg") rfl,mE (s:= "abs") (x:=Str.ofString "abs") rfl,mE (s:= "not") (x:=Str.ofString "not") rfl,mE (s:= "add") (x:=Str.ofString "add") rfl,mE (s:= "sub") (x:=Str.ofString "sub") rfl,mE (s:= "mul") (x:=Str.ofString "mul") rfl,mE (s:= "min") (x:=Str.ofString "min") rfl,mE (s:= "max") (x:=Str.ofString "max") rfl,mE (s:= "lt") (x:=Str.ofString "lt") rfl,mE (s:= "le") (x:=Str.ofString "le") rfl,mE (s:= "eq") (x:=Str.ofString "eq") rfl,mE (s:= "and") (x:=Str.ofString "and") rfl,mE (s:= "or") (x:=Str.ofString "or") rfl];simp only [h "neg" ∅,h "abs" ∅,h "not" ∅,h "add" ∅,h "sub" ∅,h "mul" ∅,h "min" ∅,h "max" ∅,h "lt" ∅,h "le" ∅,h "eq" ∅,h "and" ∅,h "or" ∅];rfl
def Jn {l:List α} (h:l.length=1):∃a,l= [a]:=by
 match l,h with
 | [a],_=>exists a,U
def Ir {l:List α} (h:l.length=2):∃a b,l= [a,b]:=by
 match l,h with
 | [a,b],_=>exists a,b,U
def Sw {l:List α} (h:l.length=3):∃a b d,l= [a,b,d]:=by
 match l,h with
 | [a,b,d],_=>exists a,b,d,U
inductive mG (n:Nat): #v[0] | mk {K c vs H Q E:_} r l tk p w:vs= [.ref r,.ref tk,.int (23 - (n:Int))]->ji c H tk #[p,.name w]->(["if","flip","pick","uniform","given","weigh"].map word).contains w=true->bS c H r l->aQ c.cf E r H (takeSpecial (takeExpr n) p w l) (Ky K c H r Q)->mG n K c vs H Q E
abbrev oa (n:Nat):=AA.hF (10+4*n+1) "read_built_in" ["reader","first","around"] (mG n)
theorem wK (n:Nat) (jj:nq AA n) (DY:xA AA n) (Cq:uH AA n):oa AA n:=by
 nomatch ["reader","first","around"]
 ext h r l tk p w rfl hA hw hR q;nomatch 2,bJ,gI (a_ AA) (aH ?_ (aH ?_ (aH ?_ (aH (di ?_) ?_)))),dw jj ?_,bJ,gI (a_ AA) (aH ?_ (aH ?_ (aH ?_ (aH (di ?_) ?_)))),dw jj ?_,bJ,Cm,bJ,xX,bJ,dw Cq ?_,dw DY ?_
 obtain ⟨bh,dt,ht⟩:=id hA;simp only [bF,cB,fO,lJ,ir,lN,bO] at hw;have no:∀(A B:Prop) (b:Bool),b=false->B->if b=true then A else B:=λA B b h x=>by rw [h];exact x
 refine fr ht U #[U,_,U,?_];rcases hw with rfl | rfl | rfl | rfl | rfl | rfl
 ·
  refine bC rfl ?_
  rw [Su] at q
  exists r,l,3,U,∅,∅,hR,aQ.go q Sb.refl λx e q pl ps H1 fp DZ s1 dL=>?_
  ext x x1 l1
  obtain ⟨e1,e2,e3,rfl⟩:=Sw (kK ∅ e)
  have g6:=DZ.len
  obtain ⟨v1,v2,v3,rfl⟩:=Sw (l:=ps) g6
  exists aD _,λD2 eP=>#[D2,_,U,aa,au,λo2=>?_]
  obtain ⟨rJ,yo⟩:=oB (xs:= []) (o:=o2) eP
  refine iZ C ((hA.mono C (hR.Y s1)).mono C rJ.Y) λy H6 ny s6 #[dx,hy]=>?_
  have jw:=rJ.trans s6
  exact q y H6 #[y,pl,v1,v2,v3,rfl,#[dx,D2,.cx,[],hy,rfl,yo.mono (c:=c) s6.Y,au],fp.mono (c:=c) jw.Y,DZ.1.Y C jw.Y,DZ.2.1.Y C jw.Y,DZ.2.2.1.Y C jw.Y] (s1.trans jw.sb) (dL.sb C jw)
 ·
  refine aE rfl ?_
  rw [M7] at q
  refine fr ht U #[U,_,U,aE U ?_]
  refine fr ht U #[U,_,U,bC U ?_]
  exists r,l,tk,p,U,hA,hR,q
 ·
  refine aE rfl ?_
  rw [M8] at q
  refine fr ht U #[U,_,U,aE U ?_]
  refine fr ht U #[U,_,U,aE U ?_]
  refine fr ht U #[U,_,U,aE U ?_]
  refine fr ht U #[U,_,U,aE U ?_]
  exists r,l,tk,p,U,hA,hR,q
 ·
  refine aE rfl ?_
  rw [FM] at q
  refine fr ht U #[U,_,U,aE U ?_]
  refine fr ht U #[U,_,U,aE U ?_]
  refine fr ht U #[U,_,U,bC U ?_]
  exists r,l,tk,p,U,hA,hR,q
 ·
  refine aE rfl ?_
  rw [KC] at q
  refine fr ht U #[U,_,U,bC U ?_]
  exists r,l,2,U,∅,∅,hR,aQ.go q Sb.refl λx e q pl ps H1 fp DZ s1 dL=>?_
  ext x x1 l1
  obtain ⟨e1,e2,rfl⟩:=Ir (kK ∅ e)
  have g6:=DZ.len
  obtain ⟨v1,v2,rfl⟩:=Ir (l:=ps) g6
  exists aD _,λD2 eP=>#[D2,_,U,aa,au,λo2=>?_]
  obtain ⟨rJ,yo⟩:=oB (xs:= []) (o:=o2) eP
  refine iZ C ((hA.mono C (hR.Y s1)).mono C rJ.Y) λy H6 ny s6 #[dx,hy]=>?_
  have jw:=rJ.trans s6
  exact q y H6 #[y,pl,v1,v2,rfl,#[dx,D2,.cx,[],hy,rfl,yo.mono (c:=c) s6.Y,au],fp.mono (c:=c) jw.Y,DZ.1.Y C jw.Y,DZ.2.1.Y C jw.Y] (s1.trans jw.sb) (dL.sb C jw)
 ·
  refine aE rfl ?_
  rw [KB] at q
  refine fr ht U #[U,_,U,aE U ?_]
  refine fr ht U #[U,_,U,aE U ?_]
  refine fr ht U #[U,_,U,aE U ?_]
  refine fr ht U #[U,_,U,bC U ?_]
  exists r,l,tk,p,U,hA,hR,q
def P8 {X:Cx} {ss:List Stmt}:tR X ss (λ_ _ _=>False):=λ_ _ _ _ _ _ h=>h.elim
def P9 {o:Vaprbb.Un} (h:unOf b=some o):cq xU (.inr (aR b))=some (V.int 1):=by rw [yp,h];rfl
def M_ {o:Vaprbb.Bin} (h:unOf b=none) (h2:binOf b=some o):cq xU (.inr (aR b))=some (V.int 2):=by rw [yp,h,h2];rfl
def P_ (h:unOf b=none) (h2:binOf b=none):cq xU (.inr (aR b))=none:=by rw [yp,h,h2];rfl
def M' (n p:Nat) (w:Bytes) (l:Toks):takeExpr (n+1) (#[p,.name w] :: l)=if w=word "true" then .ok (.lit p (.flag true),l) else if w=word "false" then .ok (.lit p (.flag false),l) else if RESERVED.contains w=true then takeSpecial (takeExpr n) p w l else if next (.sign 40) l=true then takeCall (takeExpr n) p w l else .ok (.name p w,l):=rfl
def D0 {w:Bytes} (h:(["if","flip","pick","uniform","given","weigh"].map word).contains w=true):RESERVED.contains w=true/\w≠word "true" /\w≠word "false" :=by
 simp only [bF,cB,fO,lJ,ir,lN,bO] at h;rcases h with rfl | rfl | rfl | rfl | rfl | rfl <;> decide
def G_ {H2 H6:Hp} {D2 y:Addr} (C:CT K c) (he:∀vs,(∃a pl,vs= [.ref a]/\Node K c H6 a pl e/\FL H6 pl [])->kh K c H6 e vs) (hF:DS e= []) (hB:Sr K H6 .cx e) (fD:FL H1 D []) (yo:FL H2 D2 []) (i1:bW c H1 H6) (i2:bW c H2 H6) (hy:H6 y=some (.ins c.ex dx (QH e D D2 .cx))):iH K c H6 (.ref y) e:=
 he _ #[y,D,rfl,#[dx,D2,.cx,[],hy,hB,yo.mono i2,by rw [hF];exact au],fD.mono i1]
theorem tq (m:Nat) (wL:mD AA n) (xY:oa AA n) (jj:nq AA n) (hm:m=n+1):cE AA m:=by
 nomatch ["reader","around","first"]
 subst hm;ext h r l rfl hR q;nomatch 2,2,aU,bJ,T.wF,iJ,eY,bJ,iB T.o8,gI (a_ AA) (aH ?_ (aH ?_ (aH (di ?_) (aH (di ?_) ?_)))),eD,fG T.yZ,gI (a_ AA) (aH ?_ (aH ?_ (aH (di ?_) (aH (di ?_) ?_)))),eD,fG T.sQ,dw xY ?_,cT,gI (a_ AA) (aH ?_ (aH ?_ (aH (di ?_) (aH (di ?_) ?_)))),B_,fG T.jh,gI (a_ AA) (aH ?_ (aH ?_ (aH ?_ (aH (di ?_) ?_)))),dw jj ?_,DA (fG T.jh) (b_ (pv 2)) (λ_ _=>rfl),gI (a_ AA) (aH ?_ (aH ?_ (aH ?_ (aH (di ?_) ?_)))),dw wL ?_
 ext hR.zi.ne ⟨p,tk⟩ l' rfl;have ar:(24 - ((n+1:Nat):Int))=23 - (n:Int):=by lia
 refine hR.me #[r,_,l',U,hR,λa hA=>?_];obtain ⟨bh,da,ha⟩:=id hA;exists U,_,U,aE (dG λz=>by have:=V.int.inj z;lia) ?_;exists a,_,U,hA,hR.zi.wf,_,U,?_;have xb:=pM #[p,tk] l';by_cases hb:FH tk=false
 . refine bC (by show (!FH tk)=true;rw [hb];rfl) ?_;rw [jY (xb.trans hb)] at q;refine fr ha U #[_,_,U,ml.go q Sb.refl]
 have hb:FH tk=true:= ~~~hb
 refine aE (by show (!FH tk)=false;rw [hb];rfl) ?_;have hh:tk≠ .halt_:=λz=>by subst z;cases hb
 refine hR.me #[r,_,l',U,hR,hh,λa' H1 _ s1 dL=>?_];have i1:=hR.Y s1;have DZ:=hA.mono C i1;obtain ⟨bh,da,ha⟩:=id DZ;refine fr ha U #[U,_,U,?_];rw [zk];cases tk with
 | sign k=>cases hb
 | halt_=>cases hb
 | num k=>
  refine bC rfl ?_;have q:Ky K c H r Q (.lit p (.num k),l'):=q;exists aD _,λD hD=>#[D,_,U,aa,au,λo=>?_];obtain ⟨sD,fD⟩:=oB (xs:= []) (o:=o) hD;exists aD _,λD2 eP=>#[D2,_,U,aa,au,λo2=>?_];obtain ⟨rJ,yo⟩:=oB (xs:= []) (o:=o2) eP;have ss:=sD.trans rJ;refine iZ C (DZ.mono C ss.Y) λy H6 ny s6 #[dx,hy]=>?_;have jw:=ss.trans s6;exact q y H6 (G_ C (λ_ z=>z) rfl rfl fD yo (rJ.trans s6).Y s6.Y hy) (s1.trans jw.sb) (dL.sb C jw)
 | name b=>
  refine aE rfl ?_;rw [M'] at q;have i1:=rp hR.zi.wf _ Bs;have i2:=rp hR.zi.wf _ zp;refine fr ha U #[g.truths,_,U,.inr (T.y4.sq _),U,gv _,_,U,?_];rw [ae aO];refine bG (λe1=>?_) λe1=>?_
  . have hbt:b=word "true" \/b=word "false" :=by
     have:=i1.symm.trans e1;have:(["true","false"].map word).contains b=true:=this;simpa [fO] using this
    exists aD _,λD hD=>#[D,_,U,aa,au,λo=>?_];obtain ⟨sD,fD⟩:=oB (xs:= []) (o:=o) hD;exists aD _,λD2 eP=>#[D2,_,U,aa,au,λo2=>?_];obtain ⟨rJ,yo⟩:=oB (xs:= []) (o:=o2) eP;have ss:=sD.trans rJ;refine iZ C (DZ.mono C ss.Y) λy H6 ny s6 #[dx,hy]=>?_;have jw:=ss.trans s6;rcases hbt with rfl | rfl
    . rw [ah rfl] at q;have q:Ky K c H r Q (.lit p (.flag true),l'):=q;exact q y H6 (G_ C (λ_ z=>z) rfl rfl fD yo (rJ.trans s6).Y s6.Y hy) (s1.trans jw.sb) (dL.sb C jw)
    . rw [ae ∅,ah rfl] at q;have q:Ky K c H r Q (.lit p (.flag false),l'):=q;exact q y H6 (G_ C (λ_ z=>z) rfl rfl fD yo (rJ.trans s6).Y s6.Y hy) (s1.trans jw.sb) (dL.sb C jw)
  have hbt:b≠word "true" /\b≠word "false" :=by
   have:=i1.symm.trans e1;have:(["true","false"].map word).contains b=false:=this;simpa [fO] using this
  rw [ae hbt.1,ae hbt.2] at q;refine fr ha U #[g.builtin,_,U,.inr (T.sU.sq _),U,gv _,_,U,?_];rw [ae aO];refine bG (λe2=>?_) λe2=>?_
  . have hw:(["if","flip","pick","uniform","given","weigh"].map word).contains b=true:=i2.symm.trans e2;rw [ah (D0 hw).1] at q;exists r,l',a,p,b,by rw [ar];rfl,DZ,hw,dL,?_;exact aQ.imp (aQ.on q s1) λx _ k a2 H2 h2 s2 dR=>k a2 H2 h2 (s1.trans s2) dR
  have hw:(["if","flip","pick","uniform","given","weigh"].map word).contains b=false:=i2.symm.trans e2;have hnr:¬RESERVED.contains b=true:=by
   rw [G9] at hb;have hb:(false || (!VaprbBase.RESERVED.contains b || ((["true","false"].map word).contains b || (["if","flip","pick","uniform","given","weigh"].map word).contains b)))=true:=hb;rw [hw,show (["true","false"].map word).contains b=false from i1.symm.trans e1] at hb;simpa using hb
  rw [ae hnr] at q;refine dL.me #[r,l',_,_,U,xj,dL,_,U,?_];cases hn:next (.sign 40) l' with
  | false=>
   refine bC rfl ?_;rw [hn,ae aO] at q;have q:Ky K c H r Q (.name p b,l'):=q;exists aD _,λD hD=>#[D,_,U,aa,au,λo=>?_];obtain ⟨sD,fD⟩:=oB (xs:= []) (o:=o) hD;exists aD _,λD2 eP=>#[D2,_,U,aa,au,λo2=>?_];obtain ⟨rJ,yo⟩:=oB (xs:= []) (o:=o2) eP;have ss:=sD.trans rJ;refine iZ C (DZ.mono C ss.Y) λy H6 ny s6 #[dx,hy]=>?_;have jw:=ss.trans s6;exact q y H6 (G_ C (λ_ z=>z) rfl rfl fD yo (rJ.trans s6).Y s6.Y hy) (s1.trans jw.sb) (dL.sb C jw)
  | true=>
   refine aE rfl ?_;rw [hn,ah rfl] at q;refine fr ha U #[g.ops,xU,.inr (aR b),U,U,T.DF,_,U,?_];cases hu:unOf b with
   | some o=>
    have ov:=P9 hu;refine bC (by rw [ov];rfl) ?_;rw [Sv hu] at q;refine fr ha U #[g.ops,xU,.inr (aR b),_,U,U,T.DF,ov,r,l',1,by rw [ar];rfl,∅,∅,dL,aQ.go q s1 λx e q pl ps H2 fp Ov s2 dR=>?_];ext x x1 l1;obtain ⟨e1,rfl⟩:=Jn (kK ∅ e);obtain ⟨v1,rfl⟩:=Jn (l:=ps) Ov.len;exists aD _,λD2 eP=>#[D2,_,U,aa,au,λo2=>?_];obtain ⟨rJ,yo⟩:=oB (xs:= []) (o:=o2) eP;refine iZ C ((DZ.mono C (dL.Y s2)).mono C rJ.Y) λy H6 ny s6 #[dx,hy]=>?_;have jw:=rJ.trans s6;have hy:H6 y=some (.ins c.ex dx (QH (.un p o e1) pl D2 .cx)):=by
     unfold QH;show _=some (HO.ins c.ex dx [_,(_,V.str (aR (unName o))),_,_,_,_,_]);rw [Iq hu];exact hy
    exact q y H6 #[y,pl,v1,rfl,#[dx,D2,.cx,[],hy,rfl,yo.mono (c:=c) s6.Y,au],fp.mono (c:=c) jw.Y,Ov.1.Y C jw.Y] ((s1.trans s2).trans jw.sb) (dR.sb C jw)
   | none=>
    cases hv:binOf b with
    | some o=>
     have ov:=M_ hu hv;refine bC (by rw [ov];rfl) ?_;rw [P7 hu hv] at q;refine fr ha U #[g.ops,xU,.inr (aR b),_,U,U,T.DF,ov,r,l',2,by rw [ar];rfl,∅,∅,dL,aQ.go q s1 λx e q pl ps H2 fp Ov s2 dR=>?_];ext x x1 l1;obtain ⟨e1,e2,rfl⟩:=Ir (kK ∅ e);obtain ⟨v1,v2,rfl⟩:=Ir (l:=ps) Ov.len;exists aD _,λD2 eP=>#[D2,_,U,aa,au,λo2=>?_];obtain ⟨rJ,yo⟩:=oB (xs:= []) (o:=o2) eP;refine iZ C ((DZ.mono C (dL.Y s2)).mono C rJ.Y) λy H6 ny s6 #[dx,hy]=>?_;have jw:=rJ.trans s6;have hy:H6 y=some (.ins c.ex dx (QH (.bin p o e1 e2) pl D2 .cx)):=by
      unfold QH;show _=some (HO.ins c.ex dx [_,(_,V.str (aR (binName o))),_,_,_,_,_]);rw [FO hv];exact hy
     exact q y H6 #[y,pl,v1,v2,rfl,#[dx,D2,.cx,[],hy,rfl,yo.mono (c:=c) s6.Y,au],fp.mono (c:=c) jw.Y,Ov.1.Y C jw.Y,Ov.2.1.Y C jw.Y] ((s1.trans s2).trans jw.sb) (dR.sb C jw)
    | none=>
     have ov:=P_ hu hv;refine aE (by rw [ov];rfl) ?_;rw [M9 hu hv hn] at q;exists r,l',by rw [ar];rfl,dL,aQ.go q s1 λx e q pl ps H2 fp Ov s2 dR=>?_;exists aD _,λD2 eP=>#[D2,_,U,aa,au,λo2=>?_];obtain ⟨rJ,yo⟩:=oB (xs:= []) (o:=o2) eP;refine iZ C ((DZ.mono C (dL.Y s2)).mono C rJ.Y) λy H6 ny s6 #[dx,hy]=>?_;have jw:=rJ.trans s6;exact q y H6 #[y,pl,ps,rfl,#[dx,D2,.cx,[],hy,rfl,yo.mono (c:=c) s6.Y,au],fp.mono (c:=c) jw.Y,Ov.Y C jw.Y] ((s1.trans s2).trans jw.sb) (dR.sb C jw)
theorem pT:cE AA 0:=by
 nomatch ["reader","around","first"]
 ext h r l rfl hR q;nomatch tV ?_ (tV ?_ P8),2,aU,bJ,T.wF
 ext hR.zi.ne t l' rfl;refine hR.me #[r,_,l',U,hR,λa #[bh,da,ha]=>?_];exists U,_,U,bC U ?_;refine fr ha U #[_,_,U,ml.go q Sb.refl]
theorem dN:∀n,cE AA n
 | 0=>pT AA
 | n+1=>by
  have e:=dN n;have p:=Aq AA n e;have a:=uF AA n e;have g:=Ar AA n e;have y:=DW AA n e;have k:=Cp AA n y;have b:=wK AA n p k g;exact tq AA (n+1) a b p rfl
inductive eI: #v[0] | mk {K c vs H Q E:_} x dx tk t v1:vs= [.ref x,.ref tk,v1]->H x=some (.ins c.par dx [])->ji c H tk t->(∀H':Hp,H' x=some (.ins c.par dx [("name",.str (wordOf t.tok)),("place",.int t.place),("kind",v1)])->(∀b o,H b=some o->b≠x->H' b=some o)->Q .cx H')->eI K c vs H Q E
def oC:AA.c0 1 c.par "Parameter" ["self","token","kind"] eI:=by
 refine AA.i0 AA.iE (N:= ["self","token","kind"]) λT C FT H Q E nN hr h=>?_;ext h x dx tk t v1 rfl hx ⟨bh,dt,ht⟩ k;nomatch 2
 have ne:tk≠x:=λz=>by rw [z,hx] at ht;have:=(HO.ins.inj (bE ht)).2.2;cases this
 refine fr ht U (fw hx ?_);refine fr ((aA ne).trans ht) U (fw aa ?_);refine fw aa ?_;exact k _ aa λb o e ne=>by rw [aA ne,aA ne,aA ne];exact e
def Nb (C:CT K c) (ht:ji c H tk t) (k:∀x H',H x=none->aq H H'->(∃dx,H' x=some (.ins c.par dx [("name",.str (wordOf t.tok)),("place",.int t.place),("kind",v1)]))->Q (.ref x) H'):
 ∀x dx,H x=none->H dx=none->dx≠x->eI K c (.ref x :: ([.ref tk,v1]++ [])) (upd (upd H dx (.own x)) x (.ins c.par dx [])) (λv H2=>v= .cx/\Q (.ref x) H2) E:=
 λx dx nx nd _=>#[x,dx,tk,t,v1,rfl,aa,ht.mono C ((aq.upd nd).bM nx).Y,λH' e kp=>#[rfl,k x H' nx (aq.made nx nd kp) #[dx,e]]]
inductive eZ: #v[0] | mk {K c vs H Q E:_} x dx tk t v1 v2 v3:vs= [.ref x,.ref tk,v1,v2,v3]->H x=some (.ins c.fn dx [])->ji c H tk t->(∀H':Hp,H' x=some (.ins c.fn dx [("name",.str (wordOf t.tok)),("place",.int t.place),("parameters",v1),("kind",v2),("body",v3)])->(∀b o,H b=some o->b≠x->H' b=some o)->Q .cx H')->eZ K c vs H Q E
def pV:AA.c0 1 c.fn "Function" ["self","token","parameters","kind","body"] eZ:=by
 refine AA.i0 AA.jb (N:= ["self","token","parameters","kind","body"]) λT C FT H Q E nN hr h=>?_;ext h x dx tk t v1 v2 v3 rfl hx ⟨bh,dt,ht⟩ k;nomatch 2
 have ne:tk≠x:=λz=>by rw [z,hx] at ht;have:=(HO.ins.inj (bE ht)).2.2;cases this
 refine fr ht U (fw hx ?_);refine fr ((aA ne).trans ht) U (fw aa ?_);refine fw aa ?_;refine fw aa ?_;refine fw aa ?_;exact k _ aa λb o e ne=>by rw [aA ne,aA ne,aA ne,aA ne,aA ne];exact e
def P' (C:CT K c) (ht:ji c H tk t) (k:∀x H',H x=none->aq H H'->(∃dx,H' x=some (.ins c.fn dx [("name",.str (wordOf t.tok)),("place",.int t.place),("parameters",v1),("kind",v2),("body",v3)]))->Q (.ref x) H'):
 ∀x dx,H x=none->H dx=none->dx≠x->eZ K c (.ref x :: ([.ref tk,v1,v2,v3]++ [])) (upd (upd H dx (.own x)) x (.ins c.fn dx [])) (λv H2=>v= .cx/\Q (.ref x) H2) E:=
 λx dx nx nd _=>#[x,dx,tk,t,v1,v2,v3,rfl,aa,ht.mono C ((aq.upd nd).bM nx).Y,λH' e kp=>#[rfl,k x H' nx (aq.made nx nd kp) #[dx,e]]]
inductive i5: #v[0] | mk {K c vs H Q E:_} x dx tk t v1 v2:vs= [.ref x,.ref tk,v1,v2]->H x=some (.ins c.mj dx [])->ji c H tk t->(∀H':Hp,H' x=some (.ins c.mj dx [("name",.str (wordOf t.tok)),("place",.int t.place),("written",v1),("expression",v2)])->(∀b o,H b=some o->b≠x->H' b=some o)->Q .cx H')->i5 K c vs H Q E
def xZ:AA.c0 1 c.mj "Let" ["self","token","written","expression"] i5:=by
 refine AA.i0 AA.o_ (N:= ["self","token","written","expression"]) λT C FT H Q E nN hr h=>?_;ext h x dx tk t v1 v2 rfl hx ⟨bh,dt,ht⟩ k;nomatch 2
 have ne:tk≠x:=λz=>by rw [z,hx] at ht;have:=(HO.ins.inj (bE ht)).2.2;cases this
 refine fr ht U (fw hx ?_);refine fr ((aA ne).trans ht) U (fw aa ?_);refine fw aa ?_;refine fw aa ?_;exact k _ aa λb o e ne=>by rw [aA ne,aA ne,aA ne,aA ne];exact e
def KD (C:CT K c) (ht:ji c H tk t) (k:∀x H',H x=none->aq H H'->(∃dx,H' x=some (.ins c.mj dx [("name",.str (wordOf t.tok)),("place",.int t.place),("written",v1),("expression",v2)]))->Q (.ref x) H'):
 ∀x dx,H x=none->H dx=none->dx≠x->i5 K c (.ref x :: ([.ref tk,v1,v2]++ [])) (upd (upd H dx (.own x)) x (.ins c.mj dx [])) (λv H2=>v= .cx/\Q (.ref x) H2) E:=
 λx dx nx nd _=>#[x,dx,tk,t,v1,v2,rfl,aa,ht.mono C ((aq.upd nd).bM nx).Y,λH' e kp=>#[rfl,k x H' nx (aq.made nx nd kp) #[dx,e]]]
inductive fJ: #v[0] | mk {K c vs H Q E:_} x dx v1:vs= [.ref x,v1]->H x=some (.ins c.obs dx [])->(∀H':Hp,H' x=some (.ins c.obs dx [("expression",v1)])->(∀b o,H b=some o->b≠x->H' b=some o)->Q .cx H')->fJ K c vs H Q E
def rK:AA.c0 1 c.obs "Observe" ["self","expression"] fJ:=by
 refine AA.i0 AA.jL (N:= ["self","expression"]) λT C FT H Q E nN hr h=>?_;ext h x dx v1 rfl hx k;nomatch 1
 refine fw hx ?_;exact k _ aa λb o e ne=>by rw [aA ne];exact e
def Nc (k:∀x H',H x=none->aq H H'->(∃dx,H' x=some (.ins c.obs dx [("expression",v1)]))->Q (.ref x) H'):
 ∀x dx,H x=none->H dx=none->dx≠x->fJ K c (.ref x :: ([v1]++ [])) (upd (upd H dx (.own x)) x (.ins c.obs dx [])) (λv H2=>v= .cx/\Q (.ref x) H2) E:=
 λx dx nx nd _=>#[x,dx,v1,rfl,aa,λH' e kp=>#[rfl,k x H' nx (aq.made nx nd kp) #[dx,e]]]
inductive fK: #v[0] | mk {K c vs H Q E:_} x dx v1 v2 v3 v4 v5:vs= [.ref x,v1,v2,v3,v4,v5]->H x=some (.ins c.prog dx [])->(∀H':Hp,H' x=some (.ins c.prog dx [("title",v1),("budget",v2),("functions",v3),("statements",v4),("told",v5)])->(∀b o,H b=some o->b≠x->H' b=some o)->Q .cx H')->fK K c vs H Q E
def rL:AA.c0 1 c.prog "Program" ["self","title","budget","functions","statements","told"] fK:=by
 refine AA.i0 AA.jM (N:= ["self","title","budget","functions","statements","told"]) λT C FT H Q E nN hr h=>?_;ext h x dx v1 v2 v3 v4 v5 rfl hx k;nomatch 2
 refine fw hx ?_;refine fw aa ?_;refine fw aa ?_;refine fw aa ?_;refine fw aa ?_;exact k _ aa λb o e ne=>by rw [aA ne,aA ne,aA ne,aA ne,aA ne];exact e
def KE (k:∀x H',H x=none->aq H H'->(∃dx,H' x=some (.ins c.prog dx [("title",v1),("budget",v2),("functions",v3),("statements",v4),("told",v5)]))->Q (.ref x) H'):
 ∀x dx,H x=none->H dx=none->dx≠x->fK K c (.ref x :: ([v1,v2,v3,v4,v5]++ [])) (upd (upd H dx (.own x)) x (.ins c.prog dx [])) (λv H2=>v= .cx/\Q (.ref x) H2) E:=
 λx dx nx nd _=>#[x,dx,v1,v2,v3,v4,v5,rfl,aa,λH' e kp=>#[rfl,k x H' nx (aq.made nx nd kp) #[dx,e]]]
inductive gi: #v[0] | mk {K c vs H Q E:_} x dx v1 v2 v3 v4:vs= [.ref x,v1,v2,v3,v4]->H x=some (.ins c.GV dx [])->(∀H':Hp,H' x=some (.ins c.GV dx [("title",v1),("lets",v2),("functions",v3),("parameters",v4)])->(∀b o,H b=some o->b≠x->H' b=some o)->Q .cx H')->gi K c vs H Q E
def j2:AA.c0 1 c.GV "Naming" ["self","title","lets","functions","parameters"] gi:=by
 refine AA.i0 AA.kE (N:= ["self","title","lets","functions","parameters"]) λT C FT H Q E nN hr h=>?_;ext h x dx v1 v2 v3 v4 rfl hx k;nomatch 2
 refine fw hx ?_;refine fw aa ?_;refine fw aa ?_;refine fw aa ?_;exact k _ aa λb o e ne=>by rw [aA ne,aA ne,aA ne,aA ne];exact e
def G' (k:∀x H',H x=none->aq H H'->(∃dx,H' x=some (.ins c.GV dx [("title",v1),("lets",v2),("functions",v3),("parameters",v4)]))->Q (.ref x) H'):
 ∀x dx,H x=none->H dx=none->dx≠x->gi K c (.ref x :: ([v1,v2,v3,v4]++ [])) (upd (upd H dx (.own x)) x (.ins c.GV dx [])) (λv H2=>v= .cx/\Q (.ref x) H2) E:=
 λx dx nx nd _=>#[x,dx,v1,v2,v3,v4,rfl,aa,λH' e kp=>#[rfl,k x H' nx (aq.made nx nd kp) #[dx,e]]]
inductive mH: #v[0] | mk {K c vs H Q E:_} x dx v1 v2 v3:vs= [.ref x,v1,v2,v3]->H x=some (.ins c.call dx [])->(∀H':Hp,H' x=some (.ins c.call dx [("number",v1),("asked",v2),("text",v3)])->(∀b o,H b=some o->b≠x->H' b=some o)->Q .cx H')->mH K c vs H Q E
def hX:AA.c0 1 c.call "Call" ["self","number","asked","text"] mH:=by
 refine AA.i0 AA.nV (N:= ["self","number","asked","text"]) λT C FT H Q E nN hr h=>?_;ext h x dx v1 v2 v3 rfl hx k;nomatch 2
 refine fw hx ?_;refine fw aa ?_;refine fw aa ?_;exact k _ aa λb o e ne=>by rw [aA ne,aA ne,aA ne];exact e
def bS.new {x tl:Addr} (h:Ci c H tl l) (ht:Tks l) (e:∃dx,H x=some (.ins c.rd dx [("tokens",.ref tl),("taken",.int 0)])):bS c H x l:=by
 ext h vs f a z;ext e dx e;exists dx,tl,vs,0,e,f,a,ht,z
theorem Ci.Y {tl:Addr} (C:CT K c) (h:Ci c H tl l) (i:bW c H H'):Ci c H' tl l:=let #[vs,f,a,z]:=h;#[vs,f.mono i,a.mono λ_ _ q=>q.mono C i,z]
inductive iL: #v[0] | mk {K c vs H Q E:_} r l cnt most:vs= [.ref r,.int cnt,.int most]->bS c H r l->(cnt≠most->Q .cx H)->(cnt=most->ml c.cf E r H #[if nameNext l=true then 4 else 3,here l])->iL K c vs H Q E
theorem iM:AA.hF 4 "refuse_more_names" ["reader","count","most"] iL:=by
 nomatch ["reader","count","most"]
 ext h r l cnt most rfl hR q1 q2;nomatch 1,bJ,sX,aU,aU
 ext hR.zi.ne t l' rfl;exists U,_,U,bG (λe1=>?_) λe1=>?_
 . have q:=q2 (~~~e1);rw [DR] at q;refine hR.me #[r,t,l',U,hR,λa ha=>#[a,t,U,ha,hR.zi.wf,_,U,?_]];refine bG (λe2=>?_) λe2=>?_
   . rw [ah e2] at q;refine hR.me #[r,t,l',U,hR,λa #[bh,da,ha]=>?_];exact (fr ha rfl #[_,_,rfl,ml.go q Sb.refl])
   . rw [ae (by rw [e2];exact aO)] at q;refine hR.me #[r,t,l',U,hR,λa #[bh,da,ha]=>?_];exact (fr ha rfl #[_,_,rfl,ml.go q Sb.refl])
 . exact q1 (~~~e1)
inductive pW: #v[0] | mk {K c vs H Q E:_} r l:vs= [.ref r]->bS c H r l->aQ c.cf E r H (takeBudget l) (λx=> ∀H',Sb r H H'->bS c H' r x.2->Q (.int (x.1:Nat)) H')->pW K c vs H Q E
theorem zz:AA.hF 5 "read_budget" ["reader"] pW:=by
 nomatch ["reader","token"]
 ext h r l rfl hR q;nomatch 2,bY,0,1,bZ,eV,iz,T.kt,0
 rw [si] at q;refine hR.me #[r,l,_,_,U,Il,hR,λhn H1 s1 dL=>?_,λhn=>?_]
 . exists _,U,oz ?_;rw [ah hn] at q;refine dL.me #[r,_,U,dL,aQ.go q s1 λy e3 q a2 H3 w2 #[b2,d2,mW] s3 oH=>?_];refine fr mW U #[_,_,U,U,_,U,bG (λe4=>?_) λe4=>?_]
   . have e4:y.1.2 < 0:=qK e4;rw [ah (.inl e4)] at q;refine fr mW U #[_,_,U,ml.go q (s1.trans s3)]
   have e4:¬y.1.2 < 0:=vN e4;refine fr mW U #[_,_,U,U,_,U,bG (λe5=>?_) λe5=>?_]
   . have e5:20 < y.1.2:=qK e5;rw [ah (.inr e5)] at q;refine fr mW U #[_,_,U,ml.go q (s1.trans s3)]
   have e5:¬20 < y.1.2:=vN e5;rw [ae (λz=>z.elim e4 e5)] at q;refine fr mW U ?_;have:=q H3 (s1.trans s3) oH;have hh:((y.1.2.toNat:Nat):Int)=y.1.2:=by lia
   show Q (.int y.1.2) H3;rw [<-hh];exact this
 . exists _,U,oY ?_;rw [ae (by rw [hn];exact aO)] at q;exact q H Sb.refl hR
inductive kP: #v[0] | mk {K c vs H Q E:_} r l:vs= [.ref r]->bS c H r l->aQ c.cf E r H (takeDecl l) (λx=> ∀a H',Cj K c H' (.ref a) x.1->Sb r H H'->bS c H' r x.2->Q (.ref a) H')->kP K c vs H Q E
theorem kQ:AA.hF 6 "read_parameter" ["reader"] kP:=by
 nomatch ["reader","name"]
 ext h r l rfl hR q;nomatch 2,1,cG,gI (oC AA) ?_,ni
 rw [iK] at q;refine hR.me #[r,l,U,hR,aQ.go q Sb.refl λx e1 q a1 H1 w1 ha1 s1 dL=>?_];exists r,_,U,dL,aQ.go q s1 λk e2 q a2 H2 hk s2 dR=>?_;refine Nb C (ha1.mono C (dL.Y s2)) λy H3 ny s3 #[dx,hy]=>?_;exact q y H3 #[y,dx,_,rfl,hy,a2,rfl,g9.Y (c:=c) hk s3.Y] ((s1.trans s2).trans s3.sb) (dR.sb C s3)
inductive j3: #v[0] | mk {K c vs H Q E:_} r l:vs= [.ref r]->bS c H r l->aQ c.cf E r H (pQ l) (λx=> ∀p ps H',FL H' p ps->A2 (Cj K c H') ps x.1->Sb r H H'->bS c H' r x.2->Q (.ref p) H')->j3 K c vs H Q E
theorem tu:AA.hF 7 "read_parameters" ["reader"] j3:=by
 nomatch ["reader","parameters"]
 ext h r l1 rfl hR q;nomatch 2,1,bY,1,cH bN,kQ,bY,iM,aM aJ,T.ku,cH bN,kQ,aL,1
 unfold pQ at q;exists kg,λD hD=>?_;have ss:=aq.upd (o:= .lst ([]:List V)) hD;have dL:=hR.sb C ss;have s1:Sb r H (upd H D (.lst [])):=ss.sb;have hD1:upd H D (.lst []) D=some (.lst []):=aa;revert hD1 dL s1;generalize upd H D (.lst [])=Ye;intro dL s1 hD1;refine dL.me #[r,l1,_,_,U,uB,dL,λhn H2 s2 dR=>?_,λhn=>?_]
 . exists _,U,oY ?_;rw [ah hn] at q;have eP:=s2.at dL hD1;exists D,_,U,eP,au,λo=>?_;exact q D [] _ #[o,aa] au ((s1.trans s2).bM hD) (dR.up C eP rfl)
 exists _,U,oz ?_;rw [ae (by rw [hn];exact aO),ie,ae (λz=>by lia)] at q;exists oA hD1,r,l1,U,dL,aQ.go q s1 λx e2 q a1 H2 hx s2 dR=>?_;have eP:=s2.at dL hD1;have dM:bW c H2 (upd H2 D (.lst ([]++ [.ref a1]))):=bW.upd eP rfl;exists D,[],_,U,U,eP,∅,?_;have hsh:=pS e2;exists λm Z H'=> ∃(vs:List V) (done:List Decl) (l2:Toks) (fu k:Nat),Z= [some (.ref r),some (.ref D)]/\H' D=some (.lst vs)/\A2 (Cj K c H') vs done/\vs.length=k/\k<=4/\m=l2.length/\l2.length < fu+1/\Sb r H H'/\bS c H' r l2/\aQ c.cf E r H (if next (.sign 44) l2=true then takeParams fu k (l2.drop 1) >>= λr=> .ok (done++r.1,r.2) else take (.sign 41) l2 >>= λl3=> .ok (done,l3)) (λx=> ∀p ps H',FL H' p ps->A2 (Cj K c H') ps x.1->Sb r H H'->bS c H' r x.2->Q (.ref p) H'),
  #[_,[.ref a1],[x.1],x.2,l1.length,1,rfl,aa,#[hx.Y C dM,au],rfl,∅,rfl,by lia,(s1.trans s2).bM hD,dR.up C eP rfl,q],?_
 rintro m Z H' ⟨vs,done,l2,fu,k,rfl,mC,hA,hk,VA,rfl,hfu,sb,eh,q⟩;refine eh.me #[r,l2,_,_,U,xk,eh,λhn H2 s2 dR=>?_,λhn=>?_]
 . exists _,U,oY ?_;rw [ah hn] at q;have eP:=s2.at eh mC;obtain ⟨p0,r0,hl2⟩:=next_ne hn;have hdl:(l2.drop 1).length+1=l2.length:=by rw [hl2];rfl
   obtain ⟨fu,rfl⟩:∃j,fu=j+1:=#[fu - 1,by lia];rw [ie] at q;refine dI ?_;exists D,_,U,.inl (cw.of eP),r,_,_,_,U,dR,λk7=>?_,λheq=>?_
   . rw [ae (λz=>by lia),bn] at q;exists oA eP,r,_,U,dR,aQ.go q (sb.trans s2) λy e5 q a2 H4 hy s4 vo=>?_;have oI:=s4.at dR eP;have Ip:=(eh.Y s2).trans (dR.Y s4);have dM:bW c H4 (upd H4 D (.lst (vs++ [.ref a2]))):=bW.upd oI rfl;have hsh:=pS e5;exists D,vs,_,U,U,oI,by have:(4:Nat) < sizeLine:=∅;lia,?_;exists _,?_,vs++ [.ref a2],done++ [y.1],y.2,fu,k+1,U,aa,(hA.mono λ_ _ z=>(z.Y C Ip).Y C dM).snoc (hy.Y C dM),by rw [ao,hk];rfl,by lia,rfl,by lia,((sb.trans s2).trans s4).bM hD,vo.up C oI rfl,?_
     . lia
     . split <;> rename_i hc
       . rw [ah hc,bn] at q;simp only [bz];exact q
       . rw [ae hc,bn] at q;exact q
   . have heq:k=4:=by lia
     subst heq;by_cases hx:nameNext (l2.drop 1)=true
     . rw [ah #[hx,az _]] at q;rw [ah hx];exact ml.on q (sb.trans s2)
     . rw [ae (λz=>hx z.1),iK,kN hx] at q;rw [ae hx];exact ml.on q (sb.trans s2)
 . exists _,U,oz ?_;rw [ae (by rw [hn];exact aO)] at q;refine eh.me #[r,l2,_,_,U,uB,eh,aQ.go q sb λl3 e4 q a t H3 hl ha s3 oH=>?_];have mX:=s3.at eh mC;exists D,_,U,mX,au,λo=>?_;have dM:bW c H3 (upd H3 D (.g8 o (.lst vs))):=bW.upd mX rfl;exact q D vs _ #[o,aa] (hA.mono λ_ _ z=>(z.Y C (eh.Y s3)).Y C dM) ((sb.trans s3).bM hD) (oH.up C mX rfl)
def Nf: [V.ref r,V.int 0]= [V.ref r,V.int (24 - ((24:Nat):Int))]:=rfl
def _root_.L2.Sb.same (s:Sb r H H') (h:H r=none):aq H H':=λb o e=>s b o e (bp e h)
def aN.WR {x:Except Fault α} {ok:α->Prop} (q:aN cf E H x ok) (s:aq H H1) (h:H r=none):aQ cf E r H1 x ok:=by
 cases x with
 | ok a=>exact q
 | error e=>exact λH' s'=>q H' λb o hb=>s' b o (s b o hb) (bp hb h)
inductive mI: #v[0] | mk {K c vs H Q E:_} r l:vs= [.ref r]->bS c H r l->aQ c.cf E r H (takeFun l) (λx=> ∀a H',FJ K c H' (.ref a) x.1->Sb r H H'->bS c H' r x.2->Q (.ref a) H')->mI K c vs H Q E
theorem wM:AA.hF 105 "read_function" ["reader"] mI:=by
 nomatch ["reader","name","parameters","kind","body"]
 ext h r l rfl hR q;nomatch 2,aL,1,cG,aL,2,tu,3,ni,aL,4,dw (dN AA 24) ?_,aL,gI (pV AA) ?_
 rw [sZ] at q;refine hR.me #[r,l,_,_,U,Kp,hR,aQ.go q Sb.refl λl1 e1 q a t H1 hl ha s1 dL=>?_];refine dL.me #[r,l1,U,dL,aQ.go q s1 λx e2 q a1 H2 w1 ha1 s2 dR=>?_];have b2:=s1.trans s2;refine dR.me #[r,_,_,_,U,xj,dR,aQ.go q b2 λl3 e3 q a t H3 hl ha s3 oH=>?_];have b3:=b2.trans s3;exists r,_,U,oH,aQ.go q b3 λps e4 q pl vs H4 fp hA s4 vo=>?_;have b4:=b3.trans s4;exists r,_,U,vo,aQ.go q b4 λk e5 q ka H5 hk s5 FK=>?_;have b5:=b4.trans s5;refine FK.me #[r,_,_,_,U,sw_eq,FK,aQ.go q b5 λl6 e6 q a t H6 hl ha s6 Sx=>?_];have b6:=b5.trans s6;exists r,_,Nf,Sx,aQ.go q b6 λe e7 q ea H7 he s7 Ha=>?_;have b7:=b6.trans s7;refine Ha.me #[r,_,_,_,U,Ko,Ha,aQ.go q b7 λl8 e8 q a t H8 hl ha s8 Sy=>?_];have i8:=Ha.Y s8;have VF:=(Sx.Y s7).trans i8;have Sz:=(FK.Y s6).trans VF;have VG:=(vo.Y s5).trans Sz;have Yj:=(oH.Y s4).trans VG;refine P' C (ha1.mono C ((dR.Y s3).trans Yj)) λy H9 ny s9 #[dx,hy]=>?_;exact q y H9 #[y,dx,pl,_,_,vs,rfl,hy,fp.mono (VG.trans s9.Y),hA.mono λ_ _ z=>z.Y C (VG.trans s9.Y),#[ka,rfl,g9.Y hk (Sz.trans s9.Y)],he.Y C (i8.trans s9.Y)] ((b7.trans s8).trans s9.sb) (Sy.sb C s9)
inductive kR: #v[0] | mk {K c vs H Q E:_} r l:vs= [.ref r]->bS c H r l->aQ c.cf E r H (takeFuns (l.length+1) 0 l) (λx=> ∀p ps H',FL H' p ps->A2 (FJ K c H') ps x.1->Sb r H H'->bS c H' r x.2->Q (.ref p) H')->kR K c vs H Q E
theorem uJ:AA.hF 106 "read_functions" ["reader"] kR:=by
 nomatch ["reader","functions"]
 ext h r l1 rfl hR q;nomatch 2,1,cT,bJ,aM aJ,T.mo,aU,cH bN,wM,1
 exists kg,λD hD=>?_;have ss:=aq.upd (o:= .lst ([]:List V)) hD;exists λm Z H'=> ∃(vs:List V) (done:List Fu) (l2:Toks) (fu k:Nat),Z= [some (.ref r),some (.ref D)]/\H' D=some (.lst vs)/\A2 (FJ K c H') vs done/\vs.length=k/\k<=8/\m=l2.length/\l2.length < fu+1/\Sb r H H'/\bS c H' r l2/\aQ c.cf E r H (takeFuns (fu+1) k l2 >>= λr=> .ok (done++r.1,r.2)) (λx=> ∀p ps H',FL H' p ps->A2 (FJ K c H') ps x.1->Sb r H H'->bS c H' r x.2->Q (.ref p) H'),
  #[_,[],[],l1,l1.length,0,rfl,aa,au,rfl,∅,rfl,by lia,ss.sb,hR.sb C ss,?_],?_
 . cases hq:takeFuns (l1.length+1) 0 l1 with
   | error f=>rw [hq] at q;exact q
   | ok x=>rw [hq] at q;exact q
 rintro m Z H' ⟨vs,done,l2,fu,k,rfl,mC,hA,hk,WQ,rfl,hfu,sb,eh,q⟩;rw [xt] at q;refine eh.me #[r,l2,_,_,U,Kp,eh,_,U,?_];cases hn:next (.name (word "def")) l2 with
 | true=>
  refine bC rfl ?_;rw [hn,ae Bool.noConfusion] at q;refine dI ?_;exists D,_,U,.inl (cw.of mC),U,_,U,bG (λe1=>?_) λe1=>?_
  . have hk:k=8:=by have:(vs.length:Int)=8:=(~~~e1);lia
    rw [ah (by lia)] at q;ext eh.zi.ne t l' rfl;refine eh.me #[r,t,l',U,eh,λa #[bh,da,ha]=>?_];exact (fr ha rfl #[_,_,rfl,ml.go q sb])
  . have hk:k≠8:=λz=>by have:¬(vs.length:Int)=8:=(~~~e1);lia
    rw [ae (by lia),bn] at q;exists oA mC,r,_,U,eh,aQ.go q sb λy e5 q a2 H4 hy s4 vo=>?_;have oI:=s4.at eh mC;have Ip:=eh.Y s4;have dM:bW c H4 (upd H4 D (.lst (vs++ [.ref a2]))):=bW.upd oI rfl;have hsh:=tf e5;exists D,vs,_,U,U,oI,by have:(8:Nat) < sizeLine:=∅;lia,?_;obtain ⟨fu,rfl⟩:∃j,fu=j+1:=#[fu - 1,by lia];exists _,?_,vs++ [.ref a2],done++ [y.1],y.2,fu,k+1,U,aa,(hA.mono λ_ _ z=>(z.Y C Ip).Y C dM).snoc (hy.Y C dM),by rw [ao];show vs.length+1=k+1;lia,by lia,rfl,by lia,(sb.trans s4).bM hD,vo.up C oI rfl,?_
    . lia
    . rw [bn] at q;simp only [bz];exact q
 | false=>
  refine aE rfl ?_;rw [hn,ah rfl] at q;exists D,_,U,mC,au,λo=>?_;have dM:bW c H' (upd H' D (.g8 o (.lst vs))):=bW.upd mC rfl;refine q D vs _ #[o,aa] ?_ (sb.bM hD) (eh.up C mC rfl);rw [bH];exact hA.mono λ_ _ z=>z.Y C dM
inductive kS: #v[0] | mk {K c vs H Q E:_} r l:vs= [.ref r]->bS c H r l->aQ c.cf E r H (takeStm l) (λx=> ∀a H',EI K c H' (.ref a) x.1->Sb r H H'->bS c H' r x.2->Q (.ref a) H')->kS K c vs H Q E
theorem kU:AA.hF 105 "read_statement" ["reader"] kS:=by
 nomatch ["reader","observed","name","written","expression"]
 ext h r l rfl hR q;nomatch 2,bY,1,dw (dN AA 24) ?_,aL,gI (rK AA) ?_,aL,2,cG,3,cT,ni,aL,4,dw (dN AA 24) ?_,aL,gI (xZ AA) ?_
 rw [jZ] at q;refine hR.me #[r,l,_,_,U,zh,hR,λhn H1 s1 dL=>?_,λhn=>?_]
 . exists _,U,oY ?_;rw [ah hn] at q;exists r,_,Nf,dL,aQ.go q s1 λe e7 q ea H7 he s7 Ha=>?_;have b7:=s1.trans s7;refine Ha.me #[r,_,_,_,U,Ko,Ha,aQ.go q b7 λl8 e8 q a t H8 hl ha s8 Sy=>?_];refine Nc λy H9 ny s9 #[dx,hy]=>?_;exact q y H9 #[y,dx,_,rfl,hy,he.Y C ((Ha.Y s8).trans s9.Y)] ((b7.trans s8).trans s9.sb) (Sy.sb C s9)
 exists _,U,oz ?_;rw [ae (by rw [hn];exact aO)] at q;refine hR.me #[r,l,_,_,U,Kq,hR,aQ.go q Sb.refl λl1 e1 q a t H1 hl ha s1 dL=>?_];refine dL.me #[r,l1,U,dL,aQ.go q s1 λx e2 q a1 H2 w1 ha1 s2 dR=>?_];have b2:=s1.trans s2;refine dR.me #[r,_,_,_,U,sw_eq,dR,_,U,?_];unfold kM at q;refine bG (λe3=>?ga) λe3=>?gb;case' ga=>
  rw [ah e3] at q;have hw:QI K H2 V.cx none:=rfl;have s5:Sb r H2 H2:=Sb.refl;have FK:=dR
 case' gb=>
  rw [ae (by rw [e3];exact aO),bn] at q;exists r,_,U,dR,aQ.go q b2 λk e5 q ka H5 hk s5 FK=>?_;have hw:QI K H5 (V.ref ka) (some k.1):=#[ka,rfl,hk]
 all_goals
  have b5:=b2.trans s5
  refine FK.me #[r,_,_,_,U,sw_eq,FK,aQ.go q b5 λl6 e6 q a t H6 hl ha s6 Sx=>?_]
  have b6:=b5.trans s6
  exists r,_,Nf,Sx,aQ.go q b6 λe e7 q ea H7 he s7 Ha=>?_
  have b7:=b6.trans s7
  refine Ha.me #[r,_,_,_,U,Ko,Ha,aQ.go q b7 λl8 e8 q a t H8 hl ha s8 Sy=>?_]
  have i8:=Ha.Y s8
  have VF:=(Sx.Y s7).trans i8
  have Sz:=(FK.Y s6).trans VF
  refine KD C (ha1.mono C ((dR.Y s5).trans Sz)) λy H9 ny s9 #[dx,hy]=>?_
  exact q y H9 #[y,dx,_,_,rfl,hy,hw.Y (Sz.trans s9.Y),he.Y C (i8.trans s9.Y)] ((b7.trans s8).trans s9.sb) (Sy.sb C s9)
inductive j4: #v[0] | mk {K c vs H Q E:_} r l:vs= [.ref r]->bS c H r l->aQ c.cf E r H (takeStms (l.length+1) 0 l) (λx=> ∀p ps H',FL H' p ps->A2 (EI K c H') ps x.1->Sb r H H'->bS c H' r x.2->Q (.ref p) H')->j4 K c vs H Q E
theorem tB:AA.hF 106 "read_statements" ["reader"] j4:=by
 nomatch ["reader","statements"]
 ext h r l1 rfl hR q;nomatch 2,1,kU,cT,bJ,aM aJ,T.kz,cT,cT,aU,cH bN,kU,1
 rw [pR,ae (λz=>by lia),ae (λz=>by lia)] at q;exists r,l1,U,hR,aQ.go q Sb.refl λx e1 q a1 H1 hx s1 dL=>?_;exists kg,λD hD1=>?_;have hD:H D=none:=s1.new hR dL hD1;have ss:=aq.upd (o:= .lst [V.ref a1]) hD1;have hsh:=tj e1;obtain ⟨fu,hfu⟩:∃j,l1.length=j+1:=#[l1.length - 1,by lia];rw [hfu] at q;exists λm Z H'=> ∃(vs:List V) (done:List Stm) (l2:Toks) (fu k:Nat),Z= [some (.ref r),some (.ref D)]/\H' D=some (.lst vs)/\A2 (EI K c H') vs done/\vs.length=k/\0 < k/\k<=32/\m=l2.length/\l2.length < fu+1/\Sb r H H'/\bS c H' r l2/\aQ c.cf E r H (takeStms (fu+1) k l2 >>= λr=> .ok (done++r.1,r.2)) (λx=> ∀p ps H',FL H' p ps->A2 (EI K c H') ps x.1->Sb r H H'->bS c H' r x.2->Q (.ref p) H'),
  #[_,[.ref a1],[x.1],x.2,fu,1,rfl,aa,#[hx.Y C ss.Y,au],rfl,∅,∅,rfl,by lia,s1.trans ss.sb,dL.sb C ss,q],?_
 rintro m Z H' ⟨vs,done,l2,fu,k,rfl,mC,hA,hk,Yk,WQ,rfl,hfu,sb,eh,q⟩;rw [pR] at q;refine eh.me #[r,l2,_,_,U,G8,eh,_,U,?_];cases hn:next (.name (word "tell")) l2 with
 | false=>
  refine bC rfl ?_;rw [hn,ae (λz=>Bool.noConfusion z.1)] at q;refine dI ?_;refine' (λ(rest:¬((next (.name (word "let")) l2 || next (.name (word "observe")) l2)=true/\32<=k)->(_:Prop))=>?_) (λmd=>?_);rotate_left 1
  . exists D,_,U,.inl (cw.of mC),U,_,U,bG (λe1=>?_) λe1=>?_
    . have hk:k=32:=by have:(vs.length:Int)=32:=(~~~e1);lia
      refine' (λ(bad:(next (.name (word "let")) l2 || next (.name (word "observe")) l2)=true->(_:Prop))=>?_) (λIu=>?_);rotate_left 1
      . refine eh.me #[r,l2,_,_,U,Kq,eh,_,U,bG (λe2=>?_) λe2=>?_]
        . exact bad (by rw [e2];rfl)
        . refine eh.me #[r,l2,_,_,U,zh,eh,_,U,?_];refine bG (λe3=>?_) λe3=>?_
          . exact bad (by rw [e2,e3];rfl)
          . exact rest (λz=>by rw [e2,e3] at z;exact Bool.noConfusion z.1)
      rw [ah #[Iu,by lia]] at q;ext eh.zi.ne t l' rfl;refine eh.me #[r,t,l',U,eh,λa #[bh,da,ha]=>?_];exact (fr ha rfl #[_,_,rfl,ml.go q sb])
    . exact rest (λz=>by have:¬(vs.length:Int)=32:=(~~~e1);lia)
  rw [ae md,bn] at q;exists oA mC,r,_,U,eh,aQ.go q sb λy e5 q a2 H4 hy s4 vo=>?_;have Yl:k≠32:=λz=>by
   subst z;rw [jZ] at e5;apply md;exists ?_,az _;by_cases ho:next (.name (word "observe")) l2=true
   . rw [ho,Bool.or_true]
   . rw [ae ho] at e5;obtain ⟨l1,e6,_⟩:=aj e5;obtain ⟨p,rfl⟩:=yn e6;rfl
  have oI:=s4.at eh mC;have Ip:=eh.Y s4;have dM:bW c H4 (upd H4 D (.lst (vs++ [.ref a2]))):=bW.upd oI rfl;have hsh:=tj e5;exists D,vs,_,U,U,oI,by have:(32:Nat) < sizeLine:=∅;lia,?_;obtain ⟨fu,rfl⟩:∃j,fu=j+1:=#[fu - 1,by lia];exists _,?_,vs++ [.ref a2],done++ [y.1],y.2,fu,k+1,U,aa,(hA.mono λ_ _ z=>(z.Y C Ip).Y C dM).snoc (hy.Y C dM),by rw [ao];show vs.length+1=k+1;lia,by lia,by lia,rfl,by lia,(sb.trans s4).bM hD,vo.up C oI rfl,?_
  . lia
  . rw [bn] at q;simp only [bz];exact q
 | true=>
  refine aE rfl ?_;rw [ah #[hn,Yk]] at q;exists D,_,U,mC,au,λo=>?_;have dM:bW c H' (upd H' D (.g8 o (.lst vs))):=bW.upd mC rfl;refine q D vs _ #[o,aa] ?_ (sb.bM hD) (eh.up C mC rfl);rw [bH];exact hA.mono λ_ _ z=>z.Y C dM
inductive uK: #v[0] | mk {K c vs H Q E:_} r l:vs= [.ref r]->bS c H r l->aQ c.cf E r H (take (.name (word "tell")) l >>= λl2=>takeTells (l2.length+1) 0 l2) (λts=> ∀p ps H',FL H' p ps->A2 (Kx c H') ps ts->Sb r H H'->Q (.ref p) H')->uK K c vs H Q E
theorem Cr:AA.hF 5 "read_told" ["reader"] uK:=by
 nomatch ["reader","told"]
 ext h r l0 rfl KA q;nomatch 2,aL,1,cG,bY,iM,aM aJ,T.w8,cH bN,cG,jV,1
 refine KA.me #[r,l0,_,_,U,G8,KA,aQ.go q Sb.refl λl1 e0 q a t H0 hl ha s0 hR=>?_];rw [nj,ae (λz=>by lia)] at q;refine hR.me #[r,l1,U,hR,aQ.go q s0 λx e1 q a1 H1 w1 ha1 s1 dL=>?_];exists kg,λD hD1=>?_;have b1:=s0.trans s1;have hD:H D=none:=b1.new KA dL hD1;have ss:=aq.upd (o:= .lst [V.ref a1]) hD1;have hsh:=d6 e1;exists λm Z H'=> ∃(vs:List V) (done:List PName) (l2:Toks) (fu k:Nat),Z= [some (.ref r),some (.ref D)]/\H' D=some (.lst vs)/\A2 (Kx c H') vs done/\vs.length=k/\k<=6/\m=l2.length/\l2.length < fu+1/\Sb r H H'/\bS c H' r l2/\aQ c.cf E r H (if next .halt_ l2=true then .ok done else take (.sign 44) l2 >>= λl3=>takeTells fu k l3 >>= λr=> .ok (done++r)) (λts=> ∀p ps H',FL H' p ps->A2 (Kx c H') ps ts->Sb r H H'->Q (.ref p) H'),
  #[_,[.ref a1],[x.1],x.2,l1.length,1,rfl,aa,#[#[a1,rfl,ha1.mono C ss.Y],au],rfl,∅,rfl,by lia,b1.trans ss.sb,dL.sb C ss,q],?_
 rintro m Z H' ⟨vs,done,l2,fu,k,rfl,mC,hA,hk,Zv,rfl,hfu,sb,eh,q⟩;refine eh.me #[r,l2,_,_,U,xk,eh,λhn H2 s2 dR=>?_,λhn=>?_]
 . exists _,U,oY ?_;have eP:=s2.at eh mC;obtain ⟨p0,r0,hl2⟩:=next_ne hn;have hdl:(l2.drop 1).length+1=l2.length:=by rw [hl2];rfl
   have hh:¬next .halt_ l2=true:=by rw [hl2];exact Bool.noConfusion
   have htk:take (.sign 44) l2= .ok (l2.drop 1):=by unfold take;rw [ah hn]
   have q:aQ c.cf E r H (takeTells fu k (l2.drop 1) >>= λr=> .ok (done++r)) (λts=> ∀p ps H',FL H' p ps->A2 (Kx c H') ps ts->Sb r H H'->Q (.ref p) H'):=by
    rw [ae hh,htk] at q;exact q
   obtain ⟨fu,rfl⟩:∃j,fu=j+1:=#[fu - 1,by lia];rw [nj] at q;refine dI ?_;exists D,_,U,.inl (cw.of eP),r,_,_,_,U,dR,λk7=>?_,λheq=>?_
   . rw [ae (λz=>by lia),bn] at q;exists oA eP,dR.me #[r,_,U,dR,aQ.go q (sb.trans s2) λy e5 q a2 H4 w2 hy s4 vo=>?_];have oI:=s4.at dR eP;have Ip:=(eh.Y s2).trans (dR.Y s4);have dM:bW c H4 (upd H4 D (.lst (vs++ [.ref a2]))):=bW.upd oI rfl;have hsh:=d6 e5;exists D,vs,_,U,U,oI,by have:(6:Nat) < sizeLine:=∅;lia,?_;exists _,?_,vs++ [.ref a2],done++ [y.1],y.2,fu,k+1,U,aa,(hA.mono λ_ _ z=>(z.Y C Ip).Y C dM).snoc #[a2,U,hy.mono C dM],by rw [ao,hk];rfl,by lia,rfl,by lia,((sb.trans s2).trans s4).bM hD,vo.up C oI rfl,?_
     . lia
     . split <;> rename_i hc
       . rw [ah hc] at q;exact q
       . rw [ae hc] at q;simp only [bn] at q;simp only [bz];exact q
   . have heq:k=6:=by lia
     subst heq;by_cases hx:nameNext (l2.drop 1)=true
     . rw [ah #[hx,az _]] at q;rw [ah hx];exact ml.on q (sb.trans s2)
     . rw [ae (λz=>hx z.1),kN hx] at q;rw [ae hx];exact ml.on q (sb.trans s2)
 . exists _,U,oz ?_;refine eh.me #[r,l2,U,eh,?_];by_cases hh:next .halt_ l2=true
   . rw [ae (by rw [hh];exact Bool.noConfusion)];rw [ah hh] at q;exists D,_,U,mC,au,λo=>?_;have dM:bW c H' (upd H' D (.g8 o (.lst vs))):=bW.upd mC rfl;exact q D vs _ #[o,aa] (hA.mono λ_ _ z=>z.Y C dM) (sb.bM hD)
   . rw [ah (~~~hh)];rw [ae hh,show take (.sign 44) l2=wrong l2 by unfold take;rw [ae (by rw [hn];exact aO)]] at q;exact ml.on q sb
inductive og: #v[0] | mk {K c vs H Q E:_} tl l:vs= [.ref tl]->Ci c H tl l->Tks l->aN c.cf E H (takeProg l) (λp=> ∀a H',aq H H'->EJ K c H' (.ref a) p->Q (.ref a) H')->og K c vs H Q E
theorem x3:AA.hF 107 "read_program" ["tokens"] og:=by
 nomatch ["tokens","reader","title","budget","functions","statements","told"]
 ext h tl l rfl hT htk q;nomatch 2,1,gI (jT AA) ?_,aL,2,cG,3,zz,4,uJ,5,tB,6,Cr,gI (rL AA) ?_
 rw [xu] at q;refine λr dx nr nd _=>#[r,dx,_,U,aa,λH0 hr0 kp=>#[U,?_]];have s0:=aq.made nr nd kp;have hr0:∃dx,H0 r=some (.ins c.rd dx [("tokens",.ref tl),("taken",.int 0)]):=#[dx,hr0];have hR:=bS.new (hT.Y C s0.Y) htk hr0;have q:=aN.WR (r:=r) q s0 nr;refine hR.me #[r,l,_,_,U,Ik,hR,aQ.go q Sb.refl λl1 e1 q a t H1 hl ha s1 dL=>?_];refine dL.me #[r,l1,U,dL,aQ.go q s1 λx e2 q a1 H2 w1 #[b1,d1,ha1] s2 dR=>?_];have b2:=s1.trans s2;refine (fr ha1 rfl ?_);exists r,_,U,dR,aQ.go q b2 λb e3 q H3 s3 oH=>?_;have b3:=b2.trans s3;exists r,_,U,oH,aQ.go q b3 λfs e4 q fl Ym H4 ff hf s4 vo=>?_;have b4:=b3.trans s4;exists r,_,U,vo,aQ.go q b4 λss e5 q sl Yn H5 fs' hs s5 FK=>?_;have b5:=b4.trans s5;rw [<-bn] at q;exists r,_,U,FK,aQ.go q b5 λts e6 q tl' tvs H6 ft ht s6=>?_;have b6:=b5.trans s6;have i6:=FK.Y s6;have WT:=(vo.Y s5).trans i6;refine KE λy H7 ny s7 #[dx,hy]=>?_;have i7:bW c H6 H7:=s7.Y;exact q y H7 (((s0.sb.trans b6).same nr).trans s7) #[y,dx,fl,sl,tl',Ym,Yn,tvs,rfl,hy,ff.mono (WT.trans i7),hf.mono λ_ _ z=>z.Y C (WT.trans i7),fs'.mono (i6.trans i7),hs.mono λ_ _ z=>z.Y C (i6.trans i7),ft.mono i7,ht.mono λ_ _ z=>z.Y C i7]
inductive gw: #v[0] | mk {K c vs H Q E:_} tl l:vs= [.ref tl]->Ci c H tl l->Tks l->aN c.cf E H (takeExpr 24 l >>= λx=>(if next .halt_ x.2=false then wrong x.2 else .ok ()) >>= λ_=> .ok x.1) (λe=> ∀a H',aq H H'->iH K c H' (.ref a) e->Q (.ref a) H')->gw K c vs H Q E
theorem mJ:AA.hF 105 "read_lone_expression" ["tokens"] gw:=by
 nomatch ["tokens","reader","expression"]
 ext h tl l rfl hT htk q;nomatch 2,1,gI (jT AA) ?_,2,dw (dN AA 24) ?_,jV,0
 refine λr dx nr nd _=>#[r,dx,_,U,aa,λH0 hr0 kp=>#[U,?_]];have s0:=aq.made nr nd kp;have hr0:∃dx,H0 r=some (.ins c.rd dx [("tokens",.ref tl),("taken",.int 0)]):=#[dx,hr0];have hR:=bS.new (hT.Y C s0.Y) htk hr0;have q:=aN.WR (r:=r) q s0 nr;exists r,_,Nf,hR,aQ.go q Sb.refl λe e7 q ea H7 he s7 Ha=>?_;refine Ha.me #[r,_,U,Ha,aQ.go q s7 λ_ _ q=>?_];refine q ea H7 ((s0.sb.trans s7).same nr) he
def tS (b:Bytes):=b.length<=16
def Ng (n:Int):Prop:= -1000000000<=n/\n<=1000000000
def KG (f:Frac):=Ng f.num/\0 < f.den/\f.den<=1000000000
def li:Kd->Prop
 | .flag=>True
 | .num lo hi=> -1000<=lo/\lo<=hi/\hi<=1000/\hi<=lo+63
def gd:Ex->Nat->Prop
 | .nil,s=>s=1\/s=2
 | .arg a r,s=>s=1/\gd a 0/\gd r 1
 | .way a w r,s=>s=2/\gd a 0/\KG w/\gd r 2
 | .lit _ (.num n),s=>s=0/\Ng n
 | .lit _ (.flag _),s=>s=0
 | .name _ b,s=>s=0/\tS b
 | .un _ _ a,s=>s=0/\gd a 0
 | .bin _ _ a b,s=>s=0/\gd a 0/\gd b 0
 | .flip _ f,s=>s=0/\KG f
 | .uniform _ lo hi,s=>s=0/\li (.num lo hi)
 | .cond _ d a b,s=>s=0/\gd d 0/\gd a 0/\gd b 0
 | .given _ d a,s=>s=0/\gd d 0/\gd a 0
 | .weigh _ w a,s=>s=0/\KG w/\gd a 0
 | .call _ f x,s=>s=0/\tS f/\gd x 1
 | .pick _ x,s=>s=0/\gd x 2/\x≠ .nil
noncomputable def dep:Ex->Nat
 | .nil=>0
 | .arg a r=>max (dep a) (dep r)
 | .way a _ r=>max (dep a) (dep r)
 | .un _ _ a=>dep a+1
 | .bin _ _ a b=>max (dep a) (dep b)+1
 | .cond _ d a b=>max (dep d) (max (dep a) (dep b))+1
 | .given _ d a=>max (dep d) (dep a)+1
 | .weigh _ _ a=>dep a+1
 | .call _ _ x=>dep x+1
 | .pick _ x=>dep x+1
 | _=>1
noncomputable def sz:Ex->Nat
 | .nil=>0
 | .arg a r=>sz a+sz r
 | .way a _ r=>sz a+sz r
 | .un _ _ a=>sz a+1
 | .bin _ _ a b=>sz a+sz b+1
 | .cond _ d a b=>sz d+sz a+sz b+1
 | .given _ d a=>sz d+sz a+1
 | .weigh _ _ a=>sz a+1
 | .call _ _ x=>sz x+1
 | .pick _ x=>sz x+1
 | _=>1
noncomputable def eM:Ex->List Ex
 | .arg a r=>a :: eM r
 | .way a _ r=>a :: eM r
 | _=> []
noncomputable def kids:Ex->List Ex
 | .un _ _ a=> [a]
 | .bin _ _ a b=> [a,b]
 | .cond _ d a b=> [d,a,b]
 | .given _ d a=> [d,a]
 | .weigh _ _ a=> [a]
 | .call _ _ x=>eM x
 | .pick _ x=>eM x
 | _=> []
noncomputable def subs:Ex->List Ex
 | .nil=> []
 | .arg a r=>subs a++subs r
 | .way a _ r=>subs a++subs r
 | .un p o a=> .un p o a :: subs a
 | .bin p o a b=> .bin p o a b :: (subs a++subs b)
 | .cond p d a b=> .cond p d a b :: (subs d++(subs a++subs b))
 | .given p d a=> .given p d a :: (subs d++subs a)
 | .weigh p w a=> .weigh p w a :: subs a
 | .call p f x=> .call p f x :: subs x
 | .pick p x=> .pick p x :: subs x
 | e=> [e]
theorem uL {s:Nat} (hs:s≠0):∀{x:Ex},gd x s->subs x=(eM x).flatMap subs
 | .nil,_=>rfl
 | .arg a r,h=>by
  ext h rfl _ h2;show subs a++subs r=(a :: eM r).flatMap subs;rw [dS,uL ∅ h2]
 | .way a w r,h=>by
  ext h rfl _ _ h2;show subs a++subs r=(a :: eM r).flatMap subs;rw [dS,uL ∅ h2]
 | .lit _ (.num _),h=>absurd h.1 hs
 | .lit _ (.flag _),h=>absurd h hs
 | .name _ _,h=>absurd h.1 hs
 | .un _ _ _,h=>absurd h.1 hs
 | .bin _ _ _ _,h=>absurd h.1 hs
 | .flip _ _,h=>absurd h.1 hs
 | .uniform _ _ _,h=>absurd h.1 hs
 | .cond _ _ _ _,h=>absurd h.1 hs
 | .given _ _ _,h=>absurd h.1 hs
 | .weigh _ _ _,h=>absurd h.1 hs
 | .call _ _ _,h=>absurd h.1 hs
 | .pick _ _,h=>absurd h.1 hs
def gy (h:gd e 0):subs e=e :: (kids e).flatMap subs:=by
 cases e with
 | nil=>rcases h with h | h <;> cases h
 | arg a r=>exact absurd h.1 ∅
 | way a w r=>exact absurd h.1 ∅
 | call p f x=>show _ :: subs x=_ :: (eM x).flatMap subs;rw [uL ∅ h.2.2]
 | pick p x=>show _ :: subs x=_ :: (eM x).flatMap subs;rw [uL ∅ h.2.1]
 | lit p v=>rfl
 | name p b=>rfl
 | flip p f=>rfl
 | uniform p lo hi=>rfl
 | un p o a=>show _ :: subs a=_ :: [a].flatMap subs;simp
 | bin p o a b=>show _ :: (subs a++subs b)=_ :: [a,b].flatMap subs;simp
 | cond p d a b=>show _ :: (subs d++(subs a++subs b))=_ :: [d,a,b].flatMap subs;simp
 | given p d a=>show _ :: (subs d++subs a)=_ :: [d,a].flatMap subs;simp
 | weigh p w a=>show _ :: subs a=_ :: [a].flatMap subs;simp
theorem cj:∀e:Ex,(subs e).length=sz e
 | .nil=>rfl
 | .arg a r=>by show (subs a++subs r).length=sz a+sz r;rw [ao,cj a,cj r]
 | .way a _ r=>by show (subs a++subs r).length=sz a+sz r;rw [ao,cj a,cj r]
 | .un p o a=>by show (subs a).length+1=_;rw [cj a];rfl
 | .bin p o a b=>by show (subs a++subs b).length+1=sz a+sz b+1;rw [ao,cj a,cj b]
 | .cond p d a b=>by show (subs d++(subs a++subs b)).length+1=sz d+sz a+sz b+1;rw [ao,ao,cj a,cj b,cj d];lia
 | .given p d a=>by show (subs d++subs a).length+1=sz d+sz a+1;rw [ao,cj a,cj d]
 | .weigh p w a=>by show (subs a).length+1=_;rw [cj a];rfl
 | .call p f x=>by show (subs x).length+1=_;rw [cj x];rfl
 | .pick p x=>by show (subs x).length+1=_;rw [cj x];rfl
 | .lit _ _=>rfl
 | .name _ _=>rfl
 | .flip _ _=>rfl
 | .uniform _ _ _=>rfl
theorem rA {s:Nat}:∀{x:Ex},gd x s->∀k∈eM x,gd k 0/\dep k<=dep x/\sz k<=sz x
 | .nil,_,k,hk=>by cases hk
 | .arg a r,h,k,hk=>by
  rcases aF.mp hk with rfl | hk
  . exists h.2.1,Nat.le_max_left _ _,dU _ _
  . obtain ⟨h1,h2,h3⟩:=rA h.2.2 k hk;exists h1,aP h2 (Nat.le_max_right _ _),aP h3 (lE _ _)
 | .way a _ r,h,k,hk=>by
  rcases aF.mp hk with rfl | hk
  . exists h.2.1,Nat.le_max_left _ _,dU _ _
  . obtain ⟨h1,h2,h3⟩:=rA h.2.2.2 k hk;exists h1,aP h2 (Nat.le_max_right _ _),aP h3 (lE _ _)
 | .lit _ _,_,k,hk=>by cases hk
 | .name _ _,_,k,hk=>by cases hk
 | .un _ _ _,_,k,hk=>by cases hk
 | .bin _ _ _ _,_,k,hk=>by cases hk
 | .flip _ _,_,k,hk=>by cases hk
 | .uniform _ _ _,_,k,hk=>by cases hk
 | .cond _ _ _ _,_,k,hk=>by cases hk
 | .given _ _ _,_,k,hk=>by cases hk
 | .weigh _ _ _,_,k,hk=>by cases hk
 | .call _ _ _,_,k,hk=>by cases hk
 | .pick _ _,_,k,hk=>by cases hk
theorem eC (h:gd e 0):∀k∈kids e,gd k 0/\dep k+1<=dep e/\sz k+1<=sz e:=by
 cases e with
 | call p f x=>intro k hk;obtain ⟨h1,h2,h3⟩:=rA h.2.2 k hk;exists h1,eS h2,eS h3
 | pick p x=>intro k hk;obtain ⟨h1,h2,h3⟩:=rA h.2.1 k hk;exists h1,eS h2,eS h3
 | nil=>intro k hk;cases hk
 | arg a r=>intro k hk;cases hk
 | way a w r=>intro k hk;cases hk
 | lit p v=>intro k hk;cases hk
 | name p b=>intro k hk;cases hk
 | flip p f=>intro k hk;cases hk
 | uniform p lo hi=>intro k hk;cases hk
 | un p o a=>intro k hk;cases dE.mp hk;exists h.2,az _,az _
 | weigh p w a=>intro k hk;cases dE.mp hk;exists h.2.2,az _,az _
 | bin p o a b=>
  intro k (hk:k∈ [a,b]);simp only [aF,dv,ju] at hk;have d1:dep (.bin p o a b)=max (dep a) (dep b)+1:=rfl;have s1:sz (.bin p o a b)=sz a+sz b+1:=rfl;rcases hk with rfl | rfl
  . exists h.2.1,by lia,by lia
  . exists h.2.2,by lia,by lia
 | given p d a=>
  intro k (hk:k∈ [d,a]);simp only [aF,dv,ju] at hk;have d1:dep (.given p d a)=max (dep d) (dep a)+1:=rfl;have s1:sz (.given p d a)=sz d+sz a+1:=rfl;rcases hk with rfl | rfl
  . exists h.2.1,by lia,by lia
  . exists h.2.2,by lia,by lia
 | cond p d a b=>
  intro k (hk:k∈ [d,a,b]);simp only [aF,dv,ju] at hk;have d1:dep (.cond p d a b)=max (dep d) (max (dep a) (dep b))+1:=rfl;have s1:sz (.cond p d a b)=sz d+sz a+sz b+1:=rfl;rcases hk with rfl | rfl | rfl
  . exists h.2.1,by lia,by lia
  . exists h.2.2.1,by lia,by lia
  . exists h.2.2.2,by lia,by lia
def Ct (h:gd e 0):0 < dep e:=by
 cases e with
 | nil=>rcases h with h | h <;> cases h
 | arg a r=>exact absurd h.1 ∅
 | way a w r=>exact absurd h.1 ∅
 | _=>first | exact Nat.succ_pos _
theorem Cu (h:gd e 0):0 < sz e:=by
 cases e with
 | nil=>rcases h with h | h <;> cases h
 | arg a r=>exact absurd h.1 ∅
 | way a w r=>exact absurd h.1 ∅
 | _=>first | exact Nat.succ_pos _ | (simp only [sz];lia)
section
theorem kh.eM {s:Nat} (hs:s≠0):∀{x:Ex} {vs:List V},gd x s->kh K c H x vs->A2 (iH K c H) vs (eM x)
 | .nil,vs,_,h=>by cases (show vs= [] from h);exact au
 | .arg a r,vs,g,#[v,ws,e,h1,h2]=>by subst e;exists h1,kh.eM ∅ g.2.2 h2
 | .way a _ r,vs,g,#[v,ws,e,h1,h2]=>by subst e;exists h1,kh.eM ∅ g.2.2.2 h2
 | .lit _ (.num _),_,g,_=>absurd g.1 hs
 | .lit _ (.flag _),_,g,_=>absurd g hs
 | .name _ _,_,g,_=>absurd g.1 hs
 | .un _ _ _,_,g,_=>absurd g.1 hs
 | .bin _ _ _ _,_,g,_=>absurd g.1 hs
 | .flip _ _,_,g,_=>absurd g.1 hs
 | .uniform _ _ _,_,g,_=>absurd g.1 hs
 | .cond _ _ _ _,_,g,_=>absurd g.1 hs
 | .given _ _ _,_,g,_=>absurd g.1 hs
 | .weigh _ _ _,_,g,_=>absurd g.1 hs
 | .call _ _ _,_,g,_=>absurd g.1 hs
 | .pick _ _,_,g,_=>absurd g.1 hs
def zA (h: [v]= [V.ref a]):v= .ref a:=(qY h).1
def iH.view (g:gd e 0) (h:iH K c H v e):∃a pl ps,v= .ref a/\Node K c H a pl e/\FL H pl ps/\A2 (iH K c H) ps (kids e):=by
 cases e with
 | nil=>rcases g with g | g <;> cases g
 | arg a r=>exact absurd g.1 ∅
 | way a w r=>exact absurd g.1 ∅
 | lit p v=>ext h a pl e h1 h2;exists a,pl,[],zA e,h1,h2,au
 | name p b=>ext h a pl e h1 h2;exists a,pl,[],zA e,h1,h2,au
 | flip p f=>ext h a pl e h1 h2;exists a,pl,[],zA e,h1,h2,au
 | uniform p lo hi=>ext h a pl e h1 h2;exists a,pl,[],zA e,h1,h2,au
 | un p o x=>ext h a pl v1 e h1 h2 h3;exists a,pl,[v1],zA e,h1,h2,h3,au
 | bin p o x y=>ext h a pl v1 v2 e h1 h2 h3 h4;exists a,pl,[v1,v2],zA e,h1,h2,h3,h4,au
 | cond p d x y=>ext h a pl v1 v2 v3 e h1 h2 h3 h4 h5;exists a,pl,[v1,v2,v3],zA e,h1,h2,h3,h4,h5,au
 | given p x y=>ext h a pl v1 v2 e h1 h2 h3 h4;exists a,pl,[v1,v2],zA e,h1,h2,h3,h4,au
 | weigh p w x=>ext h a pl v1 e h1 h2 h3;exists a,pl,[v1],zA e,h1,h2,h3,au
 | call p f x=>ext h a pl ps e h1 h2 h3;exists a,pl,ps,zA e,h1,h2,h3.eM ∅ g.2.2
 | pick p x=>ext h a pl ps e h1 h2 h3;exists a,pl,ps,zA e,h1,h2,h3.eM ∅ g.2.1
end
def bP {t:Tok} (h:take t l= .ok l') (ht:t≠ .halt_) (hl:Tks l):Tks l':=by
 obtain ⟨p,rfl⟩:=yn h;exact hl.tail ht
def e9 {x:(Nat×Int)×Toks} (h:takeNum l= .ok x) (hl:Tks l):Tks x.2/\Ng x.1.2:=by
 have e:=zm h;rw [e] at hl;exists hl.tail nofun,hl.wf
def gM {x:PName×Toks} (h:takeName l= .ok x) (hl:Tks l):Tks x.2/\tS x.1.name:=by
 have e:=(xm h).1;rw [e] at hl;exists hl.tail nofun,hl.wf.2.2
theorem KH {n d:Int} (hn:Ng n) (hd:Ng d) (h1:¬d < 1):KG (frac n d.toNat):=by
 obtain ⟨m,rfl⟩:∃m:Nat,d=m:=#[d.toNat,by lia];have hm:((m:Int)).toNat=m:=by lia
 rw [hm];have hm0:0 < m:=by lia
 have hm9:m<=1000000000:=by have:=hd.2;lia
 unfold frac;rw [ae (by lia)];have hg:0 < Nat.gcd n.natAbs m:=Nat.gcd_pos_of_pos_right _ hm0;exists ?_,Nat.div_pos (Nat.le_of_dvd hm0 (Nat.gcd_dvd_right _ _)) hg,aP (Nat.div_le_self _ _) hm9;obtain ⟨k,hk⟩:=Nat.gcd_dvd_left n.natAbs m;generalize Nat.gcd n.natAbs m=gg at hg hk;have hdv:(gg:Int) ∣ n:=Int.ofNat_dvd_left.mpr #[k,hk];ext hdv q hq;have hgi:(gg:Int)≠0:=by lia
 show Ng (n / (gg:Int));rw [hq,Int.mul_ediv_cancel_left _ hgi];have hnn:=hn;rw [hq] at hnn;have hg1:(1:Int)<=gg:=by lia
 ext hnn a1 a2;constructor
 . by_cases hq0:0<=q
   . lia
   . have:(gg:Int) * q<=1 * q:=by
      have:=Int.mul_le_mul_of_nonpos_right hg1 (by lia:q<=0);exact this
     lia
 . by_cases hq0:0<=q
   . have:1 * q<=(gg:Int) * q:=Int.mul_le_mul_of_nonneg_right hg1 hq0;lia
   . lia
theorem uM {x:(Nat×Frac)×Toks} (h:takeFrac l= .ok x) (hl:Tks l):Tks x.2/\KG x.1.2:=by
 rw [kH] at h;obtain ⟨a,h1,h⟩:=aj h;obtain ⟨t1,w1⟩:=e9 h1 hl;split at h
 . rename_i hn;obtain ⟨b,h2,h⟩:=aj h;obtain ⟨p,r,e⟩:=next_ne hn;have t2:Tks (a.2.drop 1):=by rw [e] at t1 ⊢;exact t1.tail nofun
   obtain ⟨t3,w3⟩:=e9 h2 t2;split at h
   . cases h
   . rename_i iU;cases h;exists t3,KH w1 w3 iU
 . cases h;exists t1,w1,Nat.one_pos,by show (1:Nat)<=_;decide
def pX {x:Frac×Toks} (h:takeWeight l= .ok x) (hl:Tks l):Tks x.2/\KG x.1:=by
 rw [k9] at h;obtain ⟨a,h1,h⟩:=aj h;obtain ⟨t,w⟩:=uM h1 hl;split at h
 . cases h
 . cases h;exists t,w
def zB {x:Frac×Toks} (h:takeChance l= .ok x) (hl:Tks l):Tks x.2/\KG x.1:=by
 rw [k_] at h;obtain ⟨a,h1,h⟩:=aj h;obtain ⟨t,w⟩:=uM h1 hl;split at h
 . cases h
 . cases h;exists t,w
theorem KI {p1 p2:Nat} {n1 n2:Int} (h:bnd p1 n1 p2 n2= .ok u):li (.num n1 n2):=by
 unfold bnd at h;split at h
 . cases h
 . split at h
   . cases h
   . show -1000<=n1/\n1<=n2/\n2<=1000/\n2<=n1+63;omega
def zC {x:(Int×Int)×Toks} (h:takeBounds l= .ok x) (hl:Tks l):Tks x.2/\li (.num x.1.1 x.1.2):=by
 rw [lg] at h;obtain ⟨a,h1,h⟩:=aj h;obtain ⟨l1,h2,h⟩:=aj h;obtain ⟨b,h3,h⟩:=aj h;obtain ⟨u,h4,h⟩:=aj h;have t1:=(e9 h1 hl).1;have t2:=bP h2 nofun t1
 have t3:=(e9 h3 t2).1;cases h;exists t3,KI h4
def nw {x:Kd×Toks} (h:takeKind l= .ok x) (hl:Tks l):Tks x.2/\li x.1:=by
 rw [pF] at h;split at h
 . rename_i hn;obtain ⟨p,r,rfl⟩:=next_ne hn;cases h;exists hl.tail nofun,au
 . obtain ⟨l1,h2,h⟩:=aj h;obtain ⟨a,h1,h⟩:=aj h;obtain ⟨b,h3,h⟩:=aj h;obtain ⟨u,h4,h⟩:=aj h;have t2:=bP h2 nofun hl
   have t1:=(e9 h1 t2).1;have t3:=(e9 h3 t1).1;cases h;exists t3,KI h4
def GE (n s:Nat) (l:Toks) (x:Ex×Toks):=gd x.1 s/\dep x.1<=n/\sz x.1+x.2.length<=l.length/\Tks x.2
section
variable {e:Reader} (he:∀l x,e l= .ok x->Tks l->GE n 0 l x)
include he
theorem Bv:∀{k:Nat} {l:Toks} {x:List Ex×Toks},jX e k l= .ok x->Tks l->(∀y∈x.1,gd y 0/\dep y<=n)/\(x.1.map sz).sum+x.2.length < l.length/\Tks x.2
 | 0,l,x,h,hl=>by
  obtain ⟨l1,h1,h⟩:=aj h;have:=aZ h1;have t:=bP h1 nofun hl
  cases h;exists λy hy=>(dv hy).elim,by show 0+l1.length < l.length;omega,t
 | k+1,l,x,h,hl=>by
  obtain ⟨l1,h1,h⟩:=aj h;obtain ⟨a,h2,h⟩:=aj h;obtain ⟨y,h3,h⟩:=aj h;cases h;have:=aZ h1;have t:=bP h1 nofun hl
  obtain ⟨g1,g2,g3,g4⟩:=he _ _ h2 t;obtain ⟨q1,q2,q3⟩:=Bv h3 g4;exists λz hz=>?_,?_,q3
  . rcases aF.mp hz with rfl | hz
    . exists g1,g2
    . exact q1 z hz
  . show (sz a.1+(y.1.map sz).sum)+y.2.length < _;omega
theorem tD {k:Nat} {x:List Ex×Toks} (h:partsOf e k l= .ok x) (hl:Tks l):(∀y∈x.1,gd y 0/\dep y<=n)/\(x.1.map sz).sum+x.2.length+1 < l.length/\Tks x.2:=by
 obtain ⟨l1,h1,h⟩:=aj h;obtain ⟨a,h2,h⟩:=aj h;obtain ⟨y,h3,h⟩:=aj h;cases h;have:=aZ h1;have t:=bP h1 nofun hl
 obtain ⟨g1,g2,g3,g4⟩:=he _ _ h2 t;obtain ⟨q1,q2,q3⟩:=Bv he h3 g4;exists λz hz=>?_,?_,q3
 . rcases aF.mp hz with rfl | hz
   . exists g1,g2
   . exact q1 z hz
 . show (sz a.1+(y.1.map sz).sum)+y.2.length+1 < _;lia
theorem xB:∀{f k:Nat} {l:Toks} {x:Ex×Toks},takeArgs e f k l= .ok x->Tks l->GE n 1 l x
 | 0,_,_,_,h,_=>by cases h
 | f+1,k,l,x,h,hl=>by
  rw [kL] at h;split at h
  . cases h
  . obtain ⟨a,h1,h⟩:=aj h;obtain ⟨g1,g2,g3,g4⟩:=he _ _ h1 hl;split at h
    . rename_i hn;obtain ⟨r,h2,h⟩:=aj h;obtain ⟨p,rr,er⟩:=next_ne hn;have t2:Tks (a.2.drop 1):=by rw [er] at g4 ⊢;exact g4.tail nofun
      obtain ⟨q1,q2,q3,q4⟩:=xB h2 t2;rw [cS] at q3;cases h;exists #[U,g1,q1],gm.mpr #[g2,q2],by show (sz a.1+sz r.1)+r.2.length<=_;lia,q4
    . obtain ⟨l2,h2,h⟩:=aj h;have:=aZ h2;have t:=bP h2 nofun g4
      cases h;exists #[U,g1,.inl U],gm.mpr #[g2,aD _],by show (sz a.1+0)+l2.length<=_;lia,t
theorem xC:∀{f k:Nat} {l:Toks} {x:Ex×Toks},takeWays e f k l= .ok x->Tks l->GE n 2 l x/\x.1≠ .nil
 | 0,_,_,_,h,_=>by cases h
 | f+1,k,l,x,h,hl=>by
  rw [pL] at h;split at h
  . cases h
  . obtain ⟨a,h1,h⟩:=aj h;obtain ⟨l1,h2,h⟩:=aj h;obtain ⟨w,h3,h⟩:=aj h;obtain ⟨g1,g2,g3,g4⟩:=he _ _ h1 hl;have:=aZ h2;have t2:=bP h2 nofun g4
    have:=fX h3;obtain ⟨t3,w3⟩:=pX h3 t2;split at h
    . obtain ⟨l2,h4,h⟩:=aj h;obtain ⟨r,h5,h⟩:=aj h;have:=aZ h4;have t4:=bP h4 nofun t3
      obtain ⟨⟨q1,q2,q3,q4⟩,_⟩:=xC h5 t4;cases h;exists #[#[U,g1,w3,q1],gm.mpr #[g2,q2],by show (sz a.1+sz r.1)+r.2.length<=_;lia,q4],Vaprbb.Expr.noConfusion
    . obtain ⟨l2,h4,h⟩:=aj h;have:=aZ h4;have t4:=bP h4 nofun t3
      cases h;exists #[#[U,g1,w3,.inr U],gm.mpr #[g2,aD _],by show (sz a.1+0)+l2.length<=_;lia,t4],Vaprbb.Expr.noConfusion
theorem KJ {x:Ex×Toks} (h:inOne e l= .ok x) (hl:Tks l):gd x.1 0/\dep x.1<=n/\sz x.1+x.2.length+1 < l.length/\Tks x.2:=by
 rw [pK] at h;obtain ⟨⟨y1,y2⟩,h1,h⟩:=aj h;obtain ⟨q1,q2,q3⟩:=tD he h1 hl;rcases y1 with _ | ⟨a,_ | ⟨b,_⟩⟩ <;> cases h
 exists (q1 a (by simp)).1,(q1 a (by simp)).2,by simp at q2;lia,q3
theorem D1 {x:(Ex×Ex)×Toks} (h:inTwo e l= .ok x) (hl:Tks l):gd x.1.1 0/\dep x.1.1<=n/\gd x.1.2 0/\dep x.1.2<=n/\sz x.1.1+sz x.1.2+x.2.length+1 < l.length/\Tks x.2:=by
 rw [kJ] at h;obtain ⟨⟨y1,y2⟩,h1,h⟩:=aj h;obtain ⟨q1,q2,q3⟩:=tD he h1 hl;rcases y1 with _ | ⟨a,_ | ⟨b,_ | ⟨d,_⟩⟩⟩ <;> cases h
 exists (q1 a (by simp)).1,(q1 a (by simp)).2,(q1 b (by simp)).1,(q1 b (by simp)).2,by simp at q2;show sz a+sz b+y2.length+1 < _;lia,q3
theorem FP {x:(Ex×Ex×Ex)×Toks} (h:inThree e l= .ok x) (hl:Tks l):gd x.1.1 0/\dep x.1.1<=n/\gd x.1.2.1 0/\dep x.1.2.1<=n/\gd x.1.2.2 0/\dep x.1.2.2<=n/\sz x.1.1+sz x.1.2.1+sz x.1.2.2+x.2.length+1 < l.length/\Tks x.2:=by
 rw [lh] at h;obtain ⟨⟨y1,y2⟩,h1,h⟩:=aj h;obtain ⟨q1,q2,q3⟩:=tD he h1 hl;rcases y1 with _ | ⟨a,_ | ⟨b,_ | ⟨d,_ | ⟨f,_⟩⟩⟩⟩ <;> cases h
 exists (q1 a (by simp)).1,(q1 a (by simp)).2,(q1 b (by simp)).1,(q1 b (by simp)).2,(q1 d (by simp)).1,(q1 d (by simp)).2,by simp at q2;show sz a+sz b+sz d+y2.length+1 < _;lia,q3
theorem zD {p:Nat} {w:Bytes} {x:Ex×Toks} (h:takeSpecial e p w l= .ok x) (hl:Tks l):GE (n+1) 0 l x:=by
 unfold takeSpecial at h;split at h
 . obtain ⟨l1,h1,h⟩:=aj h;obtain ⟨a,h2,h⟩:=aj h;obtain ⟨l2,h3,h⟩:=aj h;have:=aZ h1;have:=r9 h2;have:=aZ h3;have t1:=bP h1 nofun hl
   obtain ⟨t2,w2⟩:=zB h2 t1;have t3:=bP h3 nofun t2
   cases h;exists #[U,w2],lE 1 n,by show 1+l2.length<=_;lia,t3
 . split at h
   . obtain ⟨l1,h1,h⟩:=aj h;obtain ⟨a,h2,h⟩:=aj h;obtain ⟨l2,h3,h⟩:=aj h;have:=aZ h1;have:=sg h2;have:=aZ h3;have t1:=bP h1 nofun hl
     obtain ⟨t2,w2⟩:=zC h2 t1;have t3:=bP h3 nofun t2
     cases h;exists #[U,w2],lE 1 n,by show 1+l2.length<=_;lia,t3
   . split at h
     . obtain ⟨l1,h1,h⟩:=aj h;obtain ⟨a,h2,h⟩:=aj h;have:=aZ h1;have t1:=bP h1 nofun hl
       obtain ⟨⟨q1,q2,q3,q4⟩,q5⟩:=xC he h2 t1;cases h;exists #[U,q1,q5],eS q2,by show sz a.1+1+a.2.length<=_;lia,q4
     . split at h
       . obtain ⟨a,h1,h⟩:=jW h;obtain ⟨q1,q2,q3,q4,q5,q6⟩:=D1 he h1 hl;cases h;exists #[U,q1,q3],eS (gm.mpr #[q2,q4]),by show sz a.1.1+sz a.1.2+1+a.2.length<=_;lia,q6
       . split at h
         . obtain ⟨a,h1,h⟩:=jW h;obtain ⟨q1,q2,q3,q4,q5,q6,q7,q8⟩:=FP he h1 hl;cases h;exists #[U,q1,q3,q5],eS (gm.mpr #[q2,gm.mpr #[q4,q6]]),by show sz a.1.1+sz a.1.2.1+sz a.1.2.2+1+a.2.length<=_;lia,q8
         . split at h
           . obtain ⟨l1,h1,h⟩:=aj h;obtain ⟨f,h2,h⟩:=aj h;obtain ⟨l2,h3,h⟩:=aj h;obtain ⟨a,h4,h⟩:=aj h;obtain ⟨l3,h5,h⟩:=aj h;have:=aZ h1;have:=fX h2;have:=aZ h3;have:=aZ h5;have t1:=bP h1 nofun hl
             obtain ⟨t2,w2⟩:=pX h2 t1;have t3:=bP h3 nofun t2
             obtain ⟨q1,q2,q3,q4⟩:=he _ _ h4 t3;have t5:=bP h5 nofun q4
             cases h;exists #[U,w2,q1],eS q2,by show sz a.1+1+l3.length<=_;lia,t5
           . cases h
theorem D4 {p:Nat} {w:Bytes} {x:Ex×Toks} (hw:tS w) (hn:next (.sign 40) l=true) (h:takeCall e p w l= .ok x) (hl:Tks l):GE (n+1) 0 l x:=by
 unfold takeCall at h;split at h
 . obtain ⟨a,h1,h⟩:=jW h;obtain ⟨q1,q2,q3,q4⟩:=KJ he h1 hl;cases h;exists #[U,q1],eS q2,by show sz a.1+1+a.2.length<=_;lia,q4
 . obtain ⟨a,h1,h⟩:=jW h;obtain ⟨q1,q2,q3,q4,q5,q6⟩:=D1 he h1 hl;cases h;exists #[U,q1,q3],eS (gm.mpr #[q2,q4]),by show sz a.1.1+sz a.1.2+1+a.2.length<=_;lia,q6
 . obtain ⟨p0,r0,rfl⟩:=next_ne hn;have t1:Tks r0:=hl.tail nofun
   simp only [List.drop_succ_cons,lP] at h;split at h
   . rename_i hn2;obtain ⟨p1,r1,rfl⟩:=next_ne hn2;cases h;exists #[U,hw,.inl U],by show 0+1<=n+1;lia,by show 0+1+r1.length<=r1.length+1+1;lia,t1.tail nofun
   . obtain ⟨a,h1,h⟩:=jW h;obtain ⟨q1,q2,q3,q4⟩:=xB he h1 t1;cases h;exists #[U,hw,q1],eS q2,by show sz a.1+1+a.2.length<=r0.length+1;lia,q4
end
theorem pY:∀(n:Nat) (l:Toks) (x:Ex×Toks),takeExpr n l= .ok x->Tks l->GE n 0 l x
 | 0,l,x,h,_=>by cases h
 | n+1,l,x,h,hl=>by
  unfold takeExpr at h;split at h
  . cases h;exists #[U,hl.wf],by show 1<=n+1;lia,gD (lT 1 _),hl.tail nofun
  . rename_i p w r;have hr:Tks r:=hl.tail nofun
    have hw:tS w:=hl.wf.2.2;have lr:(#[p,.name w] :: r:Toks).length=r.length+1:=rfl;split at h
    . cases h;exists U,by show 1<=n+1;lia,gD (lT 1 _),hr
    . split at h
      . cases h;exists U,by show 1<=n+1;lia,gD (lT 1 _),hr
      . split at h
        . obtain ⟨q1,q2,q3,q4⟩:=zD (pY n) h hr;exists q1,q2,by lia,q4
        . split at h
          . rename_i hn;obtain ⟨q1,q2,q3,q4⟩:=D4 (pY n) hw hn h hr;exists q1,q2,by lia,q4
          . cases h;exists #[U,hw],by show 1<=n+1;lia,gD (lT 1 _),hr
  . cases h
theorem x4 {l:List Ex} (i:Nat):((l.take i).flatMap subs).length<=(l.flatMap subs).length:=by
 have:l.flatMap subs=(l.take i).flatMap subs++(l.drop i).flatMap subs:=by rw [<-dD,AR]
 rw [this,ao];lia
def uN {l:List Ex} {k:Ex} (h:l[i]? = some k):(l.take (i+1)).flatMap subs=(l.take i).flatMap subs++subs k:=by
 obtain ⟨hl,e⟩:=bj.mp h;rw [ej hl,dD,e];simp
def aV:8388608<=sizeLine:=∅
def _root_.L2.FL.app (h:FL H a xs) (s:aq H H'):FL H' a xs:=let #[o,e]:=h;#[o,s a _ e]
inductive Bw (n:Nat): #v[0] | mk {K c vs H Q E:_} v e:vs= [v]->gd e 0->dep e<=n->sz e<=4097->iH K c H v e->(∀p ws H',aq H H'->H' p=some (.lst ws)->A2 (iH K c H') ws (subs e)->Q (.ref p) H')->Bw n K c vs H Q E
abbrev uO (n:Nat):=AA.h0 (n+1) "within" ["expression"] (Bw n)
theorem Iv (m:Nat) (KL:uO AA n) (hm:m=n+1):uO AA m:=by
 nomatch ["expression","found","part"]
 subst hm;ext h v e rfl hg hd hz hv q;nomatch 2,1,bD,2,cH dB,dw KL ?_,0
 obtain ⟨a,pl,ps,rfl,hN,fp,hA⟩:=hv.view hg;exists kg,λD hD=>?_;have s1:=aq.upd (o:= .lst [V.ref a]) hD;obtain ⟨dx,fl,bv,fs,hN,_⟩:=id hN;have hlen:(subs e).length=sz e:=cj e;have hsk:=gy hg;refine fr (s1 _ _ hN) U ⟨pl,U,#[ps,(fp.app s1).sq],cC (K:=K) (a:=pl) (xs:=ps) (λi Z H'=> ∃v2:Option V,Z= [some (.ref a),some (.ref D),v2]/\aq H H'/\∃ws,H' D=some (.lst ws)/\A2 (iH K c H') ws (e :: ((kids e).take i).flatMap subs))
  #[none,rfl,s1,_,aa,#[hv.Y C s1.Y,au]] (λi Z H' _ #[_,_,s,_]=>(fp.app s).sq) ?_ ?_⟩
 . rintro i x Z H' hi ⟨v2,rfl,s,ws,hw,hA'⟩;obtain ⟨k,hk,hx⟩:=hA.get hi;obtain ⟨hg',hd',hz'⟩:=eC hg k (bc hk);exists oA hw,x,k,U,hg',by lia,by lia,hx.Y C s.Y,λp zs H2 s2 hp hz2=>?_;have hw2:=s2 _ _ hw;have hl1:=hA'.len;have hl2:=hz2.len;have ht:=uN hk;have hle:=x4 (l:=kids e) (i+1);rw [hsk,aT] at hlen;rw [ht,ao] at hle;rw [aT] at hl1;have dM:bW c H2 (upd H2 D (.lst (ws++zs))):=bW.upd hw2 rfl;exists D,p,ws,zs,U,U,hw2,hp,by have:=aV;lia,?_;exists some x,U,(s.trans s2).bM hD,_,aa,?_;rw [ht];have:=A2.append (hz2.mono λ_ _ z=>z.Y C dM) (hA'.mono λ_ _ z=>(z.Y C s2.Y).Y C dM);exact this
 . rintro Z H' ⟨v2,rfl,s,ws,hw,hA'⟩;refine q D ws H' s hw ?_;have e1:ps.length=(kids e).length:=hA.len;rw [e1,cK,<-hsk] at hA';exact hA'
theorem D5:uO AA 0:=by
 nomatch ["expression","found","part"]
 ext h v e rfl hg hd _;have:=Ct hg;omega
theorem uP:∀n,uO AA n
 | 0=>D5 AA
 | n+1=>Iv AA (n+1) (uP n) rfl
inductive zE: #v[0] | mk {K c vs H Q E:_} v p:vs= [v]->EJ K c H v p->p.stms.length<=32->(∀a ws H',aq H H'->FL H' a ws->A2 (EI K c H') ws (p.stms.filter λs=>match s with | .lets _ _ _=>true | .observe _=>false)->Q (.ref a) H')->zE K c vs H Q E
theorem zF:AA.h0 1 "lets_of" ["program"] zE:=by
 nomatch ["program","statement"]
 ext h v p rfl hP TU q;nomatch 1,1,iA (bD (b_ (pv 0))) [("statement",1)] (λ_ _ _ _ _=>(bL 1)) (λ_ _ _ _ _=>(pv 1)) (ht:=(λ_ _ _ _ _=>(ME (yT (aM (HZ (K:=K) rfl) (aH (pv 1) (pU (fG AA.Bm))))))))
 obtain ⟨a,dx,fl,sl,tl,fs,ss,ts,rfl,ha,f1,A1,f2,As,f3,A3⟩:=id hP;refine fr ha U #[sl,U,#[ss,f2.sq],λD hD=>?_];have hlen:=As.len;refine B5 (K:=K) (a:=sl) (xs:=ss) (λi H'=>aq H H'/\∃ws,H' D=some (.lst ws)/\ws.length<=i/\A2 (EI K c H') ws ((p.stms.take i).filter λs=>match s with | .lets _ _ _=>true | .observe _=>false)) #[aq.upd hD,[],aa,az _,au] (λi H' _ p=>(f2.app p.1).sq) ?_ ?_
 . rintro i x H' hi ⟨s,ws,hw,hl,hA'⟩;obtain ⟨st,fZ,hx⟩:=As.get hi;have hx':=hx.Y C s.Y;obtain ⟨hil,Yo⟩:=bj.mp fZ;have ht:p.stms.take (i+1)=p.stms.take i++ [st]:=by rw [ej hil,Yo]
   cases st with
   | lets n k e=>
    obtain ⟨a',Al,wv,ev,rfl,ha',_⟩:=id hx';exists U,_,_,_,_,U,C.wI _ _ _ _ ha',C.rn,_,U,oY ?_;have dM:bW c H' (upd H' D (.lst (ws++ [.ref a']))):=bW.upd hw rfl;exists ws,hw,by have:=aV;lia,s.bM hD,_,aa,by rw [ao,aC];lia,?_;rw [ht,List.filter_append];exact (hA'.mono λ_ _ z=>z.Y C dM).snoc (hx'.Y C dM)
   | observe e=>
    obtain ⟨a',Al,ev,rfl,ha',_⟩:=id hx';exists U,_,_,_,_,U,C.wJ _ _ _ _ ha',C.ro,_,U,oz ?_;exists s,ws,hw,by lia,?_;rw [ht,List.filter_append];show A2 _ _ (_++ []);rw [bH];exact hA'
 . rintro H' ⟨s,ws,hw,hl,hA'⟩;rw [hlen,cK] at hA';exists D,_,U,hw,au,λo=>?_;have dM:bW c H' (upd H' D (.g8 o (.lst ws))):=bW.upd hw rfl;exact q D ws _ (s.bM hD) #[o,aa] (hA'.mono λ_ _ z=>z.Y C dM)
inductive kW: #v[0] | mk {K c vs H Q E:_} v p:vs= [v]->EJ K c H v p->p.funs.length<=8->p.stms.length<=32->(∀a ws H',aq H H'->FL H' a ws->A2 (iH K c H') ws (p.funs.map (·.body)++p.stms.map exprOf)->Q (.ref a) H')->kW K c vs H Q E
theorem uQ:AA.h0 1 "expressions_of" ["program"] kW:=by
 nomatch ["program","bodies","function","statement"]
 ext h v p rfl hP h8 TU q;nomatch 2,oW 1 (bD (b_ (pv 0))) [("function",2)] (λ_ _ _ _ _=>(bL 2)) (λ_ _ _ _ _=>(fz (K:=K) rfl (pv 2) rfl)),1,yj,iA (bD (b_ (pv 0))) [("statement",3)] (λ_ _ _ _ _=>(bL 3)) (λ_ _ _ _ _=>(fz (K:=K) rfl (pv 3) rfl))
 obtain ⟨a,dx,fl,sl,tl,fs,ss,ts,rfl,ha,f1,A1,f2,As,f3,A3⟩:=id hP;have l1:=A1.len;have l2:=As.len;have jm:=aV;refine fr ha U #[fl,U,#[fs,f1.sq],λD hD=>?_];refine sW (c:=c) (K:=K) (a:=fl) (xs:=fs) (λi y H'=> ∃f,p.funs[i]? = some f/\iH K c H' y f.body) (λi y _ _ im #[f,e,z]=>#[f,e,z.Y C im]) hD f1.sq (by lia) (λi x H1 R hi s1 k=>?_) λH1 ys s1 hy hl hr=>?_
 . obtain ⟨f,hf,hx⟩:=A1.get hi;obtain ⟨a',Al,pl,kv,bv,ps,rfl,ha',_,_,_,hb⟩:=hx.Y C s1.Y;exists U,fr ha' U (k _ H1 (aq.refl _) #[f,hf,hb])
 have B1:A2 (iH K c H1) ys (p.funs.map (·.body)):=A2.of_get (by rw [hl,aB];exact l1) λi y e=>by
  obtain ⟨f,hf,z⟩:=hr i y e;exists _,by rw [bA,hf];rfl,z
 have ha1:=s1 _ _ ha;refine fr ha1 U #[sl,U,#[ss,(f2.app s1).sq],λD2 eP=>?_];have Zw:H D2=none:=by
  cases z:H D2 with
  | none=>rfl
  | some o=>rw [s1 _ _ z] at eP;cases eP
 refine sW (c:=c) (K:=K) (a:=sl) (xs:=ss) (λi y H'=> ∃f,p.stms[i]? = some f/\iH K c H' y (exprOf f)) (λi y _ _ im #[f,e,z]=>#[f,e,z.Y C im]) eP (f2.app s1).sq (by lia) (λi x H2 R hi s2 k=>?_) λH2 zs s2 hz hl2 hr2=>?_
 . obtain ⟨f,hf,hx⟩:=As.get hi;have hx:=hx.Y C (s1.trans s2).Y;cases f with
   | lets n kk e=>
    ext hx a' Al wv ev rfl ha' _ hb;exists U,fr ha' U (k _ H2 (aq.refl _) #[_,hf,hb])
   | observe e=>
    ext hx a' Al ev rfl ha' hb;exists U,fr ha' U (k _ H2 (aq.refl _) #[_,hf,hb])
 have B2:A2 (iH K c H2) zs (p.stms.map exprOf):=A2.of_get (by rw [hl2,aB];exact l2) λi y e=>by
  obtain ⟨f,hf,z⟩:=hr2 i y e;exists _,by rw [bA,hf];rfl,z
 exists D,D2,ys,zs,U,U,s2 _ _ hy,.inl hz,by lia,λD3 mX=>?_;exists D3,_,U,aa,au,λo=>?_;obtain ⟨s3,Yp⟩:=oB (xs:=ys++zs) (o:=o) mX;refine q D3 _ _ ((s1.trans s2).trans s3) Yp (A2.append (B2.mono λ_ _ z=>z.Y C s3.Y) (B1.mono λ_ _ z=>z.Y C (s2.trans s3).Y))
def GX (e:Ex):=gd e 0/\dep e<=24/\sz e<=4097
structure GF (f:Fu):Prop where
 nm:tS f.name.name
 pl:f.params.length<=4
 pw:∀d∈f.params,tS d.name.name/\li d.kind
 rk:li f.result
 bd:GX f.body
def Ow:Stm->Prop
 | .lets n k e=>tS n.name/\(∀k',k=some k'->li k')/\GX e
 | .observe e=>GX e
structure GP (p:Prog):Prop where
 tt:tS p.title.name
 bg:p.budget<=20
 fl:p.funs.length<=8
 sl:p.stms.length<=32
 tl:p.tells.length<=6
 fn:∀f∈p.funs,GF f
 st:∀s∈p.stms,Ow s
 tw:∀t∈p.tells,tS t.name
theorem GX.of {x:Ex×Toks} (h:takeExpr 24 l= .ok x) (hl:Tks l) (hz:l.length<=4097):GX x.1/\Tks x.2:=by
 obtain ⟨a,b,d,e⟩:=pY _ _ _ h hl;exists #[a,b,by lia],e
def FQ {x:Decl×Toks} (h:takeDecl l= .ok x) (hl:Tks l):(tS x.1.name.name/\li x.1.kind)/\Tks x.2:=by
 rw [iK] at h;obtain ⟨a,h1,h⟩:=aj h;obtain ⟨k,h2,h⟩:=aj h;obtain ⟨t1,w1⟩:=gM h1 hl;obtain ⟨t2,w2⟩:=nw h2 t1;cases h;exists #[w1,w2],t2
def At {x:Decl×Toks} (h:takeDecl l= .ok x):nameNext l=true:=by
 rw [iK] at h;by_cases hn:nameNext l=true
 . exact hn
 . rw [kN hn] at h;cases h
def uR {t:Tok} (h:next t l=true) (ht:t≠ .halt_) (hl:Tks l):Tks (l.drop 1)/\(l.drop 1).length < l.length:=by
 obtain ⟨p,r,rfl⟩:=next_ne h;exists hl.tail ht,du _
theorem uS:∀{f k:Nat} {l:Toks} {x:List Decl×Toks},takeParams f k l= .ok x->Tks l->k<=4->(∀d∈x.1,tS d.name.name/\li d.kind)/\x.1.length+k<=4/\Tks x.2
 | 0,_,_,_,h,_,_=>by cases h
 | f+1,k,l,x,h,hl,hk=>by
  rw [ie] at h;split at h
  . cases h
  . rename_i md;obtain ⟨a,h1,h⟩:=aj h;obtain ⟨g1,t1⟩:=FQ h1 hl;have hn:=At h1;have hk:k < 4:=vW λz=>md #[hn,z];split at h
    . rename_i hc;obtain ⟨r,h2,h⟩:=aj h;obtain ⟨q1,q2,q3⟩:=uS h2 (uR hc VaprbBase.Tok.noConfusion t1).1 (by lia);cases h;exists λd hd=>?_,by show r.1.length+1+k<=4;lia,q3;rcases aF.mp hd with rfl | hd
      . exact g1
      . exact q1 d hd
    . obtain ⟨l2,h2,h⟩:=aj h;have t2:=bP h2 nofun t1
      cases h;exists λd hd=>?_,by show 1+k<=4;lia,t2;rcases aF.mp hd with rfl | hd
      . exact g1
      . cases hd
theorem KN {x:List Decl×Toks} (h:pQ l= .ok x) (hl:Tks l):(∀d∈x.1,tS d.name.name/\li d.kind)/\x.1.length<=4/\Tks x.2:=by
 unfold pQ at h;split at h
 . rename_i hn;have:=uR hn VaprbBase.Tok.noConfusion hl;cases h;exists λd hd=>(dv hd).elim,aD _,this.1
 . obtain ⟨a,b,d⟩:=uS h hl ∅;exists a,by lia,d
theorem Iw {x:Fu×Toks} (h:takeFun l= .ok x) (hl:Tks l) (hz:l.length<=4097):GF x.1/\Tks x.2:=by
 have hsh:=tf h;rw [sZ] at h;obtain ⟨l1,h1,h⟩:=aj h;obtain ⟨n,h2,h⟩:=aj h;obtain ⟨l2,h3,h⟩:=aj h;obtain ⟨ps,h4,h⟩:=aj h;obtain ⟨k,h5,h⟩:=aj h;obtain ⟨l3,h6,h⟩:=aj h;obtain ⟨e,h7,h⟩:=aj h;obtain ⟨l4,h8,h⟩:=aj h;have:=aZ h1;have:=d6 h2;have:=aZ h3;have:=Bt h4;have:=kI h5;have:=aZ h6;have t1:=bP h1 nofun hl
 obtain ⟨t2,w2⟩:=gM h2 t1;have t3:=bP h3 nofun t2
 obtain ⟨a4,b4,t4⟩:=KN h4 t3;obtain ⟨t5,w5⟩:=nw h5 t4;have t6:=bP h6 nofun t5
 obtain ⟨g7,t7⟩:=GX.of h7 t6 (by lia);have t8:=bP h8 nofun t7
 cases h;exists #[w2,b4,a4,w5,g7],t8
theorem zG:∀{f k:Nat} {l:Toks} {x:List Fu×Toks},takeFuns f k l= .ok x->Tks l->l.length<=4097->k<=8->(∀y∈x.1,GF y)/\x.1.length+k<=8/\Tks x.2/\x.2.length<=l.length
 | 0,_,_,_,h,_,_,_=>by cases h
 | f+1,k,l,x,h,hl,hz,hk=>by
  rw [xt] at h;split at h
  . cases h;exists λd hd=>(dv hd).elim,by show 0+k<=8;lia,hl,az _
  . split at h
    . cases h
    . obtain ⟨a,h1,h⟩:=aj h;obtain ⟨r,h2,h⟩:=aj h;obtain ⟨g1,t1⟩:=Iw h1 hl hz;have:=tf h1;obtain ⟨q1,q2,q3,q4⟩:=zG h2 t1 (by lia) (by lia);cases h;refine #[λd hd=>?_,by show r.1.length+1+k<=8;lia,q3,by show r.2.length<=_;lia];rcases aF.mp hd with rfl | hd
      . exact g1
      . exact q1 d hd
def Ix {x:Option Kd×Toks} (h:kM l= .ok x) (hl:Tks l):(∀k',x.1=some k'->li k')/\Tks x.2:=by
 unfold kM at h;split at h
 . cases h;exists λk e=>absurd e (λz=>by cases z),hl
 . obtain ⟨a,h1,h⟩:=aj h;obtain ⟨t,w⟩:=nw h1 hl;cases h;exists λk e=>by cases e;exact w,t
theorem Iy {x:Stm×Toks} (h:takeStm l= .ok x) (hl:Tks l) (hz:l.length<=4097):Ow x.1/\Tks x.2:=by
 rw [jZ] at h;split at h
 . rename_i hn;obtain ⟨e,h1,h⟩:=aj h;obtain ⟨l2,h2,h⟩:=aj h;obtain ⟨t0,z0⟩:=uR hn VaprbBase.Tok.noConfusion hl;obtain ⟨g1,t1⟩:=GX.of h1 t0 (by lia);have t2:=bP h2 nofun t1
   cases h;exists g1,t2
 . obtain ⟨l1,h1,h⟩:=aj h;obtain ⟨n,h2,h⟩:=aj h;obtain ⟨k,h3,h⟩:=aj h;obtain ⟨l2,h4,h⟩:=aj h;obtain ⟨e,h5,h⟩:=aj h;obtain ⟨l3,h6,h⟩:=aj h;have:=aZ h1;have:=d6 h2;have:=zt h3;have:=aZ h4;have t1:=bP h1 nofun hl
   obtain ⟨t2,w2⟩:=gM h2 t1;obtain ⟨w3,t3⟩:=Ix h3 t2;have t4:=bP h4 nofun t3
   obtain ⟨g5,t5⟩:=GX.of h5 t4 (by lia);have t6:=bP h6 nofun t5
   cases h;exists #[w2,w3,g5],t6
def Cv {x:Stm×Toks} (h:takeStm l= .ok x):(next (.name (word "let")) l || next (.name (word "observe")) l)=true:=by
 rw [jZ] at h;by_cases ho:next (.name (word "observe")) l=true
 . rw [ho,Bool.or_true]
 . rw [ae ho] at h;obtain ⟨l1,e6,_⟩:=aj h;obtain ⟨p,rfl⟩:=yn e6;rfl
theorem zH:∀{f k:Nat} {l:Toks} {x:List Stm×Toks},takeStms f k l= .ok x->Tks l->l.length<=4097->k<=32->(∀y∈x.1,Ow y)/\x.1.length+k<=32/\Tks x.2/\x.2.length<=l.length
 | 0,_,_,_,h,_,_,_=>by cases h
 | f+1,k,l,x,h,hl,hz,hk=>by
  rw [pR] at h;split at h
  . cases h;exists λd hd=>(dv hd).elim,by show 0+k<=32;lia,hl,az _
  . split at h
    . cases h
    . rename_i md;obtain ⟨a,h1,h⟩:=aj h;obtain ⟨r,h2,h⟩:=aj h;obtain ⟨g1,t1⟩:=Iy h1 hl hz;have:=tj h1;have hk:k < 32:=vW λz=>md #[Cv h1,z];obtain ⟨q1,q2,q3,q4⟩:=zH h2 t1 (by lia) (by lia);cases h;refine #[λd hd=>?_,by show r.1.length+1+k<=32;lia,q3,by show r.2.length<=_;lia];rcases aF.mp hd with rfl | hd
      . exact g1
      . exact q1 d hd
theorem xD:∀{f k:Nat} {l:Toks} {x:List PName},takeTells f k l= .ok x->Tks l->k<=6->(∀y∈x,tS y.name)/\x.length+k<=6
 | 0,_,_,_,h,_,_=>by cases h
 | f+1,k,l,x,h,hl,hk=>by
  rw [nj] at h;split at h
  . cases h
  . rename_i md;obtain ⟨a,h1,h⟩:=aj h;obtain ⟨t1,w1⟩:=gM h1 hl;have hn:nameNext l=true:=by
     by_cases hn:nameNext l=true
     . exact hn
     . rw [kN hn] at h1;cases h1
    have hk:k < 6:=vW λz=>md #[hn,z];split at h
    . cases h;refine #[λd hd=>?_,by show 1+k<=6;lia];rcases aF.mp hd with rfl | hd
      . exact w1
      . cases hd
    . obtain ⟨l2,h2,h⟩:=aj h;obtain ⟨r,h3,h⟩:=aj h;have t2:=bP h2 nofun t1
      obtain ⟨q1,q2⟩:=xD h3 t2 (by lia);cases h;refine #[λd hd=>?_,by show r.length+1+k<=6;lia];rcases aF.mp hd with rfl | hd
      . exact w1
      . exact q1 d hd
theorem FR (h:takeProg l= .ok p) (hl:Tks l) (hz:l.length<=4097):GP p:=by
 rw [xu] at h;obtain ⟨l1,h1,h⟩:=aj h;obtain ⟨t,h2,h⟩:=aj h;obtain ⟨b,h3,h⟩:=aj h;obtain ⟨fs,h4,h⟩:=aj h;obtain ⟨ss,h5,h⟩:=aj h;obtain ⟨l2,h6,h⟩:=aj h;obtain ⟨ts,h7,h⟩:=aj h;have:=aZ h1;have:=d6 h2;have t1:=bP h1 nofun hl
 obtain ⟨t2,w2⟩:=gM h2 t1;have hb:b.1<=20/\Tks b.2/\b.2.length<=t.2.length:=by
  rw [si] at h3;split at h3
  . rename_i hn;obtain ⟨n,h8,h3⟩:=aj h3;obtain ⟨t0,z0⟩:=uR hn VaprbBase.Tok.noConfusion t2;have:=gh h8;have t8:=(e9 h8 t0).1;split at h3
    . cases h3
    . cases h3;exists by show n.1.2.toNat<=20;lia,t8,by show n.2.length<=_;lia
  . cases h3;exists aD _,t2,az _
 ext hb b1 b2 b3;obtain ⟨f1,f2,f3,f4⟩:=zG h4 b2 (by lia) ∅;obtain ⟨s1,s2,s3,s4⟩:=zH h5 f3 (by lia) ∅;have t6:=bP h6 nofun s3
 obtain ⟨q1,q2⟩:=xD h7 t6 ∅;cases h;exists w2,b1,by show fs.1.length<=8;lia,by show ss.1.length<=32;lia,by show ts.length<=6;lia,f1,s1,q1
def nk (n:Bytes):Key:= .inr (aR n)
def Cw {a:Bytes} (h:nk a=nk b):a=b:=mx (Sum.inr.inj h)
def Qa (H:Hp) (d:Addr) (scope:List Bytes):= ∃aG,Rd H d (.dK aG)/\∀n,(cq aG (nk n)).isSome=scope.contains n
def Qa.same {d:Addr} (h:Qa H d scope) (s:aq H H'):Qa H' d scope:=by
 ext h aG r k;exists aG,?_,k;rcases r with e | ⟨o,e⟩
 . exact .inl (s _ _ e)
 . exact .inr #[o,s _ _ e]
def FD (H:Hp) (d:Addr) (aG:List (Key×V)):= ∃o,H d=some (.g8 o (.dK aG))
theorem FD.Y {d:Addr} (h:FD H d aG) (i:bW c H H'):FD H' d aG:=let #[o,e]:=h;#[o,i _ _ e rfl]
def FD.rd {d:Addr} (h:FD H d aG):Rd H d (.dK aG):= .inr h
def KO (K:Frag) (c:Cl) (H:Hp):Option Fu->Option V->Prop
 | none,none=>True
 | some f,some v=>FJ K c H v f
 | _,_=>False
def KP (K:Frag) (c:Cl) (H:Hp) (d:Addr) (funs:List Fu):= ∃aG,FD H d aG/\∀n,KO K c H (funs.find? λx=>x.name.name == n) (cq aG (nk n))
theorem KO.Y {f:Option Fu} {v:Option V} (C:CT K c) (h:KO K c H f v) (i:bW c H H'):KO K c H' f v:=by
 cases f <;> cases v <;> first | exact h | exact FJ.Y C h i
theorem KP.Y {d:Addr} {funs:List Fu} (C:CT K c) (h:KP K c H d funs) (i:bW c H H'):KP K c H' d funs:=let #[aG,f,r]:=h;#[aG,f.Y i,λn=>(r n).Y C i]
noncomputable def gN (p:Prog) (q:Nat) (f:Bytes) (x:Ex):Except Fault Unit:=match p.fun f with
 | none=> .error #[6,q]
 | some g=>if x.count≠g.params.length then .error #[13,q] else .ok ()
noncomputable def FU (p:Prog) (scope:List Bytes):Ex->Except Fault Unit
 | .name q n=>if scope.contains n=true then .ok () else .error #[6,q]
 | .call q f x=>gN p q f x
 | .pick q x=>if (x.weights.all λw=>w.num == 0)=true then .error #[11,q] else .ok ()
 | _=> .ok ()
def dz (p:Prog) (scope:List Bytes):List Ex->Except Fault Unit
 | []=> .ok ()
 | e :: r=>FU p scope e >>= λ_=>dz p scope r
theorem dP (p:Prog) (scope:List Bytes):∀a b:List Ex,dz p scope (a++b)=(dz p scope a >>= λ_=>dz p scope b)
 | [],b=>rfl
 | e :: r,b=>by
  show (FU p scope e >>= λ_=>dz p scope (r++b))=((FU p scope e >>= λ_=>dz p scope r) >>= λ_=>dz p scope b);rw [bn];exact aS λ_=>dP p scope r b
theorem cu (p:Prog) (scope:List Bytes):∀e:Ex,named p scope e=dz p scope (subs e)
 | .lit _ _=>rfl
 | .name q n=>by show (if _ then _ else _)=((if _ then _ else _) >>= _);split <;> rfl
 | .un _ _ a=>cu p scope a
 | .bin _ _ a b=>by
  show (named p scope a >>= λ_=>named p scope b)=dz p scope (subs a++subs b);rw [dP,cu p scope a,cu p scope b]
 | .flip _ _=>rfl
 | .uniform _ _ _=>rfl
 | .cond _ d a b=>by
  show (named p scope d >>= λ_=>named p scope a >>= λ_=>named p scope b)=dz p scope (subs d++(subs a++subs b));rw [dP,dP,cu p scope a,cu p scope b,cu p scope d]
 | .given _ d a=>by
  show (named p scope d >>= λ_=>named p scope a)=dz p scope (subs d++subs a);rw [dP,cu p scope a,cu p scope d]
 | .weigh _ _ a=>cu p scope a
 | .call q f x=>by
  show (match p.fun f with | none=> .error #[6,q] | some g=>if x.count≠g.params.length then .error #[13,q] else named p scope x)=(FU p scope (.call q f x) >>= λ_=>dz p scope (subs x));rw [cu p scope x];show _=(gN p q f x >>= λ_=>dz p scope (subs x));unfold gN;cases p.fun f with
  | none=>rfl
  | some g=>
   show (if _ then _ else _)=((if _ then _ else _) >>= _);split <;> rfl
 | .pick q x=>by
  show (if (x.weights.all λw=>w.num == 0)=true then .error #[11,q] else named p scope x)=((if (x.weights.all λw=>w.num == 0)=true then .error #[11,q] else .ok ()) >>= λ_=>dz p scope (subs x));rw [cu p scope x];split <;> rfl
 | .nil=>rfl
 | .arg a r=>by
  show (named p scope a >>= λ_=>named p scope r)=dz p scope (subs a++subs r);rw [dP,cu p scope a,cu p scope r]
 | .way a _ r=>by
  show (named p scope a >>= λ_=>named p scope r)=dz p scope (subs a++subs r);rw [dP,cu p scope a,cu p scope r]
theorem mK {s:Nat} (hs:s≠0):∀{x:Ex},gd x s->(eM x).length=x.count
 | .nil,_=>rfl
 | .arg a r,h=>bq (· +1) (mK ∅ h.2.2)
 | .way a _ r,h=>bq (· +1) (mK ∅ h.2.2.2)
 | .lit _ (.num _),h=>absurd h.1 hs
 | .lit _ (.flag _),h=>absurd h hs
 | .name _ _,h=>absurd h.1 hs
 | .un _ _ _,h=>absurd h.1 hs
 | .bin _ _ _ _,h=>absurd h.1 hs
 | .flip _ _,h=>absurd h.1 hs
 | .uniform _ _ _,h=>absurd h.1 hs
 | .cond _ _ _ _,h=>absurd h.1 hs
 | .given _ _ _,h=>absurd h.1 hs
 | .weigh _ _ _,h=>absurd h.1 hs
 | .call _ _ _,h=>absurd h.1 hs
 | .pick _ _,h=>absurd h.1 hs
theorem cW {s:Nat}:∀{e:Ex},gd e s->∀k∈subs e,gd k 0
 | .nil,_,k,hk=>by cases hk
 | .arg a r,h,k,hk=>by rcases cg.mp hk with hk | hk;exact cW h.2.1 k hk;exact cW h.2.2 k hk
 | .way a _ r,h,k,hk=>by rcases cg.mp hk with hk | hk;exact cW h.2.1 k hk;exact cW h.2.2.2 k hk
 | .lit _ (.num _),h,k,hk=>by rcases aF.mp hk with rfl | hk;exists U,h.2;cases hk
 | .lit _ (.flag _),h,k,hk=>by rcases aF.mp hk with rfl | hk;exact rfl;cases hk
 | .name _ _,h,k,hk=>by rcases aF.mp hk with rfl | hk;exists U,h.2;cases hk
 | .flip _ _,h,k,hk=>by rcases aF.mp hk with rfl | hk;exists U,h.2;cases hk
 | .uniform _ _ _,h,k,hk=>by rcases aF.mp hk with rfl | hk;exists U,h.2;cases hk
 | .un _ _ _,h,k,hk=>by rcases aF.mp hk with rfl | hk;exists U,h.2;exact cW h.2 k hk
 | .weigh _ _ _,h,k,hk=>by rcases aF.mp hk with rfl | hk;exists U,h.2;exact cW h.2.2 k hk
 | .call _ _ _,h,k,hk=>by rcases aF.mp hk with rfl | hk;exists U,h.2;exact cW h.2.2 k hk
 | .pick _ _,h,k,hk=>by rcases aF.mp hk with rfl | hk;exists U,h.2;exact cW h.2.1 k hk
 | .bin _ _ _ _,h,k,hk=>by
  rcases aF.mp hk with rfl | hk
  . exists U,h.2
  . rcases cg.mp hk with hk | hk;exact cW h.2.1 k hk;exact cW h.2.2 k hk
 | .given _ _ _,h,k,hk=>by
  rcases aF.mp hk with rfl | hk
  . exists U,h.2
  . rcases cg.mp hk with hk | hk;exact cW h.2.1 k hk;exact cW h.2.2 k hk
 | .cond _ _ _ _,h,k,hk=>by
  rcases aF.mp hk with rfl | hk
  . exists U,h.2
  . rcases cg.mp hk with hk | hk
    . exact cW h.2.1 k hk
    . rcases cg.mp hk with hk | hk;exact cW h.2.2.1 k hk;exact cW h.2.2.2 k hk
def d3 {l:List α} {k:α} (h:l[i]? = some k):l.drop i=k :: l.drop (i+1):=by
 obtain ⟨hl,e⟩:=bj.mp h;rw [vz hl,e]
def j5 {l:List α} {k:α} (h:l[i]? = some k):l.take (i+1)=l.take i++ [k]:=by
 obtain ⟨hl,e⟩:=bj.mp h;rw [ej hl,e]
def Iz (p:Prog) (scope:List Bytes) {k:Ex} (g:gd k 0):(∃q n,k= .name q n)\/(∃q f x,k= .call q f x)\/(∃q x,k= .pick q x)\/(FU p scope k= .ok ()/\decide (V.str (eG k)=V.str "name")=false/\decide (V.str (eG k)=V.str "call")=false/\decide (V.str (eG k)=V.str "pick")=false):=by
 cases k with
 | nil=>rcases g with g | g <;> cases g
 | arg a r=>exact absurd g.1 ∅
 | way a w r=>exact absurd g.1 ∅
 | name q n=>exact .inl #[q,n,rfl]
 | call q f x=>exact .inr (.inl #[q,f,x,rfl])
 | pick q x=>exact .inr (.inr (.inl #[q,x,rfl]))
 | lit q v=>cases v <;> exact .inr (.inr (.inr #[rfl,rfl,rfl,rfl]))
 | _=>exact .inr (.inr (.inr #[rfl,rfl,rfl,rfl]))
theorem xE:∀{x:Ex} {s:Nat},gd x s->x.weights.length<=sz x
 | .way a w r,s,h=>by
  have h1:=xE h.2.2.2;have h2:=Cu h.2.1;show r.weights.length+1<=sz a+sz r;lia
 | .nil,_,_=>aD _
 | .arg _ _,_,_=>aD _
 | .lit _ _,_,_=>aD _
 | .name _ _,_,_=>aD _
 | .un _ _ _,_,_=>aD _
 | .bin _ _ _ _,_,_=>aD _
 | .flip _ _,_,_=>aD _
 | .uniform _ _ _,_,_=>aD _
 | .cond _ _ _ _,_,_=>aD _
 | .given _ _ _,_,_=>aD _
 | .weigh _ _ _,_,_=>aD _
 | .call _ _ _,_,_=>aD _
 | .pick _ _,_,_=>aD _
theorem fB:∀{e k:Ex},k∈subs e->sz k<=sz e
 | .nil,k,hk=>by cases hk
 | .arg a r,k,hk=>by rcases cg.mp hk with hk | hk;exact aP (fB hk) (dU _ _);exact aP (fB hk) (lE _ _)
 | .way a _ r,k,hk=>by rcases cg.mp hk with hk | hk;exact aP (fB hk) (dU _ _);exact aP (fB hk) (lE _ _)
 | .lit _ _,k,hk=>by rcases aF.mp hk with rfl | hk;exact az _;cases hk
 | .name _ _,k,hk=>by rcases aF.mp hk with rfl | hk;exact az _;cases hk
 | .flip _ _,k,hk=>by rcases aF.mp hk with rfl | hk;exact az _;cases hk
 | .uniform _ _ _,k,hk=>by rcases aF.mp hk with rfl | hk;exact az _;cases hk
 | .un _ _ _,k,hk=>by rcases aF.mp hk with rfl | hk;exact az _;exact qL (fB hk)
 | .weigh _ _ _,k,hk=>by rcases aF.mp hk with rfl | hk;exact az _;exact qL (fB hk)
 | .call _ _ _,k,hk=>by rcases aF.mp hk with rfl | hk;exact az _;exact qL (fB hk)
 | .pick _ _,k,hk=>by rcases aF.mp hk with rfl | hk;exact az _;exact qL (fB hk)
 | .bin _ _ a b,k,hk=>by
  rcases aF.mp hk with rfl | hk
  . exact az _
  . show _<=sz a+sz b+1;rcases cg.mp hk with hk | hk <;> have:=fB hk <;> lia
 | .given _ d a,k,hk=>by
  rcases aF.mp hk with rfl | hk
  . exact az _
  . show _<=sz d+sz a+1;rcases cg.mp hk with hk | hk <;> have:=fB hk <;> lia
 | .cond _ d a b,k,hk=>by
  rcases aF.mp hk with rfl | hk
  . exact az _
  . show _<=sz d+sz a+sz b+1;rcases cg.mp hk with hk | hk
    . have:=fB hk;lia
    . rcases cg.mp hk with hk | hk <;> have:=fB hk <;> lia
theorem FD.get {d:Addr} (h:FD H d aG) (n:Bytes):ua H d (.str (aR n)) (cq aG (nk n)):= .inl #[aG,nk n,h.rd,rfl,rfl]
theorem _root_.L2.Rd.get {d:Addr} (h:Rd H d (.dK aG)) (n:Bytes):ua H d (.str (aR n)) (cq aG (nk n)):= .inl #[aG,nk n,h,rfl,rfl]
def so (l:List Bytes) (x n:Bytes):(l++ [x]).contains n=(if n=x then true else l.contains n):=by
 rw [b8,em,cg,dE];split
 . rename_i h;exists λ_=>U,λ_=> .inr h
 . rename_i h;rw [em];exists λz=>z.elim id λz=>absurd z h,.inl
def uT {l:List Bytes} {x:Bytes} (h:∀n,(cq aG (nk n)).isSome=l.contains n):∀n,(cq (putK aG (nk x) v) (nk n)).isSome=(l++ [x]).contains n:=λn=>by
 rw [t_,so,<-h n];by_cases e:n=x
 . rw [ah (by rw [e]),ah e];rfl
 . rw [ae (λz=>e (Cw z)),ae e]
inductive iN: #v[0] | mk {K c vs H Q E:_} fl fs funs:vs= [.ref fl]->FL H fl fs->A2 (FJ K c H) fs funs->(funs.length<=8)->(∀d H',aq H H'->KP K c H' d funs->Q (.ref d) H')->iN K c vs H Q E
theorem e_:AA.h0 1 "functions_by_name" ["functions"] iN:=by
 nomatch ["functions","named","function"]
 ext h fl fs funs rfl f1 hA h8 q;nomatch 2,1,jH,bD,2,gF (rh (rP hr)) ?_ ?_,m8 (pv 1) (b_ (pv 2)) (pv 2),1
 intro D hD;have s1:=aq.upd (o:= .dK []) hD;exists fl,U,#[fs,(f1.app s1).sq],cC (K:=K) (a:=fl) (xs:=fs) (λi Z H'=> ∃v2:Option V,Z= [some (.ref fl),some (.ref D),v2]/\aq H H'/\∃aG,H' D=some (.dK aG)/\aG.length<=i/\∀n,KO K c H' ((funs.take i).find? λx=>x.name.name == n) (cq aG (nk n)))
  #[none,rfl,s1,[],aa,az _,λn=>au] (λi Z H' _ #[_,_,s,_]=>(f1.app s).sq) ?_ ?_
 . rintro i x Z H' hi ⟨v2,rfl,s,aG,hk,hl,hr⟩;obtain ⟨f,hf,hx⟩:=hA.get hi;have hil:i < fs.length:=(bj.mp hi).1;have hlen:=hA.len;have ht:=j5 hf;have hx':=hx.Y C s.Y;obtain ⟨a,dx,pl,kv,bv,ps,rfl,ha,_⟩:=id hx';refine fr ha U #[D,_,U,Rd.get (.inl hk) f.name.name,_,U,?_];have Qb:=hr f.name.name;cases hv:cq aG (nk f.name.name) with
   | none=>
    refine bC rfl ?_;refine fr ha U #[D,_,U,wA.k (k:=nk f.name.name) hk (by have:=aV;lia),?_];have dM:bW c H' (upd H' D (.dK (putK aG (nk f.name.name) (.ref a)))):=bW.upd hk rfl;exists _,U,s.bM hD,_,aa,aP (dk _ _ _) (by lia),λn=>?_;rw [ht,vS,t_];rw [hv] at Qb;by_cases e:n=f.name.name
    . subst e;rw [ah rfl];cases hq:(funs.take i).find? λx=>x.name.name == f.name.name with
      | some z=>rw [hq] at Qb;exact Qb.elim
      | none=>
       have: [f].find? (λx=>x.name.name == f.name.name)=some f:=by rw [dW,lC]
       rw [this];exact hx'.Y C dM
    . rw [ae (λz=>e (Cw z))];have: [f].find? (λx=>x.name.name == n)=none:=by rw [dW,c4.mpr (bX e)];rfl
      rw [this,qW];exact (hr n).Y C dM
   | some v=>
    refine aE rfl ?_;exists _,U,s,aG,hk,by lia,λn=>?_;rw [ht,vS];by_cases e:n=f.name.name
    . subst e;cases hq:(funs.take i).find? λx=>x.name.name == f.name.name with
      | none=>rw [hq,hv] at Qb;exact Qb.elim
      | some z=>rw [hq] at Qb;exact Qb
    . have: [f].find? (λx=>x.name.name == n)=none:=by rw [dW,c4.mpr (bX e)];rfl
      rw [this,qW];exact hr n
 . rintro Z H' ⟨v2,rfl,s,aG,hk,hl,hr⟩;rw [hA.len,cK] at hr;exists D,_,U,hk,au,λo=>?_;have dM:bW c H' (upd H' D (.g8 o (.dK aG))):=bW.upd hk rfl;exact q D _ (s.bM hD) #[aG,#[o,aa],λn=>(hr n).Y C dM]
inductive mL: #v[0] | mk {K c vs H Q E:_} a pl q x:vs= [.ref a]->Node K c H a pl (.pick q x)->x.weights.length<=4097->aN c.cf E H (if (x.weights.all λw=>w.num == 0)=true then .error #[11,q] else .ok ()) (λ_=> ∀H',aq H H'->Q .cx H')->mL K c vs H Q E
theorem wN:AA.hF 4 "check_weights" ["pick"] mL:=by
 nomatch ["pick","weight"]
 ext h a pl qp x rfl ⟨dx,fl,bv,fs,hN,_,ff,hA⟩ hz q;nomatch 1,aM (Pw rfl) ?_,iA (bD (b_ (pv 0))) [("weight",1)] (λ_ _ _ _ _=>(bL 1)) (λ_ _ _ _ _=>(Gs bJ (N5 (MU (K:=K) rfl) (pv 1) wg) wg))
 have hlen:=hA.len;have jm:=aV;have hw:DS (.pick qp x)=x.weights:=rfl;rw [hw] at hA hlen;refine fr hN U #[fl,U,#[fs,ff.sq],λD hD=>jR (K:=K) (a:=fl) (x.weights.map λf=>V.bl (decide (V.int f.num=V.int 0))) (by rw [aB];exact hlen.symm) hD ff.sq (by lia) (λi v y H2 R hv hy s2 kk=>?_) λH2 s2 e2=>?_]
 . obtain ⟨f,hf,b,rfl,hb⟩:=hA.get hv;have hy':y=V.bl (decide (V.int f.num=V.int 0)):=by rw [bA,hf] at hy;exact (bE hy).symm
   subst hy';exists U,b,_,_,_,U,U,.inl (.inl (s2 _ _ hb)),U,U,kk H2 (aq.refl _)
 . have he:(x.weights.map λf=>decide (V.int f.num=V.int 0)).all id=(x.weights.all λw=>w.num == 0):=by
    rw [List.all_map];congr 1;funext f;show decide (V.int f.num=V.int 0)=(f.num == 0);rw [b8,dr,bO];exists λz=>V.int.inj z,λz=>by rw [z]
   exists D,x.weights.map λf=>decide (V.int f.num=V.int 0),U,cw.of (by rw [e2,c9];rfl),_,U,?_;rw [he];refine bG (λe3=>?_) λe3=>?_
   . rw [ah e3] at q;refine fr (s2 _ _ hN) U #[_,_,U,jI.go q s2]
   . rw [ae (by rw [e3];exact aO)] at q;exact q H2 s2
inductive sr: #v[0] | mk {K c vs H Q E:_} a pl ps q f x nd p:vs= [.ref a,.ref nd]->Node K c H a pl (.call q f x)->FL H pl ps->ps.length=x.count->KP K c H nd p.funs->aN c.cf E H (gN p q f x) (λ_=>Q .cx H)->sr K c vs H Q E
theorem Au:AA.hF 4 "check_call" ["call","named"] sr:=by
 nomatch ["call","named"]
 ext h a pl ps qp fn x nd p rfl ⟨dx,fl,bv,fs,hN,_⟩ fp hlen ⟨aG,fd',hr'⟩ q;nomatch 2,gF (rh (rP hr)) ?_ ?_,A5,aM aJ,aM aJ,ic (pv 1) (b_ (pv 0))
 unfold gN Vaprbb.Prog.fun at q;have hrn:=hr' fn;refine fr hN U #[nd,_,U,fd'.get fn,_,U,?_];cases hq:p.funs.find? λx=>x.name.name == fn with
 | none=>
  rw [hq] at hrn q;cases hv:cq aG (nk fn) with
  | some v=>rw [hv] at hrn;exact hrn.elim
  | none=>
   refine bC rfl ?_;refine fr hN U #[_,_,U,jI.go q (aq.refl _)]
 | some f=>
  rw [hq] at hrn q;cases hv:cq aG (nk fn) with
  | none=>rw [hv] at hrn;exact hrn.elim
  | some v=>
   rw [hv] at hrn;refine aE rfl ?_;ext hrn a' Al Yq kv Zx ps' rfl ha' fp' hA' _;refine fr hN U #[pl,_,U,.inl fp.sq,fr hN U #[nd,_,U,hv ▸ fd'.get fn,fr ha' U #[Yq,_,U,.inl fp'.sq,U,_,U,?_]]];have hl':=hA'.len;have q:aN c.cf E H (if x.count≠f.params.length then .error #[13,qp] else .ok ()) (λ_=>Q .cx H):=q;refine bG (λe3=>?_) λe3=>?_
   . rw [ah (λz=>by rw [hlen,hl',z] at e3;simp at e3)] at q;refine fr hN U #[_,_,U,jI.go q (aq.refl _)]
   . rw [ae (λz=>by
      have:(ps.length:Int)=(ps'.length:Int):= ~~~e3
      apply z;lia)] at q
     exact q
inductive jd: #v[0] | mk {K c vs H Q E:_} v e d nd scope p:vs= [v,.ref d,.ref nd]->GX e->iH K c H v e->Qa H d scope->KP K c H nd p.funs->aN c.cf E H (named p scope e) (λ_=> ∀H',aq H H'->Q .cx H')->jd K c vs H Q E
theorem fL:AA.hF 26 "check_expression" ["expression","known","named"] jd:=by
 nomatch ["expression","known","named","inner"]
 ext h v e d nd scope p rfl ⟨hg,hd,hz⟩ hv hk hn q;nomatch 1,bD,dw (uP AA 24) ?_,3,bJ,gF (rh (rP hr)) ?_ ?_,bJ,Au,bJ,wN
 rw [cu] at q;exists v,e,U,hg,hd,hz,hv,λpw ws H1 s1 hp hA=>?_;exists pw,U,#[ws,cw.of hp],cC (K:=K) (a:=pw) (xs:=ws) (λi Z H'=> ∃v3:Option V,Z= [some v,some (.ref d),some (.ref nd),v3]/\aq H1 H'/\aN c.cf E H (dz p scope ((subs e).drop i)) (λ_=> ∀H',aq H H'->Q .cx H'))
  #[none,rfl,aq.refl _,q] (λi Z H' _ #[_,_,s,_]=>cw.of (s _ _ hp)) ?_ ?_
 . rintro i x Z H' hi ⟨v3,rfl,s,q⟩;obtain ⟨k,hk',hx⟩:=hA.get hi;have Nh:=cW hg k (bc hk');have sH:=s1.trans s;have hx:=hx.Y C s.Y;rw [d3 hk'] at q;have q:aN c.cf E H (FU p scope k >>= λ_=>dz p scope ((subs e).drop (i+1))) (λ_=> ∀H',aq H H'->Q .cx H'):=q;obtain ⟨a,pl,ps,rfl,hN,fp,WU⟩:=hx.view Nh;obtain ⟨dx,fl,bv,fs,hN',hN2⟩:=id hN;have hk:=hk.same sH;have hn:=hn.Y C sH.Y;refine fr hN' U #[U,_,U,?_];rcases Iz p scope Nh with ⟨qp,n,rfl⟩ | ⟨qp,f,y,rfl⟩ | ⟨qp,y,rfl⟩ | ⟨hc,f1,f2,f3⟩
   . refine bC rfl ?_;ext hk aG hrd hkv;refine fr hN' U #[d,_,U,hrd.get n,_,U,?_];rw [hkv n];have q:aN c.cf E H ((if scope.contains n=true then .ok () else .error #[6,qp]) >>= λ_=>dz p scope ((subs e).drop (i+1))) (λ_=> ∀H',aq H H'->Q .cx H'):=q;by_cases hc:scope.contains n=true
     . rw [ah hc] at q;refine aE (by rw [hc];rfl) ?_;refine fr hN' U #[U,_,U,aE U ?_];refine fr hN' U #[U,_,U,aE U #[_,U,s,q]]
     . rw [ae hc] at q;refine bC (by rw [vX] at hc;rw [hc];rfl) ?_;refine fr hN' U #[_,_,U,jI.go q sH]
   . refine aE rfl (aE rfl ?_);refine fr hN' U #[U,_,U,bC U ?_];have q:aN c.cf E H (gN p qp f y >>= λ_=>dz p scope ((subs e).drop (i+1))) (λ_=> ∀H',aq H H'->Q .cx H'):=q;exists a,pl,ps,qp,f,y,nd,p,U,hN,fp,WU.len.trans (mK ∅ Nh.2.2),hn,?_;cases hcc:gN p qp f y with
     | error z=>rw [hcc] at q;exact jI.on q sH
     | ok _=>
      rw [hcc] at q;refine fr hN' U #[U,_,U,aE U #[_,U,s,q]]
   . refine aE rfl (aE rfl ?_);refine fr hN' U #[U,_,U,aE U ?_];refine fr hN' U #[U,_,U,bC U ?_];have q:aN c.cf E H ((if (y.weights.all λw=>w.num == 0)=true then .error #[11,qp] else .ok ()) >>= λ_=>dz p scope ((subs e).drop (i+1))) (λ_=> ∀H',aq H H'->Q .cx H'):=q;exists a,pl,qp,y,U,hN,?_,?_
     . have h1:=fB (bc hk');have h2:=xE Nh.2.1;have h3:sz (.pick qp y)=sz y+1:=rfl;lia
     . by_cases hw:(y.weights.all λw=>w.num == 0)=true
       . rw [ah hw] at q ⊢;exact jI.on q sH
       . rw [ae hw] at q ⊢;exact λH2 s2=>#[_,rfl,s.trans s2,q]
   . refine aE f1 (aE rfl ?_);refine fr hN' U #[U,_,U,aE f2 ?_];refine fr hN' U #[U,_,U,aE f3 #[_,U,s,?_]];rw [hc] at q;exact q
 . rintro Z H' ⟨v3,rfl,s,q⟩;rw [hA.len,fP] at q;exact q H' (s1.trans s)
def Hb (H:Hp) (d:Addr) (scope:List Bytes):= ∃aG,FD H d aG/\∀n,(cq aG (nk n)).isSome=scope.contains n
def Hb.s {d:Addr} (h:Hb H d scope):Qa H d scope:=let #[aG,f,k]:=h;#[aG,f.rd,k]
theorem Hb.Y {d:Addr} (h:Hb H d scope) (i:bW c H H'):Hb H' d scope:=let #[aG,f,k]:=h;#[aG,f.Y i,k]
def aq.dict (s:aq H H') (hD:H D=none):aq H (upd H' D o):=s.bM hD
def KQ:(cq xU (.inr (aR b))).isSome=true↔((unOf b).isSome=true\/(binOf b).isSome=true):=by
 rw [yp];cases unOf b <;> cases binOf b <;> simp
inductive sy: #v[0] | mk {K c vs H Q E:_} tl ts tells d scope:vs= [.ref tl,.ref d]->FL H tl ts->A2 (Kx c H) ts tells->tells.length<=6->Qa H d scope->aN c.cf E H (tellsRight scope [] tells) (λ_=> ∀H',aq H H'->Q .cx H')->sy K c vs H Q E
theorem Av:AA.hF 4 "check_told" ["told","lets"] sy:=by
 nomatch ["told","lets","earlier","token"]
 ext h tl ts tells d scope rfl ft hA h6 hk q;nomatch 2,2,jH,bD,3,gF (rh (rP hr)) ?_ ?_,gF (B9 (rP hr)) ?_ ?_,m8 (pv 2) (b_ (pv 3)) C8
 intro D hD;have s1:=aq.upd (o:= .dK []) hD;exists tl,U,#[ts,(ft.app s1).sq],cC (K:=K) (a:=tl) (xs:=ts) (λi Z H'=> ∃v2:Option V,Z= [some (.ref tl),some (.ref d),some (.ref D),v2]/\aq H H'/\∃aG,H' D=some (.dK aG)/\aG.length<=i/\(∀n,(cq aG (nk n)).isSome=((tells.take i).map (·.name)).contains n)/\aN c.cf E H (tellsRight scope ((tells.take i).map (·.name)) (tells.drop i)) (λ_=> ∀H',aq H H'->Q .cx H'))
  #[none,rfl,s1,[],aa,az _,λn=>rfl,q] (λi Z H' _ #[_,_,s,_]=>(ft.app s).sq) ?_ ?_
 . rintro i x Z H' hi ⟨v2,rfl,s,aG,hkv,hl,hr,q⟩;obtain ⟨t,ht,a,rfl,bh,da,ha⟩:=hA.get hi;have ha:=s _ _ ha;have hil:i < ts.length:=(bj.mp hi).1;have hlen:=hA.len;rw [d3 ht] at q;have q:aN c.cf E H (if scope.contains t.name=false then .error #[6,t.place] else if ((tells.take i).map (·.name)).contains t.name=true then .error #[5,t.place] else tellsRight scope ((tells.take i).map (·.name)++ [t.name]) (tells.drop (i+1))) (λ_=> ∀H',aq H H'->Q .cx H'):=q;obtain ⟨Zy,hrd,hk2⟩:=hk.same s;refine fr ha U #[d,_,U,hrd.get t.name,_,U,?_];rw [hk2];refine bG (λe1=>?_) λe1=>?_
   . rw [ah (~~~e1)] at q;refine fr ha U #[_,_,U,jI.go q s]
   rw [ae (~~~e1)] at q;refine fr ha U #[D,_,U,Rd.get (.inl hkv) t.name,_,U,?_];rw [hr];refine bG (λe2=>?_) λe2=>?_
   . rw [ah e2] at q;refine fr ha U #[_,_,U,jI.go q s]
   rw [ae (by rw [e2];exact aO)] at q;refine fr ha U #[D,_,U,wA.k (k:=nk t.name) hkv (by have:=aV;lia),?_];have e3:(tells.take (i+1)).map (·.name)=(tells.take i).map (·.name)++ [t.name]:=by rw [j5 ht,dX];rfl
   exists _,U,s.bM hD,_,aa,aP (dk _ _ _) (by lia),?_,?_
   . rw [e3];exact uT hr
   . rw [e3];exact q
 . rintro Z H' ⟨v2,rfl,s,aG,hkv,hl,hr,q⟩;rw [hA.len,fP] at q;exact q H' s
inductive gY: #v[0] | mk {K c vs H Q E:_} pl ps params:vs= [.ref pl]->FL H pl ps->A2 (Cj K c H) ps params->params.length<=4->aN c.cf E H (declsRight [] params) (λ_=> ∀d H',aq H H'->Hb H' d (params.map λx:Decl=>x.name.name)->Q (.ref d) H')->gY K c vs H Q E
theorem oE:AA.hF 4 "checked_parameters" ["parameters"] gY:=by
 nomatch ["parameters","known","parameter"]
 ext h pl ps params rfl fp hA h4 q;nomatch 2,1,jH,bD,2,gF (B9 (rP hr)) ?_ ?_,m8 (pv 1) (b_ (pv 2)) C8,1
 intro D hD;have s1:=aq.upd (o:= .dK []) hD;exists pl,U,#[ps,(fp.app s1).sq],cC (K:=K) (a:=pl) (xs:=ps) (λi Z H'=> ∃v2:Option V,Z= [some (.ref pl),some (.ref D),v2]/\aq H H'/\∃aG,H' D=some (.dK aG)/\aG.length<=i/\(∀n,(cq aG (nk n)).isSome=((params.take i).map λx:Decl=>x.name.name).contains n)/\aN c.cf E H (declsRight ((params.take i).map λx:Decl=>x.name.name) (params.drop i)) (λ_=> ∀d H',aq H H'->Hb H' d (params.map λx:Decl=>x.name.name)->Q (.ref d) H'))
  #[none,rfl,s1,[],aa,az _,λn=>rfl,q] (λi Z H' _ #[_,_,s,_]=>(fp.app s).sq) ?_ ?_
 . rintro i x Z H' hi ⟨v2,rfl,s,aG,hkv,hl,hr,q⟩;obtain ⟨t,ht,a,da,kv,rfl,ha,_⟩:=hA.get hi;have ha:=s _ _ ha;have hil:i < ps.length:=(bj.mp hi).1;have hlen:=hA.len;rw [d3 ht] at q;have q:aN c.cf E H (if ((params.take i).map λx:Decl=>x.name.name).contains t.name.name=true then .error #[5,t.name.place] else declsRight ((params.take i).map (λx:Decl=>x.name.name)++ [t.name.name]) (params.drop (i+1))) (λ_=> ∀d H',aq H H'->Hb H' d (params.map λx:Decl=>x.name.name)->Q (.ref d) H'):=q;refine fr ha U #[D,_,U,Rd.get (.inl hkv) t.name.name,_,U,?_];rw [hr];refine bG (λe2=>?_) λe2=>?_
   . rw [ah e2] at q;refine fr ha U #[_,_,U,jI.go q s]
   rw [ae (by rw [e2];exact aO)] at q;refine fr ha U #[D,_,U,wA.k (k:=nk t.name.name) hkv (by have:=aV;lia),?_];have e3:(params.take (i+1)).map (λx:Decl=>x.name.name)=(params.take i).map (λx:Decl=>x.name.name)++ [t.name.name]:=by rw [j5 ht,dX];rfl
   exists _,U,s.bM hD,_,aa,aP (dk _ _ _) (by lia),?_,?_
   . rw [e3];exact uT hr
   . rw [e3];exact q
 . rintro Z H' ⟨v2,rfl,s,aG,hkv,hl,hr,q⟩;rw [hA.len,fP,cK] at q;rw [hA.len,cK] at hr;exists D,_,U,hkv,au,λo=>?_;exact q D _ (s.bM hD) #[aG,#[o,aa],hr]
inductive j6: #v[0] | mk {K c vs H Q E:_} fl fs funs nd p:vs= [.ref fl,.ref nd]->FL H fl fs->A2 (FJ K c H) fs funs->(∀f∈funs,GF f)->(funs.length<=8)->KP K c H nd p.funs->aN c.cf E H (funsRight p [] funs) (λ_=> ∀H',aq H H'->Q .cx H')->j6 K c vs H Q E
theorem tE:AA.hF 27 "check_functions" ["functions","named"] j6:=by
 nomatch ["functions","named","earlier","function"]
 ext h fl fs funs nd p rfl ff hA hG h8 hn q;nomatch 2,2,jH,bD,3,B_,fG T.jh,gF (B9 (rP hr)) ?_ ?_,m8 (pv 2) (b_ (pv 3)) C8,fL,oE
 intro D hD;have s1:=aq.upd (o:= .dK []) hD;exists fl,U,#[fs,(ff.app s1).sq],cC (K:=K) (a:=fl) (xs:=fs) (λi Z H'=> ∃v2:Option V,Z= [some (.ref fl),some (.ref nd),some (.ref D),v2]/\aq H H'/\∃aG,H' D=some (.dK aG)/\aG.length<=i/\(∀n,(cq aG (nk n)).isSome=((funs.take i).map λx:Fu=>x.name.name).contains n)/\aN c.cf E H (funsRight p ((funs.take i).map λx:Fu=>x.name.name) (funs.drop i)) (λ_=> ∀H',aq H H'->Q .cx H'))
  #[none,rfl,s1,[],aa,az _,λn=>rfl,q] (λi Z H' _ #[_,_,s,_]=>(ff.app s).sq) ?_ ?_
 . rintro i x Z H' hi ⟨v2,rfl,s,aG,hkv,hl,hr,q⟩;obtain ⟨f,hf,hx⟩:=hA.get hi;have hgf:=hG f (bc hf);obtain ⟨a,da,pl,kv,bv,ps,rfl,ha,fp,Qc,_,hb⟩:=hx.Y C s.Y;have hil:i < fs.length:=(bj.mp hi).1;have hlen:=hA.len;rw [d3 hf] at q;have q:aN c.cf E H (if (unOf f.name.name).isSome=true\/(binOf f.name.name).isSome=true then .error #[12,f.name.place] else if ((funs.take i).map λx:Fu=>x.name.name).contains f.name.name=true then .error #[5,f.name.place] else declsRight [] f.params >>= λ_=>named p (f.params.map λd:Decl=>d.name.name) f.body >>= λ_=>funsRight p ((funs.take i).map (λx:Fu=>x.name.name)++ [f.name.name]) (funs.drop (i+1))) (λ_=> ∀H',aq H H'->Q .cx H'):=q;refine fr ha U #[g.ops,xU,.inr (aR f.name.name),U,U,T.DF,_,U,?_];refine bG (λe1=>?_) λe1=>?_
   . rw [ah (KQ.mp e1)] at q;refine fr ha U #[_,_,U,jI.go q s]
   rw [ae (λz=>by rw [KQ.mpr z] at e1;cases e1)] at q;refine fr ha U #[D,_,U,Rd.get (.inl hkv) f.name.name,_,U,?_];rw [hr];refine bG (λe2=>?_) λe2=>?_
   . rw [ah e2] at q;refine fr ha U #[_,_,U,jI.go q s]
   rw [ae (by rw [e2];exact aO)] at q;refine fr ha U #[D,_,U,wA.k (k:=nk f.name.name) hkv (by have:=aV;lia),?_];have e3:(funs.take (i+1)).map (λx:Fu=>x.name.name)=(funs.take i).map (λx:Fu=>x.name.name)++ [f.name.name]:=by rw [j5 hf,dX];rfl
   have dM:bW c H' (upd H' D (.dK (putK aG (nk f.name.name) (.bl true)))):=bW.upd hkv rfl;have su:aq H (upd H' D (.dK (putK aG (nk f.name.name) (.bl true)))):=s.bM hD;have mW:=dM _ _ ha C.PV;refine fr mW U (fr mW U #[pl,ps,f.params,U,fp.mono dM,Qc.mono λ_ _ z=>z.Y C dM,hgf.pl,?_]);refine aN.imp (ok:=λ_=>aN c.cf E H (named p (f.params.map λd:Decl=>d.name.name) f.body >>= λ_=>funsRight p ((funs.take i).map (λx:Fu=>x.name.name)++ [f.name.name]) (funs.drop (i+1))) (λ_=> ∀H',aq H H'->Q .cx H')) (aN.step (aN.on q su) λ_ e4 _=>?_) λ_ _ q d H2 s2 hd=>?_
   . rw [e4] at q;exact q
   exists bv,f.body,d,nd,_,p,U,hgf.bd,(hb.Y C dM).Y C s2.Y,hd.s,hn.Y C (su.trans s2).Y,?_;refine aN.imp (ok:=λ_=>aN c.cf E H (funsRight p ((funs.take i).map (λx:Fu=>x.name.name)++ [f.name.name]) (funs.drop (i+1))) (λ_=> ∀H',aq H H'->Q .cx H')) (aN.step (aN.on q (su.trans s2)) λ_ e4 _=>?_) λ_ _ q H3 s3=>?_
   . rw [e4] at q;exact q
   exists _,U,(su.trans s2).trans s3,_,(s2.trans s3) _ _ aa,aP (dk _ _ _) (by lia),?_,?_
   . rw [e3];exact uT hr
   . rw [e3];exact q
 . rintro Z H' ⟨v2,rfl,s,aG,hkv,hl,hr,q⟩;rw [hA.len,fP] at q;exact q H' s
inductive je: #v[0] | mk {K c vs H Q E:_} sl ss stms nd p:vs= [.ref sl,.ref nd]->FL H sl ss->A2 (EI K c H) ss stms->(∀s∈stms,Ow s)->stms.length<=32->KP K c H nd p.funs->aN c.cf E H (stmsRight p [] stms) (λscope=> ∀d H',aq H H'->Hb H' d scope->Q (.ref d) H')->je K c vs H Q E
theorem rM:AA.hF 27 "check_statements" ["statements","named"] je:=by
 nomatch ["statements","named","known","statement"]
 ext h sl ss stms nd p rfl ff hA hG h8 hn q;nomatch 2,2,jH,bD,3,aM o5,fG AA.Bm,gF (B9 (rP hr)) ?_ ?_,fL,aM o5,fG AA.Bm,m8 (pv 2) (b_ (pv 3)) C8,1
 intro D hD;have s1:=aq.upd (o:= .dK []) hD;exists sl,U,#[ss,(ff.app s1).sq],cC (K:=K) (a:=sl) (xs:=ss) (λi Z H'=> ∃v2:Option V,Z= [some (.ref sl),some (.ref nd),some (.ref D),v2]/\aq H H'/\∃aG scope,H' D=some (.dK aG)/\aG.length<=i/\(∀n,(cq aG (nk n)).isSome=List.contains scope n)/\aN c.cf E H (stmsRight p scope (stms.drop i)) (λscope=> ∀d H',aq H H'->Hb H' d scope->Q (.ref d) H'))
  #[none,rfl,s1,[],[],aa,az _,λn=>rfl,q] (λi Z H' _ #[_,_,s,_]=>(ff.app s).sq) ?_ ?_
 . rintro i x Z H' hi ⟨v2,rfl,s,aG,scope,hkv,hl,hr,q⟩;obtain ⟨st,fZ,hx⟩:=hA.get hi;have hgs:=hG st (bc fZ);have hx:=hx.Y C s.Y;have hil:i < ss.length:=(bj.mp hi).1;have hlen:=hA.len;rw [d3 fZ] at q;cases st with
   | observe e=>
    have q:aN c.cf E H (named p scope e >>= λ_=>stmsRight p scope (stms.drop (i+1))) (λscope=> ∀d H',aq H H'->Hb H' d scope->Q (.ref d) H'):=q;ext hx a da ev rfl ha he;exists _,_,_,_,U,C.wJ _ _ _ _ ha,C.ro,_,U,aE U (aE U ?_);refine fr ha U #[ev,e,D,nd,scope,p,U,hgs,he,#[aG,.inl hkv,hr],hn.Y C s.Y,?_];refine aN.imp (ok:=λ_=>aN c.cf E H (stmsRight p scope (stms.drop (i+1))) (λscope=> ∀d H',aq H H'->Hb H' d scope->Q (.ref d) H')) (aN.step (aN.on q s) λ_ e4 _=>?_) λ_ _ q H3 s3=>?_
    . rw [e4] at q;exact q
    have ha3:=s3 _ _ ha;exists _,_,_,_,U,C.wJ _ _ _ _ ha3,C.ro,_,U,aE U #[_,U,s.trans s3,aG,scope,s3 _ _ hkv,by lia,hr,q]
   | lets nn k e=>
    have q:aN c.cf E H (if scope.contains nn.name=true then .error #[5,nn.place] else named p scope e >>= λ_=>stmsRight p (scope++ [nn.name]) (stms.drop (i+1))) (λscope=> ∀d H',aq H H'->Hb H' d scope->Q (.ref d) H'):=q;ext hx a da wv ev rfl ha _ he;exists _,_,_,_,U,C.wI _ _ _ _ ha,C.rn,_,U,bC U ?_;refine fr ha U #[D,_,U,Rd.get (.inl hkv) nn.name,_,U,?_];rw [hr];refine bG (λe2=>?_) λe2=>?_
    . rw [ah e2] at q;refine fr ha U #[_,_,U,jI.go q s]
    rw [ae (by rw [e2];exact aO)] at q;refine fr ha U #[ev,e,D,nd,scope,p,U,hgs.2.2,he,#[aG,.inl hkv,hr],hn.Y C s.Y,?_];refine aN.imp (ok:=λ_=>aN c.cf E H (stmsRight p (scope++ [nn.name]) (stms.drop (i+1))) (λscope=> ∀d H',aq H H'->Hb H' d scope->Q (.ref d) H')) (aN.step (aN.on q s) λ_ e4 _=>?_) λ_ _ q H3 s3=>?_
    . rw [e4] at q;exact q
    have ha3:=s3 _ _ ha;have hk3:=s3 _ _ hkv;exists _,_,_,_,U,C.wI _ _ _ _ ha3,C.rn,_,U,bC U ?_;refine fr ha3 U #[D,_,U,wA.k (k:=nk nn.name) hk3 (by have:=aV;lia),?_];exists _,U,(s.trans s3).bM hD,_,_,aa,aP (dk _ _ _) (by lia),uT hr,q
 . rintro Z H' ⟨v2,rfl,s,aG,scope,hkv,hl,hr,q⟩;rw [hA.len,fP] at q;exists D,_,U,hkv,au,λo=>?_;exact q D _ (s.bM hD) #[aG,#[o,aa],hr]
inductive pZ: #v[0] | mk {K c vs H Q E:_} v p:vs= [v]->EJ K c H v p->GP p->aN c.cf E H (namesRight p) (λ_=> ∀H',aq H H'->Q .cx H')->pZ K c vs H Q E
theorem zI:AA.hF 28 "check_names" ["program"] pZ:=by
 nomatch ["program","functions","lets"]
 ext h v p rfl hP hG q;nomatch 2,1,e_,tE,2,rM,Av
 obtain ⟨a,dx,fl,sl,tl,fs,ss,ts,rfl,ha,f1,A1,f2,As,f3,A3⟩:=id hP;have q:aN c.cf E H (funsRight p [] p.funs >>= λ_=>stmsRight p [] p.stms >>= λscope=>tellsRight scope [] p.tells) (λ_=> ∀H',aq H H'->Q .cx H'):=q;refine fr ha U #[fl,fs,p.funs,U,f1,A1,hG.fl,λd H1 s1 hn=>?_];have ha1:=s1 _ _ ha;refine fr ha1 U #[fl,fs,p.funs,d,p,U,f1.app s1,A1.mono λ_ _ z=>z.Y C s1.Y,hG.fn,hG.fl,hn,?_];refine aN.imp (ok:=λ_=>aN c.cf E H (stmsRight p [] p.stms >>= λscope=>tellsRight scope [] p.tells) (λ_=> ∀H',aq H H'->Q .cx H')) (aN.step (aN.on q s1) λ_ e4 _=>?_) λ_ _ q H2 s2=>?_
 . rw [e4] at q;exact q
 have s12:=s1.trans s2;have mW:=s12 _ _ ha;refine fr mW U #[sl,ss,p.stms,d,p,U,f2.app s12,As.mono λ_ _ z=>z.Y C s12.Y,hG.st,hG.sl,hn.Y C s2.Y,?_];refine aN.imp (ok:=λscope=>aN c.cf E H (tellsRight scope [] p.tells) (λ_=> ∀H',aq H H'->Q .cx H')) (aN.step (aN.on q s12) λ_ e4 _=>?_) λscope _ q d2 H3 s3 hk=>?_
 . rw [e4] at q;exact q
 have SA:=s12.trans s3;have ha3:=SA _ _ ha;refine fr ha3 U #[tl,ts,p.tells,d2,scope,U,f3.app SA,A3.mono λ_ _ z=>z.Y C SA.Y,hG.tl,hk.s,?_];exact aN.imp (aN.on q SA) λ_ _ q H4 s4=>q H4 (SA.trans s4)
section
variable {En:Vaprbb.Env}
theorem wO:∀{e:Ex} {l:List (Kd×Nat)},gd e 0->kindsOf p En e= .ok l->∃k,l= [(k,e.place)]
 | .nil,_,g,_=>by rcases g with g | g <;> cases g
 | .arg _ _,_,g,_=>absurd g.1 ∅
 | .way _ _ _,_,g,_=>absurd g.1 ∅
 | .lit q (.flag _),l,_,h=>by cases h;exists _,U
 | .lit q (.num n),l,_,h=>by obtain ⟨k,_,e⟩:=jW h;cases e;exists k,U
 | .name q n,l,_,h=>by
  have h:(match En.kind n with | some k=> .ok [(k,q)] | none=> .error #[6,q]:Except Fault _)= .ok l:=h;split at h
  . cases h;exists _,U
  . cases h
 | .un q o a,l,_,h=>by obtain ⟨k,_,h⟩:=aj h;obtain ⟨r,_,h⟩:=aj h;cases h;exists r,U
 | .bin q o a b,l,_,h=>by obtain ⟨k,_,h⟩:=aj h;obtain ⟨k2,_,h⟩:=aj h;obtain ⟨r,_,h⟩:=aj h;cases h;exists r,U
 | .flip q f,l,_,h=>by cases h;exists _,U
 | .uniform q lo hi,l,_,h=>by cases h;exists _,U
 | .cond q d a b,l,_,h=>by
  obtain ⟨k,_,h⟩:=aj h;have h:((if isNum ((k.head?.map λx=>x.1).getD .flag)=true then .error #[8,d.place] else .ok ()) >>= λ_=>kindsOf p En a >>= λx=>kindsOf p En b >>= λy=>aroundAll q ((x.head?.map λx=>x.1).getD .flag) y >>= λr=> .ok [(r,q)]:Except Fault _)= .ok l:=by
   rw [<-h];split <;> rfl
  obtain ⟨_,_,h⟩:=aj h;obtain ⟨x,_,h⟩:=aj h;obtain ⟨y,_,h⟩:=aj h;obtain ⟨r,_,h⟩:=aj h;cases h;exists r,U
 | .given q d a,l,g,h=>by
  obtain ⟨k,_,h⟩:=aj h;have h:((if isNum ((k.head?.map λx=>x.1).getD .flag)=true then .error #[8,d.place] else .ok ()) >>= λ_=>kindsOf p En a >>= λx=> .ok (x.map λy=>(y.1,q)):Except Fault _)= .ok l:=by
   rw [<-h];split <;> rfl
  obtain ⟨_,_,h⟩:=aj h;obtain ⟨x,hx,h⟩:=aj h;obtain ⟨kx,rfl⟩:=wO g.2.2 hx;cases h;exists kx,U
 | .weigh q w a,l,g,h=>by
  obtain ⟨x,hx,h⟩:=aj h;obtain ⟨kx,rfl⟩:=wO g.2.2 hx;cases h;exists kx,U
 | .call q f x,l,_,h=>by
  have h:(match p.fun f with | none=> .error #[6,q] | some g=>kindsOf p En x >>= λks=>argsHeld ks g.params >>= λ_=> .ok [(g.result,q)]:Except Fault _)= .ok l:=h;split at h
  . cases h
  . obtain ⟨ks,_,h⟩:=aj h;obtain ⟨_,_,h⟩:=aj h;cases h;exists _,U
 | .pick q x,l,_,h=>by obtain ⟨ks,_,h⟩:=aj h;obtain ⟨r,_,h⟩:=aj h;cases h;exists r,U
def gz (g:gd e 0):kindsOf p En e=(kindOf p En e >>= λk=> .ok [(k,e.place)]):=by
 unfold Vaprbb.kindOf;cases h:kindsOf p En e with
 | error f=>rfl
 | ok l=>obtain ⟨k,rfl⟩:=wO g h;rfl
noncomputable def dQ (p:Prog) (En:Vaprbb.Env):List Ex->Except Fault (List Kd)
 | []=> .ok []
 | e :: r=>kindOf p En e >>= λk=>dQ p En r >>= λks=> .ok (k :: ks)
theorem mM:∀{l:List Ex} {ks:List Kd},dQ p En l= .ok ks->ks.length=l.length
 | [],ks,h=>by cases h;rfl
 | e :: r,ks,h=>by obtain ⟨k,_,h⟩:=aj h;obtain ⟨ks',h2,h⟩:=aj h;cases h;exact bq (· +1) (mM h2)
theorem kX {s:Nat} (hs:s≠0):∀{x:Ex},gd x s->kindsOf p En x=(dQ p En (eM x) >>= λks=> .ok (ks.zip ((eM x).map (·.place))))
 | .nil,_=>rfl
 | .arg a r,h=>by
  show (kindsOf p En a >>= λk=>kindsOf p En r >>= λks=> .ok (k++ks))=_;rw [gz h.2.1,kX ∅ h.2.2];show _=((kindOf p En a >>= λk=>dQ p En (eM r) >>= λks=> .ok (k :: ks)) >>= _);simp only [bn];rfl
 | .way a w r,h=>by
  show (kindsOf p En a >>= λk=>kindsOf p En r >>= λks=> .ok (k++ks))=_;rw [gz h.2.1,kX ∅ h.2.2.2];show _=((kindOf p En a >>= λk=>dQ p En (eM r) >>= λks=> .ok (k :: ks)) >>= _);simp only [bn];rfl
 | .lit _ (.num _),h=>absurd h.1 hs
 | .lit _ (.flag _),h=>absurd h hs
 | .name _ _,h=>absurd h.1 hs
 | .un _ _ _,h=>absurd h.1 hs
 | .bin _ _ _ _,h=>absurd h.1 hs
 | .flip _ _,h=>absurd h.1 hs
 | .uniform _ _ _,h=>absurd h.1 hs
 | .cond _ _ _ _,h=>absurd h.1 hs
 | .given _ _ _,h=>absurd h.1 hs
 | .weigh _ _ _,h=>absurd h.1 hs
 | .call _ _ _,h=>absurd h.1 hs
 | .pick _ _,h=>absurd h.1 hs
theorem nA {lo hi:Int} (h:numKind q lo hi= .ok k) (hl:lo<=hi):li k/\k= .num lo hi:=by
 rw [gf] at h;split at h
 . cases h
 . cases h;exists #[by lia,hl,by lia,by lia],U
theorem IA {l m:Kd} (hk:li k) (hl:li l) (h:around q k l= .ok m):li m:=by
 cases k with
 | flag=>cases h;exact hk
 | num a b=>
  cases l with
  | flag=>cases h;exact hk
  | num c' d=>
   have hk: -1000<=a/\a<=b/\b<=1000/\b<=a+63:=hk;have h:numKind q (min a c') (max b d)= .ok m:=h;exact (nA h (by omega)).1
theorem nB:∀{l:List (Kd×Nat)} {k m:Kd},li k->(∀x∈l,li x.1)->aroundAll q k l= .ok m->li m
 | [],k,m,hk,_,h=>by cases h;exact hk
 | x :: r,k,m,hk,hr,h=>by
  have h:(if alike k x.1=false then .error #[8,x.2] else around q k x.1 >>= λm=>aroundAll q m r:Except Fault _)= .ok m:=h;split at h
  . cases h
  . obtain ⟨m',h1,h⟩:=aj h;exact nB (IA hk (hr x bi) h1) (λy hy=>hr y (aW _ hy)) h
theorem D6 (hk:li k):around q k k= .ok k:=by
 cases k with
 | flag=>rfl
 | num a b=>
  have hk: -1000<=a/\a<=b/\b<=1000/\b<=a+63:=hk;show numKind q (min a a) (max b b)=_;rw [gf,Int.min_self,Int.max_self,ae (by lia)]
def FV (k:Kd):alike k k=true:=by cases k <;> rfl
def gO (hk:li k) (l:List (Kd×Nat)):aroundAll q k ((k,pl) :: l)=aroundAll q k l:=by
 show (if alike k k=false then .error #[8,pl] else around q k k >>= λm=>aroundAll q m l:Except Fault _)=_;rw [FV,ae Bool.noConfusion,D6 hk];rfl
def cn (k:Kd) (pl:Nat):Except Fault Unit:=if isNum k=true then .error #[8,pl] else .ok ()
def KR (q:Nat) (n:Int):kindOf p En (.lit q (.num n))=numKind q n n:=by
 show ((numKind q n n).map λk=> [(k,q)]).map _=_;cases numKind q n n <;> rfl
def Hd (q:Nat) (n:Bytes):kindOf p En (.name q n)=match En.kind n with | some k=> .ok k | none=> .error #[6,q]:=by
 unfold Vaprbb.kindOf kindsOf;cases En.kind n <;> rfl
def Ox {o:Vaprbb.Un} {a:Ex} (g:gd a 0):kindOf p En (.un q o a)=(kindOf p En a >>= λk=>unKind q o k a.place):=by
 have:kindsOf p En (.un q o a)=(kindsOf p En a >>= λk=>unKind q o ((k.head?.map λx=>x.1).getD .flag) a.place >>= λr=> .ok [(r,q)]):=rfl;unfold Vaprbb.kindOf;rw [this,gz g];unfold Vaprbb.kindOf;cases kindsOf p En a with
 | error f=>rfl
 | ok l=>
  show Except.map _ (unKind q o _ a.place >>= _)=unKind q o _ a.place;show Except.map _ (unKind q o ((l.head?.map λx=>x.1).getD .flag) a.place >>= _)=unKind q o ((l.head?.map λx=>x.1).getD .flag) a.place;cases unKind q o ((l.head?.map λx=>x.1).getD .flag) a.place <;> rfl
def KS {o:Vaprbb.Bin} {a b:Ex}:kindOf p En (.bin q o a b)=(kindOf p En a >>= λk=>kindOf p En b >>= λl=>binKind q o k l a.place b.place):=by
 have:kindsOf p En (.bin q o a b)=(kindsOf p En a >>= λk=>kindsOf p En b >>= λl=>binKind q o ((k.head?.map λx=>x.1).getD .flag) ((l.head?.map λx=>x.1).getD .flag) a.place b.place >>= λr=> .ok [(r,q)]):=rfl;unfold Vaprbb.kindOf;rw [this];cases kindsOf p En a with
 | error f=>rfl
 | ok l=>
  cases kindsOf p En b with
  | error f=>rfl
  | ok l2=>
   show Except.map _ (binKind q o ((l.head?.map λx=>x.1).getD .flag) ((l2.head?.map λx=>x.1).getD .flag) a.place b.place >>= _)=binKind q o ((l.head?.map λx=>x.1).getD .flag) ((l2.head?.map λx=>x.1).getD .flag) a.place b.place;cases binKind q o ((l.head?.map λx=>x.1).getD .flag) ((l2.head?.map λx=>x.1).getD .flag) a.place b.place <;> rfl
def He {d a b:Ex} (hb:gd b 0):kindOf p En (.cond q d a b)=(kindOf p En d >>= λk=>cn k d.place >>= λ_=>kindOf p En a >>= λx=>kindOf p En b >>= λy=>aroundAll q x [(y,b.place)]):=by
 have:kindsOf p En (.cond q d a b)=(kindsOf p En d >>= λk=>cn ((k.head?.map λx=>x.1).getD .flag) d.place >>= λ_=>kindsOf p En a >>= λx=>kindsOf p En b >>= λy=>aroundAll q ((x.head?.map λx=>x.1).getD .flag) y >>= λr=> .ok [(r,q)]):=by
  show (kindsOf p En d >>= _)=_;refine aS λk=>?_;unfold cn;split <;> rfl
 unfold Vaprbb.kindOf;rw [this,gz hb];unfold Vaprbb.kindOf;cases kindsOf p En d with
 | error f=>rfl
 | ok l=>
  show Except.map _ (cn ((l.head?.map λx=>x.1).getD .flag) d.place >>= _)=(cn ((l.head?.map λx=>x.1).getD .flag) d.place >>= _);cases cn ((l.head?.map λx=>x.1).getD .flag) d.place with
  | error f=>rfl
  | ok u=>
   cases kindsOf p En a with
   | error f=>rfl
   | ok l1=>
    cases kindsOf p En b with
    | error f=>rfl
    | ok l2=>
     show Except.map _ (aroundAll q ((l1.head?.map λx=>x.1).getD .flag) [((l2.head?.map λx=>x.1).getD .flag,b.place)] >>= _)=aroundAll q ((l1.head?.map λx=>x.1).getD .flag) [((l2.head?.map λx=>x.1).getD .flag,b.place)];cases aroundAll q ((l1.head?.map λx=>x.1).getD .flag) [((l2.head?.map λx=>x.1).getD .flag,b.place)] <;> rfl
def D7 {d a:Ex} (ha:gd a 0):kindOf p En (.given q d a)=(kindOf p En d >>= λk=>cn k d.place >>= λ_=>kindOf p En a):=by
 have:kindsOf p En (.given q d a)=(kindsOf p En d >>= λk=>cn ((k.head?.map λx=>x.1).getD .flag) d.place >>= λ_=>kindsOf p En a >>= λx=> .ok (x.map λy=>(y.1,q))):=by
  show (kindsOf p En d >>= _)=_;refine aS λk=>?_;unfold cn;split <;> rfl
 unfold Vaprbb.kindOf;rw [this,gz ha];unfold Vaprbb.kindOf;cases kindsOf p En d with
 | error f=>rfl
 | ok l=>
  show Except.map _ (cn ((l.head?.map λx=>x.1).getD .flag) d.place >>= _)=(cn ((l.head?.map λx=>x.1).getD .flag) d.place >>= _);cases cn ((l.head?.map λx=>x.1).getD .flag) d.place with
  | error f=>rfl
  | ok u=>cases kindsOf p En a <;> rfl
def D8 {w:VaprbBase.Frac} {a:Ex} (ha:gd a 0):kindOf p En (.weigh q w a)=kindOf p En a:=by
 have:kindsOf p En (.weigh q w a)=(kindsOf p En a >>= λx=> .ok (x.map λy=>(y.1,q))):=rfl;unfold Vaprbb.kindOf;rw [this,gz ha];unfold Vaprbb.kindOf;cases kindsOf p En a <;> rfl
def Hf {f:Bytes} {x:Ex} {s:Nat} (hs:s≠0) (hx:gd x s):kindOf p En (.call q f x)=match p.fun f with | none=> .error #[6,q] | some g=>dQ p En (eM x) >>= λks=>argsHeld (ks.zip ((eM x).map (·.place))) g.params >>= λ_=> .ok g.result:=by
 have:kindsOf p En (.call q f x)=match p.fun f with | none=> .error #[6,q] | some g=>kindsOf p En x >>= λks=>argsHeld ks g.params >>= λ_=> .ok [(g.result,q)]:=rfl
 unfold Vaprbb.kindOf;rw [this,kX hs hx];cases p.fun f with
 | none=>rfl
 | some g=>
  show Except.map _ ((dQ p En (eM x) >>= λks=> .ok (ks.zip ((eM x).map (·.place)))) >>= λks=>argsHeld ks g.params >>= λ_=> .ok [(g.result,q)])=(dQ p En (eM x) >>= _);cases dQ p En (eM x) with
  | error f=>rfl
  | ok ks=>
   show Except.map _ (argsHeld (ks.zip ((eM x).map (·.place))) g.params >>= _)=(argsHeld (ks.zip ((eM x).map (·.place))) g.params >>= _);cases argsHeld (ks.zip ((eM x).map (·.place))) g.params <;> rfl
def Hg {x:Ex} {s:Nat} (hs:s≠0) (hx:gd x s):kindOf p En (.pick q x)=(dQ p En (eM x) >>= λks=>aroundAll q (((ks.zip ((eM x).map (·.place))).head?.map λx=>x.1).getD .flag) ((ks.zip ((eM x).map (·.place))).drop 1)):=by
 have:kindsOf p En (.pick q x)=(kindsOf p En x >>= λks=>aroundAll q ((ks.head?.map λx=>x.1).getD .flag) (ks.drop 1) >>= λr=> .ok [(r,q)]):=rfl;unfold Vaprbb.kindOf;rw [this,kX hs hx];cases dQ p En (eM x) with
 | error f=>rfl
 | ok ks=>
  show Except.map _ (aroundAll q (((ks.zip ((eM x).map (·.place))).head?.map λx=>x.1).getD .flag) ((ks.zip ((eM x).map (·.place))).drop 1) >>= _)=aroundAll q (((ks.zip ((eM x).map (·.place))).head?.map λx=>x.1).getD .flag) ((ks.zip ((eM x).map (·.place))).drop 1);cases aroundAll q (((ks.zip ((eM x).map (·.place))).head?.map λx=>x.1).getD .flag) ((ks.zip ((eM x).map (·.place))).drop 1) <;> rfl
end
noncomputable def mO (w:Int):List (Kd×Nat)->Except Fault Unit
 | []=> .ok ()
 | x :: r=>if DG x.1=w then mO w r else .error #[8,x.2]
def KU:Un->Int
 | .not=>0
 | _=>1
def KW:Bin->Kd->Int
 | .and,_=>0
 | .or,_=>0
 | .eq,k=>DG k
 | _,_=>1
def IB:Un->Bool
 | .not=>true
 | _=>false
def FW:Bin->Bool
 | .and=>true
 | .or=>true
 | .eq=>true
 | .lt=>true
 | .le=>true
 | _=>false
noncomputable def oh (neg:Bool) (lo hi:Int):Int×Int:=if neg=true\/hi<=0 then (-hi,-lo) else if lo>=0 then (lo,hi) else (0,max (-lo) hi)
noncomputable def oj:Bin->Int->Int->Int->Int->Int×Int
 | .add,a,b,c,d=>(a+c,b+d)
 | .sub,a,b,c,d=>(a - d,b - c)
 | .min,a,b,c,d=>(min a c,min b d)
 | .max,a,b,c,d=>(max a c,max b d)
 | _,a,b,c,d=>(min (min (a * c) (a * d)) (min (b * c) (b * d)),max (max (a * c) (a * d)) (max (b * c) (b * d)))
def isNeg:Un->Bool
 | .neg=>true
 | _=>false
def FX (q:Nat) (o:Un) (k:Kd):Except Fault Kd:=if IB o=true then .ok .flag else match k with
 | .num lo hi=>numKind q (oh (isNeg o) lo hi).1 (oh (isNeg o) lo hi).2
 | .flag=> .ok .flag
def Cy (q:Nat) (o:Bin) (k l:Kd):Except Fault Kd:=if FW o=true then .ok .flag else match k,l with
 | .num a b,.num c d=>numKind q (oj o a b c d).1 (oj o a b c d).2
 | _,_=> .ok .flag
theorem WV {o:Un} (hk:li k):unKind q o k pl=(mO (KU o) [(k,pl)] >>= λ_=>FX q o k):=by
 cases k with
 | flag=>cases o <;> rfl
 | num lo hi=>
  have hk: -1000<=lo/\lo<=hi/\hi<=1000/\hi<=lo+63:=hk;cases o with
  | not=>rfl
  | neg=>
   show Except.ok (VaprbBase.Kind.num (-hi) (-lo))=numKind q (if true=true\/hi<=0 then (-hi,-lo) else _).1 (if true=true\/hi<=0 then (-hi,-lo) else _).2;rw [ah (.inl rfl),gf,ae (by show¬(-hi < -1000\/1000 < -lo\/ -hi+63 < -lo);lia)]
  | abs=>
   show (if 0<=lo then .ok (.num lo hi) else if hi<=0 then .ok (.num (-hi) (-lo)) else numKind q 0 (max (-lo) hi):Except Fault Kd)=numKind q (if false=true\/hi<=0 then (-hi,-lo) else if lo>=0 then (lo,hi) else (0,max (-lo) hi)).1 (if false=true\/hi<=0 then (-hi,-lo) else if lo>=0 then (lo,hi) else (0,max (-lo) hi)).2;by_cases h0:0<=lo
   . rw [ah h0];by_cases h1:hi<=0
     . have e1:lo=0:=by lia
       have e2:hi=0:=by lia
       subst e1 e2;rw [ah (.inr h1),gf,ae ∅];rfl
     . rw [ae (λz=>z.elim Bool.noConfusion h1),ah h0,gf,ae (by show¬(lo < -1000\/1000 < hi\/lo+63 < hi);lia)]
   . rw [ae h0];by_cases h1:hi<=0
     . rw [ah h1,ah (.inr h1),gf,ae (by show¬(-hi < -1000\/1000 < -lo\/ -hi+63 < -lo);lia)]
     . rw [ae h1,ae (λz=>z.elim Bool.noConfusion h1),ae (by lia)]
def SD {pa pb:Nat} {o:Bin} {l:Kd}:binKind q o k l pa pb=(mO (KW o k) [(k,pa),(l,pb)] >>= λ_=>Cy q o k l):=by
 cases k <;> cases l <;> cases o <;> rfl
theorem Ni {o:Un} {lo hi:Int} (h:lo<=hi) (e:numKind q (oh (isNeg o) lo hi).1 (oh (isNeg o) lo hi).2= .ok k):li k:=by
 refine (nA e ?_).1;unfold oh;split
 . show -hi<= -lo;omega
 . split
   . exact h
   . show (0:Int)<=max (-lo) hi;omega
theorem KY {o:Bin} {a b c d:Int} (h1:a<=b) (h2:c<=d) (e:numKind q (oj o a b c d).1 (oj o a b c d).2= .ok k):li k:=by
 refine (nA e ?_).1;cases o <;> simp only [oj] <;> first | exact eT (lF _ _) (eT (lF _ _) (eT (lG _ _) (lG _ _))) | lia
theorem nD:∀{l:List α} {m:List β} {x:α×β},x∈l.zip m->x.1∈l
 | [],_,_,h=>by simp at h
 | _ :: _,[],_,h=>by simp at h
 | a :: l,b :: m,x,h=>by
  rw [List.zip_cons_cons] at h;rcases aF.mp h with rfl | h
  . exact bi
  . exact aW _ (nD h)
section
variable {En:Vaprbb.Env} (hE:∀n k,En.kind n=some k->li k) (hF:∀f∈p.funs,li f.result)
include hE hF
theorem IC:∀e:Ex,(gd e 0->∀k,kindOf p En e= .ok k->li k)/\(∀s,s≠0->gd e s->∀ks,dQ p En (eM e)= .ok ks->∀k∈ks,li k)
 | .nil=>#[λg=>(by rcases g with g | g <;> cases g),λs _ _ ks h k hk=>(by cases h;cases hk)]
 | .arg a r=>⟨λg=>absurd g.1 ∅,λs hs g ks h k hk=>by
  obtain ⟨k1,h1,h⟩:=aj h;obtain ⟨k2,h2,h⟩:=aj h;cases h;rcases aF.mp hk with rfl | hk
  . exact (IC a).1 g.2.1 _ h1
  . exact (IC r).2 1 ∅ g.2.2 _ h2 k hk⟩
 | .way a w r=>⟨λg=>absurd g.1 ∅,λs hs g ks h k hk=>by
  obtain ⟨k1,h1,h⟩:=aj h;obtain ⟨k2,h2,h⟩:=aj h;cases h;rcases aF.mp hk with rfl | hk
  . exact (IC a).1 g.2.1 _ h1
  . exact (IC r).2 2 ∅ g.2.2.2 _ h2 k hk⟩
 | .lit q (.num n)=>#[λg k h=>by rw [KR] at h;exact (nA h (Int.le_refl _)).1,λs hs g=>absurd g.1 hs]
 | .lit q (.flag b)=>#[λg k h=>by cases h;exact au,λs hs g=>absurd g hs]
 | .name q n=>⟨λg k h=>by
  rw [Hd] at h;split at h
  . rename_i k' e;cases h;exact hE _ _ e
  . exact (nomatch h),λs hs g=>absurd g.1 hs⟩
 | .flip q f=>#[λg k h=>by cases h;exact au,λs hs g=>absurd g.1 hs]
 | .uniform q lo hi=>#[λg k h=>by cases h;exact g.2,λs hs g=>absurd g.1 hs]
 | .un q o a=>⟨λg k h=>by
  rw [Ox g.2] at h;obtain ⟨ka,h1,h⟩:=aj h;have wa:=(IC a).1 g.2 _ h1;rw [WV wa] at h;obtain ⟨_,_,h⟩:=aj h;unfold FX at h;split at h
  . cases h;exact au
  . cases ka with
    | flag=>cases h;exact au
    | num lo hi=>exact Ni wa.2.1 h,λs hs g=>absurd g.1 hs⟩
 | .bin q o a b=>⟨λg k h=>by
  rw [KS] at h;obtain ⟨ka,h1,h⟩:=aj h;obtain ⟨kb,h2,h⟩:=aj h;have wa:=(IC a).1 g.2.1 _ h1;have wb:=(IC b).1 g.2.2 _ h2;rw [SD] at h;obtain ⟨_,_,h⟩:=aj h;unfold Cy at h;split at h
  . cases h;exact au
  . cases ka with
    | flag=>cases h;exact au
    | num lo hi=>
     cases kb with
     | flag=>cases h;exact au
     | num lo2 hi2=>exact KY wa.2.1 wb.2.1 h,λs hs g=>absurd g.1 hs⟩
 | .cond q d a b=>⟨λg k h=>by
  rw [He g.2.2.2] at h;obtain ⟨kd,_,h⟩:=aj h;obtain ⟨_,_,h⟩:=aj h;obtain ⟨ka,h1,h⟩:=aj h;obtain ⟨kb,h2,h⟩:=aj h;refine nB ((IC a).1 g.2.2.1 _ h1) (λx hx=>?_) h;rcases aF.mp hx with rfl | hx
  . exact (IC b).1 g.2.2.2 _ h2
  . exact (dv hx).elim,λs hs g=>absurd g.1 hs⟩
 | .given q d a=>⟨λg k h=>by
  rw [D7 g.2.2] at h;obtain ⟨kd,_,h⟩:=aj h;obtain ⟨_,_,h⟩:=aj h;exact (IC a).1 g.2.2 _ h,λs hs g=>absurd g.1 hs⟩
 | .weigh q w a=>⟨λg k h=>by
  rw [D8 g.2.2] at h;exact (IC a).1 g.2.2 _ h,λs hs g=>absurd g.1 hs⟩
 | .call q f x=>⟨λg k h=>by
  rw [Hf ∅ g.2.2] at h;cases hf:p.fun f with
  | none=>rw [hf] at h;cases h
  | some gg=>
   rw [hf] at h;obtain ⟨_,_,h⟩:=aj h;obtain ⟨_,_,h⟩:=aj h;cases h;exact hF _ (lu hf),λs hs g=>absurd g.1 hs⟩
 | .pick q x=>⟨λg k h=>by
  rw [Hg ∅ g.2.1] at h;obtain ⟨ks,h1,h⟩:=aj h;have w1:=(IC x).2 2 ∅ g.2.1 _ h1;refine nB ?_ (λy hy=>w1 _ (nD (List.mem_of_mem_drop hy))) h;cases hz:(ks.zip ((eM x).map (·.place))).head? with
  | none=>exact au
  | some y=>
   have hm:y∈ks.zip ((eM x).map (·.place)):=List.mem_of_mem_head? hz;exact w1 _ (nD hm),λs hs g=>absurd g.1 hs⟩
end
noncomputable def zJ (w:Str) (k0:Kd):Int:=if decide (V.str w=V.str "eq")=true then DG k0 else if inV (.str w) (kn ["not","and","or"])=true then 0 else 1
def Nj (o:Un) (k:Kd):zJ (aR (unName o)) k=KU o:=by cases o <;> rfl
def KZ (o:Bin) (k:Kd):zJ (aR (binName o)) k=KW o k:=by cases o <;> rfl
def Nk (o:Un):inV (.str (aR (unName o))) (kn ["not","and","or","lt","le","eq"])=IB o:=by cases o <;> rfl
def K0 (o:Bin):inV (.str (aR (binName o))) (kn ["not","and","or","lt","le","eq"])=FW o:=by cases o <;> rfl
def zr.same (h:zr K H v k) (s:aq H H'):zr K H' v k:=h.Y (c:=#[0,0,0,0,0,0,0,0,0,0,0,0,0]) s.Y
def dA {vs:List V} (h:vs[i]? = some v):E5 vs (i:Int)=some v:=BV h
def Cz (h:DG k=1):∃lo hi,k= .num lo hi:=by
 cases k with
 | flag=>cases h
 | num lo hi=>exists lo,hi,U
theorem FY (i j:Int):(if j < i then j else i)=min i j:=by split <;> lia
theorem CA (i j:Int):(if j > i then j else i)=max i j:=by split <;> lia
inductive sA: #v[0] | mk {K c vs H Q E:_} x a aG k0 ks:vs= [.str x,.ref a]->cw K H a aG->A2 (zr K H) aG (k0 :: ks)->Q (.int (zJ x k0)) H->sA K c vs H Q E
theorem Aw:AA.h0 2 "sort_taken" ["word","kinds"] sA:=by
 nomatch ["word","kinds"]
 ext h x a aG k0 ks rfl hs hA q;nomatch 2,bJ,hJ,bR,eD,fG T.rT,T.ko,T.jJ
 unfold zJ at q;obtain ⟨v0,h0,a0,rfl,hk0⟩:=hA.get' (i:=0) (a:=k0) rfl;exists U,_,U,bG (λe1=>?_) λe1=>?_
 . rw [ah e1] at q;exists a,aG,0,_,U,U,hs,dA (i:=0) h0,a0,k0,U,hk0,q
 . rw [ae (by rw [e1];exact aO)] at q;exists g.takes,_,U,.inr (T.rV.sq _),U,gv _,_,U,?_;rw [ae aO];refine bG (λe2=>?_) λe2=>?_
   . rw [ah e2] at q;exact q
   . rw [ae (by rw [e2];exact aO)] at q;exact q
inductive p9: #v[0] | mk {K c vs H Q E:_} x a aG lo hi:vs= [.str x,.ref a]->cw K H a aG->A2 (zr K H) aG [.num lo hi]->(∀p,H p=none->Q (.ref p) (upd H p (.tup [.int (oh (decide (V.str x=V.str "neg")) lo hi).1,.int (oh (decide (V.str x=V.str "neg")) lo hi).2])))->p9 K c vs H Q E
theorem zK:AA.h0 2 "ends_of_one" ["word","kinds"] p9:=by
 nomatch ["word","kinds","low","high"]
 ext h x a aG lo hi rfl hs hA q;nomatch 2,2,eF,bR,3,dO,bR,bJ,Gr,Gm BR ?_,Gm BR ?_,Ju,0,aM (rc rfl) ?_,Gm BR ?_
 unfold oh at q;obtain ⟨v0,h0,a0,rfl,hk0⟩:=hA.get' (i:=0) (a:=VaprbBase.Kind.num lo hi) rfl;exists a,aG,0,_,U,U,hs,dA (i:=0) h0,a0,lo,hi,U,hk0,?_;exists a,aG,0,_,U,U,hs,dA (i:=0) h0,a0,lo,hi,U,hk0,?_;exists U,_,U,bG (λe1=>?_) λe1=>?_
 . rw [ah (.inl e1)] at q;exists _,U,_,U,kg,q
 . exists _,_,U,U,_,U,bG (λe2=>?_) λe2=>?_
   . rw [ah (.inr (~~~e2))] at q;exists _,U,_,U,kg,q
   . rw [ae (λz=>z.elim (λz=>by rw [e1] at z;cases z) λz=>by simp at e2;omega)] at q;exists _,_,U,U,_,U,bG (λe3=>?_) λe3=>?_
     . rw [ah (~~~e3)] at q;exists kg,q
     . rw [ae (~~~e3)] at q;exists _,U,_,_,U,kg,?_;rw [CA];exact q
def VH {m a b c d:Int} (h:m=a\/m=b\/m=c\/m=d) (k:m<=a/\m<=b/\m<=c/\m<=d):m=min (min a b) (min c d):=
 Int.le_antisymm (Int.le_min.2 #[Int.le_min.2 #[k.1,k.2.1],Int.le_min.2 k.2.2]) (by
  rcases h with e | e | e | e <;> rw [e]
  . exact eT (lF _ _) (lF _ _)
  . exact eT (lF _ _) (qM _ _)
  . exact eT (qM _ _) (lF _ _)
  . exact eT (qM _ _) (qM _ _))
def VI {m a b c d:Int} (h:m=a\/m=b\/m=c\/m=d) (k:a<=m/\b<=m/\c<=m/\d<=m):m=max (max a b) (max c d):=
 Int.le_antisymm (by
  rcases h with e | e | e | e <;> rw [e]
  . exact eT (lG _ _) (lG _ _)
  . exact eT (qN _ _) (lG _ _)
  . exact eT (lG _ _) (qN _ _)
  . exact eT (qN _ _) (qN _ _)) (Int.max_le.2 #[Int.max_le.2 #[k.1,k.2.1],Int.max_le.2 k.2.2])
inductive p_: #v[0] | mk {K c vs H Q E:_} o a aG a1 b1 a2 b2:vs= [.str (aR (binName o)),.ref a]->cw K H a aG->A2 (zr K H) aG [.num a1 b1,.num a2 b2]->FW o=false->li (.num a1 b1)->li (.num a2 b2)->(∀p H',aq H H'->H' p=some (.tup [.int (oj o a1 b1 a2 b2).1,.int (oj o a1 b1 a2 b2).2])->Q (.ref p) H')->p_ K c vs H Q E
theorem zL:AA.h0 2 "ends_of_two" ["word","kinds"] p_:=by
 nomatch ["word","kinds","a","b","c","d","products"]
 ext h o a aG a1 b1 a2 b2 rfl hs hA hg w1 w2 q;nomatch 2,2,eF,bR,3,dO,bR,4,eF,bR,5,dO,bR,bJ,dZ,dZ,bJ,jF,jF,bJ,aM (wq rfl) ?_,aM (wq rfl) ?_,bJ,aM (rc rfl) ?_,aM (rc rfl) ?_,6,yC,yC,yC,yC,aM (Pu rfl) ?_,aM (Pt rfl) ?_
 obtain ⟨v0,h0,r0,rfl,hk0⟩:=hA.get' (i:=0) (a:=VaprbBase.Kind.num a1 b1) rfl;obtain ⟨v1,h1,r1,rfl,hk1⟩:=hA.get' (i:=1) (a:=VaprbBase.Kind.num a2 b2) rfl;exists a,aG,0,_,U,U,hs,dA (i:=0) h0,r0,a1,b1,U,hk0,?_;exists a,aG,0,_,U,U,hs,dA (i:=0) h0,r0,a1,b1,U,hk0,?_;exists a,aG,1,_,U,U,hs,dA (i:=1) h1,r1,a2,b2,U,hk1,?_;exists a,aG,1,_,U,U,hs,dA (i:=1) h1,r1,a2,b2,U,hk1,?_;have fin:∀(x y:Int) p,H p=none->(oj o a1 b1 a2 b2)=(x,y)->Q (.ref p) (upd H p (.tup [.int x,.int y])):=λx y p hp e=>q p _ (aq.upd hp) (by rw [aa,e]);cases o with
 | add=>exists U,_,U,bC U #[_,_,U,U,_,_,U,U,kg,λp hp=>fin _ _ p hp U]
 | sub=>exists U,_,U,aE U #[U,_,U,bC U #[_,_,U,U,_,_,U,U,kg,λp hp=>fin _ _ p hp U]]
 | min=>
  exists U,_,U,aE U #[U,_,U,aE U #[U,_,U,bC U ?_]];exists _,_,U,_,_,U,kg,λp hp=>fin _ _ p hp (by rw [FY,FY];rfl)
 | max=>
  exists U,_,U,aE U #[U,_,U,aE U #[U,_,U,aE U #[U,_,U,bC U ?_]]];exists _,_,U,_,_,U,kg,λp hp=>fin _ _ p hp (by rw [CA,CA];rfl)
 | mul=>
  exists U,_,U,aE U #[U,_,U,aE U #[U,_,U,aE U #[U,_,U,aE U ?_]]];have w1: -1000<=a1/\a1<=b1/\b1<=1000/\b1<=a1+63:=w1;have c1:∀x y:Int,-1000<=x->x<=1000->Ml x y:=λx y h1 h2=> .inl #[by lia,by lia];exists _,_,U,U,c1 _ _ (by lia) (by lia),_,_,U,U,c1 _ _ (by lia) (by lia),_,_,U,U,c1 _ _ (by lia) (by lia),_,_,U,U,c1 _ _ (by lia) (by lia),kg,λD hD=>?_;exists D,[a1 * a2,a1 * b2,b1 * a2,b1 * b2],U,cw.of aa,(by show 0 < 4;decide),λm hm hmin=>?_;exists D,[a1 * a2,a1 * b2,b1 * a2,b1 * b2],U,cw.of aa,(by show 0 < 4;decide),λm2 hm2 SE=>?_;exists kg,λp hp=>q p _ ((aq.upd hD).trans (aq.upd hp)) ?_;rw [aa];simp only [aF,dv,ju,forall_eq_or_imp,forall_eq] at hm hmin hm2 SE;have e1:m=(oj .mul a1 b1 a2 b2).1:=VH hm hmin;have e2:m2=(oj .mul a1 b1 a2 b2).2:=VI hm2 SE;rw [e1,e2]
 | lt=>cases hg
 | le=>cases hg
 | eq=>cases hg
 | and=>cases hg
 | or=>cases hg
def zip_get {l:List α} {m:List β} {a:α} {b:β} (h1:l[i]? = some a) (h2:m[i]? = some b):(l.zip m)[i]? = some (a,b):=by
 rw [List.getElem?_zip_eq_some];exists h1,h2
def iH.place (g:gd e 0) (h:iH K c H v e):∃a dx fs,v= .ref a/\H a=some (.ins c.ex dx fs)/\fs.lookup ("place" :Str)=some (V.int (e.place:Nat)):=by
 obtain ⟨a,pl,ps,rfl,⟨dx,fl,bv,fs,hN,_⟩,_⟩:=h.view g;exists a,dx,_,U,hN,U
def Bx (K:Frag) (H:Hp) (Q:VK):Kd->Prop:=λk=> ∀a H',aq H H'->g9 K H' a (kT k)->Q (.ref a) H'
noncomputable def FZ:Ex->List Kd->Except Fault Kd
 | .un q o x,[k]=>unKind q o k x.place
 | .bin q o x y,[k,l]=>binKind q o k l x.place y.place
 | _,_=> .ok .flag
def F0:Ex->Kd->Int
 | .un _ o _,_=>KU o
 | .bin _ o _ _,k=>KW o k
 | _,_=>0
def Nm:Ex->Bool
 | .un _ o _=>IB o
 | .bin _ o _ _=>FW o
 | _=>true
inductive qb: #v[0] | mk {K c vs H Q E:_} a pl e qa ps es kb aG k0 ks:vs= [.ref a,.ref qa,.ref kb]->Node K c H a pl e->cw K H qa ps->A2 (iH K c H) ps es->(∀x∈es,gd x 0)->cw K H kb aG->A2 (zr K H) aG (k0 :: ks)->(k0 :: ks).length=es.length->aN c.cf E H (aroundAll e.place k0 ((k0 :: ks).zip (es.map Vaprbb.Expr.place))) (Bx K H Q)->qb K c vs H Q E
theorem qc:AA.hF 5 "joined_kind" ["expression","parts","kinds"] qb:=by
 nomatch ["expression","parts","kinds","joined","part","kind","low","high"]
 ext h a pl e qa ps es kb aG k0 ks rfl ⟨dx,fl,bv,fs,hN,_⟩ hsp hA hg hsk hB hlen q;nomatch 2,3,bR,B6,BO rfl (fV (bL 4) (fV (bL 5) tW)),gK,hJ,bJ,hJ,T.jJ,6,aM (wq rfl) ?_,eF,eF,7,aM (rc rfl) ?_,dO,dO,3,jN,0
 obtain ⟨v0,h0,r0,rfl,hk0⟩:=hB.get' (i:=0) (a:=k0) rfl;exists kb,aG,0,_,U,U,hsk,dA (i:=0) h0,?_;have la:=hA.len;have lb:=hB.len;exists qa,kb,ps,aG,U,hsp,hsk,B' (K:=K) (a:=qa) (b:=kb) (xs:=ps) (ys:=aG) (λi Z H'=> ∃(ja:Addr) (jk:Kd) (v4 v5 v6 v7:Option V),Z= [some (.ref a),some (.ref qa),some (.ref kb),some (.ref ja),v4,v5,v6,v7]/\aq H H'/\g9 K H' ja (kT jk)/\aN c.cf E H (aroundAll e.place jk (((k0 :: ks).zip (es.map Vaprbb.Expr.place)).drop i)) (Bx K H Q))
  #[r0,k0,none,none,none,none,rfl,aq.refl _,hk0,q] (by lia) (λi Z H' #[_,_,_,_,_,_,_,s,_]=>#[s.seq hsp,s.seq hsk]) ?_ ?_
 . rintro i x y T' Z H' hx hy ⟨ja,jk,v4,v5,v6,v7,rfl,s,hj,q⟩ hT;obtain ⟨ex,hex,I_⟩:=hA.get hx;obtain ⟨k,hk,ka,rfl,hka⟩:=hB.get hy;have hz:=zip_get hk (show (es.map Vaprbb.Expr.place)[i]? = some ex.place by rw [bA,hex];rfl);rw [d3 hz] at q;have q:aN c.cf E H (if alike jk k=false then .error #[8,ex.place] else around e.place jk k >>= λm=>aroundAll e.place m (((k0 :: ks).zip (es.map Vaprbb.Expr.place)).drop (i+1))) (Bx K H Q):=q;have s2:aq H (upd H' T' (.tup [x,.ref ka])):=s.trans (aq.upd hT);have hj2:=g9.Y (c:=c) hj (aq.upd (o:= .tup [x,.ref ka]) hT).Y;have hk2:=g9.Y (c:=c) hka s2.Y;obtain ⟨ax,QL,QM,rfl,hax,g6⟩:=iH.place (hg ex (bc hex)) (I_.Y C s2.Y);have hN2:=s2 _ _ hN;exists T',[.ref ax,.ref ka],U,.inl (.inl aa),U,_,_,U,_,_,U,U,?_;exists ja,jk,U,hj2,fr hax g6 #[ka,k,DG jk,ex.place,U,hk2,λes'=>?_,λes'=>?_]
   . rw [wH,ae (by simp [es'])] at q;exists ja,jk,U,hj2,U,_,U,?_;cases jk with
     | flag=>
      cases k with
      | num lo hi=>cases es'
      | flag=>exact aE rfl #[ja,.flag,_,_,_,_,rfl,s2,hj2,q]
     | num lo hi=>
      cases k with
      | flag=>cases es'
      | num lo2 hi2=>
       refine bC rfl ?_;exists ja,lo,hi,U,hj2,ka,lo2,hi2,U,hk2,lo,lo2,U,?_;exists ja,lo,hi,U,hj2,ka,lo2,hi2,U,hk2,hi,hi2,U,?_;rw [FY,CA];have q:aN c.cf E H (numKind e.place (min lo lo2) (max hi hi2) >>= λm=>aroundAll e.place m (((k0 :: ks).zip (es.map Vaprbb.Expr.place)).drop (i+1))) (Bx K H Q):=q;refine fr hN2 U #[_,_,e.place,U,?_];cases hnk:numKind e.place (min lo lo2) (max hi hi2) with
       | error f=>rw [hnk] at q;exact jI.on q s2
       | ok m=>
        rw [hnk] at q;exact λp hp=>#[p,m,_,_,_,_,rfl,s2.trans (aq.upd hp),.inl (.inl aa),q]
   . rw [wH,ah (~~~(bX es'))] at q;exact jI.on q s2
 . rintro Z H' ⟨ja,jk,v4,v5,v6,v7,rfl,s,hj,q⟩;have hd:((k0 :: ks).zip (es.map Vaprbb.Expr.place)).drop ps.length= []:=jy (by rw [qU,aB];lia);rw [hd] at q;refine q ja H' s hj
inductive om: #v[0] | mk {K c vs H Q E:_} a pl e ps es kb aG ks fv f:vs= [.ref a,.ref kb,fv]->Node K c H a pl e->FL H pl ps->A2 (iH K c H) ps es->(∀x∈es,gd x 0)->cw K H kb aG->A2 (zr K H) aG ks->FJ K c H fv f->ks.length=es.length->ks.length=f.params.length->f.params.length<=4->aN c.cf E H (argsHeld (ks.zip (es.map Vaprbb.Expr.place)) f.params >>= λ_=> .ok f.result) (Bx K H Q)->om K c vs H Q E
theorem x5:AA.hF 6 "kind_of_call" ["expression","kinds","function"] om:=by
 nomatch ["expression","kinds","function","k"]
 ext h a pl e ps es kb aG ks fv f' rfl ⟨dx,fl,bv,fs,hN,_⟩ fp hA hg hsk hB hF hl1 hl2 h4 q;nomatch 2,HF,aM aJ,3,iX,bR,bR,bR,0
 ext hF af Zz Yr kv ZA Ys rfl haf Yt WW ⟨rk,rfl,hrk⟩ _;have la:=hA.len;have lb:=hB.len;have lf:=WW.len;exists kb,aG,U,.inl hsk,(aG.length:Int),U,by lia,by lia,GW aG.length (λi Z H'=> ∃v3:Option V,Z= [some (.ref a),some (.ref kb),some (.ref af),v3]/\H'=H/\aN c.cf E H (argsHeld ((ks.zip (es.map Vaprbb.Expr.place)).drop i) (f'.params.drop i) >>= λ_=> .ok f'.result) (Bx K H Q))
  #[none,rfl,rfl,q] (λi Z H' hi _=>(by show i < (aG.length:Int).toNat;lia)) (λZ H' _=>(by show (aG.length:Int).toNat<=aG.length;lia)) ?_ ?_
 . rintro i x Z H1 H' hi ⟨v3,rfl,rfl,q⟩ ⟨rfl,rfl⟩;obtain ⟨k,hk,ka,hkv,hka⟩:=hB.get (i:=i) (bB hi);obtain ⟨vx,Yu,I_⟩:=hA.get' (i:=i) (bB (show i < es.length by lia));obtain ⟨vp,Yv,VJ⟩:=WW.get' (i:=i) (bB (show i < f'.params.length by lia));ext VJ ap ZB VL rfl hap ak rfl hak;obtain ⟨ax,QL,QM,rfl,hax,g6⟩:=iH.place (hg _ (qO _)) I_;have hz:=zip_get hk (show (es.map Vaprbb.Expr.place)[i]? = some es[i].place by rw [bA,bB (show i < es.length by lia)];rfl);have hpd:f'.params.drop i=f'.params[i] :: f'.params.drop (i+1):=d3 (bB _);rw [d3 hz,hpd] at q;have q:aN c.cf E H' ((held k f'.params[i].kind es[i].place >>= λ_=>argsHeld ((ks.zip (es.map Vaprbb.Expr.place)).drop (i+1)) (f'.params.drop (i+1))) >>= λ_=> .ok f'.result) (Bx K H' Q):=q;rw [bn] at q;have hki:aG[i]? = some (.ref ka):=by rw [bB hi,hkv]
   have e0:(0:Int)+(i:Int)=(i:Int):=by lia
   show yz 3 (.int (0+(i:Int))) _ _ _;rw [e0];exists kb,aG,i,_,U,U,hsk,dA hki,fr haf U #[Yr,Ys,i,_,U,U,Yt.sq,dA Yv,fr hap U (fr hN U #[pl,ps,i,_,U,U,fp.sq,dA Yu,fr hax g6 #[ka,ak,k,f'.params[i].kind,es[i].place,U,hka,hak,?_]])];exact aN.step q λ_ _ q=>#[_,rfl,rfl,q]
 . rintro Z H' ⟨v3,rfl,rfl,q⟩;have hd:(ks.zip (es.map Vaprbb.Expr.place)).drop aG.length= []:=jy (by rw [qU,aB];lia);rw [hd] at q;refine fr haf U (q rk H' (aq.refl _) hrk)
def CB:Ex->List Kd->Except Fault Kd
 | .un q o _,[k]=>FX q o k
 | .bin q o _ _,[k,l]=>Cy q o k l
 | _,_=> .ok .flag
def K1 (e:Ex) (ks:List Kd):=(∃q o x k,e= .un q o x/\ks= [k])\/(∃q o x y k l,e= .bin q o x y/\ks= [k,l])
def Nn (h:K1 e ks) (hw:∀k∈ks,li k):FZ e ks=(mO (F0 e (ks.head?.getD .flag)) (ks.zip ((kids e).map Vaprbb.Expr.place)) >>= λ_=>CB e ks):=by
 rcases h with ⟨q,o,x,k,rfl,rfl⟩ | ⟨q,o,x,y,k,l,rfl,rfl⟩
 . exact WV (hw k bi)
 . exact SD
def K2 (h:K1 e ks) (k0:Kd):zJ (pJ e) k0=F0 e k0:=by
 rcases h with ⟨q,o,x,k,rfl,rfl⟩ | ⟨q,o,x,y,k,l,rfl,rfl⟩
 . exact Nj o k0
 . exact KZ o k0
def K3 (h:K1 e ks):inV (.str (pJ e)) (kn ["not","and","or","lt","le","eq"])=Nm e:=by
 rcases h with ⟨q,o,x,k,rfl,rfl⟩ | ⟨q,o,x,y,k,l,rfl,rfl⟩
 . exact Nk o
 . exact K0 o
def Qe (o:Un):decide (V.str (aR (unName o))=V.str "neg")=isNeg o:=by cases o <;> rfl
inductive iO: #v[0] | mk {K c vs H Q E:_} a pl e ps kb aG ks:vs= [.ref a,.ref kb]->gd e 0->Node K c H a pl e->FL H pl ps->A2 (iH K c H) ps (kids e)->cw K H kb aG->A2 (zr K H) aG ks->(∀k∈ks,li k)->K1 e ks->aN c.cf E H (FZ e ks) (Bx K H Q)->iO K c vs H Q E
theorem qf:AA.hF 5 "kind_of_operation" ["expression","kinds"] iO:=by
 nomatch ["expression","kinds","wanted","part","kind","ends"]
 ext h a pl e ps kb aG ks rfl hgd ⟨dx,fl,bv,fs,hN,_⟩ fp hA hsk hB hwf hop q;nomatch 2,2,Aw,B6,BO rfl (fV (bL 3) (fV (bL 4) tW)),gK,eD,fG T.ug,fG T.yX,5,bJ,aM aJ,zK,zL,jN,gG,gG
 rw [Nn hop hwf] at q;have k7:∃k0 kr,ks=k0 :: kr/\ks.length=(kids e).length:=by
  rcases hop with ⟨q,o,x,k,rfl,rfl⟩ | ⟨q,o,x,y,k,l,rfl,rfl⟩
  . exists k,[],U,U
  . exists k,[l],U,U
 ext k7 k0 kr hks hkl;have hd0:ks.head?.getD .flag=k0:=by rw [hks];rfl
 rw [hd0] at q;have la:=hA.len;have lb:=hB.len;refine fr hN U #[_,kb,aG,k0,kr,U,hsk,hks ▸ hB,?_];rw [K2 hop];generalize Oy:F0 e k0=want at q;refine fr hN U ⟨pl,kb,ps,aG,U,fp.sq,hsk,B' (K:=K) (a:=pl) (b:=kb) (xs:=ps) (ys:=aG) (λi Z H'=> ∃(v3 v4:Option V),Z= [some (.ref a),some (.ref kb),some (.int want),v3,v4,none]/\aq H H'/\(∀x∈(ks.zip ((kids e).map Vaprbb.Expr.place)).take i,DG x.1=want)/\aN c.cf E H (mO want ((ks.zip ((kids e).map Vaprbb.Expr.place)).drop i) >>= λ_=>CB e ks) (Bx K H Q))
  #[none,none,rfl,aq.refl _,λx hx=>(dv hx).elim,q] (by lia) (λi Z H' #[_,_,_,s,_]=>#[s.seq fp.sq,s.seq hsk]) ?_ ?_⟩
 . rintro i x y T' Z H' hx hy ⟨v3,v4,rfl,s,hall,q⟩ hT;obtain ⟨ex,hex,I_⟩:=hA.get hx;obtain ⟨k,hk,ka,rfl,hka⟩:=hB.get hy;have hz:=zip_get hk (show ((kids e).map Vaprbb.Expr.place)[i]? = some ex.place by rw [bA,hex];rfl);rw [d3 hz] at q;have q:aN c.cf E H ((if DG k=want then mO want ((ks.zip ((kids e).map Vaprbb.Expr.place)).drop (i+1)) else .error #[8,ex.place]) >>= λ_=>CB e ks) (Bx K H Q):=q;have s2:aq H (upd H' T' (.tup [x,.ref ka])):=s.trans (aq.upd hT);have hk2:=g9.Y (c:=c) hka s2.Y;obtain ⟨ax,QL,QM,rfl,hax,g6⟩:=iH.place (eC hgd ex (bc hex)).1 (I_.Y C s2.Y);exists T',[.ref ax,.ref ka],U,.inl (.inl aa),U,_,_,U,_,_,U,U,?_;refine fr hax g6 #[ka,k,want,ex.place,U,hk2,λes'=>?_,λes'=>?_]
   . rw [ah es'] at q;exists _,_,U,s2,λz hz'=>?_,q;rw [j5 hz] at hz';rcases cg.mp hz' with hz' | hz'
     . exact hall z hz'
     . rw [dE] at hz';subst hz';exact es'
   . rw [ae es'] at q;exact jI.on q s2
 . rintro Z H' ⟨v3,v4,rfl,s,hall,q⟩;have QF:(ks.zip ((kids e).map Vaprbb.Expr.place)).length=ps.length:=by rw [qU,aB];lia
   have hd:(ks.zip ((kids e).map Vaprbb.Expr.place)).drop ps.length= []:=jy (by lia);rw [hd] at q;rw [<-QF,cK] at hall;have q:aN c.cf E H (CB e ks) (Bx K H Q):=q;have hN':=s _ _ hN;have Np:=s.seq hsk;have hB':A2 (zr K H') aG ks:=hB.mono λ_ _ z=>z.same s;refine fr hN' U #[g.gives,_,U,.inr (T.uh.sq _),U,gv _,_,U,?_];rw [ae aO,K3 hop];rcases hop with ⟨qp,o,x,k,rfl,rfl⟩ | ⟨qp,o,x,y,k,l,rfl,rfl⟩
   . have q:aN c.cf E H (if IB o=true then .ok .flag else match k with | .num lo hi=>numKind qp (oh (isNeg o) lo hi).1 (oh (isNeg o) lo hi).2 | .flag=> .ok .flag) (Bx K H Q):=q;refine bG (λe1=>?_) λe1=>?_
     . have e1:IB o=true:=e1;rw [ah e1] at q;exact q g.flag H' s (T.sR.sq _)
     . have e1:IB o=false:=e1;rw [ae (by rw [e1];exact aO)] at q;have hs1:DG k=want:=hall (k,x.place) (.head _);have hw1:want=1:=by rw [<-Oy];cases o <;> first | rfl | cases e1
       obtain ⟨lo,hi,rfl⟩:=Cz (hs1.trans hw1);exists kb,aG,U,.inl Np,U,_,U,bC (by have:aG.length=1:=lb;rw [this];rfl) ?_;refine fr hN' U #[_,kb,aG,lo,hi,U,Np,hB',λp hp=>?_];have sp:=aq.upd (o:= .tup [.int (oh (decide (V.str (pJ (.un qp o x))=V.str "neg")) lo hi).1,.int (oh (decide (V.str (pJ (.un qp o x))=V.str "neg")) lo hi).2]) hp;exists p,_,_,_,U,U,.inl (.inl aa),U,p,_,_,_,U,U,.inl (.inl aa),U,fr (sp _ _ hN') U #[_,_,qp,U,?_];have hneg:decide (V.str (pJ (.un qp o x))=V.str "neg")=isNeg o:=Qe o;rw [hneg];exact aN.imp (aN.on q (s.trans (hneg ▸ sp))) λm _ k p2 hp2=>k p2 _ ((s.trans (hneg ▸ sp)).trans (aq.upd hp2)) (.inl (.inl aa))
   . have q:aN c.cf E H (if FW o=true then .ok .flag else match k,l with | .num a1 b1,.num a2 b2=>numKind qp (oj o a1 b1 a2 b2).1 (oj o a1 b1 a2 b2).2 | _,_=> .ok .flag) (Bx K H Q):=q;refine bG (λe1=>?_) λe1=>?_
     . have e1:FW o=true:=e1;rw [ah e1] at q;exact q g.flag H' s (T.sR.sq _)
     . have e1:FW o=false:=e1;rw [ae (by rw [e1];exact aO)] at q;have hs1:DG k=want:=hall (k,x.place) (.head _);have hs2:DG l=want:=hall (l,y.place) (.tail _ (.head _));have hw1:want=1:=by rw [<-Oy];cases o <;> first | rfl | cases e1
       have wk:=hwf k (by simp);have wl:=hwf l (by simp);obtain ⟨a1,b1,rfl⟩:=Cz (hs1.trans hw1);obtain ⟨a2,b2,rfl⟩:=Cz (hs2.trans hw1);exists kb,aG,U,.inl Np,U,_,U,aE (by have:aG.length=2:=lb;rw [this];rfl) ?_;refine fr hN' U #[o,kb,aG,a1,b1,a2,b2,U,Np,hB',e1,wk,wl,λp H2 s2 hp=>?_];exists p,_,_,_,U,U,.inl (.inl hp),U,p,_,_,_,U,U,.inl (.inl hp),U,fr (s2 _ _ hN') U #[_,_,qp,U,?_];exact aN.imp (aN.on q (s.trans s2)) λm _ k p2 hp2=>k p2 _ ((s.trans s2).trans (aq.upd hp2)) (.inl (.inl aa))
abbrev oF:=Vaprbb.Env
variable {En:oF}
def zM (q:Nat) (Yw:List Nat) (ks:List Kd):Except Fault Kd:=match ks with
 | []=> .ok .flag
 | k :: r=>aroundAll q k ((k :: r).zip Yw)
theorem xF (p:Prog) (En:oF):∀l m:List Ex,dQ p En (l++m)=(dQ p En l >>= λks=>dQ p En m >>= λr=> .ok (ks++r))
 | [],m=>by show dQ p En m=(dQ p En m >>= λr=> .ok r);cases dQ p En m <;> rfl
 | e :: l,m=>by
  show (kindOf p En e >>= λk=>dQ p En (l++m) >>= λks=> .ok (k :: ks))=((kindOf p En e >>= λk=>dQ p En l >>= λks=> .ok (k :: ks)) >>= λks=>dQ p En m >>= λr=> .ok (ks++r));rw [xF p En l m];simp only [bn];rfl
def uU (p:Prog) (En:oF) (e:Ex):dQ p En [e]=(kindOf p En e >>= λk=> .ok [k]):=rfl
structure nE (p:Prog) (En:oF):Prop where
 e:∀n k,En.kind n=some k->li k
 f:∀f∈p.funs,GF f
def nE.kind (h:nE p En) (g:gd e 0) (hk:kindOf p En e= .ok k):li k:=(IC h.e (λf hf=>(h.f f hf).rk) e).1 g k hk
theorem nE.all (h:nE p En):∀{l:List Ex} {ks:List Kd},(∀e∈l,gd e 0)->dQ p En l= .ok ks->∀k∈ks,li k
 | [],ks,_,e,k,hk=>by cases e;cases hk
 | x :: l,ks,hg,e,k,hk=>by
  obtain ⟨k1,h1,e⟩:=aj e;obtain ⟨k2,h2,e⟩:=aj e;cases e;rcases aF.mp hk with rfl | hk
  . exact h.kind (hg x bi) h1
  . exact h.all (λy hy=>hg y (aW _ hy)) h2 k hk
def SG {o:Un} {a:Ex} (g:gd a 0):kindOf p En (.un q o a)=(dQ p En [a] >>= λks=>match ks with | [k]=>unKind q o k a.place | _=> .ok .flag):=by
 rw [Ox g,uU];cases kindOf p En a <;> rfl
def Qg {o:Bin} {a b:Ex}:kindOf p En (.bin q o a b)=(dQ p En [a,b] >>= λks=>match ks with | [k,l]=>binKind q o k l a.place b.place | _=> .ok .flag):=by
 rw [KS];show _=((kindOf p En a >>= λk=>(kindOf p En b >>= λk2=> .ok [] >>= λks=> .ok (k2 :: ks)) >>= λks=> .ok (k :: ks)) >>= _);cases kindOf p En a with
 | error f=>rfl
 | ok k=>cases kindOf p En b <;> rfl
def K4 (hW:nE p En) {w:VaprbBase.Frac} {a:Ex} (g:gd a 0):kindOf p En (.weigh q w a)=(dQ p En [a] >>= zM q [a.place]):=by
 rw [D8 g,uU];cases h:kindOf p En a with
 | error f=>rfl
 | ok k=>
  show Except.ok k=aroundAll q k [(k,a.place)];rw [gO (hW.kind g h)];rfl
def Nq (hW:nE p En) {x:Ex} (g:gd (.pick q x) 0):kindOf p En (.pick q x)=(dQ p En (eM x) >>= zM q ((eM x).map Vaprbb.Expr.place)):=by
 rw [Hg ∅ g.2.1];have hc:∃y r,eM x=y :: r:=by
  cases x with
  | nil=>exact absurd rfl g.2.2
  | way a w r=>exists a,eM r,U
  | arg a r=>exact absurd g.2.1.1 ∅
  | lit p v=>cases v with | num n=>exact absurd g.2.1.1 ∅ | flag b=>exact absurd (show (2:Nat)=0 from g.2.1) ∅
  | _=>exact absurd g.2.1.1 ∅
 ext hc y r hc;cases h:dQ p En (eM x) with
 | error f=>rfl
 | ok ks=>
  have hl:=mM h;have hw:=hW.all (λe he=>(rA g.2.1 e he).1) h;rw [hc] at hl ⊢;cases ks with
  | nil=>cases hl
  | cons k ks'=>
   show aroundAll q k (ks'.zip (r.map _))=aroundAll q k ((k,y.place) :: ks'.zip (r.map _));rw [gO (hw k bi)]
def Nr (hW:nE p En) {d a b:Ex} (ga:gd a 0) (gb:gd b 0):kindOf p En (.cond q d a b)=(kindOf p En d >>= λk=>cn k d.place >>= λ_=>dQ p En [a,b] >>= zM q [a.place,b.place]):=by
 rw [He gb];refine aS λk=>aS λ_=>?_;show _=((kindOf p En a >>= λk=>(kindOf p En b >>= λk2=> .ok [] >>= λks=> .ok (k2 :: ks)) >>= λks=> .ok (k :: ks)) >>= _);cases h:kindOf p En a with
 | error f=>rfl
 | ok ka=>
  cases kindOf p En b with
  | error f=>rfl
  | ok kb=>
   show aroundAll q ka [(kb,b.place)]=aroundAll q ka [(ka,a.place),(kb,b.place)];rw [gO (hW.kind ga h)]
def K5 (hW:nE p En) {d a:Ex} (ga:gd a 0):kindOf p En (.given q d a)=(kindOf p En d >>= λk=>cn k d.place >>= λ_=>dQ p En [a] >>= zM q [a.place]):=by
 rw [D7 ga];refine aS λk=>aS λ_=>?_;rw [uU];cases h:kindOf p En a with
 | error f=>rfl
 | ok ka=>
  show Except.ok ka=aroundAll q ka [(ka,a.place)];rw [gO (hW.kind ga h)];rfl
def RelK (K:Frag) (H:Hp):Option Kd->Option V->Prop
 | none,none=>True
 | some k,some v=>zr K H v k
 | _,_=>False
def QN (K:Frag) (H:Hp) (d:Addr) (En:oF):= ∃aG,Rd H d (.dK aG)/\∀n,RelK K H (En.kind n) (cq aG (nk n))
theorem RelK.Y {k:Option Kd} {v:Option V} (h:RelK K H k v) (i:bW c H H'):RelK K H' k v:=by
 cases k <;> cases v <;> first | exact h | exact zr.Y h i
def QN.same {d:Addr} (h:QN K H d En) (s:aq H H'):QN K H' d En:=by
 ext h aG r k;exists aG,?_,λn=>(k n).Y (c:=#[0,0,0,0,0,0,0,0,0,0,0,0,0]) s.Y;rcases r with e | ⟨o,e⟩
 . exact .inl (s _ _ e)
 . exact .inr #[o,s _ _ e]
def SH (p:Prog) (En:oF):Ex->Prop
 | .name _ n=>(En.kind n).isSome=true
 | .call _ f x=> ∃g,p.fun f=some g/\x.count=g.params.length
 | _=>True
def okN (p:Prog) (En:oF) (e:Ex):= ∀k∈subs e,SH p En k
def okN.kid {k:Ex} (g:gd e 0) (h:okN p En e) (hk:k∈kids e):okN p En k:=λx hx=>h x (by
 rw [gy g];exact aW _ (List.mem_flatMap.mpr #[k,hk,hx]))
def okN.self (g:gd e 0) (h:okN p En e):SH p En e:=h e (by rw [gy g];exact bi)
theorem wP:∀{l:List Ex} {u:Unit},dz p scope l= .ok u->∀k∈l,FU p scope k= .ok ()
 | [],_,_,k,hk=>by cases hk
 | e :: l,u,h,k,hk=>by
  obtain ⟨_,h1,h⟩:=aj h;rcases aF.mp hk with rfl | hk
  . exact h1
  . exact wP h k hk
def CC (hs:∀n,scope.contains n=(En.kind n).isSome) (h:Vaprbb.named p scope e= .ok u):okN p En e:=λk hk=>by
 rw [cu] at h;have:=wP h k hk;cases k with
 | name q n=>
  have:(if scope.contains n=true then .ok () else .error #[6,q]:Except Fault Unit)= .ok ():=this;split at this
  . rename_i hc;show (En.kind n).isSome=true;rw [<-hs];exact hc
  . cases this
 | call q f x=>
  have:gN p q f x= .ok ():=this;unfold gN at this;cases hf:p.fun f with
  | none=>rw [hf] at this;cases this
  | some g=>
   rw [hf] at this;have this:(if x.count≠g.params.length then .error #[13,q] else .ok ():Except Fault Unit)= .ok ():=this;split at this
   . cases this
   . rename_i hc;exists g,hf,Decidable.not_not.mp hc
 | _=>exact au
theorem TV {qa:Addr} {H0:Hp} {ps:List V} {es:List Ex} {F:List Kd->Except Fault Kd} {ok:Kd->Prop} {g:TG} (C:CT K c) (hD:H1 D=none) (hs:cw K H1 qa ps) (hA:A2 (iH K c H1) ps es) (hz:ps.length<=4097) (s01:aq H0 H1) (q:aN cf E H0 (dQ p En es >>= F) ok) (fZ:∀(i:Nat) x e H' (R:VK),es[i]? = some e->aq H1 H'->iH K c H' x e->aN cf E H' (kindOf p En e) (Bx K H' R)->g x (wipe Z vs) H' λZ2 H2=>wipe Z2 vs=wipe Z vs/\te Z2 H2 R) (hd:∀H' ws ks,aq H1 H'->H' D=some (.lst ws)->A2 (zr K H') ws ks->dQ p En es= .ok ks->aN cf E H0 (F ks) ok->Qd H'):
 ∃W:Nat->Nat->Hp->Prop,(∃m,W 0 m (upd H1 D (.lst [])))/\∀i m H,W i m H->
  ((C9 K qa).stop i H/\Qd H)\/((C9 K qa).go i H/\∃Nx:Hp->Prop,(∀H',Nx H'->∃m',m' < m/\W (i+1) m' H')/\∀x H',(C9 K qa).ED i H x H'->g x (wipe Z vs) H' λZ2 H2=>wipe Z2 vs=wipe Z vs/\HL Z2 H2 λb H3=>
   if b=true then te Z2 H3 λy H4=> ∃acc,H4 D=some (.lst acc)/\acc.length < sizeLine/\Nx (upd H4 D (.lst (acc++ [y]))) else Nx H3):=by
 have hl:=hA.len;refine B5 (K:=K) (a:=qa) (xs:=ps) (λi H'=>aq H1 H'/\∃ws ks,H' D=some (.lst ws)/\ws.length=i/\A2 (zr K H') ws ks/\dQ p En (es.take i)= .ok ks/\aN cf E H0 (dQ p En (es.drop i) >>= λr=>F (ks++r)) ok) #[aq.upd hD,[],[],aa,rfl,au,rfl,q] (λi H _ p=>p.1.seq hs) ?_ ?_
 . rintro i x H' hi ⟨s,ws,ks,hw,hwl,hB,hk,q⟩;obtain ⟨e,he,hx⟩:=hA.get hi;have iU:i < ps.length:=(bj.mp hi).1;rw [d3 he] at q;have q:aN cf E H0 ((kindOf p En e >>= λk=>dQ p En (es.drop (i+1)) >>= λr=> .ok (k :: r)) >>= λr=>F (ks++r)) ok:=q;rw [bn] at q;have:=fZ i x e H' (λy H4=> ∃acc,H4 D=some (.lst acc)/\acc.length < sizeLine/\(aq H1 (upd H4 D (.lst (acc++ [y])))/\∃ws ks,upd H4 D (.lst (acc++ [y])) D=some (.lst ws)/\ws.length=i+1/\A2 (zr K (upd H4 D (.lst (acc++ [y])))) ws ks/\dQ p En (es.take (i+1))= .ok ks/\aN cf E H0 (dQ p En (es.drop (i+1)) >>= λr=>F (ks++r)) ok)) he s (hx.Y C s.Y) ?_
   . exact this
   . refine aN.imp (ok:=λk=>kindOf p En e= .ok k/\aN cf E H0 ((dQ p En (es.drop (i+1)) >>= λr=> .ok (k :: r)) >>= λr=>F (ks++r)) ok) (aN.step (aN.on q (s01.trans s)) λk ek _=>#[ek,?_]) λk _ #[ek,q] a H2 s2 hk2=>?_
     . rw [ek] at q;exact q
     have hw2:=s2 _ _ hw;have dM:bW c H2 (upd H2 D (.lst (ws++ [.ref a]))):=bW.upd hw2 rfl;exists ws,hw2,by have:=aV;lia,(s.trans s2).bM hD,_,ks++ [k],aa,by rw [ao,hwl];rfl,(hB.mono λ_ _ z=>(z.same s2).Y dM).snoc #[a,rfl,g9.Y hk2 dM],?_,?_
     . rw [j5 he,xF,hk,uU,ek];rfl
     . rw [bn] at q;simp only [bz];exact q
 . rintro H' ⟨s,ws,ks,hw,hwl,hB,hk,q⟩;rw [hl,cK] at hk;rw [hl,fP] at q;have q:aN cf E H0 (F (ks++ [])) ok:=q;rw [bH] at q;exact hd H' ws ks s hw hB hk q
inductive tF (n:Nat): #v[0] | mk {K c vs H Q E:_} v e d nd p En:vs= [v,.ref d,.ref nd]->gd e 0->dep e<=n->sz e<=4097->iH K c H v e->QN K H d En->KP K c H nd p.funs->okN p En e->nE p En->aN c.cf E H (kindOf p En e) (Bx K H Q)->tF n K c vs H Q E
abbrev mP (n:Nat):=AA.hF (7+2 * n+1) "kind_of" ["expression","known","named"] (tF n)
def isQ (e:Ex) (d:Ex) (r:List Ex):=(∃q a b,e= .cond q d a b/\r= [a,b])\/(∃q a,e= .given q d a/\r= [a])
def isQ.kids {d:Ex} {r:List Ex} (h:isQ e d r):kids e=d :: r:=by
 rcases h with ⟨q,a,b,rfl,rfl⟩ | ⟨q,a,rfl,rfl⟩ <;> rfl
def isQ.kind {d:Ex} {r:List Ex} (h:isQ e d r) (g:gd e 0) (hW:nE p En):kindOf p En e=(kindOf p En d >>= λk=>cn k d.place >>= λ_=>dQ p En r >>= zM e.place (r.map Vaprbb.Expr.place)):=by
 rcases h with ⟨q,a,b,rfl,rfl⟩ | ⟨q,a,rfl,rfl⟩
 . exact Nr hW g.2.2.1 g.2.2.2
 . exact K5 hW g.2.2
inductive gB (n:Nat): #v[0] | mk {K c vs H Q E:_} a e q r d nd p En:vs= [.ref a,.ref d,.ref nd]->isQ e q r->gd e 0->dep e<=n+1->sz e<=4097->iH K c H (.ref a) e->QN K H d En->KP K c H nd p.funs->okN p En e->nE p En->aN c.cf E H (kindOf p En e) (Bx K H Q)->gB n K c vs H Q E
abbrev gP (n:Nat):=AA.hF (8+2*n+1) "kind_behind_question" ["expression","known","named"] (gB n)
theorem mQ (n:Nat) (rB:mP AA n):gP AA n:=by
 nomatch ["expression","known","named","question","parts","kinds","part"]
 ext h a e qe r d nd p En rfl hQ hg hd hz hv hk hn bQ hW q;nomatch 2,3,bR,gK,dw rB ?_,T.ko,4,tX ye (b_ (pv 0)) (m4 wg) Mu,Bf gE 5 (bD (pv 4)) [("part",6)] (λ_ _ _ _ _=>(bL 6)) (λ_ _ _ _ _=>(dw rB (aH (pv 6) (aH (pv 1) (pU (pv 2)))) (hx:=N_))),qc
 rw [hQ.kind hg hW] at q;obtain ⟨a',pl,ps,e0,JS,fp,hA⟩:=hv.view hg;cases e0;obtain ⟨dx,fl,bv,fs,hN,_⟩:=id JS;rw [hQ.kids] at hA;obtain ⟨v0,h0,hq0⟩:=hA.get' (i:=0) (a:=qe) rfl;have hmem:∀x∈qe :: r,x∈kids e:=λx hx=>by rw [hQ.kids];exact hx
 obtain ⟨gq,dq,zq⟩:=eC hg qe (hmem qe bi);refine fr hN U #[pl,ps,0,_,U,U,fp.sq,dA (i:=0) h0,?_];exists v0,qe,d,nd,p,En,U,gq,by lia,by lia,hq0,hk,hn,bQ.kid hg (hmem qe bi),hW,?_;refine aN.step q λk0 ZC q ka H1 s1 hka=>?_;obtain ⟨ax,QL,QM,rfl,hax,g6⟩:=iH.place gq (hq0.Y C s1.Y);refine fr hax g6 #[ka,k0,0,qe.place,U,hka,λes=>?_,λes=>?_];rotate_left 1
 . have:cn k0 qe.place= .error #[8,qe.place]:=by
    unfold cn;rw [rm,ah (by cases k0 with | flag=>exact absurd rfl es | num lo hi=>rfl)]
   rw [this] at q;exact jI.on q s1
 have ha:cn k0 qe.place= .ok ():=by
  unfold cn;rw [rm,ae (by rw [es];decide)]
 rw [ha] at q;have q:aN c.cf E H (dQ p En r >>= zM e.place (r.map Vaprbb.Expr.place)) (Bx K H Q):=q;have Yx:=s1 _ _ hN;refine fr Yx U #[1,U,pl,ps,U,(fp.app s1).sq,λB hB=>?_];have hps:∃r1 rs,ps=r1 :: rs/\A2 (iH K c H) rs r:=by
  cases ps with
  | nil=>exact hA.elim
  | cons x rs=>exists x,rs,U,hA.2
 ext hps r1 rs rfl VM;have lr:=VM.len;have hr2:r.length<=2/\∃y ys,r=y :: ys:=by rcases hQ with ⟨q,a,b,rfl,rfl⟩ | ⟨q,a,rfl,rfl⟩ <;> exists by show _<=2;simp,_,_,rfl
 have VN:ww (r1 :: rs) (some 1) none=rs:=by
  rcases hQ with ⟨q,a,b,rfl,rfl⟩ | ⟨q,a,rfl,rfl⟩
  . obtain ⟨x,y,rfl⟩:=Ir (l:=rs) lr;rfl
  . obtain ⟨x,rfl⟩:=Jn (l:=rs) lr;rfl
 rw [VN];have sB:=aq.upd (o:= .lst rs) hB;have s2:=s1.trans sB;exists B,U,#[rs,cw.of aa],λD hD=>?_;refine TV (c:=c) (cf:=c.cf) (E:=E) (H0:=H) C hD (cw.of aa) (VM.mono λ_ _ z=>z.Y C s2.Y) (by lia) s2 q (λi x ee H' R he s' hx qq=>?_) λH' ws ks s' hw hB' hks q=>?_
 . have hm:=hmem ee (aW _ (bc he));obtain ⟨ge,de,ze⟩:=eC hg ee hm;have ss:=s2.trans s';exists U,x,ee,d,nd,p,En,U,ge,by lia,by lia,hx,hk.same ss,hn.Y C ss.Y,bQ.kid hg hm,hW,qq
 have lk:=mM hks;ext hr2 _ y ys Yy;have ss:=s2.trans s';obtain ⟨k1,kr,rfl⟩:∃k1 kr,ks=k1 :: kr:=by
  cases ks with
  | nil=>rw [Yy] at lk;cases lk
  | cons k1 kr=>exists k1,kr,U
 exists a,pl,e,B,rs,r,D,ws,k1,kr,U,JS.Y C ss.Y,cw.of (s' _ _ aa),VM.mono λ_ _ z=>z.Y C ss.Y,λx hx=>(eC hg x (hmem x (aW _ hx))).1,cw.of hw,hB',lk,?_;exact aN.imp (aN.on q ss) λm _ k a2 H2 s3 h3=>k a2 H2 (ss.trans s3) h3
def TW (e:Ex) (l:List Str):= ∀s∈l,decide (V.str (eG e)=V.str s)=false
def K6:List Str:= ["truth","flip","number","uniform","name"]
def K7 (hW:nE p En) (g:gd e 0):(∃q b,e= .lit q (.flag b))\/(∃q n,e= .lit q (.num n))\/(∃q f,e= .flip q f)\/(∃q lo hi,e= .uniform q lo hi)\/(∃q n,e= .name q n)\/(∃q f x,e= .call q f x)\/
 (∃d r,isQ e d r/\TW e K6/\(decide (V.str (eG e)=V.str "if") || decide (V.str (eG e)=V.str "given"))=true)\/
 ((∀ks:List Kd,ks.length=(kids e).length->K1 e ks)/\kindOf p En e=(dQ p En (kids e) >>= FZ e)/\TW e (K6++(["if","given","call"]:List Str))/\decide (V.str (eG e)=V.str "operation")=true)\/
 (kindOf p En e=(dQ p En (kids e) >>= zM e.place ((kids e).map Vaprbb.Expr.place))/\kids e≠ []/\TW e (K6++(["if","given","call","operation"]:List Str))):=by
 have QO:∀{e:Ex} (l:List Str),(l.all λs=>!decide (V.str (eG e)=V.str s))=true->TW e l:=λl h s hs=>by
  have:=c6.mp h s hs;simpa using this
 cases e with
 | nil=>rcases g with g | g <;> cases g
 | arg a r=>exact absurd g.1 ∅
 | way a w r=>exact absurd g.1 ∅
 | lit q v=>cases v with | flag b=>exact .inl #[q,b,rfl] | num n=>exact .inr (.inl #[q,n,rfl])
 | flip q f=>exact .inr (.inr (.inl #[q,f,rfl]))
 | uniform q lo hi=>exact .inr (.inr (.inr (.inl #[q,lo,hi,rfl])))
 | name q n=>exact .inr (.inr (.inr (.inr (.inl #[q,n,rfl]))))
 | call q f x=>exact .inr (.inr (.inr (.inr (.inr (.inl #[q,f,x,rfl])))))
 | cond q d a b=>exact .inr (.inr (.inr (.inr (.inr (.inr (.inl #[d,[a,b],.inl #[q,a,b,rfl,rfl],QO _ rfl,rfl]))))))
 | given q d a=>exact .inr (.inr (.inr (.inr (.inr (.inr (.inl #[d,[a],.inr #[q,a,rfl,rfl],QO _ rfl,rfl]))))))
 | un q o a=>
  refine .inr (.inr (.inr (.inr (.inr (.inr (.inr (.inl #[λks hl=>?_,?_,QO _ rfl,rfl])))))))
  . obtain ⟨k,rfl⟩:=Jn (l:=ks) hl;exact .inl #[q,o,a,k,rfl,rfl]
  . rw [SG g.2];refine aS λks=>?_;rcases ks with _ | ⟨k,_ | ⟨l,_⟩⟩ <;> rfl
 | bin q o a b=>
  refine .inr (.inr (.inr (.inr (.inr (.inr (.inr (.inl #[λks hl=>?_,?_,QO _ rfl,rfl])))))))
  . obtain ⟨k,l,rfl⟩:=Ir (l:=ks) hl;exact .inr #[q,o,a,b,k,l,rfl,rfl]
  . rw [Qg];refine aS λks=>?_;rcases ks with _ | ⟨k,_ | ⟨l,_ | ⟨m,_⟩⟩⟩ <;> rfl
 | weigh q w a=>exact .inr (.inr (.inr (.inr (.inr (.inr (.inr (.inr #[K4 hW g.2.2,lL _ _,QO _ rfl])))))))
 | pick q x=>
  refine .inr (.inr (.inr (.inr (.inr (.inr (.inr (.inr #[Nq hW g,?_,QO _ rfl])))))));show eM x≠ [];cases x with
  | nil=>exact absurd rfl g.2.2
  | way a w r=>exact lL _ _
  | arg a r=>exact lL _ _
  | lit p v=>cases v with | num n=>exact absurd g.2.1.1 ∅ | flag b=>exact absurd (show (2:Nat)=0 from g.2.1) ∅
  | _=>exact absurd g.2.1.1 ∅
theorem F1 (m:Nat) (nG:gP AA n) (rB:mP AA n) (hm:m=n+1):mP AA m:=by
 nomatch ["expression","known","named","form","kinds","part"]
 subst hm;ext h v e d nd p En rfl hg hd hz hv hk hn bQ hW q;nomatch 2,3,bJ,bJ,fG T.yX,bJ,jN,bJ,0,bJ,ic (pv 1) (b_ (pv 0)),bJ,bJ,dw nG ?_,Bf gE 4 (bD (b_ (pv 0))) [("part",5)] (λ_ _ _ _ _=>(bL 5)) (λ_ _ _ _ _=>(dw rB (aH (pv 5) (aH (pv 1) (pU (pv 2)))) (hx:=N_))),bJ,x5,ic (pv 2) (b_ (pv 0)),bJ,qf,qc
 obtain ⟨a,pl,ps,rfl,JS,fp,hA⟩:=hv.view hg;obtain ⟨dx,fl,bv,fs,hN,hbv,_⟩:=id JS;refine fr hN U ?_;have lA:=hA.len;have Yz:(kids e).length<=4097:=by
  have h1:=cj e;rw [gy hg,aT,vK] at h1;have h2:(kids e).length<=((kids e).map λx=>(subs x).length).sum:=by
   have:∀l:List Ex,(∀x∈l,gd x 0)->l.length<=(l.map λx=>(subs x).length).sum:=λl=>by
    induction l with
    | nil=>intro _;exact aD _
    | cons x r ih=>
     intro hx;have h3:=ih λy hy=>hx y (aW _ hy);have h4:=Cu (hx x bi);rw [bF,lS,cj,aT];lia
   exact this _ λx hx=>(eC hg x hx).1
  lia
 have elt:∀(i:Nat) x ee H' (R:VK),(kids e)[i]? = some ee->aq H H'->iH K c H' x ee->aN c.cf E H' (kindOf p En ee) (Bx K H' R)->tF n K c [x,.ref d,.ref nd] H' R E:=λi x ee H' R he s' hx qq=>by
  have hm:=bc he;obtain ⟨ge,de,ze⟩:=eC hg ee hm;exists x,ee,d,nd,p,En,U,ge,by lia,by lia,hx,hk.same s',hn.Y C s'.Y,bQ.kid hg hm,hW,qq
 rcases K7 hW hg with ⟨qp,b,rfl⟩ | ⟨qp,nn,rfl⟩ | ⟨qp,f,rfl⟩ | ⟨qp,lo,hi,rfl⟩ | ⟨qp,nn,rfl⟩ | ⟨qp,f,x,rfl⟩ | ⟨qd,r,hQ,md,Iu⟩ | ⟨hop,hkk,md,Iu⟩ | ⟨hkk,k7,md⟩
 . exists U,_,U,bC U (bC U ?_);exact q g.flag H (aq.refl _) (T.sR.sq _)
 . exists U,_,U,aE U #[U,_,U,aE U ?_];exists U,_,U,bC U ?_;rw [KR] at q;refine fr hN U (fr hN U (fr hN U #[nn,nn,qp,U,?_]));exact aN.imp q λk _ q p hp=>q p _ (aq.upd hp) (.inl (.inl aa))
 . exists U,_,U,aE U #[U,_,U,bC U ?_];exact q g.flag H (aq.refl _) (T.sR.sq _)
 . exists U,_,U,aE U #[U,_,U,aE U ?_];exists U,_,U,aE U ?_;exists U,_,U,bC U ?_;ext hbv bb rfl hbb;refine fr hN U (q bb H (aq.refl _) hbb)
 . exists U,_,U,aE U #[U,_,U,aE U ?_];exists U,_,U,aE U ?_;exists U,_,U,aE U ?_;exists U,_,U,bC U ?_;rw [Hd] at q;have hs:=bQ.self hg;have hs:(En.kind nn).isSome=true:=hs;ext hk aG hrd hrel;have hr1:=hrel nn;cases hen:En.kind nn with
   | none=>rw [hen] at hs;cases hs
   | some k=>
    rw [hen] at hr1 q;cases hv2:cq aG (nk nn) with
    | none=>rw [hv2] at hr1;exact hr1.elim
    | some v=>
     rw [hv2] at hr1;ext hr1 ak rfl hak;refine fr hN U #[d,_,U,hv2 ▸ hrd.get nn,q ak H (aq.refl _) hak]
 . exists U,_,U,aE U #[U,_,U,aE U ?_];exists U,_,U,aE U ?_;exists U,_,U,aE U ?_;exists U,_,U,aE U ?_;exists U,_,U,aE U #[U,_,U,aE U ?_];obtain ⟨gg,WX,YB⟩:=bQ.self hg;rw [Hf ∅ hg.2.2,WX] at q;have q:aN c.cf E H (dQ p En (kids (.call qp f x)) >>= λks=>argsHeld (ks.zip ((eM x).map Vaprbb.Expr.place)) gg.params >>= λ_=> .ok gg.result) (Bx K H Q):=q;refine fr hN U #[pl,U,#[ps,fp.sq],λD hD=>?_];refine TV (c:=c) (cf:=c.cf) (E:=E) (H0:=H) C hD fp.sq hA (by lia) (aq.refl _) q (λi x ee H' R he s' hx qq=>#[rfl,elt i x ee H' R he s' hx qq]) λH' ws ks s' hw hB' hks q=>?_;exists U,_,U,bC U ?_;have lk:=mM hks;obtain ⟨aG,YC,hrel⟩:=hn.Y C s'.Y;have hr1:=hrel f;have SJ:p.funs.find? (λx=>x.name.name == f)=some gg:=WX;rw [SJ] at hr1;cases hv2:cq aG (nk f) with
   | none=>rw [hv2] at hr1;exact hr1.elim
   | some fv=>
    rw [hv2] at hr1;have hgf:=hW.f gg (lu SJ);have hcc:=mK ∅ hg.2.2;refine fr (s' _ _ hN) U #[nd,_,U,hv2 ▸ YC.get f,a,pl,_,ps,eM x,D,ws,ks,fv,gg,U,JS.Y C s'.Y,fp.app s',hA.mono λ_ _ z=>z.Y C s'.Y,λy hy=>(rA hg.2.2 y hy).1,cw.of hw,hB',hr1,lk,?_,hgf.pl,?_]
    . have lk:ks.length=(eM x).length:=lk;lia
    . exact aN.imp (aN.on q s') λm _ k a2 H2 s3 h3=>k a2 H2 (s'.trans s3) h3
 . have f1:=md "truth" ∅;have f2:=md "flip" ∅;have f3:=md "number" ∅;have f4:=md "uniform" ∅;have f5:=md "name" ∅;exists U,_,U,aE f1 #[U,_,U,aE f2 ?_];exists U,_,U,aE f3 ?_;exists U,_,U,aE f4 ?_;exists U,_,U,aE f5 ?_;exists U,_,U,bG (λe1=>bC U ?_) λe1=>#[U,_,U,bC (by rw [e1,jB] at Iu;exact Iu) ?_];all_goals exists a,e,qd,r,d,nd,p,En,U,hQ,hg,hd,hz,hv,hk,hn,bQ,hW,q
 . have f1:=md "truth" ∅;have f2:=md "flip" ∅;have f3:=md "number" ∅;have f4:=md "uniform" ∅;have f5:=md "name" ∅;have f6:=md "if" ∅;have f7:=md "given" ∅;have f8:=md "call" ∅;exists U,_,U,aE f1 #[U,_,U,aE f2 ?_];exists U,_,U,aE f3 ?_;exists U,_,U,aE f4 ?_;exists U,_,U,aE f5 ?_;exists U,_,U,aE f6 #[U,_,U,aE f7 ?_];rw [hkk] at q;refine fr hN U #[pl,U,#[ps,fp.sq],λD hD=>?_];refine TV (c:=c) (cf:=c.cf) (E:=E) (H0:=H) C hD fp.sq hA (by lia) (aq.refl _) q (λi x ee H' R he s' hx qq=>#[rfl,elt i x ee H' R he s' hx qq]) λH' ws ks s' hw hB' hks q=>?_;exists U,_,U,aE f8 ?_;exists U,_,U,bC Iu ?_;exists a,pl,e,ps,D,ws,ks,U,hg,JS.Y C s'.Y,fp.app s',hA.mono λ_ _ z=>z.Y C s'.Y,cw.of hw,hB',hW.all (λy hy=>(eC hg y hy).1) hks,hop ks (mM hks),?_;exact aN.imp (aN.on q s') λm _ k a2 H2 s3 h3=>k a2 H2 (s'.trans s3) h3
 . have f1:=md "truth" ∅;have f2:=md "flip" ∅;have f3:=md "number" ∅;have f4:=md "uniform" ∅;have f5:=md "name" ∅;have f6:=md "if" ∅;have f7:=md "given" ∅;have f8:=md "call" ∅;have f9:=md "operation" ∅;exists U,_,U,aE f1 #[U,_,U,aE f2 ?_];exists U,_,U,aE f3 ?_;exists U,_,U,aE f4 ?_;exists U,_,U,aE f5 ?_;exists U,_,U,aE f6 #[U,_,U,aE f7 ?_];rw [hkk] at q;refine fr hN U #[pl,U,#[ps,fp.sq],λD hD=>?_];refine TV (c:=c) (cf:=c.cf) (E:=E) (H0:=H) C hD fp.sq hA (by lia) (aq.refl _) q (λi x ee H' R he s' hx qq=>#[rfl,elt i x ee H' R he s' hx qq]) λH' ws ks s' hw hB' hks q=>?_;exists U,_,U,aE f8 ?_;exists U,_,U,aE f9 ?_;have lk:=mM hks;obtain ⟨k1,kr,rfl⟩:∃k1 kr,ks=k1 :: kr:=by
    cases ks with
    | nil=>exact absurd (List.eq_nil_of_length_eq_zero lk.symm) k7
    | cons k1 kr=>exists k1,kr,U
   refine fr (s' _ _ hN) U #[a,pl,e,pl,ps,kids e,D,ws,k1,kr,U,JS.Y C s'.Y,(fp.app s').sq,hA.mono λ_ _ z=>z.Y C s'.Y,λy hy=>(eC hg y hy).1,cw.of hw,hB',lk,?_];exact aN.imp (aN.on q s') λm _ k a2 H2 s3 h3=>k a2 H2 (s'.trans s3) h3
theorem CG:mP AA 0:=by
 nomatch ["expression","known","named","form","kinds","part"]
 ext h v e d nd p En rfl hg hd _;have:=Ct hg;omega
theorem rC:∀n,mP AA n
 | 0=>CG AA
 | n+1=>by
  have e:=rC n;have q:=mQ AA n e;exact F1 AA (n+1) q e rfl
def Nt (K:Frag) (H:Hp) (d:Addr) (En:oF):= ∃aG,FD H d aG/\∀n,RelK K H (En.kind n) (cq aG (nk n))
def Nt.d {d:Addr} (h:Nt K H d En):QN K H d En:=let #[aG,f,k]:=h;#[aG,f.rd,k]
theorem Nt.Y {d:Addr} (h:Nt K H d En) (i:bW c H H'):Nt K H' d En:=let #[aG,f,k]:=h;#[aG,f.Y i,λn=>(k n).Y i]
def wQ (En:oF) (x:Bytes) (k:Kd) (n:Bytes):Vaprbb.Env.kind (En++ [(x,k)]) n=(Vaprbb.Env.kind En n).or (if x=n then some k else none):=by
 unfold Vaprbb.Env.kind;rw [vS];cases En.find? (λy=>y.1 == n) with
 | some y=>rfl
 | none=>
  rw [v8,Option.map_none,v8];rw [dW];by_cases h:x=n
  . rw [ah h,bO.mpr h];rfl
  . rw [ae h,c4.mpr h];rfl
def Hh {x:Bytes} (h:∀n,RelK K H (En.kind n) (cq aG (nk n))) (hx:Vaprbb.Env.kind En x=none) (hv:zr K H v k):∀n,RelK K H (Vaprbb.Env.kind (En++ [(x,k)]) n) (cq (putK aG (nk x) v) (nk n)):=λn=>by
 rw [wQ,t_];by_cases e:n=x
 . subst e;rw [ah rfl,ah rfl,hx];exact hv
 . rw [ae (λz=>e (Cw z)),ae (λz=>e z.symm),qW];exact h n
def IE {x:Bytes} (hs:∀n,List.contains scope n=(Vaprbb.Env.kind En n).isSome) (h:¬scope.contains x=true):Vaprbb.Env.kind En x=none:=by
 rw [hs] at h;cases hq:Vaprbb.Env.kind En x with
 | none=>rfl
 | some k=>rw [hq] at h;exact absurd rfl h
def F2 {x:Bytes} (hs:∀n,List.contains scope n=(Vaprbb.Env.kind En n).isSome):∀n,(scope++ [x]).contains n=(Vaprbb.Env.kind (En++ [(x,k)]) n).isSome:=λn=>by
 rw [so,wQ,hs];by_cases e:n=x
 . rw [ah e,ah e.symm];cases Vaprbb.Env.kind En n <;> rfl
 . rw [ae e,ae (λz=>e z.symm),qW]
theorem nE.snoc {x:Bytes} (h:nE p En) (hk:li k):nE p (En++ [(x,k)]):=by
 exists λn k' e=>?_,h.f;rw [wQ] at e;cases hq:Vaprbb.Env.kind En n with
 | some z=>rw [hq] at e;cases e;exact h.e _ _ hq
 | none=>
  rw [hq,v8] at e;split at e
  . cases e;exact hk
  . cases e
def Ja (K:Frag) (H:Hp) (p:Prog) (sc:List Bytes) (Q:VK):oF->Prop:=λEn=> ∀d H',aq H H'->Nt K H' d En->nE p En->(∀n,List.contains sc n=(Vaprbb.Env.kind En n).isSome)->Q (.ref d) H'
def K8 (p:Prog) (En:oF) (e:Ex) (r:List Stm):stmsKinds p En (.observe e :: r)=(kindOf p En e >>= λk=>cn k e.place >>= λ_=>stmsKinds p En r):=by
 show (kindOf p En e >>= _)=_;refine aS λk=>?_;unfold cn;split <;> rfl
def uV (o:Option Kd) (k:Kd) (pl:Nat):Except Fault Kd:=match o with
 | none=> .ok k
 | some a=>held k a pl >>= λ_=> .ok a
def K9 (p:Prog) (En:oF) (n:PName) (o:Option Kd) (e:Ex) (r:List Stm):stmsKinds p En (.lets n o e :: r)=(kindOf p En e >>= λk=>uV o k e.place >>= λk2=>stmsKinds p (En++ [(n.name,k2)]) r):=by
 cases o with
 | none=>rfl
 | some a=>
  show (kindOf p En e >>= λk=>held k a e.place >>= λ_=>stmsKinds p (En++ [(n.name,a)]) r)=(kindOf p En e >>= λk=>(held k a e.place >>= λ_=> .ok a) >>= λk2=>stmsKinds p (En++ [(n.name,k2)]) r);simp only [bn];rfl
def F3 {o:Option Kd} {k2:Kd} (hk:li k) (ho:∀k',o=some k'->li k') (h:uV o k pl= .ok k2):li k2:=by
 cases o with
 | none=>cases h;exact hk
 | some a=>obtain ⟨_,_,h⟩:=aj h;cases h;exact ho _ rfl
theorem D9:∀{ds:List Decl} {before:List Bytes} {u:Unit},declsRight before ds= .ok u->∀(i:Nat) (d:Decl),ds[i]? = some d->¬(before++(ds.take i).map (λx=>x.name.name)).contains d.name.name=true
 | [],_,_,_,i,d,e=>by simp at e
 | x :: r,before,u,h,i,d,e=>by
  have h:(if before.contains x.name.name=true then .error #[5,x.name.place] else declsRight (before++ [x.name.name]) r)= .ok u:=h;split at h
  . cases h
  . rename_i hc;cases i with
    | zero=>cases e;rw [lQ,cB,bH];exact hc
    | succ i=>
     have:=D9 h i d (~~~e);rw [bz] at this;exact this
theorem yq:∀{fs:List Fu} {before:List Bytes} {u:Unit},funsRight p before fs= .ok u->∀f∈fs,declsRight [] f.params= .ok ()/\named p (f.params.map λd=>d.name.name) f.body= .ok ()
 | [],_,_,_,f,hf=>by cases hf
 | x :: r,before,u,h,f,hf=>by
  unfold funsRight at h;split at h
  . cases h
  . split at h
    . cases h
    . obtain ⟨_,h1,h⟩:=aj h;obtain ⟨_,h2,h⟩:=aj h;rcases aF.mp hf with rfl | hf
      . exists h1,h2
      . exact yq h f hf
def xG (ds:List Decl) (n:Bytes):Vaprbb.Env.kind (ds.map λd=>(d.name.name,d.kind)) n=(ds.find? λd=>d.name.name == n).map (·.kind):=by
 unfold Vaprbb.Env.kind;rw [List.find?_map,Option.map_map];rfl
def xH (ds:List Decl) (n:Bytes):(ds.map λd=>d.name.name).contains n=(Vaprbb.Env.kind (ds.map λd=>(d.name.name,d.kind)) n).isSome:=by
 rw [xG,lI,List.isSome_find?,b8,em,qP];constructor
 . intro h;obtain ⟨d,hd,e⟩:=ci.mp h;exists d,hd,~~~e
 . rintro ⟨d,hd,e⟩;exact ci.mpr #[d,hd,~~~e]
inductive qg: #v[0] | mk {K c vs H Q E:_} a nn o e fa k:vs= [.ref a,.ref fa]->EI K c H (.ref a) (.lets nn o e)->gd e 0->g9 K H fa (kT k)->aN c.cf E H (uV o k e.place) (λk2=> ∀b,g9 K H b (kT k2)->Q (.ref b) H)->qg K c vs H Q E
theorem zN:AA.hF 6 "kind_of_let" ["statement","found"] qg:=by
 nomatch ["statement","found"]
 ext h a nn o e fa k rfl ⟨a',da,wv,ev,e0,ha,hw,he⟩ hg hk q;cases e0;nomatch 2,Jv,0,iX,0
 cases o with
 | none=>
  have hw:wv= .cx:=hw;subst hw;refine fr ha U #[U,_,U,bC U (q fa hk)]
 | some kk=>
  ext hw wa rfl WY;refine fr ha U #[U,_,U,aE U ?_];obtain ⟨ax,QL,QM,rfl,hax,g6⟩:=iH.place hg he;refine fr ha U (fr ha U (fr hax g6 #[fa,wa,k,kk,e.place,U,hk,WY,?_]));have q:aN c.cf E H (held k kk e.place >>= λ_=> .ok kk) (λk2=> ∀b,g9 K H b (kT k2)->Q (.ref b) H):=q;exact aN.step q λ_ _ q=>(fr ha rfl (q wa WY))
inductive fY: #v[0] | mk {K c vs H Q E:_} sl ss stms nd p sc:vs= [.ref sl,.ref nd]->FL H sl ss->A2 (EI K c H) ss stms->(∀s∈stms,Ow s)->stms.length<=32->KP K c H nd p.funs->(∀f∈p.funs,GF f)->stmsRight p [] stms= .ok sc->aN c.cf E H (stmsKinds p [] stms) (Ja K H p sc Q)->fY K c vs H Q E
theorem lj:AA.hF 58 "check_statement_kinds" ["statements","named"] fY:=by
 nomatch ["statements","named","known","statement","found"]
 ext h sl ss stms nd p sc rfl ff hA hG TU hn hF VO q;nomatch 2,2,jH,bD,3,4,dw (rC AA 24) ?_,aM o5,fG AA.Bm,m8 (pv 2) (b_ (pv 3)) (dw (zN AA) (aH (pv 3) (pU (pv 4)))),gK,T.ko,1
 intro D hD;have s1:=aq.upd (o:= .dK []) hD;exists sl,U,#[ss,(ff.app s1).sq],cC (K:=K) (a:=sl) (xs:=ss) (λi Z H'=> ∃v3 v4:Option V,Z= [some (.ref sl),some (.ref nd),some (.ref D),v3,v4]/\aq H H'/\∃aG scope,∃En:oF,H' D=some (.dK aG)/\aG.length<=i/\(∀n,RelK K H' (En.kind n) (cq aG (nk n)))/\(∀n,List.contains scope n=(Vaprbb.Env.kind En n).isSome)/\nE p En/\stmsRight p scope (stms.drop i)= .ok sc/\aN c.cf E H (stmsKinds p En (stms.drop i)) (Ja K H p sc Q))
  #[none,none,rfl,s1,[],[],[],aa,az _,λn=>au,λn=>rfl,#[λn k e=>(by cases e),hF],VO,q] (λi Z H' _ #[_,_,_,s,_]=>(ff.app s).sq) ?_ ?_
 . rintro i x Z H' hi ⟨v3,v4,rfl,s,aG,scope,En,hkv,hl,hr,hsc,hW,fZ,q⟩;obtain ⟨st,hst',hx⟩:=hA.get hi;have hgs:=hG st (bc hst');have hx:=hx.Y C s.Y;have hil:i < ss.length:=(bj.mp hi).1;have hlen:=hA.len;rw [d3 hst'] at q fZ;cases st with
   | observe e=>
    rw [K8] at q;have fZ:(named p scope e >>= λ_=>stmsRight p scope (stms.drop (i+1)))= .ok sc:=fZ;obtain ⟨_,hnm,fZ⟩:=aj fZ;have bQ:=CC hsc hnm;ext hx a da ev rfl ha he;refine fr ha U #[ev,e,D,nd,p,En,U,hgs.1,hgs.2.1,hgs.2.2,he,#[aG,.inl hkv,hr],hn.Y C s.Y,bQ,hW,?_];refine aN.imp (ok:=λk=>aN c.cf E H (cn k e.place >>= λ_=>stmsKinds p En (stms.drop (i+1))) (Ja K H p sc Q)) (aN.step (aN.on q s) λk ek _=>?_) λk _ q ka H2 s2 hka=>?_
    . rw [ek] at q;exact q
    have Qh:=s.trans s2;have mW:=s2 _ _ ha;exists _,_,_,_,U,C.wJ _ _ _ _ mW,C.ro,_,U,aE U ?_;obtain ⟨ax,QL,QM,rfl,hax,g6⟩:=iH.place hgs.1 (he.Y C s2.Y);refine fr mW U (fr hax g6 #[ka,k,0,e.place,U,hka,λes=>?_,λes=>?_])
    . have ha0:cn k e.place= .ok ():=by
       unfold cn;rw [rm,ae (by rw [es];decide)]
      rw [ha0] at q;exists _,_,U,Qh,aG,scope,En,s2 _ _ hkv,by lia,λn=>(hr n).Y (c:=c) s2.Y,hsc,hW,fZ,q
    . have ha0:cn k e.place= .error #[8,e.place]:=by
       unfold cn;rw [rm,ah (by cases k with | flag=>exact absurd rfl es | num lo hi=>rfl)]
      rw [ha0] at q;exact jI.on q Qh
   | lets nn o e=>
    rw [K9] at q;have fZ:(if scope.contains nn.name=true then .error #[5,nn.place] else named p scope e >>= λ_=>stmsRight p (scope++ [nn.name]) (stms.drop (i+1)))= .ok sc:=fZ;split at fZ
    . cases fZ
    rename_i hnc;obtain ⟨_,hnm,fZ⟩:=aj fZ;have bQ:=CC hsc hnm;obtain ⟨a,da,wv,ev,rfl,ha,hw,he⟩:=id hx;have gx:=hgs.2.2;refine fr ha U #[ev,e,D,nd,p,En,U,gx.1,gx.2.1,gx.2.2,he,#[aG,.inl hkv,hr],hn.Y C s.Y,bQ,hW,?_];refine aN.imp (ok:=λk=>kindOf p En e= .ok k/\aN c.cf E H (uV o k e.place >>= λk2=>stmsKinds p (En++ [(nn.name,k2)]) (stms.drop (i+1))) (Ja K H p sc Q)) (aN.step (aN.on q s) λk ek _=>#[ek,?_]) λk _ #[ek,q] ka H2 s2 hka=>?_
    . rw [ek] at q;exact q
    have Qh:=s.trans s2;have mW:=s2 _ _ ha;have hk2:=s2 _ _ hkv;exists _,_,_,_,U,C.wI _ _ _ _ mW,C.rn,_,U,bC U ?_;exists a,nn,o,e,ka,k,U,hx.Y C s2.Y,gx.1,hka,?_;refine aN.imp (ok:=λk2=>uV o k e.place= .ok k2/\aN c.cf E H (stmsKinds p (En++ [(nn.name,k2)]) (stms.drop (i+1))) (Ja K H p sc Q)) (aN.step (aN.on q Qh) λk2 ek2 _=>#[ek2,?_]) λk2 _ #[ek2,q] kb hkb=>?_
    . rw [ek2] at q;exact q
    refine fr mW U #[D,_,U,wA.k (k:=nk nn.name) hk2 (by have:=aV;lia),?_];have dM:bW c H2 (upd H2 D (.dK (putK aG (nk nn.name) (.ref kb)))):=bW.upd hk2 rfl;exists _,_,U,Qh.bM hD,_,scope++ [nn.name],En++ [(nn.name,k2)],aa,aP (dk _ _ _) (by lia),?_,F2 hsc,hW.snoc (F3 (hW.kind gx.1 ek) hgs.2.1 ek2),fZ,q;exact Hh (λn=>(hr n).Y (c:=c) (s2.Y.trans dM)) (IE hsc hnc) #[kb,rfl,g9.Y hkb dM]
 . rintro Z H' ⟨v3,v4,rfl,s,aG,scope,En,hkv,hl,hr,hsc,hW,fZ,q⟩;rw [hA.len,fP] at q fZ;have fZ:Except.ok scope=Except.ok sc:=fZ;cases fZ;exists D,_,U,hkv,au,λo=>?_;have dM:bW c H' (upd H' D (.g8 o (.dK aG))):=bW.upd hkv rfl;exact q D _ (s.bM hD) #[aG,#[o,aa],λn=>(hr n).Y dM] hW hsc
inductive qh: #v[0] | mk {K c vs H Q E:_} v p sc:vs= [v]->EJ K c H v p->GP p->namesRight p= .ok ()->stmsRight p [] p.stms= .ok sc->aN c.cf E H p.env (Ja K H p sc Q)->qh K c vs H Q E
theorem zO:AA.hF 59 "check_kinds" ["program"] qh:=by
 nomatch ["program","named","function","known","parameter"]
 ext h v p sc rfl hP hG hnr VO q;nomatch 2,1,e_,bD,2,3,jH,bD,4,m8 (pv 3) (b_ (pv 4)) (b_ (pv 4)),iX,dw (rC AA 24) ?_,lj
 obtain ⟨a,dx,fl,sl,tl,fs,ss,ts,rfl,ha,f1,A1,f2,As,f3,A3⟩:=id hP;have q:aN c.cf E H (funsKinds p p.funs >>= λ_=>stmsKinds p [] p.stms) (Ja K H p sc Q):=q;have hnr:(funsRight p [] p.funs >>= λ_=>stmsRight p [] p.stms >>= λscope=>tellsRight scope [] p.tells)= .ok ():=hnr;obtain ⟨_,hfr,_⟩:=aj hnr;refine fr ha U #[fl,fs,p.funs,U,f1,A1,hG.fl,λnd H1 s1 hn=>?_];have ha1:=s1 _ _ ha;refine fr ha1 U ⟨fl,U,#[fs,(f1.app s1).sq],cC (K:=K) (a:=fl) (xs:=fs) (λi Z H'=> ∃v2 v3 v4:Option V,Z= [some (.ref a),some (.ref nd),v2,v3,v4]/\aq H1 H'/\aN c.cf E H (funsKinds p (p.funs.drop i) >>= λ_=>stmsKinds p [] p.stms) (Ja K H p sc Q))
  #[none,none,none,rfl,aq.refl _,q] (λi Z H' _ #[_,_,_,_,s,_]=>(f1.app (s1.trans s)).sq) ?_ ?_⟩
 . rintro i x Z H' hi ⟨v2,v3,v4,rfl,s,q⟩;obtain ⟨f,hf,hx⟩:=A1.get hi;have hgf:=hG.fn f (bc hf);obtain ⟨hdr,hnm⟩:=yq hfr f (bc hf);have sH:=s1.trans s;obtain ⟨af,ZD,pl,kv,bv,ps,rfl,haf,fp,Qc,⟨rk,rfl,hrk⟩,hb⟩:=hx.Y C sH.Y;rw [d3 hf] at q;have q:aN c.cf E H ((kindOf p (funEnv f) f.body >>= λk=>held k f.result f.body.place >>= λ_=>funsKinds p (p.funs.drop (i+1))) >>= λ_=>stmsKinds p [] p.stms) (Ja K H p sc Q):=q;rw [bn] at q;intro D hD;have sD:=aq.upd (o:= .dK []) hD;have lp:=Qc.len;refine fr (sD _ _ haf) U ⟨pl,U,#[ps,(fp.app sD).sq],cC (K:=K) (a:=pl) (xs:=ps) (λj Z H2=> ∃v4:Option V,Z= [some (.ref a),some (.ref nd),some (.ref af),some (.ref D),v4]/\aq H' H2/\∃aG,H2 D=some (.dK aG)/\aG.length<=j/\∀n,RelK K H2 (Vaprbb.Env.kind ((f.params.take j).map λd=>(d.name.name,d.kind)) n) (cq aG (nk n)))
    #[_,rfl,sD,[],aa,az _,λn=>au] (λj Z H2 _ #[_,_,s2,_]=>(fp.app s2).sq) ?_ ?_⟩
   . rintro j y Z H2 hj ⟨YD,rfl,s2,aG,hkv,hl,hr⟩;obtain ⟨d,hd,hy⟩:=Qc.get hj;obtain ⟨ap,ZE,VL,rfl,hap,hkp⟩:=hy.Y C s2.Y;have hjl:j < ps.length:=(bj.mp hj).1;have YF:=hgf.pl;refine fr hap U (fr hap U #[D,_,U,wA.k (k:=nk d.name.name) hkv (by have:=aV;lia),?_]);have dM:bW c H2 (upd H2 D (.dK (putK aG (nk d.name.name) VL))):=bW.upd hkv rfl;exists _,U,s2.bM hD,_,aa,aP (dk _ _ _) (by lia),?_;rw [j5 hd,dX];have md:=D9 hdr j d hd;rw [lO,xH] at md;refine Hh (λn=>(hr n).Y (c:=c) dM) ?_ (hkp.Y dM);cases hq:Vaprbb.Env.kind ((f.params.take j).map λd=>(d.name.name,d.kind)) d.name.name with
     | none=>rfl
     | some z=>rw [hq] at md;exact absurd rfl md
   . rintro Z H2 ⟨YD,rfl,s2,aG,hkv,hl,hr⟩;rw [lp,cK] at hr;have YG:=sH.trans s2;have VP:=s2 _ _ haf;have YH:nE p (funEnv f):=⟨λn k e=>by
      have e:Vaprbb.Env.kind (f.params.map λd=>(d.name.name,d.kind)) n=some k:=e;rw [xG] at e;obtain ⟨d,hd,rfl⟩:=gC.mp e;exact (hgf.pw d (lu hd)).2,hG.fn⟩
     refine fr VP U #[bv,f.body,D,nd,p,funEnv f,U,hgf.bd.1,hgf.bd.2.1,hgf.bd.2.2,hb.Y C s2.Y,#[aG,.inl hkv,hr],hn.Y C (s.trans s2).Y,CC (xH _) hnm,YH,?_];refine aN.imp (ok:=λk=>aN c.cf E H ((held k f.result f.body.place >>= λ_=>funsKinds p (p.funs.drop (i+1))) >>= λ_=>stmsKinds p [] p.stms) (Ja K H p sc Q)) (aN.step (aN.on q YG) λk ek _=>?_) λk _ q ka H3 s3 hka=>?_
     . rw [ek] at q;exact q
     rw [bn] at q;have SK:=s2.trans s3;have SM:=SK _ _ haf;obtain ⟨ax,QL,QM,rfl,hax,g6⟩:=iH.place hgf.bd.1 (hb.Y C SK.Y);refine fr SM U (fr SM U (fr hax g6 #[ka,rk,k,f.result,f.body.place,U,hka,g9.Y (c:=c) hrk SK.Y,?_]));have YJ:=sH.trans SK;refine aN.imp (ok:=λ_=>aN c.cf E H (funsKinds p (p.funs.drop (i+1)) >>= λ_=>stmsKinds p [] p.stms) (Ja K H p sc Q)) (aN.step (aN.on q YJ) λ_ ek _=>?_) λ_ _ q=>?_
     . rw [ek] at q;exact q
     exists _,_,_,U,s.trans SK,q
 . rintro Z H' ⟨v2,v3,v4,rfl,s,q⟩;rw [A1.len,fP] at q;have q:aN c.cf E H (stmsKinds p [] p.stms) (Ja K H p sc Q):=q;have sH:=s1.trans s;refine fr (sH _ _ ha) U #[sl,ss,p.stms,nd,p,sc,U,f2.app sH,As.mono λ_ _ z=>z.Y C sH.Y,hG.st,hG.sl,hn.Y C s.Y,hG.fn,VO,?_];exact aN.imp (aN.on q sH) λEn _ q d H2 s2 hk hw hsc=>q d H2 (sH.trans s2) hk hw hsc
def x6 (sel:Ex->Option Bytes) (l:List Bytes) (k:Ex):List Bytes:=match sel k with
 | some n=>put n l
 | none=>l
def met (sel:Ex->Option Bytes) (l:List Bytes) (es:List Ex):List Bytes:=es.foldl (x6 sel) l
def zP:Ex->Option Bytes
 | .name _ n=>some n
 | _=>none
def zQ:Ex->Option Bytes
 | .call _ f _=>some f
 | _=>none
def cO (sel:Ex->Option Bytes) (l:List Bytes) (a b:List Ex):met sel l (a++b)=met sel (met sel l a) b:=vR
theorem bI:∀(e:Ex) (l:List Bytes),mentions l e=met zP l (subs e)
 | .lit _ _,l=>rfl
 | .name _ n,l=>rfl
 | .flip _ _,l=>rfl
 | .uniform _ _ _,l=>rfl
 | .nil,l=>rfl
 | .un _ _ a,l=>bI a l
 | .weigh _ _ a,l=>bI a l
 | .call _ _ a,l=>bI a l
 | .pick _ a,l=>bI a l
 | .bin _ _ a b,l=>by
  show mentions (mentions l a) b=met zP l (subs a++subs b);rw [cO,<-bI a,<-bI b]
 | .given _ a b,l=>by
  show mentions (mentions l a) b=met zP l (subs a++subs b);rw [cO,<-bI a,<-bI b]
 | .arg a b,l=>by
  show mentions (mentions l a) b=met zP l (subs a++subs b);rw [cO,<-bI a,<-bI b]
 | .way a _ b,l=>by
  show mentions (mentions l a) b=met zP l (subs a++subs b);rw [cO,<-bI a,<-bI b]
 | .cond _ d a b,l=>by
  show mentions (mentions (mentions l d) a) b=met zP l (subs d++(subs a++subs b));rw [cO,cO,<-bI a,<-bI b,<-bI d]
theorem ca:∀(e:Ex) (l:List Bytes),Vaprbb.calls l e=met zQ l (subs e)
 | .lit _ _,l=>rfl
 | .name _ n,l=>rfl
 | .flip _ _,l=>rfl
 | .uniform _ _ _,l=>rfl
 | .nil,l=>rfl
 | .un _ _ a,l=>ca a l
 | .weigh _ _ a,l=>ca a l
 | .call _ f a,l=>ca a (put f l)
 | .pick _ a,l=>ca a l
 | .bin _ _ a b,l=>by
  show Vaprbb.calls (Vaprbb.calls l a) b=met zQ l (subs a++subs b);rw [cO,<-ca a,<-ca b]
 | .given _ a b,l=>by
  show Vaprbb.calls (Vaprbb.calls l a) b=met zQ l (subs a++subs b);rw [cO,<-ca a,<-ca b]
 | .arg a b,l=>by
  show Vaprbb.calls (Vaprbb.calls l a) b=met zQ l (subs a++subs b);rw [cO,<-ca a,<-ca b]
 | .way a _ b,l=>by
  show Vaprbb.calls (Vaprbb.calls l a) b=met zQ l (subs a++subs b);rw [cO,<-ca a,<-ca b]
 | .cond _ d a b,l=>by
  show Vaprbb.calls (Vaprbb.calls (Vaprbb.calls l d) a) b=met zQ l (subs d++(subs a++subs b));rw [cO,cO,<-ca a,<-ca b,<-ca d]
def By {n:Bytes} {l:List Bytes} (h:l.Nodup):(put n l).Nodup:=by
 unfold put;split
 . exact h
 . rename_i hc;rw [List.nodup_append];exists h,lD.mpr #[dv,jo],λa ha b hb e=>?_;subst e;rw [dE.mp hb] at ha;exact hc (em.mpr ha)
def Hi {n m:Bytes} {l:List Bytes} (h:m∈put n l):m∈l\/m=n:=by
 unfold put at h;split at h
 . exact .inl h
 . rcases cg.mp h with h | h
   . exact .inl h
   . exact .inr (dE.mp h)
theorem Bz {sel:Ex->Option Bytes}:∀{es:List Ex} {l:List Bytes},l.Nodup->(met sel l es).Nodup
 | [],l,h=>h
 | k :: es,l,h=>by
  show (met sel (x6 sel l k) es).Nodup;refine Bz ?_;unfold x6;split
  . exact By h
  . exact h
theorem uW {sel:Ex->Option Bytes} {n:Bytes}:∀{es:List Ex} {l:List Bytes},n∈met sel l es->n∈l\/∃k∈es,sel k=some n
 | [],l,h=> .inl h
 | k :: es,l,h=>by
  rcases uW (es:=es) (l:=x6 sel l k) h with h | ⟨k',hk,e⟩
  . unfold x6 at h;split at h
    . rename_i m e;rcases Hi h with h | h
      . exact .inl h
      . subst h;exact .inr #[k,bi,e]
    . exact .inl h
  . exact .inr #[k',aW _ hk,e]
def K_ {sel:Ex->Option Bytes} {l:List Bytes} {es:List Ex} {k:Ex} (h:es[i]? = some k):met sel l (es.take (i+1))=x6 sel (met sel l (es.take i)) k:=by
 obtain ⟨hi,e⟩:=bj.mp h;rw [ej hi,cO,e];rfl
theorem uX {sel:Ex->Option Bytes}:∀{es:List Ex} {l:List Bytes},(met sel l es).length<=l.length+es.length
 | [],l=>az _
 | k :: es,l=>by
  have h1:=uX (sel:=sel) (es:=es) (l:=x6 sel l k);have h2:(x6 sel l k).length<=l.length+1:=by
   unfold x6 put;split
   . split
     . lia
     . rw [ao,aC];lia
   . lia
  show (met sel (x6 sel l k) es).length<=_;rw [aT];lia
def ix (cV:List Bytes) (n:Bytes):Nat:=(cV.findIdx? λx=>x == n).getD 0
def Hj {n:Bytes} (h:n∈cV):cV.findIdx? (λx=>x == n)=some (ix cV n):=by
 unfold ix;cases e:cV.findIdx? (λx=>x == n) with
 | some i=>rfl
 | none=>
  have:=List.findIdx?_eq_none_iff.mp e n h;simp at this
theorem wR {n:Bytes} (h:n∈cV):cV[ix cV n]? = some n/\∀(m:Nat) z,m < ix cV n->cV[m]? = some z->z≠n:=by
 have e:=Hj h;rw [AB] at e;ext e hl h1 h2;exists by rw [bB hl];exact bq some (~~~h1),λm z hm hz ez=>?_;have:=h2 m hm;rw [bB (by lia)] at hz;cases hz;rw [ez] at this;simp at this
def Qi {n m:Bytes} (h1:n∈cV) (h2:m∈cV) (e:ix cV n=ix cV m):n=m:=by
 have a:=(wR h1).1;rw [e,(wR h2).1] at a;exact (bE a).symm
def nI {l:List Bytes} (h:∀n∈l,n∈cV):Vaprbb.numbersOf cV l=l.map (ix cV):=by
 unfold Vaprbb.numbersOf;induction l with
 | nil=>rfl
 | cons n l ih=>
  rw [ly,Hj (h n bi),ih λm hm=>h m (aW _ hm)];rfl
def D_ (hn:cV.Nodup) {n:Bytes} (h:cV[i]? = some n):ix cV n=i:=by
 have hm:=bc h;obtain ⟨a,b⟩:=wR hm;have hl:=(bj.mp h).1;have hl2:=(bj.mp a).1;rw [bB hl] at h;rw [bB hl2] at a;exact (vV hn).mp (bE (a.trans h.symm))
theorem La {n:Bytes} (h:n∈p.funs.map λf=>f.name.name):∃g,p.fun n=some g/\p.funs[ix (p.funs.map λf=>f.name.name) n]? = some g/\g.name.name=n:=by
 obtain ⟨a,b⟩:=wR h;rw [bA] at a;cases e:p.funs[ix (p.funs.map λf=>f.name.name) n]? with
 | none=>rw [e] at a;cases a
 | some g=>
  rw [e] at a;have hg:g.name.name=n:=bE a;exists g,?_,U,hg;obtain ⟨hl,eg⟩:=bj.mp e;unfold Vaprbb.Prog.fun;rw [AD];exists ~~~hg,_,hl,eg,λj hj=>?_;have:=b j (p.funs[j]).name.name hj (by rw [bA,bB (by omega)];rfl);simpa using this
def Nu {n:Bytes} {g:Fu} (h:p.fun n=some g):n∈p.funs.map λf=>f.name.name:=by
 unfold Vaprbb.Prog.fun at h;have h1:=vZ h;have h2:=lu h;exact ci.mpr #[g,h2,~~~h1]
def uY:Ex->Nat
 | .flip _ _=>2
 | .uniform _ lo hi=>(hi - lo+1).toNat
 | .pick _ w=>w.count
 | _=>0
def iP (e:Ex):List (Nat×Nat):=if 0 < uY e then [(e.place,uY e)] else []
theorem bV:∀{e:Ex} {s:Nat},gd e s->Vaprbb.points e=(subs e).flatMap iP
 | .lit _ (.num _),_,_=>rfl
 | .lit _ (.flag _),_,_=>rfl
 | .name _ n,_,_=>rfl
 | .flip _ _,_,_=>rfl
 | .uniform q lo hi,_,h=>by
  have hk: -1000<=lo/\lo<=hi/\hi<=1000/\hi<=lo+63:=h.2;show [(q,(hi - lo+1).toNat)]=(if 0 < (hi - lo+1).toNat then [(q,(hi - lo+1).toNat)] else [])++ [];rw [ah (by omega)];rfl
 | .nil,_,_=>rfl
 | .un _ _ a,_,h=>by
  show Vaprbb.points a=(subs a).flatMap iP;exact bV h.2
 | .weigh _ _ a,_,h=>by
  show Vaprbb.points a=(subs a).flatMap iP;exact bV h.2.2
 | .call _ _ a,_,h=>by
  show Vaprbb.points a=(subs a).flatMap iP;exact bV h.2.2
 | .pick q x,_,h=>by
  show (q,x.count) :: Vaprbb.points x=(if 0 < x.count then [(q,x.count)] else [])++(subs x).flatMap iP;rw [bV h.2.1,ah ?_]
  . rfl
  . have:=h.2.2;cases x with
    | nil=>exact absurd rfl this
    | way a w r=>show 0 < r.count+1;omega
    | arg a r=>show 0 < r.count+1;omega
    | lit _ v=>cases v <;> exact absurd h.2.1 (by simp [gd])
    | _=>exact absurd h.2.1.1 ∅
 | .bin _ _ a b,_,h=>by
  show Vaprbb.points a++Vaprbb.points b=(subs a++subs b).flatMap iP;rw [dD,bV h.2.1,bV h.2.2]
 | .given _ a b,_,h=>by
  show Vaprbb.points a++Vaprbb.points b=(subs a++subs b).flatMap iP;rw [dD,bV h.2.1,bV h.2.2]
 | .arg a b,_,h=>by
  show Vaprbb.points a++Vaprbb.points b=(subs a++subs b).flatMap iP;rw [dD,bV h.2.1,bV h.2.2]
 | .way a _ b,_,h=>by
  show Vaprbb.points a++Vaprbb.points b=(subs a++subs b).flatMap iP;rw [dD,bV h.2.1,bV h.2.2.2]
 | .cond _ d a b,_,h=>by
  show Vaprbb.points d++(Vaprbb.points a++Vaprbb.points b)=(subs d++(subs a++subs b)).flatMap iP;rw [dD,dD,bV h.2.1,bV h.2.2.1,bV h.2.2.2]
def D' (h:GP p):p.points=(p.funs.map (·.body)++p.stms.map exprOf).flatMap λe=>(subs e).flatMap iP:=by
 have h1:∀l:List Fu,(∀f∈l,GF f)->l.flatMap (λf=>Vaprbb.points f.body)=(l.map (·.body)).flatMap λe=>(subs e).flatMap iP:=λl hl=>by
  induction l with
  | nil=>rfl
  | cons f l ih=>rw [dS,bF,dS,ih λg hg=>hl g (aW _ hg),bV (hl f bi).bd.1]
 have h2:∀l:List Vaprbb.Stm,(∀f∈l,Ow f)->l.flatMap (λf=>Vaprbb.points (exprOf f))=(l.map exprOf).flatMap λe=>(subs e).flatMap iP:=λl hl=>by
  induction l with
  | nil=>rfl
  | cons f l ih=>
   have hg:=hl f bi;have hx:gd (exprOf f) 0:=by
    cases f with
    | lets n k e=>exact hg.2.2.1
    | observe e=>exact hg.1
   rw [dS,bF,dS,ih λg hg=>hl g (aW _ hg),bV hx]
 unfold Vaprbb.Prog.points;rw [dD,h1 _ h.fn,h2 _ h.st]
def iQ (a b:Bytes):aR (a++b)=aR a++aR b:=by
 show (⟨((a++b).map (·.toNat)).toArray⟩:Str)=⟨(a.map (·.toNat)).toArray++(b.map (·.toNat)).toArray⟩;rw [dX];simp
def zR (b:Bytes) (i:Nat):(aR b).cps[i]? = (b[i]?).map (·.toNat):=by
 show ((b.map (·.toNat)).toArray)[i]? = _;simp
def mR (sep:Bytes):∀l:List Bytes,Txt.join (aR sep) (l.map aR)=aR (joined sep l):=λl=>by
 rw [TL.join_eq];induction l with
 | nil=>rfl
 | cons x r ih=>
  cases r with
  | nil=>rfl
  | cons y r=>
   show aR x++aR sep++Str.join (aR sep) ((y :: r).map aR)=aR (x++sep++joined sep (y :: r));rw [ih,iQ,iQ]
theorem nJ (sep:Bytes):∀l:List Bytes,(joined sep l).length<=(l.map (·.length)).sum+l.length * sep.length
 | []=>aD _
 | [x]=>by show x.length<=x.length+0+1 * sep.length;lia
 | x :: y :: r=>by
  have:=nJ sep (y :: r);show (x++sep++joined sep (y :: r)).length<=x.length+((y :: r).map (·.length)).sum+((y :: r).length+1) * sep.length;rw [ao,ao,Nat.add_mul];lia
def Lb (l:List Char) (h:∀c∈l,c.toNat < 256):((l.map λc=>UInt8.ofNat c.toNat).map (·.toNat))=l.map Char.toNat:=by
 rw [c9];refine qE λc hc=>?_;show (UInt8.ofNat c.toNat).toNat=c.toNat;rw [UInt8.toNat_ofNat'];exact Nat.mod_eq_of_lt (h c hc)
theorem Qj {c:Char} (h:c∈Nat.toDigits 10 n):c.toNat < 256:=by
 have:=Nat.isDigit_of_mem_toDigits ∅ ∅ h;simp [Char.isDigit] at this;have h2:=this.2;have:c.toNat<=57:=h2;lia
def Hk (n:Nat):Str.ofString (toString n)=aR (showNat n):=by
 rw [vF];unfold aR showNat;rw [Lb _ λc hc=>Qj hc];have:(toString n).toList=Nat.toDigits 10 n:=by
  show (Nat.repr n).toList=_;unfold Nat.repr;exact String.toList_ofList
 rw [this]
theorem str_int (i:Int):Str.ofString (toString i)=aR (showInt i):=by
 cases i with
 | ofNat n=>
  have:toString (Int.ofNat n)=toString n:=rfl;rw [this,Hk];unfold showInt;rw [ae (by simp)];rfl
 | negSucc n=>
  have:toString (Int.negSucc n)= "-" ++toString (n+1):=rfl;rw [this,vF,String.toList_append];have h2:=Hk (n+1);rw [vF] at h2;unfold showInt;rw [ah (by omega)];show (⟨((['-']++(toString (n+1)).toList).map Char.toNat).toArray⟩:Str)=aR ([45]++showNat (n+1));rw [iQ,<-h2,dX];show _=(⟨_++_⟩:Str);simp;rfl
def iR {k:Nat} (h:n < 10 ^ k) (hk:0 < k):(showNat n).length<=k:=by
 unfold showNat;rw [aB,Nat.length_toDigits_le_iff ∅ hk];exact h
theorem cI {i:Int} (h:Ng i):(showInt i).length<=11:=by
 have h1:(showNat i.natAbs).length<=10:=iR (k:=10) (by have:=h.1;have:=h.2;lia) ∅;unfold showInt;split
 . rw [aT];lia
 . lia
def log2_lt {i:Int} (h:i.natAbs < 2 ^ n) (hn:0 < n):i.natAbs.log2 < n:=by
 by_cases h0:i.natAbs=0
 . rw [h0];simpa using hn
 . exact (Nat.log2_lt h0).mpr h
def log2_small {i:Int} (h:i.natAbs < 2 ^ 64):i.natAbs.log2 < 1920:=bw (log2_lt h ∅) ∅
theorem qi (n:Nat):showInt (n:Int)=showNat n:=by
 unfold showInt;rw [ae (by lia)];rfl
def mY (l:List Bytes):List V:=l.map λn=>V.str (aR n)
def Ah (cV l:List Bytes):List V:=l.map λn=>V.int (ix cV n:Nat)
def CH (l:List Bytes):(mY l).all i_=true:=c6.mpr λv hv=>by
 obtain ⟨n,_,rfl⟩:=ci.mp hv;rfl
def Hl (cV l:List Bytes):(Ah cV l).all i_=true:=c6.mpr λv hv=>by
 obtain ⟨n,_,rfl⟩:=ci.mp hv;rfl
def Qk (n:Bytes) (l:List Bytes):inV (.str (aR n)) (mY l)=l.contains n:=by
 unfold inV mY;rw [b8,List.any_map,qP,em];constructor
 . rintro ⟨m,hm,e⟩;have e:(aR m == aR n)=true:=e;have:=mx (bO.mp e);subst this;exact hm
 . intro h;exists n,h,lC (aR n)
theorem Lc {n:Bytes} {l:List Bytes} (hn:n∈cV) (hl:∀m∈l,m∈cV):inV (.int (ix cV n:Nat)) (Ah cV l)=l.contains n:=by
 unfold inV Ah;rw [b8,List.any_map,qP,em];constructor
 . rintro ⟨m,hm,e⟩;have e:(((ix cV m:Nat):Int) == ((ix cV n:Nat):Int))=true:=e;have e:=bO.mp e;have:=Qi (hl m hm) hn (by lia);subst this;exact hm
 . intro h;exists n,h,lC _
def CI {l:List Bytes} {n:Bytes} (h:l[i]? = some n):(mY l)[i]? = some (.str (aR n)):=by
 unfold mY;rw [bA,h];rfl
def kY {l:List Bytes} (h:(mY l)[i]? = some v):∃n,l[i]? = some n/\v= .str (aR n):=by
 unfold mY at h;rw [bA] at h;cases e:l[i]? with
 | none=>rw [e] at h;cases h
 | some n=>rw [e] at h;cases h;exists n,U,U
def zS {l:List Bytes} (h:(Ah cV l)[i]? = some v):∃n,l[i]? = some n/\v= .int (ix cV n:Nat):=by
 unfold Ah at h;rw [bA] at h;cases e:l[i]? with
 | none=>rw [e] at h;cases h
 | some n=>rw [e] at h;cases h;exists n,U,U
def h_ (l:List Bytes):(mY l).length=l.length:=aB _
def rD (cV l:List Bytes):(Ah cV l).length=l.length:=aB _
def WZ {vs:List V} (h:FL H D vs):Tr K "list" (.ref D) H:= .inl #[rfl,_,h.sq]
def same_none {p:Addr} (s:aq H H') (h:H' p=none):H p=none:=by
 cases z:H p with
 | none=>rfl
 | some o=>rw [s _ _ z] at h;cases h
def CJ (n:Bytes) (l:List Bytes):put n l=if l.contains n=true then l else l++ [n]:=rfl
def zT (sel:Ex->Option Bytes) (fm:Str) (cV:List Bytes) (e:Ex):= ∀k∈subs e,decide (V.str (eG k)=V.str fm)=(sel k).isSome/\∀n,sel k=some n->pJ k=aR n/\n∈cV
def Nv (g:gd e 0) (h:∀k∈subs e,∀q n,k= .name q n->n∈cV):zT zP "name" cV e:=λk hk=>by
 have hg:=cW g k hk;exists ?_,λn hn=>?_
 . cases k with
   | nil=>rcases hg with hg | hg <;> cases hg
   | lit q v=>cases v <;> rfl
   | _=>rfl
 . cases k with
   | name q m=>have e:m=n:=bE hn;subst e;exists U,h _ hk q m U
   | lit q v=>cases v <;> cases hn
   | _=>cases hn
def Nw (g:gd e 0) (h:∀k∈subs e,∀q n x,k= .call q n x->n∈cV):zT zQ "call" cV e:=λk hk=>by
 have hg:=cW g k hk;exists ?_,λn hn=>?_
 . cases k with
   | nil=>rcases hg with hg | hg <;> cases hg
   | lit q v=>cases v <;> rfl
   | _=>rfl
 . cases k with
   | call q m x=>have e:m=n:=bE hn;subst e;exists U,h _ hk q m x U
   | lit q v=>cases v <;> cases hn
   | _=>cases hn
inductive qj: #v[0] | mk {K c vs H Q E:_} v e fm na cV sel:vs= [v,.str fm,.ref na]->GX e->iH K c H v e->FL H na (mY cV)->zT sel fm cV e->cV.length<=4097->(∀p H',H p=none->aq H H'->H' p=some (.lst (Ah cV (met sel [] (subs e))))->Q (.ref p) H')->qj K c vs H Q E
theorem qk:AA.h0 26 "numbers_met" ["expression","form","names"] qj:=by
 nomatch ["expression","form","names","met","inner","word"]
 ext h v e fm na cV sel rfl ⟨hg,hd,hz⟩ hv hn IG hnl q;nomatch 2,3,bD,dw (uP AA 24) ?_,4,bJ,m5,cH bN,iA (bD (pv 3)) [("word",5)] (λ_ _ _ _ _=>(bL 5)) (λ_ _ _ _ _=>(JW (K:=K) rfl vB vC AK (Bj (K:=K) rfl) (pv 2) (pU (pv 5))))
 exists aD _,λD hD=>?_;have s0:=aq.upd (o:= .lst []) hD;exists v,e,U,hg,hd,hz,hv.Y C s0.Y,λpw ws H1 s1 hp hA=>?_;have hsl:(subs e).length=sz e:=cj e;have jm:=aV;have VQ:pw≠D:=λz=>by
  have h1:=s1 _ _ (aa (H:=H) (a:=D) (o:= .lst []));rw [<-z,hp] at h1;cases h1;have h2:=hA.len;have h3:=Cu hg;rw [hsl,fQ] at h2;lia
 exists pw,U,#[ws,cw.of hp],cC (K:=K) (a:=pw) (xs:=ws) (λi Z H'=> ∃v4:Option V,Z= [some v,some (.str fm),some (.ref na),some (.ref D),v4,none]/\aq H H'/\(∀o,H1 pw=some o->H' pw=some o)/\bW c H1 H'/\H' D=some (.lst (mY (met sel [] ((subs e).take i)))))
  #[none,rfl,s0.trans s1,λo e=>e,bW.refl,s1 _ _ aa] (λi Z H' _ #[_,_,_,s,_]=>cw.of (s _ hp)) ?_ ?_
 . rintro i x Z H' hi ⟨v4,rfl,s,TX,im,hw⟩;obtain ⟨k,hk,hx⟩:=hA.get hi;have Nh:=cW hg k (bc hk);obtain ⟨sf,sw⟩:=IG k (bc hk);obtain ⟨a,pl,ps,rfl,⟨dx,fl,bv,fs,hN',hN2⟩,fp,WU⟩:=(hx.Y C im).view Nh;have Ts:=uX (sel:=sel) (es:=(subs e).take i) (l:= []);rw [il,fQ] at Ts;have hmt:=K_ (sel:=sel) (l:= []) hk;refine fr hN' U #[U,_,U,bG (λe1=>?_) λe1=>aE U ?_]
   . rw [sf] at e1;obtain ⟨m,hm⟩:=vA.mp e1;obtain ⟨ew,hmem⟩:=sw m hm;have hmt:met sel [] ((subs e).take (i+1))=put m (met sel [] ((subs e).take i)):=by
      rw [hmt];unfold x6;rw [hm]
     rw [CJ] at hmt;refine fr hN' U #[D,_,U,.inl (cw.of hw),U,CH _,_,U,?_];rw [ah rfl,ew,Qk];by_cases hc:(met sel [] ((subs e).take i)).contains m=true
     . rw [ah hc] at hmt;refine aE (by rw [hc];rfl) #[_,rfl,s,TX,im,?_];rw [hmt];exact hw
     . rw [ae hc] at hmt;refine bC (by rw [vX] at hc;rw [hc];rfl) ?_;have dM:bW c H' (upd H' D (.lst (mY (met sel [] ((subs e).take i))++ [.str (aR m)]))):=bW.upd hw rfl;exists oA hw,fr hN' U #[D,_,_,U,U,hw,by rw [h_];lia,?_];rw [ew];exists _,U,s.bM hD,λo e=>?_,im.trans dM,?_
       . rw [aA VQ];exact TX o e
       . rw [aa,hmt];unfold mY;rw [dX];rfl
   . rw [sf] at e1;exists _,U,s,TX,im,?_;rw [hmt];unfold x6;cases hm:sel k with
     | none=>exact hw
     | some m=>rw [hm] at e1;cases e1
 . rintro Z H' ⟨v4,rfl,s,TX,im,hw⟩;rw [hA.len,cK] at hw;have Ts:=uX (sel:=sel) (es:=subs e) (l:= []);rw [fQ] at Ts;exists D,U,#[_,cw.of hw],λD2 eP=>?_;refine jR (K:=K) (a:=D) (xs:=mY (met sel [] (subs e))) (Ah cV (met sel [] (subs e))) (by rw [h_,rD]) eP (cw.of hw) (by rw [h_];lia) (λi x y H2 R hx hy s2 k=>?_) λH2 s2 h2=>?_
   . obtain ⟨m,hm,rfl⟩:=kY hx;obtain ⟨m',hm',rfl⟩:=zS hy;rw [hm] at hm';cases hm';have hmm:m∈cV:=by
      rcases uW (bc hm) with h | ⟨k,hk,ek⟩
      . cases h
      . exact ((IG k hk).2 m ek).2
     obtain ⟨hx1,hx2⟩:=wR hmm;have hn2:FL H2 na (mY cV):=hn.app (s.trans s2);exists U,WZ hn2,na,mY cV,_,ix cV m,_,U,U,hn2.sq,U,CH _,CI hx1,lC (aR m),λj z hj hz=>?_,k H2 (aq.refl _);obtain ⟨m2,hm2,rfl⟩:=kY hz;have:=hx2 j m2 hj hm2;show (aR m2 == aR m)=false;exact c4.mpr λz=>this (mx z)
   . exact q D2 H2 (same_none s eP) (s.trans s2) h2
inductive oo: #v[0] | mk {K c vs H Q E:_} v e na cV:vs= [v,.ref na]->GX e->iH K c H v e->FL H na (mY cV)->zT zP "name" cV e->cV.length<=4097->(∀p H',H p=none->aq H H'->H' p=some (.lst (Ah cV (mentions [] e)))->Q (.ref p) H')->oo K c vs H Q E
theorem x8:AA.h0 27 "mentioned_in" ["expression","names"] oo:=by
 nomatch ["expression","names"]
 ext h v e na cV rfl hg hv hn IG hnl q;nomatch 1,qk
 exists v,e,"name",na,cV,zP,U,hg,hv,hn,IG,hnl,λp H' np s hp=>q p H' np s ?_;rw [bI];exact hp
inductive uZ: #v[0] | mk {K c vs H Q E:_} v e na cV:vs= [v,.ref na]->GX e->iH K c H v e->FL H na (mY cV)->zT zQ "call" cV e->cV.length<=4097->(∀p H',aq H H'->FL H' p (Ah cV (Vaprbb.calls [] e))->Q (.ref p) H')->uZ K c vs H Q E
theorem u0:AA.h0 27 "called_in" ["expression","names"] uZ:=by
 nomatch ["expression","names"]
 ext h v e na cV rfl hg hv hn IG hnl q;nomatch 1,1,qk
 exists v,e,"call",na,cV,zQ,U,hg,hv,hn,IG,hnl,λp H' np s hp=>?_;exists p,_,U,hp,au,λo=>?_;refine q p _ (s.bM np) #[o,?_];rw [aa,ca]
def Ql (H:Hp) (v:V) (x:Nat×Nat):= ∃a,v= .ref a/\H a=some (.tup [.int (x.1:Nat),.int (x.2:Nat)])
theorem Ql.Y {x:Nat×Nat} (h:Ql H v x) (i:bW c H H'):Ql H' v x:=let #[a,e,q]:=h;#[a,e,i _ _ q rfl]
def pw_ne {pw:Addr} {ws Qm:List V} {YK:List (Nat×Nat)} (hp:H pw=some (.lst Qm)) (hA:A2 (iH K c H) Qm (subs e)) (hg:gd e 0) (hD:H D=some (.lst ws)) (hB:A2 (Ql H) ws YK):pw≠D:=λz=>by
 subst z;rw [hp] at hD;cases hD;have h0:(subs e)[0]? = some e:=by rw [gy hg];rfl
 obtain ⟨v,hv,hx⟩:=hA.get' h0;obtain ⟨x,_,a,rfl,hp2⟩:=hB.get hv;obtain ⟨a',_,_,e',⟨dx,fl,bv,fs,hN,_⟩,_⟩:=hx.view hg;cases e';rw [hN] at hp2;cases hp2
def QP (fns:List Bytes) (H:Hp) (v:V) (g:Fu):= ∃a,v= .ref a/\FL H a (Ah fns (Vaprbb.calls [] g.body))
theorem QP.Y {fns:List Bytes} {g:Fu} (h:QP fns H v g) (i:bW c H H'):QP fns H' v g:=let #[a,e,q]:=h;#[a,e,q.mono i]
abbrev fM (p:Prog):List Bytes:=p.funs.map λf=>f.name.name
def F4 {l:List Bytes} {f:Bytes} {g:Fu} (h:l[i]? = some f) (hg:p.fun f=some g):reachedFrom p (n+1) i l=reachedFrom p n (i+1) ((Vaprbb.calls [] g.body).foldl (λl x=>put x l) l):=by
 show (match l[i]? with | none=>l | some f=>reachedFrom p n (i+1) (match p.fun f with | some g=>(Vaprbb.calls [] g.body).foldl (λl x=>put x l) l | none=>l))=_;rw [h];show reachedFrom p n (i+1) (match p.fun f with | some g=>(Vaprbb.calls [] g.body).foldl (λl x=>put x l) l | none=>l)=_;rw [hg]
def Ea {l:List Bytes} (h:l.length<=i):reachedFrom p (n+1) i l=l:=by
 show (match l[i]? with | none=>l | some f=>reachedFrom p n (i+1) (match p.fun f with | some g=>(Vaprbb.calls [] g.body).foldl (λl x=>put x l) l | none=>l))=_;rw [oK.mpr h]
theorem Ny {n:Bytes} {l:List Bytes}:l.length<=(put n l).length:=by
 unfold put;split
 . exact az _
 . rw [ao];lia
inductive zU: #v[0] | mk {K c vs H Q E:_} v e:vs= [v]->gd e 0->iH K c H v e->Q (.int (uY e:Nat)) H->zU K c vs H Q E
theorem F5:AA.h0 2 "ways_of" ["expression"] zU:=by
 nomatch ["expression"]
 ext h v e rfl hg hv q;nomatch 2,bJ,0,bJ,dZ,jF,dO,eF,bJ,aM aJ,0
 obtain ⟨a,pl,ps,rfl,⟨dx,fl,bv,fs,hN,hB,_⟩,fp,hA⟩:=hv.view hg;have hl:=hA.len;cases e with
 | flip p f=>refine fr hN U #[U,_,U,bC U q]
 | uniform p lo hi=>
  ext hB b rfl hb;have hk: -1000<=lo/\lo<=hi/\hi<=1000/\hi<=lo+63:=hg.2;refine fr hN U #[U,_,U,aE U ?_];refine fr hN U #[U,_,U,bC U ?_];refine fr hN U #[b,lo,hi,U,hb,fr hN U #[b,lo,hi,U,hb,_,_,U,U,_,_,U,U,?_]];have e1:(((hi - lo+1).toNat:Nat):Int)=hi - lo+1:=by lia
  show Q (.int (hi - lo+1)) _;rw [<-e1];exact q
 | pick p x=>
  have e1:ps.length=x.count:=hl.trans (mK ∅ hg.2.1);refine fr hN U #[U,_,U,aE U ?_];refine fr hN U #[U,_,U,aE U ?_];refine fr hN U #[U,_,U,bC U ?_];refine fr hN U #[pl,ps,U,.inl fp.sq,?_];rw [e1];exact q
 | lit p v=>
  cases v <;>
  refine fr hN U #[U,_,U,aE U (fr hN U #[U,_,U,aE U (fr hN U #[U,_,U,aE U q])])]
 | _=>refine fr hN U #[U,_,U,aE U (fr hN U #[U,_,U,aE U (fr hN U #[U,_,U,aE U q])])]
inductive u9: #v[0] | mk {K c vs H Q E:_} v p:vs= [v]->EJ K c H v p->GP p->(∀l ws H',H l=none->aq H H'->H' l=some (.lst ws)->A2 (Ql H') ws p.points->Q (.ref l) H')->u9 K c vs H Q E
theorem CK:AA.h0 26 "points_of" ["program"] u9:=by
 nomatch ["program","points","expression","inner","ways"]
 ext h v p rfl hP hG q;nomatch 2,1,bD,uQ,2,bD,dw (uP AA 24) ?_,3,4,F5,iz,cH bN,0
 have jm:=aV;exists aD _,λD hD=>?_;have s0:=aq.upd (o:= .lst []) hD;exists v,p,U,hP.Y C s0.Y,hG.fl,hG.sl,λea es H1 s1 fe hE=>?_;have YL:∀e∈p.funs.map (·.body)++p.stms.map exprOf,GX e:=λe he=>by
  rcases cg.mp he with he | he
  . obtain ⟨f,hf,rfl⟩:=ci.mp he;exact (hG.fn f hf).bd
  . obtain ⟨s,hs,rfl⟩:=ci.mp he;have:=hG.st s hs;cases s with
    | lets n k e=>exact this.2.2
    | observe e=>exact this
 have hL:es.length<=40:=by
  rw [hE.len,ao,aB,aB];have:=hG.fl;have:=hG.sl;lia
 exists ea,U,#[es,fe.sq],cC (K:=K) (a:=ea) (xs:=es) (λi Z H'=> ∃v2 v3 v4:Option V,Z= [some v,some (.ref D),v2,v3,v4]/\aq H H'/\bW c H1 H'/\∃ws,H' D=some (.lst ws)/\ws.length<=4097 * i/\A2 (Ql H') ws (((p.funs.map (·.body)++p.stms.map exprOf).take i).flatMap λe=>(subs e).flatMap iP))
  #[none,none,none,rfl,s0.trans s1,bW.refl,[],s1 _ _ aa,aD _,au] (λi Z H' _ #[_,_,_,_,_,im,_]=>(fe.mono im).sq) ?_ ?_
 . rintro i x Z H' hi ⟨v2,v3,v4,rfl,s,im,ws,hw,hl,hB⟩;obtain ⟨e,he,hx⟩:=hE.get hi;obtain ⟨hg,hd,hz⟩:=YL e (bc he);have hil:i < es.length:=(bj.mp hi).1;have ht:((p.funs.map (·.body)++p.stms.map exprOf).take (i+1)).flatMap (λe=>(subs e).flatMap iP)=((p.funs.map (·.body)++p.stms.map exprOf).take i).flatMap (λe=>(subs e).flatMap iP)++(subs e).flatMap iP:=by
    obtain ⟨hl',e'⟩:=bj.mp he;rw [ej hl',dD,e'];simp
   exists x,e,U,hg,hd,hz,hx.Y C im,λpw Qm H2 s2 hp hA=>?_;have hw2:=s2 _ _ hw;have VQ:=pw_ne hp hA hg hw2 (hB.mono λ_ _ z=>z.Y (c:=c) s2.Y);have hsl:(subs e).length=sz e:=cj e;have hl2:=hA.len;exists pw,U,#[Qm,cw.of hp],cC (K:=K) (a:=pw) (xs:=Qm) (λj Z H'=> ∃v3 v4:Option V,Z= [some v,some (.ref D),some x,v3,v4]/\aq H H'/\bW c H1 H'/\bW c H2 H'/\H' pw=some (.lst Qm)/\∃ws,H' D=some (.lst ws)/\ws.length<=4097 * i+j/\A2 (Ql H') ws ((((p.funs.map (·.body)++p.stms.map exprOf).take i).flatMap λe=>(subs e).flatMap iP)++((subs e).take j).flatMap iP))
    #[v3,v4,rfl,s.trans s2,im.trans s2.Y,bW.refl,hp,ws,hw2,hl,by rw [lQ,vY,bH];exact hB.mono λ_ _ z=>z.Y (c:=c) s2.Y] (λj Z H' _ #[_,_,_,_,_,_,h,_]=>cw.of h) ?_ ?_
   . rintro j y Z H3 hj ⟨v3,v4,rfl,s3,TY,Nz,hp3,TZ,zx,hl3,hB3⟩;obtain ⟨k,hk,hy⟩:=hA.get hj;have Nh:=cW hg k (bc hk);have hjl:j < Qm.length:=(bj.mp hj).1;have W0:=hy.Y C Nz;have TN:((subs e).take (j+1)).flatMap iP=((subs e).take j).flatMap iP++iP k:=by
      obtain ⟨hl',e'⟩:=bj.mp hk;rw [ej hl',dD,e'];simp
     exists y,k,U,Nh,W0,?_;exists _,_,U,U,_,U,bG (λe1=>?_) λe1=>?_
     . have e1:(uY k:Int) > 0:= ~~~e1
       have SN:iP k= [(k.place,uY k)]:=by unfold iP;rw [ah (by lia)]
       obtain ⟨ay,dy,fy,rfl,hay,g6⟩:=iH.place Nh W0;exists oA zx,fr hay g6 #[kg,λT hT=>?_];have sT:=aq.upd (o:= .tup [.int (k.place:Nat),.int (uY k:Nat)]) hT;have SQ:=sT _ _ zx;exists D,_,_,U,U,SQ,by lia,?_;have dM:bW c (upd H3 T (.tup [.int (k.place:Nat),.int (uY k:Nat)])) (upd (upd H3 T (.tup [.int (k.place:Nat),.int (uY k:Nat)])) D (.lst (TZ++ [.ref T]))):=bW.upd SQ rfl;have VR:=(sT.Y (c:=c)).trans dM;exists _,_,U,(s3.trans sT).bM hD,TY.trans VR,Nz.trans VR,?_,_,aa,by rw [ao,aC];lia,?_
       . rw [aA VQ];exact sT _ _ hp3
       . rw [TN,SN,<-bz];exact (hB3.mono λ_ _ z=>z.Y VR).snoc #[T,rfl,dM _ _ aa rfl]
     . have e1:¬(uY k:Int) > 0:= ~~~e1
       have SN:iP k= []:=by unfold iP;rw [ae (by lia)]
       exists _,_,U,s3,TY,Nz,hp3,TZ,zx,by lia,?_;rw [TN,SN,bH];exact hB3
   . rintro Z H3 ⟨v3,v4,rfl,s3,TY,Nz,hp3,TZ,zx,hl3,hB3⟩;rw [hl2,cK,<-ht] at hB3;exists _,_,_,U,s3,TY,TZ,zx,by lia,hB3
 . rintro Z H' ⟨v2,v3,v4,rfl,s,im,ws,hw,hl,hB⟩;rw [hE.len,cK,<-D' hG] at hB;refine q D ws H' hD s hw hB
inductive oq: #v[0] | mk {K c vs H Q E:_} i cl Ax p f:vs= [.int (i:Nat),.ref cl]->FL H cl Ax->A2 (QP (fM p) H) Ax p.funs->p.funs[i]? = some f->(fM p).Nodup->(∀g∈p.funs,∀n∈Vaprbb.calls [] g.body,n∈fM p)->p.funs.length<=8->(∀H',aq H H'->Q (.bl (recursive p f.name.name)) H')->oq K c vs H Q E
theorem x9:AA.h0 2 "is_recursive" ["number","called"] oq:=by
 nomatch ["number","called","met","at","others","other"]
 ext h i cl Ax p f' rfl fc hA hf hnd hcl h8 q;nomatch 2,2,cr fo,bR,3,eV,aM aJ,4,bR,bR,bD,5,m5,cH bN,3,sK,eD
 have jm:=aV;have hfi:(fM p)[i]? = some f'.name.name:=by rw [bA,hf];rfl
 have hfm:f'.name.name∈fM p:=bc hfi;have hix:=D_ hnd hfi;have hfun:p.fun f'.name.name=some f':=by
  obtain ⟨g',h1,h2,_⟩:=La hfm;rw [hix,hf] at h2;cases h2;exact h1
 have hrec:recursive p f'.name.name=(reachedFrom p (p.funs.length+1) 0 (Vaprbb.calls [] f'.body)).contains f'.name.name:=by
  unfold recursive;rw [hfun]
 have hfl:(fM p).length=p.funs.length:=aB _;obtain ⟨vi,YM,ai,rfl,fi⟩:=hA.get' hf;exists cl,Ax,i,_,U,U,fc.sq,dA YM,ai,_,U,.inl fi.sq,λD hD=>?_;exists λm Z H'=> ∃(at_:Nat) (l:List Bytes) (v4 v5:Option V),Z= [some (.int (i:Nat)),some (.ref cl),some (.ref D),some (.int (at_:Nat)),v4,v5]/\aq H H'/\H' D=some (.lst (Ah (fM p) l))/\l.Nodup/\(∀n∈l,n∈fM p)/\at_<=l.length/\m=p.funs.length - at_/\reachedFrom p (p.funs.length - at_+1) at_ l=reachedFrom p (p.funs.length+1) 0 (Vaprbb.calls [] f'.body),
  #[_,0,_,none,none,rfl,aq.upd hD,aa,(by rw [ca];exact Bz jo),hcl f' (bc hf),aD _,rfl,rfl],?_
 rintro m Z H' ⟨at_,l,v4,v5,rfl,s,hw,hn,hm,hat,rfl,hr⟩;have hll:=AF hn hm;exists D,_,U,.inl (cw.of hw),_,_,U,U,_,U,bG (λe1=>?_) λe1=>?_
 . refine dI ?_;have iU:at_ < l.length:=by
    have:(at_:Int) < ((Ah (fM p) l).length:Int):= ~~~e1
    rw [rD] at this;lia
   have hla:l[at_]? = some l[at_]:=bB iU;have YN:l[at_]∈fM p:=hm _ (qO _);obtain ⟨g',hg1,hg2,ZF⟩:=La YN;obtain ⟨vg,YQ,ag,rfl,fg⟩:=hA.get' hg2;have YR:(Ah (fM p) l)[at_]? = some (.int (ix (fM p) l[at_]:Nat)):=by unfold Ah;rw [bA,hla];rfl
   rw [show p.funs.length - at_+1=(p.funs.length - (at_+1)+1)+1 by lia,F4 hla hg1] at hr;exists D,_,at_,_,U,U,cw.of hw,dA YR,cl,Ax,ix (fM p) l[at_],_,U,U,(fc.app s).sq,dA YQ,?_;have SR:∀l':List Bytes,l'.Nodup->(∀n∈l',n∈fM p)->l'.length<=8:=λl' h1 h2=>by
    have:=AF h1 h2;lia
   exists ag,U,#[_,(fg.app s).sq],cC (K:=K) (a:=ag) (xs:=Ah (fM p) (Vaprbb.calls [] g'.body)) (λj Z H'=> ∃(l':List Bytes) (v5:Option V),Z= [some (.int (i:Nat)),some (.ref cl),some (.ref D),some (.int (at_:Nat)),some (.ref ag),v5]/\aq H H'/\H' D=some (.lst (Ah (fM p) l'))/\l'.Nodup/\(∀n∈l',n∈fM p)/\at_ < l'.length/\l'=((Vaprbb.calls [] g'.body).take j).foldl (λl x=>put x l) l)
    #[l,v5,rfl,s,hw,hn,hm,iU,rfl] (λj Z H' _ #[_,_,_,s,_]=>(fg.app s).sq) ?_ ?_
   . rintro j y Z H2 hj ⟨l',v5,rfl,s2,hw2,hn2,hm2,hlt2,e2⟩;obtain ⟨n',hn',rfl⟩:=zS hj;have hnm:n'∈fM p:=hcl g' (bc hg2) n' (bc hn');have ht:((Vaprbb.calls [] g'.body).take (j+1)).foldl (λl x=>put x l) l=put n' l':=by
      obtain ⟨hl',e'⟩:=bj.mp hn';rw [ej hl',vR,e',<-e2];rfl
     exists D,_,U,.inl (cw.of hw2),U,Hl _ _,_,U,?_;rw [ah rfl,Lc hnm hm2];rw [CJ] at ht;by_cases hc:l'.contains n'=true
     . rw [ah hc] at ht;exact aE (by rw [hc];rfl) #[l',_,rfl,s2,hw2,hn2,hm2,hlt2,ht.symm]
     . have YS:=SR l' hn2 hm2;refine bC (by rw [vX] at hc;rw [hc];rfl) ?_;exists oA hw2,D,_,_,U,U,hw2,by rw [rD];lia,?_;exists put n' l',_,U,s2.bM hD,?_,By hn2,λm hm'=>?_,bw hlt2 Ny,?_
       . rw [aa,CJ,ae hc];unfold Ah;rw [dX];rfl
       . rcases Hi hm' with h | rfl
         . exact hm2 m h
         . exact hnm
       . rw [ht,CJ]
   . rintro Z H2 ⟨l',v5,rfl,s2,hw2,hn2,hm2,hlt2,e2⟩;rw [rD,cK] at e2;rw [<-e2] at hr;exists _,_,U,U,_,by lia,at_+1,l',_,_,U,s2,hw2,hn2,hm2,hlt2,U,hr
 . have hge:l.length<=at_:=by
    have:¬(at_:Int) < ((Ah (fM p) l).length:Int):= ~~~e1
    rw [rD] at this;lia
   rw [Ea hge] at hr;have q:=q H' s;rw [hrec,<-hr] at q;exists D,_,U,.inl (cw.of hw),U,Hl _ _,?_;rw [ae aO];have e2:=Lc hfm hm;rw [hix] at e2;rw [e2];exact q
theorem Hm {J:It} (N:Nat) {g:TG} (Rel:Nat->V->Hp->Prop) (hm:∀i y H H',bW c H H'->Rel i y H->Rel i y H') (hD:H1 D=none) (hz:N<=sizeLine) (hgo:∀i H,i < N->aq H1 H->J.go i H) (fZ:∀H,aq H1 H->J.stop N H) (hs:∀i x H H' (R:VK),i < N->aq H1 H->J.ED i H x H'->(∀y H2,aq H H2->Rel i y H2->R y H2)->g x (wipe Z vs) H' λZ2 H2=>wipe Z2 vs=wipe Z vs/\te Z2 H2 R) (hd:∀H ys,aq H1 H->H D=some (.lst ys)->ys.length=N->(∀(i:Nat) y,ys[i]? = some y->Rel i y H)->Qd H):
 ∃W:Nat->Nat->Hp->Prop,(∃m,W 0 m (upd H1 D (.lst [])))/\∀i m H,W i m H->
  (J.stop i H/\Qd H)\/(J.go i H/\∃Nx:Hp->Prop,(∀H',Nx H'->∃m',m' < m/\W (i+1) m' H')/\∀x H',J.ED i H x H'->g x (wipe Z vs) H' λZ2 H2=>wipe Z2 vs=wipe Z vs/\HL Z2 H2 λb H3=>
   if b=true then te Z2 H3 λy H4=> ∃acc,H4 D=some (.lst acc)/\acc.length < sizeLine/\Nx (upd H4 D (.lst (acc++ [y]))) else Nx H3):=by
 refine JX N (λi H=>aq H1 H/\∃ys,H D=some (.lst ys)/\ys.length=i/\∀(k:Nat) y,ys[k]? = some y->Rel k y H) #[aq.upd hD,[],aa,rfl,λk y e=>by simp at e] (λi H hi p=>hgo i H hi p.1) (λH p=>fZ H p.1) ?_ ?_
 . rintro i x H H' hi ⟨s1,ys,hy,hl,hr⟩ yl;refine hs i x H H' (λy H4=> ∃acc,H4 D=some (.lst acc)/\acc.length < sizeLine/\(aq H1 (upd H4 D (.lst (acc++ [y])))/\∃ys,upd H4 D (.lst (acc++ [y])) D=some (.lst ys)/\ys.length=i+1/\∀(k:Nat) y',ys[k]? = some y'->Rel k y' (upd H4 D (.lst (acc++ [y]))))) hi s1 yl λy H2 s2 r=>?_;have e':=s2 D _ hy;have im:bW c H2 (upd H2 D (.lst (ys++ [y]))):=bW.upd e' rfl;exists ys,e',by lia,(s1.trans s2).bM hD,_,aa,by rw [ao,hl];rfl,λk y' e=>?_;by_cases hk:k < ys.length
   . rw [vy hk] at e;exact hm k y' _ _ im (hm k y' _ _ s2.Y (hr k y' e))
   . rw [vt (by lia)] at e;have hk2:k=i:=by
      have:=(bj.mp e).1;simp at this;lia
     subst hk2;rw [hl,v9] at e;cases e;exact hm k y _ _ im r
 . rintro H ⟨s1,ys,hy,hl,hr⟩;exact hd H ys s1 hy hl hr
def isLet:Stm->Bool
 | .lets _ _ _=>true
 | .observe _=>false
def Ld:Stm->Bytes
 | .lets n _ _=>n.name
 | .observe _=> []
def dm (p:Prog):letNames p=(p.stms.filter isLet).map Ld:=by
 unfold Vaprbb.letNames;induction p.stms with
 | nil=>rfl
 | cons s r ih=>
  cases s with
  | lets n k e=>exact bq (n.name :: ·) ih
  | observe e=>exact ih
def zW (p:α->Bool) (l:List α):(l.filter p).length<=l.length:=List.length_filter_le _ _
def gQ (p:Prog):(letNames p).length<=p.stms.length:=by
 rw [dm,aB];exact zW _ _
abbrev Ai (f:Fu):List Bytes:=f.params.map λd=>d.name.name
def C1 (H:Hp) (d:Addr) (f:Bytes->Bytes) (cV:List Bytes):= ∃aG,FD H d aG/\∀n∈cV,cq aG (nk n)=some (.str (aR (f n)))
theorem C1.Y {d:Addr} {f:Bytes->Bytes} (h:C1 H d f cV) (i:bW c H H'):C1 H' d f cV:=let #[k,a,b]:=h;#[k,a.Y i,b]
theorem C1.get {d:Addr} {f:Bytes->Bytes} (h:C1 H d f cV) {n:Bytes} (hn:n∈cV):ua H d (.str (aR n)) (some (.str (aR (f n)))):=by
 ext h aG a b;have:=a.rd.get n;rw [b n hn] at this;exact this
def QQ (H:Hp) (an:Fu->Bytes->Bytes) (v:V) (f:Fu):= ∃d,v= .ref d/\C1 H d (an f) (Ai f)
theorem QQ.Y {an:Fu->Bytes->Bytes} (h:QQ H an v f) (i:bW c H H'):QQ H' an v f:=let #[d,e,q]:=h;#[d,e,q.Y i]
def Qn (c:Cl) (H:Hp) (v:V) (p:Prog) (t:Bytes) (xn fn:Bytes->Bytes) (an:Fu->Bytes->Bytes):= ∃a dx ld fd pl ps,v= .ref a/\H a=some (.ins c.GV dx [("title",.str (aR t)),("lets",.ref ld),("functions",.ref fd),("parameters",.ref pl)])/\C1 H ld xn (letNames p)/\C1 H fd fn (fM p)/\FL H pl ps/\A2 (QQ H an) ps p.funs
def Eb (f:Bytes->Bytes) (n:Bytes):Key×V:=(nk n,.str (aR (f n)))
theorem wS (f:Bytes->Bytes):∀(l:List Bytes) (acc:List (Key×V)) (n:Bytes),cq (m9 acc (l.map (Eb f))) (nk n)=if n∈l then some (.str (aR (f n))) else cq acc (nk n)
 | [],acc,n=>by rw [ae dv];rfl
 | m :: l,acc,n=>by
  show cq (m9 (putK acc (nk m) (.str (aR (f m)))) (l.map (Eb f))) (nk n)=_;rw [wS f l,t_];by_cases h1:n∈l
  . rw [ah h1,ah (aW _ h1)]
  . rw [ae h1];by_cases h2:n=m
    . subst h2;rw [ah rfl,ah bi]
    . rw [ae (λz=>h2 (Cw z)),ae (λz=>(aF.mp z).elim h2 h1)]
def Oz (f:Bytes->Bytes) (H:Hp) (v:V) (n:Bytes):= ∃a,v= .ref a/\H a=some (.tup [.str (aR n),.str (aR (f n))])
theorem zX {f:Bytes->Bytes}:∀{ys:List V} {l:List Bytes},A2 (Oz f H) ys l->∃ps:List Addr,ys=ps.map V.ref/\Paired (λp kv=>g9 K H p [kV kv.1,kv.2]) ps (l.map (Eb f))
 | [],[],_=>#[[],rfl,.nil]
 | y :: ys,n :: l,h=>by
  ext h ⟨a,rfl,ha⟩ h;obtain ⟨ps,e,hp⟩:=zX h;exists a :: ps,by rw [e];rfl,.cons (.inl (.inl ha)) hp
 | [],_ :: _,h=>h.elim
 | _ :: _,[],h=>h.elim
theorem Oz.Y {f:Bytes->Bytes} {n:Bytes} (h:Oz f H v n) (i:bW c H H'):Oz f H' v n:=let #[a,e,q]:=h;#[a,e,i _ _ q rfl]
def Qo (ch:UInt8) (l:List Bytes) (n:Bytes):byNumber ch l n=ch :: showNat (ix l n):=rfl
inductive u_: #v[0] | mk {K c vs H Q E:_} v p:vs= [v]->EJ K c H v p->p.stms.length<=32->(∀a H',H a=none->aq H H'->FL H' a (mY (letNames p))->Q (.ref a) H')->u_ K c vs H Q E
theorem nM:AA.h0 2 "let_names" ["program"] u_:=by
 nomatch ["program","let"]
 ext h v p rfl hP TU q;nomatch 1,1,iA (bD (dw (zF AA) (pU (pv 0)))) [("let",1)] (λ_ _ _ _ _=>(bL 1)) (λ_ _ _ _ _=>(fz (K:=K) rfl (pv 1) rfl))
 have jm:=aV;exists v,p,U,hP,TU,λla ws H1 s1 fl hA=>?_;have hA:A2 (EI K c H1) ws (p.stms.filter isLet):=hA;have hll:=zW isLet p.stms;have hal:=hA.len;exists la,U,#[ws,fl.sq],λD hD=>?_;refine jR (K:=K) (a:=la) (xs:=ws) (mY (letNames p)) (by rw [h_,dm,aB,hal]) hD fl.sq (by lia) (λi x y H2 R hx hy s2 k=>?_) λH2 s2 h2=>?_
 . obtain ⟨st,fZ,hxs⟩:=hA.get hx;obtain ⟨m,hm,rfl⟩:=kY hy;rw [dm,bA,fZ] at hm;have hm:Ld st=m:=bE hm;subst hm;have hil:isLet st=true:=(ip.mp (bc fZ)).2;cases st with
   | observe e=>cases hil
   | lets nn o e=>
    obtain ⟨a,da,wv,ev,rfl,ha,_⟩:=hxs.Y C s2.Y;exists U,fr ha U (k H2 (aq.refl _))
 . exists D,_,U,h2,au,λo=>?_;have EK:=same_none s1 hD;exact q D _ EK ((s1.trans s2).bM EK) #[o,aa]
inductive kZ: #v[0] | mk {K c vs H Q E:_} v p:vs= [v]->EJ K c H v p->p.funs.length<=8->(∀a H',H a=none->aq H H'->FL H' a (mY (fM p))->Q (.ref a) H')->kZ K c vs H Q E
theorem gR:AA.h0 1 "function_names" ["program"] kZ:=by
 nomatch ["program","function"]
 ext h v p rfl hP h8 q;nomatch 1,1,iA (bD (b_ (pv 0))) [("function",1)] (λ_ _ _ _ _=>(bL 1)) (λ_ _ _ _ _=>(fz (K:=K) rfl (pv 1) rfl))
 have jm:=aV;obtain ⟨a,dx,fl,sl,tl,fs,ss,ts,rfl,ha,f1,A1,f2,As,f3,A3⟩:=id hP;have l1:=A1.len;refine fr ha U #[fl,U,#[fs,f1.sq],λD hD=>?_];refine jR (K:=K) (a:=fl) (xs:=fs) (mY (fM p)) (by rw [h_,aB,l1]) hD f1.sq (by lia) (λi x y H2 R hx hy s2 k=>?_) λH2 s2 h2=>?_
 . obtain ⟨f',hf,hxs⟩:=A1.get hx;obtain ⟨m,hm,rfl⟩:=kY hy;rw [bA,hf] at hm;cases hm;obtain ⟨a',Al,pl,kv,bv,ps,rfl,ha',_⟩:=hxs.Y C s2.Y;exists U,fr ha' U (k H2 (aq.refl _))
 . exists D,_,U,h2,au,λo=>?_;exact q D _ hD (s2.bM hD) #[o,aa]
inductive j7: #v[0] | mk {K c vs H Q E:_} v f:vs= [v]->FJ K c H v f->f.params.length<=4->(∀a H',H a=none->aq H H'->FL H' a (mY (Ai f))->Q (.ref a) H')->j7 K c vs H Q E
theorem j8:AA.h0 1 "parameter_names" ["function"] j7:=by
 nomatch ["function","parameter"]
 ext h v f' rfl hF h4 q;nomatch 1,1,iA (bD (b_ (pv 0))) [("parameter",1)] (λ_ _ _ _ _=>(bL 1)) (λ_ _ _ _ _=>(fz (K:=K) rfl (pv 1) rfl))
 have jm:=aV;obtain ⟨a,dx,pl,kv,bv,ps,rfl,ha,f1,A1,_⟩:=id hF;have l1:=A1.len;refine fr ha U #[pl,U,#[ps,f1.sq],λD hD=>?_];refine jR (K:=K) (a:=pl) (xs:=ps) (mY (Ai f')) (by rw [h_,aB,l1]) hD f1.sq (by lia) (λi x y H2 R hx hy s2 k=>?_) λH2 s2 h2=>?_
 . obtain ⟨d,hd,hxs⟩:=A1.get hx;obtain ⟨m,hm,rfl⟩:=kY hy;rw [bA,hd] at hm;cases hm;obtain ⟨a',Al,YT,rfl,ha',_⟩:=hxs.Y C s2.Y;exists U,fr ha' U (k H2 (aq.refl _))
 . exists D,_,U,h2,au,λo=>?_;exact q D _ hD (s2.bM hD) #[o,aa]
inductive Hn: #v[0] | mk {K c vs H Q E:_} na cV:vs= [.ref na]->FL H na (mY cV)->cV.length<=4097->(∀d H',H d=none->aq H H'->C1 H' d id cV->Q (.ref d) H')->Hn K c vs H Q E
theorem CL:AA.h0 1 "kept" ["names"] Hn:=by
 nomatch ["names","name"]
 ext h na cV rfl hn hl q;nomatch 1,1,cr (yP rfl) ?_,iA (bD (pv 0)) [("name",1)] (λ_ _ _ _ _=>(bL 1)) (λ_ _ _ _ _=>(E2 (aH (pv 1) (pU (pv 1)))))
 have jm:=aV;exists na,U,#[_,hn.sq],λD hD=>?_;refine sW (c:=c) (K:=K) (a:=na) (xs:=mY cV) (λi y H'=> ∃m,cV[i]? = some m/\Oz id H' y m) (λi y _ _ im #[m,e,z]=>#[m,e,z.Y im]) hD hn.sq (by rw [h_];lia) (λi x H1 R hx s1 k=>?_) λH1 ys s1 hy hl1 hr=>?_
 . obtain ⟨m,hm,rfl⟩:=kY hx;exists U,kg,λT hT=>k _ _ (aq.upd hT) #[m,hm,T,U,aa]
 . obtain ⟨ps,rfl,hp⟩:=zX (K:=K) (A2.of_get (R:=Oz id H1) (by rw [hl1,h_]) hr);exists D,ps,cV.map (Eb id),U,cw.of hy,hp,λd hd=>?_;exists d,_,U,aa,au,λo=>?_;have hd0:=same_none s1 hd;refine q d _ hd0 ((s1.bM hd0).bM hd0) #[_,#[o,aa],λm hm=>?_];rw [wS,ah hm]
inductive xI: #v[0] | mk {K c vs H Q E:_} ch na cV:vs= [.str (aR [ch]),.ref na]->FL H na (mY cV)->cV.length<=4097->cV.Nodup->(∀d H',H d=none->aq H H'->C1 H' d (byNumber ch cV) cV->Q (.ref d) H')->xI K c vs H Q E
theorem ql:AA.h0 1 "numbered" ["letter","names"] xI:=by
 nomatch ["letter","names","number","name"]
 ext h ch na cV rfl hn hl hnd q;nomatch 1,1,cr (yP rfl) ?_,iA (MH (pU (pv 1))) [("number",2),("name",3)] (λ_ _ _ _ _=>(GY (K:=K) (n:=2) rfl rfl (fV (bL 2) (fV (bL 3) tW)))) (λ_ _ _ _ _=>(E2 (aH (pv 3) (pU (yB aY (pv 0) (cr cP (pU (pv 2))))))))
 have jm:=aV;exists na,_,U,hn.sq,λD hD=>?_;refine Hm (c:=c) cV.length (λi y H'=> ∃m,cV[i]? = some m/\Oz (byNumber ch cV) H' y m) (λi y _ _ im #[m,e,z]=>#[m,e,z.Y im]) hD (by lia) (λi H1 hi s1=>?_) (λH1 s1=>?_) (λi x H1 H2 R hi s1 yl k=>?_) λH1 ys s1 hy hl1 hr=>?_
 . exists mY cV,_,(hn.app s1).sq,CI (bB hi)
 . exists mY cV,(hn.app s1).sq,by rw [h_];exact az _
 . ext yl T x' rfl hT rfl hx;have hx:=hx _ (hn.app s1).sq;obtain ⟨m,hm,rfl⟩:=kY hx;have sT:=aq.upd (o:= .tup [.int (i:Nat),.str (aR m)]) hT;have hxi:=D_ hnd hm;exists T,[_,_],U,.inl (.inl aa),U,_,_,U,_,_,U,U,?_;exists U,_,U,log2_small (by lia),?_;exists _,_,U,U,?_,kg,λT2 hT2=>k _ _ (sT.trans (aq.upd hT2)) #[m,hm,T2,U,?_]
   . rw [str_int,aK,aK];have:(VaprbBase.showInt (i:Int)).length<=11:=cI #[by lia,by lia];rw [aC];lia
   . rw [aa,str_int,<-iQ,Qo,hxi,qi];rfl
 . obtain ⟨ps,rfl,hp⟩:=zX (K:=K) (A2.of_get (R:=Oz (byNumber ch cV) H1) hl1 hr);exists D,ps,cV.map (Eb (byNumber ch cV)),U,cw.of hy,hp,λd hd=>?_;exists d,_,U,aa,au,λo=>?_;have hd0:=same_none s1 hd;refine q d _ hd0 ((s1.bM hd0).bM hd0) #[_,#[o,aa],λm hm=>?_];rw [wS,ah hm]
inductive va: #v[0] | mk {K c vs H Q E:_} v p:vs= [v]->EJ K c H v p->GP p->(∀a H',aq H H'->Qn c H' (.ref a) p p.title.name id id (λ_=>id)->Q (.ref a) H')->va K c vs H Q E
theorem CM:AA.h0 3 "own_names" ["program"] va:=by
 nomatch ["program","lets","functions","parameters","function"]
 ext h v p rfl hP hG q;nomatch 2,1,CL,nM,2,CL,gR,oW 3 (bD (b_ (pv 0))) [("function",4)] (λ_ _ _ _ _=>(bL 4)) (λ_ _ _ _ _=>(dw (CL AA) (pU (dw (j8 AA) (pU (pv 4)))))),gI (j2 AA) (aH ?_ (aH ?_ (aH ?_ (pU (di ?_)))))
 have jm:=aV;have hsl:=hG.sl;have hfl:=hG.fl;have nR:=gQ p;have hfn:(fM p).length=p.funs.length:=aB _;exists v,p,U,hP,hsl,λa1 H1 n1 s1 f1=>#[a1,_,U,f1,by lia,λd2 H2 n2 s2 f2=>?_];have t2:=s1.trans s2;exists v,p,U,hP.Y C t2.Y,hfl,λa3 H3 n3 s3 f3=>#[a3,_,U,f3,by lia,λd4 H4 n4 s4 f4=>?_];have t4:=t2.trans (s3.trans s4);obtain ⟨a,dx,fl,sl,tl,fs,ss,ts,rfl,ha,g1,A1,g2,As,g3,A3⟩:=hP.Y C t4.Y;have l1:=A1.len;refine fr ha U #[fl,U,#[fs,g1.sq],λD hD=>?_];refine sW (c:=c) (K:=K) (a:=fl) (xs:=fs) (λi y H'=> ∃f,p.funs[i]? = some f/\QQ H' (λ_=>id) y f) (λi y _ _ im #[m,e,z]=>#[m,e,z.Y im]) hD g1.sq (by lia) (λi x H5 R hx s5 k=>?_) λH5 ys s5 hy VS hr=>?_
 . obtain ⟨f',hf,hxs⟩:=A1.get hx;have h4:=(hG.fn f' (bc hf)).pl;have g6:(Ai f').length=f'.params.length:=aB _;exists U,x,f',U,hxs.Y C s5.Y,h4,λa6 H6 n6 s6 f6=>#[a6,_,U,f6,by lia,λd7 H7 n7 s7 f7=>k _ _ (s6.trans s7) #[f',hf,d7,U,f7]]
 . refine fr (s5 _ _ ha) U #[D,_,U,hy,au,λo=>?_];have EK:=same_none t4 hD;have dM:bW c H5 (upd H5 D (.g8 o (.lst ys))):=bW.upd hy rfl;refine G' λx H' nx sx #[dy,hx]=>?_;have Qp:=dM.trans (sx.Y (c:=c));refine q x H' (((t4.trans s5).bM EK).trans sx) #[x,dy,d2,d4,D,ys,rfl,hx,(f2.Y (c:=c) ((s3.trans s4).trans s5).Y).Y Qp,(f4.Y (c:=c) s5.Y).Y Qp,#[o,sx _ _ aa],?_];exact A2.of_get (by rw [VS,l1]) λi y e=>by
    obtain ⟨f',hf,z⟩:=hr i y e;exists f',hf,z.Y Qp
inductive j9: #v[0] | mk {K c vs H Q E:_} v p:vs= [v]->EJ K c H v p->GP p->(letNames p).Nodup->(fM p).Nodup->(∀f∈p.funs,(Ai f).Nodup)->(∀a H',aq H H'->Qn c H' (.ref a) p [80] (byNumber 120 (letNames p)) (byNumber 102 (fM p)) (λf=>byNumber 97 (Ai f))->Q (.ref a) H')->j9 K c vs H Q E
theorem tG:AA.h0 3 "names_by_number" ["program"] j9:=by
 nomatch ["program","lets","functions","parameters","function"]
 ext h v p rfl hP hG YV YW YX q;nomatch 2,1,ql,nM,2,ql,gR,oW 3 (bD (b_ (pv 0))) [("function",4)] (λ_ _ _ _ _=>(bL 4)) (λ_ _ _ _ _=>(dw (ql AA) (aH wj (pU (dw (j8 AA) (pU (pv 4))))))),gI (j2 AA) (aH ?_ (aH ?_ (aH ?_ (pU (di ?_))))),iB T.rS
 have jm:=aV;have hsl:=hG.sl;have hfl:=hG.fl;have nR:=gQ p;have hfn:(fM p).length=p.funs.length:=aB _;exists v,p,U,hP,hsl,λa1 H1 n1 s1 f1=>#[120,a1,_,U,f1,by lia,YV,λd2 H2 n2 s2 f2=>?_];have t2:=s1.trans s2;exists v,p,U,hP.Y C t2.Y,hfl,λa3 H3 n3 s3 f3=>#[102,a3,_,U,f3,by lia,YW,λd4 H4 n4 s4 f4=>?_];have t4:=t2.trans (s3.trans s4);obtain ⟨a,dx,fl,sl,tl,fs,ss,ts,rfl,ha,g1,A1,g2,As,g3,A3⟩:=hP.Y C t4.Y;have l1:=A1.len;refine fr ha U #[fl,U,#[fs,g1.sq],λD hD=>?_];refine sW (c:=c) (K:=K) (a:=fl) (xs:=fs) (λi y H'=> ∃f,p.funs[i]? = some f/\QQ H' (λf=>byNumber 97 (Ai f)) y f) (λi y _ _ im #[m,e,z]=>#[m,e,z.Y im]) hD g1.sq (by lia) (λi x H5 R hx s5 k=>?_) λH5 ys s5 hy VS hr=>?_
 . obtain ⟨f',hf,hxs⟩:=A1.get hx;have h4:=(hG.fn f' (bc hf)).pl;have g6:(Ai f').length=f'.params.length:=aB _;exists U,x,f',U,hxs.Y C s5.Y,h4,λa6 H6 n6 s6 f6=>#[97,a6,_,U,f6,by lia,YX f' (bc hf),λd7 H7 n7 s7 f7=>k _ _ (s6.trans s7) #[f',hf,d7,U,f7]]
 . exists D,_,U,hy,au,λo=>?_;have EK:=same_none t4 hD;have dM:bW c H5 (upd H5 D (.g8 o (.lst ys))):=bW.upd hy rfl;refine G' λx H' nx sx #[dy,hx]=>?_;have Qp:=dM.trans (sx.Y (c:=c));refine q x H' (((t4.trans s5).bM EK).trans sx) #[x,dy,d2,d4,D,ys,rfl,hx,(f2.Y (c:=c) ((s3.trans s4).trans s5).Y).Y Qp,(f4.Y (c:=c) s5.Y).Y Qp,#[o,sx _ _ aa],?_];exact A2.of_get (by rw [VS,l1]) λi y e=>by
    obtain ⟨f',hf,z⟩:=hr i y e;exists f',hf,z.Y Qp
def Ec {x:Ex} {s:Nat} (hs:s≠0) (h:gd x s):x= .nil\/(∃a r,x= .arg a r)\/(∃a w r,x= .way a w r):=by
 cases x with
 | nil=>exact .inl rfl
 | arg a r=>exact .inr (.inl #[a,r,rfl])
 | way a w r=>exact .inr (.inr #[a,w,r,rfl])
 | lit _ v=>cases v with
  | num n=>exact absurd h.1 hs
  | flag b=>exact absurd h hs
 | _=>exact absurd h.1 hs
def vb (xn fn:Bytes->Bytes):=(∀n,tS n->tS (xn n))/\∀n,tS n->tS (fn n)
theorem fh (hl:vb xn fn):∀{e:Ex} {s:Nat},gd e s->gd (renamed xn fn e) s
 | .nil,_,h=>h
 | .arg a r,_,h=>#[h.1,fh hl h.2.1,fh hl h.2.2]
 | .way a w r,_,h=>#[h.1,fh hl h.2.1,h.2.2.1,fh hl h.2.2.2]
 | .lit _ (.num _),_,h=>h
 | .lit _ (.flag _),_,h=>h
 | .name _ n,_,h=>#[h.1,hl.1 n h.2]
 | .un _ _ a,_,h=>#[h.1,fh hl h.2]
 | .bin _ _ a b,_,h=>#[h.1,fh hl h.2.1,fh hl h.2.2]
 | .flip _ _,_,h=>h
 | .uniform _ _ _,_,h=>h
 | .cond _ d a b,_,h=>#[h.1,fh hl h.2.1,fh hl h.2.2.1,fh hl h.2.2.2]
 | .given _ d a,_,h=>#[h.1,fh hl h.2.1,fh hl h.2.2]
 | .weigh _ w a,_,h=>#[h.1,h.2.1,fh hl h.2.2]
 | .call _ f x,_,h=>#[h.1,hl.2 f h.2.1,fh hl h.2.2]
 | .pick _ x,_,h=>#[h.1,fh hl h.2.1,λz=>h.2.2 (by cases x <;> first | rfl | cases z)]
theorem fj:∀e:Ex,sz (renamed xn fn e)=sz e
 | .nil=>rfl
 | .lit _ _=>rfl
 | .name _ _=>rfl
 | .flip _ _=>rfl
 | .uniform _ _ _=>rfl
 | .arg a r=>by show sz (renamed xn fn a)+sz (renamed xn fn r)=sz a+sz r;rw [fj a,fj r]
 | .way a w r=>by show sz (renamed xn fn a)+sz (renamed xn fn r)=sz a+sz r;rw [fj a,fj r]
 | .un _ _ a=>bq (· +1) (fj a)
 | .weigh _ _ a=>bq (· +1) (fj a)
 | .call _ _ a=>bq (· +1) (fj a)
 | .pick _ a=>bq (· +1) (fj a)
 | .bin _ _ a r=>by show sz (renamed xn fn a)+sz (renamed xn fn r)+1=sz a+sz r+1;rw [fj a,fj r]
 | .given _ a r=>by show sz (renamed xn fn a)+sz (renamed xn fn r)+1=sz a+sz r+1;rw [fj a,fj r]
 | .cond _ d a r=>by show sz (renamed xn fn d)+sz (renamed xn fn a)+sz (renamed xn fn r)+1=sz d+sz a+sz r+1;rw [fj a,fj r,fj d]
theorem jn {f:Frac} (h:KG f):(showFrac f).length<=22:=by
 have h1:=cI h.1;have h2:(showNat f.den).length<=10:=iR (k:=10) (by have:=h.2.2;lia) ∅;unfold showFrac;split
 . lia
 . rw [ao,ao,aC];lia
def F6 (o:Vaprbb.Un):(unName o).length<=3:=by cases o <;> decide
def Ed (o:Vaprbb.Bin):(binName o).length<=3:=by cases o <;> decide
def qm {a r:Ex} (h:r≠ .nil):showExpr (.arg a r)=showExpr a++word ", " ++showExpr r:=by cases r <;> first | rfl | exact absurd rfl h
def qo {a r:Ex} {w:Frac} (h:r≠ .nil):showExpr (.way a w r)=showExpr a++word " : " ++showFrac w++word ", " ++showExpr r:=by cases r <;> first | rfl | exact absurd rfl h
theorem cU:∀{e:Ex} {s:Nat},gd e s->(showExpr e).length+(if s=0 then 30 else 0)<=64 * sz e
 | .nil,s,h=>by
  rw [ae (by rcases h with h | h <;> lia)];exact az _
 | .arg a r,s,h=>by
  have h1:=cU h.2.1;have h2:=cU h.2.2;rw [ah rfl] at h1;rw [ae ∅] at h2;have hs0:s=1:=h.1;rw [ae (by lia)];by_cases hr:r= .nil
  . subst hr;show (showExpr a).length+0<=64 * (sz a+0);lia
  . rw [qm hr];show (showExpr a++word ", " ++showExpr r).length+0<=64 * (sz a+sz r);rw [ao,ao];have:(word ", ").length=2:=∅
    lia
 | .way a w r,s,h=>by
  have h1:=cU h.2.1;have h2:=cU h.2.2.2;have h3:=jn h.2.2.1;rw [ah rfl] at h1;rw [ae ∅] at h2;have hs0:s=2:=h.1;rw [ae (by lia)];have:(word ", ").length=2:=∅
  have:(word " : ").length=3:=∅
  by_cases hr:r= .nil
  . subst hr;show (showExpr a++word " : " ++showFrac w).length+0<=64 * (sz a+0);rw [ao,ao];lia
  . rw [qo hr];show (showExpr a++word " : " ++showFrac w++word ", " ++showExpr r).length+0<=64 * (sz a+sz r);rw [ao,ao,ao,ao];lia
 | .lit _ (.num n),s,h=>by
  have:=cI h.2;rw [ah h.1];show (showInt n).length+30<=64;lia
 | .lit _ (.flag b),s,h=>by
  rw [ah (show s=0 from h)];show (showVal (.flag b)).length+30<=64;cases b <;> decide
 | .name _ n,s,h=>by
  have:n.length<=16:=h.2;rw [ah h.1];show n.length+30<=64;lia
 | .un _ o a,s,h=>by
  have h1:=cU h.2;have h2:=F6 o;rw [ah rfl] at h1;rw [ah h.1];show (unName o++ [40]++showExpr a++ [41]).length+30<=64 * (sz a+1);simp only [ao,aC];lia
 | .bin _ o a b,s,h=>by
  have h1:=cU h.2.1;have h2:=cU h.2.2;have h3:=Ed o;rw [ah rfl] at h1 h2;rw [ah h.1];have:(word ", ").length=2:=∅
  show (binName o++ [40]++showExpr a++word ", " ++showExpr b++ [41]).length+30<=64 * (sz a+sz b+1);simp only [ao,aC];lia
 | .flip _ f,s,h=>by
  have h1:=jn h.2;rw [ah h.1];have:(word "flip(").length=5:=∅
  show (word "flip(" ++showFrac f++ [41]).length+30<=64 * 1;simp only [ao,aC];lia
 | .uniform _ lo hi,s,h=>by
  have hk: -1000<=lo/\lo<=hi/\hi<=1000/\hi<=lo+63:=h.2;have h1:=cI (i:=lo) #[by lia,by lia];have h2:=cI (i:=hi) #[by lia,by lia];rw [ah h.1];have:(word "uniform(").length=8:=∅
  have:(word ", ").length=2:=∅
  show (word "uniform(" ++showInt lo++word ", " ++showInt hi++ [41]).length+30<=64 * 1;simp only [ao,aC];lia
 | .cond _ d a b,s,h=>by
  have h1:=cU h.2.1;have h2:=cU h.2.2.1;have h3:=cU h.2.2.2;rw [ah rfl] at h1 h2 h3;rw [ah h.1];have:(word ", ").length=2:=∅
  have:(word "if(").length=3:=∅
  show (word "if(" ++showExpr d++word ", " ++showExpr a++word ", " ++showExpr b++ [41]).length+30<=64 * (sz d+sz a+sz b+1);simp only [ao,aC];lia
 | .given _ d a,s,h=>by
  have h1:=cU h.2.1;have h2:=cU h.2.2;rw [ah rfl] at h1 h2;rw [ah h.1];have:(word ", ").length=2:=∅
  have:(word "given(").length=6:=∅
  show (word "given(" ++showExpr d++word ", " ++showExpr a++ [41]).length+30<=64 * (sz d+sz a+1);simp only [ao,aC];lia
 | .weigh _ w a,s,h=>by
  have h1:=jn h.2.1;have h2:=cU h.2.2;rw [ah rfl] at h2;rw [ah h.1];have:(word ", ").length=2:=∅
  have:(word "weigh(").length=6:=∅
  show (word "weigh(" ++showFrac w++word ", " ++showExpr a++ [41]).length+30<=64 * (sz a+1);simp only [ao,aC];lia
 | .call _ f x,s,h=>by
  have h1:f.length<=16:=h.2.1;have h2:=cU h.2.2;rw [ae ∅] at h2;rw [ah h.1];show (f++ [40]++showExpr x++ [41]).length+30<=64 * (sz x+1);simp only [ao,aC];lia
 | .pick _ x,s,h=>by
  have h2:=cU h.2.1;rw [ae ∅] at h2;rw [ah h.1];have:(word "pick(").length=5:=∅
  show (word "pick(" ++showExpr x++ [41]).length+30<=64 * (sz x+1);simp only [ao,aC];lia
def NA (r:Ex->Bytes):Ex->List Bytes
 | .uniform _ lo hi=> [showInt lo,showInt hi]
 | .pick _ x=>((eM x).zip x.weights).map λy=>r y.1++word " : " ++showFrac y.2
 | e=>(DS e).map showFrac++(kids e).map r
def VU (fn:Bytes->Bytes):Ex->Bytes
 | .un _ o _=>unName o
 | .bin _ o _ _=>binName o
 | .flip _ _=>word "flip"
 | .uniform _ _ _=>word "uniform"
 | .cond _ _ _ _=>word "if"
 | .given _ _ _=>word "given"
 | .weigh _ _ _=>word "weigh"
 | .call _ f _=>fn f
 | .pick _ _=>word "pick"
 | _=> []
def brk:Ex->Bool
 | .un _ _ _=>true
 | .bin _ _ _ _=>true
 | .flip _ _=>true
 | .uniform _ _ _=>true
 | .cond _ _ _ _=>true
 | .given _ _ _=>true
 | .weigh _ _ _=>true
 | .call _ _ _=>true
 | .pick _ _=>true
 | _=>false
def NB {s:Nat} (hs:s≠0) {x:Ex} (h:gd x s) (e:eM x= []):x= .nil:=by
 rcases Ec hs h with rfl | ⟨a,r,rfl⟩ | ⟨a,w,r,rfl⟩
 . rfl
 . cases e
 . cases e
def yr {x:Ex}:renamed xn fn x= .nil->x= .nil:=by cases x <;> first | (intro _;rfl) | (intro z;cases z)
def xJ (sep x:Bytes) {l:List Bytes} (h:l≠ []):joined sep (x :: l)=x++sep++joined sep l:=by
 cases l with
 | nil=>exact absurd rfl h
 | cons y r=>rfl
section
variable (xn fn:Bytes->Bytes)
theorem args_text:∀{x:Ex},gd x 1->showExpr (renamed xn fn x)=joined (word ", ") ((eM x).map λe=>showExpr (renamed xn fn e))
 | .nil,_=>rfl
 | .arg a r,h=>by
  have ih:=args_text h.2.2;show showExpr (.arg (renamed xn fn a) (renamed xn fn r))=joined (word ", ") (showExpr (renamed xn fn a) :: (eM r).map λe=>showExpr (renamed xn fn e));by_cases hr:r= .nil
  . subst hr;rfl
  . rw [qm (λz=>hr (yr z)),ih,xJ];intro z;exact hr (NB ∅ h.2.2 (List.map_eq_nil_iff.mp z))
 | .way _ _ _,h=>absurd h.1 ∅
 | .lit _ (.num _),h=>absurd h.1 ∅
 | .lit _ (.flag _),h=>absurd (show _=0 from h) ∅
 | .name _ _,h=>absurd h.1 ∅
 | .un _ _ _,h=>absurd h.1 ∅
 | .bin _ _ _ _,h=>absurd h.1 ∅
 | .flip _ _,h=>absurd h.1 ∅
 | .uniform _ _ _,h=>absurd h.1 ∅
 | .cond _ _ _ _,h=>absurd h.1 ∅
 | .given _ _ _,h=>absurd h.1 ∅
 | .weigh _ _ _,h=>absurd h.1 ∅
 | .call _ _ _,h=>absurd h.1 ∅
 | .pick _ _,h=>absurd h.1 ∅
theorem BA:∀{x:Ex},gd x 2->showExpr (renamed xn fn x)=joined (word ", ") (((eM x).zip x.weights).map λy=>showExpr (renamed xn fn y.1)++word " : " ++showFrac y.2)
 | .nil,_=>rfl
 | .way a w r,h=>by
  have ih:=BA h.2.2.2;show showExpr (.way (renamed xn fn a) w (renamed xn fn r))=joined (word ", ") ((showExpr (renamed xn fn a)++word " : " ++showFrac w) :: ((eM r).zip r.weights).map λy=>showExpr (renamed xn fn y.1)++word " : " ++showFrac y.2);by_cases hr:r= .nil
  . subst hr;rfl
  . rw [qo (λz=>hr (yr z)),ih,xJ];intro z;have z:=List.map_eq_nil_iff.mp z;rcases Ec ∅ h.2.2.2 with rfl | ⟨a,r',rfl⟩ | ⟨a,w,r',rfl⟩
    . exact hr rfl
    . exact absurd h.2.2.2.1 ∅
    . cases z
 | .arg _ _,h=>absurd h.1 ∅
 | .lit _ (.num _),h=>absurd h.1 ∅
 | .lit _ (.flag _),h=>absurd (show _=0 from h) ∅
 | .name _ _,h=>absurd h.1 ∅
 | .un _ _ _,h=>absurd h.1 ∅
 | .bin _ _ _ _,h=>absurd h.1 ∅
 | .flip _ _,h=>absurd h.1 ∅
 | .uniform _ _ _,h=>absurd h.1 ∅
 | .cond _ _ _ _,h=>absurd h.1 ∅
 | .given _ _ _,h=>absurd h.1 ∅
 | .weigh _ _ _,h=>absurd h.1 ∅
 | .call _ _ _,h=>absurd h.1 ∅
 | .pick _ _,h=>absurd h.1 ∅
def Ee (g:gd e 0) (hb:brk e=true):showExpr (renamed xn fn e)=VU fn e++ [40]++joined (word ", ") (NA (λk=>showExpr (renamed xn fn k)) e)++ [41]:=by
 cases e with
 | un p o a=>rfl
 | bin p o a b=>
  show binName o++ [40]++showExpr (renamed xn fn a)++word ", " ++showExpr (renamed xn fn b)++ [41]=binName o++ [40]++(showExpr (renamed xn fn a)++word ", " ++showExpr (renamed xn fn b))++ [41];simp only [bz]
 | flip p f=>rfl
 | uniform p lo hi=>
  show word "uniform(" ++showInt lo++word ", " ++showInt hi++ [41]=word "uniform" ++ [40]++(showInt lo++word ", " ++showInt hi)++ [41];rw [show word "uniform(" = word "uniform" ++ [40] from rfl];simp only [bz]
 | cond p d a b=>
  show word "if(" ++showExpr (renamed xn fn d)++word ", " ++showExpr (renamed xn fn a)++word ", " ++showExpr (renamed xn fn b)++ [41]=word "if" ++ [40]++(showExpr (renamed xn fn d)++word ", " ++(showExpr (renamed xn fn a)++word ", " ++showExpr (renamed xn fn b)))++ [41];rw [show word "if(" = word "if" ++ [40] from rfl];simp only [bz]
 | given p d a=>
  show word "given(" ++showExpr (renamed xn fn d)++word ", " ++showExpr (renamed xn fn a)++ [41]=word "given" ++ [40]++(showExpr (renamed xn fn d)++word ", " ++showExpr (renamed xn fn a))++ [41];rw [show word "given(" = word "given" ++ [40] from rfl];simp only [bz]
 | weigh p w a=>
  show word "weigh(" ++showFrac w++word ", " ++showExpr (renamed xn fn a)++ [41]=word "weigh" ++ [40]++(showFrac w++word ", " ++showExpr (renamed xn fn a))++ [41];rw [show word "weigh(" = word "weigh" ++ [40] from rfl];simp only [bz]
 | call p f x=>
  show fn f++ [40]++showExpr (renamed xn fn x)++ [41]=fn f++ [40]++joined (word ", ") ((eM x).map λk=>showExpr (renamed xn fn k))++ [41];rw [args_text xn fn g.2.2]
 | pick p x=>
  show word "pick(" ++showExpr (renamed xn fn x)++ [41]=word "pick" ++ [40]++joined (word ", ") (((eM x).zip x.weights).map λy=>showExpr (renamed xn fn y.1)++word " : " ++showFrac y.2)++ [41];rw [BA xn fn g.2.1];rfl
 | _=>cases hb
end
theorem zY (sep:Bytes):∀l:List Bytes,(l.map (·.length)).sum+l.length * sep.length<=(joined sep l).length+sep.length
 | []=>by show 0+0 * sep.length<=_;lia
 | [x]=>by show x.length+0+1 * sep.length<=x.length+sep.length;lia
 | x :: y :: r=>by
  have:=zY sep (y :: r);show x.length+((y :: r).map (·.length)).sum+((y :: r).length+1) * sep.length<=(x++sep++joined sep (y :: r)).length+sep.length;rw [ao,ao,Nat.add_mul];lia
def qt (l:List Bytes):((l.map aR).map (·.length)).sum=(l.map (·.length)).sum:=by
 rw [c9];congr 1;exact qE λb _=>aK b
theorem zZ (hl:vb xn fn) (g:gd e 0) (hb:brk e=true) (hz:sz e<=4097):(VU fn e).length+(joined (word ", ") (NA (λk=>showExpr (renamed xn fn k)) e)).length+2+30<=262208:=by
 have h1:=cU (fh hl g);rw [ah rfl,fj,Ee xn fn g hb] at h1;simp only [ao,aC] at h1;lia
theorem j_ (hl:vb xn fn) (g:gd e 0) (hz:sz e<=4097):(showExpr (renamed xn fn e)).length+30<=262208:=by
 have h1:=cU (fh hl g);rw [ah rfl,fj] at h1;lia
def oG (N1 N2:List Bytes) (e:Ex):= ∀k∈subs e,(∀q n,k= .name q n->n∈N1)/\∀q f x,k= .call q f x->f∈N2
def oG.kid {k:Ex} (g:gd e 0) (h:oG N1 N2 e) (hk:k∈kids e):oG N1 N2 k:=λx hx=>h x (by
 rw [gy g];exact aW _ (List.mem_flatMap.mpr #[k,hk,hx]))
def oG.self (g:gd e 0) (h:oG N1 N2 e):(∀q n,e= .name q n->n∈N1)/\∀q f x,e= .call q f x->f∈N2:=h e (by rw [gy g];exact bi)
def Ho (g:gd e 0):∀f∈DS e,KG f:=by
 have ways:∀{x:Ex},gd x 2->∀f∈x.weights,KG f:=λ{x}=>by
  induction x with
  | way a w r _ ih=>
   intro h f hf;rcases aF.mp hf with rfl | hf
   . exact h.2.2.1
   . exact ih h.2.2.2 f hf
  | _=>intro _ f hf;cases hf
 cases e with
 | flip p f=>intro x hx;rw [dE.mp hx];exact g.2
 | weigh p f a=>intro x hx;rw [dE.mp hx];exact g.2.1
 | pick p x=>exact ways g.2.1
 | _=>intro x hx;cases hx
def xK {x:Ex}:gd x 2->x.weights.length=(eM x).length:=by
 induction x with
 | way a w r _ ih=>intro h;exact bq (· +1) (ih h.2.2.2)
 | arg a r=>intro h;exact absurd h.1 ∅
 | _=>intro _;rfl
def OA:vb id id:=#[λ_ h=>h,λ_ h=>h]
def OB (l:List Bytes) (n:Bytes):ix l n<=l.length:=by
 unfold ix;cases e:l.findIdx? (λx=>x == n) with
 | none=>exact aD _
 | some i=>
  rw [AB] at e;ext e h _;exact iw h
theorem CN {ch:UInt8} {l:List Bytes} (h:l.length<=4097) (n:Bytes):tS (byNumber ch l n):=by
 show (ch :: showNat (ix l n)).length<=16;have h1:(showNat (ix l n)).length<=5:=iR (k:=5) (by have:=OB l n;lia) ∅;rw [aT];lia
def qu (fn:Bytes->Bytes) (an:Fu->Bytes->Bytes) (f:Fu):Fu:={name:=#[0,fn f.name.name],params:=f.params.map (λd=>#[#[0,an f d.name.name],d.kind]),result:=f.result,body:=renamed (an f) fn f.body}
def wT (xn fn:Bytes->Bytes):Stm->Stm
 | .lets n k e=> .lets #[0,xn n.name] k (renamed xn fn e)
 | .observe e=> .observe (renamed xn fn e)
def tH (t:Bytes) (xn fn:Bytes->Bytes) (an:Fu->Bytes->Bytes) (p:Prog):Prog:=
 {title:=#[0,t],budget:=p.budget,funs:=p.funs.map (qu fn an),stms:=p.stms.map (wT xn fn),tells:=p.tells.map λt=>#[0,xn t.name]}
def BC (p:Prog):p.plain=tH [80] (byNumber 120 (Vaprbb.letNames p)) (byNumber 102 (p.funs.map λf=>f.name.name)) (λf=>byNumber 97 (f.params.map λd=>d.name.name)) p:=by
 unfold Vaprbb.Prog.plain tH qu;have h:∀l:List Stm,l.map (wT (byNumber 120 (Vaprbb.letNames p)) (byNumber 102 (p.funs.map λf=>f.name.name)))=l.map λs=>match s with
  | .lets n k e=> .lets #[0,byNumber 120 (Vaprbb.letNames p) n.name] k (renamed (byNumber 120 (Vaprbb.letNames p)) (byNumber 102 (p.funs.map λf=>f.name.name)) e)
  | .observe e=> .observe (renamed (byNumber 120 (Vaprbb.letNames p)) (byNumber 102 (p.funs.map λf=>f.name.name)) e):=λl=>qE λs _=>by cases s <;> rfl
 rw [h];rfl
theorem eJ:∀e:Ex,renamed id id e=e
 | .nil=>rfl
 | .lit _ _=>rfl
 | .name _ _=>rfl
 | .flip _ _=>rfl
 | .uniform _ _ _=>rfl
 | .arg a r=>by show Vaprbb.Expr.arg (renamed id id a) (renamed id id r)=_;rw [eJ a,eJ r]
 | .way a w r=>by show Vaprbb.Expr.way (renamed id id a) w (renamed id id r)=_;rw [eJ a,eJ r]
 | .un p o a=>by show Vaprbb.Expr.un p o (renamed id id a)=_;rw [eJ a]
 | .weigh p o a=>by show Vaprbb.Expr.weigh p o (renamed id id a)=_;rw [eJ a]
 | .call p o a=>by show Vaprbb.Expr.call p o (renamed id id a)=_;rw [eJ a]
 | .pick p a=>by show Vaprbb.Expr.pick p (renamed id id a)=_;rw [eJ a]
 | .bin p o a r=>by show Vaprbb.Expr.bin p o (renamed id id a) (renamed id id r)=_;rw [eJ a,eJ r]
 | .given p a r=>by show Vaprbb.Expr.given p (renamed id id a) (renamed id id r)=_;rw [eJ a,eJ r]
 | .cond p d a r=>by show Vaprbb.Expr.cond p (renamed id id d) (renamed id id a) (renamed id id r)=_;rw [eJ a,eJ r,eJ d]
def NC (p:Prog):(tH p.title.name id id (λ_=>id) p).shown=p.shown:=by
 have h1:p.funs.flatMap (λf=>showFun (qu id (λ_=>id) f))=p.funs.flatMap showFun:=by
  congr 1;funext f;unfold qu showFun;simp only [eJ,c9,id];rfl
 have h2:p.stms.flatMap (λs=>showStm (wT id id s))=p.stms.flatMap showStm:=by
  congr 1;funext s;cases s with
  | lets n k e=>
   show showStm (.lets #[0,n.name] k (renamed id id e))=_;rw [eJ];rfl
  | observe e=>
   show showStm (.observe (renamed id id e))=_;rw [eJ]
 unfold Vaprbb.Prog.shown tH;simp only [qQ,c9,h1,h2];rfl
def gS:sizeLine=16777216:=∅
def eN (l:List Bytes):List V:=l.map λb=>V.str (aR b)
def qw (l:List Bytes):eN l=(l.map aR).map V.str:=by unfold eN;rw [c9];rfl
def OC:(aR (word ", ")).length=2:=rfl
def cp (a b:Bytes):aR a++aR b=aR (a++b):=(iQ a b).symm
inductive vd: #v[0] | mk {K c vs H Q E:_} a k:vs= [.ref a]->g9 K H a (kT k)->li k->Q (.str (aR (showKind k))) H->vd K c vs H Q E
theorem nO:AA.h0 2 "kind_text" ["kind"] vd:=by
 nomatch ["kind"]
 ext h a k rfl hk hw q;nomatch 2,gF (JL (cY.units hr)) ?_ ?_,fG T.yX,0,aY,aY,aY,cr cP,eF,cr cP,dO
 have dF:Dp K H (.ref g.flag) (.tuple [.int 0]):= .tup (T.sR.sq _) (.cons (.int 0) .nil);have hb:=aV;cases k with
 | flag=>exists .tuple [.int 0],.tuple [.int 0],.tup hk (.cons (.int 0) .nil),dF,U,U,_,U,bC U q
 | num lo hi=>
  have hw: -1000<=lo/\lo<=hi/\hi<=1000/\hi<=lo+63:=hw;have h1:=cI (i:=lo) #[by omega,by omega];have h2:=cI (i:=hi) #[by omega,by omega];have s1:(Str.ofString "num ")=aR (word "num "):=rfl;have s2:(Str.ofString " ")=aR [32]:=rfl;have w1:(word "num ").length=4:=rfl;exists .tuple [.int 1,.int lo,.int hi],.tuple [.int 0],.tup hk (.cons (.int 1) (.cons (.int lo) (.cons (.int hi) .nil))),dF,U,U,_,U,aE U ?_;exists a,lo,hi,U,hk,_,U,log2_small (by omega),_,_,U,U,?_,_,_,U,U,?_,a,lo,hi,U,hk,_,U,log2_small (by omega),_,_,U,U,?_,?_
  . rw [str_int,s1,aK,aK];omega
  . rw [str_int,s1,s2,cp,aK,aK,ao,aC];omega
  . rw [str_int,str_int,s1,s2,cp,cp,aK,aK,ao,ao,aC];omega
  . rw [str_int,str_int,s1,s2,cp,cp,cp];exact q
inductive mS: #v[0] | mk {K c vs H Q E:_} v fr:vs= [v]->M4 H v fr->KG fr->Q (.str (aR (showFrac fr))) H->mS K c vs H Q E
theorem wU:AA.h0 1 "fraction_text" ["fraction"] mS:=by
 nomatch ["fraction"]
 ext h v fr rfl ⟨a,rfl,ha⟩ hw q;nomatch 2,bJ,gG,cr cP,gG,aY,aY,cr cP,gG,cr cP,gG
 have hs:g9 K H a [.int fr.num,.int (fr.den:Nat)]:= .inl (.inl ha);have h1:=cI hw.1;have h0:Ng fr.num:=hw.1;have h2:(showInt ((fr.den:Nat):Int)).length<=11:=cI #[by have:=hw.2.2;lia,by have:=hw.2.2;lia];have l1:fr.num.natAbs.log2 < 1920:=log2_small (by have:=h0.1;have:=h0.2;lia);have l2:((fr.den:Nat):Int).natAbs.log2 < 1920:=log2_small (by have:=hw.2.2;lia);unfold VaprbBase.showFrac at q;exists a,_,1,_,U,U,hs,U,U,_,U,bG (λe1=>?_) λe1=>?_
 . have e1:fr.den=1:=by
    have:((fr.den:Nat):Int)=1:= ~~~e1
    lia
   rw [ah e1] at q;exists a,_,0,_,U,U,hs,U,_,U,l1,?_;rw [str_int];exact q
 . have e1:¬fr.den=1:=λz=>by rw [z] at e1;simp at e1
   rw [ae e1,<-qi] at q;have hb:=aV;have sl:(Str.ofString "/")=aR [47]:=rfl;exists a,_,0,_,U,U,hs,U,_,U,l1,_,_,U,U,?_,a,_,1,_,U,U,hs,U,_,U,l2,_,_,U,U,?_,?_
   . rw [str_int,sl,aK,aK,aC];lia
   . rw [str_int,str_int,sl,cp,aK,aK,ao,aC];lia
   . rw [str_int,str_int,sl,cp,cp];exact q
theorem Ef (hg:gd e 0):(kids e).length < sz e:=by
 have h1:=cj e;rw [gy hg,aT,vK] at h1;have h2:(kids e).length<=((kids e).map λx=>(subs x).length).sum:=by
  have:∀l:List Ex,(∀x∈l,gd x 0)->l.length<=(l.map λx=>(subs x).length).sum:=λl=>by
   induction l with
   | nil=>intro _;exact aD _
   | cons x r ih=>
    intro hx;have h3:=ih λy hy=>hx y (aW _ hy);have h4:=Cu (hx x bi);rw [bF,lS,cj,aT];lia
  exact this _ λx hx=>(eC hg x hx).1
 lia
theorem Le (hg:gd e 0):(DS e).length<=sz e:=by
 cases e with
 | flip p f=>exact az _
 | weigh p f a=>show 1<=sz a+1;lia
 | pick p x=>
  have h1:=Ef hg;have h2:x.weights.length=(eM x).length:=xK hg.2.1;show x.weights.length<=_;have h3:(kids (.pick p x)).length=(eM x).length:=rfl;lia
 | _=>exact aD _
theorem Eg:∀{ys:List V} {l:List Bytes},ys.length=l.length->(∀(i:Nat) y,ys[i]? = some y->∃b,l[i]? = some b/\y= .str (aR b))->ys=eN l
 | [],[],_,_=>rfl
 | y :: ys,b :: l,hl,h=>by
  obtain ⟨b',e1,rfl⟩:=h 0 y rfl;cases e1;rw [Eg (ys:=ys) (l:=l) (~~~hl) λi y e=>by
   obtain ⟨b',e1,e2⟩:=h (i+1) y (~~~e);exact #[b',~~~e1,e2]]
  rfl
 | [],_ :: _,hl,_=>by cases hl
 | _ :: _,[],hl,_=>by cases hl
def dC (l:List Bytes):(eN l).length=l.length:=aB _
def ia {l:List Bytes} (h:(eN l)[i]? = some v):∃b,l[i]? = some b/\v= .str (aR b):=by
 unfold eN at h;rw [bA] at h;cases e:l[i]? with
 | none=>rw [e] at h;cases h
 | some n=>rw [e] at h;cases h;exists n,U,U
def Qq (hb:brk e=true):decide (V.str (eG e)=V.str "number")=false/\decide (V.str (eG e)=V.str "truth")=false/\decide (V.str (eG e)=V.str "name")=false:=by
 cases e <;> first | exists U,U,U | cases hb
def Lf (fn:Bytes->Bytes) (hb:brk e=true):(∃q f x,e= .call q f x)\/(decide (V.str (eG e)=V.str "call")=false/\pJ e=aR (VU fn e)):=by
 cases e with
 | call q f x=>exact .inl #[q,f,x,rfl]
 | _=>first | exact .inr #[rfl,rfl] | cases hb
def Lg (r:Ex->Bytes) (h1:decide (V.str (eG e)=V.str "uniform")=false) (h2:decide (V.str (eG e)=V.str "pick")=false):NA r e=(DS e).map showFrac++(kids e).map r:=by
 cases e with
 | uniform p lo hi=>exact absurd h1 (by simp [show eG (.uniform p lo hi)= "uniform" from rfl])
 | pick p x=>exact absurd h2 (by simp [show eG (.pick p x)= "pick" from rfl])
 | _=>rfl
inductive j' (n:Nat): #v[0] | mk {K c vs H Q E:_} v e d1 d2 xn fn N1 N2:vs= [v,.ref d1,.ref d2]->gd e 0->dep e<=n->sz e<=4097->iH K c H v e->C1 H d1 xn N1->C1 H d2 fn N2->oG N1 N2 e->vb xn fn->(∀H',aq H H'->Q (.str (aR (showExpr (renamed xn fn e)))) H')->j' n K c vs H Q E
abbrev eO (n:Nat):=AA.h0 (2 * n+1) "expression_text" ["expression","values","functions"] (j' n)
inductive iS (n:Nat): #v[0] | mk {K c vs H Q E:_} v e d1 d2 xn fn N1 N2:vs= [v,.ref d1,.ref d2]->gd e 0->dep e<=n+1->sz e<=4097->iH K c H v e->C1 H d1 xn N1->C1 H d2 fn N2->oG N1 N2 e->vb xn fn->(∀p H',aq H H'->H' p=some (.lst (eN (NA (λk=>showExpr (renamed xn fn k)) e)))->Q (.ref p) H')->iS n K c vs H Q E
abbrev jf (n:Nat):=AA.h0 (2*n+1+1) "texts_in_brackets" ["expression","values","functions"] (iS n)
theorem qx (n:Nat) (ve:eO AA n):jf AA n:=by
 nomatch ["expression","values","functions","parts","fractions","part","fraction","weight"]
 ext h v e d1 d2 xn fn N1 N2 rfl hg hd hz hv mZ hn2 bQ nR q;nomatch 2,oW 3 (bD (b_ (pv 0))) [("part",5)] (λ_ _ _ _ _=>(bL 5)) (λ_ _ _ _ _=>(dw ve (aH (pv 5) (aH (pv 1) (pU (pv 2)))))),oW 4 (bD (b_ (pv 0))) [("fraction",6)] (λ_ _ _ _ _=>(bL 6)) (λ_ _ _ _ _=>(dw (wU AA) (pU (pv 6)))),bJ,cr cP,eF,cr cP,dO,bJ,iA (B6 (aH (pv 3) (pU (pv 4)))) [("part",5),("weight",7)] (λ_ _ _ _ _=>(GY (K:=K) (n:=2) rfl rfl (fV (bL 5) (fV (bL 7) tW)))) (λ_ _ _ _ _=>(yB aY (yB aY (pv 5) wj) (pv 7))),yj
 have jm:=aV;obtain ⟨a,pl,ps,rfl,⟨dx,fl,bv,fs,hN,hB,ff,hF⟩,fp,hA⟩:=hv.view hg;have hl:=hA.len;have YY:=hF.len;have hk1:=Ef hg;have hk2:=Le hg;refine fr hN U #[pl,U,#[ps,fp.sq],λD hD=>?_];refine jR (K:=K) (a:=pl) (xs:=ps) (eN ((kids e).map λk=>showExpr (renamed xn fn k))) (by rw [dC,aB,hl]) hD fp.sq (by lia) (λi x y H2 R hx hy s2 k=>?_) λH2 s2 h2=>?_
 . obtain ⟨ee,he,I_⟩:=hA.get hx;obtain ⟨b,hb,rfl⟩:=ia hy;rw [bA,he] at hb;cases hb;have hm:=bc he;obtain ⟨g1,g2,g3⟩:=eC hg ee hm;exists U,x,ee,d1,d2,xn,fn,N1,N2,U,g1,by lia,by lia,I_.Y C s2.Y,mZ.Y (c:=c) s2.Y,hn2.Y (c:=c) s2.Y,bQ.kid hg hm,nR,k
 have hN2:=s2 _ _ hN;have W1:=ff.app s2;refine fr hN2 U #[fl,U,#[fs,W1.sq],λD2 eP=>?_];refine jR (K:=K) (a:=fl) (xs:=fs) (eN ((DS e).map showFrac)) (by rw [dC,aB,YY]) eP W1.sq (by lia) (λi x y H3 R hx hy s3 k=>?_) λH3 s3 h3=>?_
 . obtain ⟨fr,hf,af,rfl,haf⟩:=hF.get hx;obtain ⟨b,hb,rfl⟩:=ia hy;rw [bA,hf] at hb;cases hb;exists U,.ref af,fr,U,#[af,U,(s2.trans s3) _ _ haf],Ho hg fr (bc hf),k H3 (aq.refl _)
 have hN3:=s3 _ _ hN2;have SU:=s3 _ _ h2;have ss:=s2.trans s3;refine fr hN3 U #[U,_,U,bG (λe1=>?_) λe1=>?_]
 . cases e with
   | uniform p lo hi=>
    ext hB b rfl hb;have hb:=g9.Y (c:=c) hb ss.Y;have hk: -1000<=lo/\lo<=hi/\hi<=1000/\hi<=lo+63:=hg.2;refine fr hN3 U #[b,lo,hi,U,hb,_,U,log2_small (by lia),fr hN3 U #[b,lo,hi,U,hb,_,U,log2_small (by lia),kg,λD3 mX=>?_]];refine q D3 _ (ss.trans (aq.upd mX)) ?_;rw [aa,str_int,str_int];rfl
   | lit _ v=>cases v <;> exact Bool.noConfusion (show false=true from e1)
   | _=>exact Bool.noConfusion (show false=true from e1)
 . refine fr hN3 U #[U,_,U,bG (λe2=>?_) λe2=>?_]
   . cases e with
     | pick p x=>
      have hwl:x.weights.length=(eM x).length:=xK hg.2.1;have hkl:(kids (.pick p x)).length=(eM x).length:=rfl;have QF:((eM x).zip x.weights).length=(eM x).length:=by rw [qU];lia
      exists D,D2,_,_,U,cw.of SU,cw.of h3,λD3 mX=>?_;refine Hm (c:=c) (eM x).length (λi y H'=> ∃b,(NA (λk=>showExpr (renamed xn fn k)) (.pick p x))[i]? = some b/\y= .str (aR b)) (λi y _ _ _ z=>z) mX (by lia) (λi H4 hi s4=>?_) (λH4 s4=>?_) (λi x' H4 H5 R hi s4 yl k=>?_) λH4 ys s4 hy YZ hr=>?_
      . exists _,_,_,_,cw.of (s4 _ _ SU),cw.of (s4 _ _ h3),bB (by rw [dC,aB];exact hi),bB (by rw [dC,aB];show i < x.weights.length;lia)
      . exists _,_,cw.of (s4 _ _ SU),cw.of (s4 _ _ h3),.inl (by rw [dC,aB];exact az _)
      . ext yl T x1 y1 rfl hT rfl g1 g2;have g1:=g1 _ (cw.of (s4 _ _ SU));have g2:=g2 _ (cw.of (s4 _ _ h3));obtain ⟨b1,hb1,rfl⟩:=ia g1;obtain ⟨b2,hb2,rfl⟩:=ia g2;rw [bA] at hb1 hb2;have hi1:i < (eM x).length:=hi;have hi2:i < x.weights.length:=by lia
        have hb1:(((eM x)[i]?).map λk=>showExpr (renamed xn fn k))=some b1:=hb1;have hb2:((x.weights[i]?).map showFrac)=some b2:=hb2;rw [bB hi1] at hb1;rw [bB hi2] at hb2;cases hb1;cases hb2;have hkm:(eM x)[i]∈kids (.pick p x):=qO hi1;obtain ⟨k1,k2,k3⟩:=eC hg _ hkm;have e3:((λk=>showExpr (renamed xn fn k)) (eM x)[i]).length+30<=262208:=j_ nR k1 (by lia);have e4:=jn (Ho hg x.weights[i] (qO hi2));have sc:(Str.ofString " : ")=aR (word " : "):=rfl;have wc:(word " : ").length=3:=rfl;exists T,[_,_],U,.inl (.inl aa),U,_,_,U,_,_,U,U,?_;exists U,_,_,U,U,?_,_,_,U,U,?_,k _ _ (aq.upd hT) #[showExpr (renamed xn fn (eM x)[i])++word " : " ++showFrac x.weights[i],?_,?_]
        . rw [sc,aK,aK];lia
        . rw [sc,cp,aK,aK,ao];lia
        . show (((eM x).zip x.weights).map λy=>showExpr (renamed xn fn y.1)++word " : " ++showFrac y.2)[i]? = _;rw [bA,zip_get (bB hi1) (bB hi2)];rfl
        . rw [sc,cp,cp]
      . refine q D3 _ (ss.trans s4) ?_;rw [hy,Eg (l:=NA (λk=>showExpr (renamed xn fn k)) (.pick p x)) (by rw [YZ];show _=(List.map _ _).length;rw [aB,QF]) hr]
     | lit _ v=>cases v <;> exact Bool.noConfusion (show false=true from e2)
     | _=>exact Bool.noConfusion (show false=true from e2)
   . exists D2,D,_,_,U,U,h3,.inl SU,by rw [dC,dC,aB,aB];lia,λD3 mX=>?_;refine q D3 _ (ss.trans (aq.upd mX)) ?_;rw [aa,Lg _ e1 e2];unfold eN;rw [dX]
theorem tI (m:Nat) (rN:jf AA n) (hm:m=n+1):eO AA m:=by
 nomatch ["expression","values","functions","word"]
 subst hm;ext h v e d1 d2 xn fn N1 N2 rfl hg hd hz hv mZ hn2 bQ nR q;nomatch 2,bJ,cr cP,bJ,0,bJ,ic (pv 1) (b_ (pv 0)),3,bJ,ic (pv 2) (b_ (pv 0)),aY,aY,aY,uc ?_ ?_,dw rN ?_
 have jm:=gS;obtain ⟨a,pl,ps,rfl,⟨dx,fl,bv,fs,hN,hB,ff,hF⟩,fp,hA⟩:=id (hv.view hg);have hself:=bQ.self hg;by_cases hb:brk e=true
 . obtain ⟨f1,f2,f3⟩:=Qq hb;have tx:=Ee xn fn hg hb;have tl:=zZ nR hg hb hz;have js:=zY (word ", ") (NA (λk=>showExpr (renamed xn fn k)) e);have w2:(word ", ").length=2:=rfl;have T3:(Str.ofString "(")=aR [40]:=rfl;have T4:(Str.ofString ")")=aR [41]:=rfl;have T5:(Str.ofString ", ")=aR (word ", "):=rfl;refine fr hN U #[U,_,U,aE f1 ?_];refine fr hN U #[U,_,U,aE f2 ?_];refine fr hN U #[U,_,U,aE f3 ?_];refine fr hN U #[U,_,U,?_];rcases Lf fn hb with ⟨qp,f',x,rfl⟩ | ⟨f4,ew⟩
   . refine bC rfl (fr hN rfl #[d2,_,rfl,hn2.get (hself.2 qp f' x rfl),?_]);exists _,_,U,U,?_,#[_,U],.ref a,.call qp f' x,d1,d2,xn,fn,N1,N2,U,hg,hd,hz,hv,mZ,hn2,bQ,nR,λp H' s hp=>?_
     . rw [T3,aK,aK,aC];have tl:(fn f').length+_+2+30<=262208:=tl;lia
     . exists _,p,(NA (λk=>showExpr (renamed xn fn k)) (.call qp f' x)).map aR,U,U,.inl (by rw [<-qw];exact cw.of hp),?_,?_
       . rw [qt,aB,T5,OC];rw [w2] at js;lia
       . have tl:(fn f').length+_+2+30<=262208:=tl;rw [T5,mR,T3,cp];exists _,_,U,U,?_,_,_,U,U,?_,?_
         . rw [aK,aK,ao,aC];lia
         . rw [T4,cp,aK,aK,ao,ao,aC,aC];lia
         . rw [T4,cp,cp];rw [tx] at q;exact q H' s
   . refine aE f4 (fr hN rfl ?_);rw [ew];exists _,_,U,U,?_,#[_,U],.ref a,e,d1,d2,xn,fn,N1,N2,U,hg,hd,hz,hv,mZ,hn2,bQ,nR,λp H' s hp=>?_
     . rw [T3,aK,aK,aC];lia
     . exists _,p,(NA (λk=>showExpr (renamed xn fn k)) e).map aR,U,U,.inl (by rw [<-qw];exact cw.of hp),?_,?_
       . rw [qt,aB,T5,OC];rw [w2] at js;lia
       . rw [T5,mR,T3,cp];exists _,_,U,U,?_,_,_,U,U,?_,?_
         . rw [aK,aK,ao,aC];lia
         . rw [T4,cp,aK,aK,ao,ao,aC,aC];lia
         . rw [T4,cp,cp];rw [tx] at q;exact q H' s
 . cases e with
   | lit qp v=>
    cases v with
    | num nn=>
     have hw:Ng nn:=hg.2;refine fr hN U #[U,_,U,bC U ?_];refine fr hN U #[_,U,log2_small (by have:=hw.1;have:=hw.2;show nn.natAbs < _;lia),?_];rw [str_int];exact q H (aq.refl _)
    | flag b=>
     refine fr hN U #[U,_,U,aE U ?_];refine fr hN U #[U,_,U,bC U ?_];refine fr hN U ?_;have q:=q H (aq.refl _);cases b <;> exact q
   | name qp nn=>
    refine fr hN U #[U,_,U,aE U ?_];refine fr hN U #[U,_,U,aE U ?_];refine fr hN U #[U,_,U,bC U ?_];refine fr hN U #[d1,_,U,mZ.get (hself.1 qp nn U),q H (aq.refl _)]
   | nil=>rcases hg with hg | hg <;> cases hg
   | arg _ _=>exact absurd hg.1 ∅
   | way _ _ _=>exact absurd hg.1 ∅
   | _=>exact absurd rfl hb
theorem qy:eO AA 0:=by
 nomatch ["expression","values","functions","word"]
 ext h v e d1 d2 xn fn N1 N2 rfl hg hd _;have:=Ct hg;lia
theorem gT:∀n,eO AA n
 | 0=>qy AA
 | n+1=>tI AA (n+1) (qx AA n (gT n)) rfl
def lt_def:(Str.ofString "def ")=aR (word "def "):=rfl
def Eh:(Str.ofString "(")=aR (word "("):=rfl
def Lh:(Str.ofString ") ")=aR (word ") "):=rfl
def lt_eq:(Str.ofString " = ")=aR (word " = "):=rfl
def tJ:(Str.ofString " ;")=aR (word " ;"):=rfl
def BD:(Str.ofString " ")=aR (word " "):=rfl
def Li:(Str.ofString "observe ")=aR (word "observe "):=rfl
def Lj:(Str.ofString "let ")=aR (word "let "):=rfl
def OD:(Str.ofString "chance ")=aR (word "chance "):=rfl
def Lk:(Str.ofString "budget ")=aR (word "budget "):=rfl
def Hq:(Str.ofString "tell ")=aR (word "tell "):=rfl
def OG:(Str.ofString "\n")=aR [10]:=rfl
def Hr:(Str.ofString ", ")=aR (word ", "):=rfl
def lm:(word "def ").length=4:=rfl
def xL:(word "(").length=1:=rfl
def z7:(word ") ").length=2:=rfl
def ot:(word " = ").length=3:=rfl
def ib:(word " ;").length=2:=rfl
def xM:(word " ").length=1:=rfl
def F7:(word "observe ").length=8:=rfl
def nP:(word "let ").length=4:=rfl
def Ln:(word "chance ").length=7:=rfl
def Lp:(word "budget ").length=7:=rfl
def CO:(word "tell ").length=5:=rfl
def kc:(word ", ").length=2:=rfl
theorem fC (h:li k):(showKind k).length<=27:=by
 cases k with
 | flag=>decide
 | num lo hi=>
  have hw: -1000<=lo/\lo<=hi/\hi<=1000/\hi<=lo+63:=h;have h1:=cI (i:=lo) #[by lia,by lia];have h2:=cI (i:=hi) #[by lia,by lia];show (word "num " ++showInt lo++ [32]++showInt hi).length<=27;have:(word "num ").length=4:=rfl;simp only [ao,aC];lia
def mU (xn:Bytes->Bytes) (d:Decl):Bytes:=xn d.name.name++word " " ++showKind d.kind
def sC (xn fn:Bytes->Bytes) (f:Fu):Bytes:=word "def " ++fn f.name.name++word "(" ++joined (word ", ") (f.params.map (mU xn))++word ") " ++showKind f.result++word " = " ++showExpr (renamed xn fn f.body)++word " ;"
def Qr:Option Kd->Bytes
 | some k=>word " " ++showKind k
 | none=> []
def z8 (xn fn:Bytes->Bytes):Stm->Bytes
 | .lets n k e=>word "let " ++xn n.name++Qr k++word " = " ++(showExpr (renamed xn fn e)++word " ;")
 | .observe e=>word "observe " ++(showExpr (renamed xn fn e)++word " ;")
def Qs (fn:Bytes->Bytes) (an:Fu->Bytes->Bytes) (f:Fu):showFun (qu fn an f)=sC (an f) fn f++ [10]:=by
 unfold showFun qu sC;simp only [c9];rfl
def Qt (xn fn:Bytes->Bytes) (s:Stm):showStm (wT xn fn s)=z8 xn fn s++ [10]:=by
 cases s with
 | lets n k e=>
  cases k with
  | none=>
   show word "let " ++xn n.name++ []++word " = " ++showExpr (renamed xn fn e)++word " ;" ++ [10]=word "let " ++xn n.name++ []++word " = " ++(showExpr (renamed xn fn e)++word " ;")++ [10];simp only [bz]
  | some k=>
   show word "let " ++xn n.name++([32]++showKind k)++word " = " ++showExpr (renamed xn fn e)++word " ;" ++ [10]=word "let " ++xn n.name++([32]++showKind k)++word " = " ++(showExpr (renamed xn fn e)++word " ;")++ [10];simp only [bz]
 | observe e=>
  show word "observe " ++showExpr (renamed xn fn e)++word " ;" ++ [10]=word "observe " ++(showExpr (renamed xn fn e)++word " ;")++ [10];simp only [bz]
def fH (n:Nat):List Bytes:=if n=0 then [] else [word "budget " ++showNat n]
def rowsOf (t:Bytes) (xn fn:Bytes->Bytes) (an:Fu->Bytes->Bytes) (p:Prog):List Bytes:=
 [word "chance " ++t]++fH p.budget++p.funs.map (λf=>sC (an f) fn f)++p.stms.map (z8 xn fn)++ [word "tell " ++joined (word ", ") (p.tells.map λt=>xn t.name)]
theorem BE:∀{l:List Bytes},l≠ []->joined [10] l++ [10]=l.flatMap (· ++ [10])
 | [],h=>absurd rfl h
 | [x],_=>by show x++ [10]=x++ [10]++ [];rw [bH]
 | x :: y :: r,_=>by
  show x++ [10]++joined [10] (y :: r)++ [10]=(x++ [10])++(y :: r).flatMap (· ++ [10]);rw [<-BE (l:=y :: r) (by simp),bz (x++ [10])]
def F8 (t:Bytes) (xn fn:Bytes->Bytes) (an:Fu->Bytes->Bytes) (p:Prog):joined [10] (rowsOf t xn fn an p)++ [10]=(tH t xn fn an p).shown:=by
 rw [BE (by unfold rowsOf;simp)];unfold rowsOf Vaprbb.Prog.shown tH;simp only [dD,qQ,Qs,Qt,c9];have hb:(fH p.budget).flatMap (· ++ [10])=if p.budget=0 then [] else word "budget " ++showNat p.budget++ [10]:=by
  unfold fH;split
  . rfl
  . show (word "budget " ++showNat p.budget++ [10])++ []=_;rw [bH]
 rw [hb];simp only [dS,vY,bH,bz];rfl
theorem F9 {l:List Bytes} {m:Nat} (h:∀b∈l,b.length<=m):(l.map (·.length)).sum<=l.length * m:=by
 induction l with
 | nil=>exact aD _
 | cons b l ih=>
  have h1:=h b bi;have h2:=ih λx hx=>h x (aW _ hx);rw [bF,lS,aT,Nat.add_mul];lia
theorem IH {d:Decl} (hx:∀n,tS n->tS (xn n)) (h:tS d.name.name/\li d.kind):(mU xn d).length<=44:=by
 have h1:(xn d.name.name).length<=16:=hx _ h.1;have h2:=fC h.2;unfold mU;simp only [ao,xM];lia
theorem Ei (hx:∀n,tS n->tS (xn n)) (h:GF f):(joined (word ", ") (f.params.map (mU xn))).length<=184/\((f.params.map (mU xn)).map (·.length)).sum+(f.params.map (mU xn)).length * 2<=184:=by
 have h1:=nJ (word ", ") (f.params.map (mU xn));have h2:=F9 (l:=f.params.map (mU xn)) (m:=44) λb hb=>by
  obtain ⟨d,hd,rfl⟩:=ci.mp hb;exact IH hx (h.pw d hd)
 have h3:(f.params.map (mU xn)).length<=4:=by rw [aB];exact h.pl
 rw [kc] at h1;have h4:(f.params.map (mU xn)).length * 44<=4 * 44:=oN _ h3;have h5:(f.params.map (mU xn)).length * 2<=4 * 2:=oN _ h3;lia
theorem II (hl:vb xn fn) (h:GF f):(sC xn fn f).length<=262500:=by
 have h1:=(Ei hl.1 h).1;have h2:(fn f.name.name).length<=16:=hl.2 _ h.nm;have h3:=fC h.rk;have h4:=j_ hl h.bd.1 h.bd.2.2;unfold sC;simp only [ao,lm,xL,z7,ot,ib];lia
theorem Lq {o:Option Kd} (h:∀k,o=some k->li k):(Qr o).length<=28:=by
 cases o with
 | none=>exact aD _
 | some k=>
  have:=fC (h k rfl);show (word " " ++showKind k).length<=28;rw [ao,xM];lia
theorem IJ {s:Stm} (hl:vb xn fn) (h:Ow s):(z8 xn fn s).length<=262500:=by
 cases s with
 | lets n k e=>
  have h1:(xn n.name).length<=16:=hl.1 _ h.1;have h2:=Lq h.2.1;have h4:=j_ hl h.2.2.1 h.2.2.2.2;show (word "let " ++xn n.name++Qr k++word " = " ++(showExpr (renamed xn fn e)++word " ;")).length<=_;simp only [ao,nP,ot,ib];lia
 | observe e=>
  have h4:=j_ hl h.1 h.2.2;show (word "observe " ++(showExpr (renamed xn fn e)++word " ;")).length<=_;simp only [ao,F7,ib];lia
theorem z9 {l:List PName} (hx:∀n,tS n->tS (xn n)) (h:∀t∈l,tS t.name) (h6:l.length<=6):(joined (word ", ") (l.map λt=>xn t.name)).length<=108/\((l.map λt=>xn t.name).map (·.length)).sum+(l.map λt=>xn t.name).length * 2<=108:=by
 have h1:=nJ (word ", ") (l.map λt=>xn t.name);have h2:=F9 (l:=l.map λt=>xn t.name) (m:=16) λb hb=>by
  obtain ⟨d,hd,rfl⟩:=ci.mp hb;exact hx _ (h d hd)
 have h3:(l.map λt=>xn t.name).length<=6:=by rw [aB];exact h6
 rw [kc] at h1;have h4:(l.map λt=>xn t.name).length * 16<=6 * 16:=oN _ h3;have h5:(l.map λt=>xn t.name).length * 2<=6 * 2:=oN _ h3;lia
theorem Lr {t:Bytes} {an:Fu->Bytes->Bytes} (hG:GP p) (ht:tS t) (hl:vb xn fn) (ha:∀f∈p.funs,vb (an f) fn):(rowsOf t xn fn an p).length<=43/\((rowsOf t xn fn an p).map (·.length)).sum<=43 * 262500:=by
 have hb:(fH p.budget).length<=1:=by
  unfold fH;split
  . exact aD _
  . exact az _
 have hn:(rowsOf t xn fn an p).length<=43:=by
  have h1:=hG.fl;have h2:=hG.sl;unfold rowsOf;simp only [ao,aB,aC];lia
 exists hn,aP (F9 (m:=262500) λb hb=>?_) (oN _ hn);unfold rowsOf at hb;simp only [cg,dE,ci] at hb;rcases hb with (((rfl | hb) | ⟨f,hf,rfl⟩) | ⟨s,hs,rfl⟩) | rfl
 . have h1:t.length<=16:=ht;rw [ao,Ln];lia
 . unfold fH at hb;split at hb
   . cases hb
   . rw [dE.mp hb,ao,Lp];have h1:(showNat p.budget).length<=2:=iR (k:=2) (by have:=hG.bg;lia) ∅;lia
 . exact II (ha f hf) (hG.fn f hf)
 . exact IJ hl (hG.st s hs)
 . have h1:=(z9 hl.1 hG.tw hG.tl).1;rw [ao,CO];lia
inductive mV: #v[0] | mk {K c vs H Q E:_} v f d1 d2 xn fn N2:vs= [v,.ref d1,.ref d2]->FJ K c H v f->GF f->C1 H d1 xn (Ai f)->C1 H d2 fn N2->f.name.name∈N2->oG (Ai f) N2 f.body->vb xn fn->(∀H',aq H H'->Q (.str (aR (sC xn fn f))) H')->mV K c vs H Q E
theorem wV:AA.h0 50 "function_text" ["function","values","functions"] mV:=by
 nomatch ["function","values","functions","parameters","head","p"]
 ext h v f' d1 d2 xn fn N2 rfl hF hG mZ hn2 hnm bQ nR q;nomatch 2,3,uc ?_ ?_,iA (bD (b_ (pv 0))) [("p",5)] (λ_ _ _ _ _=>(bL 5)) (λ_ _ _ _ _=>(yB aY (yB aY (ic (pv 1) (fz (K:=K) rfl (pv 5) rfl)) wj) (dw (nO AA) (pU (fz (K:=K) rfl (pv 5) rfl))))),4,aY,aY,aY,aY,aY,ic (pv 2) (b_ (pv 0)),nO,aY,aY,aY,dw (gT AA 24) ?_
 have jm:=gS;obtain ⟨a,dx,pl,kv,bv,ps,rfl,ha,fp,hA,⟨ak,rfl,hak⟩,hb⟩:=id hF;have hl:=hA.len;have h4:=hG.pl;have ZG:=Ei nR.1 hG;have w1:(fn f'.name.name).length<=16:=nR.2 _ hG.nm;have w2:=fC hG.rk;have w3:=j_ nR hG.bd.1 hG.bd.2.2;exists #[_,U],fr ha U #[pl,U,#[ps,fp.sq],λD hD=>?_];refine jR (K:=K) (a:=pl) (xs:=ps) (eN (f'.params.map (mU xn))) (by rw [dC,aB,hl]) hD fp.sq (by lia) (λi x y H2 R hx hy s2 k=>?_) λH2 s2 h2=>?_
 . obtain ⟨d,hd,hxd⟩:=hA.get hx;obtain ⟨b,hb',rfl⟩:=ia hy;rw [bA,hd] at hb';cases hb';have hdm:=bc hd;obtain ⟨wn,wk⟩:=hG.pw d hdm;have w4:(xn d.name.name).length<=16:=nR.1 _ wn;have w5:=fC wk;obtain ⟨ap,dp,YT,rfl,hap,⟨Y0,rfl,VV⟩⟩:=hxd.Y C s2.Y;exists U,fr hap U #[d1,_,U,(mZ.Y (c:=c) s2.Y).get (ci.mpr #[d,hdm,U]),_,_,U,U,?_,fr hap U #[Y0,d.kind,U,VV,wk,_,_,U,U,?_,?_]]
   . simp only [BD,aK,xM];lia
   . simp only [BD,cp,aK,ao,xM];lia
   . rw [BD,cp,cp];exact k H2 (aq.refl _)
 exists _,D,(f'.params.map (mU xn)).map aR,U,U,.inl (by rw [<-qw];exact cw.of h2),?_,?_
 . rw [qt,aB,Hr,aK,kc];lia
 rw [Hr,mR];have mW:=s2 _ _ ha;have Qu:=g9.Y (c:=c) hak s2.Y;refine fr mW U #[d2,_,U,(hn2.Y (c:=c) s2.Y).get hnm,_,_,U,U,?_,_,_,U,U,?_,_,_,U,U,?_,_,_,U,U,?_,fr mW U #[ak,f'.result,U,Qu,hG.rk,_,_,U,U,?_,?_]]
 . simp only [lt_def,aK,lm];lia
 . simp only [lt_def,Eh,cp,aK,ao,lm,xL];lia
 . simp only [lt_def,Eh,cp,aK,ao,lm,xL];lia
 . simp only [lt_def,Eh,Lh,cp,aK,ao,lm,xL,z7];lia
 . simp only [lt_def,Eh,Lh,cp,aK,ao,lm,xL,z7];lia
 . simp only [lt_def,Eh,Lh,cp];exists _,_,U,U,?_,fr mW U #[bv,f'.body,d1,d2,xn,fn,Ai f',N2,U,hG.bd.1,hG.bd.2.1,hG.bd.2.2,hb.Y C s2.Y,mZ.Y (c:=c) s2.Y,hn2.Y (c:=c) s2.Y,bQ,nR,λH3 s3=>?_]
   . simp only [lt_eq,aK,ao,lm,xL,z7,ot];lia
   . exists _,_,U,U,?_,_,_,U,U,?_,?_
     . simp only [lt_eq,cp,aK,ao,lm,xL,z7,ot];lia
     . simp only [lt_eq,tJ,cp,aK,ao,lm,xL,z7,ot,ib];lia
     . simp only [lt_eq,tJ,cp];exact q H3 (s2.trans s3)
inductive k4: #v[0] | mk {K c vs H Q E:_} v s d1 d2 xn fn N1 N2:vs= [v,.ref d1,.ref d2]->EI K c H v s->Ow s->C1 H d1 xn N1->C1 H d2 fn N2->oG N1 N2 (exprOf s)->(∀n k e,s= .lets n k e->n.name∈N1)->vb xn fn->(∀H',aq H H'->Q (.str (aR (z8 xn fn s))) H')->k4 K c vs H Q E
theorem vh:AA.h0 50 "statement_text" ["statement","values","functions"] k4:=by
 nomatch ["statement","values","functions","tail","head"]
 ext h v st d1 d2 xn fn N1 N2 rfl hS hG mZ hn2 bQ hnm nR q;nomatch 2,3,aY,dw (gT AA 24) ?_,aM o5,fG AA.Bm,aY,4,aY,ic (pv 1) (b_ (pv 0)),Mm,4,aY,nO,MT,aY,aY
 have jm:=gS;cases st with
 | observe e=>
  ext hG g1 g2 g3;have w3:=j_ nR g1 g3;ext hS a dx ev rfl ha he;refine fr ha U #[ev,e,d1,d2,xn,fn,N1,N2,U,g1,g2,g3,he,mZ,hn2,bQ,nR,λH2 s2=>?_];exists _,_,U,U,?_,?_
  . simp only [tJ,aK,ib];lia
  have mW:=s2 _ _ ha;exists _,_,_,_,U,C.wJ _ _ _ _ mW,C.ro,_,U,bC U ?_;exists _,_,U,U,?_,?_
  . simp only [tJ,Li,cp,aK,ao,ib,F7];lia
  . simp only [tJ,Li,cp];exact q H2 s2
 | lets nn o e=>
  ext hG g0 gk g1 g2 g3;have w3:=j_ nR g1 g3;have w1:(xn nn.name).length<=16:=nR.1 _ g0;ext hS a dx wv ev rfl ha hw he;refine fr ha U #[ev,e,d1,d2,xn,fn,N1,N2,U,g1,g2,g3,he,mZ,hn2,bQ,nR,λH2 s2=>?_];exists _,_,U,U,?_,?_
  . simp only [tJ,aK,ib];lia
  have mW:=s2 _ _ ha;exists _,_,_,_,U,C.wI _ _ _ _ mW,C.rn,_,U,aE U ?_;refine fr mW U #[d1,_,U,(mZ.Y (c:=c) s2.Y).get (hnm nn o e U),_,_,U,U,?_,?_]
  . simp only [Lj,aK,nP];lia
  simp only [tJ,Lj,cp];cases o with
  | none=>
   have hw:wv= .cx:=hw;subst hw;refine fr mW U #[U,_,U,aE U ?_];exists _,_,U,U,?_,_,_,U,U,?_,?_
   . simp only [lt_eq,aK,ao,nP,ot];lia
   . simp only [lt_eq,cp,aK,ao,nP,ot,ib];lia
   . simp only [lt_eq,cp];have q:Q (.str (aR (word "let " ++xn nn.name++ []++word " = " ++(showExpr (renamed xn fn e)++word " ;")))) H2:=q H2 s2;rw [bH] at q;exact q
  | some k=>
   ext hw ak rfl hak;have wk:=gk k rfl;have w5:=fC wk;have Qu:=g9.Y (c:=c) hak s2.Y;refine fr mW U #[U,_,U,bC U ?_];(conv=>whnf);refine fr mW U #[ak,k,U,Qu,wk,_,_,U,U,?_,_,_,U,U,?_,?_]
   . simp only [BD,aK,xM];lia
   . simp only [BD,cp,aK,ao,nP,xM];lia
   simp only [BD,cp];exists _,_,U,U,?_,_,_,U,U,?_,?_
   . simp only [lt_eq,aK,ao,nP,ot,xM];lia
   . simp only [lt_eq,cp,aK,ao,nP,ot,ib,xM];lia
   . simp only [lt_eq,cp];exact q H2 s2
structure W2 (p:Prog):Prop where
 fb:∀f∈p.funs,oG (Ai f) (fM p) f.body
 sb:∀s∈p.stms,oG (letNames p) (fM p) (exprOf s)
 tl:∀t∈p.tells,t.name∈letNames p
def ND {n:PName} {k:Option Kd} (h:Stm.lets n k e∈p.stms):n.name∈letNames p:=by
 rw [dm];exact ci.mpr #[_,ip.mpr #[h,rfl],rfl]
def CP (a b:List Bytes):eN (a++b)=eN a++eN b:=by unfold eN;rw [dX]
def tK (a:List Bytes) (b:Bytes):eN a++ [V.str (aR b)]=eN (a++ [b]):=by rw [CP];rfl
def BF {l:List α} {x:α} {f:α->Bytes} (h:l[i]? = some x):(l.take (i+1)).map f=(l.take i).map f++ [f x]:=by
 obtain ⟨hi,e⟩:=bj.mp h;rw [ej hi,dX,e];rfl
inductive xN: #v[0] | mk {K c vs H Q E:_} v u p t xn fn an:vs= [v,u]->EJ K c H v p->Qn c H u p t xn fn an->GP p->W2 p->tS t->vb xn fn->(∀f∈p.funs,vb (an f) fn)->(∀a H',H a=none->aq H H'->FL H' a (txt (tH t xn fn an p).shown)->Q (.ref a) H')->xN K c vs H Q E
theorem xO:AA.h0 51 "one_form" ["program","naming"] xN:=by
 nomatch ["program","naming","rows","function","parameters","statement","token","sign"]
 ext h v u p t xn fn an rfl hP hU hG hM ht nR hla q;nomatch 2,2,aY,A5,cH bN,aY,cr cP,B6,BO rfl (fV (bL 3) (fV (bL 4) tW)),cH bN,wV,bD,5,cH bN,vh,cH bN,aY,uc ?_ ?_,iA (bD (b_ (pv 0))) [("token",6)] (λ_ _ _ _ _=>(bL 6)) (λ_ _ _ _ _=>(ic (fz (K:=K) rfl (pv 1) rfl) (fz (K:=K) rfl (pv 6) rfl))),1,iA (JP (yB aY (uc wj (pv 2)) wj)) [("sign",7)] (λ_ _ _ _ _=>(bL 7)) (λ_ _ _ _ _=>(aM Db (pU (pv 7))))
 have jm:=gS;obtain ⟨a,dx,fl,sl,tl,fs,ss,ts,rfl,ha,f1,A1,f2,As,f3,A3⟩:=id hP;obtain ⟨b,db,ld,fd',pl,ps,rfl,hb,mZ,hn2,f4,A4⟩:=id hU;have l1:=A1.len;have l2:=As.len;have l3:=A3.len;have l4:=A4.len;have g1:=hG.fl;have g2:=hG.sl;have g3:=hG.tl;have wt:t.length<=16:=ht;obtain ⟨ZH,ZI⟩:=Lr hG ht nR hla;have wb:(showInt ((p.budget:Nat):Int)).length<=11:=cI #[by have:=hG.bg;lia,by have:=hG.bg;lia];have gb:=hG.bg;refine fr hb U #[_,_,U,U,?_,kg,λD hD=>?_]
 . simp only [OD,aK,Ln];lia
 simp only [OD,cp];have s0:=aq.upd (o:= .lst [V.str (aR (word "chance " ++t))]) hD;refine fr (s0 _ _ ha) U #[U,_,U,bG (λe1=>?_) λe1=>?_];case' refine_1=>
  have e1:p.budget≠0:=λz=>by rw [z] at e1;simp at e1
  have eb:fH p.budget= [word "budget " ++showNat p.budget]:=by unfold fH;rw [ae e1]
  exists oA aa,fr (s0 _ _ ha) U #[_,U,log2_small (by lia),_,_,U,U,(by simp only [Lk,str_int,aK,Lp];lia),D,_,_,U,U,aa,(by show 1 < sizeLine;decide),?_];simp only [Lk,str_int,cp,qi];have s1:aq H (upd (upd H D (.lst [V.str (aR (word "chance " ++t))])) D (.lst ([V.str (aR (word "chance " ++t))]++ [V.str (aR (word "budget " ++showNat p.budget))]))):=s0.bM hD;have hD1:(upd (upd H D (.lst [V.str (aR (word "chance " ++t))])) D (.lst ([V.str (aR (word "chance " ++t))]++ [V.str (aR (word "budget " ++showNat p.budget))]))) D=some (.lst (eN ([word "chance " ++t]++fH p.budget))):=by rw [aa,eb];rfl
  clear eb e1;revert s1 hD1;generalize (upd (upd H D (.lst [V.str (aR (word "chance " ++t))])) D (.lst ([V.str (aR (word "chance " ++t))]++ [V.str (aR (word "budget " ++showNat p.budget))])))=H1;intro s1 hD1
 case' refine_2=>
  have e1:p.budget=0:=by
   have:¬((p.budget:Nat):Int)≠0:= ~~~e1
   lia
  have eb:fH p.budget= []:=by unfold fH;rw [ah e1]
  have s1:=s0;have hD1:(upd H D (.lst [V.str (aR (word "chance " ++t))])) D=some (.lst (eN ([word "chance " ++t]++fH p.budget))):=by rw [aa,eb];rfl
  clear eb e1 s0;revert s1 hD1;generalize (upd H D (.lst [V.str (aR (word "chance " ++t))]))=H1;intro s1 hD1
 all_goals
  refine fr (s1 _ _ ha) U (fr (s1 _ _ hb) U ⟨fl,pl,fs,ps,U,(f1.app s1).sq,(f4.app s1).sq,B' (K:=K) (a:=fl) (b:=pl) (xs:=fs) (ys:=ps) (λi Z H'=> ∃v3 v4:Option V,Z= [some (.ref a),some (.ref b),some (.ref D),v3,v4,none,none,none]/\aq H H'/\H' D=some (.lst (eN ([word "chance " ++t]++fH p.budget++(p.funs.take i).map (λf=>sC (an f) fn f)))))
   #[none,none,rfl,s1,by rw [lQ,cB,bH];exact hD1] (by lia) (λi Z H' #[_,_,_,s,_]=>#[(f1.app s).sq,(f4.app s).sq]) ?_ ?_⟩)
  . rintro i x y T' Z H' hx hy ⟨v3,v4,rfl,s,hw⟩ hT;obtain ⟨f',hf,hxf⟩:=A1.get hx;obtain ⟨ZJ,hf2,dp,rfl,hdp⟩:=A4.get hy;rw [hf] at hf2;cases hf2;have hfm:=bc hf;have sT:=s.trans (aq.upd (o:= .tup [x,.ref dp]) hT);have SQ:=(aq.upd (o:= .tup [x,.ref dp]) hT) _ _ hw;have hil:i < fs.length:=(bj.mp hx).1;exists T',[x,.ref dp],U,.inl (.inl aa),U,_,_,U,_,_,U,U,?_;exists oA SQ,fr (sT _ _ hb) U #[x,f',dp,fd',an f',fn,fM p,U,hxf.Y C sT.Y,hG.fn f' hfm,hdp.Y (c:=c) sT.Y,hn2.Y (c:=c) sT.Y,ci.mpr #[f',hfm,U],hM.fb f' hfm,hla f' hfm,λH2 s2=>?_];have hb1:(fH p.budget).length<=1:=by unfold fH;split <;> simp
    exists D,_,_,U,U,s2 _ _ SQ,(by rw [dC,ao,ao,aB,il,aC];lia),?_;exists _,_,U,(sT.trans s2).bM hD,?_;rw [aa,tK,BF hf,bz]
  . rintro Z H2 ⟨v3,v4,rfl,s2,hw2⟩;rw [l1,cK] at hw2;refine fr (s2 _ _ ha) U ⟨sl,U,#[ss,(f2.app s2).sq],cC (K:=K) (a:=sl) (xs:=ss) (λi Z H'=> ∃v3 v4 v5:Option V,Z= [some (.ref a),some (.ref b),some (.ref D),v3,v4,v5,none,none]/\aq H H'/\H' D=some (.lst (eN ([word "chance " ++t]++fH p.budget++p.funs.map (λf=>sC (an f) fn f)++(p.stms.take i).map (z8 xn fn)))))
     #[_,_,none,rfl,s2,by rw [lQ,cB,bH];exact hw2] (λi Z H' _ #[_,_,_,_,s,_]=>(f2.app s).sq) ?_ ?_⟩
    . rintro i x Z H' hx ⟨v3,v4,v5,rfl,s,hw⟩;obtain ⟨st,fZ,hxs⟩:=As.get hx;have hsm:=bc fZ;have hil:i < ss.length:=(bj.mp hx).1;exists oA hw,fr (s _ _ hb) U (fr (s _ _ hb) U #[x,st,ld,fd',xn,fn,letNames p,fM p,U,hxs.Y C s.Y,hG.st st hsm,mZ.Y (c:=c) s.Y,hn2.Y (c:=c) s.Y,hM.sb st hsm,(λn k e ee=>ND (by rw [<-ee];exact hsm)),nR,λH3 s3=>?_]);have hb1:(fH p.budget).length<=1:=by unfold fH;split <;> simp
      exists D,_,_,U,U,s3 _ _ hw,(by rw [dC,ao,ao,ao,aB,aB,il,aC];lia),?_;exists _,_,_,U,(s.trans s3).bM hD,?_;rw [aa,tK,BF fZ,bz]
    . rintro Z H3 ⟨v3,v4,v5,rfl,s3,zx⟩;rw [l2,cK] at zx;obtain ⟨ZK,ZL⟩:=z9 nR.1 hG.tw hG.tl;exists oA zx,#[_,U],fr (s3 _ _ ha) U #[tl,U,#[ts,(f3.app s3).sq],λD2 eP=>?_];refine jR (K:=K) (a:=tl) (xs:=ts) (eN (p.tells.map λt=>xn t.name)) (by rw [dC,aB,l3]) eP (f3.app s3).sq (by lia) (λi x y H4 R hx hy s4 k=>?_) λH4 s4 h4=>?_
      . obtain ⟨tn,htn,VW⟩:=A3.get hx;obtain ⟨bb,hbb,rfl⟩:=ia hy;rw [bA,htn] at hbb;cases hbb;have OH:=s3.trans s4;obtain ⟨at',rfl,bh,dt,hat⟩:=Kx.Y C VW OH.Y;exists U,fr (OH _ _ hb) U (fr hat U #[ld,_,U,(mZ.Y (c:=c) OH.Y).get (hM.tl tn (bc htn)),k H4 (aq.refl _)])
      exists _,D2,(p.tells.map λt=>xn t.name).map aR,U,U,.inl (by rw [<-qw];exact cw.of h4),(by rw [qt,aB,Hr,aK,kc];lia),?_;rw [Hr,mR];exists _,_,U,U,(by simp only [Hq,aK,CO];lia),?_;rw [Hq,cp];have P6:=s4 _ _ zx;have hlr:(eN ([word "chance " ++t]++fH p.budget++p.funs.map (λf=>sC (an f) fn f)++p.stms.map (z8 xn fn))).length < sizeLine:=by
       have hb1:(fH p.budget).length<=1:=by unfold fH;split <;> simp
       rw [dC,ao,ao,ao,aB,aB,aC];lia
      exists D,_,_,U,U,P6,hlr,?_;rw [tK];have SV: [word "chance " ++t]++fH p.budget++p.funs.map (λf=>sC (an f) fn f)++p.stms.map (z8 xn fn)++ [word "tell " ++joined (word ", ") (p.tells.map λt=>xn t.name)]=rowsOf t xn fn an p:=rfl;rw [SV];have sh:=F8 t xn fn an p;have jl:=nJ [10] (rowsOf t xn fn an p);rw [aC] at jl;have s5:=(s3.trans s4).bM (o:= .lst (eN (rowsOf t xn fn an p))) hD;exists #[_,U],_,D,(rowsOf t xn fn an p).map aR,U,U,.inl (by rw [<-qw];exact cw.of aa),(by rw [qt,aB,OG,aK,aC];lia),?_;rw [OG,mR];exists _,_,U,U,(by rw [aK,aK,aC];lia),?_;rw [cp,sh];have shl:(tH t xn fn an p).shown.length<=sizeLine:=by
       rw [<-sh,ao,aC];lia
      exists _,U,λD3 mX=>?_;have T6:(aR (tH t xn fn an p).shown).cps.size=(tH t xn fn an p).shown.length:=aK _;refine JY (txt (tH t xn fn an p).shown) (by rw [T6,cD]) mX (by rw [T6];exact shl) (λi cc y H6 R hx hy s6 k=>?_) λH6 s6 h6=>?_
      . have e1:cc=((tH t xn fn an p).shown[i]?.map (·.toNat)).getD 0:=by rw [<-zR,hx];rfl
        have e2:y= .int (cc:Nat):=by
         rw [zR] at hx;unfold txt at hy;rw [bA] at hy;cases hz:(tH t xn fn an p).shown[i]? with
         | none=>rw [hz] at hy;cases hy
         | some z=>rw [hz] at hx hy;cases hx;cases hy;rfl
        rw [e2] at k;exists U,_,U,U,k
      . exists D3,_,U,h6,au,λo=>?_;have SW:=same_none s5 mX;exact q D3 _ SW ((s5.trans s6).bM SW) #[o,aa]
def T7 (ss:List Stm):List Bytes:=(ss.filter isLet).map Ld
def OI (h:named p scope e= .ok u):oG scope (fM p) e:=λk hk=>by
 rw [cu] at h;have h1:=wP h k hk;exists λq n e=>?_,λq f x e=>?_
 . subst e;have h1:(if scope.contains n=true then .ok () else .error #[6,q]:Except Fault Unit)= .ok ():=h1;split at h1
   . rename_i hc;exact em.mp hc
   . cases h1
 . subst e;have h1:gN p q f x= .ok ():=h1;unfold gN at h1;cases hf:p.fun f with
   | none=>rw [hf] at h1;cases h1
   | some g=>exact Nu hf
def oG.mono {W3:List Bytes} (h:oG N1 N2 e) (s:∀n∈N1,n∈W3):oG W3 N2 e:=λk hk=>#[λq n e=>s n ((h k hk).1 q n e),(h k hk).2]
def tL {l:List Bytes} {n:Bytes} (h:l.Nodup) (hn:¬l.contains n=true):(l++ [n]).Nodup:=by
 rw [List.nodup_append];exists h,lD.mpr #[dv,jo],λa ha b hb e=>?_;subst e;rw [dE.mp hb] at ha;exact hn (em.mpr ha)
theorem z_:∀{ss:List Stm} {sc OJ:List Bytes},stmsRight p sc ss= .ok OJ->OJ=sc++T7 ss/\(sc.Nodup->OJ.Nodup)/\∀s∈ss,∃VX,(∀n∈VX,n∈OJ)/\named p VX (exprOf s)= .ok ()
 | [],sc,OJ,h=>by
  cases h;exists by rw [show T7 []= [] from rfl,bH],λz=>z,λs hs=>by cases hs
 | .observe e :: r,sc,OJ,h=>by
  obtain ⟨_,h1,h⟩:=aj h;obtain ⟨a,b,d⟩:=z_ h;exists a,b,λs hs=>?_;rcases aF.mp hs with rfl | hs
  . exists sc,λn hn=>by rw [a];exact oM _ hn,h1
  . exact d s hs
 | .lets n k e :: r,sc,OJ,h=>by
  have h:(if sc.contains n.name=true then .error #[5,n.place] else named p sc e >>= λ_=>stmsRight p (sc++ [n.name]) r)= .ok OJ:=h;split at h
  . cases h
  . rename_i hc;obtain ⟨_,h1,h⟩:=aj h;obtain ⟨a,b,d⟩:=z_ h;exists by rw [a,bz];rfl,λz=>b (tL z hc),λs hs=>?_;rcases aF.mp hs with rfl | hs
    . exists sc,λm hm=>by rw [a,bz];exact oM _ hm,h1
    . exact d s hs
theorem Ej:∀{fs:List Fu} {before:List Bytes} {u:Unit},funsRight p before fs= .ok u->before.Nodup->(before++fs.map λf=>f.name.name).Nodup
 | [],before,u,_,hb=>by rw [cB,bH];exact hb
 | f :: r,before,u,h,hb=>by
  unfold funsRight at h;split at h
  . cases h
  . split at h
    . cases h
    . rename_i hc;obtain ⟨_,_,h⟩:=aj h;obtain ⟨_,_,h⟩:=aj h;have:=Ej h (tL hb hc);rw [bz] at this;exact this
theorem Ek:∀{ds:List Decl} {before:List Bytes} {u:Unit},declsRight before ds= .ok u->before.Nodup->(before++ds.map λd=>d.name.name).Nodup
 | [],before,u,_,hb=>by rw [cB,bH];exact hb
 | d :: r,before,u,h,hb=>by
  have h:(if before.contains d.name.name=true then .error #[5,d.name.place] else declsRight (before++ [d.name.name]) r)= .ok u:=h;split at h
  . cases h
  . rename_i hc;have:=Ek h (tL hb hc);rw [bz] at this;exact this
theorem Ls:∀{ts:List PName} {before:List Bytes} {u:Unit},tellsRight scope before ts= .ok u->∀t∈ts,t.name∈scope
 | [],_,_,_,t,ht=>by cases ht
 | x :: r,before,u,h,t,ht=>by
  have h:(if scope.contains x.name=false then .error #[6,x.place] else if before.contains x.name=true then .error #[5,x.place] else tellsRight scope (before++ [x.name]) r)= .ok u:=h;split at h
  . cases h
  . rename_i hc;split at h
    . cases h
    . rcases aF.mp ht with rfl | ht
      . exact em.mp (~~~hc)
      . exact Ls h t ht
theorem Aa:∀{ss:List Stm} {E E':oF},stmsKinds p E ss= .ok E'->E'.map (·.1)=E.map (·.1)++T7 ss
 | [],E,E',h=>by cases h;rw [show T7 []= [] from rfl,bH]
 | .observe e :: r,E,E',h=>by
  rw [K8] at h;obtain ⟨_,_,h⟩:=aj h;obtain ⟨_,_,h⟩:=aj h;have:=Aa h;rw [this];rfl
 | .lets n o e :: r,E,E',h=>by
  rw [K9] at h;obtain ⟨_,_,h⟩:=aj h;obtain ⟨k2,_,h⟩:=aj h;rw [Aa h,dX,bz];rfl
structure Wp (p:Prog) (En:oF):Prop where
 gp:GP p
 nr:namesRight p= .ok ()
 ev:p.env= .ok En
 wf:nE p En
 sh:p.shown.length<=4096
section
def qz (h:namesRight p= .ok ()):funsRight p [] p.funs= .ok ()/\stmsRight p [] p.stms= .ok (letNames p)/\tellsRight (letNames p) [] p.tells= .ok ():=by
 have h:(funsRight p [] p.funs >>= λ_=>stmsRight p [] p.stms >>= λscope=>tellsRight scope [] p.tells)= .ok ():=h;obtain ⟨_,h1,h⟩:=aj h;obtain ⟨sc,h2,h⟩:=aj h;have e:=(z_ h2).1;rw [lO] at e;have e:sc=letNames p:=by rw [e,dm];rfl
 subst e;exists h1,h2,h
def tM (h:namesRight p= .ok ()):W2 p:=by
 obtain ⟨h1,h2,h3⟩:=qz h;exists λf hf=>OI (yq h1 f hf).2,λs hs=>?_,Ls h3;obtain ⟨VX,a,b⟩:=(z_ h2).2.2 s hs;exact (OI b).mono a
def Lv (h:namesRight p= .ok ()):(letNames p).Nodup:=(z_ (qz h).2.1).2.1 jo
def Lw (h:namesRight p= .ok ()):(fM p).Nodup:= ~~~(Ej (qz h).1 jo)
def Qv (h:namesRight p= .ok ()):∀f∈p.funs,(Ai f).Nodup:=λf hf=> ~~~(Ek (yq (qz h).1 f hf).1 jo)
def Ab (h:namesRight p= .ok ()):∀g∈p.funs,∀n∈Vaprbb.calls [] g.body,n∈fM p:=λg hg n hn=>by
 rw [ca] at hn;rcases uW hn with h' | ⟨k,hk,e⟩
 . cases h'
 . cases k with
   | call q f x=>cases e;exact (((tM h).fb g hg) _ hk).2 q _ x rfl
   | lit q v=>cases v <;> cases e
   | _=>cases e
def rE (h:p.env= .ok En):En.map (·.1)=letNames p:=by
 have h:(Vaprbb.funsKinds p p.funs >>= λ_=>stmsKinds p [] p.stms)= .ok En:=h;obtain ⟨_,_,h⟩:=aj h;rw [Aa h,dm];rfl
def qA (h:p.env= .ok En):p.lets=En:=by
 unfold Vaprbb.Prog.lets;rw [h]
theorem IK {l:oF} {n:Bytes} (hn:(l.map (·.1)).Nodup) (h:l[i]? = some (n,k)):Vaprbb.Env.kind l n=some k:=by
 unfold Vaprbb.Env.kind;have:l.find? (λx=>x.1 == n)=some (n,k):=by
  rw [AD];obtain ⟨hi,e⟩:=bj.mp h;exists by simp,i,hi,e,λj hj=>?_;have h1:(l.map (·.1))[j]'(by rw [aB];omega)=l[j].1:=List.getElem_map ..;have h2:(l.map (·.1))[i]'(by rw [aB];omega)=n:=by rw [List.getElem_map,e]
  simp only [Bool.not_eq_true',c4];intro z;have:=(vV hn).mp (h1.trans (z.trans h2.symm));omega
 rw [this];rfl
def BG (h:p.env= .ok En):∀n,List.contains (letNames p) n=(Vaprbb.Env.kind En n).isSome:=λn=>by
 rw [<-rE h];unfold Vaprbb.Env.kind;rw [lI,List.isSome_find?,b8,em,qP];constructor
 . intro z;obtain ⟨d,hd,e⟩:=ci.mp z;exists d,hd,~~~e
 . rintro ⟨d,hd,e⟩;exact ci.mpr #[d,hd,~~~e]
def NE (b:Bytes):read b=(tokens b >>= λl=>takeProg l >>= λp=>namesRight p >>= λ_=>p.env >>= λ_=>if 4096 < p.shown.length then .error #[10,0] else .ok p):=by
 unfold Vaprbb.read;refine aS λl=>aS λp=>aS λ_=>aS λ_=>?_;show (if 4096 < p.shown.length then _ else _)=_;split <;> rfl
def Ac (p:Prog) (i:Nat):letExpr p i=((p.stms.filter isLet).map exprOf)[i]?:=by
 unfold letExpr;congr 1;induction p.stms with
 | nil=>rfl
 | cons s r ih=>
  cases s with
  | lets n k e=>exact bq (e :: ·) ih
  | observe e=>exact ih
end
theorem eK:∀e:Ex,(Vaprbb.points e).length<=(showExpr e).length+1
 | .lit _ _=>aD _
 | .name _ _=>aD _
 | .nil=>aD _
 | .flip _ _=>by show 1<=_;lia
 | .uniform _ _ _=>by show 1<=_;lia
 | .un _ o a=>by
  have:=eK a;show (Vaprbb.points a).length<=(Vaprbb.unName o++ [40]++showExpr a++ [41]).length+1;simp only [ao,aC];lia
 | .weigh _ w a=>by
  have:=eK a;show (Vaprbb.points a).length<=(word "weigh(" ++showFrac w++word ", " ++showExpr a++ [41]).length+1;simp only [ao,aC];lia
 | .call _ f a=>by
  have:=eK a;show (Vaprbb.points a).length<=(f++ [40]++showExpr a++ [41]).length+1;simp only [ao,aC];lia
 | .pick _ a=>by
  have:=eK a;have w1:(word "pick(").length=5:=rfl;show (Vaprbb.points a).length+1<=(word "pick(" ++showExpr a++ [41]).length+1;simp only [ao,aC];lia
 | .bin _ o a b=>by
  have h1:=eK a;have h2:=eK b;show (Vaprbb.points a++Vaprbb.points b).length<=(Vaprbb.binName o++ [40]++showExpr a++word ", " ++showExpr b++ [41]).length+1;simp only [ao,aC,kc];lia
 | .given _ a b=>by
  have h1:=eK a;have h2:=eK b;show (Vaprbb.points a++Vaprbb.points b).length<=(word "given(" ++showExpr a++word ", " ++showExpr b++ [41]).length+1;simp only [ao,aC,kc];lia
 | .cond _ d a b=>by
  have h0:=eK d;have h1:=eK a;have h2:=eK b;show (Vaprbb.points d++(Vaprbb.points a++Vaprbb.points b)).length<=(word "if(" ++showExpr d++word ", " ++showExpr a++word ", " ++showExpr b++ [41]).length+1;simp only [ao,aC,kc];lia
 | .arg a r=>by
  have h1:=eK a;have h2:=eK r;by_cases hr:r= .nil
  . subst hr;show (Vaprbb.points a++ []).length<=(showExpr a).length+1;rw [bH];exact h1
  . rw [qm hr];show (Vaprbb.points a++Vaprbb.points r).length<=_;simp only [ao,kc];lia
 | .way a w r=>by
  have h1:=eK a;have h2:=eK r;by_cases hr:r= .nil
  . subst hr;show (Vaprbb.points a++ []).length<=(showExpr a++word " : " ++showFrac w).length+1;simp only [bH,ao];lia
  . rw [qo hr];show (Vaprbb.points a++Vaprbb.points r).length<=_;simp only [ao,kc];lia
theorem Hs {l:List α} {f:α->List β} {g:α->List γ} (h:∀x∈l,(f x).length<=(g x).length):(l.flatMap f).length<=(l.flatMap g).length:=by
 induction l with
 | nil=>exact az _
 | cons x l ih=>
  rw [dS,dS,ao,ao];have:=h x bi;have:=ih λy hy=>h y (aW _ hy);lia
theorem Ad (p:Prog):p.points.length<=p.shown.length:=by
 unfold Vaprbb.Prog.points Vaprbb.Prog.shown;have h1:(p.funs.flatMap λf=>Vaprbb.points f.body).length<=(p.funs.flatMap Vaprbb.showFun).length:=Hs λf _=>by
  have:=eK f.body;unfold Vaprbb.showFun;simp only [ao,aC];lia
 have h2:(p.stms.flatMap λs=>Vaprbb.points (exprOf s)).length<=(p.stms.flatMap Vaprbb.showStm).length:=Hs λs _=>by
  cases s with
  | lets n k e=>
   have:=eK e;show (Vaprbb.points e).length<=(_++_++_++_++showExpr e++_++ [10]).length;simp only [ao,aC];lia
  | observe e=>
   have:=eK e;show (Vaprbb.points e).length<=(_++showExpr e++_++ [10]).length;simp only [ao,aC];lia
 simp only [ao];lia
section
variable (hx:∀n,(xn n).length<=3) (hf:∀n,(fn n).length<=3)
include hx hf
theorem eL:∀e:Ex,(showExpr (renamed xn fn e)).length<=3 * (showExpr e).length+3
 | .lit p v=>by show (showExpr (.lit p v)).length<=_;lia
 | .nil=>aD _
 | .flip p v=>by show (showExpr (.flip p v)).length<=_;lia
 | .uniform p lo hi=>by show (showExpr (.uniform p lo hi)).length<=_;lia
 | .name _ n=>by
  have:=hx n;show (xn n).length<=3 * n.length+3;lia
 | .un _ o a=>by
  have:=eL a;show (Vaprbb.unName o++ [40]++showExpr (renamed xn fn a)++ [41]).length<=3 * (Vaprbb.unName o++ [40]++showExpr a++ [41]).length+3;simp only [ao,aC];lia
 | .weigh _ w a=>by
  have:=eL a;show (word "weigh(" ++showFrac w++word ", " ++showExpr (renamed xn fn a)++ [41]).length<=3 * (word "weigh(" ++showFrac w++word ", " ++showExpr a++ [41]).length+3;simp only [ao,aC];lia
 | .call _ f a=>by
  have h1:=eL a;have h2:=hf f;show (fn f++ [40]++showExpr (renamed xn fn a)++ [41]).length<=3 * (f++ [40]++showExpr a++ [41]).length+3;simp only [ao,aC];lia
 | .pick _ a=>by
  have:=eL a;show (word "pick(" ++showExpr (renamed xn fn a)++ [41]).length<=3 * (word "pick(" ++showExpr a++ [41]).length+3;simp only [ao,aC];lia
 | .bin _ o a b=>by
  have h1:=eL a;have h2:=eL b;show (Vaprbb.binName o++ [40]++showExpr (renamed xn fn a)++word ", " ++showExpr (renamed xn fn b)++ [41]).length<=3 * (Vaprbb.binName o++ [40]++showExpr a++word ", " ++showExpr b++ [41]).length+3;simp only [ao,aC,kc];lia
 | .given _ a b=>by
  have h1:=eL a;have h2:=eL b;show (word "given(" ++showExpr (renamed xn fn a)++word ", " ++showExpr (renamed xn fn b)++ [41]).length<=3 * (word "given(" ++showExpr a++word ", " ++showExpr b++ [41]).length+3;simp only [ao,aC,kc];lia
 | .cond _ d a b=>by
  have h0:=eL d;have h1:=eL a;have h2:=eL b;show (word "if(" ++showExpr (renamed xn fn d)++word ", " ++showExpr (renamed xn fn a)++word ", " ++showExpr (renamed xn fn b)++ [41]).length<=3 * (word "if(" ++showExpr d++word ", " ++showExpr a++word ", " ++showExpr b++ [41]).length+3;simp only [ao,aC,kc];lia
 | .arg a r=>by
  have h1:=eL a;have h2:=eL r;show (showExpr (.arg (renamed xn fn a) (renamed xn fn r))).length<=_;by_cases hr:r= .nil
  . subst hr;exact h1
  . rw [qm hr,qm λz=>hr (yr z)];simp only [ao,kc];lia
 | .way a w r=>by
  have h1:=eL a;have h2:=eL r;show (showExpr (.way (renamed xn fn a) w (renamed xn fn r))).length<=_;by_cases hr:r= .nil
  . subst hr;show (showExpr (renamed xn fn a)++word " : " ++showFrac w).length<=3 * (showExpr a++word " : " ++showFrac w).length+3;simp only [ao];lia
  . rw [qo hr,qo λz=>hr (yr z)];simp only [ao,kc];lia
end
theorem El {l:List α} {f g:α->Bytes} (h:∀x∈l,(f x).length<=3 * (g x).length):(l.flatMap f).length<=3 * (l.flatMap g).length:=by
 induction l with
 | nil=>exact az _
 | cons x l ih=>
  rw [dS,dS,ao,ao];have:=h x bi;have:=ih λy hy=>h y (aW _ hy);lia
theorem Lx {ch:UInt8} {l:List Bytes} (h:l.length<=32) (n:Bytes):(byNumber ch l n).length<=3:=by
 show (ch :: showNat (ix l n)).length<=3;have h1:(showNat (ix l n)).length<=2:=iR (k:=2) (by have:=OB l n;lia) ∅;rw [aT];lia
theorem Ae {l:List α} {f g:α->Bytes} (h:∀x∈l,(f x).length<=3 * (g x).length+3):(joined (word ", ") (l.map f)).length<=3 * (joined (word ", ") (l.map g)).length+3 * l.length:=by
 induction l with
 | nil=>exact az _
 | cons x l ih=>
  have h1:=h x bi;have h2:=ih λy hy=>h y (aW _ hy);cases l with
  | nil=>
   show (f x).length<=3 * (g x).length+3 * 1;lia
  | cons y r=>
   show (f x++word ", " ++joined (word ", ") ((y :: r).map f)).length<=3 * (g x++word ", " ++joined (word ", ") ((y :: r).map g)).length+3 * ((y :: r).length+1);simp only [ao,kc];lia
theorem plain_len (hG:GP p):p.plain.shown.length<=3 * p.shown.length+40:=by
 have nR:(letNames p).length<=32:=aP (gQ p) hG.sl;have hfn:(fM p).length<=32:=by rw [aB];have:=hG.fl;lia
 rw [BC];have bx:=Lx (ch:=120) nR;have bf:=Lx (ch:=102) hfn;have h1:((p.funs.map (qu (byNumber 102 (fM p)) (λf=>byNumber 97 (Ai f)))).flatMap Vaprbb.showFun).length<=3 * (p.funs.flatMap Vaprbb.showFun).length:=by
  rw [qQ];refine El λf hf=>?_;have h4:=(hG.fn f hf).pl;have ba:=Lx (ch:=97) (l:=Ai f) (by rw [aB];lia);have e1:=eL ba bf f.body;have e2:=Ae (l:=f.params) (f:=λd:Decl=>byNumber 97 (Ai f) d.name.name++ [32]++showKind d.kind) (g:=Vaprbb.showDecl) λd _=>by
   have:=ba d.name.name;show (byNumber 97 (Ai f) d.name.name++ [32]++showKind d.kind).length<=3 * (d.name.name++ [32]++showKind d.kind).length+3;simp only [ao,aC];lia
  have e3:=bf f.name.name;show (word "def " ++byNumber 102 (fM p) f.name.name++ [40]++joined (word ", ") ((f.params.map λd:Decl=>(#[#[0,byNumber 97 (Ai f) d.name.name],d.kind]:Decl)).map Vaprbb.showDecl)++word ") " ++showKind f.result++word " = " ++showExpr (renamed (byNumber 97 (Ai f)) (byNumber 102 (fM p)) f.body)++word " ;" ++ [10]).length<=3 * (word "def " ++f.name.name++ [40]++joined (word ", ") (f.params.map Vaprbb.showDecl)++word ") " ++showKind f.result++word " = " ++showExpr f.body++word " ;" ++ [10]).length;rw [c9];have e2:(joined (word ", ") (f.params.map (Vaprbb.showDecl∘λd:Decl=>(#[#[0,byNumber 97 (Ai f) d.name.name],d.kind]:Decl)))).length<=_:=e2;simp only [ao,aC,lm,z7,ot,ib];lia
 have h2:((p.stms.map (wT (byNumber 120 (letNames p)) (byNumber 102 (fM p)))).flatMap Vaprbb.showStm).length<=3 * (p.stms.flatMap Vaprbb.showStm).length:=by
  rw [qQ];refine El λs hs=>?_;cases s with
  | lets n k e=>
   have e1:=eL bx bf e;have e2:=bx n.name;cases k with
   | none=>
    show (word "let " ++byNumber 120 (letNames p) n.name++ []++word " = " ++showExpr (renamed (byNumber 120 (letNames p)) (byNumber 102 (fM p)) e)++word " ;" ++ [10]).length<=3 * (word "let " ++n.name++ []++word " = " ++showExpr e++word " ;" ++ [10]).length;simp only [ao,aC,nP,ot,ib,fQ];lia
   | some k=>
    show (word "let " ++byNumber 120 (letNames p) n.name++([32]++showKind k)++word " = " ++showExpr (renamed (byNumber 120 (letNames p)) (byNumber 102 (fM p)) e)++word " ;" ++ [10]).length<=3 * (word "let " ++n.name++([32]++showKind k)++word " = " ++showExpr e++word " ;" ++ [10]).length;simp only [ao,aC,nP,ot,ib];lia
  | observe e=>
   have e1:=eL bx bf e;show (word "observe " ++showExpr (renamed (byNumber 120 (letNames p)) (byNumber 102 (fM p)) e)++word " ;" ++ [10]).length<=3 * (word "observe " ++showExpr e++word " ;" ++ [10]).length;simp only [ao,aC,F7,ib];lia
 have h3:=Ae (l:=p.tells) (f:=λt=>byNumber 120 (letNames p) t.name) (g:=λt=>t.name) λt _=>by
  have:=bx t.name;lia
 have h6:=hG.tl;have e3:(tH [80] (byNumber 120 (letNames p)) (byNumber 102 (fM p)) (λf=>byNumber 97 (Ai f)) p).shown=word "chance " ++ [80]++ [10]++(if p.budget=0 then [] else word "budget " ++showNat p.budget++ [10])++(p.funs.map (qu (byNumber 102 (fM p)) (λf=>byNumber 97 (Ai f)))).flatMap Vaprbb.showFun++(p.stms.map (wT (byNumber 120 (letNames p)) (byNumber 102 (fM p)))).flatMap Vaprbb.showStm++word "tell " ++joined (word ", ") (p.tells.map λt=>byNumber 120 (letNames p) t.name)++ [10]:=by
  unfold tH Vaprbb.Prog.shown;simp only [c9];rfl
 rw [e3];unfold Vaprbb.Prog.shown;simp only [ao,aC,Ln,CO];lia
def zV (l:List Int):List V:=l.map V.int
def cy (l:List Int):(zV l).length=l.length:=aB _
def cX (a b:List Int):zV (a++b)=zV a++zV b:=dX
def Ly (b:Bytes):txt b=zV (b.map λx=>(x.toNat:Int)):=by unfold txt zV;rw [c9];rfl
def Em (k:Kd):kT k=zV (kindRow k):=by cases k <;> rfl
def Ht {l:List Bytes} (h:∀n∈l,n∈cV):Ah cV l=zV ((numbersOf cV l).map λ(n:Nat)=>(n:Int)):=by
 rw [nI h];unfold Ah zV;rw [c9,c9];rfl
def gV (H:Hp) (Q:VK) (l:List Int):= ∀p H',H p=none->aq H H'->H' p=some (.lst (zV l))->Q (.ref p) H'
def gV.on {l:List Int} (h:gV H Q l) (s:aq H H1):gV H1 Q l:=λp H' n s' e=>h p H' (same_none s n) (s.trans s') e
def gV.lit {l:List Int} (h:gV H Q l) (hD:H D=none):Q (.ref D) (upd H D (.lst (zV l))):=h D _ hD (aq.upd hD) aa
def C2 (K:Frag) (c:Cl) (H:Hp) (v:V) (p:Prog) (En:oF):= ∃a dx pv kd fb pb ln fm cl Ax,v= .ref a/\H a=some (.ins c.ld dx [("program",pv),("let_kinds",.ref kd),("form_bytes",.ref fb),("plain_bytes",.ref pb),("let_names",.ref ln),("function_names",.ref fm),("called",.ref cl)])/\EJ K c H pv p/\Nt K H kd En/\FL H fb (txt p.shown)/\FL H pb (txt p.plain.shown)/\FL H ln (mY (letNames p))/\FL H fm (mY (fM p))/\FL H cl Ax/\A2 (QP (fM p) H) Ax p.funs
theorem C2.Y (C:CT K c) (h:C2 K c H v p En) (i:bW c H H'):C2 K c H' v p En:=by
 ext h a dx pv kd fb pb ln fm cl Ax e ha h1 h2 h3 h4 h5 h6 h7 h8;exists a,dx,pv,kd,fb,pb,ln,fm,cl,Ax,e,i _ _ ha C.Se,h1.Y C i,h2.Y i,h3.mono i,h4.mono i,h5.mono i,h6.mono i,h7.mono i,h8.mono λ_ _ z=>z.Y i
def _root_.L2.FL.sb {x:Addr} {C:Addr} {fs:List (Str×V)} (f:FL H a xs) (e:H x=some (.ins C dx fs)) (s:Sb x H H'):FL H' a xs:=by
 ext f o h;exists o,s _ _ h λz=>by subst z;rw [h] at e;cases e
inductive Af: #v[0] | mk {K c vs H Q E:_} na l:vs= [.ref na]->Rd H na (.lst (zV l))->l.length < 16777216->gV H Q ((l.length:Int) :: l)->Af K c vs H Q E
theorem gj:AA.h0 1 "counted" ["numbers"] Af:=by
 nomatch ["numbers"]
 ext h na l rfl hr hl q;nomatch 1,yj,aM aJ
 have hb:=gS;have sq:cw K H na (zV l):= .inl hr;exists na,zV l,U,.inl sq,kg,λD hD=>?_;have s0:=aq.upd (o:= .lst [V.int ((zV l).length:Nat)]) hD;exists D,na,[V.int ((zV l).length:Nat)],zV l,U,U,aa,?_,?_,λD2 eP=>?_
 . rcases hr with e | ⟨o,e⟩
   . exact .inl (s0 _ _ e)
   . exact .inr #[o,s0 _ _ e]
 . rw [cy,aC];lia
 . refine q D2 _ (same_none s0 eP) (s0.trans (aq.upd eP)) ?_;rw [aa,cy];rfl
inductive ou: #v[0] | mk {K c vs H Q E:_} b:vs= [.str (aR b)]->b.length<=4097->gV H Q (textRow b)->ou K c vs H Q E
theorem i9:AA.h0 2 "name_numbers" ["name"] ou:=by
 nomatch ["name","sign"]
 ext h b rfl hl q;nomatch 1,gj,iA (JP (pv 0)) [("sign",1)] (λ_ _ _ _ _=>(bL 1)) (λ_ _ _ _ _=>(aM Db (pU (pv 1))))
 have hb:=gS;exists _,U,λD hD=>?_;have T6:(aR b).cps.size=b.length:=aK _;refine JY (txt b) (by rw [T6,cD]) hD (by lia) (λi cc y H6 R hx hy s6 k=>?_) λH6 s6 h6=>?_
 . have e2:y= .int (cc:Nat):=by
    rw [zR] at hx;unfold txt at hy;rw [bA] at hy;cases hz:b[i]? with
    | none=>rw [hz] at hy;cases hy
    | some z=>rw [hz] at hx hy;cases hx;cases hy;rfl
   rw [e2] at k;exists U,_,U,U,k
 . rw [Ly] at h6;exists D,_,U,.inl h6,by rw [aB];lia,?_;rw [aB];exact gV.on q s6
inductive Eo: #v[0] | mk {K c vs H Q E:_} v p En:vs= [v]->C2 K c H v p En->Wp p En->gV H Q (textRow p.shown)->Eo K c vs H Q E
theorem Lz:AA.h0 2 "shown" ["loaded"] Eo:=by
 nomatch ["loaded"]
 ext h v p En rfl hL hW q;nomatch 1,gj
 obtain ⟨a,dx,pv,kd,fb,pb,ln,fm,cl,Ax,rfl,ha,h1,h2,h3,h4,h5,h6,h7,h8⟩:=id hL;have hs:=hW.sh;ext h3 o e;rw [Ly] at e;refine fr ha U #[fb,_,U,.inr #[o,e],by rw [aB];lia,?_];rw [aB];exact q
inductive Ep: #v[0] | mk {K c vs H Q E:_} v p En:vs= [v]->C2 K c H v p En->Wp p En->gV H Q (textRow p.plain.shown)->Ep K c vs H Q E
theorem LA:AA.h0 2 "plain" ["loaded"] Ep:=by
 nomatch ["loaded"]
 ext h v p En rfl hL hW q;nomatch 1,gj
 obtain ⟨a,dx,pv,kd,fb,pb,ln,fm,cl,Ax,rfl,ha,h1,h2,h3,h4,h5,h6,h7,h8⟩:=id hL;have hs:=hW.sh;have hp:=plain_len hW.gp;ext h4 o e;rw [Ly] at e;refine fr ha U #[pb,_,U,.inr #[o,e],by rw [aB];lia,?_];rw [aB];exact q
inductive Er: #v[0] | mk {K c vs H Q E:_} v p En:vs= [v]->C2 K c H v p En->Wp p En->gV H Q [(p.stms.length:Int),(p.lets.length:Int),(p.funs.length:Int),(p.tells.length:Int),(p.budget:Int)]->Er K c vs H Q E
theorem LC:AA.h0 1 "sizes" ["loaded"] Er:=by
 nomatch ["loaded","program"]
 ext h v p En rfl hL hW q;nomatch 2,1,aM aJ,aM aJ,aM aJ,aM aJ
 obtain ⟨a,dx,pv,kd,fb,pb,ln,fm,cl,Ax,rfl,ha,h1,h2,h3,h4,h5,h6,h7,h8⟩:=id hL;obtain ⟨b,db,fl,sl,tl,fs,ss,ts,rfl,hb,f1,A1,f2,As,f3,A3⟩:=id h1;have l1:=A1.len;have l2:=As.len;have l3:=A3.len;have l4:(mY (letNames p)).length=p.lets.length:=by rw [h_,qA hW.ev,<-rE hW.ev,aB]
 refine fr ha U ?_;refine fr hb U #[sl,ss,U,.inl f2.sq,fr ha U #[ln,_,U,.inl h5.sq,fr hb U #[fl,fs,U,.inl f1.sq,fr hb U #[tl,ts,U,.inl f3.sq,fr hb U #[kg,λD hD=>?_]]]]];rw [l1,l2,l3,l4];exact gV.lit q hD
inductive xP: #v[0] | mk {K c vs H Q E:_} (k:Int):vs= [.int k]->(∀H',aq H H'->Q (.bl (decide (k=0\/k=5\/k=9))) H')->xP K c vs H Q E
theorem Es:AA.h0 1 "has_text" ["number"] xP:=by
 nomatch ["number"]
 ext h k rfl q;nomatch 1,eD,T.Fh,T.Fk,T.J9
 exists kg,λD hD=>?_;exists D,_,U,.inr (.inl (.inl aa)),U,U,?_;have q:=q _ (aq.upd (o:= .tup [.int 0,.int 5,.int 9]) hD);have e:inV (.int k) [.int 0,.int 5,.int 9]=decide (k=0\/k=5\/k=9):=by
  show (((0:Int) == k) || (((5:Int) == k) || (((9:Int) == k) || false)))=_;rw [b8];simp only [ir,lN,bO,dr];lia
 rw [ae aO,e];exact q
inductive sE: #v[0] | mk {K c vs H Q E:_} (k:Int):vs= [.int k]->(∀H',aq H H'->Q (.bl (decide (k=3\/k=4))) H')->sE K c vs H Q E
theorem Ay:AA.h0 1 "has_number" ["number"] sE:=by
 nomatch ["number"]
 ext h k rfl q;nomatch 1,eD,T.Fi,T.Fj
 exists kg,λD hD=>?_;exists D,_,U,.inr (.inl (.inl aa)),U,U,?_;have q:=q _ (aq.upd (o:= .tup [.int 3,.int 4]) hD);have e:inV (.int k) [.int 3,.int 4]=decide (k=3\/k=4):=by
  show (((3:Int) == k) || (((4:Int) == k) || false))=_;rw [b8];simp only [ir,lN,bO,dr];lia
 rw [ae aO,e];exact q
inductive ke: #v[0] | mk {K c vs H Q E:_} x dx:vs= [.ref x]->H x=some (.ins c.hold dx [])->(∀H':Hp,H' x=some (.ins c.hold dx [("loaded",.cx)])->(∀b o,H b=some o->b≠x->H' b=some o)->Q .cx H')->ke K c vs H Q E
def tN:AA.c0 1 c.hold "Holder" ["self"] ke:=by
 refine AA.i0 AA.kF (N:= ["self"]) λT C FT H Q E nN hr h=>?_;ext h x dx rfl hx k;nomatch 1
 refine fw hx ?_;exact k _ aa λb o e ne=>by rw [aA ne];exact e
inductive Et: #v[0] | mk {K c vs H Q E:_} v p En:vs= [v]->C2 K c H v p En->Wp p En->gV H Q ((p.tells.length:Int) :: (numbersOf (letNames p) (p.tells.map λt=>t.name)).map λ(n:Nat)=>(n:Int))->Et K c vs H Q E
theorem LD:AA.h0 2 "tells" ["loaded"] Et:=by
 nomatch ["loaded","token"]
 ext h v p En rfl hL hW q;nomatch 1,gj,iA (bD (b_ (b_ (pv 0)))) [("token",1)] (λ_ _ _ _ _=>(bL 1)) (λ_ _ _ _ _=>(JW (K:=K) rfl vB vC AK (Bj (K:=K) rfl) (fz (K:=K) rfl (pv 0) rfl) (pU (fz (K:=K) rfl (pv 1) rfl))))
 obtain ⟨a,dx,pv,kd,fb,pb,ln,fm,cl,Ax,rfl,ha,h1,h2,h3,h4,h5,h6,h7,h8⟩:=id hL;obtain ⟨b,db,fl,sl,tl,fs,ss,ts,rfl,hb,f1,A1,f2,As,f3,A3⟩:=id h1;have l3:=A3.len;have h6':=hW.gp.tl;have hM:=tM hW.nr;have jm:=gS;have hin:∀m∈p.tells.map (λt=>t.name),m∈letNames p:=λm hm=>by
  obtain ⟨t,ht,rfl⟩:=ci.mp hm;exact hM.tl t ht
 refine fr ha U (fr hb U #[tl,U,#[ts,f3.sq],λD hD=>?_]);refine jR (K:=K) (a:=tl) (xs:=ts) (Ah (letNames p) (p.tells.map λt=>t.name)) (by rw [rD,aB,l3]) hD f3.sq (by lia) (λi x y H4 R hx hy s4 k=>?_) λH4 s4 h4'=>?_
 . obtain ⟨tn,htn,VW⟩:=A3.get hx;obtain ⟨m,hm,rfl⟩:=zS hy;rw [bA,htn] at hm;cases hm;have hmm:=hM.tl tn (bc htn);obtain ⟨at',rfl,bh,dt,hat⟩:=Kx.Y C VW s4.Y;obtain ⟨hx1,hx2⟩:=wR hmm;exists U,fr (s4 _ _ ha) U #[WZ (h5.app s4),fr hat U #[ln,mY (letNames p),_,ix (letNames p) tn.name,_,U,U,(h5.app s4).sq,U,CH _,CI hx1,lC (aR tn.name),λj z hj hz=>?_,k H4 (aq.refl _)]];obtain ⟨m2,hm2,rfl⟩:=kY hz;have:=hx2 j m2 hj hm2;show (aR m2 == aR tn.name)=false;exact c4.mpr λz=>this (mx z)
 . rw [Ht hin] at h4';have hl:((numbersOf (letNames p) (p.tells.map λt=>t.name)).map λ(n:Nat)=>(n:Int)).length=p.tells.length:=by rw [aB,nI hin,aB,aB]
   exists D,_,U,.inl h4',by lia,?_;rw [hl];exact gV.on q s4
def CQ {i:Int} (h:¬(0<=i/\i < (p.lets.length:Int))):encode (letsAnswer p i)= [-2]:=by
 unfold Vaprbb.letsAnswer index;rw [ae h];rfl
theorem Hu {k:Nat} {x:Bytes×Kd} (hk:k < p.lets.length) (h1:p.lets[k]? = some x) (h2:letExpr p k=some e):encode (letsAnswer p (k:Int))=1 :: (textRow x.1++kindRow x.2++listRow (numbersOf (letNames p) (mentions [] e))++listRow (numbersOf (fM p) (Vaprbb.calls [] e))):=by
 unfold Vaprbb.letsAnswer index;rw [ah #[by lia,by lia]];simp only [qI];rw [h1,h2];rfl
def CU {i:Int} (h:¬(0<=i/\i < (p.funs.length:Int))):encode (funsAnswer p i)= [-2]:=by
 unfold Vaprbb.funsAnswer index;rw [ae h];rfl
theorem Hv {k:Nat} (h1:p.funs[k]? = some f):encode (funsAnswer p (k:Int))=1 :: (textRow f.name.name++((f.params.length:Int) :: f.params.flatMap λd=>textRow d.name.name++kindRow d.kind)++kindRow f.result
 ++listRow (numbersOf (fM p) (Vaprbb.calls [] f.body))++ [if recursive p f.name.name=true then 1 else 0]):=by
 unfold Vaprbb.funsAnswer index;have hk:k < p.funs.length:=(bj.mp h1).1;rw [ah #[by lia,by lia]];simp only [qI,Option.bind_some];rw [h1];rfl
def vj {p:Prog} (g:gd e 0) (h:oG N1 N2 e):zT zP "name" N1 e/\zT zQ "call" N2 e:=#[Nv g λk hk q n ek=>(h k hk).1 q n ek,Nw g λk hk q n x ek=>(h k hk).2 q n x ek]
def Eu (h:oG N1 N2 e):(∀n∈mentions [] e,n∈N1)/\∀n∈Vaprbb.calls [] e,n∈N2:=by
 constructor
 . intro n hn;rw [bI] at hn;rcases uW hn with h' | ⟨k,hk,ek⟩
   . cases h'
   . cases k with
     | name q m=>cases ek;exact (h _ hk).1 q _ rfl
     | lit q v=>cases v <;> cases ek
     | _=>cases ek
 . intro n hn;rw [ca] at hn;rcases uW hn with h' | ⟨k,hk,ek⟩
   . cases h'
   . cases k with
     | call q m x=>cases ek;exact (h _ hk).2 q _ x rfl
     | lit q v=>cases v <;> cases ek
     | _=>cases ek
theorem CV (hz:sz e<=4097):(mentions [] e).length<=4097/\(Vaprbb.calls [] e).length<=4097:=by
 have h1:=uX (sel:=zP) (es:=subs e) (l:= []);have h2:=uX (sel:=zQ) (es:=subs e) (l:= []);rw [bI,ca];rw [cj,fQ] at h1 h2;lia
def d9 (k:Kd):(kindRow k).length<=3:=by
 cases k with
 | flag=>decide
 | num lo hi=>exact az 3
def ck (b:Bytes):(textRow b).length=b.length+1:=by show ((b.length:Int) :: b.map _).length=_;rw [aT,aB]
def fE {l:List Bytes} (h:∀n∈l,n∈cV):listRow (numbersOf cV l)=(((numbersOf cV l).map λ(n:Nat)=>(n:Int)).length:Int) :: (numbersOf cV l).map λ(n:Nat)=>(n:Int):=by
 rw [aB];rfl
def fk {l:List Bytes} (h:∀n∈l,n∈cV):((numbersOf cV l).map λ(n:Nat)=>(n:Int)).length=l.length:=by rw [aB,nI h,aB]
inductive BH: #v[0] | mk {K c vs H Q E:_} v p En:vs= [v]->C2 K c H v p En->Wp p En->gV H Q ((p.points.length:Int) :: p.points.flatMap λx=> [(x.1:Int),(x.2:Int)])->BH K c vs H Q E
theorem IL:AA.h0 27 "points" ["loaded"] BH:=by
 nomatch ["loaded","found","answer","point"]
 ext h v p En rfl hL hW q;nomatch 2,1,CK,2,aM aJ,bD,3,cH dB,cr fo,0
 have jm:=gS;obtain ⟨a,dx,pv,kd,fb,pb,ln,fm,cl,Ax,rfl,ha,h1,h2,h3,h4,h5,h6,h7,h8⟩:=id hL;have g6:=Ad p;have hsh:=hW.sh;refine fr ha U #[pv,p,U,h1,hW.gp,λl ws H1 nl s1 hw hA=>?_];have hl:=hA.len;exists l,ws,U,.inl (cw.of hw),kg,λD hD=>?_;have s2:=aq.upd (o:= .lst [V.int (ws.length:Nat)]) hD;have ZM:l≠D:=λz=>by rw [z,hD] at hw;cases hw
 have EK:=same_none s1 hD;exists l,U,#[ws,cw.of (s2 _ _ hw)],cC (K:=K) (a:=l) (xs:=ws) (λi Z H'=> ∃v3:Option V,Z= [some (.ref a),some (.ref l),some (.ref D),v3]/\aq H1 H'/\H' D=some (.lst (zV ((p.points.length:Int) :: (p.points.take i).flatMap λx=> [(x.1:Int),(x.2:Int)]))))
  #[none,rfl,s2,by rw [aa,hl];rfl] (λi Z H' _ #[_,_,s,_]=>cw.of (s _ _ hw)) ?_ ?_
 . rintro i x Z H' hi ⟨v3,rfl,s,mC⟩;obtain ⟨pt,SN,ax,rfl,hax⟩:=hA.get hi;have hil:i < ws.length:=(bj.mp hi).1;have ht:(p.points.take (i+1)).flatMap (λx=> [(x.1:Int),(x.2:Int)])=(p.points.take i).flatMap (λx=> [(x.1:Int),(x.2:Int)])++ [(pt.1:Int),(pt.2:Int)]:=by
    obtain ⟨hl',e'⟩:=bj.mp SN;rw [ej hl',dD,e'];rfl
   have hfl:((p.points.take i).flatMap λx=> [(x.1:Int),(x.2:Int)]).length<=2 * i:=by
    rw [vK];have:∀l:List (Nat×Nat),(l.map λx=> [(x.1:Int),(x.2:Int)].length).sum=2 * l.length:=λl=>by
     induction l with
     | nil=>rfl
     | cons y l ih=>rw [bF,lS,ih];show 2+2 * l.length=2 * (l.length+1);lia
    rw [this,il];exact Nat.mul_le_mul_left 2 (Nat.min_le_left _ _)
   exists oA mC,ax,_,U,.inr (.inl (.inl (s _ _ hax))),λL hL'=>?_;have sL:=aq.upd (o:= .lst [.int (pt.1:Nat),.int (pt.2:Nat)]) hL';exists D,L,_,_,U,U,sL _ _ mC,aa,?_,?_
   . rw [cy,aT];show _+2<=sizeLine;lia
   . exists _,U,(s.trans sL).bM hD,?_;rw [aa,ht,<-lK,cX];rfl
 . rintro Z H' ⟨v3,rfl,s,mC⟩;rw [hl,cK] at mC;refine q D H' EK (s1.trans s) mC
inductive Hw: #v[0] | mk {K c vs H Q E:_} v p En (i:Int):vs= [v,.int i]->C2 K c H v p En->Wp p En->gV H Q (encode (letsAnswer p i))->Hw K c vs H Q E
theorem NF:AA.h0 28 "lets" ["loaded","number"] Hw:=by
 nomatch ["loaded","number","name","expression","answer"]
 ext h v p En i rfl hL hW q;nomatch 2,eV,Ju,aM aJ,T.wG,2,bR,3,bR,zF,4,cH dB,i9,cH dB,cr fo,ic (b_ (pv 0)) (pv 2),cH dB,gj,x8,cH dB,gj,u0,0
 have jm:=gS;obtain ⟨a,dx,pv,kd,fb,pb,ln,fm,cl,Ax,rfl,ha,h1,h2,h3,h4,h5,h6,h7,h8⟩:=id hL;have hnames:=rE hW.ev;have Ev:=qA hW.ev;have hlen:(letNames p).length=p.lets.length:=by rw [Ev,<-hnames,aB]
 exists _,_,U,U,_,U,bG (λe1=>bC U ?_) λe1=>?_
 . have e1:i < 0:= ~~~e1
   rw [CQ (by lia)] at q;exists kg,λD hD=>gV.lit q hD
 have e1:¬i < 0:= ~~~e1
 refine fr ha U #[ln,_,U,.inl h5.sq,_,_,U,U,_,U,bG (λe2=>?_) λe2=>?_]
 . have e2:i>=(((mY (letNames p)).length:Nat):Int):= ~~~e2
   rw [h_,hlen] at e2;rw [CQ (by lia)] at q;exists kg,λD hD=>gV.lit q hD
 have e2:¬i>=(((mY (letNames p)).length:Nat):Int):= ~~~e2
 rw [h_,hlen] at e2;obtain ⟨k,rfl⟩:∃k:Nat,i=(k:Int):=#[i.toNat,by lia];have hk:k < p.lets.length:=by lia
 obtain ⟨x,hx⟩:∃x,p.lets[k]? = some x:=#[_,bB hk];have I_:En[k]? = some x:=by rw [<-Ev];exact hx
 have nR:(letNames p)[k]? = some x.1:=by rw [<-hnames,bA,I_];rfl
 have hkind:Vaprbb.Env.kind En x.1=some x.2:=IK (by rw [hnames];exact Lv hW.nr) I_;have hfl:(p.stms.filter isLet).length=p.lets.length:=by rw [<-hlen,dm,aB]
 obtain ⟨st,fZ⟩:∃st,(p.stms.filter isLet)[k]? = some st:=#[_,bB (by lia)];have hle:letExpr p k=some (exprOf st):=by rw [Ac,bA,fZ];rfl
 have IM:=ip.mp (bc fZ);have bQ:=(tM hW.nr).sb st IM.1;have hgs:=hW.gp.st st IM.1;rw [Hu hk hx hle] at q;cases st with
 | observe e=>exact Bool.noConfusion (show false=true from IM.2)
 | lets nn o e=>
  have gx:GX e:=hgs.2.2;have bQ:oG (letNames p) (fM p) e:=bQ;have q:gV H Q (1 :: (textRow x.1++kindRow x.2++listRow (numbersOf (letNames p) (mentions [] e))++listRow (numbersOf (fM p) (Vaprbb.calls [] e)))):=q;obtain ⟨hm1,hm2⟩:=Eu bQ;obtain ⟨hs1,hs2⟩:=vj (p:=p) gx.1 bQ;obtain ⟨hz1,hz2⟩:=CV gx.2.2;have VY:x.1.length<=16:=by
   have hm:x.1∈letNames p:=bc nR;rw [dm] at hm;obtain ⟨s',hs',e'⟩:=ci.mp hm;have hs':=ip.mp hs';have:=hW.gp.st s' hs'.1;cases s' with
   | observe e=>exact Bool.noConfusion (show false=true from hs'.2)
   | lets n2 k2 e2=>rw [<-e'];exact this.1
  refine fr ha U #[ln,_,k,_,U,U,h5.sq,dA (CI nR),?_];refine fr ha U #[pv,p,U,h1,hW.gp.sl,λla ws H1 s1 fl hA=>?_];have hA:A2 (EI K c H1) ws (p.stms.filter isLet):=hA;obtain ⟨ZN,VZ,hxs⟩:=hA.get' fZ;ext hxs as ZO wv ev rfl has hwr hev;exists la,ws,k,_,U,U,fl.sq,dA VZ,fr has U ?_;exists kg,λD hD=>?_;have u1:=aq.upd (o:= .lst (zV [1])) hD;have EK:=same_none s1 hD;exists oA aa,x.1,U,by lia,λp1 H2 n2 s2 hp1=>?_;have eP:=s2 _ _ (aa (H:=H1) (a:=D) (o:= .lst (zV [1])));exists D,p1,zV [1],_,U,U,eP,hp1,by rw [cy,cy,ck,aC];lia,?_;have u2:aq H1 (upd H2 D (.lst (zV [1]++zV (textRow x.1)))):=(u1.trans s2).bM hD;rw [<-cX] at u2 ⊢;have mX:(upd H2 D (.lst (zV ([1]++textRow x.1)))) D=some (.lst (zV ([1]++textRow x.1))):=aa;revert u2 mX;generalize (upd H2 D (.lst (zV ([1]++textRow x.1))))=H3;intro u2 mX;have t2:=s1.trans u2;obtain ⟨aG,Y1,rel⟩:=h2.Y (c:=c) t2.Y;have r1:=rel x.1;rw [hkind] at r1;cases hv2:cq aG (nk x.1) with
  | none=>rw [hv2] at r1;exact r1.elim
  | some vv=>
   rw [hv2] at r1;ext r1 ak rfl hak;exists oA mX,fr (t2 _ _ ha) U #[kd,_,U,hv2 ▸ Y1.rd.get x.1,ak,_,U,.inr hak,λL hL'=>?_];have sL:=aq.upd (o:= .lst (kT x.2)) hL';have hkl:=d9 x.2;exists D,L,_,_,U,U,sL _ _ mX,aa,by rw [cy,Em,cy,ao,ck,aC];lia,?_;have u3:=(u2.trans sL).bM (o:= .lst (zV ([1]++textRow x.1)++kT x.2)) hD;have oI:(upd (upd H3 L (.lst (kT x.2))) D (.lst (zV ([1]++textRow x.1)++kT x.2))) D=some (.lst (zV ([1]++textRow x.1++kindRow x.2))):=by rw [aa,Em,<-cX]
   revert u3 oI;generalize (upd (upd H3 L (.lst (kT x.2))) D (.lst (zV ([1]++textRow x.1)++kT x.2)))=H4;intro u3 oI;have t3:=s1.trans u3;exists oA oI,fr (t3 _ _ ha) U #[ev,e,ln,letNames p,U,gx,hev.Y C u3.Y,h5.app t3,hs1,?_,λp2 H5 n5 s5 hp2=>?_]
   . have:=gQ p;have:=hW.gp.sl;lia
   rw [Ht hm1] at hp2;have Y2:=fk hm1;have V0:=fk hm2;exists p2,_,U,.inl hp2,by lia,λp3 H6 n6 s6 hp3=>?_;rw [<-fE hm1] at hp3;have V1:(listRow (numbersOf (letNames p) (mentions [] e))).length=(mentions [] e).length+1:=by rw [fE hm1,aT,Y2]
   have QR:(listRow (numbersOf (fM p) (Vaprbb.calls [] e))).length=(Vaprbb.calls [] e).length+1:=by rw [fE hm2,aT,V0]
   have QS:=s6 _ _ (s5 _ _ oI);exists D,p3,_,_,U,U,QS,hp3,by rw [cy,cy,V1,ao,ao,ck,aC];lia,?_;have u4:=(u3.trans (s5.trans s6)).bM (o:= .lst (zV ([1]++textRow x.1++kindRow x.2)++zV (listRow (numbersOf (letNames p) (mentions [] e))))) hD;have NI:(upd H6 D (.lst (zV ([1]++textRow x.1++kindRow x.2)++zV (listRow (numbersOf (letNames p) (mentions [] e)))))) D=some (.lst (zV ([1]++textRow x.1++kindRow x.2++listRow (numbersOf (letNames p) (mentions [] e))))):=by rw [aa,<-cX]
   revert u4 NI;generalize (upd H6 D (.lst (zV ([1]++textRow x.1++kindRow x.2)++zV (listRow (numbersOf (letNames p) (mentions [] e))))))=H7;intro u4 NI;have t4:=s1.trans u4;exists oA NI,fr (t4 _ _ ha) U #[ev,e,fm,fM p,U,gx,hev.Y C u4.Y,h6.app t4,hs2,?_,λp4 H8 s8 QK=>?_]
   . rw [aB];have:=hW.gp.fl;lia
   rw [Ht hm2] at QK;ext QK o4 QK;exists p4,_,U,.inr #[o4,QK],by lia,λp5 H9 n9 s9 M6=>?_;rw [<-fE hm2] at M6;have T8:=s9 _ _ (s8 _ _ NI);exists D,p5,_,_,U,U,T8,M6,by rw [cy,cy,QR,ao,ao,ao,V1,ck,aC];lia,?_;refine q D _ EK ((t4.trans (s8.trans s9)).bM EK) ?_;rw [aa,<-cX];simp only [bz,lK,lO]
def dj (d:Decl):List Int:=textRow d.name.name++kindRow d.kind
theorem qB {l:List Decl} (h:∀d∈l,tS d.name.name/\li d.kind):(l.flatMap dj).length<=20 * l.length:=by
 induction l with
 | nil=>exact az _
 | cons d l ih=>
  have h1:=ih λx hx=>h x (aW _ hx);have h2:d.name.name.length<=16:=(h d bi).1;have h3:=d9 d.kind;have h4:(dj d).length<=20:=by
   unfold dj;rw [ao,ck];lia
  rw [dS,ao,aT];lia
def IP {l:List α} {x:α} {f:α->List Int} (h:l[i]? = some x):(l.take (i+1)).flatMap f=(l.take i).flatMap f++f x:=by
 obtain ⟨hi,e⟩:=bj.mp h;rw [ej hi,dD,e];simp
def Ew (p:Prog) (En:oF) (b:Bytes):Except Fault Kd:=VaprbBase.tokens b >>= λl=>(takeExpr 24 l >>= λx=>(if next .halt_ x.2=false then wrong x.2 else .ok ()) >>= λ_=> .ok x.1) >>= λe=>named p (letNames p) e >>= λ_=>kindOf p En e
def SX {d:Addr} (he:p.env= .ok En) (h:Nt K H d En):Qa H d (letNames p):=by
 ext h aG f r;exists aG,f.rd,λn=>?_;rw [BG he];have:=r n;cases h1:Vaprbb.Env.kind En n with
 | none=>rw [h1] at this;cases h2:cq aG (nk n) with | none=>rfl | some v=>rw [h2] at this;exact this.elim
 | some k=>rw [h1] at this;cases h2:cq aG (nk n) with | none=>rw [h2] at this;exact this.elim | some v=>rfl
inductive Hx: #v[0] | mk {K c vs H Q E:_} v p En (i:Int):vs= [v,.int i]->C2 K c H v p En->Wp p En->gV H Q (encode (funsAnswer p i))->Hx K c vs H Q E
theorem NK:AA.h0 3 "funs" ["loaded","number"] Hx:=by
 nomatch ["loaded","number","function","answer","parameter"]
 ext h v p En i rfl hL hW q;nomatch 2,eV,Ju,aM aJ,T.wG,2,bR,3,cH dB,i9,cH bN,aM aJ,bD,4,cH dB,i9,cH dB,cr fo,cH dB,cr fo,cH dB,gj,bR,cH bN,x9,0
 have jm:=gS;obtain ⟨a,dx,pv,kd,fb,pb,ln,fm,cl,Ax,rfl,ha,h1,h2,h3,h4,h5,h6,h7,h8⟩:=id hL;have hlen:(mY (fM p)).length=p.funs.length:=by rw [h_,aB]
 exists _,_,U,U,_,U,bG (λe1=>bC U ?_) λe1=>?_
 . have e1:i < 0:= ~~~e1
   rw [CU (by lia)] at q;exists kg,λD hD=>gV.lit q hD
 have e1:¬i < 0:= ~~~e1
 refine fr ha U #[fm,_,U,.inl h6.sq,_,_,U,U,_,U,bG (λe2=>?_) λe2=>?_]
 . have e2:i>=(((mY (fM p)).length:Nat):Int):= ~~~e2
   rw [hlen] at e2;rw [CU (by lia)] at q;exists kg,λD hD=>gV.lit q hD
 have e2:¬i>=(((mY (fM p)).length:Nat):Int):= ~~~e2
 rw [hlen] at e2;obtain ⟨k,rfl⟩:∃k:Nat,i=(k:Int):=#[i.toNat,by lia];have hk:k < p.funs.length:=by lia
 obtain ⟨f',hf⟩:∃x,p.funs[k]? = some x:=#[_,bB hk];have hfm:=bc hf;have hG:=hW.gp.fn f' hfm;rw [Hv hf] at q;obtain ⟨b,db,fl,sl,tl,fs,ss,ts,rfl,hb,f1,A1,f2,As,f3,A3⟩:=id h1;obtain ⟨vf,Y3,Y4⟩:=A1.get' hf;obtain ⟨af,df,pl,kv,bv,ps,rfl,haf,fp,Qc,⟨ak,rfl,hak⟩,hbv⟩:=id Y4;have lp:=Qc.len;have h4':=hG.pl;have VY:f'.name.name.length<=16:=hG.nm;refine fr ha U (fr hb U #[fl,fs,k,_,U,U,f1.sq,dA Y3,?_]);exists kg,λD hD=>?_;have u1:=aq.upd (o:= .lst (zV [1])) hD;exists oA aa,fr (u1 _ _ haf) U #[f'.name.name,U,by lia,λp1 H2 n2 s2 hp1=>?_];have eP:=s2 _ _ (aa (H:=H) (a:=D) (o:= .lst (zV [1])));exists D,p1,zV [1],_,U,U,eP,hp1,by rw [cy,cy,ck,aC];lia,?_;have u2:aq H (upd H2 D (.lst (zV [1]++zV (textRow f'.name.name)))):=(u1.trans s2).bM hD;have mX:(upd H2 D (.lst (zV [1]++zV (textRow f'.name.name)))) D=some (.lst (zV ([1]++textRow f'.name.name))):=by rw [aa,<-cX]
 revert u2 mX;generalize (upd H2 D (.lst (zV [1]++zV (textRow f'.name.name))))=H3;intro u2 mX;exists oA mX,fr (u2 _ _ haf) U #[pl,ps,U,.inl (fp.app u2).sq,D,_,_,U,U,mX,by rw [cy,ao,ck,aC];lia,?_];have u3:aq H (upd H3 D (.lst (zV ([1]++textRow f'.name.name)++ [V.int (ps.length:Nat)]))):=u2.bM hD;have oI:(upd H3 D (.lst (zV ([1]++textRow f'.name.name)++ [V.int (ps.length:Nat)]))) D=some (.lst (zV ([1]++textRow f'.name.name++ [(f'.params.length:Int)]++(f'.params.take 0).flatMap dj))):=by
  rw [aa,lp,lQ,vY,bH,cX _ [(f'.params.length:Int)]];rfl
 revert u3 oI;generalize (upd H3 D (.lst (zV ([1]++textRow f'.name.name)++ [V.int (ps.length:Nat)])))=H4;intro u3 oI;refine fr (u3 _ _ haf) U ⟨pl,U,#[ps,(fp.app u3).sq],cC (K:=K) (a:=pl) (xs:=ps) (λj Z H'=> ∃v4:Option V,Z= [some (.ref a),some (.int (k:Nat)),some (.ref af),some (.ref D),v4]/\aq H H'/\H' D=some (.lst (zV ([1]++textRow f'.name.name++ [(f'.params.length:Int)]++(f'.params.take j).flatMap dj))))
  #[none,rfl,u3,oI] (λi Z H' _ #[_,_,s,_]=>(fp.app s).sq) ?_ ?_⟩
 . rintro j y Z H' hj ⟨v4,rfl,s,mC⟩;obtain ⟨d,hd,hy⟩:=Qc.get hj;have hdm:=bc hd;obtain ⟨ap,dp,VL,rfl,hap,⟨Y5,rfl,V2⟩⟩:=id hy;obtain ⟨wn,wk⟩:=hG.pw d hdm;have wn:d.name.name.length<=16:=wn;have hjl:j < ps.length:=(bj.mp hj).1;have SY:=qB (l:=f'.params.take j) λx hx=>hG.pw x (List.mem_of_mem_take hx);have htl:(f'.params.take j).length<=4:=by rw [il];lia
   have hrl:([1]++textRow f'.name.name++ [(f'.params.length:Int)]++(f'.params.take j).flatMap dj).length<=200:=by
    rw [ao,ao,ao,ck,aC,aC];lia
   exists oA mC,fr (s _ _ hap) U #[d.name.name,U,by lia,λp1 H5 n5 s5 hp1=>?_];exists D,p1,_,_,U,U,s5 _ _ mC,hp1,by rw [cy,cy,ck];lia,?_;have u5:=(s.trans s5).bM (o:= .lst (zV ([1]++textRow f'.name.name++ [(f'.params.length:Int)]++(f'.params.take j).flatMap dj)++zV (textRow d.name.name))) hD;have Jb:(upd H5 D (.lst (zV ([1]++textRow f'.name.name++ [(f'.params.length:Int)]++(f'.params.take j).flatMap dj)++zV (textRow d.name.name)))) D=some (.lst (zV ([1]++textRow f'.name.name++ [(f'.params.length:Int)]++(f'.params.take j).flatMap dj++textRow d.name.name))):=by rw [aa,<-cX]
   revert u5 Jb;generalize (upd H5 D (.lst (zV ([1]++textRow f'.name.name++ [(f'.params.length:Int)]++(f'.params.take j).flatMap dj)++zV (textRow d.name.name))))=H6;intro u5 Jb;exists oA Jb,fr (u5 _ _ hap) U #[Y5,_,U,.inr (g9.Y (c:=c) V2 u5.Y),λL hL'=>?_];have sL:=aq.upd (o:= .lst (kT d.kind)) hL';have hkl:=d9 d.kind;exists D,L,_,_,U,U,sL _ _ Jb,aa,by rw [cy,Em,cy,ao,ck];lia,?_;exists _,U,(u5.trans sL).bM hD,?_;rw [aa,Em,<-cX,IP hd];unfold dj;simp only [bz]
 . rintro Z H5 ⟨v4,rfl,u5,Jb⟩;rw [lp,cK] at Jb;have SY:=qB hG.pw;have hrl:([1]++textRow f'.name.name++ [(f'.params.length:Int)]++f'.params.flatMap dj).length<=200:=by
    rw [ao,ao,ao,ck,aC,aC];lia
   exists oA Jb,fr (u5 _ _ haf) U #[ak,_,U,.inr (g9.Y (c:=c) hak u5.Y),λL hL'=>?_];have sL:=aq.upd (o:= .lst (kT f'.result)) hL';have hkl:=d9 f'.result;exists D,L,_,_,U,U,sL _ _ Jb,aa,by rw [cy,Em,cy];lia,?_;have u6:=(u5.trans sL).bM (o:= .lst (zV ([1]++textRow f'.name.name++ [(f'.params.length:Int)]++f'.params.flatMap dj)++kT f'.result)) hD;have QS:(upd (upd H5 L (.lst (kT f'.result))) D (.lst (zV ([1]++textRow f'.name.name++ [(f'.params.length:Int)]++f'.params.flatMap dj)++kT f'.result))) D=some (.lst (zV ([1]++textRow f'.name.name++ [(f'.params.length:Int)]++f'.params.flatMap dj++kindRow f'.result))):=by rw [aa,Em,<-cX]
   revert u6 QS;generalize (upd (upd H5 L (.lst (kT f'.result))) D (.lst (zV ([1]++textRow f'.name.name++ [(f'.params.length:Int)]++f'.params.flatMap dj)++kT f'.result)))=H6;intro u6 QS;obtain ⟨vc,Y6,ac,rfl,fc⟩:=h8.get' hf;have hcm:=Ab hW.nr f' hfm;have hz2:=(CV hG.bd.2.2).2;have V0:=fk hcm;rw [Ht hcm] at fc;obtain ⟨oc,hoc⟩:=fc.app u6;have QR:(listRow (numbersOf (fM p) (Vaprbb.calls [] f'.body))).length=(Vaprbb.calls [] f'.body).length+1:=by rw [fE hcm,aT,V0]
   exists oA QS,fr (u6 _ _ ha) U #[cl,Ax,k,_,U,U,(h7.app u6).sq,dA Y6,ac,_,U,.inr #[oc,hoc],by lia,λp5 H7 n7 s7 M6=>?_];rw [<-fE hcm] at M6;exists D,p5,_,_,U,U,s7 _ _ QS,M6,by rw [cy,cy,QR,ao];lia,?_;have u7:=(u6.trans s7).bM (o:= .lst (zV ([1]++textRow f'.name.name++ [(f'.params.length:Int)]++f'.params.flatMap dj++kindRow f'.result)++zV (listRow (numbersOf (fM p) (Vaprbb.calls [] f'.body))))) hD;have NI:(upd H7 D (.lst (zV ([1]++textRow f'.name.name++ [(f'.params.length:Int)]++f'.params.flatMap dj++kindRow f'.result)++zV (listRow (numbersOf (fM p) (Vaprbb.calls [] f'.body)))))) D=some (.lst (zV ([1]++textRow f'.name.name++ [(f'.params.length:Int)]++f'.params.flatMap dj++kindRow f'.result++listRow (numbersOf (fM p) (Vaprbb.calls [] f'.body))))):=by rw [aa,<-cX]
   revert u7 NI;generalize (upd H7 D (.lst (zV ([1]++textRow f'.name.name++ [(f'.params.length:Int)]++f'.params.flatMap dj++kindRow f'.result)++zV (listRow (numbersOf (fM p) (Vaprbb.calls [] f'.body))))))=H8;intro u7 NI;exists oA NI,fr (u7 _ _ ha) U #[k,cl,Ax,p,f',U,h7.app u7,h8.mono λ_ _ z=>z.Y (c:=c) u7.Y,hf,Lw hW.nr,Ab hW.nr,hW.gp.fl,λH9 s9=>?_];have T8:=s9 _ _ NI;have hsz:(zV ([1]++textRow f'.name.name++ [(f'.params.length:Int)]++f'.params.flatMap dj++kindRow f'.result++listRow (numbersOf (fM p) (Vaprbb.calls [] f'.body)))).length < sizeLine:=by
    rw [cy,ao,QR,ao];lia
   have fin:∀z:Int,z=(if recursive p f'.name.name=true then 1 else 0)->Q (.ref D) (upd H9 D (.lst (zV ([1]++textRow f'.name.name++ [(f'.params.length:Int)]++f'.params.flatMap dj++kindRow f'.result++listRow (numbersOf (fM p) (Vaprbb.calls [] f'.body)))++ [V.int z]))):=λz hz=>by
    refine q D _ hD ((u7.trans s9).bM hD) ?_;rw [aa,hz];have: [V.int (if recursive p f'.name.name=true then 1 else 0)]=zV [if recursive p f'.name.name=true then 1 else 0]:=rfl;rw [this,<-cX];have e3:f'.params.flatMap dj=f'.params.flatMap λd=>textRow d.name.name++kindRow d.kind:=rfl;rw [e3];simp only [bz,lK,lO]
   exists _,U,bG (λe3=>?_) λe3=>?_
   . exists D,_,_,U,U,T8,hsz,fin 1 (by rw [ah e3])
   . exists D,_,_,U,U,T8,hsz,fin 0 (by rw [ae (by rw [e3];exact aO)])
def _root_.L2.nQ {T:Hp->Prop} (H:Hp) (k:∀H1,H1=H->T H1):T H:=k H rfl
def _root_.L2.tO {x:Addr}:Sb x H (upd H x o):=Sb.PR Sb.refl
inductive kf: #v[0] | mk {K c vs H Q E:_} x dx IQ kd fb p En H0:vs= [.ref x,IQ,.ref kd,.ref fb]->H x=some (.ins c.ld dx [])->H0 x=none->aq H0 H->EJ K c H0 IQ p->GP p->namesRight p= .ok ()->Nt K H0 kd En->FL H0 fb (txt p.shown)->(∀H',aq H0 H'->C2 K c H' (.ref x) p En->Q .cx H')->kf K c vs H Q E
theorem tP:AA.c0 52 c.ld "Loaded" ["self","program","let_kinds","form_bytes"] kf:=by
 refine AA.i0 AA.kG (N:= ["self","program","let_kinds","form_bytes","function"]) λT C FT H Q E nN hr h=>?_;ext h x dx IQ kd fb p En H0 rfl hx nx s0 hP hG hnr hkd Y7 k;nomatch 2,xO,tG,nM,gR,0,iA (bD (b_ (pv 1))) [("function",4)] (λ_ _ _ _ _=>(bL 4)) (λ_ _ _ _ _=>(dw (u0 AA) (aH (fz (K:=K) rfl (pv 4) rfl) (pU (fz (K:=K) rfl (pv 0) rfl)))))
 have jm:=gS;have hM:=tM hnr;have nR:(letNames p).length<=4097:=by have:=gQ p;have:=hG.sl;lia
 have hfn:(fM p).length<=4097:=by rw [aB];have:=hG.fl;lia
 refine fw hx ?_;refine fw aa ?_;refine fw aa ?_;refine nQ _ λH1 eH=>?_;have s1:aq H0 H1:=by rw [eH];exact ((s0.bM nx).bM nx).bM nx
 have hx1:H1 x=some (.ins c.ld dx [("program",IQ),("let_kinds",.ref kd),("form_bytes",.ref fb)]):=by rw [eH];exact aa
 clear eH;exists IQ,p,U,hP.Y C s1.Y,hG,Lv hnr,Lw hnr,Qv hnr,λan H2 s2 hN=>?_;have t2:=s1.trans s2;exists IQ,.ref an,p,[80],_,_,_,U,hP.Y C t2.Y,hN,hG,hM,(by show 1<=16;decide),#[λn _=>CN nR n,λn _=>CN hfn n],λf hf=>#[λn _=>CN (by rw [aB];have:=(hG.fn f hf).pl;lia) n,λn _=>CN hfn n],λpb H3 n3 s3 W4=>?_;rw [<-BC] at W4;have t3:=t2.trans s3;have N8:=s3 _ _ (s2 _ _ hx1);refine fw N8 ?_;refine nQ _ λH4 eH=>?_;have t4:aq H0 H4:=by rw [eH];exact t3.bM nx
 have Vg:H4 x=some (.ins c.ld dx [("program",IQ),("let_kinds",.ref kd),("form_bytes",.ref fb),("plain_bytes",.ref pb)]):=by rw [eH];exact aa
 have V3:FL H4 pb (txt p.plain.shown):=by rw [eH];exact W4.sb N8 tO
 clear eH;exists IQ,p,U,hP.Y C t4.Y,hG.sl,λla H5 n5 s5 fla=>?_;have Ss:=s5 _ _ Vg;refine fw Ss ?_;refine nQ _ λH6 eH=>?_;have t6:aq H0 H6:=by rw [eH];exact (t4.trans s5).bM nx
 have Y8:H6 x=some (.ins c.ld dx [("program",IQ),("let_kinds",.ref kd),("form_bytes",.ref fb),("plain_bytes",.ref pb),("let_names",.ref la)]):=by rw [eH];exact aa
 have V4:FL H6 pb (txt p.plain.shown):=by rw [eH];exact (V3.app s5).sb Ss tO
 have V5:FL H6 la (mY (letNames p)):=by rw [eH];exact fla.sb Ss tO
 clear eH;exists IQ,p,U,hP.Y C t6.Y,hG.fl,λfm H7 n7 s7 Y9=>?_;have T9:=s7 _ _ Y8;refine fw T9 ?_;refine nQ _ λH8 eH=>?_;have t8:aq H0 H8:=by rw [eH];exact (t6.trans s7).bM nx
 have W5:H8 x=some (.ins c.ld dx [("program",IQ),("let_kinds",.ref kd),("form_bytes",.ref fb),("plain_bytes",.ref pb),("let_names",.ref la),("function_names",.ref fm)]):=by rw [eH];exact aa
 have V6:FL H8 pb (txt p.plain.shown):=by rw [eH];exact (V4.app s7).sb T9 tO
 have V7:FL H8 la (mY (letNames p)):=by rw [eH];exact (V5.app s7).sb T9 tO
 have SZ:FL H8 fm (mY (fM p)):=by rw [eH];exact Y9.sb T9 tO
 clear eH;obtain ⟨b,db,fl,sl,tl,fs,ss,ts,rfl,hb,f1,A1,f2,As,f3,A3⟩:=hP.Y C t8.Y;have l1:=A1.len;have hfl:=hG.fl;refine fr hb U #[fl,U,#[fs,f1.sq],λD hD=>?_];refine sW (c:=c) (K:=K) (a:=fl) (xs:=fs) (λi y H'=> ∃f,p.funs[i]? = some f/\QP (fM p) H' y f) (λi y _ _ im #[m,e,z]=>#[m,e,z.Y im]) hD f1.sq (by lia) (λi y H9 R hy s9 kk=>?_) λH9 ys s9 hy hl9 hr=>?_
 . obtain ⟨f',hf,hxs⟩:=A1.get hy;have hfm:=bc hf;have NM:=(hG.fn f' hfm).bd;obtain ⟨a',Al,pl,kv,bv,ps,rfl,ha',_,_,_,hbv⟩:=hxs.Y C s9.Y;exists U,fr ha' U (fr (s9 _ _ W5) U #[bv,f'.body,fm,fM p,U,NM,hbv,SZ.app s9,(vj (p:=p) NM.1 (hM.fb f' hfm)).2,hfn,λpc Hc sc fc=>kk _ _ sc #[f',hf,pc,U,fc]])
 . exists D,_,U,hy,au,λo=>?_;have EK:=same_none t8 hD;have T_:=s9 _ _ W5;have W6:x≠D:=λz=>by rw [z,hy] at T_;cases T_
   have dM:bW c H9 (upd H9 D (.g8 o (.lst ys))):=bW.upd hy rfl;refine fw ((aA W6).trans T_) ?_;refine nQ _ λRw eH=>?_;have S0:Sb x (upd H9 D (.g8 o (.lst ys))) Rw:=by rw [eH];exact tO
   have S1:(upd H9 D (.g8 o (.lst ys))) x=some (.ins c.ld dx [("program",.ref b),("let_kinds",.ref kd),("form_bytes",.ref fb),("plain_bytes",.ref pb),("let_names",.ref la),("function_names",.ref fm)]):=(aA W6).trans T_;have Ua:aq H0 Rw:=by rw [eH];exact ((t8.trans s9).bM EK).bM nx
   have V8:Rw x=some (.ins c.ld dx [("program",.ref b),("let_kinds",.ref kd),("form_bytes",.ref fb),("plain_bytes",.ref pb),("let_names",.ref la),("function_names",.ref fm),("called",.ref D)]):=by rw [eH];exact aa
   refine k Rw Ua #[x,dx,.ref b,kd,fb,pb,la,fm,D,ys,rfl,V8,hP.Y C Ua.Y,hkd.Y (c:=c) Ua.Y,Y7.app Ua,((V6.app s9).mono dM).sb S1 S0,((V7.app s9).mono dM).sb S1 S0,((SZ.app s9).mono dM).sb S1 S0,FL.sb #[o,aa] S1 S0,?_];exact A2.of_get (by rw [hl9,l1]) λi y e=>by
    obtain ⟨f',hf,z⟩:=hr i y e;obtain ⟨ac,rfl,Y_⟩:=z.Y dM;exists f',hf,ac,U,Y_.sb S1 S0
def Ey {p:Addr} {l:VaprbBase.Toks} (h:Ci c H p l):l.length<=4097:=by
 ext h vs _ a z;rw [<-a.len];exact z
def W7 (K:Frag) (c:Cl) (H:Hp) (Q:VK):Prog->Prop:=λp=> ∀a H' En,H a=none->aq H H'->C2 K c H' (.ref a) p En->Wp p En->Q (.ref a) H'
inductive qC: #v[0] | mk {K c vs H Q E:_} ta b:vs= [.ref ta]->cw K H ta (txt b)->aN c.cf E H (Vaprbb.read b) (W7 K c H Q)->qC K c vs H Q E
theorem gU:AA.hF 108 "loaded_from" ["text"] qC:=by
 nomatch ["text","program","let_kinds","form_bytes"]
 ext h ta b rfl ht q;nomatch 2,1,x3,uD,zI,2,zO,3,xO,CM,iz,aM aJ,T.gJ,gI (tP AA) ?_
 rw [NE] at q;exists ta,b,U,ht,aN.step q λl el q tp H1 s1 htp=>?_;have tl:=zj el;exists tp,l,U,htp,tl,aN.step (aN.on q s1) λp ep q a H2 s2 hP=>?_;have hG:=FR ep tl (Ey htp);exists .ref a,p,U,hP,hG,aN.step (aN.on q s2) λu eu q H3 s3=>?_;have hnr:namesRight p= .ok ():=eu;have hM:=tM hnr;exists .ref a,p,letNames p,U,hP.Y C s3.Y,hG,hnr,(qz hnr).2.1,aN.step (aN.on q s3) λEn eE q kd H4 s4 hkd hwf hsc=>?_;have t4:=((s1.trans s2).trans s3).trans s4;have V9:=hP.Y C (s3.trans s4).Y;exists .ref a,p,U,V9,hG,λan H5 s5 hN=>?_;exists .ref a,.ref an,p,p.title.name,id,id,(λ_=>id),U,V9.Y C s5.Y,hN,hG,hM,hG.tt,OA,λ_ _=>OA,λfb H6 n6 s6 V_=>?_;rw [NC] at V_;have t6:=(t4.trans s5).trans s6;exists fb,_,U,.inl V_.sq,_,_,U,U,_,U,bG (λe1=>?_) λe1=>?_
 . have e1:(((txt p.shown).length:Nat):Int) > 4096:= ~~~e1
   rw [cD] at e1;rw [ah (by omega)] at q;exists _,_,U,jI.go q (s4.trans (s5.trans s6))
 . have e1:¬(((txt p.shown).length:Nat):Int) > 4096:= ~~~e1
   rw [cD] at e1;rw [ae (by omega)] at q;have q:W7 K c H Q p:=q;have W8:=s5.trans s6;refine λx dx nx nd ne=>?_;exists x,dx,.ref a,kd,fb,p,En,H6,U,aa,nx,(aq.upd nd).bM nx,V9.Y C W8.Y,hG,hnr,hkd.Y (c:=c) W8.Y,V_,λH' s' hL=>#[U,?_];exact q x H' En (same_none t6 nx) (t6.trans s') hL #[hG,hnr,eE,hwf,by omega]
inductive ow: #v[0] | mk {K c vs H Q E:_} v ta b p En:vs= [v,.ref ta]->C2 K c H v p En->Wp p En->cw K H ta (txt b)->aN c.cf E H (Ew p En b) (Bx K H Q)->ow K c vs H Q E
theorem ox:AA.hF 106 "kind_of_text" ["loaded","text"] ow:=by
 nomatch ["loaded","text","expression","named"]
 ext h v ta b p En rfl hL hW ht q;nomatch 2,2,mJ,uD,3,e_,fL,dw (rC AA 24) ?_
 unfold Ew at q;exists ta,b,U,ht,aN.step q λl el q tp H1 s1 htp=>?_;have tl:=zj el;exists tp,l,U,htp,tl,aN.step (aN.on q s1) λe ee q ea H2 s2 hE=>?_;have NM:GX e:=by
  obtain ⟨x,ex,ee⟩:=aj ee;obtain ⟨_,_,ee⟩:=aj ee;cases ee;exact (GX.of ex tl (Ey htp)).1
 have t2:=s1.trans s2;obtain ⟨a,dx,IQ,kd,fb,pb,ln,fm,cl,Ax,rfl,ha,h1,h2,h3,h4,h5,h6,h7,h8⟩:=id (hL.Y C t2.Y);obtain ⟨bb,db,fl,sl,tl',fs,ss,ts,rfl,hb,f1,A1,f2,As,f3,A3⟩:=id h1;refine fr ha U (fr hb U #[fl,fs,p.funs,U,f1,A1,hW.gp.fl,λnd H3 s3 hn=>?_]);refine fr (s3 _ _ ha) U #[.ref ea,e,kd,nd,letNames p,p,U,NM,hE.Y C s3.Y,SX hW.ev (h2.Y (c:=c) s3.Y),hn,aN.step (aN.on q (s2.trans s3)) λu eu q H4 s4=>?_];have OH:=s3.trans s4;refine fr (OH _ _ ha) U #[.ref ea,e,kd,nd,p,En,U,NM.1,NM.2.1,NM.2.2,hE.Y C OH.Y,(h2.Y (c:=c) OH.Y).d,hn.Y C s4.Y,CC (BG hW.ev) eu,hW.wf,?_];exact aN.imp (aN.on q s4) λk _ q ka H5 s5 hka=>q ka H5 ((t2.trans OH).trans s5) hka
def iD (b:Bytes):List PyData:=b.map λx=>PyData.int (x.toNat:Nat)
theorem LI:∀b:Bytes,PyData.canLayAll0 (iD b)=true
 | []=>by simp only [iD,cB,PyData.canLayAll0]
 | x :: b=>by
  have:=LI b;show PyData.canLayAll0 (PyData.int (x.toNat:Nat) :: iD b)=true;simp only [PyData.canLayAll0,PyData.canLay0,this,Bool.and_self]
theorem LJ:∀b:Bytes,PyData.depthAll (iD b)=0
 | []=>by simp only [iD,cB,PyData.depthAll]
 | x :: b=>by
  have:=LJ b;show PyData.depthAll (PyData.int (x.toNat:Nat) :: iD b)=0;simp only [PyData.depthAll,PyData.depth,this,Nat.max_self]
def BI (b:Bytes):SeqAt.shaped (.list (iD b))=true:=by
 unfold SeqAt.shaped;simp only [PyData.canLay0,LI,PyData.depth,LJ];rfl
theorem OL:∀a b:Bytes,PyData.eqvAll (iD a) (iD b)=decide (a=b)
 | [],[]=>by simp only [iD,cB,PyData.eqvAll];rfl
 | [],y :: b=>by
  show PyData.eqvAll [] (PyData.int (y.toNat:Nat) :: iD b)=_;simp [PyData.eqvAll]
 | x :: a,[]=>by
  show PyData.eqvAll (PyData.int (x.toNat:Nat) :: iD a) []=_;simp [PyData.eqvAll]
 | x :: a,y :: b=>by
  have:=OL a b;show PyData.eqvAll (PyData.int (x.toNat:Nat) :: iD a) (PyData.int (y.toNat:Nat) :: iD b)=_;simp only [PyData.eqvAll,PyData.eqv,this];rw [b8];simp only [c5,bO,dr,List.cons.injEq];constructor
  . rintro ⟨h1,h2⟩;exists eA (by lia),h2
  . rintro ⟨rfl,rfl⟩;exists U,U
theorem LK:∀b:Bytes,yK K H (txt b) (iD b)
 | []=> .nil
 | x :: b=> .cons (.int _) (LK b)
def LL (f:FL H a (txt b)):Dp K H (.ref a) (.list (iD b)):= .lst f.sq (LK b)
def OM (h:p.lets=En) (b:Bytes):encode (kindAnswer p b)=match Ew p En b with | .error f=> [0,(f.code:Int),(f.place:Int)] | .ok k=>1 :: kindRow k:=by
 subst h;have e:readExpr p b=(VaprbBase.tokens b >>= λl=>(takeExpr 24 l >>= λx=>(if next .halt_ x.2=false then wrong x.2 else .ok ()) >>= λ_=> .ok x.1) >>= λe=>named p (letNames p) e >>= λ_=>kindOf p p.lets e >>= λ_=> .ok e):=by
  unfold readExpr;refine aS λl=>?_;rw [bn];refine aS λx=>?_;show (if next .halt_ x.2=false then _ else _)=_;split <;> rfl
 unfold Vaprbb.kindAnswer;rw [e];unfold Ew;cases VaprbBase.tokens b with
 | error f=>rfl
 | ok l=>
  show encode (match ((takeExpr 24 l >>= λx=>(if next .halt_ x.2=false then wrong x.2 else .ok ()) >>= λ_=> .ok x.1) >>= λe=>named p (letNames p) e >>= λ_=>kindOf p p.lets e >>= λ_=> .ok e) with | .error f=>_ | .ok e=>_)=match ((takeExpr 24 l >>= λx=>(if next .halt_ x.2=false then wrong x.2 else .ok ()) >>= λ_=> .ok x.1) >>= λe=>named p (letNames p) e >>= λ_=>kindOf p p.lets e) with | .error f=>_ | .ok k=>_
  cases (takeExpr 24 l >>= λx=>(if next .halt_ x.2=false then wrong x.2 else .ok ()) >>= λ_=> .ok x.1:Except Fault Ex) with
  | error f=>rfl
  | ok e=>
   show encode (match (named p (letNames p) e >>= λ_=>kindOf p p.lets e >>= λ_=> .ok e) with | .error f=>_ | .ok e=>_)=match (named p (letNames p) e >>= λ_=>kindOf p p.lets e) with | .error f=>_ | .ok k=>_
   cases named p (letNames p) e with
   | error f=>rfl
   | ok u=>
    show encode (match (kindOf p p.lets e >>= λ_=> .ok e) with | .error f=>_ | .ok e=>_)=match kindOf p p.lets e with | .error f=>_ | .ok k=>_
    cases hk:kindOf p p.lets e with
    | error f=>rfl
    | ok k=>
     show encode (match kindOf p p.lets e with | .error f=>_ | .ok k=>_)=_;rw [hk];rfl
def OO (p:Prog) (b:Bytes):encode (sameAnswer p b)=match Vaprbb.read b with | .error _=> [-4] | .ok q=> [if p.plain.shown=q.plain.shown then 1 else 0]:=by
 unfold Vaprbb.sameAnswer;cases Vaprbb.read b <;> rfl
theorem LN {k:Nat} {A:Around} (r:cY k A) (h:6<=k):A.depth+20 < recursionLimit:=by have:=r.dp;lia
def LO (c:Cl) (dx:Addr) (fs:List (Str×V)):Y c (.ins c.hold dx fs)=false:=by
 show (!(_ == _) && !(_ == _))=false;simp
def S2 (K:Frag) (c:Cl) (ho dx:Addr) (H:Hp) (Q:VK):Except Fault Prog->Prop
 | .ok p=> ∀l H' a En,H l=none->Sb ho H H'->H' ho=some (.ins c.hold dx [("loaded",.ref a)])->C2 K c H' (.ref a) p En->Wp p En->H' l=some (.lst (zV [1]))->Q (.ref l) H'
 | .error f=>gV H Q [0,(f.code:Int),(f.place:Int)]
inductive Hy: #v[0] | mk {K c vs H Q E:_} ho dx lv ta b:vs= [.ref ho,.ref ta]->H ho=some (.ins c.hold dx [("loaded",lv)])->cw K H ta (txt b)->S2 K c ho dx H Q (Vaprbb.read b)->Hy K c vs H Q E
theorem NN:AA.h0 110 "load" ["holder","text"] Hy:=by
 have Az:=gU AA;have FN:=AA.FN;nomatch ["holder","text","loaded","fault"]
 ext h ho dx lv ta b rfl IR ht q;obtain ⟨lf,W9,S4,S5,S6,S7⟩:=gU AA;nomatch 2,GJ (iy:=2) (i2:=3) S6 (hr.mono (by lia)) (LN hr (by lia)) rfl S4 S5 S7 (pU (pv 1)) nN rfl rfl FT.cl rfl FT.mg rfl rfl rfl rfl FN rfl rfl rfl,0
 exists ta,b,U,ht,?_;cases hrd:Vaprbb.read b with
 | error f=>
  rw [hrd] at q;exact λH' s' Al hd=>#[Al,f.code,f.place,rfl,hd,λl hl=>q l _ (same_none s' hl) (s'.trans (aq.upd hl)) aa]
 | ok p=>
  rw [hrd] at q;intro a H' En na s' hL hW;have hh:=s' _ _ IR;refine fw hh ?_;refine nQ _ λH2 eH=>?_;have W_:Sb ho H H2:=by rw [eH];exact (s'.sb).PR
  have W':H2 ho=some (.ins c.hold dx [("loaded",.ref a)]):=by rw [eH];exact aa
  have TK:bW c H' H2:=by rw [eH];exact bW.upd hh (LO c dx _)
  clear eH;exists kg,λD hD=>?_;have sD:=aq.upd (o:= .lst (zV [1])) hD;have M5:H D=none:=by
   cases z:H D with
   | none=>rfl
   | some o=>
    by_cases e:D=ho
    . rw [e,W'] at hD;cases hD
    . rw [W_ _ _ z e] at hD;cases hD
  exact q D _ a En M5 (W_.trans sD.sb) (sD _ _ W') (hL.Y C (TK.trans sD.Y)) hW aa
inductive Hz: #v[0] | mk {K c vs H Q E:_} v ta b p En:vs= [v,.ref ta]->C2 K c H v p En->Wp p En->cw K H ta (txt b)->gV H Q (encode (kindAnswer p b))->Hz K c vs H Q E
theorem NP:AA.h0 110 "kind" ["loaded","text"] Hz:=by
 have LQ:=ox AA;have FN:=AA.FN;nomatch ["loaded","text","found","fault"]
 ext h v ta b p En rfl hL hW ht q;obtain ⟨lf,W9,S4,S5,S6,S7⟩:=ox AA;nomatch 2,GJ (iy:=2) (i2:=3) S6 (hr.mono (by lia)) (LN hr (by lia)) rfl S4 S5 S7 (aH (pv 0) (pU (pv 1))) nN rfl rfl FT.cl rfl FT.mg rfl rfl rfl rfl FN rfl rfl rfl,yj,cr fo
 rw [OM (qA hW.ev)] at q;exists v,ta,b,p,En,U,hL,hW,ht,?_;cases hrd:Ew p En b with
 | error f=>
  rw [hrd] at q;exact λH' s' Al hd=>#[Al,f.code,f.place,rfl,hd,λl hl=>q l _ (same_none s' hl) (s'.trans (aq.upd hl)) aa]
 | ok k=>
  rw [hrd] at q;intro ka H' s' hka;have q:gV H Q (1 :: kindRow k):=q;have hkl:=d9 k;have jm:=gS;exists kg,λD hD=>?_;have sD:=aq.upd (o:= .lst [V.int 1]) hD;exists ka,_,U,.inr (g9.Y (c:=c) hka sD.Y),λL hL'=>?_;have sL:=aq.upd (o:= .lst (kT k)) hL';exists D,L,[V.int 1],kT k,U,U,sL _ _ aa,.inl aa,by rw [Em,cy,aC];lia,λD3 mX=>?_;have ss:=s'.trans (sD.trans sL);refine q D3 _ (same_none ss mX) (ss.trans (aq.upd mX)) ?_;rw [aa,Em];rfl
inductive HA: #v[0] | mk {K c vs H Q E:_} v ta b p En:vs= [v,.ref ta]->C2 K c H v p En->Wp p En->cw K H ta (txt b)->gV H Q (encode (sameAnswer p b))->HA K c vs H Q E
theorem NQ:AA.h0 110 "same" ["loaded","text"] HA:=by
 have Az:=gU AA;nomatch ["loaded","text","other"]
 have T0:=T;ext h v ta b p En rfl hL hW ht q;obtain ⟨lf,W9,S4,S5,S6,S7⟩:=gU AA;ext T0.uf tz Y';nomatch 2,MO (p1:=#[0,0,0,0]) (iy:=2) (z:= -4) S6 (hr.mono (by lia)) rfl S4 S5 S7 (pU (pv 1)) nN rfl rfl FT.cl rfl FT.mg rfl rfl rfl Y' rfl,gF (JL (cY.units hr)) ?_ ?_
 rw [OO] at q;exists ta,b,U,ht,?_;cases hrd:Vaprbb.read b with
 | error f=>
  rw [hrd] at q;exact λH' s' Al hd=>#[Al,f.code,f.place,rfl,hd,λl hl=>q l _ (same_none s' hl) (s'.trans (aq.upd hl)) aa]
 | ok p2=>
  rw [hrd] at q;intro a2 H' ZP na s' hL2 hW2;have q:gV H Q [if p.plain.shown=p2.plain.shown then 1 else 0]:=q;obtain ⟨a,dx,IQ,kd,fb,pb,ln,fm,cl,Ax,rfl,ha,h1,h2,h3,h4,h5,h6,h7,h8⟩:=id (hL.Y C s'.Y);obtain ⟨a',Al,Za,ZQ,ZR,ZS,ln',ZT,ZU,Zb,e',ha',h1',h2',h3',h4',ZV,h6',ZW,YS⟩:=id hL2;cases e';refine fr ha' U (fr ha U #[.list (iD p2.plain.shown),.list (iD p.plain.shown),LL h4',LL h4,BI _,BI _,?_]);have e3:PyData.eqv (.list (iD p2.plain.shown)) (.list (iD p.plain.shown))=decide (p2.plain.shown=p.plain.shown):=by
   simp only [PyData.eqv,OL]
  rw [e3];exists _,U,bG (λe4=>?_) λe4=>?_
  . have e4:p2.plain.shown=p.plain.shown:= ~~~e4
    rw [ah e4.symm] at q;exists kg,λD hD=>q D _ (same_none s' hD) (s'.trans (aq.upd hD)) aa
  . have e4:¬p2.plain.shown=p.plain.shown:= ~~~e4
    rw [ae λz=>e4 z.symm] at q;exists kg,λD hD=>q D _ (same_none s' hD) (s'.trans (aq.upd hD)) aa
abbrev Call:=Vaprbb.Call
variable {cl:Call}
def CR (k i:Int) (b:Bytes) (cl:Call):=(k=0/\cl= .load b)\/(k=1/\cl= .shown)\/(k=2/\cl= .sizes)\/(k=3/\cl= .lets i)\/(k=4/\cl= .funs i)\/(k=5/\cl= .kind b)\/(k=6/\cl= .points)\/(k=7/\cl= .tells)\/(k=8/\cl= .plain)\/(k=9/\cl= .same b)
def L5 (x:List Int):Bytes:=x.map λz=>UInt8.ofNat z.toNat
theorem CW {x:List Int} (h:NeutralIO.bytes x=true):txt (L5 x)=zV x:=by
 unfold txt L5 zV;rw [c9];refine qE λz hz=>?_;have h1:=c6.mp h z hz;have h1:0<=z/\z<=255:= ~~~h1
 show V.int (((UInt8.ofNat z.toNat).toNat:Nat):Int)=V.int z;rw [UInt8.toNat_ofNat',Nat.mod_eq_of_lt (by lia)];congr 1;lia
theorem wW {b:List Int} (h:b.all (λ(z:Int)=>natural z 8)=true):NeutralIO.bytes b=true:=c6.mpr λz hz=>by
 have h1:=c6.mp h z hz;unfold natural at h1;have h1:0<=z/\z < 2 ^ 8:= ~~~h1
 have:(2:Int) ^ 8=256:=∅
 simp only [c5,dr];omega
def Ez {k:Int} {s:Nat×Nat} (h:shape k=some s):((k=0\/k=5\/k=9)/\s=(0,1))\/((k=3\/k=4)/\s=(1,0))\/((k=1\/k=2\/k=6\/k=7\/k=8)/\s=(0,0)):=by
 unfold PyVaprbb.shape at h;repeat' split at h
 all_goals first | (cases h;done) | (cases h;simp_all)
theorem turn {f:Nat} {k:Int} {r:List Int} {cs:List (List (List Int))} (h:PyFlat.calls shape f (k :: r)=some cs) (ha:∀c∈cs,asked1 c=true):∃f' c t cs',cs=c :: cs'/\PyFlat.calls shape f' t=some cs'/\
 ((∃n r' cl,(k=0\/k=5\/k=9)/\r=n :: r'/\0<=n/\n.toNat<=r'.length/\t=r'.drop n.toNat/\callOf c=some cl/\CR k 0 (L5 (r'.take n.toNat)) cl/\txt (L5 (r'.take n.toNat))=zV (r'.take n.toNat))\/
  (∃i r' cl,(k=3\/k=4)/\r=i :: r'/\t=r'/\callOf c=some cl/\CR k i [] cl)\/
  (∃cl,¬(k=0\/k=5\/k=9)/\¬(k=3\/k=4)/\t=r/\callOf c=some cl/\CR k 0 [] cl)):=by
 cases f with
 | zero=>cases h
 | succ f=>
  have h:(match PyFlat.call shape (k :: r) with | none=>none | some (c,t)=>match PyFlat.calls shape f t with | none=>none | some cs=>some (c :: cs))=some cs:=h;cases hc:PyFlat.call shape (k :: r) with
  | none=>rw [hc] at h;cases h
  | some ct=>
   ext ct c t;rw [hc] at h;have h:(match PyFlat.calls shape f t with | none=>none | some cs=>some (c :: cs))=some cs:=h;cases hcs:PyFlat.calls shape f t with
   | none=>rw [hcs] at h;cases h
   | some cs'=>
    rw [hcs] at h;have h:c :: cs'=cs:=bE h;subst h;have hac:=ha c bi;exists f,c,t,cs',U,hcs,?_;have hc:(match shape k with | none=>none | some (n,kk)=>if r.length < n then none else match rows kk (r.drop n) with | none=>none | some (xs,t)=>some ((k :: r.take n) :: xs,t))=some (c,t):=hc;cases hs:shape k with
    | none=>rw [hs] at hc;cases hc
    | some s=>
     rw [hs] at hc;rcases Ez hs with ⟨hk,rfl⟩ | ⟨hk,rfl⟩ | ⟨hk,rfl⟩
     . left;have hc:(if r.length < 0 then none else match rows 1 (r.drop 0) with | none=>none | some (xs,t)=>some ((k :: r.take 0) :: xs,t))=some (c,t):=hc;rw [ae (by lia),lP] at hc;have hrow:rows 1 r=(match row r with | none=>none | some (x,s)=>some ([x],s)):=by
        show (match row r with | none=>none | some (x,s)=>(match some (([]:List (List Int)),s) with | none=>none | some (xs,t)=>some (x :: xs,t)))=_;cases row r <;> rfl
       rw [hrow] at hc;cases r with
       | nil=>cases hc
       | cons n r'=>
        have e1:row (n :: r')=if 0<=n/\n.toNat<=r'.length then some (r'.take n.toNat,r'.drop n.toNat) else none:=rfl
        rw [e1] at hc;by_cases hn:0<=n/\n.toNat<=r'.length
        . rw [ah hn] at hc;have hc:some ([[k],r'.take n.toNat],r'.drop n.toNat)=some (c,t):=hc;cases hc;have hb:NeutralIO.bytes (r'.take n.toNat)=true:=by
           rcases hk with rfl | rfl | rfl
           . have hac:((r'.take n.toNat).all (λ(z:Int)=>natural z 8) && decide ((r'.take n.toNat).length<=8192))=true:=hac;exact wW (ig.mp hac).1
           . have hac:((r'.take n.toNat).all (λ(z:Int)=>natural z 8) && decide ((r'.take n.toNat).length<=8192))=true:=hac;exact wW (ig.mp hac).1
           . have hac:((r'.take n.toNat).all (λ(z:Int)=>natural z 8) && decide ((r'.take n.toNat).length<=8192))=true:=hac;exact wW (ig.mp hac).1
          have hbb:bytes? (r'.take n.toNat)=some (L5 (r'.take n.toNat)):=by
           unfold bytes?;rw [ah hb];rfl
          rcases hk with rfl | rfl | rfl
          . exists n,r',.load (L5 (r'.take n.toNat)),.inl U,U,hn.1,hn.2,U,?_,.inl #[U,U],CW hb;show (bytes? (r'.take n.toNat)).map _=_;rw [hbb];rfl
          . exists n,r',.kind (L5 (r'.take n.toNat)),.inr (.inl U),U,hn.1,hn.2,U,?_,?_,CW hb
            . show (bytes? (r'.take n.toNat)).map _=_;rw [hbb];rfl
            . exact .inr (.inr (.inr (.inr (.inr (.inl #[rfl,rfl])))))
          . exists n,r',.same (L5 (r'.take n.toNat)),.inr (.inr U),U,hn.1,hn.2,U,?_,?_,CW hb
            . show (bytes? (r'.take n.toNat)).map _=_;rw [hbb];rfl
            . exact .inr (.inr (.inr (.inr (.inr (.inr (.inr (.inr (.inr #[rfl,rfl]))))))))
        . rw [ae hn] at hc;cases hc
     . right;left;have hc:(if r.length < 1 then none else match rows 0 (r.drop 1) with | none=>none | some (xs,t)=>some ((k :: r.take 1) :: xs,t))=some (c,t):=hc;cases r with
       | nil=>cases hc
       | cons i r'=>
        rw [ae (by simp)] at hc;have hc:some ([[k,i]],r')=some (c,t):=hc;cases hc;rcases hk with rfl | rfl
        . exists i,_,.lets i,.inl U,U,U,U,.inr (.inr (.inr (.inl #[U,U])))
        . exists i,_,.funs i,.inr U,U,U,U,.inr (.inr (.inr (.inr (.inl #[U,U]))))
     . right;right;have hc:(if r.length < 0 then none else match rows 0 (r.drop 0) with | none=>none | some (xs,t)=>some ((k :: r.take 0) :: xs,t))=some (c,t):=hc;rw [ae (by lia),lP] at hc;have hc:some ([[k]],r)=some (c,t):=hc;cases hc;rcases hk with rfl | rfl | rfl | rfl | rfl
       . exists .shown,∅,∅,U,U,.inr (.inl #[U,U])
       . exists .sizes,∅,∅,U,U,.inr (.inr (.inl #[U,U]))
       . exists .points,∅,∅,U,U,.inr (.inr (.inr (.inr (.inr (.inr (.inl #[U,U]))))))
       . exists .tells,∅,∅,U,U,.inr (.inr (.inr (.inr (.inr (.inr (.inr (.inl #[U,U])))))))
       . exists .plain,∅,∅,U,U,.inr (.inr (.inr (.inr (.inr (.inr (.inr (.inr (.inl #[U,U]))))))))
def Jc:List (List (List Int))->List Call->Prop
 | [],[]=>True
 | c :: cs,cl :: cls=>callOf c=some cl/\Jc cs cls
 | _,_=>False
def ans:State->List Call->List (List Int)
 | _,[]=> []
 | s,c :: r=>encode (Vaprbb.step s c).2 :: ans (Vaprbb.step s c).1 r
theorem Ag:∀{cs:List (List (List Int))} {cls:List Call} (s:State),Jc cs cls->played VaprbbNeutral.step s cs=ans s cls
 | [],[],_,_=>rfl
 | c :: cs,cl :: cls,s,h=>by
  have e:VaprbbNeutral.step s c=((Vaprbb.step s cl).1,encode (Vaprbb.step s cl).2):=by
   unfold VaprbbNeutral.step;rw [h.1]
  show (VaprbbNeutral.step s c).2 :: played VaprbbNeutral.step (VaprbbNeutral.step s c).1 cs=_;rw [e,Ag _ h.2];rfl
 | [],_ :: _,_,h=>h.elim
 | _ :: _,[],_,h=>h.elim
theorem Jc.len:∀{cs:List (List (List Int))} {cls:List Call},Jc cs cls->cs.length=cls.length
 | [],[],_=>rfl
 | _ :: _,_ :: _,h=>bq (· +1) (Jc.len h.2)
 | [],_ :: _,h=>h.elim
 | _ :: _,[],h=>h.elim
def EA (c:List (List Int)):whole c=c:=by
 rcases c with _ | ⟨_ | ⟨x | x,xs⟩,r⟩ <;> try rfl
 rcases x with _ | _ | _ | _ | _ | _ | _ | _ | _ | _ | x <;> rcases xs with _ | ⟨y,_ | _⟩ <;> first | rfl | (rcases r with _ | ⟨z,_ | _⟩ <;> rfl)
def F_ {l:List Int} {cs:List (List (List Int))} {cls:List Call} (h:PyFlat.calls shape l.length l=some cs) (hc:Jc cs cls):answers l=told (ans {} cls):=by
 unfold answers PyVaprbb.calls;rw [h];show told (played VaprbbNeutral.step VaprbbNeutral.start (cs.map whole))=_;have:cs.map whole=cs:=by rw [show whole=id from funext EA];exact List.map_id _
 rw [this,Ag _ hc];rfl
def LR {l:List Int} (h:answers_asked l=true):∃cs,PyFlat.calls shape l.length l=some cs/\cs.length<=400/\∀c∈cs,asked1 c=true:=by
 unfold answers_asked PyVaprbb.calls at h;cases hc:PyFlat.calls shape l.length l with
 | none=>rw [hc] at h;cases h
 | some cs=>
  rw [hc] at h;have h:(atMost 400 (cs.map whole) && asked (cs.map whole))=true:=h;have e:cs.map whole=cs:=by rw [show whole=id from funext EA];exact List.map_id _
  rw [e] at h;obtain ⟨h1,h2⟩:=ig.mp h;unfold atMost at h1;unfold asked at h2;exists cs,U,qK h1,c6.mp (ig.mp h2).1
def S8 (s:State):= ∀p,s.prog=some p->∃En,Wp p En
theorem Qw (hW:Wp p En) (i:Int):(encode (letsAnswer p i)).length<=20000:=by
 by_cases h:0<=i/\i < (p.lets.length:Int)
 . obtain ⟨k,rfl⟩:∃k:Nat,i=(k:Int):=#[i.toNat,by lia];have hk:k < p.lets.length:=by lia
   obtain ⟨x,hx⟩:∃x,p.lets[k]? = some x:=#[_,bB hk];have Ev:=qA hW.ev;have hnames:=rE hW.ev;have I_:En[k]? = some x:=by rw [<-Ev];exact hx
   have nR:(letNames p)[k]? = some x.1:=by rw [<-hnames,bA,I_];rfl
   have hfl:(p.stms.filter isLet).length=p.lets.length:=by rw [Ev,<-aB (f:=(·.1)) (as:=En),hnames,dm,aB]
   obtain ⟨st,fZ⟩:∃st,(p.stms.filter isLet)[k]? = some st:=#[_,bB (by lia)];have hle:letExpr p k=some (exprOf st):=by rw [Ac,bA,fZ];rfl
   have IM:=ip.mp (bc fZ);have bQ:=(tM hW.nr).sb st IM.1;have NM:GX (exprOf st):=by
    have:=hW.gp.st st IM.1;cases st with
    | lets n o e=>exact this.2.2
    | observe e=>exact this
   obtain ⟨hm1,hm2⟩:=Eu bQ;obtain ⟨hz1,hz2⟩:=CV NM.2.2;have VY:x.1.length<=16:=by
    have hm:x.1∈letNames p:=bc nR;rw [dm] at hm;obtain ⟨s',hs',e'⟩:=ci.mp hm;have hs':=ip.mp hs';have:=hW.gp.st s' hs'.1;cases s' with
    | observe e=>exact Bool.noConfusion (show false=true from hs'.2)
    | lets n2 k2 e2=>rw [<-e'];exact this.1
   have V1:=fk hm1;have QR:=fk hm2;have hk3:=d9 x.2;rw [Hu hk hx hle,aT,ao,ao,ao,ck,fE hm1,fE hm2,aT,aT];lia
 . rw [CQ h];decide
theorem Qx (hW:Wp p En) (i:Int):(encode (funsAnswer p i)).length<=20000:=by
 by_cases h:0<=i/\i < (p.funs.length:Int)
 . obtain ⟨k,rfl⟩:∃k:Nat,i=(k:Int):=#[i.toNat,by lia];obtain ⟨f,hf⟩:∃x,p.funs[k]? = some x:=#[_,bB (by lia)];have hfm:=bc hf;have hG:=hW.gp.fn f hfm;have VY:f.name.name.length<=16:=hG.nm;have hcm:=Ab hW.nr f hfm;have QR:=fk hcm;have hz2:=(CV hG.bd.2.2).2;have hk3:=d9 f.result;have SY:=qB hG.pw;have h4:=hG.pl;have e3:(f.params.flatMap λd=>VaprbBase.textRow d.name.name++kindRow d.kind)=f.params.flatMap dj:=rfl;rw [Hv hf,e3];simp only [aT,ao,ck,fE hcm,fQ];lia
 . rw [CU h];decide
theorem NR {s:State} (hs:S8 s) (c:Call):(encode (Vaprbb.step s c).2).length<=20000:=by
 have look:∀p En,Wp p En->(encode (looked p c)).length<=20000:=λp En hW=>by
  have h1:=hW.sh;have h2:=plain_len hW.gp;cases c with
  | load b=>show 1<=20000;decide
  | shown=>show (VaprbBase.textRow p.shown).length<=20000;rw [ck];lia
  | sizes=>show 5<=20000;decide
  | lets i=>exact Qw hW i
  | funs i=>exact Qx hW i
  | kind b=>
   show (encode (kindAnswer p b)).length<=20000;rw [OM (qA hW.ev)];split
   . show 3<=20000;decide
   . rename_i k _;have:=d9 k;rw [aT];lia
  | points=>
   have h3:=Ad p;show ((p.points.length:Int) :: p.points.flatMap λx=> [(x.1:Int),(x.2:Int)]).length<=20000;have h4:∀l:List (Nat×Nat),(l.flatMap λx=> [(x.1:Int),(x.2:Int)]).length=2 * l.length:=λl=>by
    induction l with
    | nil=>rfl
    | cons y l ih=>rw [dS,ao,ih];show 2+2 * l.length=2 * (l.length+1);lia
   rw [aT,h4];lia
  | tells=>
   have hM:=tM hW.nr;have h6:=hW.gp.tl;have hin:∀m∈p.tells.map (λt=>t.name),m∈letNames p:=λm hm=>by
    obtain ⟨t,ht,rfl⟩:=ci.mp hm;exact hM.tl t ht
   have ll:=fk hin;show ((p.tells.length:Int) :: (numbersOf (letNames p) (p.tells.map λt=>t.name)).map λ(n:Nat)=>(n:Int)).length<=20000;rw [aT,ll,aB];lia
  | plain=>show (VaprbBase.textRow p.plain.shown).length<=20000;rw [ck];lia
  | same b=>
   show (encode (sameAnswer p b)).length<=20000;rw [OO];split
   . show 1<=20000;decide
   . show 1<=20000;decide
 cases c with
 | load b=>
  show (encode (match Vaprbb.read b with | .ok p=>(({prog:=some p}:State),({value:=1}:Answer)) | .error f=>(s,faulty f)).2).length<=20000;cases Vaprbb.read b with
  | ok p=>show 1<=20000;decide
  | error f=>show 3<=20000;decide
 | _=>
  unfold Vaprbb.step;cases hp:s.prog with
  | none=>show 1<=20000;decide
  | some p=>obtain ⟨En,hW⟩:=hs p hp;exact look p En hW
def sF (c:Cl) (H:Hp) (v:V) (cl:Call):= ∃a dx ta b,∃k i:Int,v= .ref a/\H a=some (.ins c.call dx [("number",.int k),("asked",.int i),("text",.ref ta)])/\FL H ta (txt b)/\CR k i b cl
theorem sF.Y (C:CT K c) (h:sF c H v cl) (im:bW c H H'):sF c H' v cl:=by ext h a dx ta b k i e ha f r;exists a,dx,ta,b,k,i,e,im _ _ ha C.Kh,f.mono im,r
def HV (K:Frag) (c:Cl) (H:Hp) (lv:V) (st:State):=(st.prog=none/\lv= .cx)\/∃p En a,st.prog=some p/\lv= .ref a/\C2 K c H lv p En/\Wp p En
theorem HV.Y {lv:V} (C:CT K c) (h:HV K c H lv st) (i:bW c H H'):HV K c H' lv st:=by
 rcases h with h | ⟨p,En,a,h1,h2,h3,h4⟩
 . exact .inl h
 . exact .inr #[p,En,a,h1,h2,h3.Y C i,h4]
def HV.ok {lv:V} (h:HV K c H lv st):S8 st:=λp hp=>by
 rcases h with ⟨h,_⟩ | ⟨p',En,a,h1,h2,h3,h4⟩
 . rw [h] at hp;cases hp
 . rw [h1] at hp;cases hp;exists En,h4
def IT (h:st.prog=none) (hl:∀b,cl≠ .load b):Vaprbb.step st cl=(st,Vaprbb.refused (-1)):=by
 unfold Vaprbb.step;cases cl with
 | load b=>exact absurd rfl (hl b)
 | _=>rw [h]
def IU (h:st.prog=some p) (hl:∀b,cl≠ .load b):Vaprbb.step st cl=(st,looked p cl):=by
 unfold Vaprbb.step;cases cl with
 | load b=>exact absurd rfl (hl b)
 | _=>rw [h]
inductive k6: #v[0] | mk {K c vs H Q E:_} v p En u cl:vs= [v,u]->C2 K c H v p En->Wp p En->sF c H u cl->(∀b,cl≠ .load b)->gV H Q (encode (looked p cl))->k6 K c vs H Q E
theorem vk:AA.h0 111 "answer_of_held" ["loaded","call"] k6:=by
 nomatch ["loaded","call"]
 ext h v p En u cl rfl hL hW ⟨a,dx,ta,b,k,i,rfl,ha,ft,LU⟩ hnl q;nomatch 2,bJ,T.G1,Lz,bJ,T.G2,LC,bJ,T.Fi,NF,bJ,T.Fj,NK,bJ,T.Fk,NP,bJ,T.DB,IL,bJ,T.G3,LD,bJ,T.G4,LA,NQ
 have fld:H a=some (.ins c.call dx [("number",.int k),("asked",.int i),("text",.ref ta)]):=ha;rcases LU with ⟨rfl,rfl⟩ | ⟨rfl,rfl⟩ | ⟨rfl,rfl⟩ | ⟨rfl,rfl⟩ | ⟨rfl,rfl⟩ | ⟨rfl,rfl⟩ | ⟨rfl,rfl⟩ | ⟨rfl,rfl⟩ | ⟨rfl,rfl⟩ | ⟨rfl,rfl⟩
 . exact absurd rfl (hnl b)
 . refine fr ha U #[U,_,U,bC U ?_];exists v,p,En,U,hL,hW,q
 . refine fr ha U #[U,_,U,aE U ?_];refine fr ha U #[U,_,U,bC U ?_];exists v,p,En,U,hL,hW,q
 . iterate 2 refine fr ha U #[U,_,U,aE U ?_]
   refine fr ha U #[U,_,U,bC U ?_];refine fr ha U #[v,p,En,i,U,hL,hW,q]
 . iterate 3 refine fr ha U #[U,_,U,aE U ?_]
   refine fr ha U #[U,_,U,bC U ?_];refine fr ha U #[v,p,En,i,U,hL,hW,q]
 . iterate 4 refine fr ha U #[U,_,U,aE U ?_]
   refine fr ha U #[U,_,U,bC U ?_];refine fr ha U #[v,ta,b,p,En,U,hL,hW,ft.sq,q]
 . iterate 5 refine fr ha U #[U,_,U,aE U ?_]
   refine fr ha U #[U,_,U,bC U ?_];exists v,p,En,U,hL,hW,q
 . iterate 6 refine fr ha U #[U,_,U,aE U ?_]
   refine fr ha U #[U,_,U,bC U ?_];exists v,p,En,U,hL,hW,q
 . iterate 7 refine fr ha U #[U,_,U,aE U ?_]
   refine fr ha U #[U,_,U,bC U ?_];exists v,p,En,U,hL,hW,q
 . iterate 8 refine fr ha U #[U,_,U,aE U ?_]
   refine fr ha U #[v,ta,b,p,En,U,hL,hW,ft.sq,q]
inductive vm: #v[0] | mk {K c vs H Q E:_} ho dh lv st v cl:vs= [.ref ho,v]->H ho=some (.ins c.hold dh [("loaded",lv)])->HV K c H lv st->sF c H v cl->(∀l H' lv',H l=none->Sb ho H H'->H' ho=some (.ins c.hold dh [("loaded",lv')])->HV K c H' lv' (Vaprbb.step st cl).1->H' l=some (.lst (zV (encode (Vaprbb.step st cl).2)))->Q (.ref l) H')->vm K c vs H Q E
theorem CY:AA.h0 112 "answer_to" ["holder","call"] vm:=by
 nomatch ["holder","call"]
 ext h ho dh lv st v cl rfl IR hH hC q;nomatch 2,bJ,T.Fh,NN,Jv,T.w9,vk
 obtain ⟨a,dx,ta,b,k,i,rfl,ha,ft,LU⟩:=id hC;refine fr ha U #[U,_,U,bG (λe1=>?_) λe1=>?_]
 . have e1:k=0:= ~~~e1
   subst e1;have Zc:cl= .load b:=by
    rcases LU with ⟨_,h⟩ | ⟨h,_⟩ | ⟨h,_⟩ | ⟨h,_⟩ | ⟨h,_⟩ | ⟨h,_⟩ | ⟨h,_⟩ | ⟨h,_⟩ | ⟨h,_⟩ | ⟨h,_⟩
    . exact h
    all_goals exact absurd h ∅
   subst Zc;refine fr ha U #[ho,dh,lv,ta,b,U,IR,ft.sq,?_];have es:Vaprbb.step st (.load b)=(match Vaprbb.read b with | .ok p=>(({prog:=some p}:State),({value:=1}:Answer)) | .error f=>(st,faulty f)):=rfl;rw [es] at q;cases hrd:Vaprbb.read b with
   | ok p=>
    rw [hrd] at q;intro l H' a' En nl sb hh hL hW hl;exact q l H' (.ref a') nl sb hh (.inr #[p,En,a',rfl,rfl,hL,hW]) hl
   | error f=>
    rw [hrd] at q;intro l H' nl s hl;exact q l H' lv nl s.sb (s _ _ IR) (hH.Y C s.Y) hl
 . have e1:¬k=0:= ~~~e1
   have hnl:∀b',cl≠ .load b':=λb' z=>by
    subst z;rcases LU with ⟨h,_⟩ | ⟨_,h⟩ | ⟨_,h⟩ | ⟨_,h⟩ | ⟨_,h⟩ | ⟨_,h⟩ | ⟨_,h⟩ | ⟨_,h⟩ | ⟨_,h⟩ | ⟨_,h⟩
    . exact e1 h
    all_goals cases h
   rcases hH with ⟨hp,rfl⟩ | ⟨p,En,al,hp,rfl,hL,hW⟩
   . rw [IT hp hnl] at q;refine fr IR U #[U,_,U,bC U ?_];exists kg,λD hD=>?_;have sD:=aq.upd (o:= .lst (zV [-1])) hD;exact q D _ .cx hD sD.sb (sD _ _ IR) (.inl #[hp,rfl]) aa
   . rw [IU hp hnl] at q;refine fr IR U #[U,_,U,aE U ?_];refine fr IR U #[.ref al,p,En,.ref a,cl,U,hL,hW,hC,hnl,λl H' nl s hl=>?_];exact q l H' (.ref al) nl s.sb (s _ _ IR) (.inr #[p,En,al,hp,rfl,hL.Y C s.Y,hW]) hl
theorem Jc.snoc {c:List (List Int)} (h:callOf c=some cl):∀{cs:List (List (List Int))} {cls:List Call},Jc cs cls->Jc (cs++ [c]) (cls++ [cl])
 | [],[],_=>#[h,au]
 | _ :: _,_ :: _,z=>#[z.1,Jc.snoc h z.2]
 | [],_ :: _,z=>z.elim
 | _ :: _,[],z=>z.elim
def Ga {l:List Int} {z:Int} (h:l[i]? = some z):(zV l)[i]? = some (.int z):=by
 unfold zV;rw [bA,h];rfl
theorem S9 {l:List Int} (h:i+n<=l.length):ww (zV l) (some (i:Int)) (some ((i+n:Nat):Int))=zV ((l.drop i).take n):=by
 unfold ww;rw [HT.ya,HT.ya,cy,qT (by omega),qT (by omega)];unfold zV;rw [<-List.map_drop,<-List.map_take];congr 2;omega
theorem yu {l:List Int} {k n:Int} {r:List Int} (h:l.drop i=k :: n :: r):l[i]? = some k/\l[i+1]? = some n/\l.drop (i+2)=r/\i+2+r.length=l.length:=by
 have h0:(l.drop i)[0]? = some k:=by rw [h];rfl
 have h1:(l.drop i)[1]? = some n:=by rw [h];rfl
 rw [qH] at h0 h1;have h2:(l.drop i).drop 2=r:=by rw [h];rfl
 rw [fR] at h2;have h3:=bq List.length h;rw [cS,aT,aT] at h3;exists h0,h1,h2,by lia
theorem drop_one {l:List Int} {k:Int} {r:List Int} (h:l.drop i=k :: r):l[i]? = some k/\l.drop (i+1)=r/\i+1+r.length=l.length:=by
 have h0:(l.drop i)[0]? = some k:=by rw [h];rfl
 rw [qH] at h0;have h2:(l.drop i).drop 1=r:=by rw [h];rfl
 rw [fR] at h2;have h3:=bq List.length h;rw [cS,aT] at h3;exists h0,h2,by lia
inductive xQ: #v[0] | mk {K c vs H Q E:_} na l cs:vs= [.ref na]->cw K H na (zV l)->l.length<=17000->PyFlat.calls shape l.length l=some cs->(∀x∈cs,asked1 x=true)->(∀L ws cls H',H L=none->aq H H'->H' L=some (.lst ws)->Jc cs cls->A2 (sF c H') ws cls->Q (.ref L) H')->xQ K c vs H Q E
theorem EB:AA.h0 3 "calls_in" ["numbers"] xQ:=by
 nomatch ["numbers","calls","at","number","first"]
 ext h na l cs rfl hs hl hcs has q;nomatch 2,1,2,eV,aM aJ,3,bR,Es,4,dZ,2,dZ,bR,dZ,cH bN,gI (hX AA) ?_,0,tX ye (pv 0) (m4 (pv 4)) (m4 (pv 2)),Ay,cH bN,gI (hX AA) (aH ?_ (aH ?_ (pU (di ?_)))),bR,dZ,2,sK,cH bN,gI (hX AA) (aH ?_ (aH ?_ (pU (di ?_)))),2,sK,0
 have jm:=gS;exists aD _,λD hD=>?_;exists λm Z H'=> ∃(at_:Nat) (v3 v4:Option V) (f:Nat) (rest done:List (List (List Int))) (cls:List Call) (ws:List V),Z= [some (.ref na),some (.ref D),some (.int (at_:Nat)),v3,v4]/\aq H H'/\H' D=some (.lst ws)/\A2 (sF c H') ws cls/\at_<=l.length/\m=l.length - at_/\PyFlat.calls shape f (l.drop at_)=some rest/\(∀x∈rest,asked1 x=true)/\Jc done cls/\cs=done++rest/\ws.length<=at_,
  #[_,0,none,none,l.length,cs,[],[],[],rfl,aq.upd hD,aa,au,aD _,rfl,by rw [lP];exact hcs,has,au,rfl,az _],?_
 rintro m Z H' ⟨at_,v3,v4,f,rest,done,cls,ws,rfl,s,hw,hA,hat,rfl,hrest,IV,Gb,hcd,hwl⟩;have hs':=s.seq hs;exists na,_,U,.inl hs',_,_,U,U,_,U,bG (λe1=>?_) λe1=>?_
 . refine dI ?_;have iU:at_ < l.length:=by
    have:(at_:Int) < (((zV l).length:Nat):Int):= ~~~e1
    rw [cy] at this;lia
   obtain ⟨k,r,Ub⟩:∃k r,l.drop at_=k :: r:=#[_,_,vz iU];obtain ⟨hk,hr1,hrl⟩:=drop_one Ub;rw [Ub] at hrest;obtain ⟨f',cc,t,rest',rfl,hrest',hcase⟩:=turn hrest IV;have LV:∀x∈rest',asked1 x=true:=λx hx=>IV x (aW _ hx);have hcd':cs=(done++ [cc])++rest':=by rw [hcd,bz];rfl
   exists na,zV l,at_,_,U,U,hs',dA (Ga hk),?_;exists k,U,λH1 s1=>?_;have hs1:=s1.seq hs';have hw1:=s1 _ _ hw;rcases hcase with ⟨nn,r',cl,hk3,rfl,hn0,hnl,rfl,hcl,LU,htx⟩ | ⟨i,r',cl,hk3,rfl,rfl,hcl,LU⟩ | ⟨cl,hk3,VA,rfl,hcl,LU⟩
   . exists _,U,bC (qV hk3) ?_;obtain ⟨_,mZ,hd2,hl2⟩:=yu Ub;obtain ⟨n',rfl⟩:∃n':Nat,nn=(n':Int):=#[nn.toNat,by lia];rw [qI] at hnl LU htx hrest';have ei:((at_:Nat):Int)+1=((at_+1:Nat):Int):=by lia
     have e2:((at_:Nat):Int)+2=((at_+2:Nat):Int):=by lia
     have e3:((at_+2:Nat):Int)+(n':Int)=((at_+2+n':Nat):Int):=by lia
     exists _,_,U,U,?_;exists _,_,U,U,na,zV l,_,_,U,U,hs1,(by rw [ei];exact dA (Ga mZ)),_,_,U,U,?_;have ec:ww (zV l) (some ((at_:Int)+2)) (some ((at_:Int)+2+(n':Int)))=txt (L5 (r'.take n')):=by rw [e2,e3,S9 (by lia),hd2,htx]
     exists oA hw1,_,U,_,U,na,_,U,hs1,λS hS=>?_;exists S,_,U,aa,au,λo=>?_;have sS:=(aq.upd (o:= .lst (ww (zV l) (some ((at_:Int)+2)) (some ((at_:Int)+2+(n':Int))))) hS).bM (o:= .g8 o (.lst (ww (zV l) (some ((at_:Int)+2)) (some ((at_:Int)+2+(n':Int)))))) hS;refine λx dx nx nd _=>#[x,dx,_,_,_,rfl,aa,λH2 hx kp=>#[rfl,?_]];have sx:=aq.made nx nd kp;have ss:=sS.trans sx;have hw2:=ss _ _ hw1;have dM:bW c H2 (upd H2 D (.lst (ws++ [.ref x]))):=bW.upd hw2 rfl;exists D,_,_,U,U,hw2,by lia,?_;exists _,?_,at_+2+n',_,_,f',rest',done++ [cc],cls++ [cl],ws++ [.ref x],U,((s.trans s1).trans ss).bM hD,aa,?_,by lia,U,?_,LV,Gb.snoc hcl,hcd',by rw [ao,aC];lia
     . lia
     . have fS:FL H2 S (ww (zV l) (some ((at_:Int)+2)) (some ((at_:Int)+2+(n':Int)))):=#[o,sx _ _ aa];rw [ec] at fS;exact (hA.mono λ_ _ z=>(z.Y C (s1.trans ss).Y).Y C dM).snoc (sF.Y C #[x,dx,S,L5 (r'.take n'),k,0,rfl,hx,fS,LU] dM)
     . rw [<-fR,hd2];exact hrest'
   . have Zd:¬(k=0\/k=5\/k=9):=by lia
     exists _,U,aE (dG Zd) ?_;obtain ⟨_,mZ,hd2,hl2⟩:=yu Ub;exists k,U,λH2 s2=>#[_,U,bC (qV hk3) ?_];have hs2:=s2.seq hs1;have hw2:=s2 _ _ hw1;have ei:((at_:Nat):Int)+1=((at_+1:Nat):Int):=by lia
     exists oA hw2,_,_,U,U,na,zV l,_,_,U,U,hs2,(by rw [ei];exact dA (Ga mZ)),aD _,λS hS=>?_;exists S,_,U,aa,au,λo=>?_;have sS:=(aq.upd (o:= .lst (txt [])) hS).bM (o:= .g8 o (.lst (txt []))) hS;refine λx dx nx nd _=>#[x,dx,_,_,_,rfl,aa,λH3 hx kp=>#[rfl,?_]];have sx:=aq.made nx nd kp;have ss:=sS.trans sx;have zx:=ss _ _ hw2;have dM:bW c H3 (upd H3 D (.lst (ws++ [.ref x]))):=bW.upd zx rfl;exists D,_,_,U,U,zx,by lia,?_;exists _,_,U,U,_,?_,at_+2,_,_,f',rest',done++ [cc],cls++ [cl],ws++ [.ref x],U,(((s.trans s1).trans s2).trans ss).bM hD,aa,?_,by lia,U,?_,LV,Gb.snoc hcl,hcd',by rw [ao,aC];lia
     . lia
     . refine (hA.mono λ_ _ z=>(z.Y C ((s1.trans s2).trans ss).Y).Y C dM).snoc (sF.Y C #[x,dx,S,[],k,i,rfl,hx,#[o,sx _ _ aa],LU] dM)
     . rw [hd2];exact hrest'
   . exists _,U,aE (dG hk3) ?_;exists k,U,λH2 s2=>#[_,U,aE (dG VA) ?_];have hw2:=s2 _ _ hw1;exists oA hw2,aD _,λS hS=>?_;exists S,_,U,aa,au,λo=>?_;have sS:=(aq.upd (o:= .lst (txt [])) hS).bM (o:= .g8 o (.lst (txt []))) hS;refine λx dx nx nd _=>#[x,dx,_,_,_,rfl,aa,λH3 hx kp=>#[rfl,?_]];have sx:=aq.made nx nd kp;have ss:=sS.trans sx;have zx:=ss _ _ hw2;have dM:bW c H3 (upd H3 D (.lst (ws++ [.ref x]))):=bW.upd zx rfl;exists D,_,_,U,U,zx,by lia,?_;exists _,_,U,U,_,?_,at_+1,_,_,f',rest',done++ [cc],cls++ [cl],ws++ [.ref x],U,(((s.trans s1).trans s2).trans ss).bM hD,aa,?_,by lia,U,?_,LV,Gb.snoc hcl,hcd',by rw [ao,aC];lia
     . lia
     . refine (hA.mono λ_ _ z=>(z.Y C ((s1.trans s2).trans ss).Y).Y C dM).snoc (sF.Y C #[x,dx,S,[],k,0,rfl,hx,#[o,sx _ _ aa],LU] dM)
     . rw [hr1];exact hrest'
 . have hge:l.length<=at_:=by
    have:¬(at_:Int) < (((zV l).length:Nat):Int):= ~~~e1
    rw [cy] at this;lia
   rw [jy hge] at hrest;have hr0:rest= []:=by cases f <;> (cases hrest;rfl)
   subst hr0;rw [bH] at hcd;subst hcd;refine q D ws cls H' hD s hw Gb hA
def LW {cls:List Call} (h:cls.drop i=cl :: cls.drop (i+1)):ans st (cls.drop i)=encode (Vaprbb.step st cl).2 :: ans (Vaprbb.step st cl).1 (cls.drop (i+1)):=by rw [h];rfl
def IW (a:List Int) (l:List (List Int)):told (a :: l)=(a.length:Int) :: a++told l:=rfl
inductive tQ: #v[0] | mk {K c vs H Q E:_} na l:vs= [.ref na]->cw K H na (zV l)->l.length<=17000->answers_asked l=true->(∀D H',H D=none->aq H H'->H' D=some (.lst (zV (answers l)))->Q (.ref D) H')->tQ K c vs H Q E
theorem Gc:AA.h0 113 "answers" ["calls"] tQ:=by
 nomatch ["calls","holder","given","call","answer"]
 ext h na l rfl hs hl has q;nomatch 2,1,RZ (tN AA) hr (by lia) Du rfl,2,bD,EB,3,4,CY,cH bN,aM aJ,cH dB,0
 have jm:=gS;obtain ⟨cs,hcs,Ze,IV⟩:=LR has;refine λho dh Xa Zf _=>#[ho,dh,rfl,aa,λH1 IR kp=>#[rfl,?_]];have s1:aq H H1:=aq.made Xa Zf kp;exists aD _,λD hD=>?_;have s2:=aq.upd (o:= .lst []) hD;have EK:=same_none s1 hD;have Qh:=s1.trans s2;have V':ho≠D:=λz=>by rw [z,hD] at IR;cases IR
 exists na,l,cs,U,Qh.seq hs,hl,hcs,IV,λL ws cls H3 nL s3 hL Gb hA=>?_;have Zg:=hA.len;have hcl:=Gb.len;have Zh:L≠D:=λz=>by rw [z,aa] at nL;cases nL
 have S_:=s3 _ _ (s2 _ _ IR);have Wa:L≠ho:=λz=>by rw [z,S_] at hL;cases hL
 have mX:=s3 _ _ (aa (H:=H1) (a:=D) (o:= .lst []));have hfin:=F_ hcs Gb;exists L,U,#[ws,cw.of hL],cC (K:=K) (a:=L) (xs:=ws) (λi Z H'=> ∃(v3 v4:Option V) (lv:V) (st:State) (acc:List Int),Z= [some (.ref na),some (.ref ho),some (.ref D),v3,v4]/\(∀b o,H3 b=some o->b≠D->b≠ho->H' b=some o)/\bW c H3 H'/\H' D=some (.lst (zV acc))/\H' ho=some (.ins c.hold dh [("loaded",lv)])/\HV K c H' lv st/\acc.length<=20001 * i/\acc++told (ans st (cls.drop i))=answers l)
  #[none,none,.cx,{},[],rfl,λb o e _ _=>e,bW.refl,mX,S_,.inl #[rfl,rfl],aD _,by rw [lP,hfin];rfl] (λi Z H' _ #[_,_,_,_,_,_,kp,_]=>cw.of (kp _ _ hL Zh Wa)) ?_ ?_
 . rintro i x Z H' hi ⟨v3,v4,lv,st,acc,rfl,Wb,im,mC,hh',hH,hacc,hev⟩;obtain ⟨cl,hcl',hx⟩:=hA.get hi;have hil:i < ws.length:=(bj.mp hi).1;have hal:=NR hH.ok cl;rw [LW (d3 hcl'),IW] at hev;exists ho,dh,lv,st,x,cl,U,hh',hH,hx.Y C im,λal H4 lv' Uc sb Zi Zj S'=>?_;have Ip:bW c H' H4:=sb.Vr hh';have oI:H4 D=some (.lst (zV acc)):=sb _ _ mC (bX V');exists oA oI,al,_,U,.inl (cw.of S'),D,_,_,U,U,oI,by rw [cy];lia,?_;have Wc:al≠D:=λz=>by rw [z,mC] at Uc;cases Uc
   have Xb:al≠ho:=λz=>by rw [z,hh'] at Uc;cases Uc
   refine nQ _ λH5 eH=>?_;have Jb:H5 D=some (.lst (zV (acc++ [((encode (Vaprbb.step st cl).2).length:Int)]))):=by
    rw [eH,aa,cy,cX];rfl
   have k5:∀b o,H4 b=some o->b≠D->H5 b=some o:=λb o e ne=>by rw [eH,aA ne];exact e
   have Xc:bW c H4 H5:=by rw [eH];exact bW.upd oI rfl
   clear eH;have Wd:=k5 _ _ S' Wc;exists oA Jb,D,al,_,_,U,U,Jb,Wd,by rw [cy,cy,ao,aC];lia,?_;have dM:bW c H5 (upd H5 D (.lst (zV (acc++ [((encode (Vaprbb.step st cl).2).length:Int)])++zV (encode (Vaprbb.step st cl).2)))):=bW.upd Jb rfl;exists _,_,lv',(Vaprbb.step st cl).1,acc++ [((encode (Vaprbb.step st cl).2).length:Int)]++encode (Vaprbb.step st cl).2,U,λb o e n1 n2=>?_,im.trans (Ip.trans (Xc.trans dM)),?_,?_,Zj.Y C (Xc.trans dM),?_,?_
   . rw [aA n1];exact k5 _ _ (sb _ _ (Wb b o e n1 n2) n2) n1
   . rw [aa,<-cX]
   . rw [aA V'];exact k5 _ _ Zi V'
   . rw [ao,ao,aC];lia
   . rw [<-hev];simp only [bz,lK,lO]
 . rintro Z H' ⟨v3,v4,lv,st,acc,rfl,Wb,im,mC,hh',hH,hacc,hev⟩;rw [Zg,fP] at hev;have hev:acc++ []=answers l:=hev;rw [bH] at hev;subst hev;refine q D H' EK (λb o e=>?_) mC;exact Wb b o (s3 _ _ (s2 _ _ (s1 _ _ e))) (λz=>by rw [z,EK] at e;cases e) (λz=>by rw [z,Xa] at e;cases e)
end Lot
namespace Lot
open PySem PySem.W PyProof.Rows L2
def LX {w:World} {h h':Heap} (Z_:(KK w.params).In h) (k:∀b o,h.get? b=some o->h'.get? b=some o):(KK w.params).In h':=λa o e=>k _ _ (Z_ a o e)
def LY:(chainsOk qv && opensWell pr)=true:=by decide+kernel
end Lot
open PySem PySem.W PyProof.Rows
theorem PySem.Challenge.cw_lotprograms_s01_answers_holds : PySem.Challenge.rw_lotprograms_s01_answers.Holds :=
 by
 refine holds_os (r:=PySem.Challenge.rw_lotprograms_s01_answers) (q:=Lot.qv) (XP:=λ_ _=>True) (YP:=λw h=>(Lot.KK w.params).In h) (kwd:= []) Lot.left (λw s e=>e ▸ Lot.Sg (Lot.Bo w).1) (λw h h' Z_ k=>Lot.LX Z_ k) (λ_ _=>au) (λ_ _ _ _ _=>au)
  (by rfl) (by rfl) (by rfl) (λs e=>recFacts_of (ig.mp e).2) (λas hp=>OpenSpec.pre_hasAll Sd.said hp) Sd.said Lot.LY Lot.L9 #[[.list [.int 1]],by decide+kernel,by decide+kernel] ?_
 refine L2.HY (r:=PySem.Challenge.rw_lotprograms_s01_answers) (k:=113) (K:=Lot.KK) (CX:=λ_=>L2.Dt) (ps:= ["calls"]) (sp:=λw=>Lot.tQ (Lot.KK w.params) Lot.cA) Sd.said rfl rfl #[rfl,∅,∅] (λw h Z_=>Z_) ?F ?S (λ_ _ _ _ _ z=>z)
 case F=>
  intro w mg fa h Z_ KX G Vq base hb hg;obtain ⟨f,fd,h1,h2,h3,h4⟩:=Lot.Gc ((Lot.Bo w).2 PySem.Challenge.rw_lotprograms_s01_answers.prog _ _ base KX G);have e:=Vq.symm.trans h1;cases e;exists fd,h4,h3
 case S=>
  intro w H xs a hO hwi IV hx;cases hx with
  | cons h1 h2=>
   cases h2;cases h1 with
   | lst hs ha=>
    have e:=L2.GL a.1 _ ha;subst e;have q:((Codec.inLen 0 17000 a.1 && a.1.all (Codec.inInt (Int.negSucc 999999999999999999) (Int.ofNat 1000000000000000000))) && true)=true:=hwi;rw [c5,c5] at q;exists _,a.1,U,hs,(Codec.inNat_iff.mp q.1.1).2,IV,λD H' _ _ hD=> .lst (L2.cw.of hD) (L2.GK _)
