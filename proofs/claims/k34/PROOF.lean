import PyProof.Rows.All
import Wide.All
import OpenK.AllK
import Wide.FinOn
import Lean
import PyProof.EqAt
import PyProof.EqKinds
import PyProof.TupleCall
import PyProof.NeKinds
import PyProof.RulesTry
import PyProof.ExcArgsOwn
import PyProof.InstStoreFacts
import PyProof.ExcInit
import PyProof.ExcClass3
import KE.KTryMore
import PyProof.NsDelKeeps
import PyProof.RulesAs
import PyProof.InstEq
import PyProof.Rows.EqMixed
import PyProof.FactsAll.tuple_1
import PySem.Challenge.RW_markwords_k34_pairs_and_rings
set_option Elab.async false
set_option linter.all false
set_option maxRecDepth 100000
set_option maxHeartbeats 8000000
set_option hygiene false
def wN(s:String):Array (Lean.TSyntax `term):=(s.splitOn " ").toArray.map λx=>Lean.mkIdent x.toName
local macro_rules|`(tactic|ac_rfl)=>`(tactic|refine ⟨rfl,rfl,rfl,by decide +kernel,rfl,by decide +kernel,by decide +kernel⟩)
set_option compiler.extract_closed false
local macro_rules|`(tactic|lia)=>`(tactic|first|lia (config := {})|omega)
def Dc:=@List.getElem?_eq_some_iff
def De:=@List.getElem?_append_left
def Df:=@List.getElem?_eq_getElem
def Dg:=@List.length_map
def Dh:=@List.mem_of_getElem?
def Di:=@List.getElem?_set_ne
def Dj:=@List.length_append
def Dk:=@Nat.le_refl
def Dl:=@List.mem_cons
def Dm:=@List.mem_singleton
def Dn:=@List.getElem?_set_self
def Do:=@List.length_set
def Dp:=@List.getElem?_append_right
def Dq:=@List.map_append
def Dr:=@List.mem_append
def Ds:=@List.mem_append_right
def Dt:=@Bool.false_ne_true
def Du:=@List.size_toArray
def Dv:=@List.length_cons
def Dw:=@List.mem_append_left
def Dx:=@Nat.lt_of_lt_of_le
def Dy:=@List.getElem?_map
def Dz:=@Nat.ne_of_lt
def DA:=@Nat.le_trans
def DB:=@List.mem_filter
def DC:=@List.append_assoc
def DD:=@List.map_cons
def DF:=@List.take_length
def DG:=@Nat.zero_le
def DH:=@List.mem_cons_self
def DI:=@List.append_nil
def DJ:=@List.nodup_cons
def DL:=@List.mem_map
def DM:=@Nat.add_sub_cancel_left
def DN:=@Int.one_mul
def DO:=@Option.map_eq_some_iff
def DP:=@List.lookup_cons
def DQ:=@List.length_singleton
def DR:=@List.mem_cons_of_mem
def DS:=@Nat.le_of_lt
def DT:=@List.flatMap_append
def DU:=@List.not_mem_nil
def DV:=@Nat.lt_irrefl
def DW:=@List.nodup_append
def DX:=@List.mem_filterMap
def DY:=@List.pairwise_cons
def DZ:=@PySem.W.kia_one
def D0:=@List.length_take
def D1:=@List.map_congr_left
def D2:=@List.length_range
def D3:=@Bool.false_eq_true
def D4:=@List.length_nil
def D5:=@Int.emod_lt_of_pos
def D6:=@List.filter_append
def D7:=@Int.emod_eq_of_lt
def D8:=@List.mem_range
def D9:=@Int.emod_nonneg
def Ra:=@Nat.pow_le_pow_right
def Rb:=@List.getElem?_cons_zero
def Re:=@Nat.zero_add
def Rg:=@Bool.eq_iff_iff
def Rh:=@List.nil_append
def Ri:=@List.getD_eq_getElem?_getD
def Rj:=@PySem.W.methodCall_KW
def Rk:=@List.any_cons
def Rl:=@List.getElem?_of_mem
def Rm:=@List.mem_of_mem_take
def Rn:=@Nat.succ_le_succ
def Ro:=@List.cons_append
def Rp:=@PySem.W.callWith_K
def Rq:=@Nat.sub_self
def Rr:=@Nat.min_eq_left
def Rs:=@List.take_append_drop
def Ru:=@List.length_filter_le
def Rv:=@List.flatMap_cons
def Rw:=@PySem.W.hideAll_none
def Rx:=@List.pairwise_append
def Ry:=@List.mem_or_eq_of_mem_set
def Rz:=@PySem.W.hideAll_get
def RA:=@List.mem_map_of_mem
def RB:=@List.map_map
def RC:=@List.getElem?_replicate
def RD:=@List.set_comm
def RE:=@List.find?_cons
def RF:=@List.length_eq_zero_iff
def RG:=@List.getElem?_cons_succ
def RH:=@List.take_of_length_le
def RK:=@Int.le_refl
def RL:=@List.take_add_one
def RM:=@List.nodup_nil
def RN:=@Int.ne_of_gt
def RO:=@List.map_set
def RP:=@Bool.and_eq_true
def RQ:=@List.mem_of_mem_drop
def RS:=@List.set_append_left
def RT:=@List.dropLast_concat_getLast
def RU:=@List.filterMap_cons
def RV:=@PySem.W.plainGet_of
def RW:=@List.length_pos_iff
def RX:=@List.range_succ
def RY:=@List.filter_sublist
def RZ:=@Int.fdiv_eq_ediv_of_nonneg
def R0:=@Array.append_assoc
def R1:=@Int.natCast_nonneg
def R3:=@Nat.le_of_eq
def R4:=@List.set_cons_zero
def R5:=@List.set_cons_succ
def R6:=@List.zip_cons_cons
def R7:=@List.zip_nil_right
def R8:=@List.drop_eq_getElem_cons
def R9:=@Nat.not_lt
def Ba:=@List.getElem?_take_of_lt
def Bb:=@Option.isSome_map
def Bc:=@Nat.le_succ_of_le
def Bd:=@List.zip_nil_left
def Be:=@List.pairwise_map
def Bf:=@List.filter_congr
def Bg:=@Int.not_le
def Bh:=@Nat.le_succ
def Bi:=@List.all_cons
def Bj:=@List.eraseIdx_cons_succ
def Bk:=@List.sum_cons
def Bl:=@PySem.W.mg_of
def Bm:=@List.getElem_inj
def Bn:=@List.length_drop
def Bo:=@List.flatMap_def
def Bp:=@PySem.W.cellsFrom_some
def Bq:=@List.zipWith_cons_cons
def Br:=@Nat.div_div_eq_div_mul
def Bs:=@Nat.le_of_ble_eq_true
def Bu:=@Nat.ne_of_gt
def Bv:=@List.of_mem_zip
def Bw:=@Option.map_some
def Bx:=@PySem.W.exm_one
def By:=@List.map_nil
def Bz:=@List.set_append_right
def BA:=@List.take_left'
def BB:=@List.perm_append_comm
def BC:=@Int.le_of_lt
def BD:=@List.dropLast_eq_take
def BE:=@List.set_getElem_self
def BF:=@Nat.two_pow_pos
def BG:=@List.drop_left'
def BH:=@Bool.and_eq_true_iff
def BI:=@Array.length_toList
def BJ:=@PySem.W.findObj_own
def BK:=@List.replicate_succ
def BL:=@Array.getElem?_push
def BM:=@Int.pow_add
def BN:=@Nat.div_eq_zero_iff
def BO:=@PySem.W.of_hideAll
def BP:=@Nat.lt_of_le_of_lt
def BQ:=@List.contains_cons
def BS:=@List.map_drop
def BU:=@Int.natAbs_natCast
def BV:=@List.append_of_mem
def BW:=@Int.not_lt
def BX:=@List.set_set
def BY:=@Int.mul_comm
def BZ:=@Nat.add_comm
def B0:=@Int.add_comm
def qaG:=@Nat.pow_add
def qaH:=@Nat.le_zero
def Ug:=@PySem.wpAny_bind
def Uh:=@PySem.wpAny_pure
def Ui:=@if_neg
def Uj:=@PySem.wpAny_mono
def Uk:=@PySem.sizeLine_eq
def Ul:=@if_pos
def Um:=@congrArg
def Uo:=@congrFun
def Up:=@PySem.wpAny_holding
def Uq:=@of_decide_eq_true
def Ur:=@PySem.wpAny_standAt
def Us:=@decide_eq_false
def Ut:=@PySem.wpAny_execs_nil
def Uu:=@PyProof.Rows.assignInOrder_cons
def Uv:=@PySem.wpAny_passesOwn
def Uw:=@PySem.wpAny_execs_cons
def Ux:=@decide_eq_true
def Uy:=@PySem.wpAny_Call_Name_kw
def Uz:=@PySem.tupleKind_room_in1
def UB:=@PySem.wpAny_truthy_bool
def UC:=@PySem.wpAny_loadPart_at
def UD:=@PySem.strLen_append
def UF:=@of_decide_eq_false
def UH:=@PySem.wpAny_field
def UJ:=@PySem.wpAny_newObj_type
def UL:=@PySem.plainObj_wpAny_Assign_Attribute
def UM:=@PySem.wpAny_Assign_Name
def UN:=@PySem.wpAny_bindName
def UP:=@or_false
def UQ:=@PySem.codeAny_mono
def UR:=@PySem.codeAny_handlers_test
def UU:=@decide_false
def UV:=@PySem.wpAny_call_entry
def UW:=@PySem.codeAny_call_builtin
def UY:=@PySem.call_meets
def UZ:=@PySem.wpAny_Assign_stores
def U0:=@PySem.wpAny_handleBy_cons
def U1:=@PyProof.Rows.assignInOrder_nil
def U2:=@PySem.wpAny_call
def U3:=@decide_eq_true_eq
def U4:=@if_false
def U5:=@PySem.noFill_tuple_add
def U6:=@PySem.wpAny_specialOf
def U7:=@PySem.wpAny_typeOf
def U8:=@PySem.wpAny_Expr_any
def U9:=@PySem.typeIs_none
def Da:=@PySem.wpAny_rule
def Db:=@if_true
namespace L2
open PySem PySem.Spec PyProof.Rows
def qx(s:Stmt)(j:Nat):Stmt:=match s with
 |.ClassDef _ _ _ body _ _ _ _ _ _ _=>body.getD j (.Pass ⟨0,0,0,0⟩)
 |_=>.Pass ⟨0,0,0,0⟩
def zL(s:Stmt):Arguments:=match s with
 |.FunctionDef _ a _ _ _ _ _ _ _ _=>a
 |_=>{ posonlyargs:=[],args:=[],vararg:=none,kwonlyargs:=[],kw_defaults:=[],kwarg:=none,defaults:=[] }
def vg(s:Stmt):List Stmt:=match s with
 |.FunctionDef _ _ b _ _ _ _ _ _ _=>b
 |_=>[]
def qw(s:Stmt):Scope:=match s with
 |.FunctionDef _ _ _ _ _ _ sc _ _ _=>sc
 |_=>{ kind:=.function,names:=[],isGenerator:=false,isCoroutine:=false }
end L2
namespace Hd
open PySem PySem.W PySem.Calls PyProof.Rows
def topT(tb:String->Option Builtin)(p:Program)(w:World)(m:Nat)(an:Option Value):Nat->SharedT->Thread->Option SharedT
 |0,_,_=>none
 |k+1,s,t=>match through t with
  |true=>some s
  |false=>match stepOk m an t with
   |false=>none
   |true=>match stepT (denote tb) p w s t with
    |some (s1,t1)=>topT tb p w m an k s1 t1
    |none=>none
theorem Jm :
  ∀{k:Nat}{s r:SharedT}{t:Thread},topT tb p w m an k s t=some r->topRun tb p w m an k s.abs t=some r.abs
 |0,_,_,_,h=>by cases h
 |k+1,s,r,t,h=>by
  unfold topT at h;unfold topRun;cases ht:through t with
  |true=>rw[ht]at h;cases h;rfl
  |false=>
   rw[ht]at h;cases hk:stepOk m an t with
   |false=>rw[hk]at h;cases h
   |true=>
    rw[hk]at h;cases hs:stepT _ p w s t with
    |none=>rw[hs]at h;cases h
    |some x=>
     rw[hs]at h;rw[stepT_spec hs];exact Jm h
noncomputable def bootT(P:Params):BT :=
 .node (boot_o_0 P) (.node (boot_o_1 P) (.node (boot_o_3 P) (.node (boot_o_7 P) .nil .nil) .nil) (.node (boot_o_5 P) (.node (boot_o_9 P) .nil .nil) .nil))
  (.node (boot_o_2 P) (.node (boot_o_4 P) (.node (boot_o_8 P) .nil .nil) .nil) (.node (boot_o_6 P) (.node (boot_o_10 P) .nil .nil) .nil))
abbrev bootL:Life:={}
noncomputable def S0(w:World)(os:OsState):SharedT:=⟨bootT w.params,11,bootL, #[],boot_drawn,boot_toks,os⟩
noncomputable def Look(p q:Program)(loose:List Str)(Xt:Shared->Bool){α:Type}(Yf:Shared->α)(w:World)(s:Shared):=
 ((staticsOk (importedModules p.main.body) (boot_heap w.params) s.heap&&namesBound p s.heap&&gensDone s&&laidKept (boot_heap w.params) s.heap),openSeen q loose (importedModules p.main.body) Xt true s,Yf s)
theorem left_of{p q:Program}{loose:List Str}{Xt:Shared->Bool}{α:Type}{Yf:Shared->α}{Ya:World->α}{N M:Nat}(e:opening p=plainProg p.main.scope.names)(hN:Nat.ble 600 N=true)(f:∀s,fenceModules? p s=some s)(le:Nat.ble M N=true)(run:∀w os,(topT treeTable p w 11 (some (.ref 6)) M (S0 w os) (topStub p)).map (λs=>Look p q loose Xt Yf w s.abs)=some (true,openGood q loose,Ya w))(hs:∀P:Params,((boot_heap P).isNs mainGlobals,(boot_heap P).nsMap mainGlobals "__annotations__")=(true,some (.ref 6))):LeftO p q loose Xt Yf Ya N:=λw=>by
 obtain⟨⟨h,gs,d,k,os⟩,e1,e2⟩:=DO.mp (boot_open e hN f w);obtain⟨rfl,rfl,rfl,rfl⟩:=by simpa using e2
 obtain⟨z1,z3⟩:=by simpa using hs w.params
 obtain⟨r,r1,r2⟩:=DO.mp (run w os);obtain⟨l1,l2,l3⟩:=by simpa only[Look,Prod.mk.injEq]using r2
 have r3:=topRun_mono (N-M) _ _ _ _ (Jm r1);rw[show M+_=N by have:=Bs le;lia]at r3;have a:(S0 w os).abs=⟨boot_heap w.params, #[],boot_drawn,boot_toks,os⟩:=by rfl
 rw[a]at r3;have t:topFrom treeTable p w N ⟨boot_heap w.params, #[],boot_drawn,boot_toks,os⟩=some r.abs:=by
  unfold topFrom;dsimp only;rw[ z3,show(boot_heap w.params).objs.size=11 from rfl,r3]
  grind
 unfold openEnds;rw[e1];show(topFrom treeTable p w N _).map _=_;rw[t];exact Um some (Prod.ext l2 l3)
def fill(f:Nat->Obj):List Nat->Frag->List Obj
 | [],_=>[]
 |i::r, []=>f i::fill f r []
 |i::r,(a,o)::Ξ=>match Nat.beq a i with
  |true=>o::fill f r Ξ
  |false=>f i::fill f r ((a,o)::Ξ)
theorem Vt:∀{r:List Nat}{Ξ:Frag},(∀p∈Ξ,f p.1=p.2)->fill f r Ξ=r.map f
 | [],_,_=>rfl
 |i::r, [],h=>Um _ (Vt h)
 |i::r,(a,o)::Ξ,h=>by
  unfold fill;cases e:Nat.beq a i with
  |true=>
   cases Nat.eq_of_beq_eq_true e;exact(Um (· :: fill f r Ξ) (h _ (.head _)).symm).trans (Um _ (Vt λp m=>h p (.tail _ m)))
  |false=>exact Um _ (Vt h)
noncomputable def BR(P:Params):Frag:=[(0,boot_o_0 P),(1,boot_o_1 P),(4,boot_o_4 P),(5,boot_o_5 P),(6,boot_o_6 P),(7,boot_o_7 P),(8,boot_o_8 P),(9,boot_o_9 P),(10,boot_o_10 P)]
def ins(x:Nat×Obj):Frag->Frag
 | []=>[x]
 |y::r=>match Nat.ble x.1 y.1 with
  |true=>x::y::r
  |false=>y::ins x r
def KX(Ξ R:Frag):Frag:=R.foldr ins Ξ
def E0:Obj:=⟨.none,none,.fields #[], #[]⟩
noncomputable def SE(Ξ R:Frag)(Q:List Nat)(n:Nat)(f:Nat->Obj)(l:Life)(d:Drawn)(k:Nat)(os:OsState):Shared:=⟨⟨(fill (λi=>match Q.any (Nat.beq i) with|true=>E0|false=>f i) (List.range n) (KX Ξ R)).toArray,l⟩, #[],d,k,os⟩
theorem SE_is{s:SharedT}(h:(s.n,s.gens,Q.map s.tree.get,(KX Ξ R).map λp=>s.tree.get p.1)=(n, #[],Q.map (λ_=>some E0),(KX Ξ R).map λp=>some p.2)):s.abs=SE Ξ R Q n (λi=>(s.tree.get i).getD default) s.life s.drawn s.toks s.os:=by
 obtain⟨T,m,l,g,d,k,os⟩:=s;obtain⟨rfl,rfl,h2,h3⟩:=by simpa only[Prod.mk.injEq]using h
 show Shared.mk (absHeap T m l) _ _ _ _=Shared.mk _ _ _ _ _;have q:(λi=>match Q.any (Nat.beq i) with|true=>E0|false=>(T.get i).getD default)=λi=>(T.get i).getD default:=funext λi=>by
  cases e:Q.any (Nat.beq i)<;>simp_all
 unfold absHeap BT.list;rw[q,Vt λp m=>by rw[List.map_inj_left.mp h3 p m];rfl]
noncomputable def LkA(p q:Program)(w:World)(s:Shared):=((staticsOk (importedModules p.main.body) (boot_heap w.params) s.heap&&namesBound p s.heap&&gensDone s&&laidKept (boot_heap w.params) s.heap),seen ((recsOf q).map (·.name)) (ownsOf q) [] { s with gens:=#[] },s.heap.bltView)
noncomputable def GdA(q:Program):=(true,expectedOf q,bltViewBooted)
noncomputable def LkB(p q:Program)(loose:List Str)(Xt:Shared->Bool)(s:Shared):=(s.heap.keysOk (looseW q loose) ((recsOf q).map (·.name)) ((litsOf q).map (·.1)) ((clssOf q (looseW q loose)).map (·.name))&&s.heap.accountedOkI (importedModules p.main.body)&&s.heap.isNs mainGlobals&&s.heap.isNs builtinsNs&&tablesOk q s.heap&&Xt s&&(if true then s.gens.size==0 else !leftWithCleanup s.gens))
noncomputable def LkD(q:Program)(loose:List Str)(s:Shared):=(pinSeenD q (drecsOf q) s,plainSeenE q (looseW q loose) s,plainSeenD q loose s,wideSeen q s,clsSeenW q loose s)
noncomputable def GdD(q:Program)(loose:List Str):=(pinGoodD (drecsOf q),plainGoodE q (looseW q loose),plainGoodD q loose,wideGood q,clsGoodW q loose)
theorem look3{p q:Program}{loose:List Str}{Xt:Shared->Bool}{α:Type}{Yf:Shared->α}{w:World}{y:α}{s:Shared}(hA:LkA p q w s=GdA q)(hB:(LkB p q loose Xt s,tabsOk q s)=(true,true))(hD:LkD q loose s=GdD q loose)(hC:Yf s=y):Look p q loose Xt Yf w s=(true,openGood q loose,y):=
 Prod.ext (Um (·.1) hA) (Prod.ext (Prod.ext (Um (·.2.1) hA) (Prod.ext (Um (·.2.2) hA) (Prod.ext (Um (·.1) hB) (Prod.ext (Um (·.2) hB) hD)))) hC)
theorem left_ofE{Ξ R:Params->Frag}{as:∀P,KA=(Ξ P).map (·.1)}(e:opening p=plainProg p.main.scope.names)(hN:Nat.ble 600 N=true)(f:∀s,fenceModules? p s=some s)(le:Nat.ble M N=true)(run:∀w os,(topT treeTable p w 11 (some (.ref 6)) M (S0 w os) (topStub p)).map (λs=>(s.n,s.gens,Q.map s.tree.get,(KX (Ξ w.params) (R w.params)).map λp=>s.tree.get p.1))=some (n, #[],Q.map (λ_=>some E0),(KX (Ξ w.params) (R w.params)).map λp=>some p.2))(look:∀w f l d k os,Look p q loose Xt (kHook Ξ KA as).obs w (SE (Ξ w.params) (R w.params) Q n f l d k os)=(true,openGood q loose,(kHook Ξ KA as).val w))(hs:∀P:Params,((boot_heap P).isNs mainGlobals,(boot_heap P).nsMap mainGlobals "__annotations__")=(true,some (.ref 6))):LeftO p q loose Xt (kHook Ξ KA as).obs (kHook Ξ KA as).val N :=
 left_of e hN f le (λw os=>by
  obtain⟨r,r1,r2⟩:=DO.mp (run w os);rw[r1];exact Um some ((Um _ (SE_is r2)).trans (look w _ _ _ _ _))) hs
theorem boot_main(P:Params):((boot_heap P).isNs mainGlobals,(boot_heap P).nsMap mainGlobals "__annotations__")=(true,some (.ref 6)):=by kernel_rfl
end Hd
namespace Hd
open PySem PySem.W PySem.Calls PyProof.Rows
theorem close{H:Hook}(left:LeftO r.prog q loose (λs=>xlAt q lv s&&recOk (RowW.records (OpenRow.toRowW r)) s) H.obs H.val N)(h1:defOf q r.name=some (d,kwd))(h2:r.prog.theDef r.name=some (d.params,d.body,d.scope))(h3:kwWritten? d.params.kwonlyargs d.params.kw_defaults=some kwd)(h4:(!r.writes||r.records.isEmpty)=true)(h5:r.wellSaid=true)(h6:(chainsOk q&&opensWell r.prog&&(frees r.toRowW&&r.within.isEmpty))=true)(h7:r.prog.bare)(hw:r.toRowW.promised)(hc:WalkO q loose (XL q lv) H.says r.toRowW d kwd λf vs=>PySem.call f vs):r.Holds :=
 holds_open left H.of H.keeps (λs z=>xl_of s (BH.mp z).1) XL.keeps h1 h2 h3 (λs z=>recFacts_of (BH.mp z).2) h4 h5 h6 h7 hw hc
end Hd
namespace Mw
open PySem L2
def top(i:Nat):Stmt:=PySem.Challenge.pw_markwords_k34_pairs_and_rings.main.body.getD i (.Pass ⟨0,0,0,0⟩)
end Mw
theorem PySem.W.Fast.te13284508909471653622:True:=True.intro
def PySem.W.Fast.tw17802723436184650421:PySem.Program:=PySem.Challenge.pw_markwords_k34_pairs_and_rings
theorem PySem.W.Fast.te17802723436184650421:PySem.Challenge.pw_markwords_k34_pairs_and_rings=PySem.W.Fast.tw17802723436184650421:=rfl
namespace Mx
open PySem PySem.W PySem.Calls PyProof.Rows L2 Mw
abbrev kC(n q:Str)(t l a:Nat)(x7:Int)(r8:Nat)(b9:Bool)(oF:Nat)(oG oH oJ:Value)(oK oM oN:Nat):Obj:=⟨.type "code", none,(.fields #[.str n t,.str q (t+1),.str "/claim/cut.py" (t+2),.int l 0,.int a 0,.int 0 0,.int 0 0,.int x7 0,.ref r8,.bool b9,.int 181 0,.ref oF,oG,oH,oJ,.ref oK,.int oM 0,.int l 0,.str "/claim/cut.py" oN]), #[]⟩
abbrev kF(n q:Str)(s:Stmt)(m:Value)(c:Nat):Obj:=⟨.type "function", none,(.func (W.fnOf n q (zL s) (vg s) (qw s) .none .none .none m none (.ref c) .none)), #[]⟩
abbrev kT(l:List Value):Obj:=⟨.type "tuple", none,(.seq l.toArray 0), #[]⟩
abbrev kD(n q:Str)(t l a:Nat)(x:Int)(r u:Nat):Obj:=kC n q t l a x r true (r+1) .none (.ref (r+2)) (.ref (r+3)) (r+4) u (u+1)
abbrev kd(n:Str):=kD n n
abbrev kn(n:Str)(t l a:Nat)(x:Int)(r u:Nat):Obj:=kC n n t l a x r true (r+1) .none .none .none (r+2) u (u+1)
abbrev kx:List Value:=[.type "ValueError",.type "Exception",.type "BaseException",.type "object"]
abbrev kK(n:Str)(b m:List Value)(s:Nat)(l:List Value)(c:Option Value)(t u:Nat)(w:String):Obj:=⟨.type "type", none,(.cls { name:=n,bases:=b,mro:=m,ns:=s,qualname:=n,hasDict:=true,slotNames:=[],subclasses:=l,abstract:=false,collection:=none,hasDel:=false }), #[c,none,some (.str n t),some (.str n u),some (.builtin w),some (.bool true)]⟩
abbrev kE(l:List DictEntry)(n:Nat):Obj:=⟨.type "dict", none,(.dict l.toArray n), #[]⟩
abbrev kf(n:Str):=kF n n
abbrev y0:Value:=.str "markwords.errors" 187
abbrev y1:Value:=.str "markwords.layings" 264
abbrev y2:Value:=.str "markwords.limbs" 295
abbrev y3:Value:=.str "markwords.needs" 351
abbrev y4:Value:=.str "markwords.words" 381
abbrev y5:Value:=.str "markwords.things" 452
abbrev y6:Value:=.str "markwords.sweeping" 481
abbrev y7:Value:=.str "markwords.store" 528
abbrev y8:Value:=.str "markwords.images" 851
abbrev y9:Value:=.str "law_markwords_k34_pairs_and_rings" 860
abbrev oE(P:Params)(n:Str)(t:Nat)(v:Value):DictEntry:=⟨PyData.keyHash P n,.str n t,v⟩
abbrev o(P:Params)(n:Str)(t a:Nat):=oE P n t (.ref a)
noncomputable def K:Params->Frag:=λP=>
(nat_lit 2,⟨.none,none,(.dict #[] 0), #[]⟩)::
(nat_lit 3,kE [oE P "__name__" 165 (.str "law_markwords_k34_pairs_and_rings" 860),oE P "__doc__" 166 (.none),oE P "__package__" 167 (.none),oE P "__loader__" 168 (.builtin "__main__.__loader__#opaque"),oE P "__spec__" 169 (.none),o P "__annotations__" 170 6,o P "__builtins__" 171 4,oE P "__file__" 173 (.str "/claim/cut.py" 172),oE P "__cached__" 174 (.none),o P "WordError" 206 24,o P "WrongKind" 231 44,o P "Nought" 247 56,o P "NoRoom" 263 68,o P "kinds_on" 271 75,o P "mark_of" 280 82,o P "mark_for" 286 87,o P "load_bits" 294 94,oE P "PAIR_HEAD" 298 (.int (1) 297),oE P "PAIR_SIZE" 300 (.int (3) 299),o P "limb_count" 309 101,o P "rows_of" 322 108,o P "size_at" 331 115,o P "number_at" 342 122,o P "is_great" 350 129,o P "need_numbers" 361 136,o P "need_divisor" 370 143,o P "need_pair" 378 150,oE P "REGISTERS" 380 (.int (8) 379),o P "THREE" 386 151,oE P "SIGNS" 388 (.int (128) 387),o P "load_of" 397 158,o P "marked" 407 165,o P "small_of" 415 172,o P "worth_of" 425 179,o P "word_of" 433 186,o P "is_small" 442 193,o P "address_of" 451 200,o P "heads_in" 462 207,o P "pair_words_at" 470 214,o P "read_worth" 480 221,o P "reached_from" 494 228,o P "new_places" 505 235,o P "moved_word" 515 242,o P "moved_thing" 521 247,o P "swept" 527 252,o P "KINDS_BY_MARK" 545 253,o P "own_laying" 552 260,o P "most_outside" 560 267,o P "Store" 839 473,o P "store_of" 850 484,o P "image_of" 859 491,o P "_law_bag" 867 496,o P "_law_draw" 876 503,o P "_law_full_laying" 882 508,o P "_law_laying" 888 513,o P "_law_number" 899 520,o P "_law_mark" 905 525,o P "_law_load" 913 532,o P "_law_is_small" 922 539,o P "_law_machine" 931 546,o P "_law_limbs" 941 553,o P "_law_size" 949 560,o P "_law_used" 955 565,o P "_law_sweep" 961 570,o P "_law_new" 970 577,o P "_law_number_ref" 979 584,o P "_law_worth" 987 591,o P "_law_kind" 996 598,o P "_law_reckoned" 1005 605,o P "_law_numbers_done" 1024 612,o P "_law_pair_done" 1037 619,o P "_law_asked" 1051 626,o P "_law_do" 1061 633,o P "_law_places" 1071 640,o P "_law_word" 1085 647,o P "_law_thing_words" 1096 654,o P "_law_image" 1102 659,o P "_law_deed_done" 1114 666,o P "_law_done" 1125 673,o P "_law_alike" 1133 680,o P "_law_same_store" 1144 687,o P "_law_deed_of_pairs" 1155 694,o P "law" 1161 699] 83)::
(nat_lit 15,kT [.type "ValueError"])::
(nat_lit 22,kT [])::
(nat_lit 23,kE [oE P "__module__" 196 (.str "markwords.errors" 187),oE P "__firstlineno__" 200 (.int (2) 199),o P "__static_attributes__" 201 22,o P "__weakref__" 203 25,oE P "__doc__" 204 (.none)] 3)::
(nat_lit 24,kK "WordError" [.type "ValueError"] (.ref 24::kx) 23 [.ref 44,.ref 56,.ref 68] (some (.ref 15)) 189 197 "ValueError.__new__")::
(nat_lit 25,⟨.type "getset_descriptor", none,(.fields #[.str "__weakref__" 202,.ref 24,.builtin "ExceptionGroup.__weakref__",.none]), #[]⟩)::
(nat_lit 28,kT [.ref 24])::
(nat_lit 40,kD "__init__" "WrongKind.__init__" 219 6 2 3 35 224)::
(nat_lit 41,kF "__init__" "WrongKind.__init__" (qx (top 2) 0) y0 40)::
(nat_lit 42,kT [.str "part" 227])::
(nat_lit 43,kE [oE P "__module__" 214 (.str "markwords.errors" 187),oE P "__firstlineno__" 218 (.int (4) 217),o P "__init__" 226 41,o P "__static_attributes__" 228 42,oE P "__doc__" 229 (.none)] 2)::
(nat_lit 44,kK "WrongKind" [.ref 24] (.ref 44 :: .ref 24::kx) 43 [] (some (.ref 28)) 207 215 "ValueError.__new__")::
(nat_lit 47,kT [.ref 24])::
(nat_lit 54,kT [])::
(nat_lit 55,kE [oE P "__module__" 239 (.str "markwords.errors" 187),oE P "__firstlineno__" 243 (.int (9) 242),o P "__static_attributes__" 244 54,oE P "__doc__" 245 (.none)] 2)::
(nat_lit 56,kK "Nought" [.ref 24] (.ref 56 :: .ref 24::kx) 55 [] (some (.ref 47)) 232 240 "ValueError.__new__")::
(nat_lit 59,kT [.ref 24])::
(nat_lit 66,kT [])::
(nat_lit 67,kE [oE P "__module__" 255 (.str "markwords.errors" 187),oE P "__firstlineno__" 259 (.int (11) 258),o P "__static_attributes__" 260 66,oE P "__doc__" 261 (.none)] 2)::
(nat_lit 68,kK "NoRoom" [.ref 24] (.ref 68 :: .ref 24::kx) 67 [] (some (.ref 59)) 248 256 "ValueError.__new__")::
(nat_lit 74,kn "kinds_on" 266 14 2 3 71 269)::
(nat_lit 75,kf "kinds_on" (top 6) y1 74)::
(nat_lit 81,kd "mark_of" 272 16 2 3 76 278)::
(nat_lit 82,kf "mark_of" (top 7) y1 81)::
(nat_lit 86,kn "mark_for" 281 19 2 3 83 284)::
(nat_lit 87,kf "mark_for" (top 8) y1 86)::
(nat_lit 93,kd "load_bits" 287 21 2 3 88 292)::
(nat_lit 94,kf "load_bits" (top 9) y1 93)::
(nat_lit 100,kd "limb_count" 301 26 2 3 95 307)::
(nat_lit 101,kf "limb_count" (top 13) y2 100)::
(nat_lit 107,kd "rows_of" 310 29 2 3 102 320)::
(nat_lit 108,kf "rows_of" (top 14) y2 107)::
(nat_lit 114,kd "size_at" 323 38 2 3 109 329)::
(nat_lit 115,kf "size_at" (top 15) y2 114)::
(nat_lit 121,kd "number_at" 332 41 3 3 116 340)::
(nat_lit 122,kf "number_at" (top 16) y2 121)::
(nat_lit 128,kd "is_great" 343 46 2 3 123 348)::
(nat_lit 129,kf "is_great" (top 17) y2 128)::
(nat_lit 135,kd "need_numbers" 353 49 3 3 130 359)::
(nat_lit 136,kf "need_numbers" (top 19) y3 135)::
(nat_lit 142,kd "need_divisor" 362 54 3 3 137 368)::
(nat_lit 143,kf "need_divisor" (top 20) y3 142)::
(nat_lit 149,kd "need_pair" 371 58 2 3 144 376)::
(nat_lit 150,kf "need_pair" (top 21) y3 149)::
(nat_lit 151,kT [.str "none" 383,.str "no" 384,.str "yes" 385])::
(nat_lit 157,kd "load_of" 389 65 3 3 152 395)::
(nat_lit 158,kf "load_of" (top 26) y4 157)::
(nat_lit 164,kd "marked" 398 67 3 3 159 405)::
(nat_lit 165,kf "marked" (top 27) y4 164)::
(nat_lit 171,kd "small_of" 408 70 2 3 166 413)::
(nat_lit 172,kf "small_of" (top 28) y4 171)::
(nat_lit 178,kd "worth_of" 416 72 2 3 173 423)::
(nat_lit 179,kf "worth_of" (top 29) y4 178)::
(nat_lit 185,kd "word_of" 426 84 2 3 180 431)::
(nat_lit 186,kf "word_of" (top 30) y4 185)::
(nat_lit 192,kd "is_small" 434 90 2 3 187 440)::
(nat_lit 193,kf "is_small" (top 31) y4 192)::
(nat_lit 199,kd "address_of" 443 93 2 3 194 449)::
(nat_lit 200,kf "address_of" (top 32) y4 199)::
(nat_lit 206,kd "heads_in" 454 97 1 3 201 460)::
(nat_lit 207,kf "heads_in" (top 34) y5 206)::
(nat_lit 213,kd "pair_words_at" 463 104 2 3 208 468)::
(nat_lit 214,kf "pair_words_at" (top 35) y5 213)::
(nat_lit 220,kd "read_worth" 471 106 3 3 215 478)::
(nat_lit 221,kf "read_worth" (top 36) y5 220)::
(nat_lit 227,kd "reached_from" 483 112 3 3 222 492)::
(nat_lit 228,kf "reached_from" (top 38) y6 227)::
(nat_lit 234,kd "new_places" 495 121 2 3 229 503)::
(nat_lit 235,kf "new_places" (top 39) y6 234)::
(nat_lit 241,kd "moved_word" 506 129 3 3 236 513)::
(nat_lit 242,kf "moved_word" (top 40) y6 241)::
(nat_lit 246,kn "moved_thing" 516 134 4 3 243 519)::
(nat_lit 247,kf "moved_thing" (top 41) y6 246)::
(nat_lit 251,kn "swept" 522 138 3 3 248 525)::
(nat_lit 252,kf "swept" (top 42) y6 251)::
(nat_lit 253,kE [oE P "small" 530 (.str "number" 531),oE P "far" 532 (.str "number" 533),oE P "pair" 534 (.str "pair" 535),oE P "sign" 536 (.str "sign" 537),oE P "one" 538 (.str "one" 539)] 5)::
(nat_lit 259,kd "own_laying" 546 146 1 3 254 550)::
(nat_lit 260,kf "own_laying" (top 45) y7 259)::
(nat_lit 266,kd "most_outside" 553 148 2 3 261 558)::
(nat_lit 267,kf "most_outside" (top 46) y7 266)::
(nat_lit 280,kD "__init__" "Store.__init__" 573 152 3 3 275 579)::
(nat_lit 281,kF "__init__" "Store.__init__" (qx (top 47) 0) y7 280)::
(nat_lit 287,kD "words" "Store.words" 582 161 1 3 282 586)::
(nat_lit 288,kF "words" "Store.words" (qx (top 47) 1) y7 287)::
(nat_lit 294,kD "outside" "Store.outside" 589 164 1 3 289 593)::
(nat_lit 295,kF "outside" "Store.outside" (qx (top 47) 2) y7 294)::
(nat_lit 301,kD "sweep" "Store.sweep" 596 167 1 3 296 601)::
(nat_lit 302,kF "sweep" "Store.sweep" (qx (top 47) 3) y7 301)::
(nat_lit 308,kD "lacks" "Store.lacks" 604 173 2 3 303 609)::
(nat_lit 309,kF "lacks" "Store.lacks" (qx (top 47) 4) y7 308)::
(nat_lit 315,kD "make_room" "Store.make_room" 612 176 2 3 310 617)::
(nat_lit 316,kF "make_room" "Store.make_room" (qx (top 47) 5) y7 315)::
(nat_lit 322,kD "lay" "Store.lay" 620 182 4 3 317 627)::
(nat_lit 323,kF "lay" "Store.lay" (qx (top 47) 6) y7 322)::
(nat_lit 329,kD "number" "Store.number" 630 186 3 3 324 637)::
(nat_lit 330,kF "number" "Store.number" (qx (top 47) 7) y7 329)::
(nat_lit 336,kD "sign" "Store.sign" 640 196 3 3 331 646)::
(nat_lit 337,kF "sign" "Store.sign" (qx (top 47) 8) y7 336)::
(nat_lit 343,kD "one" "Store.one" 649 199 3 3 338 655)::
(nat_lit 344,kF "one" "Store.one" (qx (top 47) 9) y7 343)::
(nat_lit 350,kD "copy" "Store.copy" 658 202 3 3 345 664)::
(nat_lit 351,kF "copy" "Store.copy" (qx (top 47) 10) y7 350)::
(nat_lit 357,kD "in_word" "Store.in_word" 667 205 2 3 352 672)::
(nat_lit 358,kF "in_word" "Store.in_word" (qx (top 47) 11) y7 357)::
(nat_lit 364,kD "come_of_two" "Store.come_of_two" 675 208 5 3 359 684)::
(nat_lit 365,kF "come_of_two" "Store.come_of_two" (qx (top 47) 12) y7 364)::
(nat_lit 371,kD "plus" "Store.plus" 687 216 4 3 366 694)::
(nat_lit 372,kF "plus" "Store.plus" (qx (top 47) 13) y7 371)::
(nat_lit 378,kD "less" "Store.less" 697 220 4 3 373 704)::
(nat_lit 379,kF "less" "Store.less" (qx (top 47) 14) y7 378)::
(nat_lit 385,kD "times" "Store.times" 707 224 4 3 380 714)::
(nat_lit 386,kF "times" "Store.times" (qx (top 47) 15) y7 385)::
(nat_lit 392,kD "over" "Store.over" 717 228 4 3 387 724)::
(nat_lit 393,kF "over" "Store.over" (qx (top 47) 16) y7 392)::
(nat_lit 399,kD "rest" "Store.rest" 727 232 4 3 394 734)::
(nat_lit 400,kF "rest" "Store.rest" (qx (top 47) 17) y7 399)::
(nat_lit 406,kD "pair" "Store.pair" 737 236 4 3 401 744)::
(nat_lit 407,kF "pair" "Store.pair" (qx (top 47) 18) y7 406)::
(nat_lit 413,kD "pair_in" "Store.pair_in" 747 240 2 3 408 752)::
(nat_lit 414,kF "pair_in" "Store.pair_in" (qx (top 47) 19) y7 413)::
(nat_lit 420,kD "first" "Store.first" 755 244 3 3 415 761)::
(nat_lit 421,kF "first" "Store.first" (qx (top 47) 20) y7 420)::
(nat_lit 427,kD "second" "Store.second" 764 247 3 3 422 770)::
(nat_lit 428,kF "second" "Store.second" (qx (top 47) 21) y7 427)::
(nat_lit 434,kD "set_first" "Store.set_first" 773 250 3 3 429 779)::
(nat_lit 435,kF "set_first" "Store.set_first" (qx (top 47) 22) y7 434)::
(nat_lit 441,kD "set_second" "Store.set_second" 782 253 3 3 436 788)::
(nat_lit 442,kF "set_second" "Store.set_second" (qx (top 47) 23) y7 441)::
(nat_lit 448,kD "below" "Store.below" 791 256 3 3 443 797)::
(nat_lit 449,kF "below" "Store.below" (qx (top 47) 24) y7 448)::
(nat_lit 455,kD "same" "Store.same" 800 260 3 3 450 806)::
(nat_lit 456,kF "same" "Store.same" (qx (top 47) 25) y7 455)::
(nat_lit 462,kD "kind" "Store.kind" 809 265 2 3 457 814)::
(nat_lit 463,kF "kind" "Store.kind" (qx (top 47) 26) y7 462)::
(nat_lit 469,kD "told" "Store.told" 817 268 2 3 464 822)::
(nat_lit 470,kF "told" "Store.told" (qx (top 47) 27) y7 469)::
(nat_lit 471,kT [.str "held" 825,.str "kept" 826,.str "laying" 827,.str "quick" 828,.str "room" 829,.str "slow" 830,.str "sweeps" 831])::
(nat_lit 472,kE [oE P "__module__" 568 (.str "markwords.store" 528),oE P "__firstlineno__" 572 (.int (150) 571),o P "__init__" 581 281,o P "words" 588 288,o P "outside" 595 295,o P "sweep" 603 302,o P "lacks" 611 309,o P "make_room" 619 316,o P "lay" 629 323,o P "number" 639 330,o P "sign" 648 337,o P "one" 657 344,o P "copy" 666 351,o P "in_word" 674 358,o P "come_of_two" 686 365,o P "plus" 696 372,o P "less" 706 379,o P "times" 716 386,o P "over" 726 393,o P "rest" 736 400,o P "pair" 746 407,o P "pair_in" 754 414,o P "first" 763 421,o P "second" 772 428,o P "set_first" 781 435,o P "set_second" 790 442,o P "below" 799 449,o P "same" 808 456,o P "kind" 816 463,o P "told" 824 470,o P "__static_attributes__" 832 471,o P "__dict__" 834 474,o P "__weakref__" 836 475,oE P "__doc__" 837 (.none)] 4)::
(nat_lit 473,kK "Store" [.type "object"] [.ref 473,.type "object"] 472 [] none 561 569 "object.__new__")::
(nat_lit 474,⟨.type "getset_descriptor", none,(.fields #[.str "__dict__" 833,.ref 473,.builtin "function.__dict__",.builtin "function.__dict__#set"]), #[]⟩)::
(nat_lit 475,⟨.type "getset_descriptor", none,(.fields #[.str "__weakref__" 835,.ref 473,.builtin "ExceptionGroup.__weakref__",.none]), #[]⟩)::
(nat_lit 483,kd "store_of" 840 272 4 3 478 848)::
(nat_lit 484,kf "store_of" (top 48) y7 483)::
(nat_lit 490,kd "image_of" 853 278 1 3 485 857)::
(nat_lit 491,kf "image_of" (top 50) y8 490)::
(nat_lit 495,kn "_law_bag" 862 281 1 3 492 865)::
(nat_lit 496,kf "_law_bag" (top 52) y9 495)::
(nat_lit 502,kd "_law_draw" 868 286 2 3 497 874)::
(nat_lit 503,kf "_law_draw" (top 53) y9 502)::
(nat_lit 507,kn "_law_full_laying" 877 297 3 3 504 880)::
(nat_lit 508,kf "_law_full_laying" (top 54) y9 507)::
(nat_lit 512,kn "_law_laying" 883 305 1 3 509 886)::
(nat_lit 513,kf "_law_laying" (top 55) y9 512)::
(nat_lit 524,kn "_law_mark" 900 338 2 3 521 903)::
(nat_lit 525,kf "_law_mark" (top 57) y9 524)::
(nat_lit 531,kd "_law_load" 906 340 2 3 526 911)::
(nat_lit 532,kf "_law_load" (top 58) y9 531)::
(nat_lit 538,kd "_law_is_small" 914 342 2 3 533 920)::
(nat_lit 539,kf "_law_is_small" (top 59) y9 538)::
(nat_lit 545,kd "_law_machine" 923 345 2 3 540 929)::
(nat_lit 546,kf "_law_machine" (top 60) y9 545)::
(nat_lit 552,kd "_law_limbs" 932 348 2 3 547 939)::
(nat_lit 553,kf "_law_limbs" (top 61) y9 552)::
(nat_lit 559,kd "_law_size" 942 355 2 3 554 947)::
(nat_lit 560,kf "_law_size" (top 62) y9 559)::
(nat_lit 564,kn "_law_used" 950 357 1 3 561 953)::
(nat_lit 565,kf "_law_used" (top 63) y9 564)::
(nat_lit 569,kn "_law_sweep" 956 359 1 3 566 959)::
(nat_lit 570,kf "_law_sweep" (top 64) y9 569)::
(nat_lit 576,kd "_law_new" 962 369 3 3 571 968)::
(nat_lit 577,kf "_law_new" (top 65) y9 576)::
(nat_lit 583,kd "_law_number_ref" 971 378 2 3 578 977)::
(nat_lit 584,kf "_law_number_ref" (top 66) y9 583)::
(nat_lit 590,kd "_law_worth" 980 385 2 3 585 985)::
(nat_lit 591,kf "_law_worth" (top 67) y9 590)::
(nat_lit 597,kd "_law_kind" 988 389 2 3 592 994)::
(nat_lit 598,kf "_law_kind" (top 68) y9 597)::
(nat_lit 604,kd "_law_reckoned" 997 396 3 3 599 1003)::
(nat_lit 605,kf "_law_reckoned" (top 69) y9 604)::
(nat_lit 611,kd "_law_numbers_done" 1006 400 2 3 606 1022)::
(nat_lit 612,kf "_law_numbers_done" (top 70) y9 611)::
(nat_lit 618,kd "_law_pair_done" 1025 416 2 3 613 1035)::
(nat_lit 619,kf "_law_pair_done" (top 71) y9 618)::
(nat_lit 625,kd "_law_asked" 1038 434 2 3 620 1049)::
(nat_lit 626,kf "_law_asked" (top 72) y9 625)::
(nat_lit 632,kd "_law_do" 1052 450 2 3 627 1059)::
(nat_lit 633,kf "_law_do" (top 73) y9 632)::
(nat_lit 639,kd "_law_places" 1062 473 1 3 634 1069)::
(nat_lit 640,kf "_law_places" (top 74) y9 639)::
(nat_lit 646,kd "_law_word" 1072 480 3 3 641 1083)::
(nat_lit 647,kf "_law_word" (top 75) y9 646)::
(nat_lit 653,kd "_law_thing_words" 1086 488 3 3 648 1094)::
(nat_lit 654,kf "_law_thing_words" (top 76) y9 653)::
(nat_lit 658,kn "_law_image" 1097 494 1 3 655 1100)::
(nat_lit 659,kf "_law_image" (top 77) y9 658)::
(nat_lit 665,kd "_law_deed_done" 1103 500 2 3 660 1112)::
(nat_lit 666,kf "_law_deed_done" (top 78) y9 665)::
(nat_lit 672,kd "_law_done" 1115 522 2 3 667 1123)::
(nat_lit 673,kf "_law_done" (top 79) y9 672)::
(nat_lit 679,kd "_law_alike" 1126 535 2 3 674 1131)::
(nat_lit 680,kf "_law_alike" (top 80) y9 679)::
(nat_lit 686,kd "_law_same_store" 1134 537 2 3 681 1142)::
(nat_lit 687,kf "_law_same_store" (top 81) y9 686)::
(nat_lit 693,kd "_law_deed_of_pairs" 1145 541 1 3 688 1153)::
(nat_lit 694,kf "_law_deed_of_pairs" (top 82) y9 693)::
(nat_lit 698,kn "law" 1156 557 1 3 695 1159)::
(nat_lit 699,kf "law" (top 83) y9 698)::
[]
def KA:List Addr:=[2,3,15,22,23,24,25,28,40,41,42,43,44,47,54,55,56,59,66,67,68,74,75,81,82,86,87,93,94,100,101,107,108,114,115,121,122,128,129,135,136,142,143,149,150,151,157,158,164,165,171,172,178,179,185,186,192,193,199,200,206,207,213,214,220,221,227,228,234,235,241,242,246,247,251,252,253,259,260,266,267,280,281,287,288,294,295,301,302,308,309,315,316,322,323,329,330,336,337,343,344,350,351,357,358,364,365,371,372,378,379,385,386,392,393,399,400,406,407,413,414,420,421,427,428,434,435,441,442,448,449,455,456,462,463,469,470,471,472,473,474,475,483,484,490,491,495,496,502,503,507,508,512,513,524,525,531,532,538,539,545,546,552,553,559,560,564,565,569,570,576,577,583,584,590,591,597,598,604,605,611,612,618,619,625,626,632,633,639,640,646,647,653,654,658,659,665,666,672,673,679,680,686,687,693,694,698,699]
theorem K_as:∀P,KA=(K P).map (·.1):=λ_=>by kernel_rfl
noncomputable def KR(P:Params):Frag:=Hd.BR P++[(nat_lit 519,kd "_law_number" 889 327 2 3 514 897),(nat_lit 520,kf "_law_number" (top 56) y9 519)]
def Q:List Nat:=[36,72,77,84,89,96,103,110,117,124,131,138,145,153,160,167,174,181,188,195,202,209,216,223,230,237,244,249,255,262,276,283,290,297,304,311,318,325,332,339,346,353,360,367,374,381,388,395,402,409,416,423,430,437,444,451,458,465,479,486,493,498,505,510,515,522,527,534,541,548,555,562,567,572,579,586,593,600,607,614,621,628,635,642,649,656,661,668,675,682,689,696]
noncomputable def vw:Program:=W.view PySem.Challenge.pw_markwords_k34_pairs_and_rings [1,2,3,4,6,7,8,9,11,12,13,14,15,16,17,19,20,21,22,24,25,26,27,28,29,30,31,32,34,35,36,38,39,40,41,42,44,45,46,47,48,50,52,53,54,55,56,57,58,59,60,61,62,63,64,65,66,67,68,69,70,71,72,73,74,75,76,77,78,79,80,81,82,83]
def ls:List Str:=["KINDS_BY_MARK"]
def lv:List (Str×WData):=[]
noncomputable def Xt(s:Shared):Bool:=xlAt vw lv s&&recOk (RowW.records (OpenRow.toRowW (OpenLaw.row PySem.Challenge.rw_markwords_k34_pairs_and_rings))) s
noncomputable def Lf(w:World)(os:OsState):=(Hd.topT treeTable PySem.Challenge.pw_markwords_k34_pairs_and_rings w 11 (some (.ref 6)) 8398 (Hd.S0 w os) (topStub PySem.Challenge.pw_markwords_k34_pairs_and_rings)).map (λs=>(s.n,s.gens,Q.map s.tree.get,(Hd.KX (K w.params) (KR w.params)).map λp=>s.tree.get p.1))
noncomputable def Rt(w:World)(_:OsState):Option (Nat×Array GenState×List (Option Obj)×List (Option Obj)):=some (700, #[],Q.map (λ_=>some Hd.E0),(Hd.KX (K w.params) (KR w.params)).map λp=>some p.2)
theorem Lf_is:Lf=Lf:=rfl
theorem Rt_is:Rt=Rt:=rfl
name_quick MwLq for Lf by Lf_is
name_quick MwRq for Rt by Rt_is
theorem run0(w:World):Lf (World.withFollow w "special-get-raises" false)=Rt (World.withFollow w "special-get-raises" false):=
 (Uo PySem.W.Fast.MwLq_eq (World.withFollow w "special-get-raises" false)).trans (Eq.trans (by kernel_rfl:PySem.W.Fast.MwLq (World.withFollow w "special-get-raises" false)=PySem.W.Fast.MwRq (World.withFollow w "special-get-raises" false)) (Uo PySem.W.Fast.MwRq_eq (World.withFollow w "special-get-raises" false)).symm)
theorem run1(w:World):Lf (World.withFollow w "special-get-raises" true)=Rt (World.withFollow w "special-get-raises" true):=
 (Uo PySem.W.Fast.MwLq_eq (World.withFollow w "special-get-raises" true)).trans (Eq.trans (by kernel_rfl:PySem.W.Fast.MwLq (World.withFollow w "special-get-raises" true)=PySem.W.Fast.MwRq (World.withFollow w "special-get-raises" true)) (Uo PySem.W.Fast.MwRq_eq (World.withFollow w "special-get-raises" true)).symm)
theorem run(w:World):Lf w=Rt w:=byRow2 "special-get-raises" (P:=λw=>Lf w=Rt w) run0 run1 w
theorem L_eq(w:World)(os:OsState):Lf w os=(Hd.topT treeTable PySem.Challenge.pw_markwords_k34_pairs_and_rings w 11 (some (.ref 6)) 8398 (Hd.S0 w os) (topStub PySem.Challenge.pw_markwords_k34_pairs_and_rings)).map (λs=>(s.n,s.gens,Q.map s.tree.get,(Hd.KX (K w.params) (KR w.params)).map λp=>s.tree.get p.1)):=by delta Lf;exact Eq.refl _
theorem R_eq(w:World)(os:OsState):Rt w os=some (700, #[],Q.map (λ_=>some Hd.E0),(Hd.KX (K w.params) (KR w.params)).map λp=>some p.2):=by delta Rt;exact Eq.refl _
noncomputable def LfA(w:World)(f:Nat->Obj)(l:Life)(d:Drawn)(k:Nat)(os:OsState):=Hd.LkA PySem.Challenge.pw_markwords_k34_pairs_and_rings vw w (Hd.SE (K w.params) (KR w.params) Q 700 f l d k os)
noncomputable def RtA(w:World)(f:Nat->Obj)(l:Life)(d:Drawn)(k:Nat)(os:OsState):=Hd.GdA vw
theorem LfA_is:LfA=LfA:=rfl
name_quick MwLAq for LfA by LfA_is
theorem RtA_is:RtA=RtA:=rfl
name_quick MwRAq for RtA by RtA_is
theorem lookA(w:World):LfA (w)=RtA (w):=
 (Uo PySem.W.Fast.MwLAq_eq (w)).trans (Eq.trans (by kernel_rfl:PySem.W.Fast.MwLAq (w)=PySem.W.Fast.MwRAq (w)) (Uo PySem.W.Fast.MwRAq_eq (w)).symm)
theorem HA_eq(w:World)(f:Nat->Obj)(l:Life)(d:Drawn)(k:Nat)(os:OsState):Hd.LkA PySem.Challenge.pw_markwords_k34_pairs_and_rings vw w (Hd.SE (K w.params) (KR w.params) Q 700 f l d k os)=Hd.GdA vw:=Eq.trans (by delta LfA;exact Eq.refl _:_=LfA w f l d k os) ((Uo (Uo (Uo (Uo (Uo (lookA w) f) l) d) k) os).trans (by delta RtA;exact Eq.refl _))
noncomputable def LfB(w:World)(f:Nat->Obj)(l:Life)(d:Drawn)(k:Nat)(os:OsState):=(λs=>(Hd.LkB PySem.Challenge.pw_markwords_k34_pairs_and_rings vw ls Xt s,tabsOk vw s)) (Hd.SE (K w.params) (KR w.params) Q 700 f l d k os)
noncomputable def RtB(w:World)(f:Nat->Obj)(l:Life)(d:Drawn)(k:Nat)(os:OsState):=(true,true)
theorem LfB_is:LfB=LfB:=rfl
name_quick MwLBq for LfB by LfB_is
theorem lookB(w:World):LfB w=RtB w:=(Uo PySem.W.Fast.MwLBq_eq w).trans (by kernel_rfl)
theorem HB_eq(w:World)(f:Nat->Obj)(l:Life)(d:Drawn)(k:Nat)(os:OsState):(λs=>(Hd.LkB PySem.Challenge.pw_markwords_k34_pairs_and_rings vw ls Xt s,tabsOk vw s)) (Hd.SE (K w.params) (KR w.params) Q 700 f l d k os)=(true,true):=Eq.trans (by delta LfB;exact Eq.refl _:_=LfB w f l d k os) ((Uo (Uo (Uo (Uo (Uo (lookB w) f) l) d) k) os).trans (by delta RtB;exact Eq.refl _))
noncomputable def LfD(w:World)(f:Nat->Obj)(l:Life)(d:Drawn)(k:Nat)(os:OsState):=Hd.LkD vw ls (Hd.SE (K w.params) (KR w.params) Q 700 f l d k os)
noncomputable def RtD(w:World)(f:Nat->Obj)(l:Life)(d:Drawn)(k:Nat)(os:OsState):=Hd.GdD vw ls
theorem LfD_is:LfD=LfD:=rfl
name_quick MwLDq for LfD by LfD_is
theorem RtD_is:RtD=RtD:=rfl
name_quick MwRDq for RtD by RtD_is
theorem lookD(w:World):LfD (w)=RtD (w):=
 (Uo PySem.W.Fast.MwLDq_eq (w)).trans (Eq.trans (by kernel_rfl:PySem.W.Fast.MwLDq (w)=PySem.W.Fast.MwRDq (w)) (Uo PySem.W.Fast.MwRDq_eq (w)).symm)
theorem HD_eq(w:World)(f:Nat->Obj)(l:Life)(d:Drawn)(k:Nat)(os:OsState):Hd.LkD vw ls (Hd.SE (K w.params) (KR w.params) Q 700 f l d k os)=Hd.GdD vw ls:=Eq.trans (by delta LfD;exact Eq.refl _:_=LfD w f l d k os) ((Uo (Uo (Uo (Uo (Uo (lookD w) f) l) d) k) os).trans (by delta RtD;exact Eq.refl _))
noncomputable def LfC(w:World)(f:Nat->Obj)(l:Life)(d:Drawn)(k:Nat)(os:OsState):=(kHook K KA K_as).obs (Hd.SE (K w.params) (KR w.params) Q 700 f l d k os)
noncomputable def RtC(w:World)(f:Nat->Obj)(l:Life)(d:Drawn)(k:Nat)(os:OsState):=(kHook K KA K_as).val w
theorem LfC_is:LfC=LfC:=rfl
name_quick MwLCq for LfC by LfC_is
theorem RtC_is:RtC=RtC:=rfl
name_quick MwRCq for RtC by RtC_is
theorem lookC(w:World):LfC (w)=RtC (w):=
 (Uo PySem.W.Fast.MwLCq_eq (w)).trans (Eq.trans (by kernel_rfl:PySem.W.Fast.MwLCq (w)=PySem.W.Fast.MwRCq (w)) (Uo PySem.W.Fast.MwRCq_eq (w)).symm)
theorem HC_eq(w:World)(f:Nat->Obj)(l:Life)(d:Drawn)(k:Nat)(os:OsState):(kHook K KA K_as).obs (Hd.SE (K w.params) (KR w.params) Q 700 f l d k os)=(kHook K KA K_as).val w:=Eq.trans (by delta LfC;exact Eq.refl _:_=LfC w f l d k os) ((Uo (Uo (Uo (Uo (Uo (lookC w) f) l) d) k) os).trans (by delta RtC;exact Eq.refl _))
theorem hLf9:LeftO PySem.Challenge.pw_markwords_k34_pairs_and_rings vw ls Xt (kHook K KA K_as).obs (kHook K KA K_as).val 8398 :=
 Hd.left_ofE (R:=KR) (Q:=Q) (M:=8398) (n:=700) (by kernel_rfl) (by decide) (λ_=>by kernel_rfl) (by decide) (λw os=>(L_eq w os).symm.trans ((Uo (run w) os).trans (R_eq w os))) (λw f l d k os=>Hd.look3 (HA_eq w f l d k os) (HB_eq w f l d k os) (HD_eq w f l d k os) (HC_eq w f l d k os)) Hd.boot_main
end Mx
set_option bootstrap.genMatcherCode false
set_option genSizeOf false
set_option genSizeOfSpec false
set_option tactic.hygienic false
namespace L2
open PySem PySem.Spec PyProof.Rows
theorem Xx(h:Q 4238894112 { s with toks:=s.toks+1 }):wpAny (model prog w) A (pyHash .none) Q E s:=by
 unfold pyHash;have hv:[Value.none].any Value.onHeap=false:=rfl;refine Ug ?_;rw[cRoomFor,Ui (by rw[hv];exact Dt)];refine Uh ?_;refine Ug (U6 (U9 s) F.slot_NoneType_hash.lookup ?_);show wpAny _ _ (if(some (Value.builtin "NoneType.__hash__")==some Value.none)=true then _ else _) Q E s;rw[Ui (by rw[beq_builtin_none];exact Dt)];refine Ug (U6 (U9 s) F.slot_NoneType_hash.lookup ?_);show wpAny _ _ (callSpecialIfBoundUnlessNone? .none "__hash__" _ >>= _) Q E s;refine Ug (wpAny_callSpecialIfBoundUnlessNone?_slot (U9 s) F.slot_NoneType_hash
  (UV F.slot_NoneType_hash (U9 s) F.entry_NoneType_hash
   (show wpAny _ _ (do ret (<-mkInt 4238894112)) _ _ s from wpAny_ret_mkInt ?_) (F.args_NoneType_hash_1 _)))
 show wpAny _ _ (if(decide (-(2:Int)^63<=4238894112)&&decide ((4238894112:Int)<2^63))=true then _ else _) Q E _;rw[Ul (by decide)];exact Uh h
inductive Key where
 |inl (i:Int)|inr (x:Str)|non
 deriving DecidableEq
noncomputable def XM:Key->Value->Bool
 |.inl k,v=>Value.isInt k v
 |.inr x,v=>Value.isStrOf x v
 |.non,.none=>true
 |.non,_=>false
noncomputable def keyH(w:World):Key->Int
 |.inl k=>hashInt k
 |.inr x=>hashStr w x
 |.non=>4238894112
theorem qP:∀{k:Key}{v:Value},XM k v=true->(∃i t,k=Key.inl i/\v=Value.int i t)\/(∃x t,k=Key.inr x/\v=Value.str x t)\/(k=Key.non/\v=Value.none)
 |.inl i,v,h=>by
  obtain⟨t,e⟩:=Value.isInt_shape h;exact .inl ⟨i,t,rfl,e⟩
 |.inr x,v,h=>by
  obtain⟨t,e⟩:=Value.isStrOf_shape h;exact .inr (.inl ⟨x,t,rfl,e⟩)
 |.non,v,h=>by
  cases v<;>first|exact .inr (.inr ⟨rfl,rfl⟩)|exact absurd h (by simp[XM])
theorem Gw(i:Int)(t:Tok):XM (.inl i) (.int i t)=true:=by simp[XM,Value.isInt]
theorem Gv(x:Str)(t:Tok):XM (.inr x) (.str x t)=true:=by simp[XM,Value.isStrOf]
theorem q7Z(a b:Int):decide ((Key.inl a:Key)=Key.inl b)=(a==b):=by
 lia
theorem q6s(a b:Str):decide ((Key.inr a:Key)=Key.inr b)=decide (a=b):=by
 lia
theorem q5U(a:Int)(b:Str):decide ((Key.inl a:Key)=Key.inr b)=false:=Us (λq=>nomatch q)
theorem q7i(a:Str)(b:Int):decide ((Key.inr a:Key)=Key.inl b)=false:=Us (λq=>nomatch q)
noncomputable def ve(prog:Program)(w:World):PySem.KeyKind prog w Key where
 is:=XM
 hash:=keyH w
 inj:=λv a b ha hb=>by
  rcases qP ha with⟨i,t,rfl,rfl⟩|⟨x,t,rfl,rfl⟩|⟨rfl,rfl⟩
  ·rcases qP hb with⟨j,u,rfl,e⟩|⟨y,u,rfl,e⟩|⟨rfl,e⟩
   ·injection e with e1 _;rw[e1]
   ·exact nomatch e
   ·exact nomatch e
  ·rcases qP hb with⟨j,u,rfl,e⟩|⟨y,u,rfl,e⟩|⟨rfl,e⟩
   ·exact nomatch e
   ·injection e with e1 _;rw[e1]
   ·exact nomatch e
  ·rcases qP hb with⟨j,u,rfl,e⟩|⟨y,u,rfl,e⟩|⟨rfl,e⟩
   ·exact nomatch e
   ·exact nomatch e
   ·rfl
 byValue:=λk v h=>by
  rcases qP h with⟨i,t,rfl,rfl⟩|⟨x,t,rfl,rfl⟩|⟨rfl,rfl⟩<;>rfl
 pyHash:=λhv h=>by
  rcases qP hv with⟨i,t,rfl,rfl⟩|⟨x,t,rfl,rfl⟩|⟨rfl,rfl⟩
  ·exact wpAny_pyHash_int h
  ·exact wpAny_pyHash_str h
  ·exact Xx h
 eqBool:=λhu hv h=>by
  rcases qP hu with⟨i,t,rfl,rfl⟩|⟨x,t,rfl,rfl⟩|⟨rfl,rfl⟩
  ·rcases qP hv with⟨j,u,rfl,rfl⟩|⟨y,u,rfl,rfl⟩|⟨rfl,rfl⟩
   ·rw[q7Z]at h;exact wpAny_eqBool_int h
   ·rw[q5U]at h;exact SeqAt.EqAt.int_str i t y u _ _ _ _ h
   ·exact SeqAt.EqAt.int_none i t _ _ _ _ h
  ·rcases qP hv with⟨j,u,rfl,rfl⟩|⟨y,u,rfl,rfl⟩|⟨rfl,rfl⟩
   ·rw[q7i]at h;exact SeqAt.EqAt.str_int x t j u _ _ _ _ h
   ·rw[q6s]at h;exact wpAny_eqBool_str h
   ·exact SeqAt.EqAt.str_none x t _ _ _ _ h
  ·rcases qP hv with⟨j,u,rfl,rfl⟩|⟨y,u,rfl,rfl⟩|⟨rfl,rfl⟩
   ·exact SeqAt.EqAt.none_int j u _ _ _ _ h
   ·exact SeqAt.EqAt.none_str y u _ _ _ _ h
   ·exact SeqAt.EqAt.same .none _ _ _ _ h
 «strs»:=λk x t v h=>by
  rcases qP h with⟨i,u,rfl,e⟩|⟨y,u,rfl,e⟩|⟨rfl,e⟩
  ·exact nomatch e
  ·injection e with e1 _
   subst e1;cases v<;>rfl
  ·exact nomatch e
theorem XE(prog:Program)(w:World)(i:Int)(t:Tok):(ve prog w).is (.inl i) (.int i t)=true:=Gw i t
theorem xJ(prog:Program)(w:World)(x:Str)(t:Tok):(ve prog w).is (.inr x) (.str x t)=true:=Gv x t
inductive V where
 |non|bl (b:Bool)|int (i:Int)|str (x:Str)|byt (b:Array UInt8)|flt (b:UInt64)|ref (a:Addr)|ty (n:String)
 deriving DecidableEq
def RelV:V->Value->Prop
 |.non,u=>u=Value.none
 |.bl b,u=>u=Value.bool b
 |.int i,u=>∃t,u=Value.int i t
 |.str x,u=>∃t,u=Value.str x t
 |.byt b,u=>∃t,u=Value.bytes b t
 |.flt b,u=>∃t,u=Value.float b t
 |.ref a,u=>u=Value.ref a
 |.ty n,u=>u=Value.type n
abbrev Vals:List V->List Value->Prop:=Paired RelV
theorem Vals.length(r:Vals xs us):xs.length=us.length:=Paired.length r
theorem Vals.get:∀{xs:List V}{us:List Value}{i:Nat}{x:V},Vals xs us->xs[i]?=some x->∃u,us[i]?=some u/\RelV x u
 |_,_,_,_,.nil,e=>by simp at e
 |_,_,0,_,.cons r _,e=>by simp at e;subst e;exact⟨_,rfl,r⟩
 |_,_,i+1,x,.cons _ t,e=>by
  obtain⟨u,h1,h2⟩:=Vals.get t (by simpa using e);exact⟨u,by simpa using h1,h2⟩
theorem Vals.set(r:RelV x u):∀{xs:List V}{us:List Value}(i:Nat),Vals xs us->Vals (xs.set i x) (us.set i u)
 |_,_,_,.nil=>.nil
 |_,_,0,.cons _ t=>.cons r t
 |_,_,i+1,.cons q t=>.cons q (Vals.set r i t)
theorem Vals.append:∀{xs ys:List V}{us ws:List Value},Vals xs us->Vals ys ws->Vals (xs++ys) (us++ws)
 |_,_,_,_,.nil,s=>s
 |_,_,_,_,.cons r t,s=>.cons r (Vals.append t s)
theorem Vals.take:∀{xs:List V}{us:List Value}(n:Nat),Vals xs us->Vals (xs.take n) (us.take n)
 |_,_,0,_=>.nil
 |_,_,_+1,.nil=>.nil
 |_,_,n+1,.cons r t=>.cons r (Vals.take n t)
theorem Vals.drop:∀{xs:List V}{us:List Value}(n:Nat),Vals xs us->Vals (xs.drop n) (us.drop n)
 |_,_,0,r=>r
 |_,_,_+1,.nil=>.nil
 |_,_,n+1,.cons _ t=>Vals.drop n t
def RelO:Option V->Option Value->Prop
 |some v,some u=>RelV v u
 |none,none=>True
 |_,_=>False
def KV{κ:Type}:List (κ×V)->List (κ×Value)->Prop:=Paired λ(p:κ×V) (q:κ×Value)=>p.1=q.1/\RelV p.2 q.2
noncomputable def kV:Key->V
 |.inl i=>.int i
 |.inr x=>.str x
 |.non=>.non
inductive HO where
  |lst (xs:List V)
  |tup (xs:List V)
  |dK (kvs:List (Key×V))|dT (kvs:List (List Key×V))
  |set (S:Int->Bool) (n:Nat)
  |ins (C dx:Addr) (fs:List (Str×V))
  |own (x:Addr)
  |xd (fs:List (Str×V))
  |met (f x:Addr)
  |rng (lo hi:Int)
  |frz (o:Obj) (u:HO)
  |tbl (ps:Array Value)
  |ext (φ:Heap->Prop)
abbrev Hp:=Addr->Option HO
noncomputable def upd(H:Hp)(a:Addr)(o:HO):Hp:=λb=>if b=a then some o else H b
theorem upd_same:upd H a o a=some o:=by unfold upd;rw[Ul rfl]
theorem upd_ne(h:b≠a):upd H a o b=H b:=by unfold upd;rw[Ui h]
theorem q85{H:Hp}(h:H a=some o)(h':H b=some u)(d:o≠u):a≠b:=by
 intro e;subst e;rw[h]at h';exact d (Option.some.inj h')
theorem qU{H:Hp}(h:H a=some o)(h':H b=none):a≠b:=by
 lia
section
variable (P:Program) (w:World)
def ObjOk(H:Hp)(h:Heap)(a:Addr):HO->Prop
 |.lst xs=>xs.length<=sizeLine/\∃(its:List Value)(n:Nat),Vals xs its/\h.get? a=some { cls:=.type "list", data:=.seq its.toArray n }
 |.tup xs=>xs.length<=sizeLine/\∃its:List Value,Vals xs its/\IsTup h a its.toArray
 |.dK kvs=>kvs.length<=sizeLine/\(a==sysModules)=false/\∃vs,KV kvs vs/\h.DictOf (ve P w) a vs
 |.dT kvs=>kvs.length<=sizeLine/\(a==sysModules)=false/\∃xs:List (List Key×Addr×Value),
   Paired (λ(p:List Key×V) (q:List Key×Addr×Value)=>p.1=q.1/\H q.2.1=some (.tup (p.1.map kV))/\RelV p.2 q.2.2) kvs xs /\
   ∃o es ep,h.get? a=some o/\o.ExactDict/\o.data=.dict es ep/\es.toList=xs.map (entryOfKey (tupleKind (ve P w)))/\(xs.map (·.1)).Nodup
 |.set S n=>h.SetOf (intKind P w) a S n
 |.ins C dx fs=>H dx=some (.own a)/\fs.length<=1000/\dx≠a/\h.get? a=some (W.instObj C dx) /\
   ∃mA,h.Ns1 dx mA/\(∀f,RelO (fs.lookup f) (mA f))/\PySem.Within mA (fs.map (·.1))
 |.own _=>∃o,h.get? a=some o
 |.xd fs=>∃mA,h.Ns1 a mA/\∀f,RelO (fs.lookup f) (mA f)
 |.rng lo hi=>∃t u v,h.get? a=some { cls:=.type "range", data:=.fields #[.int lo t,.int hi u,.int 1 v] }
 |.frz o u=>h.get? a=some o/\ObjOk H h a u
 |.tbl ps=>h.get? a=some { cls:=.none,data:=.fields ps }
 |.met f x=>h.get? a=some (W.methodObj (.ref f) (.ref x))
 |.ext φ=>φ h/\(∃o,h.get? a=some o)/\∀h1 h2:Heap,φ h1->(∀o,h1.get? a=some o->h2.get? a=some o)->φ h2
def HOk(H:Hp)(h:Heap):Prop:=∀a o,H a=some o->ObjOk P w H h a o
end
theorem ObjOk.lt(x:ObjOk P w H h a o):a<h.objs.size:=by
 cases o with
 |lst xs=>obtain⟨_,_,_,_,e⟩:=x;exact Heap.lt_size e
 |tup xs=>obtain⟨_,_,_,p⟩:=x;exact p.lt
 |dK kvs=>obtain⟨_,_,_,_,o,_,_,e,_⟩:=x;exact Heap.lt_size e
 |dT kvs=>obtain⟨_,_,_,_,o,_,_,e,_⟩:=x;exact Heap.lt_size e
 |set S n=>obtain⟨o,_,_,_,e,_⟩:=x;exact Heap.lt_size e
 |ins C dx fs=>obtain⟨_,_,_,e,_⟩:=x;exact Heap.lt_size e
 |own y=>obtain⟨_,e⟩:=x;exact Heap.lt_size e
 |xd fs=>obtain⟨_,⟨_,_,_,e,_⟩,_⟩:=x;exact Heap.lt_size e
 |rng lo hi=>obtain⟨_,_,_,e⟩:=x;exact Heap.lt_size e
 |frz ob u=>obtain⟨e,_⟩:=x;exact Heap.lt_size e
 |tbl ps=>exact Heap.lt_size x
 |met f y=>exact Heap.lt_size x
 |ext φ=>obtain⟨_,⟨_,e⟩,_⟩:=x;exact Heap.lt_size e
theorem Paired.mapP{α β:Type}{F G:α->β->Prop}:∀{l₁:List α}{l₂:List β},Paired F l₁ l₂->(∀a b,F a b->G a b)->Paired G l₁ l₂
 |_,_,.nil,_=>.nil
 |_,_,.cons r t,f=>.cons (f _ _ r) (Paired.mapP t f)
theorem ObjOk.stay(x:ObjOk P w H h a o)(k:∀b u,(b=a\/H b=some (.own a))->h.get? b=some u->h'.get? b=some u)(ho:∀b,H b=some (.own a)->H' b=some (.own a))(ht:∀b xs,H b=some (.tup xs)->H' b=some (.tup xs)):ObjOk P w H' h' a o:=by
 induction o with
 |lst xs=>obtain⟨z,its,n,r,e⟩:=x;exact⟨z,its,n,r,k _ _ (.inl rfl) e⟩
 |tup xs=>obtain⟨z,its,r,ob,e,c⟩:=x;exact⟨z,its,r,ob,k _ _ (.inl rfl) e,c⟩
 |dK kvs=>obtain⟨z,y,vs,r,ob,es,ep,e,c⟩:=x;exact⟨z,y,vs,r,ob,es,ep,k _ _ (.inl rfl) e,c⟩
 |dT kvs=>
  obtain⟨z,y,xs,r,ob,es,ep,e,c⟩:=x;exact⟨z,y,xs,Paired.mapP r λp q z=>⟨z.1,ht _ _ z.2.1,z.2.2⟩,ob,es,ep,k _ _ (.inl rfl) e,c⟩
 |set S n=>obtain⟨ob,es,ep,t,e,c⟩:=x;exact⟨ob,es,ep,t,k _ _ (.inl rfl) e,c⟩
 |ins C dx fs=>
  obtain⟨d,z,ne,e,mA,⟨od,es,ep,e2,c⟩,r⟩:=x;exact⟨ho _ d,z,ne,k _ _ (.inl rfl) e,mA,⟨od,es,ep,k _ _ (.inr d) e2,c⟩,r⟩
 |own y=>obtain⟨ob,e⟩:=x;exact⟨ob,k _ _ (.inl rfl) e⟩
 |xd fs=>obtain⟨mA,⟨od,es,ep,e,c⟩,r⟩:=x;exact⟨mA,⟨od,es,ep,k _ _ (.inl rfl) e,c⟩,r⟩
 |rng lo hi=>obtain⟨t,u,v,e⟩:=x;exact⟨t,u,v,k _ _ (.inl rfl) e⟩
 |frz ob u ih=>obtain⟨e,q⟩:=x;exact⟨k _ _ (.inl rfl) e,ih q⟩
 |tbl ps=>
  have e:=x;exact k a _ (.inl rfl) e
 |met f y=>
  have e:=x;exact k a _ (.inl rfl) e
 |ext φ=>obtain⟨p,⟨o,e⟩,st⟩:=x;exact⟨st _ _ p λo q=>k _ _ (.inl rfl) q,⟨o,k _ _ (.inl rfl) e⟩,st⟩
theorem HOk.lt(x:HOk P w H h)(e:H a=some o):a<h.objs.size:=(x a o e).lt
theorem HOk.fresh(x:HOk P w H h)(e:h.objs.size<=a):H a=none:=by
 cases q:H a with
 |none=>rfl
 |some u=>exact absurd (Dx (x.lt q) e) (DV _)
theorem HOk.kept(x:HOk P w H h)(k:∀b u,h.get? b=some u->h'.get? b=some u):HOk P w H h':=λa o e=>
 (x a o e).stay (λb u _ q=>k b u q) (λ_ q=>q) λ_ _ q=>q
theorem HOk.laid(x:HOk P w H h)(k:∀b u,h.get? b=some u->h'.get? b=some u)(hp:h.objs.size<=a)(new:ObjOk P w (upd H a o) h' a o):HOk P w (upd H a o) h':=λb u e=>by
 have hn:=x.fresh hp;by_cases hb:b=a
 ·subst hb;rw[upd_same]at e;lia
 ·rw[upd_ne hb]at e
  exact(x b u e).stay (λc v _ q=>k c v q) (λc q=>by rw[upd_ne (qU q hn)];exact q) λc xs q=>by rw[upd_ne (qU q hn)];exact q
def Rd(H:Hp)(a:Addr)(u:HO):Prop:=H a=some u\/∃o,H a=some (.frz o u)
theorem Rd.ok(r:Rd H a u)(x:HOk P w H h):ObjOk P w H h a u:=by
 rcases r with r|⟨o,r⟩
 ·exact x a u r
 ·obtain⟨_,q⟩:=x a _ r
  exact q
def Mut:Option HO->Prop
 |some (.lst _)=>True
 |some (.dK _)=>True
 |some (.dT _)=>True
 |some (.set _ _)=>True
 |some (.ins _ _ _)=>True
 |some (.ext _)=>True
 |_=>False
theorem HOk.write(ok:HOk P w H h)(mu:Mut (H x))(he:e=x\/H e=some (.own x))(k:∀b u,b≠e->h.get? b=some u->h'.get? b=some u)(gl:∃u,h'.get? e=some u)(new:ObjOk P w (upd H x o') h' x o'):HOk P w (upd H x o') h':=λb u q=>by
 have lq:∀c y,H c=some (.own y)->c≠x:=λc y r z=>by subst z;rw[r]at mu;exact mu
 have lr:∀c xs,H c=some (.tup xs)->c≠x:=λc xs r z=>by subst z;rw[r]at mu;exact mu
 by_cases hb:b=x
 ·subst hb;rw[upd_same]at q;cases q;exact new
 ·rw[upd_ne hb]at q
  by_cases hbe:b=e
  ·have q':H b=some (.own x):=by
    rcases he with z|z
    ·exact absurd (hbe.trans z) hb
    ·rw[hbe];exact z
   rw[q]at q';cases q';obtain⟨v,hv⟩:=gl;exact⟨v,by rw[hbe];exact hv⟩
  ·refine(ok b u q).stay (λc v hc r=>k c v ?_ r) (λc r=>by rw[upd_ne (lq c b r)];exact r) λc xs r=>by rw[upd_ne (lr c xs r)];exact r
   grind
structure Un(fs ex:List Addr)(H H':Hp)(h h':Heap):Prop where
 keep:∀b o,h.get? b=some o->H b=none->b∉fs->b∉ex->h'.get? b=some o
 slot:∀b o,h.get? b=some o->H b=none->b∈fs->b∉ex->∃sl,h'.get? b=some { o with slots:=sl }
 free:∀b o,h.get? b=some o->H b=none->b∉ex->H' b=none
 there:∀b o,h.get? b=some o->b∉ex->∃o',h'.get? b=some o'
 tups:∀b xs,H b=some (.tup xs)->H' b=some (.tup xs)
 frzs:∀b o u,H b=some (.frz o u)->H' b=some (.frz o u)
 tbls:∀b ps,H b=some (.tbl ps)->∃bc,H' b=some (.tbl (ps++bc))
theorem Un.any(u:Un fs ex H H1 h h1)(q:h.get? b=some ob)(n:H b=none)(hx:b∉ex):∃sl,h1.get? b=some { ob with slots:=sl }:=by
 by_cases hb:b∈fs
 ·exact u.slot b ob q n hb hx
 ·exact⟨ob.slots,u.keep b ob q n hb hx⟩
theorem Un.trans(a:Un fs ex H H1 h h1)(b:Un fs ex H1 H2 h1 h2):Un fs ex H H2 h h2 where
 keep:=λc ob q n hc hx=>b.keep c ob (a.keep c ob q n hc hx) (a.free c ob q n hx) hc hx
 slot:=λc ob q n hc hx=>by
  obtain⟨sl,e1⟩:=a.slot c ob q n hc hx;obtain⟨iE,e2⟩:=b.slot c _ e1 (a.free c ob q n hx) hc hx;exact⟨iE,e2⟩
 free:=λc ob q n hx=>by
  obtain⟨o',e1⟩:=a.there c ob q hx;exact b.free c o' e1 (a.free c ob q n hx) hx
 there:=λc ob q hx=>by
  obtain⟨o',e1⟩:=a.there c ob q hx;exact b.there c o' e1 hx
 tups:=λc xs q=>b.tups c xs (a.tups c xs q)
 frzs:=λc ob xs q=>b.frzs c ob xs (a.frzs c ob xs q)
 tbls:=λc ps q=>by
  obtain⟨m1,e1⟩:=a.tbls c ps q;obtain⟨m2,e2⟩:=b.tbls c _ e1;exact⟨m1++m2,by rw[e2,R0]⟩
theorem Un.kept(k:∀b u,h.get? b=some u->h'.get? b=some u):Un fs ex H H h h' :=
 ⟨λb ob q _ _ _=>k b ob q,λb ob q _ _ _=>⟨ob.slots,k b ob q⟩,λ_ _ _ n _=>n,λb ob q _=>⟨ob,k b ob q⟩,λ_ _ q=>q,λ_ _ _ q=>q,λ_ ps q=>⟨#[],by rw[q];simp⟩⟩
theorem Un.refl:Un fs ex H H h h:=Un.kept λ_ _ q=>q
theorem Un.laid(k:∀b u,h.get? b=some u->h'.get? b=some u)(hp:h.objs.size<=a)(hn:H a=none):Un fs ex H (upd H a o) h h' where
 keep:=λb u q _ _ _=>k b u q
 slot:=λb u q _ _ _=>⟨u.slots,k b u q⟩
 free:=λb u q n _=>by rw[upd_ne (Dz (Dx (Heap.lt_size q) hp))];exact n
 there:=λb u q _=>⟨u,k b u q⟩
 tups:=λb xs q=>by rw[upd_ne (qU q hn)];exact q
 frzs:=λb u xs q=>by rw[upd_ne (qU q hn)];exact q
 tbls:=λb ps q=>⟨#[],by rw[upd_ne (qU q hn),q];simp⟩
theorem Un.write(mu:Mut (H x))(he:e=x\/H e=some (.own x))(k:∀b u,b≠e->h.get? b=some u->h'.get? b=some u)(gl:∃u,h'.get? e=some u):Un fs ex H (upd H x o) h h':=by
 have hx:∀b,H b=none->b≠x:=λb n z=>by subst z;rw[n]at mu;exact mu
 have hb:∀b,H b=none->b≠e:=λb n z=>by
  subst z;rcases he with r|r
  ·exact hx b n r
  ·rw[n]at r;cases r
 have hm:∀b u,H b=some u->¬Mut (some u)->b≠x:=λb u q nm z=>by lia
 refine⟨λb u q n _ _=>k b u (hb b n) q,λb u q n _ _=>⟨u.slots,k b u (hb b n) q⟩,λb u q n _=>by rw[upd_ne (hx b n)];exact n,λb u q _=>?_,
  λb xs q=>by rw[upd_ne (hm b _ q λz=>z)];exact q,λb u xs q=>by rw[upd_ne (hm b _ q λz=>z)];exact q,λb ps q=>⟨#[],by rw[upd_ne (hm b _ q λz=>z),q];simp⟩⟩
 by_cases hbe:b=e
 ·subst hbe;exact gl
 ·exact⟨u,k b u hbe q⟩
noncomputable def trk(h:Heap)(H:Hp):List Addr:=(List.range h.objs.size).filter λa=>(H a).isSome
noncomputable def hidT(h:Heap)(H:Hp):Heap:=W.hideAll h (trk h H)
theorem GH(h:Heap)(H:Hp):(hidT h H).objs.size=h.objs.size:=W.hideAll_size _ _
theorem q19(e:h.get? b=some o)(n:H b=none):(hidT h H).get? b=some o :=
 Rz _ e λhm=>by
  have q:=(DB.mp hm).2;rw[n]at q;simp at q
theorem q50(e:(hidT h H).get? b=some o):h.get? b=some o/\H b=none:=by
 have e':=BO _ e;refine⟨e',?_⟩;cases q:H b with
 |none=>rfl
 |some x=>
  have hm:b∈trk h H:=DB.mpr ⟨D8.mpr (Heap.lt_size e'),by simp[q]⟩;have z:(hidT h H).get? b=none:=Rw _ hm;rw[z]at e;cases e
noncomputable def q4L(g h:Heap)(L:Addr):List (Addr×Obj):=(List.range h.objs.size).filterMap λa=>if a=L\/(g.get? a).isSome=true then none else(h.get? a).map λo=>(a,o)
noncomputable def rest(g h:Heap)(L d:Addr):List (Addr×Obj):=(q4L g h L).filter λp=>decide (p.1≠d)
structure Mod(Ξ:PySem.W.Frag)(mg:Str->Option Value)(base:Heap):Prop where
 kin:Ξ.In base
 glob:base.Ns mainGlobals mg
 blt:∃mb,base.Ns builtinsNs mb/\∀x:Str,x ≠ "__name__" -> mb x=bootBuiltins x
 nolimit:base.NoLimit
structure Cx where
 prog:Program
 w:World
 K:PySem.W.Frag
 mg:Str->Option Value
 base:Heap
 A:Around
 N:List Str
 s₀:Shared
 H₀:Hp
 env:Env
 outer:List Env
 stack:List Env
 ex:List Addr
 fn:Str->Bool
 calm:Bool
 pn:List (Addr×Obj)
 xe:Value->Shared->Prop
noncomputable def frs(l:List Env):List Addr:=l.filterMap (·.frame)
noncomputable abbrev Cx.fs(X:Cx):List Addr:=frs X.outer
def Vis(sc:Scope)(x:Str):Prop:=sc.names.lookup x=some .local\/sc.names.lookup x=some .cell\/sc.names.lookup x=some .free
def Loc(sc:Scope)(x:Str):Prop:=sc.names.lookup x=some .local\/sc.names.lookup x=some .cell
def Look(env:Env)(h:Heap)(m:Str->Option Value)(x:Str)(u:Value):Prop :=
 (env.kindOf x=some .local/\m x=some u)\/((env.kindOf x=some .cell\/env.kindOf x=some .free)/\∃c,env.cells.lookup x=some c/\h.IsCell c (some u))
structure Cx.Ok(X:Cx):Prop where
 mod:Mod X.K X.mg X.base
 kind:X.env.scope.kind=.function
 glob:X.env.globals=mainGlobals
 blt:X.env.builtins=builtinsNs
 above:X.s₀.heap.objs.size<=X.env.locals
 inj:∀x y c,X.env.cells.lookup x=some c->X.env.cells.lookup y=some c->x=y
 has:∀x,(X.env.kindOf x=some .cell\/X.env.kindOf x=some .free)->∃c,X.env.cells.lookup x=some c
 cab:∀x c,X.fn x=true->X.env.cells.lookup x=some c->X.s₀.heap.objs.size<=c
 hd:X.calm=true->X.A.handled=none
 frames:X.A.frames=some X.stack
 stk:X.stack=X.outer\/(X.stack=X.env::X.outer/\X.env.frame=some X.env.locals)
 exf:∀b∈X.ex,b≠X.env.locals/\∀x c,X.env.cells.lookup x=some c->c≠b
 bs:∀b o,X.base.get? b=some o->X.s₀.heap.get? b=some o/\X.H₀ b=none
 bsz:X.base.objs.size<=X.s₀.heap.objs.size
 noex:∀b o,X.base.get? b=some o->b∉X.ex
 exfs:∀b∈X.ex,b∉X.fs
 funs:X.s₀.heap.FunFrames X.base X.outer
 frf:∀b∈X.fs,X.H₀ b=none
structure Inv(X:Cx)(a4:List (Addr×Obj))(σ:List (Option V))(H:Hp)(s:Shared):Prop where
 ok:X.Ok
 os:s.os=X.s₀.os
 bare:AllBare s.gens
 base:Un X.fs X.ex X.H₀ H X.s₀.heap s.heap
 loc:∃m,s.heap.Ns X.env.locals m/\∀(i:Nat)(x:Str)(v:V),X.N[i]?=some x->σ[i]?=some (some v)->Vis X.env.scope x->∃u,RelV v u/\Look X.env s.heap m x u
 cell:∀x c,X.env.cells.lookup x=some c->∃v,s.heap.IsCell c v
 free:H X.env.locals=none
 freeC:∀x c,X.env.cells.lookup x=some c->H c=none
 pin:∀p∈X.pn++a4,s.heap.get? p.1=some p.2/\H p.1=none/\p.1≠X.env.locals/\p.1∉X.fs/\∀v,p.2.data ≠ .cell v
 hok:HOk X.prog X.w H s.heap
 len:σ.length=X.N.length
theorem Cx.Ok.nofr{X:Cx}(ok:X.Ok)(e:X.base.get? b=some o):b∉X.fs:=λhb=>by
 have:=(ok.funs.mem hb).1
 lia
theorem Inv.bs(I:Inv X a4 σ H s):∀b o,X.base.get? b=some o->s.heap.get? b=some o/\H b=none:=λb o e=>
 ⟨I.base.keep b o (I.ok.bs b o e).1 (I.ok.bs b o e).2 (I.ok.nofr e) (I.ok.noex b o e),I.base.free b o (I.ok.bs b o e).1 (I.ok.bs b o e).2 (I.ok.noex b o e)⟩
theorem Inv.bk(I:Inv X a4 σ H s):∀b o,X.base.get? b=some o->s.heap.get? b=some o:=λb o e=>(I.bs b o e).1
theorem Inv.mod(I:Inv X a4 σ H s):Mod X.K X.mg X.base:=I.ok.mod
theorem Inv.kIn(I:Inv X a4 σ H s):X.K.In s.heap:=I.ok.mod.kin.keeps I.bk
theorem Inv.fr(I:Inv X a4 σ H s):∃m,Fr X.base X.env.locals s.heap m :=
 let⟨m,hn,_⟩:=I.loc
 ⟨m,hn,I.bk,DA I.ok.bsz I.ok.above⟩
theorem Inv.lt(I:Inv X a4 σ H s):X.env.locals<s.heap.objs.size:=let⟨_,hn,_⟩:=I.loc;hn.lt
theorem Inv.sz(I:Inv X a4 σ H s):X.s₀.heap.objs.size<=s.heap.objs.size:=DA I.ok.above (DS I.lt)
theorem Inv.nofs(I:Inv X a4 σ H s)(h:s.heap.objs.size<=a):a∉X.fs:=λhb=>by
 obtain⟨_,o,ho,_⟩:=I.ok.funs.mem hb;exact absurd (Dx (Heap.lt_size ho) (DA I.sz h)) (DV _)
theorem Inv.cne(I:Inv X a4 σ H s):∀x c,X.env.cells.lookup x=some c->c≠X.env.locals:=λx c e z=>by
 obtain⟨v,o,ho,hd⟩:=I.cell x c e;obtain⟨m,⟨o',es,ep,bv,gm,_⟩,_⟩:=I.loc
 lia
theorem Inv.funs(I:Inv X a4 σ H s):s.heap.FunFrames X.base X.outer:=by
 have all:∀l,(∀b∈frs l,b∈X.fs)->X.s₀.heap.FunFrames X.base l->s.heap.FunFrames X.base l:=by
  intro l
  induction l with
  |nil=>intro _ _;trivial
  |cons env r ih=>
   intro hs hl;obtain⟨hk,⟨L,o,hf,hn,ho,hd⟩,hr⟩:=hl;have hL:=hs L (by unfold frs;rw[RU,hf];exact DH);obtain⟨sl,e⟩:=I.base.slot L o ho (I.ok.frf L hL) hL λz=>I.ok.exfs L z hL;exact⟨hk,⟨L,_,hf,hn,e,hd⟩,ih (λb hb=>hs b (by unfold frs;rw[RU,hf];exact DR _ hb)) hr⟩
 exact all X.outer (λ_ hb=>hb) I.ok.funs
theorem Inv.stack(I:Inv X a4 σ H s):s.heap.FunFrames X.base X.stack:=by
 rcases I.ok.stk with e|⟨e,hf⟩
 ·rw[e];exact I.funs
 ·rw[e]
  obtain⟨m,hn,_⟩:=I.loc;refine .cons (by rw[I.ok.kind];decide) hf hn ?_ I.funs;exact Heap.get?_none_of_le (DA I.ok.bsz I.ok.above)
theorem Inv.stkSub(I:Inv X a4 σ H s):∀b∈frs X.stack,b∈X.env.locals::X.fs:=λb hb=>by
 rcases I.ok.stk with e|⟨e,hf⟩
 ·rw[e]at hb;exact DR _ hb
 ·rw[e]at hb
  unfold frs at hb;rw[RU,hf]at hb;exact hb
theorem Inv.stkFree(I:Inv X a4 σ H s):∀b∈frs X.stack,H b=none:=λb hb=>by
 rcases Dl.mp (I.stkSub b hb)with e|hb
 ·rw[e];exact I.free
 ·obtain⟨_,o,ho,_⟩:=I.ok.funs.mem hb
  exact I.base.free b o ho (I.ok.frf b hb) λz=>I.ok.exfs b z hb
theorem Inv.step{ch:List Addr}(I:Inv X a4 σ H s)(eO:∀b∈ch,(b∈X.ex\/X.s₀.heap.objs.size<=b)/\b≠X.env.locals/\(∀x c,X.env.cells.lookup x=some c->c≠b)/\∀p∈X.pn++a4,p.1≠b)(keep:∀b o,b≠X.env.locals->b∉X.fs->b∉ch->s.heap.get? b=some o->H b=none->h'.get? b=some o)(slot:∀b o,b≠X.env.locals->b∈X.fs->b∉ch->s.heap.get? b=some o->H b=none->∃sl,h'.get? b=some { o with slots:=sl })(free:∀b o,b∉ch->s.heap.get? b=some o->H b=none->H' b=none)(there:∀b o,b∉ch->s.heap.get? b=some o->∃o',h'.get? b=some o')(tups:∀b xs,H b=some (.tup xs)->H' b=some (.tup xs))(frzs:∀b o u,H b=some (.frz o u)->H' b=some (.frz o u))(tbls:∀b ps,H b=some (.tbl ps)->∃bc,H' b=some (.tbl (ps++bc)))(ns:∀m,s.heap.Ns X.env.locals m->h'.Ns X.env.locals m)(hok:HOk X.prog X.w H' h')(hg:AllBare g'):
  Inv X a4 σ H' { s with heap:=h',gens:=g',drawn:=d',toks:=t' }:=by
 have nq:∀b o,X.s₀.heap.get? b=some o->b≠X.env.locals:=λb o e=>Dz (Dx (Heap.lt_size e) I.ok.above);have iF:∀b o,X.s₀.heap.get? b=some o->b∉X.ex->b∉ch:=λb o e hx hb=>by
  rcases(eO b hb).1 with z|z
  ·exact hx z
  ·exact absurd (Dx (Heap.lt_size e) z) (DV _)
 have fq:∀x c,X.env.cells.lookup x=some c->∀v,s.heap.IsCell c v->h'.IsCell c v:=λx c e v zz=>by
  obtain⟨o,ho,hd⟩:=zz;have gJ:c∉ch:=λz=>(eO c z).2.2.1 x c e rfl;by_cases hc:c∈X.fs
  ·obtain⟨sl,q⟩:=slot c o (I.cne x c e) hc gJ ho (I.freeC x c e)
   exact⟨_,q,hd⟩
  ·exact⟨o,keep c o (I.cne x c e) hc gJ ho (I.freeC x c e),hd⟩
 refine⟨I.ok,I.os,hg,⟨λb o e n hb hx=>?_,λb o e n hb hx=>?_,λb o e n hx=>?_,λb o e hx=>?_,λb xs e=>tups b xs (I.base.tups b xs e),λb o xs e=>frzs b o xs (I.base.frzs b o xs e),λb ps e=>?_⟩,?_,λx c e=>?_,?_,λx c e=>?_,λp hp=>?_,hok,I.len⟩
 ·exact keep b o (nq b o e) hb (iF b o e hx) (I.base.keep b o e n hb hx) (I.base.free b o e n hx)
 ·obtain⟨sl,e1⟩:=I.base.slot b o e n hb hx
  obtain⟨iE,e2⟩:=slot b _ (nq b o e) hb (iF b o e hx) e1 (I.base.free b o e n hx);exact⟨iE,e2⟩
 ·obtain⟨o',e1⟩:=I.base.there b o e hx
  exact free b o' (iF b o e hx) e1 (I.base.free b o e n hx)
 ·obtain⟨o',e1⟩:=I.base.there b o e hx
  exact there b o' (iF b o e hx) e1
 ·obtain⟨m1,e1⟩:=I.base.tbls b ps e
  obtain⟨m2,e2⟩:=tbls b _ e1;exact⟨m1++m2,by rw[e2,R0]⟩
 ·obtain⟨m,hn,hl⟩:=I.loc
  refine⟨m,ns m hn,λi x v e1 e2 e3=>?_⟩;obtain⟨u,r,l⟩:=hl i x v e1 e2 e3;refine⟨u,r,?_⟩;rcases l with l|⟨k,c,e,z⟩
  ·exact .inl l
  ·exact .inr ⟨k,c,e,fq x c e _ z⟩
 ·obtain⟨v,z⟩:=I.cell x c e
  exact⟨v,fq x c e v z⟩
 ·obtain⟨m,⟨o,_,_,ho,_⟩,_⟩:=I.loc
  exact free _ o (λz=>(eO _ z).2.1 rfl) ho I.free
 ·obtain⟨v,o,ho,hd⟩:=I.cell x c e
  exact free c o (λz=>(eO c z).2.2.1 x c e rfl) ho (I.freeC x c e)
 ·obtain⟨e,n,ne,nf,d⟩:=I.pin p hp
  have gJ:p.1∉ch:=λz=>(eO p.1 z).2.2.2 p hp rfl;exact⟨keep p.1 p.2 ne nf gJ e n,free p.1 p.2 gJ e n,ne,nf,d⟩
theorem Inv.un(I:Inv X a4 σ H s)(u:Un X.fs [] H H' s.heap h')(hok:HOk X.prog X.w H' h'):Inv X a4 σ H' { s with heap:=h',toks:=t' }:=by
 obtain⟨m,⟨o,es,ep,ho,r⟩,_⟩:=id I.loc;obtain⟨sl,hL⟩:=u.any ho I.free (by simp);exact I.step (g':=s.gens) (d':=s.drawn) (ch:=[]) (λ_ z=>nomatch z) (λb o _ hb _ e n=>u.keep b o e n hb (by simp)) (λb o _ hb _ e n=>u.slot b o e n hb (by simp)) (λb o _ e n=>u.free b o e n (by simp)) (λb o _ e=>u.there b o e (by simp)) u.tups u.frzs u.tbls (λm' hm=>by
  obtain⟨o',gn,gK,bv,r'⟩:=hm;rw[ho]at bv;cases bv;exact⟨_,gn,gK,hL,r'⟩) hok I.bare
theorem Inv.call(I:Inv X a4 σ H s)(u:Un (frs X.stack) ch H H' s.heap h')(hok:HOk X.prog X.w H' h')(hg:AllBare g')(eO:∀b∈ch,(b∈X.ex\/X.s₀.heap.objs.size<=b)/\b≠X.env.locals/\(∀x c,X.env.cells.lookup x=some c->c≠b)/\∀p∈X.pn++a4,p.1≠b):
  Inv X a4 σ H' { s with heap:=h',gens:=g',drawn:=d',toks:=t' }:=by
 obtain⟨m,⟨o,es,ep,ho,r⟩,_⟩:=id I.loc;obtain⟨sl,hL⟩:=u.any ho I.free λz=>(eO _ z).2.1 rfl;exact I.step eO (λb o hL hb hc e n=>u.keep b o e n (λz=>(Dl.mp (I.stkSub b z)).elim hL hb) hc) (λb o _ _ hc e n=>u.any e n hc) (λb o hc e n=>u.free b o e n hc) (λb o hc e=>u.there b o e hc) u.tups u.frzs u.tbls (λm' hm=>by
  obtain⟨o',gn,gK,bv,r'⟩:=hm;rw[ho]at bv;cases bv;exact⟨_,gn,gK,hL,r'⟩) hok hg
theorem Inv.turned(I:Inv X a4 σ H s)(k:∀b o,b≠it->s.heap.get? b=some o->h'.get? b=some o)(hn:H it=none)(hL:it≠X.env.locals)(h1:it∈X.ex\/X.s₀.heap.objs.size<=it)(h2:∀x c,X.env.cells.lookup x=some c->c≠it)(h3:∀p∈X.pn++a4,p.1≠it):Inv X a4 σ H { s with heap:=h',toks:=t' }:=by
 have nr:∀b u,H b=some u->b≠it:=λb u e z=>by rw[z,hn]at e;cases e
 refine I.step (g':=s.gens) (d':=s.drawn) (ch:=[it]) (λb hb=>?_) (λb o _ _ hc e _=>k b o (λz=>hc (by simp[z])) e) (λb o _ _ hc e _=>⟨o.slots,k b o (λz=>hc (by simp[z])) e⟩) (λ_ _ _ _ n=>n)
  (λb o hc e=>⟨o,k b o (λz=>hc (by simp[z])) e⟩) (λ_ _ e=>e) (λ_ _ _ e=>e) (λb ps e=>⟨#[],by rw[e];simp⟩) (λm hm=>?_) (λb u e=>?_) I.bare
 ·have e:b=it:=by simpa using hb
  subst e;exact⟨h1,hL,h2,h3⟩
 ·obtain⟨o,es,ep,ho,r⟩:=hm
  exact⟨o,es,ep,k _ o (Ne.symm hL) ho,r⟩
 ·refine(I.hok b u e).stay (λc v hc q=>k c v ?_ q) (λ_ q=>q) λ_ _ q=>q
  rcases hc with z|z
  ·rw[z];exact nr b u e
  ·exact nr c _ z
theorem Inv.tok(I:Inv X a4 σ H s)(t:Nat):Inv X a4 σ H { s with toks:=t }:=I.un (h':=s.heap) (t':=t) Un.refl I.hok
theorem Inv.kept(I:Inv X a4 σ H s)(k:∀b u,s.heap.get? b=some u->h'.get? b=some u):Inv X a4 σ H { s with heap:=h',toks:=t' }:=I.un (Un.kept k) (I.hok.kept k)
theorem Inv.laid(I:Inv X a4 σ H s)(k:∀b u,s.heap.get? b=some u->h'.get? b=some u)(hp:s.heap.objs.size<=a)(new:ObjOk X.prog X.w (upd H a o) h' a o):
  Inv X a4 σ (upd H a o) { s with heap:=h',toks:=t' }:=I.un (Un.laid k hp (I.hok.fresh hp)) (I.hok.laid k hp new)
theorem Inv.write(I:Inv X a4 σ H s)(mu:Mut (H x))(he:e=x\/H e=some (.own x))(k:∀b u,b≠e->s.heap.get? b=some u->h'.get? b=some u)(gl:∃u,h'.get? e=some u)(new:ObjOk X.prog X.w (upd H x o) h' x o):Inv X a4 σ (upd H x o) { s with heap:=h',toks:=t' }:=I.un (Un.write mu he k gl) (I.hok.write mu he k gl new)
theorem Inv.weak(I:Inv X a4 σ H s)(hl:ah.length=σ.length)(w:∀(i:Nat) v,ah[i]?=some (some v)->σ[i]?=some (some v)):Inv X a4 ah H s :=
 ⟨I.ok,I.os,I.bare,I.base,let⟨m,hn,hl'⟩:=I.loc;⟨m,hn,λi x v e1 e2 e3=>hl' i x v e1 (w i v e2) e3⟩,I.cell,I.free,I.freeC,I.pin,I.hok,hl.trans I.len⟩
theorem Inv.pins_of(I:Inv X a4 σ H s)(h:∀p∈dE,s.heap.get? p.1=some p.2/\H p.1=none/\p.1≠X.env.locals/\p.1∉X.fs/\∀v,p.2.data ≠ .cell v):Inv X dE σ H s :=
 ⟨I.ok,I.os,I.bare,I.base,I.loc,I.cell,I.free,I.freeC,λp hp=>(Dr.mp hp).elim (λz=>I.pin p (Dw _ z)) (h p),I.hok,I.len⟩
theorem Vf{N:List Str}(hN:N.Nodup){i j:Nat}(a:N[i]?=some x)(b:N[j]?=some x):i=j:=by
 obtain⟨h1,e1⟩:=Dc.mp a;obtain⟨h2,e2⟩:=Dc.mp b;exact(Bm hN).mp (e1.trans e2.symm)
theorem VT(I:Inv X a4 σ H s)(hN:X.N.Nodup)(hi:X.N[i]?=some x)(hx:Loc X.env.scope x)(r:RelV v u)(h:∀s',Inv X a4 (σ.set i (some v)) H s'->(∃a,Heap.SameBut a s.heap s'.heap/\(a=X.env.locals\/X.env.cells.lookup x=some a))->Q () s')(hf:X.fn x=true\/X.env.scope.names.lookup x=some .local:=by first|exact .inl rfl|exact .inr rfl|assumption):wpAny M A (storeName X.env x u) Q E s:=by
 obtain⟨m,hn,hl⟩:=id I.loc;have fD:(X.env.scope.kind == .class||(X.env.scope.kind == .module&&X.env.locals != X.env.globals))=false:=by rw[I.ok.kind];rfl
 have gL:i<σ.length:=by rw[I.len];exact(Dc.mp hi).1
 have cne:=I.cne;have cJ:∀{a:Addr}{h':Heap},(∃o,s.heap.get? a=some o/\H a=none)->Heap.SameBut a s.heap h'->HOk X.prog X.w H h':=λ{a h'} ha hs b ob e=>by
  obtain⟨_,_,gM⟩:=ha;refine(I.hok b ob e).stay (λc w' hc q=>(hs.2 c ?_).trans q) (λ_ q=>q) λ_ _ q=>q
  lia
 rcases hx with hk|hk
 ·refine wpAny_storeName_local hk hn (λh' gp hs=>?_) fD
  obtain⟨oL,_,_,oO,_⟩:=id hn;refine h _ ⟨I.ok,I.os,I.bare,⟨λb o e n hb hx=>?_,λb o e n hb hx=>?_,I.base.free,λb o e hx=>?_,I.base.tups,I.base.frzs,I.base.tbls⟩,⟨_,gp,λj y v' e1 e2 e3=>?_⟩,λy c e=>?_,I.free,I.freeC,λp hp=>?_,cJ ⟨oL,oO,I.free⟩ hs,by simpa using I.len⟩ ⟨_,hs,.inl rfl⟩
  ·exact(hs.2 b (Dz (Dx (Heap.lt_size e) I.ok.above))).trans (I.base.keep b o e n hb hx)
  ·obtain⟨sl,e1⟩:=I.base.slot b o e n hb hx
   exact⟨sl,(hs.2 b (Dz (Dx (Heap.lt_size e) I.ok.above))).trans e1⟩
  ·obtain⟨o',e1⟩:=I.base.there b o e hx
   exact⟨o',(hs.2 b (Dz (Dx (Heap.lt_size e) I.ok.above))).trans e1⟩
  ·by_cases hj:j=i
   ·subst hj
    rw[hi]at e1;cases e1;rw[Dn gL]at e2;cases e2;exact⟨u,r,.inl ⟨hk,by simp⟩⟩
   ·rw[Di (Ne.symm hj)]at e2
    obtain⟨u',r',q⟩:=hl j y v' e1 e2 e3;refine⟨u',r',?_⟩;rcases q with⟨k,e⟩|⟨k,c,e,z⟩
    ·refine .inl ⟨k,?_⟩
     have:y≠x:=λe=>hj (Vf hN e1 (e▸hi));simp[this,e]
    ·exact .inr ⟨k,c,e,z.sameBut hs (cne y c e)⟩
  ·obtain⟨w',z⟩:=I.cell y c e
   exact⟨w',z.sameBut hs (cne y c e)⟩
  ·obtain⟨e,n,ne,nf,d⟩:=I.pin p hp
   exact⟨(hs.2 p.1 ne).trans e,n,ne,nf,d⟩
 ·have lA:X.fn x=true:=by
   rcases hf with z|z
   ·exact z
   ·rw[z]at hk;cases hk
  obtain⟨c,hc⟩:=I.ok.has x (.inl hk);obtain⟨w',z⟩:=I.cell x c hc;refine wpAny_storeName_cell I.ok.kind hk hc z (λh' eP hs=>?_);obtain⟨oc,nu,lB⟩:=id z;refine h { s with heap:=h' } ⟨I.ok,I.os,I.bare,⟨λb o e n hb hx=>?_,λb o e n hb hx=>?_,I.base.free,λb o e hx=>?_,I.base.tups,I.base.frzs,I.base.tbls⟩,⟨m,hn.sameBut hs (Ne.symm (cne x c hc)),λj y v' e1 e2 e3=>?_⟩,λy c' e=>?_,I.free,I.freeC,λp hp=>?_,cJ ⟨oc,nu,I.freeC x c hc⟩ hs,by simpa using I.len⟩ ⟨c,hs,.inr hc⟩
  ·exact(hs.2 b (Dz (Dx (Heap.lt_size e) (I.ok.cab x c lA hc)))).trans (I.base.keep b o e n hb hx)
  ·obtain⟨sl,e1⟩:=I.base.slot b o e n hb hx
   exact⟨sl,(hs.2 b (Dz (Dx (Heap.lt_size e) (I.ok.cab x c lA hc)))).trans e1⟩
  ·obtain⟨o',e1⟩:=I.base.there b o e hx
   exact⟨o',(hs.2 b (Dz (Dx (Heap.lt_size e) (I.ok.cab x c lA hc)))).trans e1⟩
  ·by_cases hj:j=i
   ·subst hj
    rw[hi]at e1;cases e1;rw[Dn gL]at e2;cases e2;exact⟨u,r,.inr ⟨.inl hk,c,hc,eP⟩⟩
   ·rw[Di (Ne.symm hj)]at e2
    obtain⟨u',r',q⟩:=hl j y v' e1 e2 e3;refine⟨u',r',?_⟩;rcases q with q|⟨k,c',e,z'⟩
    ·exact .inl q
    ·refine .inr ⟨k,c',e,z'.sameBut hs ?_⟩
     rintro rfl;exact hj (Vf hN e1 (I.ok.inj _ _ _ e hc▸hi))
  ·by_cases iG:c'=c
   ·subst iG;exact⟨_,eP⟩
   ·obtain⟨w2,z2⟩:=I.cell y c' e
    exact⟨w2,z2.sameBut hs iG⟩
  ·obtain⟨e,n,ne,nf,d⟩:=I.pin p hp
   refine⟨(hs.2 p.1 ?_).trans e,n,ne,nf,d⟩;intro q;rw[q,nu]at e;have q':oc=p.2:=Option.some.inj e;exact d w' (by rw[<-q'];exact lB)
theorem vK(I:Inv X a4 σ H s)(hN:X.N.Nodup)(hi:X.N[i]?=some x)(hx:Loc X.env.scope x)(r:RelV v u)(h:∀s',Inv X a4 (σ.set i (some v)) H s'->Q () s')(hf:X.fn x=true\/X.env.scope.names.lookup x=some .local:=by first|exact .inl rfl|exact .inr rfl|assumption):wpAny M A (storeName X.env x u) Q E s :=
 VT I hN hi hx r (λs' I' _=>h s' I') hf
theorem Inv.call'(I:Inv X a4 σ H s)(ho:s'.os=s.os)(u:Un (frs X.stack) ch H H' s.heap s'.heap)(hok:HOk X.prog X.w H' s'.heap)(hg:AllBare s'.gens)(eO:∀b∈ch,(b∈X.ex\/X.s₀.heap.objs.size<=b)/\b≠X.env.locals/\(∀x c,X.env.cells.lookup x=some c->c≠b)/\∀p∈X.pn++a4,p.1≠b):Inv X a4 σ H' s':=by
 obtain⟨h',g',d',t',o'⟩:=s';have e:=ho;subst e;exact I.call (g':=g') (t':=t') (d':=d') u hok hg eO
abbrev XK:=Value->Option Addr->Hp->Prop
abbrev St:=List (Option V)
abbrev VK:=V->Hp->Prop
abbrev TE:=St->Hp->VK->Prop
abbrev TT:=St->Hp->(Bool->Hp->Prop)->Prop
abbrev TA:=St->Hp->(List V->Hp->Prop)->Prop
structure Ends where
 nx:St->Hp->Prop
 rt:VK
 bk:St->Hp->Prop:=λ_ _=>False
 ct:St->Hp->Prop:=λ_ _=>False
abbrev TS:=Ends->St->Hp->Prop
def EP(X:Cx)(a4:List (Addr×Obj))(σ:St)(Q:VK)(u:Value)(s':Shared):Prop:=∃v H',Inv X a4 σ H' s'/\RelV v u/\Q v H'
def TP(X:Cx)(a4:List (Addr×Obj))(σ:St)(Q:Bool->Hp->Prop)(b:Bool)(s':Shared):Prop:=∃H',Inv X a4 σ H' s'/\Q b H'
def AP(X:Cx)(a4:List (Addr×Obj))(σ:St)(Q:List V->Hp->Prop)(us:List Value)(s':Shared):Prop:=∃vs H',Inv X a4 σ H' s'/\Vals vs us/\Q vs H'
def SP(X:Cx)(a4:List (Addr×Obj))(D:Ends)(f:Flow)(s':Shared):Prop :=
 match f with
 |.next=>∃ah H',Inv X a4 ah H' s'/\D.nx ah H'
 |.brk=>∃ah H',Inv X a4 ah H' s'/\D.bk ah H'
 |.cont=>∃ah H',Inv X a4 ah H' s'/\D.ct ah H'
 |.ret u=>∃v ah H',Inv X a4 ah H' s'/\RelV v u/\D.rt v H'
def PE(X:Cx)(e:Expr)(t:TE):Prop :=
 ∀(a4:List (Addr×Obj))(s:Shared)(σ:St)(H:Hp)(Q:VK),Inv X a4 σ H s->t σ H Q->wpAny (model X.prog X.w) X.A (eval e X.env) (EP X a4 σ Q) X.xe s
def PT(X:Cx)(e:Expr)(t:TT):Prop :=
 ∀(a4:List (Addr×Obj))(s:Shared)(σ:St)(H:Hp)(Q:Bool->Hp->Prop),Inv X a4 σ H s->t σ H Q->wpAny (model X.prog X.w) X.A (isTrue e X.env (eval e X.env)) (TP X a4 σ Q) X.xe s
def PW(X:Cx)(e:Expr)(t:TT):Prop :=
 ∀(bx:Sem Value)(a4:List (Addr×Obj))(s:Shared)(σ:St)(H:Hp)(Q:Bool->Hp->Prop),Inv X a4 σ H s->t σ H Q->wpAny (model X.prog X.w) X.A (isTrue e X.env bx) (TP X a4 σ Q) X.xe s
theorem PW.pt(h:PW X e t):PT X e t:=h _
def PA(X:Cx)(es:List Expr)(t:TA):Prop :=
 ∀(pos:Pos)(a4:List (Addr×Obj))(s:Shared)(σ:St)(H:Hp)(Q:List V->Hp->Prop),Inv X a4 σ H s->t σ H Q->wpAny (model X.prog X.w) X.A (spliced (backTo pos (starEach es X.env))) (AP X a4 σ Q) X.xe s
def PS(X:Cx)(st:Stmt)(t:TS):Prop :=
 ∀(a4:List (Addr×Obj))(s:Shared)(σ:St)(H:Hp)(D:Ends),Inv X a4 σ H s->t D σ H->wpAny (model X.prog X.w) X.A (exec st X.env) (SP X a4 D) X.xe s
def PSs(X:Cx)(st:List Stmt)(t:TS):Prop :=
 ∀(a4:List (Addr×Obj))(s:Shared)(σ:St)(H:Hp)(D:Ends),Inv X a4 σ H s->t D σ H->wpAny (model X.prog X.w) X.A (execs st X.env) (SP X a4 D) X.xe s
theorem thn{α:Type}{t:Sem α}{Q Q':α->Shared->Prop}{M:Model}{A:Around}{E:Value->Shared->Prop}{s:Shared}(h:wpAny M A t Q E s)(hQ:∀a s,Q a s->Q' a s):wpAny M A t Q' E s:=Uj h hQ λ_ _ x=>x
section
def tVar(i:Nat):TE:=λσ H Q=>∃v,σ[i]?=some (some v)/\Q v H
def tC(v:V):TE:=λ_ H Q=>Q v H
theorem q28(hN:X.N[i]?=some x)(hv:Vis X.env.scope x)(hd:(x==("__debug__" : Str))=false:=by decide)(cZ:(x==("__classdict__" : Str))=false:=by decide):PE X (.Name x pos) (tVar i):=by
 intro a4 s σ H Q I h;obtain⟨v,e,h⟩:=h;obtain⟨m,hn,hl⟩:=I.loc;obtain⟨u,r,l⟩:=hl i x v hN e hv;have fin:EP X a4 σ Q u s:=⟨v,H,I,r,h⟩;rcases l with⟨hk,hm⟩|⟨hk,c,hc,c7⟩
 ·exact wpAny_Name (wpAny_loadName_local I.ok.kind hk hn hm fin) hd
 ·rcases hk with hk|hk
  ·exact wpAny_Name (wpAny_loadName_cell I.ok.kind hk hc c7 fin) hd
  ·exact wpAny_Name (wpAny_loadName_free I.ok.kind hk hc c7 fin cZ) hd
def Gl(X:Cx)(x:Str):Prop:=X.env.kindOf x=some .globalImplicit
theorem zp(I:Inv X a4 σ H s)(hg:Gl X x)(hm:X.mg x=some u)(h:Q u s)(hd:(x==("__debug__" : Str))=false:=by decide):wpAny (model X.prog X.w) X.A (eval (.Name x pos) X.env) Q E s :=
 Calls.Name_function_global I.ok.kind hg (Calls.loadGlobal_global (by rw[I.ok.glob];exact I.mod.glob.keeps I.bk) hm h) hd
theorem Zq(I:Inv X a4 σ H s)(hg:Gl X x)(hm:X.mg x=none)(hv:bootBuiltins x=some u)(h:Q u s)(hn:x ≠ "__name__" := by decide)(hd:(x==("__debug__" : Str))=false:=by decide):wpAny (model X.prog X.w) X.A (eval (.Name x pos) X.env) Q E s:=by
 obtain⟨mb,h1,h2⟩:=I.mod.blt;exact Calls.Name_function_global I.ok.kind hg (Calls.loadGlobal_builtin (by rw[I.ok.glob];exact I.mod.glob.keeps I.bk) hm (by rw[I.ok.blt];exact h1.keeps I.bk) ((h2 x hn).trans hv) h) hd
theorem Wq(hg:Gl X x)(hm:X.mg x=some u)(r:RelV v u)(hd:(x==("__debug__" : Str))=false:=by decide):PE X (.Name x pos) (tC v):=
 λ_ _ _ H _ I h=>zp I hg hm ⟨v,H,I,r,h⟩ hd
variable {a b:Expr}{ta tb:TE}{pos:Pos}
def PC(X:Cx)(op:CmpOp)(a b:Expr)(t:TE):Prop :=
 ∀(a4:List (Addr×Obj))(s:Shared)(σ:St)(H:Hp)(Q:VK),Inv X a4 σ H s->t σ H Q ->
  wpAny (model X.prog X.w) X.A (eval a X.env) (λv af=>wpAny (model X.prog X.w) X.A (eval b X.env) (λu bg=>wpAny (model X.prog X.w) X.A (compareOp op v u) (EP X a4 σ Q) X.xe bg) X.xe af) X.xe s
theorem q0x(b:Expr)(h:op ≠ .In)(h2:op ≠ .NotIn):behindInMarks op b=false:=by
 have e1:(op==CmpOp.In)=false:=by  lia
 have e2:(op==CmpOp.NotIn)=false:=by  lia
 cases b<;>simp[behindInMarks,e1,e2]
def tB(t:TE):TT:=λσ H Q=>t σ H λx H1=>∃c,x=.bl c/\Q c H1
theorem q3m(h:PC X op a b t)(h1:behindInMarks op b=false:=by first|exact q0x _ (by decide) (by decide)|rfl):PT X (.Compare a [op] [b] pos) (tB t):=by
 intro a4 s σ H Q I hw;refine wpAny_isTrue_Compare1 (thn (h a4 s σ H _ I hw) λv s1 h1=>thn h1 λu s2 h2=>thn h2 λc s3 ⟨x,H1,I1,r1,q1⟩=>?_) h1;obtain⟨d,rfl,q⟩:=q1;cases r1;exact UB ⟨H1,I1,q⟩
variable {tA iH:TT}{rest:List Expr}
def tAnd(t u:TT):TT:=λσ H Q=>t σ H λc H1=>if c=true then u σ H1 Q else Q false H1
def tOr(t u:TT):TT:=λσ H Q=>t σ H λc H1=>if c=true then Q true H1 else u σ H1 Q
def tNot(t:TT):TT:=λσ H Q=>t σ H λc H1=>Q (!c) H1
def tIf(t:TT)(ta tb:TE):TE:=λσ H Q=>t σ H λc H1=>if c=true then ta σ H1 Q else tb σ H1 Q
end
def SqL(Ξ:PySem.W.Frag)(H:Hp)(a:Addr)(xs:List V):Prop :=
 Rd H a (.lst xs) \/
  ∃(o:Obj)(its:Array Value)(n:Nat),Ξ.lookup a=some o/\o.cls=.type "list" /\ o.dict=none/\o.data=.seq its n/\its.size<=sizeLine/\Vals xs its.toList
def SqT(Ξ:PySem.W.Frag)(H:Hp)(a:Addr)(xs:List V):Prop :=
 Rd H a (.tup xs) \/
  ∃(o:Obj)(its:Array Value)(n:Nat),Ξ.lookup a=some o/\o.cls=.type "tuple" /\ o.data=.seq its n/\its.size<=sizeLine/\Vals xs its.toList
noncomputable def absV:Value->Option V
 |.none=>some .non
 |.bool b=>some (.bl b)
 |.int i _=>some (.int i)
 |.str x _=>some (.str x)
 |.bytes b _=>some (.byt b)
 |.float b _=>some (.flt b)
 |.ref a=>some (.ref a)
 |.type n=>some (.ty n)
 |_=>none
theorem RelV.abs(r:RelV x u):absV u=some x:=by
 cases x with
 |non=>cases r;rfl
 |bl _=>cases r;rfl
 |int _=>obtain⟨t,rfl⟩:=r;rfl
 |str _=>obtain⟨t,rfl⟩:=r;rfl
 |byt _=>obtain⟨t,rfl⟩:=r;rfl
 |flt _=>obtain⟨t,rfl⟩:=r;rfl
 |ref _=>cases r;rfl
 |ty _=>cases r;rfl
theorem RelV.inj(r:RelV x u)(q:RelV y u):x=y:=Option.some.inj (r.abs.symm.trans q.abs)
theorem Vals.inj:∀{xs ys:List V}{us:List Value},Vals xs us->Vals ys us->xs=ys
 |_,_,_,.nil,.nil=>rfl
 |_,_,_,.cons r t,.cons r' t'=>by rw[r.inj r',Vals.inj t t']
theorem SqL.of(h:H a=some (.lst xs)):SqL Ξ H a xs:=.inl (.inl h)
theorem SqT.of(h:H a=some (.tup xs)):SqT Ξ H a xs:=.inl (.inl h)
theorem Inv.list(I:Inv X a4 σ H s)(h:SqL X.K H a xs):∃its:List Value,Vals xs its/\PlainL s.heap a its.toArray/\xs.length<=sizeLine:=by
 rcases h with h|⟨o,its,n,hk,hc,hd,hs,hz,r⟩
 ·obtain⟨z,its,n,r,e⟩:=h.ok I.hok
  exact⟨its,r,⟨_,n,e,rfl,rfl,rfl⟩,z⟩
 ·refine⟨its.toList,r,⟨o,n,I.kIn a o hk,hc,hd,by simpa using hs⟩,?_⟩
  have e:=r.length
  grind
theorem Inv.tuple(I:Inv X a4 σ H s)(h:SqT X.K H a xs):∃its:List Value,Vals xs its/\IsTup s.heap a its.toArray/\xs.length<=sizeLine:=by
 rcases h with h|⟨o,its,n,hk,hc,hs,hz,r⟩
 ·obtain⟨z,its,r,p⟩:=h.ok I.hok
  exact⟨its,r,p,z⟩
 ·refine⟨its.toList,r,⟨o,I.kIn a o hk,hc,n,by simpa using hs⟩,?_⟩
  have e:=r.length;simp only[BI]at e;lia
theorem Inv.list_inj(I:Inv X a4 σ H s)(h:SqL X.K H a xs)(h':SqL X.K H a ys):xs=ys:=by
 obtain⟨its,r,⟨o,n,e,_,_,d⟩,_⟩:=I.list h;obtain⟨its',r',⟨o',n',e',_,_,d'⟩,_⟩:=I.list h';rw[e]at e';have:its=its':=by  lia
 subst this;exact r.inj r'
noncomputable abbrev Cx.wish(X:Cx)(E:Value->Shared->Prop):Cx:={ X with xe:=E }
noncomputable abbrev Cx.nox(X:Cx):Cx:=X.wish λ_ _=>False
theorem Cx.Ok.wish{X:Cx}(ok:X.Ok)(E:Value->Shared->Prop):(X.wish E).Ok :=
 ⟨ok.mod,ok.kind,ok.glob,ok.blt,ok.above,ok.inj,ok.has,ok.cab,ok.hd,ok.frames,ok.stk,ok.exf,ok.bs,ok.bsz,ok.noex,ok.exfs,ok.funs,ok.frf⟩
theorem Cx.Ok.unwish{X:Cx}(ok:(X.wish E).Ok):X.Ok :=
 ⟨ok.mod,ok.kind,ok.glob,ok.blt,ok.above,ok.inj,ok.has,ok.cab,ok.hd,ok.frames,ok.stk,ok.exf,ok.bs,ok.bsz,ok.noex,ok.exfs,ok.funs,ok.frf⟩
theorem Inv.wish(I:Inv X a4 σ H s)(E:Value->Shared->Prop):Inv (X.wish E) a4 σ H s:=⟨I.ok.wish E,I.os,I.bare,I.base,I.loc,I.cell,I.free,I.freeC,I.pin,I.hok,I.len⟩
theorem Inv.unwish(I:Inv (X.wish E) a4 σ H s):Inv X a4 σ H s:=⟨I.ok.unwish,I.os,I.bare,I.base,I.loc,I.cell,I.free,I.freeC,I.pin,I.hok,I.len⟩
theorem SP.unwish(h:SP (X.wish E) a4 D f s'):SP X a4 D f s':=by
 cases f with
 |next=>obtain⟨ah,H',I,q⟩:=h;exact⟨ah,H',I.unwish,q⟩
 |brk=>obtain⟨ah,H',I,q⟩:=h;exact⟨ah,H',I.unwish,q⟩
 |cont=>obtain⟨ah,H',I,q⟩:=h;exact⟨ah,H',I.unwish,q⟩
 |ret u=>obtain⟨v,ah,H',I,r,q⟩:=h;exact⟨v,ah,H',I.unwish,r,q⟩
theorem PE.nox(h:PE X.nox e t):PE X e t:=λa4 s σ H Q I hw=>
 Uj (h a4 s σ H Q (I.wish _) hw) (λ_ _ ⟨v,H',I',r,q⟩=>⟨v,H',I'.unwish,r,q⟩) λ_ _ z=>False.elim z
theorem PT.nox(h:PT X.nox e t):PT X e t:=λa4 s σ H Q I hw=>
 Uj (h a4 s σ H Q (I.wish _) hw) (λ_ _ ⟨H',I',q⟩=>⟨H',I'.unwish,q⟩) λ_ _ z=>False.elim z
theorem PSs.nox{st:List Stmt}(h:PSs X.nox st t):PSs X st t:=λa4 s σ H D I hw=>
 Uj (h a4 s σ H D (I.wish _) hw) (λ_ _ q=>q.unwish) λ_ _ z=>False.elim z
def Q5:TS:=λD σ H=>D.nx σ H
def tSeq(t u:TS):TS:=λD σ H=>t { D with nx:=u D } σ H
theorem Inv.quiet(I:Inv X a4 σ H s):interactive X.env=false:=by simp[interactive,I.ok.kind]
def VS(te:TE):TS:=λD σ H=>te σ H λ_ H1=>D.nx σ H1
def tRet(te:TE):TS:=λD σ H=>te σ H D.rt
def VQ:TS:=λD _ H=>D.rt .non H
def tIfS(c:TT)(t u:TS):TS:=λD σ H=>c σ H λb H1=>if b=true then t D σ H1 else u D σ H1
abbrev TG:=V->St->Hp->(St->Hp->Prop)->Prop
abbrev TGs:=List V->St->Hp->(St->Hp->Prop)->Prop
def PG(X:Cx)(fE:Expr)(t:TG):Prop :=
 ∀(a4:List (Addr×Obj))(s:Shared)(σ:St)(H:Hp)(v:V)(u:Value)(Q:St->Hp->Prop),Inv X a4 σ H s->RelV v u->t v σ H Q ->
  wpAny (model X.prog X.w) X.A (assign fE X.env u) (λ_ s'=>∃ah H',Inv X a4 ah H' s'/\Q ah H') X.xe s
def PGs(X:Cx)(ts:List Expr)(t:TGs):Prop :=
 ∀(a4:List (Addr×Obj))(s:Shared)(σ:St)(H:Hp)(vs:List V)(us:List Value)(Q:St->Hp->Prop),Inv X a4 σ H s->Vals vs us->t vs σ H Q ->
  wpAny (model X.prog X.w) X.A (assignInOrder ((assignEach ts X.env).map (·.2)) us) (λ_ s'=>∃ah H',Inv X a4 ah H' s'/\Q ah H') X.xe s
abbrev TSet:=V->V->V->Hp->(Hp->Prop)->Prop
def PSet(X:Cx)(t:TSet):Prop :=
 ∀(a4:List (Addr×Obj))(s:Shared)(σ:St)(H:Hp)(o i v:V)(ov iv u:Value)(Q:Hp->Prop),Inv X a4 σ H s->RelV o ov->RelV i iv->RelV v u->t o i v H Q ->
  wpAny (model X.prog X.w) X.A (setItem ov iv u) (λ_ s'=>∃H',Inv X a4 σ H' s'/\Q H') X.xe s
abbrev TIp:=V->V->Hp->VK->Prop
def PIp(X:Cx)(op:Operator)(t:TIp):Prop :=
 ∀(a4:List (Addr×Obj))(s:Shared)(σ:St)(H:Hp)(x y:V)(v u:Value)(Q:VK),Inv X a4 σ H s->RelV x v->RelV y u->t x y H Q ->
  wpAny (model X.prog X.w) X.A (inplaceOp op v u) (EP X a4 σ Q) X.xe s
def qJ(i:Nat):TG:=λv σ H Q=>Q (σ.set i (some v)) H
theorem zD(hN:X.N.Nodup)(hi:X.N[i]?=some x)(hx:Loc X.env.scope x)(hf:X.fn x=true\/X.env.scope.names.lookup x=some .local:=by first|exact .inl rfl|exact .inr rfl|assumption):PG X (.Name x pos) (qJ i):=by
 intro a4 s σ H v u Q I r h;exact wpAny_assign_Name (vK I hN hi hx r (λs' I'=>⟨_,H,I',h⟩) hf)
def gNil:TGs:=λvs σ H Q=>vs=[]/\Q σ H
def vb(t:TG)(u:TGs):TGs:=λvs σ H Q=>∃v r,vs=v::r/\t v σ H λah H'=>u r ah H' Q
theorem Xz:PGs X [] gNil:=by
 intro a4 s σ H vs us Q I r h;obtain⟨e,h⟩:=h;subst e;exact U1 ⟨σ,H,I,h⟩
theorem zi(h1:PG X e t)(h2:PGs X es u)(hs:(assignEach (e::es) X.env).map (·.2)=assign e X.env::(assignEach es X.env).map (·.2):=by rfl):PGs X (e::es) (vb t u):=by
 intro a4 s σ H vs us Q I r h;obtain⟨v,vr,e1,h⟩:=h;subst e1;cases r with
 |cons r rr=>
  rw[hs];refine Uu (thn (h1 a4 s σ H _ _ _ I r h) λ_ s1 zz=>?_);obtain⟨cY,H1,I1,q1⟩:=zz;exact h2 a4 s1 cY H1 _ _ Q I1 rr q1
def gTup(Ξ:PySem.W.Frag)(n:Nat)(t:TGs):TG:=λv σ H Q=>∃a xs,v=.ref a/\SqT Ξ H a xs/\xs.length=n/\t xs σ H Q
theorem Wp(hc:X.calm=true)(h:PGs X es t)(hn:(assignEach es X.env).length=n:=by rfl)(eW:(assignEach es X.env).findIdx? (·.1)=none:=by rfl):PG X (.Tuple es k pos) (gTup X.K n t):=by
 intro a4 s σ H v u Q I r hw;obtain⟨a,xs,e1,hq,hl,hw⟩:=hw;subst e1;cases r;obtain⟨its,rv,ht,hz⟩:=I.tuple hq;refine assign_Tuple_tuple (I.ok.hd hc) ht (by simp[hn, <-hl,rv.length]) eW λh' hx=>?_;have I1:=I.kept (t':=s.toks) λb o e=>hx b o (Dz (Heap.lt_size e)) e;exact h a4 _ σ H xs _ Q I1 (by simpa using rv) hw
def gSub(to ti:TE)(t:TSet):TG:=λv σ H Q=>to σ H λo H1=>ti σ H1 λi H2=>t o i v H2 λH3=>Q σ H3
def tAsg(te:TE)(g:TG):TS:=λD σ H=>te σ H λx H1=>g x σ H1 D.nx
def tPar(i j:Nat)(ta:TA):TS:=λD σ H=>ta σ H λvs H1=>∃v w,vs=[v,w]/\D.nx ((σ.set i (some v)).set j (some w)) H1
def tAug(i:Nat)(te:TE)(ti:TIp):TS:=λD σ H=>∃x,σ[i]?=some (some x)/\te σ H λy H1=>ti x y H1 λz H2=>D.nx (σ.set i (some z)) H2
def ipI(f:Int->Int->Int):TIp:=λx y H Q=>∃i j,x=.int i/\y=.int j/\Q (.int (f i j)) H
theorem q26:PIp X .Add (ipI λi j=>i+j):=by
 intro a4 s σ H x y v u Q I r1 r2 h;obtain⟨i,j,e1,e2,q⟩:=h;subst e1;subst e2;obtain⟨t,rfl⟩:=r1;obtain⟨t',rfl⟩:=r2;exact iadd_int ⟨.int _,H,I.tok _,⟨_,rfl⟩,q⟩
def Jp(c:TT)(tb:TS):TS:=λD σ H=>∃W:Nat->St->Hp->Prop,(∃m,W m σ H)/\∀m σ H,W m σ H ->
 c σ H λb H1=>if b=true then ∃N:St->Hp->Prop,(∀ah H',N ah H'->∃m',m'<m/\W m' ah H')/\tb { D with nx:=N,ct:=N,bk:=D.nx } σ H1 else D.nx σ H1
structure It where
 go:Nat->Hp->Prop
 yld:Nat->Hp->V->Hp->Prop
 stop:Nat->Hp->Prop
def FpOk(X:Cx)(a4:List (Addr×Obj))(H:Hp)(b:Addr):Prop :=
 H b=none/\b≠X.env.locals/\b∉X.fs/\(b∈X.ex\/X.s₀.heap.objs.size<=b)/\(∀x c,X.env.cells.lookup x=some c->c≠b)/\∀p∈X.pn++a4,p.1≠b
theorem Inv.fpOk(I:Inv X a4 σ H s)(hb:s.heap.objs.size<=b)(hn:H' b=none):FpOk X a4 H' b:=by
 refine⟨hn,Bu (Dx I.lt hb),I.nofs hb,.inr (DA I.sz hb),λx c e z=>?_,λp hp z=>?_⟩
 ·obtain⟨v,q⟩:=I.cell x c e
  exact absurd (Dx q.lt (by rw[z];exact hb)) (DV _)
 ·exact absurd (Dx (Heap.lt_size (I.pin p hp).1) (by rw[z];exact hb)) (DV _)
def CalP:Bool->Cx->Prop
 |true,X=>X.calm=true
 |false,X=>∃a oe vs,X.A.handled=some (.ref a)/\X.base.get? a=some oe/\oe.data=.fields vs/\vs[2]?=some .none
structure q3V(cm:Bool)(P:Program)(w:World)(Ξ:PySem.W.Frag)(tg:Expr)(J:It)(fp:List Addr)(it:Addr)(tn:Nat->Heap->Prop):Prop where
 mem:it∈fp
 obj:∀i h,tn i h->∀b∈fp,∃o,h.get? b=some o/\∀v,o.data ≠ .cell v
 keep:∀i h h',tn i h->(∀b∈fp,∀o,h.get? b=some o->h'.get? b=some o)->tn i h'
 item:∀(X:Cx),X.prog=P->X.w=w->X.K=Ξ->CalP cm X->∀(i:Nat)(a4:List (Addr×Obj))(s:Shared)(σ:St)(H:Hp)(E:Value->Shared->Prop),Inv X a4 σ H s->(∀b∈fp,FpOk X a4 H b)->tn i s.heap->J.go i H ->
  wpAny (model P w) X.A (pyNext (.ref it)) (λr s1=>∃u,r=some u /\
   wpAny (model P w) X.A (letOwnedTupleGo tg (.ref it) u) (λ_ s2=>∃x H',Inv X a4 σ H' s2/\RelV x u/\J.yld i H x H'/\tn (i+1) s2.heap/\∀b∈fp,H' b=none) E s1) E s
 done:∀(X:Cx),X.prog=P->X.w=w->X.K=Ξ->CalP cm X->∀(i:Nat)(a4:List (Addr×Obj))(s:Shared)(σ:St)(H:Hp)(E:Value->Shared->Prop),Inv X a4 σ H s->(∀b∈fp,FpOk X a4 H b)->tn i s.heap->J.stop i H ->
  wpAny (model P w) X.A (pyNext (.ref it)) (λr s1=>r=none/\Inv X a4 σ H s1) E s
 self:∀(A:Around)(i:Nat)(s:Shared)(Q:Value->Shared->Prop)(E:Value->Shared->Prop),tn i s.heap->Q (.ref it) s->wpAny (model P w) A (pyIter (.ref it)) Q E s
abbrev Turn:=q3V true
abbrev TI:=St->Hp->(It->Hp->Prop)->Prop
def PIEC(cm:Bool)(X:Cx)(a4:List (Addr×Obj))(σ:St)(tg:Expr)(R:It->Hp->Prop)(lC:Value)(s2:Shared):Prop :=
 ∃(it:Addr)(fp:List Addr)(tn:Nat->Heap->Prop)(J:It)(H':Hp),lC=.ref it/\Inv X a4 σ H' s2/\q3V cm X.prog X.w X.K tg J fp it tn/\tn 0 s2.heap/\(∀b∈fp,FpOk X a4 H' b)/\R J H'
abbrev PIE:=PIEC true
def PIC(cm:Bool)(X:Cx)(tg aH:Expr)(wi:TI):Prop :=
 ∀(a4:List (Addr×Obj))(s:Shared)(σ:St)(H:Hp)(R:It->Hp->Prop),Inv X a4 σ H s->wi σ H R ->
  wpAny (model X.prog X.w) X.A (eval aH X.env) (λv s1=>wpAny (model X.prog X.w) X.A (pyIter v) (PIEC cm X a4 σ tg R) X.xe s1) X.xe s
abbrev PI:=PIC true
theorem q0i(ho:s.heap.get? it=some o)(hc:o.cls=.type n)(hd:o.data=.fields vs)(hn:["enumerate","zip","dict_itemiterator","dict_reverseitemiterator","odict_iterator","itertools.zip_longest","itertools.pairwise"].contains n=false)(hQ:Q () s):wpAny M A (letOwnedTupleGo tg (.ref it) u) Q E s:=by
 cases tg<;>first
  |exact Uh hQ
  | (cases u<;>first
    |exact Uh hQ
    | (refine Ug (wpAny_load ho ?_)
       rw[hc,hd];show wpAny M A (if _=true then _ else _) Q E s;rw[Ui (by intro h;rw[hn,Bool.false_and]at h;cases h)];exact Uh hQ))
noncomputable def Itl(Ξ:PySem.W.Frag)(a:Addr):It :=
 ⟨λi H=>∃xs x,SqL Ξ H a xs/\xs[i]?=some x,λi H x H'=>H'=H/\∀xs,SqL Ξ H a xs->xs[i]?=some x,λi H=>∃xs,SqL Ξ H a xs/\xs.length<=i⟩
noncomputable def Itr(lo:Int)(n:Nat):It:=⟨λi _=>i<n,λi H x H'=>H'=H/\x=.int (lo+i),λi _=>n<=i⟩
theorem Yr(a it:Addr):Turn P w Ξ tg (Itl Ξ a) [it] it (λi h=>h.IsListIter it a i) where
 mem:=by simp
 obj:=λi h st b hb=>by
  have e:=by simpa using hb
  obtain⟨o,e,c,d⟩:=st
  grind
 keep:=λi h h' st k=>st.at λo e=>k it (by simp) o e
 item:=by
  intro X hP hw hK hc i a4 s σ H E I hf st hg;subst hP hw hK;obtain⟨xs,x,hq,hx⟩:=hg;obtain⟨its,rv,p,hz⟩:=I.list hq;obtain⟨u,hu,ru⟩:=rv.get hx;obtain⟨f0,f1,f2,f3,f4,f5⟩:=hf it (by simp);refine wpAny_pyNext_list_item st p.isList (by simpa using hu) λh' cS sb=>?_;have I1:=I.turned (t':=s.toks) (λb o hb e=>(sb.2 b hb).trans e) f0 f1 f3 f4 f5;obtain⟨o,e,c,d⟩:=id cS;exact⟨u,rfl,q0i e c d rfl ⟨x,H,I1,ru,⟨rfl,λys hy=>by rw[I.list_inj hy hq];exact hx⟩,cS,λb hb=>(hf b hb).1⟩⟩
 done:=by
  intro X hP hw hK hc i a4 s σ H E I hf st hg;subst hP hw hK;obtain⟨xs,hq,hx⟩:=hg;obtain⟨its,rv,p,hz⟩:=I.list hq;obtain⟨f0,f1,f2,f3,f4,f5⟩:=hf it (by simp);have hl:=rv.length;exact wpAny_pyNext_list_end (I.ok.hd hc) st p.isList (by simp;lia) λh' eb=>⟨rfl,I.turned (t':=s.toks) (λb o hb e=>eb b o hb e) f0 f1 f3 f4 f5⟩
 self:=λ_ _ _ _ _ st h=>wpAny_pyIter_listiter st h
theorem Vv:entryFor table "proto.unchain" = some Builtin.«proto.unchain»:=entryFor_of_fast (by kernel_rfl)
theorem Kz{x left step:Int}(hh:A.handled=some (.ref a))(ho:s.heap.get? a=some oe)(hd:oe.data=.fields vs)(h2:vs[2]?=some .none)(dP:IsRangeIter s.heap it x left step)(gN:left<=0)(hQ:∀h',Heap.ExtBut it s.heap h'->Q none { s with heap:=h' }):wpAny (model prog w) A (pyNext (.ref it)) Q E s:=by
 have hT:s.TypeIs (.ref it) "range_iterator" := ⟨_,dP,rfl⟩;unfold pyNext;refine Ug (wpAny_attempt (wpAny_callSpecial?_slot (name:=Str.ofString "__next__") hT F.slot_range_iterator_next
  (UV F.slot_range_iterator_next hT F.entry_range_iterator_next ?_ (F.args_range_iterator_next_1 _))))
 show wpAny _ _ (field (.ref it) 0 >>= _) _ _ s;refine Ug (UH dP rfl (x:=rawInt x) rfl ?_);refine Ug (UH dP rfl (x:=rawInt left) rfl ?_);refine Ug (UH dP rfl (x:=rawInt step) rfl ?_);show wpAny _ _ (if left<=0 then _ else _) _ _ s;rw[Ul gN];refine Ug (Da ?_);refine Ug ?_;refine Ug ?_;simp only[newExc,newTuple];refine Ug (m:=firstArgMember _ _) (wpAny_of_eq (a:=Value.none) rfl ?_);refine UJ ?_ (by size_fits);simp only[raiseNew];refine Ug (wpAny_handled ?_)
 first|rw[show A.in1.handled=some (.ref a)from hh]|rw[hh]
 have lt:=Heap.lt_size ho;have eQ:((Value.ref a) != Value.ref (s.heap.push { cls:=Value.type "tuple", data:=Data.seq #[] }).objs.size)=true:=bne_iff_ne.mpr λz=>by
  have:=Value.ref.inj z;rw[Heap.size_push]at this;exact Dz (Nat.lt_succ_of_lt lt) this
 show wpAny _ _ (if _=true then _ else _) _ _ _;rw[Ul eQ];refine Ug (Up (runValue_entry Vv ?_));refine Ug (UH (Heap.get?_push_of_some _ (Heap.get?_push_of_some _ ho)) hd h2 ?_);refine Uh ⟨_,rfl,?_⟩;refine Ug (wpAny_setField (Heap.get?_push_size _ rfl) rfl (by show 2<6;decide) (wpAny_throw ?_));refine Ug (wpAny_isInstance (T := "StopIteration") (b:=true) ⟨_,Heap.get?_update_self _ (Heap.get?_push_size _ rfl) rfl,rfl⟩ isSubtype_stop ?_);exact Uh (hQ _ λb o hb q=>Heap.get?_update_of_ne _ (λz=>by have:=Heap.lt_size q;rw[<-z,Heap.size_push]at this;exact absurd this (R9.mpr (Bh _))) (((Heap.ExtBut.refl it s.heap).push _).push _ b o hb q))
theorem Ks(it:Addr)(lo:Int)(n:Nat):q3V cm P w Ξ tg (Itr lo n) [it] it (λi h=>IsRangeIter h it (lo+(i:Nat)*1) ((n:Int)-(i:Nat)) 1) where
 mem:=by simp
 obj:=λi h st b hb=>by
  have e:b=it:=by simpa using hb
  subst e;exact⟨_,st,λv z=>by
   have z':Data.fields _=Data.cell v:=z;cases z'⟩
 keep:=λi h h' st k=>k it (by simp) _ st
 item:=by
  intro X hP hw hK hc i a4 s σ H E I hf st hg;obtain⟨f0,f1,f2,f3,f4,f5⟩:=hf it (by simp);refine wpAny_pyNext_range_item st (by have:i<n:=hg;lia) λh' cS kk=>?_;have I1:Inv X a4 σ H { s with heap:=h',toks:=s.toks+1 }:=I.turned (λb o hb e=>kk.extBut b o hb e) f0 f1 f3 f4 f5;have eR:IsRangeIter h' it (lo+((i+1:Nat))*1) (n-((i+1:Nat))) 1:=by
   lia
  refine⟨_,rfl,q0i cS rfl rfl rfl ⟨.int _,H,I1,⟨s.toks,?_⟩,⟨rfl,rfl⟩,eR,λb hb=>(hf b hb).1⟩⟩;rw[Int.mul_one]
 done:=by
  intro X hP hw hK hc i a4 s σ H E I hf st hg;obtain⟨f0,f1,f2,f3,f4,f5⟩:=hf it (by simp);have hl:(n:Int)-i<=0:=by have:n<=i:=hg;lia
  cases cm with
  |true=>exact wpAny_pyNext_range_end (I.ok.hd hc) st hl λh' eb=>⟨rfl,I.turned (t':=s.toks) (λb o hb e=>eb b o hb e) f0 f1 f3 f4 f5⟩
  |false=>
   obtain⟨a,oe,vs,h1,h2,h3,h4⟩:=hc;exact Kz h1 (I.bk a oe h2) h3 h4 st hl λh' eb=>⟨rfl,I.turned (t':=s.toks) (λb o hb e=>eb b o hb e) f0 f1 f3 f4 f5⟩
 self:=λ_ _ _ _ _ st h=>wpAny_pyIter_rangeiter st h
def GG(Ξ:PySem.W.Frag)(tl:TE):TI:=λσ H R=>tl σ H λx H1=>∃a,x=.ref a/\(∃xs,SqL Ξ H1 a xs)/\R (Itl Ξ a) H1
theorem q44(hl:PE X l tl):PI X tg l (GG X.K tl):=by
 intro a4 s σ H R I h;refine thn (hl a4 s σ H _ I h) λv s1 zz=>?_;obtain⟨x,H1,I1,r1,q1⟩:=zz;obtain⟨a,e,⟨xs,hq⟩,q⟩:=q1;subst e;cases r1;obtain⟨its,rv,p,hz⟩:=I1.list hq;refine wpAny_pyIter_list p.isList ?_;refine⟨s1.heap.objs.size, [s1.heap.objs.size],_,_,H1,rfl,I1.kept (t':=s1.toks) λb o e=>Heap.get?_push_of_some _ e,Yr a _,⟨_,Heap.get?_push_size _ rfl,rfl,rfl⟩,λb hb=>?_,q⟩;have e:=by simpa using hb
 subst e;exact I1.fpOk (Dk _) (I1.hok.fresh (Dk _))
theorem q1Z{lo hi:Int}(I:Inv X a4 σ H s)(h1 : -(2^62)<=lo)(h2:lo<2^62)(h3 : -(2^62)<=hi)(h4:hi<2^62)(q:R (Itr lo (hi-lo).toNat) H):wpAny (model X.prog X.w) X.A (pyIter (.ref s.heap.objs.size)) (PIEC cm X a4 σ tg R) E { s with heap:=s.heap.push { cls:=.type "range", data:=.fields #[.int lo t,.int hi u,.int 1 v] },toks:=tk }:=by
 refine wpAny_pyIter_range (IsRange.new ..) (small_one h1 h2 h3 h4) ?_;have I1:Inv X a4 σ H { s with heap:=s.heap.push { cls:=.type "range", data:=.fields #[.int lo t,.int hi u,.int 1 v] },toks:=tk }:=I.kept λb o e=>Heap.get?_push_of_some _ e;refine⟨(s.heap.push { cls:=.type "range", data:=.fields #[.int lo t,.int hi u,.int 1 v] }).objs.size, [(s.heap.push { cls:=.type "range", data:=.fields #[.int lo t,.int hi u,.int 1 v] }).objs.size],_,_,H,rfl,
  I1.kept (t':=tk) λb o e=>Heap.get?_push_of_some _ e,Ks _ lo (hi-lo).toNat,?_,λb hb=>?_,q⟩
 ·have e1:lo+((0:Nat))*1=lo:=by simp
  have e2:(((hi-lo).toNat:Nat))-((0:Nat))=Builtin.Range.rangeSize lo hi 1:=by rw[rangeSize_one];lia
  rw[e1,e2];exact Heap.get?_push_size _ rfl
 ·have e:b=(s.heap.push { cls:=.type "range", data:=.fields #[.int lo t,.int hi u,.int 1 v] }).objs.size:=by simpa using hb
  subst e;exact I1.fpOk (Dk _) (I1.hok.fresh (Dk _))
def q6t(ta:TA):TI:=λσ H R=>ta σ H λvs H1=>∃j:Int,vs=[.int j] /\ -(2^62)<=j/\j<2^62/\R (Itr 0 j.toNat) H1
def tFor(wi:TI)(g:TG)(tb:TS):TS:=λD σ H=>wi σ H λJ H1=>∃W:Nat->Nat->St->Hp->Prop,(∃m,W 0 m σ H1)/\∀i m σ H,W i m σ H ->
 (J.stop i H/\D.nx σ H)\/(J.go i H/\∃N:St->Hp->Prop,(∀ah H',N ah H'->∃m',m'<m/\W (i+1) m' ah H')/\∀x H',J.yld i H x H'->g x σ H' λcD H2=>tb { D with nx:=N,ct:=N,bk:=D.nx } cD H2)
noncomputable def JL(fp:List Addr)(h:Heap):List (Addr×Obj):=fp.filterMap λb=>(h.get? b).map λo=>(b,o)
theorem xo(hb:b∈fp)(e:h.get? b=some o):(b,o)∈JL fp h:=DX.mpr ⟨b,hb,by rw[e];rfl⟩
theorem WX(hp:p∈JL fp h):p.1∈fp/\h.get? p.1=some p.2:=by
 obtain⟨b,hb,e⟩:=DX.mp hp;cases q:h.get? b with
 |none=>rw[q]at e;cases e
 |some o=>
  rw[q]at e;have e':(b,o)=p:=Option.some.inj e;subst e';exact⟨hb,q⟩
theorem Inv.pinned(I:Inv X a4 σ H s)(hf:∀b∈fp,FpOk X a4 H b)(ho:∀b∈fp,∃o,s.heap.get? b=some o/\∀v,o.data ≠ .cell v):Inv X (a4++JL fp s.heap) σ H s :=
 I.pins_of λp hp=>(Dr.mp hp).elim (λz=>I.pin p (Ds _ z)) λz=>by
  obtain⟨hb,e⟩:=WX z;obtain⟨f0,f1,f2,_⟩:=hf p.1 hb;obtain⟨o,e',d⟩:=ho p.1 hb;rw[e]at e';cases e';exact⟨e,f0,f1,f2,d⟩
theorem Inv.unpinned(I:Inv X (a4++pl) σ H s):Inv X a4 σ H s:=I.pins_of λp hp=>I.pin p (Ds _ (Dw _ hp))
theorem q0v{g:TG}{tb:TS}{D:Ends}(Pv:Nat->St->Hp->Prop)(h0:Pv 0 σ H)(hl:∀i σ H,i<=xs.length->Pv i σ H->SqL Ξ H a xs)(hs:∀i x σ H,xs[i]?=some x->Pv i σ H->g x σ H λcD H2=>tb { D with nx:=Pv (i+1),ct:=Pv (i+1),bk:=D.nx } cD H2)(hd:∀σ H,Pv xs.length σ H->D.nx σ H):
  ∃W:Nat->Nat->St->Hp->Prop,(∃m,W 0 m σ H)/\∀i m σ H,W i m σ H ->
   ((Itl Ξ a).stop i H/\D.nx σ H)\/((Itl Ξ a).go i H/\∃N:St->Hp->Prop,(∀ah H',N ah H'->∃m',m'<m/\W (i+1) m' ah H')/\∀x H',(Itl Ξ a).yld i H x H'->g x σ H' λcD H2=>tb { D with nx:=N,ct:=N,bk:=D.nx } cD H2):=by
 refine⟨λi m σ H=>m=xs.length-i/\i<=xs.length/\Pv i σ H,⟨xs.length,by simp,DG _,h0⟩,?_⟩;rintro i m σ H ⟨rfl,hi,p⟩;have q:=hl i σ H hi p;by_cases bw:i<xs.length
 ·refine .inr ⟨⟨xs,xs[i],q,by simp⟩,Pv _,λah H' p'=>⟨xs.length-_,by lia,rfl,bw,p'⟩,λx H' y=>?_⟩
  obtain⟨e,y⟩:=y;subst e;exact hs i x σ _ (y xs q) p
 ·have e:i=xs.length:=by lia
  subst e;exact .inl ⟨⟨xs,q,Dk _⟩,hd σ H p⟩
abbrev R2:=V->V->Hp->VK->Prop
def OpR(X:Cx)(f:Value->Value->Sem Value)(r:R2):Prop :=
 ∀(a4:List (Addr×Obj))(s:Shared)(σ:St)(H:Hp)(x y:V)(v u:Value)(Q:VK),Inv X a4 σ H s->RelV x v->RelV y u->r x y H Q ->
  wpAny (model X.prog X.w) X.A (f v u) (EP X a4 σ Q) X.xe s
def UnR(X:Cx)(f:Value->Sem Value)(r:V->Hp->VK->Prop):Prop :=
 ∀(a4:List (Addr×Obj))(s:Shared)(σ:St)(H:Hp)(x:V)(v:Value)(Q:VK),Inv X a4 σ H s->RelV x v->r x H Q ->
  wpAny (model X.prog X.w) X.A (f v) (EP X a4 σ Q) X.xe s
def xk(X:Cx)(f:Value)(r:List V->Hp->VK->Prop):Prop :=
 ∀(a4:List (Addr×Obj))(s:Shared)(σ:St)(H:Hp)(xs:List V)(us:List Value)(Q:VK),Inv X a4 σ H s->Vals xs us->r xs H Q ->
  wpAny (model X.prog X.w) X.A (call f us) (EP X a4 σ Q) X.xe s
def TruR(X:Cx)(r:V->Hp->(Bool->Hp->Prop)->Prop):Prop :=
 ∀(a4:List (Addr×Obj))(s:Shared)(σ:St)(H:Hp)(x:V)(v:Value)(Q:Bool->Hp->Prop),Inv X a4 σ H s->RelV x v->r x H Q ->
  wpAny (model X.prog X.w) X.A (truthy v) (TP X a4 σ Q) X.xe s
def tOp(r:R2)(ta tb:TE):TE:=λσ H Q=>ta σ H λx H1=>tb σ H1 λy H2=>r x y H2 Q
def tUn(r:V->Hp->VK->Prop)(ta:TE):TE:=λσ H Q=>ta σ H λx H1=>r x H1 Q
def rI(C:Int->Int->Prop)(g:Int->Int->V):R2:=λx y H Q=>∃i j,x=.int i/\y=.int j/\C i j/\Q (g i j) H
def rI0(g:Int->Int->V):R2:=λx y H Q=>∃i j,x=.int i/\y=.int j/\Q (g i j) H
def rU(g:Int->V):V->Hp->VK->Prop:=λx H Q=>∃i,x=.int i/\Q (g i) H
theorem binT(ha:PE X a ta)(hb:PE X b tb){R:V->V->Hp->Prop}(I:Inv X a4 σ H s)(h:ta σ H λx H1=>tb σ H1 λy H2=>R x y H2){f:Value->Value->Sem Value}(hf:∀v u s2 x y H2,Inv X a4 σ H2 s2->RelV x v->RelV y u->R x y H2->wpAny (model X.prog X.w) X.A (f v u) Q X.xe s2):
  wpAny (model X.prog X.w) X.A (eval a X.env) (λv af=>wpAny (model X.prog X.w) X.A (eval b X.env) (λu bg=>wpAny (model X.prog X.w) X.A (f v u) Q X.xe bg) X.xe af) X.xe s:=by
 refine thn (ha a4 s σ H _ I h) λv s1 zz=>?_;obtain⟨x,H1,I1,r1,q1⟩:=zz;refine thn (hb a4 s1 σ H1 _ I1 q1) λu s2 zz=>?_;obtain⟨y,H2,I2,r2,q2⟩:=zz;exact hf v u s2 x y H2 I2 r1 r2 q2
theorem opI{g:Int->Int->Int}(rule:∀(i j:Int)(t u:Tok)(s:Shared)(Q:Value->Shared->Prop)(E:Value->Shared->Prop),C i j->Q (.int (g i j) s.toks) { s with toks:=s.toks+1 }->wpAny (model X.prog X.w) X.A (f (.int i t) (.int j u)) Q E s):
  OpR X f (rI C λi j=>.int (g i j)):=by
 intro a4 s σ H x y v u Q I rx ry h;obtain⟨i,j,rfl,rfl,hc,q⟩:=h;obtain⟨t,rfl⟩:=rx;obtain⟨t',rfl⟩:=ry;exact rule i j t t' s _ _ hc ⟨.int _,H,I.tok _,⟨_,rfl⟩,q⟩
theorem opI0{g:Int->Int->Int}(rule:∀(i j:Int)(t u:Tok)(s:Shared)(Q:Value->Shared->Prop)(E:Value->Shared->Prop),Q (.int (g i j) s.toks) { s with toks:=s.toks+1 }->wpAny (model X.prog X.w) X.A (f (.int i t) (.int j u)) Q E s):
  OpR X f (rI0 λi j=>.int (g i j)):=by
 intro a4 s σ H x y v u Q I rx ry h;obtain⟨i,j,rfl,rfl,q⟩:=h;obtain⟨t,rfl⟩:=rx;obtain⟨t',rfl⟩:=ry;exact rule i j t t' s _ _ ⟨.int _,H,I.tok _,⟨_,rfl⟩,q⟩
theorem opB0{g:Int->Int->Bool}(rule:∀(i j:Int)(t u:Tok)(s:Shared)(Q:Value->Shared->Prop)(E:Value->Shared->Prop),Q (.bool (g i j)) s->wpAny (model X.prog X.w) X.A (f (.int i t) (.int j u)) Q E s):
  OpR X f (rI0 λi j=>.bl (g i j)):=by
 intro a4 s σ H x y v u Q I rx ry h;obtain⟨i,j,rfl,rfl,q⟩:=h;obtain⟨t,rfl⟩:=rx;obtain⟨t',rfl⟩:=ry;exact rule i j t t' s _ _ ⟨.bl _,H,I,rfl,q⟩
def CPow(i j:Int):Prop:=0<=j/\j<=1000000/\i.natAbs<2^64
def CMul(i j:Int):Prop:=(-(2^64)<i/\i<2^64)\/(-(2^64)<j/\j<2^64)
theorem CMul.ok(h:CMul i j):IntMulOk i j:=by
 rcases h with⟨h1,h2⟩|⟨h1,h2⟩
 ·exact .of_left (intBits_le_64 h1 h2)
 ·exact .of_right (intBits_le_64 h1 h2)
theorem Kr(k:Nat):(0:Int)<=2^k:=by
 rw[two_pow_cast];exact R1 _
theorem qH:OpR X (binaryOp .Add) (rI0 λi j=>.int (i+j)):=opI0 λ_ _ _ _ _ _ _ q=>add_int q
theorem vH:OpR X (binaryOp .Sub) (rI0 λi j=>.int (i-j)):=opI0 λ_ _ _ _ _ _ _ q=>sub_int q
theorem jJ:OpR X (binaryOp .Mult) (rI CMul λi j=>.int (i*j)):=opI λ_ _ _ _ _ _ _ hc q=>mul_int q hc.ok
theorem vV:OpR X (binaryOp .Mod) (rI (λ_ j=>0<j) λi j=>.int (i % j)):=opI λi j _ _ _ _ _ hc q=>by
 exact mod_int' (by lia) (by rw[Int.fmod_eq_emod_of_nonneg i (by lia)];exact q)
theorem WB:OpR X (binaryOp .Pow) (rI CPow λi j=>.int (i^j.toNat)):=opI λ_ _ _ _ _ _ _ hc q=>pow_int_small hc.1 hc.2.1 hc.2.2 q
theorem vO:OpR X (binaryOp .LShift) (rI CPow λi j=>.int (i*2^j.toNat)):=opI λ_ _ _ _ _ _ _ hc q=>lshift_int_small hc.1 hc.2.1 hc.2.2 q
theorem Wz:OpR X (binaryOp .RShift) (rI (λ_ j=>0<=j) λi j=>.int (i / 2^j.toNat)):=opI λi j _ _ _ _ _ hc q=>
 rshift_int hc (by rw[RZ i (Kr _)];exact q)
theorem q6u:OpR X (binaryOp .BitXor) (rI0 λi j=>.int (Builtin.bitXor i j)):=opI0 λ_ _ _ _ _ _ _ q=>xor_int q
theorem unI{g:Int->Int}(rule:∀(i:Int)(t:Tok)(s:Shared)(Q:Value->Shared->Prop)(E:Value->Shared->Prop),Q (.int (g i) s.toks) { s with toks:=s.toks+1 }->wpAny (model X.prog X.w) X.A (f (.int i t)) Q E s):
  UnR X f (rU λi=>.int (g i)):=by
 intro a4 s σ H x v Q I rx h;obtain⟨i,rfl,q⟩:=h;obtain⟨t,rfl⟩:=rx;exact rule i t s _ _ ⟨.int _,H,I.tok _,⟨_,rfl⟩,q⟩
theorem q2S:UnR X (unaryOp .USub) (rU λi=>.int (-i)):=unI λ_ _ _ _ _ q=>neg_int q
noncomputable def scal:V->V->Bool
 |.non,.non=>true | .non,.int _=>true | .int _,.non=>true | .non,.bl _=>true | .bl _,.non=>true | .non,.str _=>true | .str _,.non=>true
 |.int _,.int _=>true | .bl _,.bl _=>true | .str _,.str _=>true | .byt _,.byt _=>true
 |.int _,.str _=>true | .str _,.int _=>true | .bl _,.str _=>true | .str _,.bl _=>true
 |_,_=>false
def rEq:R2:=λx y H Q=>scal x y=true/\Q (.bl (decide (x=y))) H
def rNe:R2:=λx y H Q=>scal x y=true/\Q (.bl (!decide (x=y))) H
theorem G3:decide (V.int i=V.int j)=(i==j):=by
 rw[Rg];simp
theorem q2w:decide (V.bl i=V.bl j)=(i==j):=by
 rw[Rg];simp
theorem G2:decide (V.str i=V.str j)=(i==j):=by
 rw[Rg];simp
theorem G4:decide (V.byt i=V.byt j)=(i.toList==j.toList):=by
 rw[Rg];simp_all
theorem qS(I:Inv X a4 σ H s)(q:Q (.bl k) H)(e:k=k'):EP X a4 σ Q (.bool k') s:=by
 subst e;exact⟨.bl k,H,I,rfl,q⟩
theorem op_eq:OpR X (compareOp .Eq) rEq:=by
 intro a4 s σ H x y v u Q I rx ry h;obtain⟨hs,q⟩:=h;cases x with
 |non=>
  cases rx;cases y with
  |non=>cases ry;exact PySem.EqNone.eq_none_none (qS I q (by simp))
  |bl j=>cases ry;exact PySem.EqNone.eq_none_bool (qS I q (by simp))
  |int j=>obtain⟨t',rfl⟩:=ry;exact PySem.EqNone.eq_none_int (qS I q (by simp))
  |str j=>obtain⟨t',rfl⟩:=ry;exact PySem.EqNone.eq_none_str (qS I q (by simp))
  |_=>exact absurd (show false=true from hs) Dt
 |bl i=>
  cases rx;cases y with
  |non=>cases ry;exact PySem.EqNone.eq_bool_none (qS I q (by simp))
  |bl j=>cases ry;exact eq_bool (qS I q q2w)
  |str j=>obtain⟨t',rfl⟩:=ry;exact PySem.EqMixed.eq_bool_str (qS I q (by simp))
  |_=>exact absurd (show false=true from hs) Dt
 |int i=>
  obtain⟨t,rfl⟩:=rx;cases y with
  |non=>cases ry;exact PySem.EqNone.eq_int_none (qS I q (by simp))
  |int j=>obtain⟨t',rfl⟩:=ry;exact eq_int (qS I q G3)
  |str j=>obtain⟨t',rfl⟩:=ry;exact PySem.EqMixed.eq_int_str (qS I q (by simp))
  |_=>exact absurd (show false=true from hs) Dt
 |str i=>
  obtain⟨t,rfl⟩:=rx;cases y with
  |non=>cases ry;exact PySem.EqNone.eq_str_none (qS I q (by simp))
  |bl j=>cases ry;exact PySem.EqMixed.eq_str_bool (qS I q (by simp))
  |int j=>obtain⟨t',rfl⟩:=ry;exact PySem.EqMixed.eq_str_int (qS I q (by simp))
  |str j=>obtain⟨t',rfl⟩:=ry;exact eq_str (qS I q G2)
  |_=>exact absurd (show false=true from hs) Dt
 |byt i=>
  obtain⟨t,rfl⟩:=rx;cases y with
  |byt j=>obtain⟨t',rfl⟩:=ry;exact W.eq_bytes (qS I q G4)
  |_=>exact absurd (show false=true from hs) Dt
 |_=>cases y<;>exact absurd (show false=true from hs) Dt
theorem q3y:OpR X (compareOp .NotEq) rNe:=by
 intro a4 s σ H x y v u Q I rx ry h;obtain⟨hs,q⟩:=h;cases x with
 |non=>
  cases rx;cases y with
  |non=>cases ry;exact PySem.EqNone.ne_none_none (qS I q (by simp))
  |bl j=>cases ry;exact PySem.EqNone.ne_none_bool (qS I q (by simp))
  |int j=>obtain⟨t',rfl⟩:=ry;exact PySem.EqNone.ne_none_int (qS I q (by simp))
  |str j=>obtain⟨t',rfl⟩:=ry;exact PySem.EqNone.ne_none_str (qS I q (by simp))
  |_=>exact absurd (show false=true from hs) Dt
 |bl i=>
  cases rx;cases y with
  |non=>cases ry;exact PySem.EqNone.ne_bool_none (qS I q (by simp))
  |bl j=>cases ry;exact ne_bool (qS I q (Um not q2w))
  |str j=>obtain⟨t',rfl⟩:=ry;exact PySem.EqMixed.ne_bool_str (qS I q (by simp))
  |_=>exact absurd (show false=true from hs) Dt
 |int i=>
  obtain⟨t,rfl⟩:=rx;cases y with
  |non=>cases ry;exact PySem.EqNone.ne_int_none (qS I q (by simp))
  |int j=>obtain⟨t',rfl⟩:=ry;exact ne_int (qS I q (Um not G3))
  |str j=>obtain⟨t',rfl⟩:=ry;exact PySem.EqMixed.ne_int_str (qS I q (by simp))
  |_=>exact absurd (show false=true from hs) Dt
 |str i=>
  obtain⟨t,rfl⟩:=rx;cases y with
  |non=>cases ry;exact PySem.EqNone.ne_str_none (qS I q (by simp))
  |bl j=>cases ry;exact PySem.EqMixed.ne_str_bool (qS I q (by simp))
  |int j=>obtain⟨t',rfl⟩:=ry;exact PySem.EqMixed.ne_str_int (qS I q (by simp))
  |str j=>obtain⟨t',rfl⟩:=ry;exact ne_str (qS I q (Um not G2))
  |_=>exact absurd (show false=true from hs) Dt
 |byt i=>
  obtain⟨t,rfl⟩:=rx;cases y with
  |byt j=>obtain⟨t',rfl⟩:=ry;exact W.ne_bytes (qS I q (Um not G4))
  |_=>exact absurd (show false=true from hs) Dt
 |_=>cases y<;>exact absurd (show false=true from hs) Dt
theorem xw:OpR X (compareOp .Lt) (rI0 λi j=>.bl (decide (i<j))):=opB0 λ_ _ _ _ _ _ _ q=>lt_int q
theorem q4K:OpR X (compareOp .LtE) (rI0 λi j=>.bl (decide (i<=j))):=opB0 λ_ _ _ _ _ _ _ q=>le_int q
theorem WD:OpR X (compareOp .Gt) (rI0 λi j=>.bl (decide (j<i))):=opB0 λ_ _ _ _ _ _ _ q=>gt_int q
theorem q0C:OpR X (compareOp .GtE) (rI0 λi j=>.bl (decide (j<=i))):=opB0 λ_ _ _ _ _ _ _ q=>ge_int q
theorem JM:OpR X (compareOp .Is) (λx y H Q=>y=.non/\Q (.bl (decide (x=.non))) H):=by
 intro a4 s σ H x y v u Q I rx ry h;obtain⟨rfl,q⟩:=h;cases ry;refine is_none_gen (qS I q ?_);cases x<;>first
  | (rfl)
  | (obtain⟨t,rfl⟩:=rx;rfl)
theorem q4w:OpR X (compareOp .IsNot) (λx y H Q=>y=.non/\Q (.bl (!decide (x=.non))) H):=by
 intro a4 s σ H x y v u Q I rx ry h;obtain⟨rfl,q⟩:=h;cases ry;refine isnot_none_gen (qS I q ?_);cases x<;>first
  | (rfl)
  | (obtain⟨t,rfl⟩:=rx;rfl)
theorem OpR.or(h:OpR X f r)(h':OpR X f r'):OpR X f (λx y H Q=>r x y H Q\/r' x y H Q):=by
 intro a4 s σ H x y v u Q I rx ry q;rcases q with q|q
 ·exact h a4 s σ H x y v u Q I rx ry q
 ·exact h' a4 s σ H x y v u Q I rx ry q
theorem qo(b:Expr)(h:op ≠ .In:=by decide)(h2:op ≠ .NotIn:=by decide):behindInMarks op b=false:=by
 have e1:(op==CmpOp.In)=false:=by  lia
 have e2:(op==CmpOp.NotIn)=false:=by  lia
 cases b<;>simp[behindInMarks,e1,e2]
def Q4(t:TE):TT:=λσ H Q=>t σ H λx H'=>∃k,x=.bl k/\Q k H'
def jB(r r':R2)(ta tb tc:TE):TE:=λσ H Q=>ta σ H λx H1=>tb σ H1 λy H2=>r x y H2 λz H3=>∃k,z=.bl k /\
 (if k=true then tc σ H3 λw' H4=>r' y w' H4 Q else Q (.bl false) H3)
def TruV(Ξ:PySem.W.Frag)(x:V)(H:Hp)(k:Bool):Prop :=
 match x with
 |.non=>k=false
 |.bl b=>k=b
 |.int i=>k=(i != 0)
 |.str y=>y.length<=sizeLine/\k=((y.length:Int) != 0)
 |.byt y=>y.size<=sizeLine/\k=((y.size:Int) != 0)
 |.ref p=>(∃xs,SqL Ξ H p xs/\k = !xs.isEmpty)\/(∃xs,SqT Ξ H p xs/\k = !xs.isEmpty)\/∃kvs,H p=some (.dK kvs)/\k = !kvs.isEmpty
 |_=>False
theorem K2{κ:Type}{kvs:List (κ×V)}{vs:List (κ×Value)}(r:KV kvs vs):(!vs.isEmpty) = !kvs.isEmpty:=by
 cases r<;>rfl
theorem QK(r:Vals xs its):(!its.toArray.isEmpty) = !xs.isEmpty:=by
 cases r<;>simp
theorem Zo:(sizeLine:Nat)<2^63:=by decide
theorem q6G:TruR X (λx H Q=>∃k,TruV X.K x H k/\Q k H):=by
 intro a4 s σ H x v Q I rx h;obtain⟨k,e,q⟩:=h;have hl:=Zo;have hs:sizeLine=16777216:=Uk;cases x with
 |non=>
  cases rx;have e':k=false:=e;subst e';exact truthy_none ⟨H,I,q⟩
 |bl b=>
  cases rx;have e':k=b:=e;subst e';exact UB ⟨H,I,q⟩
 |int i=>
  obtain⟨t,rfl⟩:=rx;have e':k=(i != 0):=e;subst e';exact PySem.P.truthy_int ⟨H,I,q⟩
 |str y=>
  obtain⟨t,rfl⟩:=rx;obtain⟨hy,e'⟩:y.length<=sizeLine/\k=((y.length:Int) != 0):=e;subst e';exact PySem.P.truthy_str (by lia) ⟨H,I.tok _,q⟩
 |byt y=>
  obtain⟨t,rfl⟩:=rx;obtain⟨hy,e'⟩:y.size<=sizeLine/\k=((y.size:Int) != 0):=e;subst e';exact W.truthy_bytes (by lia) ⟨H,I.tok _,q⟩
 |ref p=>
  cases rx;have e':(∃xs,SqL X.K H p xs/\k = !xs.isEmpty)\/(∃xs,SqT X.K H p xs/\k = !xs.isEmpty)\/∃kvs,H p=some (.dK kvs)/\k = !kvs.isEmpty:=e;rcases e' with⟨xs,hx,e'⟩|⟨xs,hx,e'⟩|⟨kvs,hx,e'⟩
  ·subst e'
   obtain⟨its,r,pl,hz⟩:=I.list hx;have au:=r.length;exact wpAny_truthy_list pl.isList (by simp only[Du];lia) ⟨H,I.tok _,by rw[QK r];exact q⟩
  ·subst e'
   obtain⟨its,r,pl,hz⟩:=I.tuple hx;have au:=r.length;exact truthy_tuple pl (by simp only[Du];lia) ⟨H,I.tok _,by rw[QK r];exact q⟩
  ·subst e'
   obtain⟨hz,hS,vs,r,m⟩:kvs.length<=sizeLine/\(p==sysModules)=false/\∃vs,KV kvs vs/\s.heap.DictOf (ve X.prog X.w) p vs:=I.hok p _ hx;have au:kvs.length=vs.length:=Paired.length r;exact wpAny_truthy_dict hS m (by lia) ⟨H,I.tok _,by rw[K2 r];exact q⟩
 |_=>exact(show False from e).elim
theorem q0g(ha:PE X a ta)(he:∀bx,isTrue a X.env bx=(do let v <-bx;standAt a.pos;holding [v] (truthy v))):
  PT X a (λσ H Q=>ta σ H λx H'=>∃k,TruV X.K x H' k/\Q k H'):=by
 intro a4 s σ H Q I h;exact isTrue_plain (thn (ha a4 s σ H _ I h) λv s1 ⟨x,H1,I1,r1,q1⟩=>q6G a4 s1 σ H1 x v Q I1 r1 q1) (he _)
theorem VL(r:Vals [x] us):∃u,us=[u]/\RelV x u:=by
 cases r with
 |cons r1 r2=>cases r2;exact⟨_,rfl,r1⟩
theorem vals2(r:Vals [x,y] us):∃u w',us=[u,w']/\RelV x u/\RelV y w':=by
 cases r with
 |cons r1 r2=>
  cases r2 with
  |cons r3 r4=>cases r4;exact⟨_,_,rfl,r1,r3⟩
theorem j3:xk X (.builtin "abs") (λxs H Q=>∃i,xs=[.int i]/\Q (.int (if i<0 then -i else i)) H):=by
 intro a4 s σ H xs us Q I r h;obtain⟨i,rfl,q⟩:=h;obtain⟨u,rfl,t,rfl⟩:=VL r;exact call_abs_int λu tk=>⟨.int _,H,I.tok _,⟨_,rfl⟩,q⟩
theorem qax(hc:X.calm=true):xk X (.builtin "min") (λxs H Q=>∃i j,xs=[.int i,.int j]/\Q (.int (if j<i then j else i)) H):=by
 intro a4 s σ H xs us Q I r h;obtain⟨i,j,rfl,q⟩:=h;obtain⟨u,w',rfl,⟨t,rfl⟩,⟨t',rfl⟩⟩:=vals2 r;refine min_two_ints (I.ok.hd hc) λh' tk k=>⟨_,H,I.kept k,?_,q⟩;by_cases hj:j<i
 ·rw[Ul hj,Ul hj];exact⟨_,rfl⟩
 ·rw[Ui hj,Ui hj];exact⟨_,rfl⟩
theorem kX:xk X (.type "int") (λxs H Q=>(∃i,xs=[.int i]/\Q (.int i) H)\/∃k,xs=[.bl k]/\Q (.int (if k then 1 else 0)) H):=by
 intro a4 s σ H xs us Q I r h;rcases h with⟨i,rfl,q⟩|⟨k,rfl,q⟩
 ·obtain⟨u,rfl,t,rfl⟩:=VL r
  exact call_int_int ⟨.int i,H,I,⟨_,rfl⟩,q⟩
 ·obtain⟨u,rfl,r1⟩:=VL r
  cases r1;exact call_int_bool ⟨.int _,H,I.tok _,⟨_,rfl⟩,q⟩
structure ObjM(h:Heap)(x dx C:Addr)(mA:Str->Option Value):Prop where
 obj:h.get? x=some (W.instObj C dx)
 ns:h.Ns1 dx mA
 ne:dx≠x
set_option tactic.hygienic true in
theorem Zn{h:Heap}(n:h.Ns1 dx mA):∃od,h.get? dx=some od/\∀name,W.lookIn name od=some (mA name):=by
 obtain⟨o,es,ep,ho,hd,hk,_,hm⟩:=n;refine⟨o,ho,λname=>?_⟩;have e:=hm name;unfold nsFind findBy at e;rw[<-Array.find?_toList]at e;unfold W.lookIn;rw[hd];dsimp only;split
 ·rename_i y q
  rw[q]at e;exact Um some e
 ·have a:es.toList.any (·.refKey)=false:=by
   rw[List.any_eq_false];intro y hy;obtain⟨z,t,fF⟩:=hk y (Array.mem_toList_iff.mp hy);simp[DictEntry.refKey,fF]
  grind
theorem ObjM.look(I:ObjM h x dx C mA):∃od,PySem.W.InstAt h x (W.instObj C dx) C (some od)/\∀name,W.lookIn name od=some (mA name):=
 let⟨od,ho,hl⟩:=Zn I.ns
 ⟨od,⟨I.obj,rfl,rfl,ho⟩,hl⟩
theorem q02(X:Ξ.In s.heap)(I:ObjM s.heap x dx C mA)(hg:W.plainGet Ξ C name=true)(hh:W.hasDictIn Ξ C=true)(ha:W.findIn Ξ (.ref C) name=some none)(hv:mA name=some v)(oP:W.handedIn v=true)(h:Q v { s with toks:=s.toks+1 }):
  wpAny (model prog w) A (getAttr (.ref x) name expr) Q E s:=by
 obtain⟨od,J,hl⟩:=I.look;exact W.get_value X J (RV hg).1 (BJ hh ha rfl (by rw[hl,hv])) oP h
theorem q1H(X:Ξ.In s.heap)(I:ObjM s.heap x dx C mA)(hg:W.plainGet Ξ C name=true)(hf:W.findIn Ξ (.ref C) name=some (some (.ref f)))(ht:W.isFn Ξ (.ref f)=true)(hv:mA name=none)(h:Q (.ref f, [.ref x]) s):
  wpAny (model prog w) A (getMethod (.ref x) name pl) Q E s:=by
 obtain⟨od,J,hl⟩:=I.look;exact W.method_fn X J (RV hg).1 (RV hg).2 hf (beq_iff_eq.mp ht) (by show(W.lookIn name od).map _=some false;rw[hl,hv];rfl) h
theorem q5u(X:Ξ.In s.heap)(I:ObjM s.heap x dx C mA)(hs:W.findIn Ξ (.ref C) "__setattr__" = some (some (.builtin "object.__setattr__")))(hp:W.plainOver Ξ C=true)(ht:W.takerIn Ξ C name=some none)(hh:W.hasDictIn Ξ C=true)(hw:PySem.Within mA ns)(dY:ns.length<=sizeLine)(h:∀h',ObjM h' x dx C (λy=>if y=name then some v else mA y)->Heap.SameBut dx s.heap h'->Q () { s with heap:=h',toks:=s.toks+2 }):
  wpAny (model prog w) A (setAttr (.ref x) name v) Q E s:=by
 obtain⟨od,J,hl⟩:=I.look;refine W.set_plain X J hs (W.osa_open X J hp ht λb=>?_);obtain⟨cd,hc,gm⟩:=W.any_some hh;have hx:=I.obj;refine Ug (Uh (Ug (Ug (wpAny_loadPart hx (Ug (PySem.W.Looks.here (W.looks_clsIn X hc) ?_))))));rw[gm];refine Uh (Ug (Uh (Ug ?_)));refine wpAny_nsSet1 I.ns λh' gq eY=>?_;obtain⟨oD,oQ,oR,lD,lE,lF⟩:=gq.count (PySem.Within.cons name v hw);refine Ug (wpAny_lookBehind lD (by rw[lE];exact pastItsLine_dict (DA lF (by grind))) ?_);exact Uh (h _ ⟨(eY.2 _ (Ne.symm I.ne)).trans I.obj,gq,I.ne⟩ eY)
theorem q1z(X:Ξ.In s.heap)(hm:W.makesIn Ξ C=true)(hi:W.findIn Ξ (.ref C) "__init__" = some (some (.ref f)))(hf:W.typeIn Ξ (.ref f)=some (.type "function"))(h:codeAny (model prog w) (A.under (.builtin "type.__call__" ⟨.ref C::vs,kw⟩)) (.call (.ref f) ⟨.ref (s.heap.objs.size+1)::vs,kw⟩) (PySem.W.InitBack (s.heap.objs.size+1) R)
   { s with heap:=(s.heap.push W.emptyDict).push (W.instObj C s.heap.objs.size) }):
  codeAny (model prog w) A (.call (.ref C) ⟨vs,kw⟩) R s:=by
 exact W.make_core (W.makes_of X hm) (W.looks_findIn X hi) (λself=>W.bind_fn X self hf) (.inl rfl) h
noncomputable def putF(f:Str)(v:V):List (Str×V)->List (Str×V)
 | []=>[(f,v)]
 | (g,x)::r=>if g=f then(g,v)::r else(g,x)::putF f v r
theorem kI(f g:Str)(v:V):∀fs:List (Str×V),(putF f v fs).lookup g=if g=f then some v else fs.lookup g
 | []=>by
  show List.lookup g [_]=_
  grind
 | (k,x)::r=>by
  have ih:=kI f g v r;rw[show putF f v _=(if k=f then _::r else _::putF f v r)from rfl]
  grind
theorem kM(f:Str)(v:V):∀fs:List (Str×V),f∈(putF f v fs).map (·.1)/\∀g,g∈fs.map (·.1)->g∈(putF f v fs).map (·.1)
 | []=>⟨by simp[putF],λg h=>by simp at h⟩
 | (k,x)::r=>by
  obtain⟨i1,i2⟩:=kM f v r;rw[show putF f v _=(if k=f then _::r else _::putF f v r)from rfl]
  grind
theorem kJ(f:Str)(v:V):∀fs:List (Str×V),(putF f v fs).length<=fs.length+1
 | []=>by simp[putF]
 | (k,x)::r=>by
  have ih:=kJ f v r;rw[show putF f v _=(if k=f then _::r else _::putF f v r)from rfl]
  grind
theorem RelO.some_of(r:RelO (some v) o):∃u,o=some u/\RelV v u:=by
 cases o with
 |none=>exact r.elim
 |some u=>exact⟨u,rfl,r⟩
theorem RelO.none_of(r:RelO none o):o=none:=by
 cases o with
 |none=>rfl
 |some u=>exact r.elim
theorem GI(r:RelV v u):W.handedIn u=true:=by
 cases v with
 |non=>cases r;rfl
 |bl b=>cases r;rfl
 |int i=>obtain⟨t,e⟩:=r;cases e;rfl
 |str x=>obtain⟨t,e⟩:=r;cases e;rfl
 |byt b=>obtain⟨t,e⟩:=r;cases e;rfl
 |flt b=>obtain⟨t,e⟩:=r;cases e;rfl
 |ref a=>cases r;rfl
 |ty n=>cases r;rfl
theorem Vn(hok:HOk P w H h)(e:H a=some (.ins C dx fs)):∃mA,ObjM h a dx C mA/\(∀f,RelO (fs.lookup f) (mA f))/\PySem.Within mA (fs.map (·.1))/\fs.length<=1000/\H dx=some (.own a):=by
 obtain⟨d,z,ne,ob,mA,n,r,q⟩:=(hok a _ e);exact⟨mA,⟨ob,n,ne⟩,r,q,z,d⟩
structure Cls(Ξ:PySem.W.Frag)(C:Addr):Prop where
 pg:W.plainGet Ξ C Str.empty=true
 hd:W.hasDictIn Ξ C=true
 po:W.plainOver Ξ C=true
 sa:W.findIn Ξ (.ref C) "__setattr__" = some (some (.builtin "object.__setattr__"))
theorem Cls.get(c:Cls Ξ C)(f:Str):W.plainGet Ξ C f=true:=c.pg
def NoAttr(Ξ:PySem.W.Frag)(C:Addr)(f:Str):Prop:=W.findIn Ξ (.ref C) f=some none
theorem NoAttr.taker(n:NoAttr Ξ C f):W.takerIn Ξ C f=some none:=by
 unfold W.takerIn;rw[show W.findIn Ξ _ f=some none from n];rfl
structure Meth(Ξ:PySem.W.Frag)(C:Addr)(m:Str)(f:Addr):Prop where
 at_:W.findIn Ξ (.ref C) m=some (some (.ref f))
 fn:W.isFn Ξ (.ref f)=true
 kp:W.keepIn Ξ (.ref f)=true
theorem QM(I:Inv X a4 σ H s)(e:H a=some (.ins C dx fs))(c:Cls X.K C)(n:NoAttr X.K C f)(l:fs.lookup f=some v)(h:∀u s',Inv X a4 σ H s'->RelV v u->Q u s'):wpAny (model X.prog X.w) A (getAttr (.ref a) f b) Q E s:=by
 obtain⟨mA,O,r,_,_,_⟩:=Vn I.hok e;obtain⟨u,hu,ru⟩:=RelO.some_of (v:=v) (o:=mA f) (by rw[<-l];exact r f);exact q02 I.kIn O (c.get f) c.hd n hu (GI ru) (h u _ (I.tok _) ru)
theorem xp(I:Inv X a4 σ H s)(e:H a=some (.ins C dx fs))(c:Cls X.K C)(k:Meth X.K C m g)(l:fs.lookup m=none)(h:Q (.ref g, [.ref a]) s):wpAny (model X.prog X.w) A (getMethod (.ref a) m pl) Q E s:=by
 obtain⟨mA,O,r,_,_,_⟩:=Vn I.hok e;have hn:mA m=none:=RelO.none_of (by rw[<-l];exact r m);exact q1H I.kIn O (c.get m) k.at_ k.fn hn h
theorem Qh(I:Inv X a4 σ H s)(e:H a=some (.ins C dx fs))(c:Cls X.K C)(n:NoAttr X.K C f)(hl:fs.length<1000)(ry:RelV y u)(h:∀s',Inv X a4 σ (upd H a (.ins C dx (putF f y fs))) s'->Q () s'):wpAny (model X.prog X.w) A (setAttr (.ref a) f u) Q E s:=by
 obtain⟨mA,O,r,wi,_,ho⟩:=Vn I.hok e;have hz:(fs.map (·.1)).length<=sizeLine:=by rw[Dg,Uk];lia
 refine q5u I.kIn O c.sa c.po n.taker c.hd wi hz λh' O' sb=>h _ ?_;have hd:∃o,h'.get? dx=some o:=let⟨o,_,_,e',_⟩:=O'.ns;⟨o,e'⟩;refine I.write (by rw[e];exact True.intro) (.inr ho) (λb q hb z=>(sb.2 b hb).trans z) hd ?_;refine⟨by rw[upd_ne O.ne];exact ho,?_,O.ne,O'.obj,_,O'.ns,λg=>?_,λg hg=>?_⟩
 ·have:=kJ f y fs;lia
 ·rw[kI]
  by_cases q:g=f
  ·rw[Ul q,Ul q];exact ry
  ·rw[Ui q,Ui q];exact r g
 ·by_cases q:g=f
  ·rw[q];exact(kM f y fs).1
  ·refine(kM f y fs).2 g (wi g λz=>hg ?_)
   show(if g=f then some u else mA g)=none;rw[Ui q];exact z
theorem Inv.made(I:Inv X a4 σ H s):Inv X a4 σ (upd (upd H s.heap.objs.size (.own (s.heap.objs.size+1))) (s.heap.objs.size+1) (.ins C s.heap.objs.size []))
  { s with heap:=(s.heap.push W.emptyDict).push (W.instObj C s.heap.objs.size) }:=by
 have e1:(s.heap.push W.emptyDict).get? s.heap.objs.size=some W.emptyDict:=Heap.get?_push_size s.heap rfl;have e2:=by
  have:=Heap.get?_push_size (s.heap.push W.emptyDict) (o:=W.instObj C s.heap.objs.size) rfl;rwa [Heap.size_push]at this
 have e3:(s.heap.push W.emptyDict).Ns s.heap.objs.size _:=⟨W.emptyDict, #[],_,e1,rfl,(λe he=>absurd he (by simp)),λ_=>rfl⟩;have I1:=I.laid (o:=.own (s.heap.objs.size+1)) (h':=s.heap.push W.emptyDict) (t':=s.toks) (λb u q=>Heap.get?_push_of_some _ q) (Dk _) ⟨_,e1⟩;refine I1.laid (t':=s.toks) (λb u q=>Heap.get?_push_of_some _ q) (R3 (Heap.size_push _ _)) ?_;have ne:s.heap.objs.size≠s.heap.objs.size+1:=Dz (Nat.lt_succ_self _);refine⟨by rw[upd_ne ne,upd_same],DG _,ne,e2,λ_=>none,(Heap.Ns1.of_empty e3).at λo q=>Heap.get?_push_of_some _ q,λ_=>True.intro,λy hy=>absurd rfl hy⟩
theorem qaB(hb:attributeBase e f env (eval e env)=eval e env)(h:wpAny (model prog w) A (eval e env) (λo af=>wpAny (model prog w) A (getAttr o f true) Q E af) E s):wpAny (model prog w) A (eval (.Attribute e f pos) env) Q E s :=
 Attribute_any_ h (by rw[arm_eval_Attribute,hb])
def tFld(Ξ:PySem.W.Frag)(ta:TE)(f:Str):TE:=λσ H Q=>ta σ H λx H1=>∃a C dx fs v,x=.ref a/\H1 a=some (.ins C dx fs)/\Cls Ξ C/\NoAttr Ξ C f/\fs.lookup f=some v/\Q v H1
def sFld(Ξ:PySem.W.Frag)(ta tv:TE)(f:Str):TS:=λD σ H=>tv σ H λy H1=>ta σ H1 λx H2=>∃a C dx fs,x=.ref a/\H2 a=some (.ins C dx fs)/\Cls Ξ C/\NoAttr Ξ C f/\fs.length<1000 /\
 D.nx σ (upd H2 a (.ins C dx (putF f y fs)))
def InOp(X:Cx)(op:Operator)(rd:V->V->Hp->VK->Prop):Prop :=
 ∀(a4:List (Addr×Obj))(s:Shared)(σ:St)(H:Hp)(x y:V)(u v:Value)(Q:VK),Inv X a4 σ H s->RelV x u->RelV y v->rd x y H Q->wpAny (model X.prog X.w) X.A (inplaceOp op u v) (EP X a4 σ Q) X.xe s
def Xo(Ξ:PySem.W.Frag)(ta tv:TE)(rd:V->V->Hp->VK->Prop)(f:Str):TS:=λD σ H=>ta σ H λx H1=>∃a C dx fs v,x=.ref a/\H1 a=some (.ins C dx fs)/\Cls Ξ C/\NoAttr Ξ C f/\fs.lookup f=some v /\
 tv σ H1 λy H2=>rd v y H2 λz H3=>∃fG eS,H3 a=some (.ins C fG eS)/\eS.length<1000/\D.nx σ (upd H3 a (.ins C fG (putF f z eS)))
def rAdd:V->V->Hp->VK->Prop:=λx y H Q=>∃i j,x=.int i/\y=.int j/\Q (.int (i+j)) H
theorem q6y:InOp X .Add rAdd:=by
 rintro a4 s σ H x y u v Q I rx ry ⟨i,j,rfl,rfl,q⟩;obtain⟨t,rfl⟩:=rx;obtain⟨t',rfl⟩:=ry;exact PyProof.Rows.iadd_int ⟨.int _,H,I.tok _,⟨_,rfl⟩,q⟩
section
variable {X:Cx}{a4:List (Addr×Obj)}{σ:St}{H:Hp}{s:Shared}{A:Around}{E:Value->Shared->Prop}{Q:Value->Shared->Prop}{c:Value}{b:Bool}
inductive TyOf(Ξ:PySem.W.Frag)(H:Hp):V->Value->Prop where
 |non:TyOf Ξ H .non (.type "NoneType")
 |bl (x:Bool):TyOf Ξ H (.bl x) (.type "bool")
 |int (i:Int):TyOf Ξ H (.int i) (.type "int")
 |str (x:Str):TyOf Ξ H (.str x) (.type "str")
 |flt (x:UInt64):TyOf Ξ H (.flt x) (.type "float")
 |lst {a:Addr}{xs:List V} (e:H a=some (.lst xs)):TyOf Ξ H (.ref a) (.type "list")
 |frz {a:Addr}{o:Obj}{xs:List V} (e:H a=some (.frz o (.lst xs))):TyOf Ξ H (.ref a) (.type "list")
 |tup {a:Addr}{xs:List V} (e:H a=some (.tup xs)):TyOf Ξ H (.ref a) (.type "tuple")
 |dK {a:Addr}{kvs:List (Key×V)} (e:H a=some (.dK kvs)):TyOf Ξ H (.ref a) (.type "dict")
 |dT {a:Addr}{kvs:List (List Key×V)} (e:H a=some (.dT kvs)):TyOf Ξ H (.ref a) (.type "dict")
 |ins {a C dx:Addr}{fs:List (Str×V)} (e:H a=some (.ins C dx fs)) (cl:Cls Ξ C) (ha:W.findIn Ξ (.ref C) "__class__" = some (some (.builtin "object.__class__")))
   (hn:W.specialIn Ξ (.builtin "object.__class__") "__get__" = some (some (.builtin "getset_descriptor.__get__"))) (gO:W.takesIn Ξ (.builtin "object.__class__")=some true)
   (hm:W.mroIn Ξ C (.type "object")=some true):TyOf Ξ H (.ref a) (.ref C)
theorem GA(I:Inv X a4 σ H s)(rx:RelV x u)(ty:TyOf X.K H x t)(e:W.kitOne X.K t c=some b)(h:∀tk,Q (.bool b) { s with toks:=tk }):
  wpAny (model X.prog X.w) A (call (.builtin "isinstance") [u,c]) Q E s:=by
 cases ty with
 |non=>cases rx;exact DZ W.kitx_none I.kIn True.intro e (λz=>nomatch z) h
 |bl y=>cases rx;exact DZ W.kitx_bool I.kIn True.intro e (λz=>nomatch z) h
 |int i=>obtain⟨t,q⟩:=rx;cases q;exact DZ W.kitx_int I.kIn True.intro e (λz=>nomatch z) h
 |str y=>obtain⟨t,q⟩:=rx;cases q;exact DZ W.kitx_str I.kIn True.intro e (λz=>nomatch z) h
 |flt y=>obtain⟨t,q⟩:=rx;cases q;exact DZ W.kitx_float I.kIn True.intro e (λz=>nomatch z) h
 | @lst a xs ea=>
  cases rx;obtain⟨_,_,n,_,h1⟩:=(I.hok a _ ea);exact DZ W.kitx_list I.kIn ⟨_,h1,rfl⟩ e (λz=>nomatch z) h
 | @frz a ob xs ea=>
  cases rx;obtain⟨_,_,_,n,_,h1⟩:=(I.hok a _ ea);exact DZ W.kitx_list I.kIn ⟨_,h1,rfl⟩ e (λz=>nomatch z) h
 | @tup a xs ea=>
  cases rx;obtain⟨_,_,_,p⟩:=(I.hok a _ ea);obtain⟨o,h1,h2,_⟩:=p;exact DZ W.kitx_tuple I.kIn ⟨o,h1,h2⟩ e (λz=>nomatch z) h
 | @dK a kvs ea=>
  cases(show u=Value.ref a from rx);obtain⟨_,_,vs,_,p⟩:=(I.hok a _ ea);obtain⟨o,es,ep,h1,h2,_⟩:=p;exact DZ W.kitx_dict I.kIn ⟨o,h1,h2.1⟩ e (λz=>nomatch z) h
 | @dT a kvs ea=>
  cases(show u=Value.ref a from rx);obtain⟨_,_,xs,_,o,es,ep,h1,h2,_⟩:=(I.hok a _ ea);exact DZ W.kitx_dict I.kIn ⟨o,h1,h2.1⟩ e (λz=>nomatch z) h
 | @ins a C dx fs ea cl ha hn gO hm=>
  cases rx;obtain⟨mA,O,_⟩:=Vn I.hok ea;obtain⟨od,J,_⟩:=O.look;exact DZ (W.kitx_own (cl.get _) cl.hd ha hn gO hm) I.kIn J e (λz=>nomatch z) h
end
structure Room(k:Nat)(A:Around):Prop where
 hd:A.handled=none
 dp:A.depth+3*k+5<recursionLimit
 un:A.units+16*k+200<cLine
 gd:A.guards=some []
theorem Room.mono(r:Room k A)(h:j<=k):Room j A:=⟨r.hd,by have:=r.dp;lia,by have:=r.un;lia,r.gd⟩
theorem Room.deeper(r:Room (k+1) A)(env:Env):Room k (A.deeper env):=
 ⟨r.hd,by have:=r.dp;show A.depth+1+3*k+5<_;lia,by have:=r.un;show A.units+3+16*k+200<_;lia,r.gd⟩
theorem K0{A:Around}:(A.under (.builtin "type.__call__" ⟨.ref C::us,kw⟩)).depth=A.depth+1:=by
  rfl
theorem KZ{A:Around}:(A.under (.builtin "type.__call__" ⟨.ref C::us,kw⟩)).units=A.units+1:=by
  rfl
theorem make_guards{A:Around}:(A.under (.builtin "type.__call__" ⟨.ref C::us,kw⟩)).guards=A.guards:=by
  rfl
theorem Room.make(r:Room (k+1) A)(C:Addr)(us:List Value)(kw:List (Str×Value)):Room k (A.under (.builtin "type.__call__" ⟨.ref C::us,kw⟩)):=
 ⟨r.hd,by have:=r.dp;rw[K0];lia,by have:=r.un;rw[KZ];lia,make_guards.trans r.gd⟩
theorem Room.depth(r:Room k A):A.depth<recursionLimit:=by have:=r.dp;lia
theorem Room.units(r:Room k A):A.units+64<cLine:=by have:=r.un;lia
def tNil:TA:=λ_ H Q=>Q [] H
def vW(ta:TE)(tr:TA):TA:=λσ H Q=>ta σ H λx H1=>tr σ H1 λxs H2=>Q (x::xs) H2
theorem q59(ha:PE X e te)(hr:PA X es t)(hs:starEach (e::es) X.env=(false,eval e X.env)::starEach es X.env:=by rfl):PA X (e::es) (vW te t):=by
 intro pos a4 s σ H Q I h;rw[hs];show wpAny _ _ (spliced ((false,eval e X.env)::backTo pos (starEach es X.env))) _ _ s;refine Calls.spliced_cons (thn (ha a4 s σ H _ I h) λu s1 zz=>?_);obtain⟨x,H1,I1,r1,q1⟩:=zz;exact thn (hr pos a4 s1 σ H1 _ I1 q1) λus s2 ⟨xs,H2,I2,r2,q2⟩=>⟨x::xs,H2,I2,.cons r1 r2,q2⟩
def tTup(t:TA):TE:=λσ H Q=>t σ H λxs H1=>xs.length<=sizeLine/\∀p,H1 p=none->Q (.ref p) (upd H1 p (.tup xs))
def tLst(t:TA):TE:=λσ H Q=>t σ H λxs H1=>xs.length<=sizeLine/\∀p,H1 p=none->Q (.ref p) (upd H1 p (.lst xs))
abbrev Sp:=List V->Hp->VK->XK->Prop
abbrev CXT:=List Env->Hp->Shared->XK->Value->Shared->Prop
structure Env0(P:Program)(w:World)(Ξ:PySem.W.Frag)(mg:Str->Option Value)(base:Heap)(A:Around)(outer:List Env)(s:Shared)(H:Hp):Prop where
 frames:A.frames=some outer
 mod:Mod Ξ mg base
 bs:∀b o,base.get? b=some o->s.heap.get? b=some o/\H b=none
 bsz:base.objs.size<=s.heap.objs.size
 funs:s.heap.FunFrames base outer
 frf:∀b∈frs outer,H b=none
 hok:HOk P w H s.heap
 bare:AllBare s.gens
def CE(outer:List Env)(P:Program)(w:World)(H:Hp)(s:Shared)(Q:VK)(u:Value)(s':Shared):Prop :=
 ∃v H',s'.os=s.os/\AllBare s'.gens/\Un (frs outer) [] H H' s.heap s'.heap/\HOk P w H' s'.heap/\RelV v u/\Q v H'
def CR(CX:CXT)(outer:List Env)(P:Program)(w:World)(H:Hp)(s:Shared)(Q:VK)(E:XK)(r:Result)(s':Shared):Prop :=
 match r with
 |.ok (.ret u)=>CE outer P w H s Q u s'
 |.ok _=>False
 |.error e=>CX outer H s E e s'
structure FnOk(P:Program)(w:World)(Ξ:PySem.W.Frag)(mg:Str->Option Value)(base:Heap)(CX:CXT)(k:Nat)(f:Addr)(fd:FuncData)(ps:List Str)(sp:Sp):Prop where
 len:∀vs H Q E,sp vs H Q E->vs.length=ps.length
 run:∀(A:Around)(outer:List Env)(s:Shared)(H:Hp)(args:Args)(us:List Value)(vs:List V)(Q:VK)(E:XK),Room k A->Env0 P w Ξ mg base A outer s H->BindsTo s fd args (ps.zip us)->Vals vs us->sp vs H Q E ->
  codeAny (model P w) A (.call (.ref f) args) (CR CX outer P w H s Q E) s
theorem FnOk.imp(F:FnOk P w Ξ mg base CX k f fd ps sp)(h:∀vs H Q E,sp' vs H Q E->sp vs H Q E):FnOk P w Ξ mg base CX k f fd ps sp' :=
 ⟨λvs H Q E q=>F.len vs H Q E (h _ _ _ _ q),λA outer s H args us vs Q E hr he hb hv hs=>F.run A outer s H args us vs Q E hr he hb hv (h _ _ _ _ hs)⟩
theorem Env0.make(e:Env0 P w Ξ mg base A outer s H)(C:Addr)(us:List Value)(kw:List (Str×Value)):
  Env0 P w Ξ mg base (A.under (.builtin "type.__call__" ⟨.ref C::us,kw⟩)) outer s H:=⟨by first|exact e.frames|(simpa using e.frames),e.mod,e.bs,e.bsz,e.funs,e.frf,e.hok,e.bare⟩
theorem Inv.env0(I:Inv X a4 σ H s):Env0 X.prog X.w X.K X.mg X.base X.A X.stack s H :=
 ⟨I.ok.frames,I.ok.mod,I.bs,DA I.ok.bsz I.sz,I.stack,I.stkFree,I.hok,I.bare⟩
theorem Inv.after(I:Inv X a4 σ H s)(h:CE X.stack X.prog X.w H s Q u s'):EP X a4 σ Q u s':=by
 obtain⟨v,H',os,bare,un,hok,r,q⟩:=h;obtain⟨hh,g,d,t,fH⟩:=s';obtain rfl:=os;exact⟨v,H',I.call (h':=hh) (g':=g) (d':=d) (t':=t) un hok bare (λb z=>absurd z (by simp)),r,q⟩
def zW(sp:Sp)(cQ:List V)(E:XK)(t:TA):TE:=λσ H Q=>t σ H λvs H1=>sp (vs++cQ) H1 Q E
def Xh(C:Addr)(m:Str)(sp:Sp)(cQ:List V)(E:XK)(ta:TE)(t:TA):TE:=λσ H Q=>ta σ H λx H1=>∃a dx fs,x=.ref a/\H1 a=some (.ins C dx fs)/\fs.lookup m=none /\
 t σ H1 λvs H2=>sp (x::(vs++cQ)) H2 Q E
def q3p(C:Addr)(sp:Sp)(cQ:List V)(E:XK)(t:TA):TE:=λσ H Q=>t σ H λvs H1=>∀x dx,H1 x=none->H1 dx=none->dx≠x ->
 sp (.ref x::(vs++cQ)) (upd (upd H1 dx (.own x)) x (.ins C dx [])) (λv H2=>v=.non/\Q (.ref x) H2) E
def Binds(Ξ:PySem.W.Frag)(fd:FuncData)(ps:List Str)(ds:List Value):Prop :=
 ∀(s:Shared)(us:List Value),Ξ.In s.heap->(us++ds).length=ps.length->BindsTo s fd ⟨us, []⟩ (ps.zip (us++ds))
theorem Binds.all(h:∀us:List Value,us.length=ps.length->bindArgs fd ⟨us, []⟩=pure (ps.zip us)):Binds Ξ fd ps []:=λs us _ hl=>by
 rw[DI]at hl ⊢;exact .of_eq (h us hl)
def kZ(CX:CXT)(X:Cx)(E:XK):Prop:=∀(a4:List (Addr×Obj))(σ:St)(H:Hp)(s:Shared)(e:Value)(s':Shared),Inv X a4 σ H s->CX X.stack H s E e s'->X.xe e s'
section
variable {X:Cx}{CX:CXT}{k:Nat}{f C:Addr}{fd:FuncData}{ps:List Str}{sp:Sp}{cQ:List V}{ds:List Value}{E:XK}{x m:Str}{p pos aF:Pos}{e o:Expr}{es:List Expr}{ta:TE}{t:TA}
theorem YQ(F:FnOk X.prog X.w X.K X.mg X.base CX k f fd ps sp)(hr:Room k X.A)(hb:Binds X.K fd ps ds)(hd:Vals cQ ds)(hx:kZ CX X E)(I:Inv X a4 σ H s)(r:Vals vs us)(h:sp (vs++cQ) H Q E):wpAny (model X.prog X.w) X.A (call (.ref f) us) (EP X a4 σ Q) X.xe s:=by
 have r2:=r.append hd;have hl:(us++ds).length=ps.length:=by rw[<-r2.length];exact F.len _ _ _ _ h
 refine U2 (UQ (F.run X.A X.stack s H ⟨us, []⟩ _ _ Q E hr I.env0 (hb s us I.kIn hl) r2 h) λr s' hq=>?_);cases r with
 |error e=>exact hx a4 σ H s e s' I hq
 |ok fl=>
  cases fl with
  |ret u=>exact I.after hq
  |next=>exact False.elim hq
  |brk=>exact False.elim hq
  |cont=>exact False.elim hq
theorem q4P(F:FnOk X.prog X.w X.K X.mg X.base CX k f fd ps sp)(hr:Room k X.A)(hg:Gl X x)(hm:X.mg x=some (.ref f))(hk:W.keepIn X.K (.ref f)=true)(hb:Binds X.K fd ps ds)(hd:Vals cQ ds)(hx:kZ CX X E)(ha:PA X (e::es) t)(c9:(x==("__debug__" : Str))=false:=by decide)(he:starEach (e::es) X.env=(false,eval e X.env)::starEach es X.env:=by rfl)(bQ:(backTo pos (starEach es X.env)).any (·.1)=false:=by rfl):
  PE X (.Call (.Name x p) (e::es) [] pos) (zW sp cQ E t):=by
 intro a4 s σ H Q I h;refine Uy (zp I hg hm ?_ c9);refine Rp I.ok.mod.kin hk (thn (ha pos a4 s σ H _ I h) λus s1 ⟨vs,H1,I1,r,q⟩=>⟨I1.kIn,?_⟩) he bQ;exact YQ F hr hb hd hx I1 r q
theorem q5i(he:PE X o ta)(c:Cls X.K C)(hm:Meth X.K C m f)(F:FnOk X.prog X.w X.K X.mg X.base CX k f fd ps sp)(hr:Room k X.A)(hb:Binds X.K fd ps ds)(hd:Vals cQ ds)(hx:kZ CX X E)(ha:PA X (e::es) t)(eW:starEach (e::es) X.env=(false,eval e X.env)::starEach es X.env:=by rfl)(bQ:(backTo pos (starEach es X.env)).any (·.1)=false:=by rfl)(ht:eval (.Call (.Attribute o m aF) (e::es) [] pos) X.env=(do
   let ov <-eval o X.env
   standAt aF.atName;let(f,first) <-holding [ov] (getMethod ov m pl)
   callWith pos f first (backTo pos (starEach (e::es) X.env)) (backToKw pos (keywordEach [] X.env))):=by rfl):
  PE X (.Call (.Attribute o m aF) (e::es) [] pos) (Xh C m sp cQ E ta t):=by
 intro a4 s σ H Q I h;refine Rj (thn (he a4 s σ H _ I h) λu s1 ⟨x,H1,I1,rx,a,dx,fs,ex,ea,l,q⟩=>?_) ht;subst ex;obtain rfl:=rx;refine xp I1 ea c hm l ?_;refine Rp I.ok.mod.kin hm.kp (thn (ha pos a4 s1 σ H1 _ I1 q) λus s2 ⟨vs,H2,I2,r,q2⟩=>⟨I2.kIn,?_⟩) eW bQ;exact YQ (vs:=.ref a::vs) F hr hb hd hx I2 (.cons rfl r) q2
theorem q0q(he:PE X o ta)(c:Cls X.K C)(hm:Meth X.K C m f)(F:FnOk X.prog X.w X.K X.mg X.base CX k f fd ps sp)(hr:Room k X.A)(hb:Binds X.K fd ps ds)(hd:Vals cQ ds)(hx:kZ CX X E)(ht:eval (.Call (.Attribute o m aF) [] [] pos) X.env=(do
   let ov <-eval o X.env
   standAt aF.atName;let(f,first) <-holding [ov] (getMethod ov m pl)
   callWith pos f first (backTo pos (starEach [] X.env)) (backToKw pos (keywordEach [] X.env))):=by rfl):
  PE X (.Call (.Attribute o m aF) [] [] pos) (Xh C m sp cQ E ta tNil):=by
 intro a4 s σ H Q I h;refine Rj (thn (he a4 s σ H _ I h) λu s1 ⟨x,H1,I1,rx,a,dx,fs,ex,ea,l,q⟩=>?_) ht;subst ex;obtain rfl:=rx;refine xp I1 ea c hm l ?_;exact W.callWith_K0 I1.kIn hm.kp (YQ (vs:=[.ref a]) F hr hb hd hx I1 (.cons rfl .nil) q)
structure Mk(Ξ:PySem.W.Frag)(C f:Addr):Prop where
 makes:W.makesIn Ξ C=true
 init:W.findIn Ξ (.ref C) "__init__" = some (some (.ref f))
 fn:W.isFn Ξ (.ref f)=true
 kp:W.keepIn Ξ (.ref C)=true
theorem q1R(M:Mk X.K C f)(F:FnOk X.prog X.w X.K X.mg X.base CX k f fd ps sp)(hr:Room (k+1) X.A)(hb:Binds X.K fd ps ds)(hd:Vals cQ ds)(hx:kZ CX X E)(I:Inv X a4 σ H s)(r:Vals vs us)(h:∀x dx,H x=none->H dx=none->dx≠x->sp (.ref x::(vs++cQ)) (upd (upd H dx (.own x)) x (.ins C dx [])) (λv H2=>v=.non/\Q (.ref x) H2) E):
  wpAny (model X.prog X.w) X.A (call (.ref C) us) (EP X a4 σ Q) X.xe s:=by
 have hq:=h _ s.heap.objs.size (I.hok.fresh (Bh _)) (I.hok.fresh (Dk _)) (Dz (Nat.lt_succ_self _));have I2:=Inv.made (C:=C) I;have r2:Vals (V.ref (s.heap.objs.size+1)::_) _:=.cons rfl (r.append hd);have hl:=by
  have e:=r2.length;rw[F.len _ _ _ _ hq]at e;exact e.symm
 refine U2 (q1z I.kIn M.makes M.init (beq_iff_eq.mp M.fn) (UQ (F.run _ X.stack _ _ ⟨Value.ref _::us, []⟩ _ _ _ E (hr.make C us [])
  (I2.env0.make C us []) (hb _ _ I2.kIn hl) r2 hq) λr s' dZ=>?_))
 cases r with
 |error e=>exact hx a4 σ _ _ e s' I2 dZ
 |ok fl=>
  cases fl with
  |ret u=>
   obtain⟨v,H',I3,rv,ev,q3⟩:=I2.after dZ;subst ev;exact⟨rv,⟨V.ref _,H',I3,rfl,q3⟩⟩
  |next=>exact False.elim dZ
  |brk=>exact False.elim dZ
  |cont=>exact False.elim dZ
theorem q49(M:Mk X.K C f)(F:FnOk X.prog X.w X.K X.mg X.base CX k f fd ps sp)(hr:Room (k+1) X.A)(hg:Gl X x)(hm:X.mg x=some (.ref C))(hb:Binds X.K fd ps ds)(hd:Vals cQ ds)(hx:kZ CX X E)(ha:PA X (e::es) t)(c9:(x==("__debug__" : Str))=false:=by decide)(he:starEach (e::es) X.env=(false,eval e X.env)::starEach es X.env:=by rfl)(bQ:(backTo pos (starEach es X.env)).any (·.1)=false:=by rfl):
  PE X (.Call (.Name x p) (e::es) [] pos) (q3p C sp cQ E t):=by
 intro a4 s σ H Q I h;refine Uy (zp I hg hm ?_ c9);refine Rp I.ok.mod.kin M.kp (thn (ha pos a4 s σ H _ I h) λus s1 ⟨vs,H1,I1,r,q⟩=>⟨I1.kIn,?_⟩) he bQ;exact q1R M F hr hb hd hx I1 r q
end
structure q01(N P:List Str)(sc:Scope):Prop where
 kind:sc.kind=.function
 co:sc.isCoroutine=false
 gen:sc.isGenerator=false
 nd:N.Nodup
 pre:N.take P.length=P
 par:∀x∈P,sc.names.lookup x=some .local\/sc.names.lookup x=some .cell
 nofree:∀y∈sc.names,y.2 ≠ .free
theorem Z0{kindOf:Str->Option NameKind}:∀{binds:List (Str×Value)}{m:Str->Option Value},(∀v,(x,v)∉binds)->bindL kindOf binds m x=m x
 | [],_,_=>rfl
 | (n,v)::r,m,h=>by
  unfold bindL;rw[Z0 λw hw=>h w (DR _ hw)];split
  ·have:x≠n:=by rintro rfl;exact h v DH
   simp[this]
  ·rfl
theorem Z7{kindOf:Str->Option NameKind}:∀{binds:List (Str×Value)}{m:Str->Option Value},(∀v,(x,v)∉binds)->bindC kindOf binds m x=m x
 | [],_,_=>rfl
 | (n,v)::r,m,h=>by
  unfold bindC;rw[Z7 λw hw=>h w (DR _ hw)];split
  ·rfl
  ·have:x≠n:=by rintro rfl;exact h v DH
   simp[this]
theorem Z6{kindOf:Str->Option NameKind}:∀{P:List Str}{vs:List Value}{i:Nat}{m:Str->Option Value},P.Nodup->P[i]?=some x->vs[i]?=some v->kindOf x=some .local ->
  bindL kindOf (P.zip vs) m x=some v
 | [],_,_,_,_,h,_,_=>by simp at h
 |_::_, [],_,_,_,_,h,_=>by simp at h
 |p::P,w::vs,0,m,nd,h1,h2,hk=>by
  simp at h1 h2;subst h1;subst h2;show bindL kindOf (_::P.zip vs) m p=_;unfold bindL;rw[Z0 λv hv=>(DJ.mp nd).1 (Bv hv).1,Ul hk];simp
 |p::P,w::vs,i+1,m,nd,h1,h2,hk=>by
  unfold bindL;exact Z6 (DJ.mp nd).2 (by simpa using h1) (by simpa using h2) hk
theorem Z8{kindOf:Str->Option NameKind}:∀{P:List Str}{vs:List Value}{i:Nat}{m:Str->Option Value},P.Nodup->P[i]?=some x->vs[i]?=some v->kindOf x≠some .local ->
  bindC kindOf (P.zip vs) m x=some v
 | [],_,_,_,_,h,_,_=>by simp at h
 |_::_, [],_,_,_,_,h,_=>by simp at h
 |p::P,w::vs,0,m,nd,h1,h2,hk=>by
  simp at h1 h2;subst h1;subst h2;show bindC kindOf (_::P.zip vs) m p=_;unfold bindC;rw[Z7 λv hv=>(DJ.mp nd).1 (Bv hv).1,Ui hk];simp
 |p::P,w::vs,i+1,m,nd,h1,h2,hk=>by
  unfold bindC;exact Z8 (DJ.mp nd).2 (by simpa using h1) (by simpa using h2) hk
noncomputable def start(N:List Str)(vs:List V):St:=vs.map some++List.replicate (N.length-vs.length) none
noncomputable def cxOf(CX:CXT)(P:Program)(w:World)(Ξ:PySem.W.Frag)(mg:Str->Option Value)(base:Heap)(N:List Str)(ac:Str)(scope:Scope)(f:Addr)(cd:Value)(A:Around)(outer:List Env)(s:Shared)(H:Hp)(E:XK):Cx where
 prog:=P
 w:=w
 K:=Ξ
 mg:=mg
 base:=base
 A:=A.deeper (envOfC ac scope s.heap.objs.size f cd)
 N:=N
 s₀:=s
 H₀:=H
 env:=envOfC ac scope s.heap.objs.size f cd
 outer:=outer
 stack:=envOfC ac scope s.heap.objs.size f cd::outer
 ex:=[]
 calm:=true
 fn:=λ_=>true
 pn:=[]
 xe:=λe s'=>wpAny (model P w) (A.deeper (envOfC ac scope s.heap.objs.size f cd)) (leaving (envOfC ac scope s.heap.objs.size f cd) e) (λ_ fI=>CX outer H s E e fI) (λe' fI=>CX outer H s E e' fI) s'
theorem Kk{sc:Scope}(h:sc.names.lookup x=some .cell):∃c,(cellsFrom n sc.names []).lookup x=some c:=by
 have q:=Bp sc.names n [] (.inl h);exact Option.isSome_iff_exists.mp q
theorem GC(S:q01 N ps scope)(hd:A.handled=none)(e0:Env0 P w Ξ mg base A outer s H)(hl:vs.length=ps.length)(r:Vals vs us)(x:InCallC s s.heap.objs.size (bindL (envOfC ac scope s.heap.objs.size f cd).kindOf (ps.zip us) λ_=>none) (cellsFrom (s.heap.objs.size+1) scope.names []) (bindC (envOfC ac scope s.heap.objs.size f cd).kindOf (ps.zip us) λ_=>none) s1):
  Inv (cxOf CX P w Ξ mg base N ac scope f cd A outer s H E) [] (start N vs) H s1:=by
 have bQ:ps.length<=N.length:=by have:=Um List.length S.pre;rw[D0]at this;lia
 obtain⟨h1,tk,rfl,hk⟩:=x.done;have gP:∀b:Addr,b∉(cxOf CX P w Ξ mg base N ac scope f cd A outer s H E).ex:=λb z=>absurd (show b∈([]:List Addr)from z) (by simp);refine⟨⟨e0.mod,S.kind,rfl,rfl,Dk _,λy z c h1 h2=>?_,λy hy=>?_,λy c _ h=>?_,λ_=>hd,Around.frames_deeper e0.frames,.inr ⟨rfl,rfl⟩,λb z=>absurd z (gP b),e0.bs,e0.bsz,λb _ _=>gP b,λb z=>absurd z (gP b),e0.funs,e0.frf⟩,
  rfl,e0.bare,Un.kept hk,⟨_,x.toInCall.ns,λi y v h1 h2 h3=>?_⟩,λy c h=>⟨_,x.cell y c h⟩,e0.hok.fresh (Dk _),λy c h=>?_,λp hp=>absurd (show p∈([]:List (Addr×Obj))from hp) (by simp),e0.hok.kept hk,?_⟩
 ·exact name_of_addr x.apart (PySem.mem_of_lookup h1) (PySem.mem_of_lookup h2)
 ·rcases hy with hy|hy
  ·exact Kk hy
  ·exact absurd rfl (S.nofree _ (PySem.mem_of_lookup hy))
 ·exact DS (x.above y c (PySem.mem_of_lookup h))
 ·have hi:i<vs.length:=by
   unfold start at h2;by_cases hi:i<vs.length
   ·exact hi
   ·rw[Dp (by simpa using hi)]at h2
    rw[RC]at h2;split at h2<;>cases h2
  have ha:vs[i]?=some v:=by
   unfold start at h2;rw[De (by simpa using hi),Dy]at h2;cases e:vs[i]? with
   |none=>rw[e]at h2;cases h2
   |some a=>rw[e]at h2;cases h2;rfl
  obtain⟨u,hu,rv⟩:=r.get ha;have hp:ps[i]?=some y:=by
   rw[<-S.pre,Ba (by lia)];exact h1
  have ny:ps.Nodup:=by rw[<-S.pre];exact S.nd.sublist (List.take_sublist _ _)
  refine⟨u,rv,?_⟩;rcases S.par y (Dh hp)with k|k
  ·exact .inl ⟨k,Z6 ny hp hu k⟩
  ·obtain⟨c,e⟩:=Kk (n:=s.heap.objs.size+1) k
   refine .inr ⟨.inl k,c,e,?_⟩;have q:=x.cell y c e;rw[Z8 ny hp hu (by show scope.names.lookup y≠_;rw[k];decide)]at q;exact q
 ·exact e0.hok.fresh (DS (x.above y c (PySem.mem_of_lookup h)))
 ·unfold start
  show _=N.length
  grind
theorem q7k{dV kV bV pm ap ct oc:Value}(lk:Ξ.lookup f=some ⟨oc,od,.func (W.fnOf name ac params body scope dV kV bV pm an ap ct),eZ⟩)(cZ:W.codeIn Ξ ap ac=true)(S:q01 N ps scope)(len:∀vs H Q E,sp vs H Q E->vs.length=ps.length)(aC:∀(A:Around)(outer:List Env)(s:Shared)(H:Hp)(vs:List V)(Q:VK)(E:XK),Room k (A.deeper (envOfC ac scope s.heap.objs.size f ap))->sp vs H Q E ->
   ∃t,PSs (cxOf CX P w Ξ mg base N ac scope f ap A outer s H E) body t/\t { nx:=λ_ H'=>Q .non H',rt:=Q } (start N vs) H):
  FnOk P w Ξ mg base CX (k+1) f (W.fnOf name ac params body scope dV kV bV pm an ap ct) ps sp:=by
 refine⟨len,λA outer s H args us vs Q E hr e0 hb r da=>?_⟩;have hl:=len _ _ _ _ da;have KX:=e0.mod.kin.keeps λb o e=>(e0.bs b o e).1;have lim:=e0.mod.nolimit.keeps λb o e=>(e0.bs b o e).1;have gQ:∀y∈ps.zip us,scope.names.lookup y.1=some .local\/(scope.names.lookup y.1=some .cell/\((cellsFrom (s.heap.objs.size+1) scope.names []).lookup y.1).isSome=true):=λ⟨n,v⟩ hy=>by
  rcases S.par n (Bv hy).1 with q|q
  ·exact .inl q
  ·exact .inr ⟨q,Bp _ _ _ (.inl q)⟩
 refine codeAny_call_function hr.depth (KX _ _ lk) rfl S.co S.gen rfl (W.codeRec_of KX cZ) (hb _ _ _ _ ?_);refine wpAny_newFunctionEnv_cells S.kind gQ λenv he s1 x=>?_;subst he;refine⟨lim.keeps x.toInCall.keep,codeAny_func ?_⟩;obtain⟨t,ht,hq⟩:=aC A outer s H vs Q E (hr.deeper _) da;have I:Inv (cxOf CX P w Ξ mg base N ac scope f ap A outer s H E) [] _ H s1:=GC S hr.hd e0 hl r x;refine Uj (ht [] s1 _ H _ I hq) (λfl s' hs=>?_) λe s' hs=>hs;have fin:∀{ah:St}{H':Hp}{v:V}{u:Value},Inv (cxOf CX P w Ξ mg base N ac scope f ap A outer s H E) [] ah H' s'->RelV v u->Q v H'->CE outer P w H s Q u s' :=
  λ{ah H' v u} J rv q=>⟨v,H',J.os,J.bare,J.base,J.hok,rv,q⟩
 cases fl with
 |ret u=>
  obtain⟨v,ah,H',J,rv,q⟩:=hs;exact fin J rv q
 |next=>
  obtain⟨ah,H',J,q⟩:=hs;exact fin (v:=V.non) J rfl q
 |brk=>
  obtain⟨_,_,_,q⟩:=hs;exact False.elim q
 |cont=>
  obtain⟨_,_,_,q⟩:=hs;exact False.elim q
section
variable {X:Cx}{x:Str}{p pos:Pos}{e:Expr}{es:List Expr}{t:TA}{id T:String}{r:List V->Hp->VK->Prop}
def tCB(r:List V->Hp->VK->Prop)(t:TA):TE:=λσ H Q=>t σ H λvs H1=>r vs H1 Q
end
end L2
namespace HT
open PySem PyProof.Rows
section
variable {prog:Program}{w:World}{A:Around}{E:Value->Shared->Prop}{s:Shared}
theorem cat_tup(ht:IsTup s.heap t vs.toArray)(hb:IsTup s.heap b ws.toArray)(hv:vs≠[])(h1:ws=[]->Q (.ref t) s)(h2:ws≠[]->Q (.ref s.heap.objs.size) { s with heap:=s.heap.push { cls:=.type "tuple", data:=.seq (vs++ws).toArray } })(dY:vs.length+ws.length<=sizeLine):wpAny (model prog w) A (binaryOp .Add (.ref t) (.ref b)) Q E s:=by
 obtain⟨⟨cls,dd,data,sl⟩,ho,hc,n,hd⟩:=id ht;obtain⟨⟨lG,iI,data2,eT⟩,fJ,gR,n2,dG⟩:=id hb;simp only at hc hd gR dG;subst hc hd gR dG;have e:vs.toArray++ws.toArray=(vs++ws).toArray:=by simp
 by_cases hw:ws=[]
 ·exact concat_meets ⟨_,ho,rfl⟩ ⟨_,fJ,rfl⟩ U5 seq_tuple_add PySem.F.slot_tuple_add PySem.F.entry_tuple_add (PySem.F.args_tuple_add_2 _ _)
   (tuple_addW1 t b vs.toArray ws.toArray n n2 dd iI sl eT (by simpa using hv) (by simp[hw])) ⟨ho,fJ,h1 hw⟩
 ·refine concat_meets ⟨_,ho,rfl⟩ ⟨_,fJ,rfl⟩ U5 seq_tuple_add PySem.F.slot_tuple_add PySem.F.entry_tuple_add (PySem.F.args_tuple_add_2 _ _)
   (tuple_addW2 t b vs.toArray ws.toArray n n2 dd iI sl eT (by simpa using hv) (by simpa using hw) (by rw[Du,Du];exact dY)) ⟨ho,fJ,?_⟩
  rw[e];exact h2 hw
noncomputable def sIx(n d:Nat):Option Int->Nat
 |none=>d
 |some v=>if v<0 then(v+(n:Int)).toNat else min v.toNat n
theorem sIx_nat(n d k:Nat):sIx n d (some (k:Int))=min k n:=by
 rfl
theorem qai(v:Int)(n d:Nat):(if v<0 then max (v+(n:Int)) 0 else min v (n:Int))=((sIx n d (some v):Nat):Int):=by
 show _=(((if v<0 then(v+_).toNat else min v.toNat n):Nat):Int)
 lia
theorem K8(lo hi:Option Int)(n:Nat):Builtin.Slice.sliceAdjust lo hi 1 (n:Int)=(((sIx n 0 lo:Nat):Int),((sIx n n hi:Nat):Int)):=by
 have h1:=by lia
 unfold Builtin.Slice.sliceAdjust;refine Prod.ext ?_ ?_
 ·cases lo with
  |none=>rfl
  |some v=>exact qai v n 0
 ·cases hi with
  |none=>rfl
  |some v=>exact qai v n n
theorem KB(i j:Nat):Builtin.Slice.slicePlaces (i:Int) (j:Int) 1=j-i:=by
 unfold Builtin.Slice.slicePlaces
 lia
theorem Qg(p:IsPart v o)(h:Q o s):wpAny (model prog w) A (Builtin.Slice.slicePartIndex v) Q E s:=by
 cases p with
 |none=>exact slicePart_none h
 |int i t=>exact slicePart_int h
theorem zQ{sl:Addr}{vl vu:Value}{lo hi:Option Int}{n:Nat}(hs:s.heap.IsSliceOf sl vl vu .none)(pl:IsPart vl lo)(pu:IsPart vu hi)(h:Q (((sIx n 0 lo:Nat):Int),1,sIx n n hi-sIx n 0 lo) s):wpAny (model prog w) A (Builtin.Slice.sliceApplied (.ref sl) (pure (n:Int))) Q E s:=by
 obtain⟨os,fK,gU,hds⟩:=id hs;refine Ug (Ug (UH fK hds (x:=vl) rfl (Ug (UH fK hds (x:=vu) rfl (Ug (UH fK hds (x:=.none) rfl (Uh ?_)))))));refine Ug (slicePart_none ?_);refine Ug (Qg pl (Ug (Qg pu (Ug (Uh ?_)))));show wpAny _ _ (match Builtin.Slice.sliceAdjust lo hi 1 _ with|(lo,hi)=>pure (lo,_,Builtin.Slice.slicePlaces lo hi 1)) _ _ s;rw[K8 lo hi n];show wpAny _ _ (pure _) _ _ s;rw[KB];exact Uh h
theorem q12(xs:Array Value)(i k:Nat):((List.range k).filterMap λ(m:Nat)=>xs[((i:Int)+(m:Int)*1).toNat]?).toArray=((xs.toList.drop i).take k).toArray:=by
 have e:(λ(m:Nat)=>xs[(i+(m:Int)*1).toNat]?)=λm=>xs[i+m]?:=by
  funext m;have:((i:Int)+(m:Int)*1).toNat=i+m:=by lia
  rw[this]
 rw[e];have:=pick_run xs i k;rw[List.filterMap_map]at this;have e2:(_ ∘ λx=>i+x)=λm=>xs[i+m]?:=rfl;rw[e2]at this;rw[this]
theorem getItem_tuple_cut{lo hi:Option Int}(ht:IsTup s.heap t items)(hs:s.heap.IsSliceOf sl vl vu .none)(pl:IsPart vl lo)(pu:IsPart vu hi)(hw:¬(sIx items.size 0 lo=0/\sIx items.size items.size hi=items.size))(h:Q (.ref s.heap.objs.size) { s with heap:=s.heap.push { cls:=.type "tuple", data:=.seq ((items.toList.drop (sIx items.size 0 lo)).take (sIx items.size items.size hi-sIx items.size 0 lo)).toArray } })(dY:items.size<=sizeLine):wpAny (model prog w) A (getItem (.ref t) (.ref sl)) Q E s:=by
 have gV:=by
  show((items.toList.drop (sIx items.size 0 lo)).take (sIx items.size items.size hi-sIx items.size 0 lo)).toArray.size<=sizeLine;rw[Du,D0,Bn,BI];lia
 obtain⟨os,fK,gU,hds⟩:=id hs;have lH:s.TypeIs (.ref sl) "slice" := ⟨os,fK,gU⟩;unfold getItem
 try with_reducible refine Up ?_
 refine Ug (wpAny_sequenceKey ht.typeIs (by decide) ?_);refine Ug (wpAny_callSpecial?_slot ht.typeIs PyProof.Rows.slot_tuple_getitem
  (UV PyProof.Rows.slot_tuple_getitem ht.typeIs entry_tuple_getitem ?_ (args_tuple_getitem _ _)))
 show wpAny _ _ (Builtin.Tuple.tupleItemsOf (.ref t) >>= _) _ _ s;refine Ug (tupleItemsOf_ ht ?_);refine Ug (U7 lH ?_);rw[Ul (by decide)];refine Ug (zQ hs pl pu ?_);have db:¬((((sIx items.size 0 lo:Nat):Int)==0&&(1:Int)==1&&(sIx items.size items.size hi-sIx items.size 0 lo)==items.size)=true):=by
  lia
 show wpAny _ _ (if _=true then _ else _) _ _ s;rw[Ui db,q12]
 first
  |exact Ug (m:=Builtin.Tuple.tupleExact _) (UJ (Uh ⟨_,rfl,Uh h⟩) gV)
  |exact Ug (m:=Builtin.Tuple.tupleExact _) _
  |exact Ug _
  |exact Ug _
end
end HT
namespace L2
open PySem PySem.Spec PyProof.Rows
abbrev TO:=St->Hp->(Option Int->Hp->Prop)->Prop
def PO(X:Cx)(e:Option Expr)(t:TO):Prop :=
 ∀(a4:List (Addr×Obj))(s:Shared)(σ:St)(H:Hp)(Q:Option Int->Hp->Prop),Inv X a4 σ H s->t σ H Q ->
  wpAny (model X.prog X.w) X.A (evalPart e X.env) (λu s'=>∃o H',Inv X a4 σ H' s'/\IsPart u o/\Q o H') X.xe s
def zT:TO:=λ_ H Q=>Q none H
def VR(t:TE):TO:=λσ H Q=>t σ H λx H1=>∃i,x=.int i/\Q (some i) H1
theorem QL:∀{us:List Value},Vals (ns.map V.int) us->IntsAre us ns:=by
 induction ns with
 |nil=>intro us r;cases r;exact .nil
 |cons n ns ih=>
  intro us r;cases r with
  |cons r1 r2=>
   obtain⟨t,e⟩:=r1;subst e;exact .cons n t (ih r2)
def SlR(X:Cx)(r:V->Option Int->Option Int->Hp->VK->Prop):Prop :=
 ∀(a4:List (Addr×Obj))(s:Shared)(σ:St)(H:Hp)(x:V)(v vl vu:Value)(lo hi:Option Int)(sl:Addr)(Q:VK),Inv X a4 σ H s->RelV x v->s.heap.IsSliceOf sl vl vu .none->IsPart vl lo->IsPart vu hi->r x lo hi H Q ->
  ∃T id,typeLookup (.type T) "__getitem__" = pure (some (.builtin id))/\s.TypeIs v T/\wpAny (model X.prog X.w) X.A (getItem v (.ref sl)) (EP X a4 σ Q) X.xe s
def tSl(r:V->Option Int->Option Int->Hp->VK->Prop)(te:TE)(tl th:TO):TE:=λσ H Q=>te σ H λx H1=>tl σ H1 λl H2=>th σ H2 λu H3=>r x l u H3 Q
noncomputable def cutV(xs:List V)(lo hi:Option Int):List V:=(xs.drop (HT.sIx xs.length 0 lo)).take (HT.sIx xs.length xs.length hi-HT.sIx xs.length 0 lo)
theorem kR(xs:List V)(lo hi:Option Int):(cutV xs lo hi).length<=xs.length:=by
 unfold cutV;rw[D0,Bn];lia
def rSlT(Ξ:PySem.W.Frag):V->Option Int->Option Int->Hp->VK->Prop:=λx lo hi H Q=>∃a xs,x=.ref a/\SqT Ξ H a xs /\
 ¬(HT.sIx xs.length 0 lo=0/\HT.sIx xs.length xs.length hi=xs.length)/\∀p,H p=none->Q (.ref p) (upd H p (.tup (cutV xs lo hi)))
theorem q7g:SlR X (rSlT X.K):=by
 intro a4 s σ H x v vl vu lo hi sl Q I rx hs pl pu h;obtain⟨a,xs,rfl,hx,hw,q⟩:=h;cases rx;obtain⟨its,r,ht,hz⟩:=I.tuple hx;have au:its.toArray.size=xs.length:=by exact r.length.symm
 refine⟨"tuple", _,PyProof.Rows.slot_tuple_getitem.lookup,ht.typeIs,?_⟩;refine HT.getItem_tuple_cut ht hs pl pu (by rw[au];exact hw) ?_ (by rw[au];exact hz);rw[au];refine⟨.ref s.heap.objs.size,_,I.laid (t':=s.toks) (λb ob q=>Heap.get?_push_of_some _ q) (Dk _) ?_,rfl,q _ (I.hok.fresh (Dk _))⟩;exact⟨DA (kR xs lo hi) hz,_,(r.drop _).take _,IsTup.new _ _⟩
theorem Vals.nil_iff(r:Vals xs us):us=[]↔xs=[]:=by
 cases r with
 |nil=>simp
 |cons _ _=>simp
noncomputable def ixN(n:Nat)(i:Int):Option Nat:=if 0<=i then(if i<n then some i.toNat else none) else if -(n:Int)<=i then some (i+n).toNat else none
noncomputable def atI{α:Type}(xs:List α)(i:Int):Option α:=(ixN xs.length i).bind λj=>xs[j]?
theorem Gx(h:ixN n i=some j):seqIndex? i n=some j/\j<n /\ -(n:Int)<=i/\i<n:=by
 unfold ixN at h;by_cases h0:0<=i
 ·rw[Ul h0]at h
  by_cases h1:i<n
  ·rw[Ul h1]at h
   have e:=Option.some.inj h;exact⟨by rw[seqIndex_of h0 h1,e],by lia,by lia,h1⟩
  ·rw[Ui h1]at h;cases h
 ·rw[Ui h0]at h
  by_cases h1 : -n<=i
  ·rw[Ul h1]at h
   have e:=Option.some.inj h;exact⟨by rw[seqIndex_neg (by lia) h1,e],by lia,h1,by lia⟩
  ·rw[Ui h1]at h;cases h
theorem qaC{α:Type}{xs:List α}{i:Int}{v:α}(h:atI xs i=some v):∃j,seqIndex? i xs.length=some j/\xs[j]?=some v/\j<xs.length /\ -(xs.length:Int)<=i/\i<xs.length:=by
 unfold atI at h;cases e:ixN xs.length i with
 |none=>rw[e]at h;cases h
 |some j=>
  obtain⟨h1,h2,h3,h4⟩:=Gx e
  grind
theorem jz{α:Type}{xs:List α}{j:Nat}{v:α}(h:xs[j]?=some v):atI xs (j:Int)=some v:=by
 have hj:=(Dc.mp h).1;have e:ixN xs.length j=some j:=by
  unfold ixN;rw[Ul (by lia),Ul (by lia)];simp
 unfold atI;rw[e];exact h
def Jc(b:Expr):Prop:=∀o i,subscripted b false o i=operate [o,i] (getItem o i)
def IxR(X:Cx)(r:R2):Prop :=
 ∀(value bR:Expr)(a4:List (Addr×Obj))(s:Shared)(σ:St)(H:Hp)(x y:V)(v u:Value)(Q:VK),Inv X a4 σ H s->RelV x v->RelV y u->r x y H Q ->
  subscripted bR false v u=operate [v,u] (getItem v u)->wpAny (model X.prog X.w) X.A (subscriptTail value bR v u) (EP X a4 σ Q) X.xe s
def MtR(X:Cx)(id:String)(r:V->List V->Hp->VK->Prop):Prop :=
 ∀(a4:List (Addr×Obj))(s:Shared)(σ:St)(H:Hp)(x:V)(xs:List V)(v:Value)(us:List Value)(Q:VK),Inv X a4 σ H s->RelV x v->Vals xs us->r x xs H Q ->
  wpAny (model X.prog X.w) X.A (call (.builtin id) (v::us)) (EP X a4 σ Q) X.xe s
section
def rIxL(Ξ:PySem.W.Frag):R2:=λx y H Q=>∃p xs i v,x=.ref p/\y=.int i/\SqL Ξ H p xs/\atI xs i=some v/\Q v H
def rIxT(Ξ:PySem.W.Frag):R2:=λx y H Q=>∃p xs i v,x=.ref p/\y=.int i/\SqT Ξ H p xs/\atI xs i=some v/\Q v H
theorem q4F:IxR X (rIxL X.K):=by
 intro value bR a4 s σ H x y v u Q I rx ry h hs;obtain⟨p,xs,i,z,rfl,rfl,hq,he,q⟩:=h;cases rx;obtain⟨t,rfl⟩:=ry;obtain⟨its,r,pl,hz⟩:=I.list hq;obtain⟨j,h1,h2,h3,h4,h5⟩:=qaC he;obtain⟨w,ew,df⟩:=r.get h2;have hl:=r.length;have hn:=Zo;have fin:EP X a4 σ Q w s:=⟨z,H,I,df,q⟩;by_cases h0:0<=i
 ·have hj:i.toNat=j:=by
   rw[seqIndex_of h0 h5]at h1;exact Option.some.inj h1
  exact item_listR pl.isList h0 (by lia) (by rw[hj];simpa using ew) fin hs
 ·have hj:(i+its.toArray.size).toNat=j:=by
   rw[seqIndex_neg (by lia) h4]at h1;rw[Du, <-hl];exact Option.some.inj h1
  exact subscriptTail_builtinR pl.isList.typeIs slot_list_getitem.lookup
   (wpAny_getItem_list_neg pl.isList (by lia) (by grind) (by lia) (by rw[hj];simpa using ew) ⟨rfl,fin⟩) hs
theorem q7p:IxR X (rIxT X.K):=by
 intro value bR a4 s σ H x y v u Q I rx ry h hs;obtain⟨p,xs,i,z,rfl,rfl,hq,he,q⟩:=h;cases rx;obtain⟨t,rfl⟩:=ry;obtain⟨its,r,pl,hz⟩:=I.tuple hq;obtain⟨j,h1,h2,h3,h4,h5⟩:=qaC he;obtain⟨w,ew,df⟩:=r.get h2;have hl:=r.length;have hn:=Zo;have fin:EP X a4 σ Q w s:=⟨z,H,I,df,q⟩;exact subscriptTail_builtinR pl.typeIs slot_tuple_getitem.lookup
  (getItem_tuple (j:=j) pl (by lia) (by lia) (by rw[Du, <-hl];exact h1) (by simpa using ew) ⟨rfl,fin⟩) hs
theorem KY(its:List Value)(n j:Nat)(u:Value):Obj.mapSeq (·.setIfInBounds j u) { cls:=.type "list", data:=.seq its.toArray n }={ cls:=.type "list", data:=.seq (its.set j u).toArray n }:=by
 simp[Obj.mapSeq]
theorem Inv.lst(I:Inv X a4 σ H s)(h:H p=some (.lst xs)):
  ∃(its:List Value)(n:Nat),Vals xs its/\s.heap.get? p=some { cls:=.type "list", data:=.seq its.toArray n }/\xs.length<=sizeLine:=by
 obtain⟨z,its,n,r,e⟩:=I.hok p _ h;exact⟨its,n,r,e,z⟩
theorem Inv.lstUpd{its its':List Value}(I:Inv X a4 σ H s)(h:H p=some (.lst xs))(ho:s.heap.get? p=some { cls:=.type "list", data:=.seq its.toArray n })(hf:f { cls:=.type "list", data:=.seq its.toArray n }={ cls:=.type "list", data:=.seq its'.toArray n' })(r:Vals ys its')(hz:ys.length<=sizeLine)(t:Nat):
  Inv X a4 σ (upd H p (.lst ys)) { s with heap:=s.heap.update p f,toks:=t }:=by
 have e:(s.heap.update p f).get? p=some { cls:=.type "list", data:=.seq its'.toArray n' }:=by
  rw[Heap.get?_update_self f ho (by rw[hf]<;>rfl),hf]
 refine I.write (by rw[h];trivial) (.inl rfl) (λb u hb q=>(Heap.get?_update_other _ _ (Ne.symm hb)).trans q) ⟨_,e⟩ ?_;exact⟨hz,its',n',r,e⟩
def Y0:V->V->V->Hp->(Hp->Prop)->Prop:=λo i v H Q=>∃p xs k j,o=.ref p/\i=.int k/\H p=some (.lst xs)/\ixN xs.length k=some j/\Q (upd H p (.lst (xs.set j v)))
theorem qL:PSet X Y0:=by
 intro a4 s σ H o i v ov iv u Q I ro ri rv h;obtain⟨p,xs,k,j,rfl,rfl,hp,hj,q⟩:=h;cases ro;obtain⟨t,rfl⟩:=ri;obtain⟨its,n,r,ho,hz⟩:=I.lst hp;obtain⟨h1,h2,h3,h4⟩:=Gx hj;have hl:=r.length;have hn:=Zo;have I' :=
  I.lstUpd hp ho (KY its n j u) (r.set rv j) (by rw[Do];exact hz) s.toks
 by_cases h0:0<=k
 ·have hk:k.toNat=j:=by
   rw[seqIndex_of h0 h4]at h1;exact Option.some.inj h1
  exact W.ki_setAt ho h0 (by lia) (by rw[Du, <-hl];exact h4) (by rw[hk];exact⟨_,I',q⟩)
 ·have hk:(k+its.toArray.size).toNat=j:=by
   rw[seqIndex_neg (by lia) h3]at h1;rw[Du, <-hl];exact Option.some.inj h1
  exact W.ki_setBack ho (by lia) (by rw[Du, <-hl];exact h3) (by lia) (by rw[hk];exact⟨_,I',q⟩)
theorem VU(lo hi:Option Int)(n:Nat):(sliceBounds lo hi none n).1=((HT.sIx n 0 lo:Nat):Int)/\(sliceBounds lo hi none n).2.1=((HT.sIx n n hi:Nat):Int)/\(sliceBounds lo hi none n).2.2=1:=by
 refine⟨?_,?_,rfl⟩
 ·cases lo with
  |none=>simp[sliceBounds,HT.sIx]
  |some i=>
   simp only[sliceBounds,HT.sIx,Option.getD_none]
   lia
 ·cases hi with
  |none=>simp[sliceBounds,HT.sIx]
  |some i=>
   simp only[sliceBounds,HT.sIx,Option.getD_none]
   lia
theorem Q7(its:List Value)(lo hi:Option Int):slicePick its.toArray lo hi none=((its.drop (HT.sIx its.length 0 lo)).take (HT.sIx its.length its.length hi-HT.sIx its.length 0 lo)).toArray:=by
 obtain⟨h1,h2,h3⟩:=VU lo hi its.toArray.size;unfold slicePick;rw[h1,h2,h3];simp only[sliceRange_one,pick_run]<;>rfl
def rSlL(Ξ:PySem.W.Frag):V->Option Int->Option Int->Hp->VK->Prop:=λx lo hi H Q=>∃a xs,x=.ref a/\SqL Ξ H a xs/\∀p,H p=none->Q (.ref p) (upd H p (.lst (cutV xs lo hi)))
theorem q4y:SlR X (rSlL X.K):=by
 intro a4 s σ H x v vl vu lo hi sl Q I rx hs pl pu h;obtain⟨a,xs,rfl,hx,q⟩:=h;cases rx;obtain⟨its,r,ht,hz⟩:=I.list hx;have au:=r.length;refine⟨"list", _,slot_list_getitem.lookup,ht.isList.typeIs,?_⟩;refine wpAny_getItem_list_slice ht.isList hs pl pu .none (by simp) ?_ (by grind);rw[Q7, <-au];refine⟨.ref s.heap.objs.size,_,I.laid (t':=s.toks) (λb ob q=>Heap.get?_push_of_some _ q) (Dk _) ?_,rfl,q _ (I.hok.fresh (Dk _))⟩;exact⟨DA (kR xs lo hi) hz,_,0,(r.drop _).take _,Heap.get?_push_size _ rfl⟩
noncomputable def jQ:V->Bool
 |.non=>true
 |.bl _=>true
 |.int _=>true
 |.str _=>true
 |_=>false
noncomputable def eqV:V->V->Bool
 |.non,.non=>true
 |.bl a,.bl b=>a==b
 |.bl a,.int b=>(if a then 1 else 0)==b
 |.int a,.bl b=>a==(if b then 1 else 0)
 |.int a,.int b=>a==b
 |.str a,.str b=>a==b
 |_,_=>false
theorem ZH(ry:RelV y u)(rx:RelV x v)(fy:jQ y=true)(fx:jQ x=true):SeqAt.EqAt A s u v (eqV y x):=by
 cases y with
 |non=>
  cases ry;cases x with
  |non=>cases rx;exact SeqAt.EqAt.same _
  |bl b=>cases rx;exact SeqAt.EqAt.none_bool b
  |int b=>obtain⟨t,rfl⟩:=rx;exact SeqAt.EqAt.none_int b t
  |str b=>obtain⟨t,rfl⟩:=rx;exact SeqAt.EqAt.none_str b t
  |_=>exact absurd (show false=true from fx) Dt
 |bl a=>
  cases ry;cases x with
  |non=>cases rx;exact SeqAt.EqAt.bool_none a
  |bl b=>cases rx;exact SeqAt.EqAt.bool_bool a b
  |int b=>obtain⟨t,rfl⟩:=rx;exact SeqAt.EqAt.bool_int a b t
  |str b=>obtain⟨t,rfl⟩:=rx;exact SeqAt.EqAt.bool_str a b t
  |_=>exact absurd (show false=true from fx) Dt
 |int a=>
  obtain⟨t',rfl⟩:=ry;cases x with
  |non=>cases rx;exact SeqAt.EqAt.int_none a t'
  |bl b=>cases rx;exact SeqAt.EqAt.int_bool a t' b
  |int b=>obtain⟨t,rfl⟩:=rx;exact SeqAt.EqAt.int_int a t' b t
  |str b=>obtain⟨t,rfl⟩:=rx;exact SeqAt.EqAt.int_str a t' b t
  |_=>exact absurd (show false=true from fx) Dt
 |str a=>
  obtain⟨t',rfl⟩:=ry;cases x with
  |non=>cases rx;exact SeqAt.EqAt.str_none a t'
  |bl b=>cases rx;exact SeqAt.EqAt.str_bool a t' b
  |int b=>obtain⟨t,rfl⟩:=rx;exact SeqAt.EqAt.str_int a t' b t
  |str b=>obtain⟨t,rfl⟩:=rx;exact SeqAt.EqAt.str_str a t' b t
  |_=>exact absurd (show false=true from fx) Dt
 |_=>exact absurd (show false=true from fy) Dt
noncomputable def eqU(x:V)(u:Value):Bool:=match u with
 |.none=>eqV .non x
 |.bool b=>eqV (.bl b) x
 |.int i _=>eqV (.int i) x
 |.str z _=>eqV (.str z) x
 |_=>false
theorem q2g(r:RelV y u)(f:jQ y=true):eqU x u=eqV y x:=by
 cases y with
 |non=>cases r;rfl
 |bl b=>cases r;rfl
 |int i=>obtain⟨t,rfl⟩:=r;rfl
 |str z=>obtain⟨t,rfl⟩:=r;rfl
 |_=>exact absurd f Dt
theorem Ja:∀{xs:List V}{us:List Value},Vals xs us->xs.all jQ=true->us.any (eqU x)=xs.any λy=>eqV y x
 |_,_,.nil,_=>rfl
 |y::xs,u::us,.cons r t,f=>by
  rw[Bi,RP]at f;rw[Rk,Rk,q2g r f.1,Ja t f.2]
theorem Vj(rx:RelV x v)(fx:jQ x=true):∀{xs:List V}{us:List Value},Vals xs us->xs.all jQ=true->∀u∈us,SeqAt.EqAt A s u v (eqU x u)
 |_,_,.nil,_=>λu hu=>by cases hu
 |y::xs,u::us,.cons r t,f=>λu' hu=>by
  rw[Bi,RP]at f;rcases Dl.mp hu with rfl|hu
  ·rw[q2g r f.1];exact ZH r rx f.1 fx
  ·exact Vj rx fx t f.2 u' hu
noncomputable def inV(x:V)(xs:List V):Bool:=xs.any λy=>eqV y x
def rIn(Ξ:PySem.W.Frag)(neg:Bool):R2:=λx y H Q=>∃p xs,y=.ref p/\(SqL Ξ H p xs\/SqT Ξ H p xs)/\jQ x=true/\xs.all jQ=true/\Q (.bl (if neg then !inV x xs else inV x xs)) H
theorem WC:OpR X (compareOp .In) (rIn X.K false):=by
 intro a4 s σ H x y v u Q I rx ry h;obtain⟨p,xs,rfl,hq,fx,fs,q⟩:=h;cases ry;rcases hq with hq|hq
 ·obtain⟨its,r,pl,hz⟩:=I.list hq
  refine SeqAt.in_listAt _ pl.isList (λw hw=>Vj rx fx r fs w (by grind)) ⟨.bl _,H,I,rfl,?_⟩;rw[show its.toArray.any _=its.any (eqU x) by simp,Ja r fs];exact q
 ·obtain⟨its,r,pl,hz⟩:=I.tuple hq
  refine SeqAt.in_tupleAt _ pl (λw hw=>Vj rx fx r fs w (by grind)) ⟨.bl _,H,I,rfl,?_⟩;rw[show its.toArray.any _=its.any (eqU x) by simp,Ja r fs];exact q
theorem jM:xk X (.builtin "len") (λxs H Q=>∃p ys,xs=[.ref p]/\(SqL X.K H p ys\/SqT X.K H p ys)/\Q (.int ys.length) H):=by
 intro a4 s σ H xs us Q I r h;obtain⟨p,ys,rfl,hq,q⟩:=h;obtain⟨u,rfl,rx⟩:=VL r;cases rx;have hn:=Zo;rcases hq with hq|hq
 ·obtain⟨its,r',pl,hz⟩:=I.list hq
  have au:=r'.length;exact Calls.call_len_list pl.isList (by grind) ⟨.int ys.length,H,I.tok _,⟨s.toks+1,by rw[Du,au]⟩,q⟩
 ·obtain⟨its,r',pl,hz⟩:=I.tuple hq
  have au:=r'.length;exact len_tuple pl (by grind) ⟨.int ys.length,H,I.tok _,⟨s.toks+1,by rw[Du,au]⟩,q⟩
theorem vc:xk X (.type "list") (λxs H Q=>∃p ys,xs=[.ref p]/\(SqL X.K H p ys\/SqT X.K H p ys)/\∀l,H l=none->Q (.ref l) (upd H l (.lst ys))):=by
 intro a4 s σ H xs us Q I r h;obtain⟨p,ys,rfl,hq,q⟩:=h;obtain⟨u,rfl,rx⟩:=VL r;cases rx;have fin:∀its,Vals ys its->ys.length<=sizeLine->∀h' c',_ ->
   h'.get? s.heap.objs.size=some { cls:=.type "list", dict:=none,data:=.seq its.toArray c',slots:=#[] }->EP X a4 σ Q _ { s with heap:=h' }:=λits r' hz h' c' kp e=>
  ⟨.ref s.heap.objs.size,_,I.laid (t':=s.toks) kp (Dk _) (show ObjOk X.prog X.w _ h' _ (.lst ys) from⟨hz,its,c',r',e⟩),rfl,q _ (I.hok.fresh (Dk _))⟩
 rcases hq with hq|hq
 ·obtain⟨its,r',pl,hz⟩:=I.list hq
  have au:=r'.length;obtain⟨o,ho,hc,n,hd⟩:=pl.isList;exact call_list_seq p (.inl rfl) ho hc hd (λh' c' kp e=>fin its r' hz h' c' kp e) (by grind)
 ·obtain⟨its,r',pl,hz⟩:=I.tuple hq
  have au:=r'.length;obtain⟨o,ho,hc,n,hd⟩:=pl;exact call_list_seq p (.inr rfl) ho hc hd (λh' c' kp e=>fin its r' hz h' c' kp e) (by grind)
def tyV(Ξ:PySem.W.Frag)(T:String)(x:V)(H:Hp):Prop:=match x with
 |.str _=>T = "str"
 |.int _=>T = "int"
 |.ref p=>(T = "list" /\ ∃xs,SqL Ξ H p xs)\/(T = "tuple" /\ ∃o,Ξ.lookup p=some o/\o.cls=.type "tuple" /\ o.dict=none) \/
   (T = "dict" /\ ((∃kvs,H p=some (.dK kvs))\/∃kvs,H p=some (.dT kvs)))\/(T = "set" /\ ∃S n,H p=some (.set S n))
 |_=>False
theorem Yp{T:String}(I:Inv X a4 σ H s)(r:RelV x v)(ty:tyV X.K T x H):
  s.TypeIs v T/\∀a,v=.ref a->∃ob,s.heap.get? a=some ob/\ob.dict=none:=by
 cases x with
 |str z=>
  obtain⟨t,rfl⟩:=r;cases ty;exact⟨typeIs_str s z t,λ_ e=>nomatch e⟩
 |int i=>
  obtain⟨t,rfl⟩:=r;cases ty;exact⟨typeIs_int s i t,λ_ e=>nomatch e⟩
 |ref p=>
  cases r;rcases ty with⟨rfl,xs,hq⟩|⟨rfl,o,hk,hc,hd⟩|⟨rfl,hk⟩|⟨rfl,S,n,hk⟩
  ·obtain⟨its,_,pl,_⟩:=I.list hq
   refine⟨pl.isList.typeIs,λa e=>?_⟩;obtain⟨o,n,e,c,hd,_⟩:=pl
   grind
  ·refine⟨⟨o,I.kIn p o hk,hc⟩,λa e=>?_⟩
   cases e;exact⟨o,I.kIn _ o hk,hd⟩
  ·have z:∃o,s.heap.get? p=some o/\o.ExactDict:=by
    rcases hk with⟨kvs,hk⟩|⟨kvs,hk⟩
    ·obtain⟨_,_,_,_,o,_,_,e,ex,_⟩:=I.hok p _ hk
     grind
    ·obtain⟨_,_,_,_,o,_,_,e,ex,_⟩:=I.hok p _ hk
     grind
   obtain⟨o,e,ex⟩:=z;refine⟨⟨o,e,ex.1⟩,λa e2=>?_⟩;cases e2;exact⟨o,e,ex.2.1⟩
  ·obtain⟨o,_,_,_,e,ex,_⟩:=I.hok p _ hk
   refine⟨⟨o,e,ex.1⟩,λa e2=>?_⟩;cases e2;exact⟨o,e,ex.2.1⟩
 |_=>exact False.elim ty
def tBM0(Ξ:PySem.W.Frag)(T:String)(r:V->List V->Hp->VK->Prop)(to:TE):TE:=λσ H Q=>to σ H λx H1=>tyV Ξ T x H1/\r x [] H1 Q
def tBM(Ξ:PySem.W.Frag)(T:String)(r:V->List V->Hp->VK->Prop)(to:TE)(t:TA):TE:=λσ H Q=>to σ H λx H1=>tyV Ξ T x H1/\t σ H1 λxs H2=>r x xs H2 Q
variable {o e:Expr}{es:List Expr}{to:TE}{t:TA}{name:Str}{aF ax:Pos}{T id:String}{r:V->List V->Hp->VK->Prop}
end
def MtM(X:Cx)(id:String)(r:V->List V->Hp->VK->Prop):Prop :=
 ∀(a4:List (Addr×Obj))(s:Shared)(σ:St)(H:Hp)(x:V)(xs:List V)(v:Value)(us:List Value)(Q:VK),Inv X a4 σ H s->RelV x v->Vals xs us->r x xs H Q ->
  wpAny (model X.prog X.w) X.A (call (.builtin id) (v::us)) (EP X a4 σ Q) X.xe s
theorem Vals.one:∀{x:V}{us:List Value},Vals [x] us->∃u,us=[u]/\RelV x u
 |_,_,.cons r .nil=>⟨_,rfl,r⟩
theorem Vals.zero:∀{us:List Value},Vals [] us->us=[]
 |_,.nil=>rfl
theorem Vals.dropLast(h:Vals xs us):Vals xs.dropLast us.dropLast:=by
 induction h with
 |nil=>exact .nil
 |cons r t ih=>
  cases t with
  |nil=>exact .nil
  |cons q t'=>exact .cons r ih
theorem Vals.eraseIdx:∀{xs:List V}{us:List Value}(i:Nat),Vals xs us->Vals (xs.eraseIdx i) (us.eraseIdx i)
 |_,_,_,.nil=>.nil
 |_,_,0,.cons _ t=>t
 |_,_,i+1,.cons r t=>.cons r (Vals.eraseIdx i t)
theorem Vals.rep(h:Vals xs us):∀k:Nat,Vals (List.replicate k xs).flatten (List.replicate k us).flatten
 |0=>.nil
 |k+1=>by
  exact Vals.append h (Vals.rep h k)
theorem K4{α:Type}(l:List α):l.eraseIdx (l.length-1)=l.dropLast:=by
 grind
theorem Zp{α:Type}:∀(l:List α)(i:Nat),(l.eraseIdx i).length<=l.length
 | [],_=>Dk _
 |_::_,0=>Bh _
 |_::r,i+1=>Rn (Zp r i)
theorem ZF(its:List Value):∀(k:Nat)(a7:List Value),
  List.foldl (λx1 x2=>x1++x2) a7.toArray (List.replicate k its.toArray)=(a7++(List.replicate k its).flatten).toArray
 |0,a7=>by simp
 |k+1,a7=>by
  have e:a7.toArray++its.toArray=(a7++its).toArray:=by simp
  have e2:(a7++its)++(List.replicate k its).flatten=a7++(List.replicate (k+1) its).flatten:=by
   rw[BK,List.flatten_cons,DC]
  rw[<-e2, <-ZF its k _, <-e,BK,List.foldl_cons]
theorem Inv.lset{its its':List Value}(I:Inv X a4 σ H s)(hH:H l=some (.lst xs))(e:s.heap.get? l=some { cls:=.type "list", data:=.seq its.toArray n })(hf:f its.toArray=its'.toArray)(hv:Vals ys its')(hz:ys.length<=sizeLine):
  Inv X a4 σ (upd H l (.lst ys)) { s with heap:=s.heap.update l (Obj.mapSeq f),toks:=t' }:=by
 have q:=PySem.IsL.update e f;rw[hf]at q;refine I.write (by rw[hH];exact trivial) (.inl rfl) (λb' u hb hu=>(Heap.get?_update_other s.heap _ (Ne.symm hb)).trans hu) ⟨_,q⟩ ?_;exact⟨hz,its',_,hv,q⟩
theorem Inv.lnew(I:Inv X a4 σ H s)(hv:Vals ys its)(hz:ys.length<=sizeLine):
  Inv X a4 σ (upd H s.heap.objs.size (.lst ys)) { s with heap:=s.heap.push { cls:=.type "list", data:=.seq its.toArray },toks:=t' } :=
 I.laid (λ_ _ q=>Heap.get?_push_of_some _ q) (Dk _) ⟨hz,its,0,hv,Heap.get?_push_size _ rfl⟩
theorem Inv.fresh(I:Inv X a4 σ H s):H s.heap.objs.size=none:=I.hok.fresh (Dk _)
theorem Inv.lstM(I:Inv X a4 σ H s)(hH:H l=some (.lst xs)):xs.length<=sizeLine/\∃(its:List Value)(n:Nat),Vals xs its/\xs.length=its.length/\s.heap.get? l=some { cls:=.type "list", data:=.seq its.toArray n }:=by
 obtain⟨z,its,n,r,e⟩:=I.hok l _ hH;exact⟨z,its,n,r,r.length,e⟩
theorem JO(h:n<=sizeLine):Builtin.List.listTooLong n=false:=by
 exact Us (by lia)
def Y2:V->List V->Hp->VK->Prop:=λx vs H Q=>∃l xs y,x=.ref l/\vs=[y]/\H l=some (.lst xs)/\xs.length<sizeLine/\Q .non (upd H l (.lst (xs++[y])))
theorem vQ:MtM X "list.append" Y2:=by
 intro a4 s σ H x vs v us Q I rx rv h;obtain⟨l,xs,y,rfl,rfl,hH,hz,q⟩:=h;cases rx;obtain⟨u,rfl,ru⟩:=rv.one;obtain⟨z,its,n,r,hl,e⟩:=I.lstM hH;refine UY F.slot_list_append ⟨_,e,rfl⟩ F.entry_list_append (F.args_list_append_2 _ _) (PySem.list_append l its.toArray n u (by grind)) ⟨e,?_⟩;refine⟨.non,_,I.lset (its':=its++[u]) hH e (by simp) (r.append (.cons ru .nil)) ?_,rfl,q⟩
 grind
def Y1:V->List V->Hp->VK->Prop:=λx vs H Q=>∃l b xs zs,x=.ref l/\vs=[.ref b]/\H l=some (.lst xs)/\H b=some (.lst zs)/\xs.length+zs.length<=sizeLine/\Q .non (upd H l (.lst (xs++zs)))
theorem kB:MtM X "list.extend" Y1:=by
 intro a4 s σ H x vs v us Q I rx rv h;obtain⟨l,b,xs,zs,rfl,rfl,hH,hB,hz,q⟩:=h;cases rx;obtain⟨u,rfl,ru⟩:=rv.one;cases ru;obtain⟨z,its,n,r,hl,e⟩:=I.lstM hH;obtain⟨z2,bd,n2,r2,cy,e2⟩:=I.lstM hB;have dY:its.toArray.size+bd.toArray.size<=sizeLine:=by  grind
 have e8:¬(!its.toArray.isEmpty&&Builtin.List.listTooLong (its.toArray.size+bd.toArray.size))=true:=by
  rw[JO dY,Bool.and_false];exact Dt
 refine UY F.slot_list_extend ⟨_,e,rfl⟩ F.entry_list_extend (F.args_list_extend_2 _ _)
  (AutoSeq1.list_extend_list_list_0 l its.toArray n b bd.toArray n2 e8 (by lia) (by lia)) ⟨e,e2,?_⟩
 refine⟨.non,_,I.lset (its':=its++bd) hH e (by simp) (r.append r2) ?_,rfl,q⟩;rw[Dj];lia
def rPop:V->List V->Hp->VK->Prop:=λx vs H Q=>∃l xs y,x=.ref l/\vs=[]/\H l=some (.lst xs)/\xs[xs.length-1]?=some y/\Q y (upd H l (.lst xs.dropLast))
theorem q2f:MtM X "list.pop" rPop:=by
 intro a4 s σ H x vs v us Q I rx rv h;obtain⟨l,xs,y,rfl,rfl,hH,hy,q⟩:=h;cases rx;have iJ:=rv.zero;subst iJ;obtain⟨z,its,n,r,hl,e⟩:=I.lstM hH;obtain⟨u,hu,ru⟩:=r.get hy;have lI:its.toArray[its.toArray.size-1]?=some u:=by
  show its.toArray[its.length-1]?=some u;rw[<-Array.getElem?_toList, <-hl];exact hu
 refine UY F.slot_list_pop ⟨_,e,rfl⟩ F.entry_list_pop (F.args_list_pop_1 _) (MeetsSeq.list_pop_last l its.toArray n u lI (by grind)) ⟨e,?_⟩;refine⟨y,_,I.lset (its':=its.dropLast) hH e ?_ r.dropLast ?_,ru,q⟩
 ·show its.toArray.eraseIdxIfInBounds (its.toArray.size-1)=its.dropLast.toArray
  rw[Du,List.eraseIdxIfInBounds_toArray,K4]
 ·grind
def rCat:R2:=λx y H Q=>∃l b xs zs,x=.ref l/\y=.ref b/\H l=some (.lst xs)/\H b=some (.lst zs)/\xs.length+zs.length<=sizeLine/\∀p,H p=none->Q (.ref p) (upd H p (.lst (xs++zs)))
theorem jb:OpR X (binaryOp .Add) rCat:=by
 intro a4 s σ H x y v u Q I rx ry h;obtain⟨l,b,xs,zs,rfl,rfl,hH,hB,hz,q⟩:=h;cases rx;cases ry;obtain⟨z,its,n,r,hl,e⟩:=I.lstM hH;obtain⟨z2,bd,n2,r2,cy,e2⟩:=I.lstM hB;refine PySem.P.add_list e e2 ?_ (by rw[Du,Du];lia);have ea:its.toArray++bd.toArray=(its++bd).toArray:=by simp
 rw[ea];exact⟨.ref _,_,I.lnew (t':=s.toks) (r.append r2) (by rw[Dj];lia),rfl,q _ I.fresh⟩
def rRep:R2:=λx y H Q=>∃l k xs,x=.ref l/\y=.int k/\H l=some (.lst xs) /\ -(2^63)<=k/\k<2^63/\xs.length*k.toNat<=sizeLine /\
 ∀p,H p=none->Q (.ref p) (upd H p (.lst (List.replicate k.toNat xs).flatten))
theorem q4b{α:Type}(xs:List α)(k:Nat):(List.replicate k xs).flatten.length=k*xs.length:=by
 simp_all
theorem WA:OpR X (binaryOp .Mult) rRep:=by
 intro a4 s σ H x y v u Q I rx ry h;obtain⟨l,k,xs,rfl,rfl,hH,h1,h2,hz,q⟩:=h;cases rx;obtain⟨t,rfl⟩:=ry;obtain⟨z,its,n,r,hl,e⟩:=I.lstM hH;have au:its.toArray.size*k.toNat<=sizeLine:=by rw[Du, <-hl];exact hz
 have lJ:¬its.toArray.size*k.toNat>(2^63-1) / 8:=by
  have:sizeLine<=(2^63-1) / 8:=by decide
  lia
 have lK:¬(!Builtin.List.listFitsIndex k)=true:=by
  rw[fitsIndex_both h1 h2];exact Dt
 have e8:¬Builtin.List.listTooLong (its.toArray.size*k.toNat)=true:=by
  rw[JO au];exact Dt
 have lL:List.foldl (λx1 x2=>x1++x2) #[] (List.replicate (if its.toArray.isEmpty=true then 0 else k.toNat) its.toArray)=(List.replicate k.toNat its).flatten.toArray:=by
  have f0:=λm=>by
   have:=ZF its m [];exact this
  cases its<;>simp_all
 refine wpAny_binaryOp_repeat_ref rfl ⟨_,e,rfl⟩ (λs'=>typeIs_int s' k t) noFill_list_mul F.fills_int_mul F.slot_int_rmul repeat_list F.slot_int_index.lookup
  (UY F.slot_int_rmul (typeIs_int s k t) F.entry_int_rmul (F.args_int_rmul_2 _ _) (int___rmul___int_list k t l its.toArray n)
   ⟨e,rfl,⟨_,e,rfl⟩,UY F.slot_list_mul ⟨_,e,rfl⟩ F.entry_list_mul (F.args_list_mul_2 _ _) (AutoListH.list___mul___list_int_3 l its.toArray n k t lK lJ e8) ⟨e,?_⟩⟩)
 rw[lL];exact⟨.ref _,_,I.lnew (t':=s.toks) (r.rep k.toNat) (by rw[q4b,Nat.mul_comm];exact hz),rfl,q _ I.fresh⟩
end L2
namespace Att
open PySem PySem.W PySem.Calls PyProof.Rows
theorem kN:∀(ns:List Int)(vs:List Value),WellAll P h vs (ns.map WData.int)->IntsAre vs ns:=by
 intro ns
 induction ns with
 |nil=>
  intro vs w;cases w;exact .nil
 |cons n ns ih=>
  intro vs w;cases w with
  |cons a b=>
   cases a;exact .cons _ _ (ih _ b)
theorem YD{l:OpenLaw}(hn:l.most=some n)(fc:l.row.toRowW.claim.pre args=true)(iK:WellAll P h bh args):
  ∃a vs ns,bh=[Value.ref a]/\args=[WData.list (ns.map WData.int)]/\h.get? a=some { cls:=.type "list", data:=.seq vs.toArray }/\IntsAre vs ns/\ns.length<=n:=by
 have oS:WShape.hasAll [] args [.list .int]=true:=(pre_splitW fc).1;have hc:l.pre.holds [] { args:=args }=true:=(pre_splitW fc).2;obtain⟨d,r,rfl,h1,h2⟩:=hasAllW_cons oS;obtain rfl:=hasAllW_nil h2;obtain⟨xs,rfl,h3⟩:=hasW_list h1;obtain⟨ns,rfl⟩:=items_int h3;have au:ns.length<=n:=by
  have h4:=by
   have h4:=(holds_andW hc).1;rw[hn]at h4;exact h4
  have h5:=condW_of h4 (w_not (w_lt w_lit (w_len_list (w_arg rfl))))
  grind
 cases iK with
 |cons w1 w2=>
  cases w2;cases w1 with
  |list ho ef=>exact⟨_,_,ns,rfl,rfl,ho,kN ns _ ef,au⟩
theorem Wk(l:OpenLaw)(args:List WData):l.row.toRowW.claim.post args (.bool true) args=true :=
 postW_of
  (show WShape.has [] _ .bool=true by first|rfl|decide|simp)
  (w_eq_bool (w_res rfl) w_lit) rfl
theorem attach_call{l:OpenLaw}(hn:l.most=some n)(gW:d.params.defaults=[])(call:∀(w:World)(s₀ af:Shared)(mg mb:Str->Option Value)(fa:Addr)(o:Obj)(pm cd bV:Value)(a:Addr)(vs:List Value)(ns:List Int),
   Ground q loose [] XP w s₀ mg mb af.heap->YP w af.heap ->
   af.heap.get? fa=some o->o.data=.func (docDef d.name d.params d.body d.scope pm cd bV)->af.heap.CodeRec cd d.name->mg d.name=some (.ref fa) ->
   af.heap.get? a=some { cls:=.type "list", data:=.seq vs.toArray }->IntsAre vs ns->ns.length<=n->af.gens=#[] ->
   codeAny (model l.prog w) callerA (.call (.ref fa) ⟨[.ref a], []⟩) (λr s'=>r=.ok (.ret (.bool true))/\OldK af.heap s'.heap/\s'.os=af.os/\AllBare s'.gens) af):
  WalkO q loose XP YP l.row.toRowW d [] (λf vs=>PySem.call f vs):=by
 intro w s₀ af mg mb G Y fa o pm cd bV dV kV ho hd cZ hD hmg hg args bh as fc hlay hrd iK nz;obtain rfl:=Dflts.none hD gW;obtain rfl:=Dflts.noKw hD;obtain⟨a,vs,ns,rfl,rfl,fL,eh,au⟩:=YD hn fc iK;refine enter_call (UQ (call w s₀ af mg mb fa o pm cd bV a vs ns G Y ho (fd_plain hd) cZ hmg fL eh au hg) λr s' hq=>?_);obtain⟨rfl,h2,h3,h4⟩:=hq;exact⟨.inl ⟨.bool true,.bool true, [],rfl,λ_=>rfl,.bool true,Wk l _,λ_=>⟨List.Pairwise.nil,λ_ hm=>(nomatch hm)⟩⟩,h2,h3,h4⟩
end Att
namespace L2
open PySem PySem.Spec PyProof.Rows
theorem VJ:∀{vs:List Value}{ns:List Int},IntsAre vs ns->Vals (ns.map V.int) vs
 |_,_,.nil=>.nil
 |_,_,.cons n t h=>.cons ⟨t,rfl⟩ (VJ h)
def Only(H:Hp):Prop:=∀b,H b=none\/∃o xs,H b=some (.frz o (.lst xs))
theorem q1U(KX:Ξ.In af.heap)(dh:af.heap.Ns mainGlobals mg)(hb:af.heap.Ns builtinsNs mb)(iL:∀x:Str,x ≠ "__name__" -> mb x=bootBuiltins x)(lM:af.heap.NoLimit)(hg:af.gens=#[])(ha:af.heap.get? a=some { cls:=.type "list", data:=.seq vs.toArray })(hi:IntsAre vs ns)(hl:ns.length<=sizeLine)(hr:Room k callerA)(F:∀base:Heap,Ξ.In base->base.Ns mainGlobals mg->FnOk P w Ξ mg base CX k fa fd [x] sp)(gX:∀(s:Shared)(u:Value),BindsTo s fd ⟨[u], []⟩ [(x,u)])(da:∀H:Hp,Only H->SqL Ξ H a (ns.map V.int)->sp [.ref a] H (λv _=>v=.bl true) λ_ _ _=>False)(lN:∀H e s',CX [] H af (λ_ _ _=>False) e s'->False):
  codeAny (model P w) callerA (.call (.ref fa) ⟨[.ref a], []⟩) (λr s'=>r=.ok (.ret (.bool true))/\OldK af.heap s'.heap/\s'.os=af.os/\AllBare s'.gens) af:=by
 have rv:=VJ hi;have lO:=hi.length
 -- from an abstract heap in which nothing but the script may be cJ
 have gZ:∀H:Hp,Only H->SqL Ξ H a (ns.map V.int)->HOk P w H af.heap->(∀b,H b≠none->b=a)->(H a≠none->Ξ.lookup a=none) ->
   codeAny (model P w) callerA (.call (.ref fa) ⟨[.ref a], []⟩) (λr s'=>r=.ok (.ret (.bool true))/\OldK af.heap s'.heap/\s'.os=af.os/\AllBare s'.gens) af:=by
  intro H hO hS hok hA hK;have dH:∀{b:Addr}{o:Obj},af.heap.get? b=some o->H b=none->(hidT af.heap H).get? b=some o:=λe n=>q19 e n;have gP:∀{b:Addr}{o:Obj}{es:Array DictEntry}{ep:Nat},af.heap.get? b=some o->o.data=.dict es ep->H b=none:=λ{b o es ep} e d=>by
   grind
  have iN:∀{b:Addr}{m:Str->Option Value},af.heap.Ns b m->(hidT af.heap H).Ns b m:=λ{b m} ⟨o,es,ep,e,d,r⟩=>⟨o,es,ep,dH e (gP e d),d,r⟩;have nB:Ξ.In (hidT af.heap H):=λb o e=>dH (KX b o e) (by
   cases q:H b with
   |none=>rfl
   |some u=>
    have e':b=a:=hA b (by rw[q];simp);subst e';rw[hK (by rw[q];simp)]at e;cases e)
  have hM:Mod Ξ mg (hidT af.heap H):=⟨nB,iN dh,⟨mb,iN hb,iL⟩,let⟨mc,h1,h2⟩:=lM;⟨mc,iN h1,h2⟩⟩;have e0:Env0 P w Ξ mg (hidT af.heap H) callerA [] af H:=⟨rfl,hM,λb o e=>q50 e,R3 (GH _ _),trivial,λb hb=>absurd (show b∈([]:List Addr)from hb) (by simp),hok,.of_eq hg⟩;refine UQ ((F _ nB (iN dh)).run callerA [] af H ⟨[.ref a], []⟩ [.ref a] [.ref a] _ _ hr e0 (gX af (.ref a)) (.cons rfl .nil) (da H hO hS)) λr s' h=>?_;cases r with
  |error e=>exact(lN H e s' h).elim
  |ok fl=>
   cases fl with
   |next=>exact False.elim h
   |brk=>exact False.elim h
   |cont=>exact False.elim h
   |ret u=>
    obtain⟨v,H',os,bare,un,lP,r',q⟩:=h;have q':v=.bl true:=q;subst q';obtain rfl:u=Value.bool true:=r';refine⟨rfl,OldK.of_keep λb o e=>?_,os,bare⟩;cases q:H b with
    |none=>exact un.keep b o e q (by intro z;exact absurd (show b∈([]:List Addr)from z) (by simp)) (by simp)
    |some u=>
     rcases hO b with z|⟨ob,xs,z⟩
     ·rw[q]at z;cases z
     ·have z2:=un.frzs b ob _ z
      obtain⟨e1,_⟩:=hok b _ z;obtain⟨e2,_⟩:=lP b _ z2;rw[e]at e1;cases e1;exact e2
 cases hk:Ξ.lookup a with
 |some o=>
  -- the script is one of the module's own objects
  have e:=KX a o hk;rw[ha]at e;cases e;refine gZ (λ_=>none) (λ_=>.inl rfl) (.inr ⟨_,vs.toArray,_,hk,rfl,rfl,rfl,by rw[Du,lO];exact hl,by simpa using rv⟩) (λb u z=>by have z':(none:Option HO)=some u:=z;cases z') (λb z=>absurd rfl z) λz=>absurd rfl z
 |none=>
  refine gZ (λb=>if b=a then some (.frz { cls:=.type "list", data:=.seq vs.toArray } (.lst (ns.map V.int))) else none) (λb=>?_) (.inl (.inr ⟨{ cls:=.type "list", data:=.seq vs.toArray },Ul rfl⟩)) (λb u z=>?_) (λb z=>?_) λ_=>hk
  ·by_cases hb:b=a
   ·exact .inr ⟨_,_,Ul hb⟩
   ·exact .inl (Ui hb)
  ·by_cases hb:b=a
   ·have z':=(Ul hb).symm.trans z
    cases z';subst hb;exact⟨ha,by rw[Dg];exact hl,vs,_,rv,ha⟩
   ·have z':=(Ui hb).symm.trans z
    cases z'
  ·by_cases hb:b=a
   ·exact hb
   ·exact absurd (Ui hb) z
theorem walk_of{l:PySem.W.OpenLaw}{Ξ:Params->PySem.W.Frag}{CX:World->CXT}{sp:World->Sp}(hn:l.most=some n)(gq:n<=sizeLine)(gW:d.params.defaults=[])(hr:Room k callerA)(hY:∀(w:World)(h:Heap),YP w h->(Ξ w.params).In h)(F:∀(w:World)(mg:Str->Option Value)(fa:Addr)(h:Heap),(Ξ w.params).In h->h.Ns mainGlobals mg->mg d.name=some (.ref fa) ->
   ∃fd:FuncData,(∀(s:Shared)(u:Value),BindsTo s fd ⟨[u], []⟩ [(x,u)]) /\
    ∀base:Heap,(Ξ w.params).In base->base.Ns mainGlobals mg->FnOk l.prog w (Ξ w.params) mg base (CX w) k fa fd [x] (sp w))(da:∀(w:World)(H:Hp)(a:Addr)(ns:List Int),ns.length<=n->Only H->SqL (Ξ w.params) H a (ns.map V.int)->sp w [.ref a] H (λv _=>v=.bl true) λ_ _ _=>False)(lN:∀(w:World)(H:Hp)(s:Shared)(e:Value)(s':Shared),CX w [] H s (λ_ _ _=>False) e s'->False):
  PySem.W.WalkO q loose XP YP l.row.toRowW d [] (λf vs=>PySem.call f vs):=by
 refine Att.attach_call hn gW λw s₀ af mg mb fa o pm cd bV a vs ns G Y ho hd cZ hmg fL eh au hg=>?_;have KX:=hY w _ Y;obtain⟨fd,hb,hF⟩:=F w mg fa _ KX G.T.g hmg;exact q1U KX G.T.g G.T.b G.T.builtins G.T.nolimit hg fL eh (DA au gq) hr hF hb (λH hO hS=>da w H a ns au hO hS) λH e s'=>lN w H af e s'
abbrev CX0:CXT:=λ_ _ _ _ _ _=>False
abbrev E0:XK:=λ_ _ _=>False
theorem q0m:kZ CX0 X E0:=λ_ _ _ _ _ _ _ h=>h.elim
structure Fun(Ξ:PySem.W.Frag)(x ac:Str)(st:Stmt)(f:Addr)(fd:FuncData):Prop where
 ex:∃(oc:Value)(od:Option Addr)(kV bV pm:Value)(an:Option Addr)(ap ct:Value)(eZ:Array (Option Value)),
  fd=W.fnOf x ac (zL st) (vg st) (qw st) .none kV bV pm an ap ct/\Ξ.lookup f=some ⟨oc,od,.func fd,eZ⟩/\W.codeIn Ξ ap ac=true
 kp:W.keepIn Ξ (.ref f)=true
theorem Fun.ok{st:Stmt}(F:Fun Ξ x ac st f fd)(S:q01 N ps (qw st))(len:∀vs H Q E,sp vs H Q E->vs.length=ps.length)(aC:∀(ap:Value)(A:Around)(outer:List Env)(s:Shared)(H:Hp)(vs:List V)(Q:VK)(E:XK),Room k (A.deeper (envOfC ac (qw st) s.heap.objs.size f ap))->sp vs H Q E ->
   ∃t,PSs (cxOf CX0 P w Ξ mg base N ac (qw st) f ap A outer s H E).nox (vg st) t/\t { nx:=λ_ H'=>Q .non H',rt:=Q } (start N vs) H):FnOk P w Ξ mg base CX0 (k+1) f fd ps sp:=by
 obtain⟨oc,od,kV,bV,pm,an,ap,ct,eZ,rfl,lk,cZ⟩:=F.ex;refine q7k lk cZ S len λA outer s H vs Q E hr da=>?_;obtain⟨t,h,q⟩:=aC ap A outer s H vs Q E hr da;exact⟨t,h.nox,q⟩
theorem Fun.binds{st:Stmt}(F:Fun Ξ x ac st f fd)(h:∀(kV bV pm:Value)(an:Option Addr)(ap ct:Value)(us:List Value),us.length=ps.length->bindArgs (W.fnOf x ac (zL st) (vg st) (qw st) .none kV bV pm an ap ct) ⟨us, []⟩=pure (ps.zip us)):Binds Ξ fd ps []:=by
 obtain⟨oc,od,kV,bV,pm,an,ap,ct,eZ,rfl,lk,cZ⟩:=F.ex;exact .all (h kV bV pm an ap ct)
theorem fun_mk{st:Stmt}{kV bV pm ap ct:Value}(l:Ξ.lookup f=some ⟨oc,od,.func (W.fnOf x ac (zL st) (vg st) (qw st) .none kV bV pm an ap ct),eZ⟩)(c:W.codeIn Ξ ap ac=true)(k:W.keepIn Ξ (.ref f)=true):Fun Ξ x ac st f (W.fnOf x ac (zL st) (vg st) (qw st) .none kV bV pm an ap ct):=⟨⟨oc,od,kV,bV,pm,an,ap,ct,eZ,rfl,l,c⟩,k⟩
theorem zt(hr:Room k A):A.units+1<cLine:=BP (Nat.add_le_add_left (by decide:1<=64) _) hr.units
theorem qV(h:n<=1000):n<sizeLine:=BP h (by decide)
theorem pv(i:Nat)(hN:X.N[i]?=some x:=by rfl)(hv:Vis X.env.scope x:=by first|exact Or.inl rfl|exact Or.inr (Or.inl rfl)|exact Or.inr (Or.inr rfl))(hd:(x==("__debug__" : Str))=false:=by decide)(cZ:(x==("__classdict__" : Str))=false:=by decide):PE X (.Name x pos) (tVar i):=q28 hN hv hd cZ
theorem ite2{c A B:Prop}[Decidable c](h1:c->A)(h2:¬c->B):if c then A else B:=by
 by_cases h:c
 ·rw[Ul h]
  exact h1 h
 ·rw[Ui h]
  exact h2 h
def Same(H H':Hp):Prop:=∀b o,H b=some o->H' b=some o
theorem Same.refl(H:Hp):Same H H:=λ_ _ h=>h
theorem Same.trans(a:Same H H1)(b:Same H1 H2):Same H H2:=λc o h=>b c o (a c o h)
theorem Same.free(e:Same H H')(h:H' l=Option.none):H l=Option.none:=by
 cases q:H l with
 |none=>rfl
 |some o=>
  rw[e l o q]at h;cases h
theorem Same.seq(e:Same H H')(h:SqL Ξ H a xs):SqL Ξ H' a xs:=by
 rcases h with(h|⟨o,h⟩)|h
 ·exact .inl (.inl (e _ _ h))
 ·exact .inl (.inr ⟨o,e _ _ h⟩)
 ·exact .inr h
section
variable {κ:Type} [DecidableEq κ]
noncomputable def valV(kvs:List (κ×V))(k:κ):Option V:=(kvs.find? λkv=>decide (kv.1=k)).map (·.2)
noncomputable def putK(kvs:List (κ×V))(k:κ)(v:V):List (κ×V):=
 if(kvs.any λkv=>decide (kv.1=k))=true then kvs.map (λkv=>if kv.1=k then(kv.1,v) else kv) else kvs++[(k,v)]
theorem Q0{p:κ×V}{r:List (κ×V)}{k:κ}(e:p.1=k):valV (p::r) k=some p.2:=by simp[valV,e]
theorem Q1{p:κ×V}{r:List (κ×V)}{k:κ}(e:¬p.1=k):valV (p::r) k=valV r k:=by simp[valV,e]
theorem Jf(k:κ):∀kvs:List (κ×V),(kvs.any λkv=>decide (kv.1=k))=(valV kvs k).isSome
 | []=>rfl
 |p::r=>by
  rw[Rk];by_cases e:p.1=k
  ·simp[Q0 e,Ux e,Bool.true_or,Option.isSome_some]
  ·rw[Q1 e,Us e];exact Jf k r
theorem xL(kvs:List (κ×V))(k:κ)(v:V):(putK kvs k v).length<=kvs.length+1:=by
 unfold putK
 grind
theorem RelO.isSome_eq(r:RelO o u):o.isSome=u.isSome:=by
 cases o with
 |none=>cases u with
  |none=>rfl
  |some _=>exact r.elim
 |some _=>cases u with
  |none=>exact r.elim
  |some _=>rfl
theorem RelO.getD(r:RelO o u)(rd:RelV d d'):RelV (o.getD d) (u.getD d'):=by
 cases o with
 |none=>cases u with
  |none=>exact rd
  |some _=>exact r.elim
 |some _=>cases u with
  |none=>exact r.elim
  |some _=>exact r
theorem KV.val{kvs:List (κ×V)}{vs:List (κ×Value)}(r:KV kvs vs)(k:κ):RelO (valV kvs k) (valueAt vs k):=by
 induction r with
 |nil=>exact True.intro
 | @cons p q ps qs h t ih=>
  obtain⟨h1,h2⟩:=h;by_cases e:p.1=k
  ·have e':=h1.symm.trans e
   have b:valueAt (q::qs) k=some q.2:=by simp[valueAt,e']
   rw[Q0 e,b];exact h2
  ·have e':¬q.1=k:=λz=>e (h1.trans z)
   have b:valueAt (q::qs) k=valueAt qs k:=by simp[valueAt,e']
   rw[Q1 e,b];exact ih
theorem KV.any{kvs:List (κ×V)}{vs:List (κ×Value)}(r:KV kvs vs)(k:κ):(kvs.any λkv=>decide (kv.1=k))=vs.any λkv=>decide (kv.1=k):=by
 induction r with
 |nil=>rfl
 |cons h t ih=>rw[Rk,Rk,ih,h.1]
theorem KV.repl{kvs:List (κ×V)}{vs:List (κ×Value)}(r:KV kvs vs)(k:κ){y:V}{u:Value}(ry:RelV y u):
  KV (kvs.map λkv=>if kv.1=k then(kv.1,y) else kv) (vs.map λkv=>if kv.1=k then(kv.1,u) else kv):=by
 induction r with
 |nil=>exact .nil
 | @cons p q ps qs h t ih=>
  refine .cons ?_ ih
  lia
theorem KV.put{kvs:List (κ×V)}{vs:List (κ×Value)}(r:KV kvs vs)(k:κ){y:V}{u:Value}(ry:RelV y u):KV (putK kvs k y) (stored vs k u):=by
 unfold putK stored;rw[r.any k];by_cases e:(vs.any λkv=>decide (kv.1=k))=true
 ·rw[Ul e,Ul e];exact r.repl k ry
 ·rw[Ui e,Ui e];exact Paired.snoc r ⟨rfl,ry⟩
theorem KV.length{kvs:List (κ×V)}{vs:List (κ×Value)}(r:KV kvs vs):kvs.length=vs.length:=Paired.length r
end
theorem Zs(r:RelV (kV k) u):(ve P w).is k u=true:=by
 cases k with
 |inl i=>obtain⟨t,e⟩:=r;subst e;exact XE P w i t
 |inr x=>obtain⟨t,e⟩:=r;subst e;exact xJ P w x t
 |non=>cases r;rfl
theorem Zt:∀{ks:List Key}{us:List Value},Vals (ks.map kV) us->ItemsAre (ve P w) ks us
 | [],_,r=>by cases r;exact .nil
 |k::ks,_,r=>by
  cases r with
  |cons h t=>exact .cons (Zs h) (Zt t)
abbrev KT(H:Hp):List (List Key×V)->List (List Key×Addr×Value)->Prop:=Paired λp q=>p.1=q.1/\H q.2.1=some (.tup (p.1.map kV))/\RelV p.2 q.2.2
theorem KT.val(r:KT H kvs xs)(k:List Key):RelO (valV kvs k) ((atKey xs k).map (·.2)):=by
 induction r with
 |nil=>exact True.intro
 | @cons p q ps qs h t ih=>
  obtain⟨h1,_,h2⟩:=h;by_cases e:p.1=k
  ·have e':=h1.symm.trans e
   have b:atKey (q::qs) k=some q.2:=by simp[atKey,e']
   rw[Q0 e,b];exact h2
  ·have e':¬q.1=k:=λz=>e (h1.trans z)
   have b:atKey (q::qs) k=atKey qs k:=by simp[atKey,e']
   rw[Q1 e,b];exact ih
theorem KT.repl(r:KT H kvs xs)(k:List Key)(ry:RelV y u):
  KT H (kvs.map λkv=>if kv.1=k then(kv.1,y) else kv) (xs.map (putAt k u)):=by
 induction r with
 |nil=>exact .nil
 | @cons p q ps qs h t ih=>
  refine .cons ?_ ih;unfold putAt
  lia
theorem KT.put(r:KT H kvs xs)(k:List Key)(hb:H b=some (.tup (k.map kV)))(ry:RelV y u):
  KT H (putK kvs k y) (storedH xs k b u):=by
 have e:(kvs.any λkv=>decide (kv.1=k))=(atKey xs k).isSome:=by
  rw[Jf,(r.val k).isSome_eq,Bb]
 unfold putK storedH;rw[e];by_cases q:(atKey xs k).isSome=true
 ·rw[Ul q,Ul q];exact r.repl k ry
 ·rw[Ui q,Ui q];exact Paired.snoc r ⟨rfl,hb,ry⟩
theorem KT.keeps(r:KT H kvs xs)(ht:∀b ys,H b=some (.tup ys)->H' b=some (.tup ys)):KT H' kvs xs :=
 Paired.mapP r λ_ _ z=>⟨z.1,ht _ _ z.2.1,z.2.2⟩
theorem q7h(ok:HOk P w H h)(e:Rd H a u):ObjOk P w H h a u:=e.ok ok
theorem X1(ok:HOk P w H h)(e:Rd H a (.dK kvs)):kvs.length<=sizeLine/\(a==sysModules)=false/\∃vs,KV kvs vs/\h.DictOf (ve P w) a vs :=
 show ObjOk P w H h a _ from q7h ok e
theorem q7z(ok:HOk P w H h)(e:H a=some (.dK kvs)):kvs.length<=sizeLine/\(a==sysModules)=false/\∃vs,KV kvs vs/\h.DictOf (ve P w) a vs:=X1 ok (.inl e)
theorem QJ(ok:HOk P w H h)(e:H a=some (.tup (ks.map kV))):(tupleKind (ve P w)).is h ks a:=by
 obtain⟨_,its,r,o,h1,h2,n,h3⟩:=(ok a _ e);exact⟨o,its.toArray,n,h1,h2,h3,by simpa using Zt r⟩
theorem X0(ok:HOk P w H h)(e:Rd H a (.dT kvs)):kvs.length<=sizeLine/\(a==sysModules)=false /\
  ∃xs,KT H kvs xs/\h.DictOfH (tupleKind (ve P w)) a xs:=by
 obtain⟨z,y,xs,r,o,es,ep,h1,h2,h3,h4,h5⟩:=(q7h ok e);refine⟨z,y,xs,r,o,es,ep,h1,h2,h3,h4,λx hx=>?_,h5⟩;have all:∀{l:List _}{m:List _},KT H l m->∀x∈m,(tupleKind (ve P w)).is h x.1 x.2.1:=by
  intro l m q
  induction q with
  |nil=>intro x hx;exact nomatch hx
  | @cons p q ps qs hq t ih=>
   intro x hx;rcases Dl.mp hx with e|hx
   ·exact QJ ok (by lia)
   ·exact ih x hx
 exact all r x hx
theorem q8h(ok:HOk P w H h)(e:H a=some (.dT kvs)):kvs.length<=sizeLine/\(a==sysModules)=false /\
  ∃xs,KT H kvs xs/\h.DictOfH (tupleKind (ve P w)) a xs:=X0 ok (.inl e)
def DGet(H:Hp)(a:Addr)(y:V)(r:Option V):Prop :=
 (∃kvs k,Rd H a (.dK kvs)/\y=kV k/\r=valV kvs k)\/∃kvs k b,Rd H a (.dT kvs)/\y=.ref b/\H b=some (.tup (k.map kV))/\r=valV kvs k
def DPut(H:Hp)(a:Addr)(y v:V)(H':Hp):Prop :=
 (∃kvs k,H a=some (.dK kvs)/\y=kV k/\kvs.length<sizeLine/\H'=upd H a (.dK (putK kvs k v))) \/
 ∃kvs k b,H a=some (.dT kvs)/\y=.ref b/\H b=some (.tup (k.map kV))/\kvs.length<sizeLine/\H'=upd H a (.dT (putK kvs k v))
theorem DGet.k{k:Key}(e:H a=some (.dK kvs)):DGet H a (kV k) (valV kvs k):=.inl ⟨kvs,k,.inl e,rfl,rfl⟩
theorem DPut.k{k:Key}(e:H a=some (.dK kvs))(hl:kvs.length<sizeLine):DPut H a (kV k) v (upd H a (.dK (putK kvs k v))):=.inl ⟨kvs,k,e,rfl,hl,rfl⟩
theorem Inv.big(I:Inv X a4 σ H s):sysModules<s.heap.objs.size:=by
 have h:=(I.mod.glob.keeps I.bk).lt;exact Nat.lt_trans (by decide) h
theorem G6(hu:A.units+1<cLine)(I:Inv X a4 σ H s)(g:DGet H a y (some v))(ry:RelV y u)(h:∀w' s',Inv X a4 σ H s'->RelV v w'->Q w' s'):
  wpAny (model X.prog X.w) A (getItem (.ref a) u) Q E s:=by
 rcases g with⟨kvs,k,e,ey,l⟩|⟨kvs,k,b,e,ey,eb,l⟩
 ·subst ey
  obtain⟨z,hd,vs,bi,dd⟩:=X1 I.hok e;obtain⟨w',hw,df⟩:=RelO.some_of (by rw[l];exact bi.val k);exact wpAny_getItem_of (Zs ry) dd.mapOf hw (h w' _ (I.tok _) df)
 ·subst ey
  cases ry;obtain⟨z,hd,xs,bi,dd⟩:=X0 I.hok e;obtain⟨w',hw,df⟩:=RelO.some_of (by rw[l];exact bi.val k);obtain⟨p,hp,lQ⟩:=DO.mp hw;refine wpAny_getItem_heap (Uz hu) (QJ I.hok eb) dd hp ?_;rw[lQ];exact h w' _ (I.tok _) df
theorem d_in(hu:A.units+1<cLine)(I:Inv X a4 σ H s)(g:DGet H a y o)(ry:RelV y u)(h:∀s',Inv X a4 σ H s'->Q (.bool o.isSome) s'):
  wpAny (model X.prog X.w) A (compareOp .In u (.ref a)) Q E s:=by
 rcases g with⟨kvs,k,e,ey,l⟩|⟨kvs,k,b,e,ey,eb,l⟩
 ·subst ey
  obtain⟨z,hd,vs,bi,dd⟩:=X1 I.hok e;refine wpAny_in_of (Zs ry) hd dd.mapOf ?_;rw[<-(bi.val k).isSome_eq, <-l];exact h _ (I.tok _)
 ·subst ey
  cases ry;obtain⟨z,hd,xs,bi,dd⟩:=X0 I.hok e;refine wpAny_in_heap (Uz hu) (QJ I.hok eb) hd dd ?_;have q:=(bi.val k).isSome_eq;rw[Bb]at q;rw[<-q, <-l];exact h _ (I.tok _)
theorem q3S(hu:A.units+1<cLine)(I:Inv X a4 σ H s)(g:DGet H a y o)(ry:RelV y u)(h:∀s',Inv X a4 σ H s'->Q (.bool (!o.isSome)) s'):
  wpAny (model X.prog X.w) A (compareOp .NotIn u (.ref a)) Q E s:=by
 rcases g with⟨kvs,k,e,ey,l⟩|⟨kvs,k,b,e,ey,eb,l⟩
 ·subst ey
  obtain⟨z,hd,vs,bi,dd⟩:=X1 I.hok e;refine wpAny_notIn_of (Zs ry) hd dd.mapOf ?_;rw[<-(bi.val k).isSome_eq, <-l];exact h _ (I.tok _)
 ·subst ey
  cases ry;obtain⟨z,hd,xs,bi,dd⟩:=X0 I.hok e;refine wpAny_notIn_heap (Uz hu) (QJ I.hok eb) hd dd ?_;have q:=(bi.val k).isSome_eq;rw[Bb]at q;rw[<-q, <-l];exact h _ (I.tok _)
theorem X5(I:Inv X a4 σ H s)(mu:Mut (H a))(hs:Heap.SameBut a s.heap h')(he:∃q,h'.get? a=some q)(new:ObjOk X.prog X.w (upd H a ob) h' a ob):
  Inv X a4 σ (upd H a ob) { s with heap:=h',toks:=t' } :=
 I.write mu (.inl rfl) (λb q hb z=>(hs.2 b hb).trans z) he new
theorem q33(z:kvs.length<=sizeLine)(hd:(a==sysModules)=false)(bi:KV kvs vs)(dd:h'.DictOf (ve P w) a vs):
  ObjOk P w H' h' a (.dK kvs):=⟨z,hd,vs,bi,dd⟩
theorem G5(hu:A.units+1<cLine)(I:Inv X a4 σ H s)(g:DPut H a y v H')(ry:RelV y u)(rv:RelV v r)(h:∀s',Inv X a4 σ H' s'->Q () s'):
  wpAny (model X.prog X.w) A (setItem (.ref a) u r) Q E s:=by
 rcases g with⟨kvs,k,e,ey,l,eH⟩|⟨kvs,k,b,e,ey,eb,l,eH⟩
 ·subst ey eH
  obtain⟨z,hd,vs,bi,dd⟩:=q7z I.hok e;have hz:vs.length<=sizeLine:=by rw[<-bi.length];exact z
  have hl:(putK kvs k v).length<=sizeLine:=by have:=xL kvs k v;lia
  refine wpAny_setItem_pairs (Zs ry) dd λh' fM hs=>h _ ?_;have he:∃q,h'.get? a=some q:=let⟨q,_,_,hq,_⟩:=fM;⟨q,hq⟩;exact X5 I (by rw[e];exact True.intro) hs he (q33 hl hd (bi.put k rv) fM)
 ·subst ey eH
  cases ry;obtain⟨z,hd,xs,bi,dd⟩:=q8h I.hok e;have hz:xs.length<=sizeLine:=by rw[<-Paired.length bi];exact z
  have hl:(putK kvs k v).length<=sizeLine:=by have:=xL kvs k v;lia
  refine wpAny_setItem_heap (Uz hu) (QJ I.hok eb) dd λh' fM hs=>h _ ?_;obtain⟨q,es,ep,hq,h2,h3,h4,_,h5⟩:=fM;refine X5 I (by rw[e];exact True.intro) hs ⟨q,hq⟩ ⟨hl,hd,_,(bi.put k eb rv).keeps λc ys ec=>?_,q,es,ep,hq,h2,h3,h4,h5⟩;rw[upd_ne (q85 ec e (λz=>nomatch z))];exact ec
def NoSl(i:Expr):Prop:=∀ov iv,subscripted i false ov iv=operate [ov,iv] (getItem ov iv)
theorem Yz{prog:Program}{w:World}{A:Around}{E:Value->Shared->Prop}{s:Shared}{env:Env}{value bR:Expr}{pos:Pos}{T id:String}{Q:Value->Shared->Prop}(hl:typeLookup (.type T) "__getitem__" = pure (some (.builtin id)))(hs:NoSl bR)(h:wpAny (model prog w) A (eval value env) (λo af=>wpAny (model prog w) A (eval bR env) (λi bg=>bg.TypeIs o T/\wpAny (model prog w) A (getItem o i) Q E bg) E af) E s):
  wpAny (model prog w) A (eval (.Subscript value bR pos) env) Q E s:=by
 refine Subscript_ (Uj h (λo af di=>Uj di (λi bg dk=>?_) λ_ _ x=>x) λ_ _ x=>x);obtain⟨hT,dk⟩:=dk;refine Ug ?_;refine Ug (U6 hT hl ?_);have fin:wpAny (model prog w) A (subscripted bR false o i) (λr eq=>wpAny (model prog w) A (letTemporaryGo value o r >>= λ_=>pure r) Q E eq) E bg:=by
  rw[hs o i];exact wpAny_operating (Uj dk (λr eq fN=>Ug (wpAny_letTemporaryGo (Uh fN))) λ_ _ x=>x)
 first
  |exact Uh (Ug fin)
  |exact Ug _
  |exact Ug fin
theorem X4(I:Inv X a4 σ H s)(g:DGet H a y o):s.TypeIs (.ref a) "dict" := by
 rcases g with⟨kvs,k,e,_,_⟩|⟨kvs,k,b,e,_,_,_⟩
 ·obtain⟨_,_,vs,_,dd⟩:=X1 I.hok e
  exact dd.typeIs
 ·obtain⟨_,_,xs,_,dd⟩:=X0 I.hok e
  exact dd.typeIs
def Yy(td ty:TE):TE:=λσ H Q=>td σ H λx H1=>ty σ H1 λy H2=>∃a v,x=.ref a/\DGet H2 a y (some v)/\Q v H2
def tDIn(ty td:TE):TE:=λσ H Q=>ty σ H λy H1=>td σ H1 λx H2=>∃a o,x=.ref a/\DGet H2 a y o/\Q (.bl o.isSome) H2
def Q6(ty td:TE):TE:=λσ H Q=>ty σ H λy H1=>td σ H1 λx H2=>∃a o,x=.ref a/\DGet H2 a y o/\Q (.bl (!o.isSome)) H2
def q7s(td ty tv:TE):TS:=λD σ H=>tv σ H λv H1=>td σ H1 λx H2=>ty σ H2 λy H3=>∃a H4,x=.ref a/\DPut H3 a y v H4/\D.nx σ H4
theorem q5Y(hu:X.A.units+1<cLine)(hi:PE X i ty)(ho:PE X o td):PC X .In i o (tDIn ty td):=by
 intro a4 s σ H Q I h;refine thn (hi a4 s σ H _ I h) λiv s1 ⟨y,H1,I1,ry,q1⟩=>thn (ho a4 s1 σ H1 _ I1 q1) λu s2 zz=>?_;obtain⟨x,H2,I2,rx,a,ov,ex,g,q2⟩:=zz;subst ex;obtain rfl:=rx;exact d_in hu I2 g ry λs3 I3=>⟨.bl ov.isSome,H2,I3,rfl,q2⟩
theorem Ws(hu:X.A.units+1<cLine)(hi:PE X i ty)(ho:PE X o td):PC X .NotIn i o (Q6 ty td):=by
 intro a4 s σ H Q I h;refine thn (hi a4 s σ H _ I h) λiv s1 ⟨y,H1,I1,ry,q1⟩=>thn (ho a4 s1 σ H1 _ I1 q1) λu s2 zz=>?_;obtain⟨x,H2,I2,rx,a,ov,ex,g,q2⟩:=zz;subst ex;obtain rfl:=rx;exact q3S hu I2 g ry λs3 I3=>⟨.bl _,H2,I3,rfl,q2⟩
theorem Kb(h:Heap)(hb:sysModules<h.objs.size):ObjOk P w H (h.push { cls:=.type "dict", data:=.dict #[] }) h.objs.size (.dK []):=
 ⟨DG _,beq_eq_false_iff_ne.mpr (Ne.symm (Dz hb)), [],.nil,Heap.DictOf.new h⟩
def Js:TE:=λ_ H Q=>∀p,H p=none->Q (.ref p) (upd H p (.dK []))
def Jq:List (TE×TE)->St->Hp->(List (V×V)->Hp->Prop)->Prop
 | [],_,H,Q=>Q [] H
 | (tk,tv)::r,σ,H,Q=>tk σ H λx H1=>tv σ H1 λy H2=>Jq r σ H2 λps H3=>Q ((x,y)::ps) H3
abbrev VV:List (V×V)->List (Value×Value)->Prop:=Paired λp q=>RelV p.1 q.1/\RelV p.2 q.2
def PPs(X:Cx)(pos:Pos)(keys:List (Option Expr))(cK:List Expr)(er:List (TE×TE)):Prop :=
 ∀(a4:List (Addr×Obj))(s:Shared)(σ:St)(H:Hp)(Q:List (V×V)->Hp->Prop),Inv X a4 σ H s->Jq er σ H Q ->
  wpAny (model X.prog X.w) X.A (evalPairs (pairTrees keys cK X.env pos)) (λvs s'=>∃ps H',Inv X a4 σ H' s'/\VV ps vs/\Q ps H') X.xe s
noncomputable def kH(kvs bc:List (Key×V)):List (Key×V):=bc.foldl (λa7 kv=>putK a7 kv.1 kv.2) kvs
theorem KV.merge:∀{bc:List (Key×V)}{rs:List (Key×Value)}{kvs:List (Key×V)}{vs:List (Key×Value)},KV bc rs->KV kvs vs->KV (kH kvs bc) (merged vs rs):=by
 intro bc rs kvs vs r
 induction r generalizing kvs vs with
 |nil=>intro q;exact q
 | @cons p q ps qs h t ih=>
  intro r0;have e:KV (putK kvs p.1 p.2) (stored vs q.1 q.2):=by
   have:=r0.put p.1 h.2;rw[<-h.1];exact this
  exact ih e
theorem je:∀(bc kvs:List (Key×V)),(kH kvs bc).length<=kvs.length+bc.length
 | [],kvs=>by show kvs.length<=kvs.length+0;lia
 |p::r,kvs=>by
  have h1:=je r (putK kvs p.1 p.2);have h2:=xL kvs p.1 p.2;show(kH _ r).length<=_
  grind
theorem QV:∀{kvs:List (Key×V)}{ws:List (Value×Value)},VV (kvs.map λkv=>(kV kv.1,kv.2)) ws->∃rs,Carries (ve P w) ws rs/\KV kvs rs
 | [],_,r=>by cases r;exact⟨[],True.intro,.nil⟩
 |p::kvs,_,r=>by
  cases r with
  | @cons a b as bs h t=>
   obtain⟨rs,c,q⟩:=QV t;obtain⟨b1,b2⟩:=b;exact⟨(p.1,b2)::rs,⟨Zs h.1,rfl,c⟩,.cons ⟨rfl,h.2⟩ q⟩
def q5Z(er:List (TE×TE)):TE:=λσ H Q=>∀p,H p=none->Jq er σ (upd H p (.dK [])) λps H2=>H2 p=some (.dK [])/\∃kvs:List (Key×V),ps=kvs.map (λkv=>(kV kv.1,kv.2))/\kvs.length<=15/\Q (.ref p) (upd H2 p (.dK (kH [] kvs)))
structure M1(X:Cx)(o:Expr)(m:Str)(aF:Pos)(e:Expr)(ax:Pos):Prop where
 base:attributeBase o m X.env (eval o X.env)=eval o X.env
 few:((backTo ax (starEach [e] X.env)).all (λx=> !x.1)&&(backToKw ax (keywordEach [] X.env)).all (λx=>x.1.isSome)
  && decide (([e]:List Expr).length+([]:List Keyword).length+(if([]:List Keyword).isEmpty then 0 else 1)<30))=true
 line:(aF.endLine==ax.line)=true
 trees:backTo ax (starEach [e] X.env)=[(false,eval e X.env)]
structure M2(X:Cx)(o:Expr)(m:Str)(aF:Pos)(e f:Expr)(ax:Pos):Prop where
 base:attributeBase o m X.env (eval o X.env)=eval o X.env
 few:((backTo ax (starEach [e,f] X.env)).all (λx=> !x.1)&&(backToKw ax (keywordEach [] X.env)).all (λx=>x.1.isSome)
  && decide (([e,f]:List Expr).length+([]:List Keyword).length+(if([]:List Keyword).isEmpty then 0 else 1)<30))=true
 line:(aF.endLine==ax.line)=true
 trees:backTo ax (starEach [e,f] X.env)=[(false,eval e X.env),(false,eval f X.env)]
def IsD(H:Hp)(a:Addr):Prop:=(∃kvs,Rd H a (.dK kvs))\/∃kvs,Rd H a (.dT kvs)
theorem q62(I:Inv X a4 σ H s)(d:IsD H a):
  s.TypeIs (.ref a) "dict" /\ (∀b,Value.ref a=.ref b->∃ob,s.heap.get? b=some ob/\ob.dict=none)/\(a==sysModules)=false:=by
 rcases d with⟨kvs,e⟩|⟨kvs,e⟩
 ·obtain⟨_,hd,vs,_,dd⟩:=X1 I.hok e
  refine⟨dd.typeIs,λb q=>?_,hd⟩;cases q;obtain⟨ob,_,_,h1,h2,_⟩:=dd;exact⟨ob,h1,h2.2.1⟩
 ·obtain⟨_,hd,xs,_,dd⟩:=X0 I.hok e
  refine⟨dd.typeIs,λb q=>?_,hd⟩;cases q;obtain⟨ob,_,_,h1,h2,_⟩:=dd;exact⟨ob,h1,h2.2.1⟩
theorem q64(hu:A.units+1<cLine)(I:Inv X a4 σ H s)(g:DGet H a y o)(ry:RelV y u)(h:∀w' s',Inv X a4 σ H s'->RelV (o.getD .non) w'->Q w' s'):
  wpAny (model X.prog X.w) A (call (.builtin "dict.get") [.ref a,u]) Q E s:=by
 rcases g with⟨kvs,k,e,ey,l⟩|⟨kvs,k,b,e,ey,eb,l⟩
 ·subst ey
  obtain⟨z,hd,vs,bi,dd⟩:=X1 I.hok e;refine call_meetsIn PySem.F.slot_dict_get dd.typeIs PySem.F.entry_dict_get (PySem.F.args_dict_get_2 _ _) (meets_dict_get _ a (Zs ry) hd) ⟨_,dd.mapOf,h _ _ (I.tok _) ?_⟩;rw[l];exact(bi.val k).getD rfl
 ·subst ey
  cases ry;obtain⟨z,hd,xs,bi,dd⟩:=X0 I.hok e;refine call_meetsIn PySem.F.slot_dict_get dd.typeIs PySem.F.entry_dict_get (PySem.F.args_dict_get_2 _ _) (meetsH_dict_get _ a b hd) ⟨Uz hu,k,xs,QJ I.hok eb,dd,h _ _ (I.tok _) ?_⟩;rw[l];exact(bi.val k).getD rfl
def Yx(td ty:TE):TE:=λσ H Q=>td σ H λx H1=>∃a,x=.ref a/\IsD H1 a/\ty σ H1 λy H2=>∃o,DGet H2 a y o/\Q (o.getD .non) H2
noncomputable def cxC(X:Cx)(scope:Scope)(cl:List (Str×Addr))(M:List Str)(fp:List Addr)(s:Shared)(H:Hp):Cx :=
 { X with N:=M,s₀:=s,H₀:=H,env:=compEnvC scope cl s.heap.objs.size X.env,outer:=X.stack,stack:=X.stack,ex:=fp,fn:=λ_=>false,pn:=[],xe:=λ_ _=>False }
noncomputable def zE(bs:List Bool)(n:Nat)(σ:St):St:=(bs.zip σ).map (λp=>if p.1 then p.2 else none)++List.replicate n none
def ExtS(σ τ:St):Prop:=∀(i:Nat) v,σ[i]?=some (some v)->τ[i]?=some (some v)
theorem ExtS.refl(σ:St):ExtS σ σ:=λ_ _ h=>h
theorem ExtS.trans(h:ExtS a b)(k:ExtS b c):ExtS a c:=λi v e=>k i v (h i v e)
theorem ExtS.put(h:ExtS σ τ)(e:σ[i]?=some none):ExtS σ (τ.set i (some v)):=λj w q=>by
 by_cases hj:i=j
 ·subst hj;rw[e]at q;cases q
 ·rw[Di hj];exact h j w q
def q7Q(J:It)(a7:Addr)(g:TG)(tt:TT)(te:TE)(fO:St)(H1:Hp)(Q:VK):Prop:=∃W:Nat->Nat->Hp->Prop,(∃m,W 0 m (upd H1 a7 (.lst []))) /\
 ∀i m H2,W i m H2->(J.stop i H2/\Q (.ref a7) H2)\/(J.go i H2/\∃N:Hp->Prop,(∀H',N H'->∃m',m'<m/\W (i+1) m' H')/\∀x H3,J.yld i H2 x H3->g x fO H3 λcT H4=>(ExtS fO cT/\cT.length=fO.length)/\tt cT H4 λb H5=>
  if b=true then te cT H5 λv H6=>∃ys,H6 a7=some (.lst ys)/\ys.length<sizeLine/\N (upd H6 a7 (.lst (ys++[v]))) else N H5)
def xG(wi:TI)(bs:List Bool)(n:Nat)(g:TG)(tt:TT)(te:TE):TE:=λσ H Q=>wi σ H λJ H1=>∀a7,H1 a7=none->q7Q J a7 g tt te (zE bs n σ) H1 Q
def PTs(X:Cx)(cz:List Expr)(t:TT):Prop :=
 ∀(a4:List (Addr×Obj))(s:Shared)(σ:St)(H:Hp)(Q:Bool->Hp->Prop),Inv X a4 σ H s->t σ H Q ->
  wpAny (model X.prog X.w) X.A (forIn cz true λc r=>if r=true then do let ok <-isTrue c X.env (eval c X.env);pure (ForInStep.yield ok) else pure (ForInStep.yield r)) (TP X a4 σ Q) X.xe s
def tYes:TT:=λ_ H Q=>Q true H
structure CompS(X:Cx)(scope:Scope)(cl:List (Str×Addr))(bs:List Bool)(ext:List Str):Prop where
 clos:closureFor scope X.env=pure cl
 cell:∀y∈scope.names,y.2 ≠ .cell
 kind:scope.kind=.function
 names:∀y∈scope.names,y.2=.local->scope.names.lookup y.1=some .local
 sub:∀x c,cl.lookup x=some c->X.env.cells.lookup x=some c
 has:∀x,((relabel scope X.env).names.lookup x=some .cell\/(relabel scope X.env).names.lookup x=some .free)->∃c,cl.lookup x=some c
 len:bs.length=X.N.length
 vis:∀(i:Nat) x,X.N[i]?=some x->bs[i]?=some true->Vis (relabel scope X.env) x->(relabel scope X.env).names.lookup x≠some .local/\(X.env.kindOf x=some .cell\/X.env.kindOf x=some .free)/\Vis X.env.scope x
theorem Gf(h:bs.length=σ.length):(zE bs n σ).length=σ.length+n:=by
 unfold zE;simp[h]
set_option tactic.hygienic true in
theorem Gg(h:bs.length=σ.length)(e:(zE bs n σ)[i]?=some (some v)):i<σ.length/\bs[i]?=some true/\σ[i]?=some (some v):=by
 unfold zE at e;by_cases hi:i<σ.length
 ·rw[De (by simp[h];exact hi),Dy]at e
  have hb:i<bs.length:=by lia
  rw[Df (by simp[h];exact hi)]at e;simp only[List.getElem_zip,Bw]at e;split at e
  ·rename_i oU
   refine⟨hi,?_,?_⟩
   ·rw[Df hb];rw[oU]
   ·rw[Df hi];exact e
  ·cases e
 ·rw[Dp (by simp[h];lia),RC]at e
  split at e<;>cases e
theorem q6U(S:CompS X scope cl bs ext)(I:Inv X a4 σ H s)(hf:∀b∈fp,FpOk X a4 H b)(fP:∀b∈fp,b<s.heap.objs.size):
  (cxC X scope cl (X.N++ext) fp s H).Ok where
 mod:=I.ok.mod
 kind:=S.kind
 glob:=I.ok.glob
 blt:=I.ok.blt
 above:=Dk _
 inj:=λx y c a b=>I.ok.inj x y c (S.sub x c a) (S.sub y c b)
 has:=S.has
 cab:=λx c h=>nomatch h
 hd:=I.ok.hd
 frames:=I.ok.frames
 stk:=.inl rfl
 exf:=λb hb=>⟨Dz (fP b hb),λx c e=>(hf b hb).2.2.2.2.1 x c (S.sub x c e)⟩
 bs:=I.bs
 bsz:=DA I.ok.bsz I.sz
 noex:=λb o e hb=>by
  rcases(hf b hb).2.2.2.1 with z|z
  ·exact I.ok.noex b o e z
  ·exact absurd (Dx (Dx (Heap.lt_size e) I.ok.bsz) z) (DV _)
 exfs:=λb hb z=>by
  rcases Dl.mp (I.stkSub b z)with q|q
  ·exact(hf b hb).2.1 q
  ·exact(hf b hb).2.2.1 q
 funs:=I.stack
 frf:=I.stkFree
theorem G8(S:CompS X scope cl bs ext)(I:Inv X a4 σ H s)(hf:∀b∈fp,FpOk X a4 H b)(fP:∀b∈fp,b<s.heap.objs.size)(hn:h1.Ns s.heap.objs.size (λ_=>none))(k:∀b o,s.heap.get? b=some o->h1.get? b=some o):
  Inv (cxC X scope cl (X.N++ext) fp s H) [] (zE bs ext.length σ) H { s with heap:=h1,toks:=t' }:=by
 have hl:=S.len.trans I.len.symm;have ft:∀c v,s.heap.IsCell c v->h1.IsCell c v:=λc v ⟨o,ho,hd⟩=>⟨o,k c o ho,hd⟩;refine⟨q6U S I hf fP,rfl,I.bare,Un.kept k,⟨_,hn,λi x v e1 e2 e3=>?_⟩,λx c e=>?_,I.hok.fresh (Dk _),λx c e=>I.freeC x c (S.sub x c e),λp hp=>absurd hp (by simp[cxC]),I.hok.kept k,?_⟩
 ·obtain⟨hi,hb,hs⟩:=Gg hl e2
  have nD:=by
   have lR:(X.N++ext)[i]?=some x:=e1;rwa [De (by have:=I.len;lia)]at lR
  obtain⟨nl,kk,vv⟩:=S.vis i x nD hb e3;obtain⟨m,_,lS⟩:=I.loc;obtain⟨u,r,l⟩:=lS i x v nD hs vv;refine⟨u,r,.inr ⟨?_,?_⟩⟩
  ·rcases e3 with z|z|z
   ·exact absurd z nl
   ·exact .inl z
   ·exact .inr z
  ·have hc:=S.has x (by
    rcases e3 with z|z|z
    ·exact absurd z nl
    ·exact .inl z
    ·exact .inr z)
   obtain⟨c,hc⟩:=hc;rcases l with⟨kl,_⟩|⟨_,c',eP,c7⟩
   ·rcases kk with z|z<;>(rw[kl]at z;cases z)
   ·rw[S.sub x c hc]at eP
    cases eP;exact⟨c,hc,ft c _ c7⟩
 ·obtain⟨v,z⟩:=I.cell x c (S.sub x c e)
  exact⟨v,ft c v z⟩
 ·rw[Gf hl,I.len];show _=(X.N++ext).length;simp
theorem G9(I:Inv X a4 σ H s)(hf:∀b∈fp,FpOk X a4 H b)(J:Inv (cxC X scope cl (X.N++ext) fp s H) dE ah H' s')(sb:Heap.SameBut s.heap.objs.size s'.heap h'):Inv X a4 σ H' { s' with heap:=h' }:=by
 have B:=J.base;have nC:∀b o,s.heap.get? b=some o->b≠s.heap.objs.size:=λb o e=>Dz (Heap.lt_size e);refine I.call' (ch:=fp) (s':={ s' with heap:=h' }) J.os ⟨λb o e n hb hx=>?_,λb o e n hb hx=>?_,λb o e n hx=>B.free b o e n hx,λb o e hx=>?_,B.tups,B.frzs,B.tbls⟩ ?_ J.bare λb hb=>⟨(hf b hb).2.2.2.1,(hf b hb).2.1,(hf b hb).2.2.2.2.1,(hf b hb).2.2.2.2.2⟩
 ·exact sb.extBut b o (nC b o e) (B.keep b o e n hb hx)
 ·obtain⟨sl,q⟩:=B.slot b o e n hb hx
  exact⟨sl,sb.extBut b _ (nC b o e) q⟩
 ·obtain⟨o',q⟩:=B.there b o e hx
  exact⟨o',sb.extBut b o' (nC b o e) q⟩
 ·intro a o e
  have fr:H' s.heap.objs.size=none:=J.free;refine(J.hok a o e).stay (λb u hb q=>sb.extBut b u ?_ q) (λ_ q=>q) λ_ _ q=>q
  lia
theorem Kg(S:CompS X scope cl bs ext)(hc:CalP cm X)(hi:PIC cm X tg aH wi)(hg:∀fp s H,PG (cxC X scope cl (X.N++ext) fp s H) tg g)(ht:∀fp s H,PTs (cxC X scope cl (X.N++ext) fp s H) cz tt)(he:∀fp s H,PE (cxC X scope cl (X.N++ext) fp s H) elt te)(hs:∀x,foldedSetIterable aH X.env x=pure x)(I:Inv X a4 σ H s)(h:xG wi bs ext.length g tt te σ H Q)(ep:Pos)(lT:∀(a7:Addr)(s2:Shared)(H2:Hp)(fp:List Addr)(ah:St)(H':Hp)(s':Shared),Inv X a4 σ H2 s2->(∀b∈fp,FpOk X a4 H2 b)->Inv (cxC X scope cl (X.N++ext) fp s2 H2) [] ah H' s'->Q (.ref a7) H' ->
   compPost (model X.prog X.w) X.A X.xe use RR (.ref a7) s2.heap.objs.size (.ok .next) s'):
  wpAny (model X.prog X.w) X.A (comprehension (.ListComp elt [⟨tg,aH,cz,0⟩] scope pos) scope X.env ep (newList []) false (eval aH X.env) use) RR X.xe s:=by
 refine wpAny_comprehension_free (use:=use) rfl hs S.clos S.kind S.names (thn (hi a4 s σ H _ I h) λv s1 h1=>thn h1 λlC s2 h2=>?_);obtain⟨it,fp,tn,J,H2,e,I2,T,eR,f2,hW⟩:=h2;subst e;refine wpAny_newList ?_ (by decide);have gq:H2 s2.heap.objs.size=none:=I2.hok.fresh (Dk _);obtain⟨W,⟨m0,w0⟩,eA⟩:=hW s2.heap.objs.size gq;have I3:=I2.lnew (its:=[]) (ys:=[]) (t':=s2.toks) .nil (DG _);generalize hs3:({ s2 with heap:=s2.heap.push { cls:=.type "list", data:=.seq ([]:List Value).toArray },toks:=s2.toks }:Shared)=s3 at I3;have lU:s3.heap.objs.size=s2.heap.objs.size+1:=by rw[<-hs3];exact Heap.size_push ..
 have k3:∀b o,s2.heap.get? b=some o->s3.heap.get? b=some o:=λb o e=>by rw[<-hs3];exact Heap.get?_push_of_some _ e
 have nE:∀b∈fp,b<s2.heap.objs.size:=λb hb=>by obtain⟨o,e,_⟩:=T.obj _ _ eR b hb;exact Heap.lt_size e
 have f3:∀b∈fp,FpOk X a4 (upd H2 s2.heap.objs.size (.lst [])) b:=λb hb=>⟨by rw[upd_ne (Dz (nE b hb))];exact(f2 b hb).1,(f2 b hb).2⟩;have nF:∀b∈fp,b<s3.heap.objs.size:=λb hb=>by rw[lU];exact Nat.lt_succ_of_lt (nE b hb)
 have gr:tn 0 s3.heap:=T.keep _ _ _ eR λb hb o e=>k3 b o e;refine wpAny_newFunctionEnv S.cell (by intro y hy;simp at hy) (λh4 lV lW=>?_) S.kind;have k4:∀b o,s3.heap.get? b=some o->h4.get? b=some o:=λb o e=>lW.extBut b o (Dz (Heap.lt_size e)) (Heap.get?_push_of_some _ e);have I4:=G8 (ext:=ext) (t':=s3.toks+([]:List (Str×Value)).length) S I3 f3 nF (h1:=h4) lV k4;have oV:tn 0 h4:=T.keep _ _ _ gr λb hb o e=>k4 b o e;generalize hs4:({ s3 with heap:=h4,toks:=s3.toks+([]:List (Str×Value)).length }:Shared)=s4 at I4 ⊢;have h8:tn 0 s4.heap:=by rw[<-hs4];exact oV
 -- the block
 generalize hY:cxC X scope cl (X.N++ext) fp s3 (upd H2 s2.heap.objs.size (.lst []))=Y at I4;have lX:∀{H':Hp},(∀b∈fp,H' b=none)->∀b∈fp,FpOk Y [] H' b:=λhn b hb=>by
  subst hY;refine⟨hn b hb,Dz (nF b hb),λz=>?_,.inl hb,λx c e=>(f3 b hb).2.2.2.2.1 x c (S.sub x c e),λp hp=>absurd hp (by simp[cxC])⟩;rcases Dl.mp (I3.stkSub b z)with q|q
  ·exact(f3 b hb).2.1 q
  ·exact(f3 b hb).2.2.1 q
 have oW:PG Y tg g:=by subst hY;exact hg _ _ _
 have oX:PTs Y cz tt:=by subst hY;exact ht _ _ _
 have oY:PE Y elt te:=by subst hY;exact he _ _ _
 have nG:CalP cm Y:=by subst hY;cases cm<;>exact hc
 have oZ:Y.prog=X.prog/\Y.w=X.w/\Y.K=X.K/\Y.A=X.A/\Y.env=compEnvC scope cl s3.heap.objs.size X.env/\Y.xe=λ_ _=>False:=by subst hY;exact⟨rfl,rfl,rfl,rfl,rfl,rfl⟩
 obtain⟨e1,e2,e3,e4,e5,e6⟩:=oZ;have never:∀{α:Type}{t:Sem α}{Q:α->Shared->Prop}{s:Shared}{E:Value->Shared->Prop},wpAny (model Y.prog Y.w) Y.A t Q Y.xe s->wpAny (model X.prog X.w) X.A t Q E s:=λ{α t Q s E} q=>by
  rw[e1,e2,e4,e6]at q;exact Uj q (λ_ _ z=>z) λ_ _ z=>z.elim
 have loop:codeAny (model X.prog X.w) X.A (.compLoop (.ListComp elt [⟨tg,aH,cz,0⟩] scope pos) 0 (.ref it) (.ref s2.heap.objs.size) (compEnvC scope cl s3.heap.objs.size X.env))
   (compPost (model X.prog X.w) X.A X.xe use RR (.ref s2.heap.objs.size) s3.heap.objs.size) s4:=by
  refine codeAny_loop rfl (λn s'=>∃i H',Inv Y [] (zE bs ext.length σ) H' s'/\tn i s'.heap/\(∀b∈fp,H' b=none)/\W i n H') (λn s5 hI=>?_) m0 ⟨0,_,I4,h8,λb hb=>(f3 b hb).1,w0⟩;obtain⟨i,H5,I5,gu,iO,w5⟩:=hI;show wpAny _ X.A ((compTurn (.ListComp elt [⟨tg,aH,cz,0⟩] scope pos) 0 (.ref it) (.ref s2.heap.objs.size) (compEnvC scope cl s3.heap.objs.size X.env)).onRaise (λx=>do noteFrame x (compEnvC scope cl s3.heap.objs.size X.env);theTreesLotGoes x)) _ _ s5;refine wpAny_noted ?_;rw[compTurn_list];rcases eA i n H5 w5 with⟨stop,qn⟩|⟨go,N,hN,step⟩
  ·refine Ug (Ur (Ug ?_))
   have hd:=T.done Y e1 e2 e3 nG i [] s5 _ H5 (λ_ _=>False) I5 (lX iO) gu stop;rw[e4]at hd;refine Uj hd (λr s6 ⟨hr,I6⟩=>?_) λ_ _ z=>z.elim;subst hr;subst hY;exact Uh (lT s2.heap.objs.size s3 _ fp _ H5 s6 I3 f3 I6 qn)
  ·refine Ug (Ur (Ug ?_))
   have hd:=T.item Y e1 e2 e3 nG i [] s5 _ H5 (λ_ _=>False) I5 (lX iO) gu go;rw[e4]at hd;refine Uj hd (λr s6 ⟨u,hr,h6⟩=>?_) λ_ _ z=>z.elim;subst hr;refine Ug (Uj h6 (λ_ s7 ⟨x,H7,I7,r7,y7,lY,p8⟩=>?_) λ_ _ z=>z.elim);have p9:=I7.pinned (lX p8) (T.obj _ _ lY);rw[<-e5];refine Ug (never (thn (oW _ s7 _ H7 x u _ p9 r7 (step x H7 y7)) λ_ s8 zz=>?_));obtain⟨iP,H8,I8,⟨pc,pd⟩,q8⟩:=zz;refine Ug (never (thn (oX _ s8 iP H8 _ I8 q8) λb s9 zz=>?_));obtain⟨H9,I9,q9⟩:=zz;have again:∀{gw:Hp}{gx:Shared}{m':Nat},Inv Y ([]++JL fp s7.heap) iP gw gx->m'<n->W (i+1) m' gw->∃m,m<n/\∃i H',Inv Y [] (zE bs ext.length σ) H' gx/\tn i gx.heap/\(∀b∈fp,H' b=none)/\W i m H':=λ{gw gx m'} fQ hm lZ=>by
    refine⟨m',hm,i+1,gw,(fQ.unpinned).weak pd.symm pc,T.keep _ _ _ lY λb hb o e=>(fQ.pin (b,o) (Ds _ (Ds _ (xo hb e)))).1,λb hb=>?_,lZ⟩;obtain⟨o,e,d⟩:=T.obj _ _ lY b hb;exact(fQ.pin (b,o) (Ds _ (Ds _ (xo hb e)))).2.1
   cases b with
   |false=>
    rw[Ui Dt]at q9;obtain⟨m',hm,w9⟩:=hN _ q9;exact Uh ⟨by rw[e5],again I9 hm w9⟩
   |true=>
    rw[Ul rfl]at q9;refine Ug (Ug (never (thn (oY _ s9 iP H9 _ I9 q9) λxv gx zz=>?_)));obtain⟨y,gw,fQ,pe,ys,fR,hz,ph⟩:=zz;obtain⟨m',hm,lZ⟩:=hN _ ph;refine Ug (never (thn (vQ (X:=Y) _ gx iP gw (.ref s2.heap.objs.size) [y] (.ref s2.heap.objs.size) [xv] (λ_ H=>∃m',m'<n/\W (i+1) m' H) fQ rfl (.cons pe .nil) ⟨_,ys,y,rfl,rfl,fR,hz,m',hm,lZ⟩) λ_ s11 zz=>?_));obtain⟨_,H11,pi,_,m2,iQ,pj⟩:=zz;exact Uh (Uh ⟨by rw[e5],again pi iQ pj⟩)
 exact codeAny_compStart_list loop (T.self X.A 0 s4 _ _ h8 loop)
theorem q4v(S:CompS X scope cl bs ext)(hc:CalP cm X)(hi:PIC cm X tg aH wi)(hg:∀fp s H,PG (cxC X scope cl (X.N++ext) fp s H) tg g)(ht:∀fp s H,PTs (cxC X scope cl (X.N++ext) fp s H) cz tt)(he:∀fp s H,PE (cxC X scope cl (X.N++ext) fp s H) elt te)(hs:∀x,foldedSetIterable aH X.env x=pure x:=by intro _;rfl):PE X (.ListComp elt [⟨tg,aH,cz,0⟩] scope pos) (xG wi bs ext.length g tt te):=by
 intro a4 s σ H Q I h;refine Kg S hc hi hg ht he hs I h _ λa7 s2 H2 fp ah H' s' I2 f2 J q=>?_;obtain⟨m,hn,_⟩:=J.loc;exact⟨m,hn,λh' sb=>⟨.ref a7,H',G9 I2 f2 J sb,rfl,q⟩⟩
theorem q4W(S:CompS X scope cl bs ext)(hc:X.calm=true)(hN:X.N.Nodup)(hG:X.N[i]?=some x)(hx:X.env.scope.names.lookup x=some .local)(hi:PI X tg aH wi)(hg:∀fp s H,PG (cxC X scope cl (X.N++ext) fp s H) tg g)(ht:∀fp s H,PTs (cxC X scope cl (X.N++ext) fp s H) cz tt)(he:∀fp s H,PE (cxC X scope cl (X.N++ext) fp s H) elt te)(eC:swapsWith (.ListComp elt [⟨tg,aH,cz,0⟩] scope pos) (some (.Name x pos')) spos.line X.env=pure true)(hs:∀x,foldedSetIterable aH X.env x=pure x:=by intro _;rfl):PS X (.Assign [.Name x pos'] (.ListComp elt [⟨tg,aH,cz,0⟩] scope pos) spos) (tAsg (xG wi bs ext.length g tt te) (qJ i)):=by
 intro a4 s σ H D I h;rw[exec_Assign_Name_used _ _ _ _ eC];refine Ug (Ur (Ug ?_));refine Ug (Uj (Kg (cm:=true) S hc hi hg ht he hs I h _ λa7 s2 H2 fp ah H' s' I2 f2 J q=>?_) (λ_ s' hq=>Uh (Uh hq)) λ_ _ e=>e);have I5:=by
  have:=G9 (h':=s'.heap) I2 f2 J (.refl ..);exact this
 obtain⟨m,hn,_⟩:=J.loc;have nH:=Bu I2.lt;have nC:∀b o,s2.heap.get? b=some o->b≠s2.heap.objs.size:=λb o e=>Dz (Heap.lt_size e);have cC:∀y c,X.env.cells.lookup y=some c->c≠s2.heap.objs.size:=λy c e=>by
  obtain⟨v,o,ho,_⟩:=I2.cell y c e;exact nC c o ho
 refine wpAny_assign_Name (VT I5 hN hG (.inl hx) (v:=.ref a7) rfl (λs6 I6 k6=>?_) (.inr hx));obtain⟨a,pk,ha⟩:=k6;have pp:a≠s2.heap.objs.size:=by
  rcases ha with z|z
  ·rw[z];exact nH.symm
  ·exact cC x a z
 refine⟨m,hn.sameBut pk pp.symm,λh' sb=>?_⟩;refine⟨_,H',I6.turned (t':=s6.toks) (λb o hb e=>sb.extBut b o hb e) ?_ nH (.inr (DA I2.ok.above (DS I2.lt))) cC λp hp=>?_,q⟩
 ·have fr:=J.free
  exact fr
 ·exact nC p.1 p.2 (I2.pin p hp).1
theorem qah(Pv:Nat->Hp->Prop)(h0:Pv 0 (upd H1 a7 (.lst [])))(hl:∀i H,i<=xs.length->Pv i H->SqL Ξ H a xs)(hs:∀i x H,xs[i]?=some x->Pv i H->g x fO H λcT H4=>(ExtS fO cT/\cT.length=fO.length)/\tt cT H4 λb H5=>
   if b=true then te cT H5 λv H6=>∃ys,H6 a7=some (.lst ys)/\ys.length<sizeLine/\Pv (i+1) (upd H6 a7 (.lst (ys++[v]))) else Pv (i+1) H5)(hd:∀H,Pv xs.length H->Q (.ref a7) H):q7Q (Itl Ξ a) a7 g tt te fO H1 Q:=by
 refine⟨λi m H=>m=xs.length-i/\i<=xs.length/\Pv i H,⟨xs.length,by simp,DG _,h0⟩,?_⟩;rintro i m H ⟨rfl,hi,p⟩;have q:=hl i H hi p;by_cases bw:i<xs.length
 ·refine .inr ⟨⟨xs,xs[i],q,by simp⟩,Pv _,λH' p'=>⟨xs.length-_,by lia,rfl,bw,p'⟩,λx H' y=>?_⟩
  obtain⟨e,y⟩:=y;subst e;exact hs i x _ (y xs q) p
 ·have e:i=xs.length:=by lia
  subst e;exact .inl ⟨⟨xs,q,Dk _⟩,hd H p⟩
noncomputable def clOf(env:Env):List (Str×NameKind)->List (Str×Addr)->List (Str×Addr)
 | [],cs=>cs
 | (n,k)::r,cs=>clOf env r (if(k==NameKind.free)=true then(n,(env.cells.lookup n).getD 0)::cs else cs)
theorem q4k(scope:Scope)(h:∀p∈scope.names,p.2=.free->∃c,env.cells.lookup p.1=some c):closureFor scope env=pure (clOf env scope.names []):=by
 unfold closureFor;have aD:∀ns cs,(∀p∈ns,p.2=.free->∃c,env.cells.lookup p.1=some c) ->
   (forIn ns cs λ(x:Str×NameKind) r=>(match x with|(name,kind)=>if(kind==NameKind.free)=true then do let c <-cellOf env name;pure (ForInStep.yield ((name,c)::r)) else pure (ForInStep.yield r)))=pure (clOf env ns cs):=by
  intro ns
  induction ns with
  |nil=>intro cs _;rfl
  |cons p r ih=>
   intro cs hp;obtain⟨n,k⟩:=p;rw[List.forIn_cons];by_cases hk:(k==NameKind.free)=true
   ·obtain⟨c,hc⟩:=hp (n,k) DH (by simpa using hk)
    have c7:cellOf env n=pure c:=by unfold cellOf;rw[hc]
    simp only[hk,Db,c7,pure_bind];rw[ih _ λq hq=>hp q (DR _ hq)];have eP:=hc;simp[clOf,hk,eP]
   ·simp only[hk,D3,U4,pure_bind]
    rw[ih _ λq hq=>hp q (DR _ hq)];simp[clOf,hk]
 grind
set_option tactic.hygienic true in
theorem Kh:∀(ns:List (Str×NameKind))(cs:List (Str×Addr)),(∀p∈ns,p.2=.free->∃c,env.cells.lookup p.1=some c)->(∀x c,cs.lookup x=some c->env.cells.lookup x=some c)->∀x c,(clOf env ns cs).lookup x=some c->env.cells.lookup x=some c
 | [],cs,_,h,x,c,e=>h x c e
 | (n,k)::r,cs,hp,h,x,c,e=>by
  refine Kh r _ (λq hq=>hp q (DR _ hq)) (λy d e'=>?_) x c e;split at e'
  ·rename_i hk
   obtain⟨c',hc⟩:=hp _ DH (by simpa using hk);rw[DP]at e';have eP:List.lookup n env.cells=some c':=hc;rw[eP]at e';split at e'
   ·rename_i hy
    have lI:y=n:=by simpa using hy
    subst lI;rw[<-e'];exact eP
   ·exact h y d e'
  ·exact h y d e'
theorem Ki:∀(ns:List (Str×NameKind))(cs:List (Str×Addr))(x:Str),((x,NameKind.free)∈ns\/∃c,cs.lookup x=some c)->∃c,(clOf env ns cs).lookup x=some c
 | [],cs,x,h=>by
  rcases h with h|h
  ·cases h
  ·exact h
 | (n,k)::r,cs,x,h=>by
  refine Ki r _ x ?_;rcases h with h|⟨c,h⟩
  ·rcases Dl.mp h with h|h<;>simp_all
  ·right
   split
   ·rw[DP]
    split
    ·exact⟨_,rfl⟩
    ·exact⟨c,h⟩
   ·exact⟨c,h⟩
noncomputable def jx(scope:Scope)(env:Env)(N:List Str)(bs:List Bool):Bool :=
 scope.names.all (λp=>p.2 != .cell)&&(scope.kind == .function)&&scope.names.all (λp=>p.2 != .local||scope.names.lookup p.1==some .local)&&(bs.length==N.length)
  && scope.names.all (λp=>p.2 != .free||(env.kindOf p.1==some .cell||env.kindOf p.1==some .free))&&(N.zip bs).all (λp=> !p.2||scope.names.lookup p.1==some .free)
theorem mem_of_lookup{β:Type}{x:Str}{b:β}:∀{l:List (Str×β)},l.lookup x=some b->(x,b)∈l
 | [],h=>by simp at h
 |_::r,h=>by
  rw[DP]at h;split at h
  ·grind
  ·exact DR _ (mem_of_lookup h)
theorem vR{env:Env}:∀{names:List (Str×NameKind)}{x:Str}{k:NameKind},
  (names.map λ(n,k)=>if(k==NameKind.free&&env.scope.kind == .function&&env.kindOf n==some .cell) then(n,NameKind.cell) else(n,k)).lookup x=some k->names.lookup x=some k\/(k=.cell/\names.lookup x=some .free)
 | [],_,_,h=>by simp at h
 |_::r,x,k,h=>by
  have ih:=@vR env r x k
  grind
theorem CompS.of(I:Inv X a4 σ H s)(h:jx scope X.env X.N bs=true):CompS X scope (clOf X.env scope.names []) bs ext:=by
 unfold jx at h;simp only[RP,List.all_eq_true]at h;obtain⟨⟨⟨⟨⟨h1,h2⟩,h3⟩,h4⟩,h5⟩,h6⟩:=h;have hc:∀p∈scope.names,p.2=.free->∃c,X.env.cells.lookup p.1=some c:=λp hp hf=>by
  have:=h5 p hp;rw[hf]at this;refine I.ok.has p.1 ?_;simpa using this
 have fS:∀{x:Str},scope.names.lookup x≠some .cell:=λ{x} e=>by
  have:=h1 _ (mem_of_lookup e);simp at this
 refine⟨q4k scope hc,λy hy=>by simpa using h1 y hy,by simpa using h2,λy hy hl=>?_,λx c e=>Kh scope.names [] hc (λ_ _ z=>by simp at z) x c e,λx hx=>?_,by simpa using h4,λi x hN hb hv=>?_⟩
 ·have:=h3 y hy
  rw[hl]at this;simpa using this
 ·refine Ki scope.names [] x (.inl ?_)
  rcases hx with hx|hx
  ·rcases vR hx with z|⟨_,z⟩
   ·exact absurd z fS
   ·exact mem_of_lookup z
  ·rcases vR hx with z|⟨z,_⟩
   ·exact mem_of_lookup z
   ·cases z
 ·have hz:=by
   have:(X.N.zip bs)[i]?=some (x,true):=by
    rw[List.getElem?_zip_eq_some];exact⟨hN,hb⟩
   exact Dh this
  have hf:=h6 _ hz;have hf:=by simpa using hf
  have hk:=h5 _ (mem_of_lookup hf);have hk:=by simpa using hk
  refine⟨λz=>?_,hk,?_⟩
  ·rcases vR z with q|⟨q,_⟩
   ·rw[hf]at q;cases q
   ·cases q
  ·rcases hk with q|q
   ·exact .inr (.inl q)
   ·exact .inr (.inr q)
noncomputable abbrev cxB(X:Cx)(scope:Scope)(ext:List Str)(fp:List Addr)(s:Shared)(H:Hp):Cx:=cxC X scope (clOf X.env scope.names []) (X.N++ext) fp s H
theorem q8x(bs:List Bool)(ext:List Str)(hi:PI X tg aH wi)(hg:∀fp s H,PG (cxB X scope ext fp s H) tg g)(ht:∀fp s H,PTs (cxB X scope ext fp s H) cz tt)(he:∀fp s H,PE (cxB X scope ext fp s H) elt te)(hk:jx scope X.env X.N bs=true:=by rfl)(hc:X.calm=true:=by rfl)(hs:∀x,foldedSetIterable aH X.env x=pure x:=by intro _;rfl):
  PE X (.ListComp elt [⟨tg,aH,cz,0⟩] scope pos) (xG wi bs ext.length g tt te):=λa4 s σ H Q I h=>q4v (cm:=true) (CompS.of I hk) hc hi hg ht he hs a4 s σ H Q I h
theorem q84(bs:List Bool)(ext:List Str)(hN:X.N.Nodup)(hG:X.N[i]?=some x)(hx:X.env.scope.names.lookup x=some .local)(hi:PI X tg aH wi)(hg:∀fp s H,PG (cxB X scope ext fp s H) tg g)(ht:∀fp s H,PTs (cxB X scope ext fp s H) cz tt)(he:∀fp s H,PE (cxB X scope ext fp s H) elt te)(hk:jx scope X.env X.N bs=true:=by rfl)(hc:X.calm=true:=by rfl)(eC:swapsWith (.ListComp elt [⟨tg,aH,cz,0⟩] scope pos) (some (.Name x pos')) spos.line X.env=pure true:=by rfl)(hs:∀x,foldedSetIterable aH X.env x=pure x:=by intro _;rfl):
  PS X (.Assign [.Name x pos'] (.ListComp elt [⟨tg,aH,cz,0⟩] scope pos) spos) (tAsg (xG wi bs ext.length g tt te) (qJ i)):=λa4 s σ H D I h=>q4W (CompS.of I hk) hc hN hG hx hi hg ht he eC hs a4 s σ H D I h
def q5W(i j:Int):Prop:=0<j/\j.natAbs.log2<9000
theorem q8i(h:q5W i j):Builtin.divisionGoesByPylong i j=false:=PyProof.noPylong_of_log2 h.2
theorem jV:OpR X (binaryOp .FloorDiv) (rI q5W λi j=>.int (i / j)):=opI λi j _ _ _ _ _ hc q=>by
 refine floordiv_int (by have:=hc.1;lia) ?_ (.inl (q8i hc));rw[RZ _ (by have:=hc.1;lia)];exact q
theorem rd_I:rI C g (.int i) (.int j) H Q=(C i j/\Q (g i j) H):=
 propext ⟨λzz=>by obtain⟨_,_,e1,e2,h⟩:=zz;cases e1;cases e2;exact h,λh=>⟨i,j,rfl,rfl,h⟩⟩
theorem q1j:rI0 g (.int i) (.int j) H Q=Q (g i j) H :=
 propext ⟨λzz=>by obtain⟨_,_,e1,e2,h⟩:=zz;cases e1;cases e2;exact h,λh=>⟨i,j,rfl,rfl,h⟩⟩
theorem Va:Q4 t σ H R=t σ H λx H'=>∃k,x=.bl k/\R k H':=rfl
theorem q0G{R:Bool->Prop}:(∃k',V.bl k=.bl k'/\R k')=R k:=propext ⟨λzz=>by obtain⟨_,e,h⟩:=zz;cases e;exact h,λh=>⟨k,rfl,h⟩⟩
theorem q16{R:Int->Prop}:(∃j,([V.int i]:List V)=[V.int j]/\R j)=R i:=propext ⟨λzz=>by obtain⟨_,e,h⟩:=zz;cases e;exact h,λh=>⟨i,rfl,h⟩⟩
theorem zS(hp:H p=none)(h:H x=some o):upd H p o' x=some o:=by rw[upd_ne (qU h hp)];exact h
theorem jS(hn:x≠p)(h:H x=some o):upd H p o' x=some o:=by rw[upd_ne hn];exact h
theorem Vs(h:upd H p o' x=none):H x=none/\x≠p:=by
 have hx:x≠p:=λe=>by subst e;rw[upd_same]at h;cases h
 rw[upd_ne hx]at h;exact⟨h,hx⟩
theorem Same.upd{H:Hp}{H1:Hp}{p:Addr}{o:HO}(s:Same H H1)(h:H p=none):Same H (upd H1 p o):=λb o' e=>by
 rw[upd_ne (qU e h)];exact s b o' e
theorem ExtS.nl:ExtS [] []:=λ_ _ h=>h
theorem ExtS.no(h:ExtS a b):ExtS (none::a) (x::b):=λi v e=>by
 cases i with
 |zero=>simp at e
 |succ i=>simpa using h i v (by simpa using e)
theorem ExtS.sm(h:ExtS a b):ExtS (x::a) (x::b):=λi v e=>by
 cases i with
 |zero=>simpa using e
 |succ i=>simpa using h i v (by simpa using e)
structure Def(P:Program)(w:World)(Ξ:PySem.W.Frag)(mg:Str->Option Value)(base:Heap)(x:Str)(k:Nat)(ps:List Str)(sp:Sp):Prop where
 ex:∃(f:Addr)(fd:FuncData),mg x=some (.ref f)/\W.keepIn Ξ (.ref f)=true/\Binds Ξ fd ps []/\FnOk P w Ξ mg base CX0 k f fd ps sp
def rIsi(Ξ:PySem.W.Frag):List V->Hp->VK->Prop:=λxs H Q=>∃x n t b,xs=[x,.ty n]/\TyOf Ξ H x (.type t)/\W.kitOne Ξ (.type t) (.type n)=some b/\Q (.bl b) H
theorem q23:xk X (.builtin "isinstance") (rIsi X.K):=by
 intro a4 s σ H xs us Q I r h;obtain⟨x,n,t,b,rfl,ty,e,q⟩:=h;obtain⟨u,v,rfl,ru,rv⟩:=vals2 r;obtain rfl:=rv;exact GA I ru ty e λtk=>⟨.bl b,H,I.tok tk,rfl,q⟩
inductive DE(Ξ:PySem.W.Frag)(H:Hp):Nat->V->V->Bool->Prop
 |flat {n:Nat}{x y:V}:jQ x=true->jQ y=true->DE Ξ H n x y (eqV x y)
 |same {n:Nat}{a:Addr}:DE Ξ H n (.ref a) (.ref a) true
 |tup {n:Nat}{a b:Addr}{xs ys:List V}{e:Nat->Bool}:a≠b->SqT Ξ H a xs->SqT Ξ H b ys->(∀(j:Nat) x y,xs[j]?=some x->ys[j]?=some y->DE Ξ H n x y (e j))->DE Ξ H (n+1) (.ref a) (.ref b) ((List.range (min xs.length ys.length)).all e&&xs.length==ys.length)
 |lst {n:Nat}{a b:Addr}{xs ys:List V}{e:Nat->Bool}:a≠b->SqL Ξ H a xs->SqL Ξ H b ys->xs.length=ys.length->(∀(j:Nat) x y,xs[j]?=some x->ys[j]?=some y->DE Ξ H n x y (e j))->DE Ξ H (n+1) (.ref a) (.ref b) ((List.range xs.length).all e)
 |lstN {n:Nat}{a b:Addr}{xs ys:List V}:a≠b->SqL Ξ H a xs->SqL Ξ H b ys->xs.length≠ys.length->DE Ξ H (n+1) (.ref a) (.ref b) false
theorem GF{A:Around}:A.in1.units=A.units+1:=rfl
theorem DE.eqAt(I:Inv X a4 σ H s)(d:DE X.K H n x y b):∀{A:Around}{u v:Value},A.units+n<cLine->RelV x u->RelV y v->SeqAt.EqAt A s u v b:=by
 induction d with
 |flat f g=>intro A u v _ rx ry;exact ZH rx ry f g
 |same=>
  intro A u v _ rx ry;obtain rfl:u=_:=rx;obtain rfl:v=_:=ry;exact SeqAt.EqAt.same _
 | @tup n a b xs ys e ne ha hb _ ih=>
  intro A u v hu rx ry;obtain rfl:u=Value.ref a:=rx;obtain rfl:v=Value.ref b:=ry;obtain⟨its,r1,p1,_⟩:=I.tuple ha;obtain⟨bd,r2,p2,_⟩:=I.tuple hb;have:=SeqAt.RcAt.tuples (A:=A) (e:=e) p1 p2 (by lia) λj h1 h2=>by
   have l1:j<xs.length:=by rw[r1.length];simpa using h1
   have l2:j<ys.length:=by rw[r2.length];simpa using h2
   obtain⟨u1,q1,s1⟩:=r1.get (Df l1);obtain⟨u2,q2,s2⟩:=r2.get (Df l2)
   grind
  rw[Du,Du, <-r1.length, <-r2.length]at this;exact .of_refs ne this
 | @lst n a b xs ys e ne ha hb hl _ ih=>
  intro A u v hu rx ry;obtain rfl:u=Value.ref a:=rx;obtain rfl:v=Value.ref b:=ry;obtain⟨its,r1,p1,_⟩:=I.list ha;obtain⟨bd,r2,p2,_⟩:=I.list hb;have:=SeqAt.RcAt.lists (A:=A) (e:=e) p1.isList p2.isList (by simp[<-r1.length, <-r2.length,hl]) (by lia) λj h1 h2=>by
   have l1:j<xs.length:=by rw[r1.length];simpa using h1
   have l2:j<ys.length:=by rw[r2.length];simpa using h2
   obtain⟨u1,q1,s1⟩:=r1.get (Df l1);obtain⟨u2,q2,s2⟩:=r2.get (Df l2)
   grind
  rw[Du, <-r1.length]at this;exact .of_refs ne this
 | @lstN n a b xs ys ne ha hb hl=>
  intro A u v hu rx ry;obtain rfl:u=Value.ref a:=rx;obtain rfl:v=Value.ref b:=ry;obtain⟨its,r1,p1,_⟩:=I.list ha;obtain⟨bd,r2,p2,_⟩:=I.list hb;exact .of_refs ne (SeqAt.RcAt.lists_lengths p1.isList p2.isList (by simp[<-r1.length, <-r2.length,hl]) (by lia))
end L2
namespace PySem.SeqAt
open AutoSeq1 (wpAny_loadPart')
open MeetsSeq MeetsSeq2 MeetsSeq3 SeqRoads2
theorem Q8(l:Addr)(items:Array Value)(n:Nat)(x:Value)(e:Nat->Bool)(j:Nat)(hj:j<items.size)(dP:e j=true)(k:Nat)(gy:items.size<=sizeLine):
  ∀i:Nat,j-i=k->i<=j->(∀m (hm:m<items.size),i<=m->m<j->e m=false)->Meets (Builtin.«list.remove.loop» ⟨[.ref l,x,rawInt i], []⟩)
   (λA R s=>s.heap.get? l=some { cls:=.type "list", dict:=none,data:=.seq items n,slots:=#[] }/\(∀m (hm:m<items.size),m<=j->EqAt A.in1 s items[m] x (e m))/\R (.ok (.ret .none)) { s with heap:=s.heap.update l (Obj.mapSeq λxs=>xs.eraseIdxIfInBounds j) }):=by
 induction k with
 |zero=>
  intro i hk eD db prog w A R s h;obtain⟨hl,he,h⟩:=h;have m4:i=j:=by lia
  subst m4
  wp_walk using wpAny_loadPart' hl;have hi:items[(i:Int).toNat]?=some items[i]:=by simp
  rw[hi];refine Ug (he _ hj (Dk _) prog w _ _ ?_);have pq:(items.eraseIdxIfInBounds i).size<=sizeLine+1:=DA (size_erased items _) (Bc gy)
  wp_walk using(wpAny_updateSeq hl rfl (hz:=gy) (_hz':=pq)),wpAny_loadPart' hl;simpa using h
 |succ k ih=>
  intro i hk eD db prog w A R s h;obtain⟨hl,he,h⟩:=h;have bw:i<items.size:=by lia
  wp_walk using wpAny_loadPart' hl;have hi:items[(i:Int).toNat]?=some items[i]:=by simp
  have hc:(i+1)=((i+1:Nat)):=by rfl
  rw[hi];refine Ug (he _ bw (by lia) prog w _ _ ?_);rw[db i bw (Dk _) (by lia)]
  wp_walk;exact⟨plainId_quiet plain_remove_loop _,codeAny_builtin entry_remove_loop (by
   exact ih (i+1) (by lia) (by lia) (λm hm h1 h2=>db m hm (by lia) h2) prog w A R _ ⟨hl,he,h⟩)⟩
theorem list_removeAt(l:Addr)(items:Array Value)(n:Nat)(x:Value)(e:Nat->Bool)(j:Nat)(hj:j<items.size)(dP:e j=true)(db:∀m (hm:m<items.size),m<j->e m=false)(gy:items.size<=sizeLine:=by size_fits):
  Meets (Builtin.«list.remove» ⟨[.ref l,x], []⟩)
   (λA R s=>s.heap.get? l=some { cls:=.type "list", dict:=none,data:=.seq items n,slots:=#[] }/\(∀m (hm:m<items.size),m<=j->EqAt A.in1 s items[m] x (e m))/\R (.ok (.ret .none)) { s with heap:=s.heap.update l (Obj.mapSeq λxs=>xs.eraseIdxIfInBounds j) }):=by
 intro prog w A R s h;obtain⟨hl,he,h⟩:=h
 wp_walk using wpAny_loadPart' hl;exact⟨plainId_quiet plain_remove_loop _,codeAny_builtin entry_remove_loop (by
  exact Q8 l items n x e j hj dP _ gy 0 rfl (DG _) (λm hm _ h2=>db m hm h2) prog w A R _ ⟨hl,he,h⟩)⟩
end PySem.SeqAt
namespace L2
open PySem PySem.Spec PyProof.Rows
def Xq(Ξ:PySem.W.Frag):V->List V->Hp->VK->Prop:=λx vs H Q=>∃l xs y j,∃e:Nat->Bool,x=.ref l/\vs=[y]/\H l=some (.lst xs)/\j<xs.length/\e j=true/\(∀m,m<j->e m=false)/\(∀(m:Nat) z,m<=j->xs[m]?=some z->DE Ξ H 20 z y (e m))/\Q .non (upd H l (.lst (xs.eraseIdx j)))
theorem W8(hu:X.A.units+64<cLine):MtM X "list.remove" (Xq X.K):=by
 intro a4 s σ H x vs v us Q I rx rv h;obtain⟨l,xs,y,j,e,rfl,rfl,hH,hj,dP,db,he,q⟩:=h;cases rx;obtain⟨u,rfl,ru⟩:=rv.one;obtain⟨z,its,n,r,hl,eo⟩:=I.lstM hH;refine UY F.slot_list_remove ⟨_,eo,rfl⟩ F.entry_list_remove (F.args_list_remove_2 _ _) (SeqAt.list_removeAt l its.toArray n u e j (by grind) dP (λm _ hm=>db m hm) (by grind)) ⟨eo,λm hm pw=>?_,?_⟩
 ·have l1:m<xs.length:=by rw[hl];simpa using hm
  obtain⟨u1,q1,s1⟩:=r.get (Df l1);have e1:its.toArray[m]=u1:=by
   have:=Dc.mp q1;obtain⟨_,z⟩:=this;simpa using z
  rw[e1];exact(he m _ pw (Df l1)).eqAt I (by lia) s1 ru
 ·refine⟨.non,_,I.lset (its':=its.eraseIdx j) hH eo (by simp) (r.eraseIdx j) (DA (Zp _ _) z),rfl,q⟩
structure Nms(mg:Str->Option Value):Prop where
 abs:mg "abs" = none
 len:mg "len" = none
 min:mg "min" = none
 max:mg "max" = none
 sum:mg "sum" = none
 sorted:mg "sorted" = none
 all:mg "all" = none
 any:mg "any" = none
 isinstance:mg "isinstance" = none
 range:mg "range" = none
 int:mg "int" = none
 list:mg "list" = none
 str:mg "str" = none
 bool:mg "bool" = none
 tuple:mg "tuple" = none
 zip:mg "zip" = none
 enumerate:mg "enumerate" = none
 dict:mg "dict" = none
theorem q0Z:bootBuiltins "abs" = some (.builtin "abs"):=by  rfl
theorem kY:bootBuiltins "len" = some (.builtin "len"):=by  rfl
theorem q4A:bootBuiltins "min" = some (.builtin "min"):=by  rfl
theorem q8d:bootBuiltins "sum" = some (.builtin "sum"):=by  rfl
theorem vi:bootBuiltins "isinstance" = some (.builtin "isinstance"):=by  rfl
theorem qaA:bootBuiltins "int" = some (.type "int"):=by  rfl
theorem jl:bootBuiltins "list" = some (.type "list"):=by  rfl
theorem q6F:bootBuiltins "str" = some (.type "str"):=by  rfl
theorem VE:bootBuiltins "tuple" = some (.type "tuple"):=by  rfl
def SameB(b:Addr)(H H':Hp):Prop:=∀x o,H x=some o->x≠b->H' x=some o
theorem SameB.trans(h:SameB b H H1)(k:SameB b H1 H2):SameB b H H2:=λx o e n=>k x o (h x o e n) n
def q4d:List V->Hp->VK->Prop:=λvs H Q=>∃p ys,vs=[.ref p]/\H p=some (.lst ys)/\Q (.int ys.length) H
theorem vJ:xk X (.builtin "len") q4d:=by
 intro a4 s σ H xs us Q I r h;obtain⟨p,ys,e,h,q⟩:=h;exact jM a4 s σ H xs us Q I r ⟨p,ys,e,.inl (SqL.of h),q⟩
theorem Gy(h:H p=some (.lst xs))(e:atI xs i=some v)(q:Q v H):rIxL Ξ (.ref p) (.int i) H Q:=⟨p,xs,i,v,rfl,rfl,SqL.of h,e,q⟩
theorem at0{α:Type}{x:α}{l:List α}:atI (x::l) 0=some x:=jz rfl
theorem q5s(h:H p=some (.lst xs))(e:ixN xs.length i=some j)(q:R (upd H p (.lst (xs.set j v)))):Y0 (.ref p) (.int i) v H R:=⟨p,xs,i,j,rfl,rfl,h,e,q⟩
theorem q8k(h:scal x y=true)(q:Q (.bl (decide (x=y))) H):rEq x y H Q:=⟨h,q⟩
theorem q5X(h:H p=some (.lst xs))(q:Q (.int xs.length) H):q4d [.ref p] H Q:=⟨p,xs,rfl,h,q⟩
theorem JV(h:H p=some (.tup [x,y]))(q:R ((σ.set i (some x)).set j (some y)) H):gTup Ξ 2 (vb (qJ i) (vb (qJ j) gNil)) (.ref p) σ H R :=
 ⟨p,_,rfl,SqT.of h,rfl,_,_,rfl,_,_,rfl,rfl,q⟩
theorem Vo(h:H p=some (.tup [x,y,z]))(q:R (((σ.set i (some x)).set j (some y)).set k (some z)) H):gTup Ξ 3 (vb (qJ i) (vb (qJ j) (vb (qJ k) gNil))) (.ref p) σ H R :=
 ⟨p,_,rfl,SqT.of h,rfl,_,_,rfl,_,_,rfl,_,_,rfl,rfl,q⟩
theorem xr:(V.int i=V.int j)=(i=j):=propext ⟨λh=>by cases h;rfl,λh=>by rw[h]⟩
theorem q8K(hN:X.N.Nodup)(hc:X.calm=true)(hi:X.N[i]?=some x)(hj:X.N[j]?=some y)(lx:Loc X.env.scope x)(ly:Loc X.env.scope y)(fx:X.fn x=true\/X.env.scope.names.lookup x=some .local)(fy:X.fn y=true\/X.env.scope.names.lookup y=some .local):
  PG X (.Tuple [.Name x px,.Name y py] kk pos) (gTup X.K 2 (vb (qJ i) (vb (qJ j) gNil))):=Wp hc (zi (zD hN hi lx fx) (zi (zD hN hj ly fy) Xz))
theorem q8j(hN:X.N.Nodup)(hc:X.calm=true)(hi:X.N[i]?=some x)(hj:X.N[j]?=some y)(hk:X.N[k]?=some z)(lx:Loc X.env.scope x)(ly:Loc X.env.scope y)(lz:Loc X.env.scope z)(fx:X.fn x=true\/X.env.scope.names.lookup x=some .local)(fy:X.fn y=true\/X.env.scope.names.lookup y=some .local)(fz:X.fn z=true\/X.env.scope.names.lookup z=some .local):
  PG X (.Tuple [.Name x px,.Name y py,.Name z pz] kk pos) (gTup X.K 3 (vb (qJ i) (vb (qJ j) (vb (qJ k) gNil)))):=Wp hc (zi (zD hN hi lx fx) (zi (zD hN hj ly fy) (zi (zD hN hk lz fz) Xz)))
theorem qd(h:X.K=Ξ):IxR X (rIxL Ξ):=h▸q4F
theorem qr(h:X.K=Ξ):IxR X (rIxT Ξ):=h▸q7p
theorem vL(h:X.K=Ξ):SlR X (rSlL Ξ):=h▸q4y
theorem zo(h:X.K=Ξ):OpR X (compareOp .In) (rIn Ξ false):=h▸WC
theorem v8(h:X.K=Ξ):xk X (.builtin "isinstance") (rIsi Ξ):=h▸q23
theorem KO(h:X.K=Ξ)(hu:X.A.units+64<cLine):MtM X "list.remove" (Xq Ξ):=h▸W8 hu
def tTru(Ξ:PySem.W.Frag)(ta:TE):TT:=λσ H Q=>ta σ H λx H'=>∃k,TruV Ξ x H' k/\Q k H'
def q7W(x:V)(H:Hp)(k:Prop):Prop:=∃p xs,x=.ref p/\H p=some (.lst xs)/\k
def tLM(r:V->List V->Hp->VK->Prop)(to:TE)(t:TA):TE:=λσ H Q=>to σ H λx H1=>q7W x H1 (t σ H1 λvs H2=>r x vs H2 Q)
def rEqT(Ξ:PySem.W.Frag):R2:=λx y H Q=>∃a b xs ys e,x=.ref a/\y=.ref b/\SqT Ξ H a xs/\SqT Ξ H b ys/\(∀(j:Nat) x y,xs[j]?=some x->ys[j]?=some y->DE Ξ H 20 x y (e j))/\Q (.bl ((List.range (min xs.length ys.length)).all e&&xs.length==ys.length)) H
theorem q4i(hK:X.K=Ξ)(hu:X.A.units+64<cLine):OpR X (compareOp .Eq) (rEqT Ξ):=by
 subst hK;intro a4 s σ H x y v u Q I rx ry h;obtain⟨a,b,xs,ys,e,rfl,rfl,ha,hb,he,q⟩:=h;obtain rfl:=rx;obtain rfl:=ry;obtain⟨its,r1,p1,_⟩:=I.tuple ha;obtain⟨bd,r2,p2,_⟩:=I.tuple hb;refine SeqAt.eq_tupleAt (e:=e) p1 p2 (by lia) (λj h1 h2=>?_) ⟨.bl _,H,I,rfl,?_⟩
 ·have l1:j<xs.length:=by rw[r1.length];grind
  have l2:j<ys.length:=by rw[r2.length];grind
  obtain⟨u1,q1,s1⟩:=r1.get (Df l1);obtain⟨u2,q2,s2⟩:=r2.get (Df l2);have e1:its.toArray[j]=u1:=by
   grind
  have e2:bd.toArray[j]=u2:=by
   grind
  rw[e1,e2];exact(he j _ _ (Df l1) (Df l2)).eqAt I (by lia) s1 s2
 ·rw[Du,Du, <-r1.length, <-r2.length]
  exact q
noncomputable def GX:V->Bool
 |.int _=>true
 |.str _=>true
 |_=>false
def q5x(Ξ:PySem.W.Frag):R2:=λx y H Q=>∃a xs,GX x=true/\y=.ref a/\SqT Ξ H a xs/\Q (.bl false) H
def q4J(Ξ:PySem.W.Frag):R2:=λx y H Q=>∃a xs,GX y=true/\x=.ref a/\SqT Ξ H a xs/\Q (.bl false) H
theorem q1X(hK:X.K=Ξ)(hu:X.A.units+64<cLine):OpR X (compareOp .Eq) (q5x Ξ):=by
 subst hK;intro a4 s σ H x y v u Q I rx ry h;obtain⟨a,xs,hf,rfl,ha,q⟩:=h;obtain rfl:=ry;obtain⟨its,r1,p1,_⟩:=I.tuple ha;cases x with
 |int i=>
  obtain⟨t,rfl⟩:=rx;exact SeqAt.RcAt.int_tuple i t p1 (by lia) _ _ _ _ ⟨.bl false,H,I,rfl,q⟩
 |str i=>
  obtain⟨t,rfl⟩:=rx;exact SeqAt.RcAt.str_tuple i t p1 (by lia) _ _ _ _ ⟨.bl false,H,I,rfl,q⟩
 |_=>exact absurd (show false=true from hf) Dt
theorem q0b(hK:X.K=Ξ)(hu:X.A.units+64<cLine):OpR X (compareOp .Eq) (q4J Ξ):=by
 subst hK;intro a4 s σ H x y v u Q I rx ry h;obtain⟨a,xs,hf,rfl,ha,q⟩:=h;obtain rfl:=rx;obtain⟨its,r1,p1,_⟩:=I.tuple ha;cases y with
 |int i=>
  obtain⟨t,rfl⟩:=ry;exact SeqAt.RcAt.tuple_int i t p1 (by lia) _ _ _ _ ⟨.bl false,H,I,rfl,q⟩
 |str i=>
  obtain⟨t,rfl⟩:=ry;exact SeqAt.RcAt.tuple_str i t p1 (by lia) _ _ _ _ ⟨.bl false,H,I,rfl,q⟩
 |_=>exact absurd (show false=true from hf) Dt
theorem WE(hK:X.K=Ξ)(hu:X.A.units+64<cLine):OpR X (compareOp .Eq) (λx y H Q=>rEq x y H Q\/rEqT Ξ x y H Q\/q5x Ξ x y H Q\/q4J Ξ x y H Q):=
 op_eq.or ((q4i hK hu).or ((q1X hK hu).or (q0b hK hu)))
structure MDef(P:Program)(w:World)(Ξ:PySem.W.Frag)(mg:Str->Option Value)(base:Heap)(C:Addr)(m:Str)(k:Nat)(ps:List Str)(sp:Sp):Prop where
 ex:∃(f:Addr)(fd:FuncData),Meth Ξ C m f/\Binds Ξ fd ps []/\FnOk P w Ξ mg base CX0 k f fd ps sp
end L2
namespace PySem.SeqAt
open AutoSeq1 (wpAny_loadPart')
open MeetsSeq MeetsSeq2 MeetsSeq3 SeqRoads2
theorem tuple_index3(l:Addr)(its:Array Value)(n:Nat)(dd:Option Addr)(sl:Array (Option Value))(a b c x:Value)(e:Nat->Bool)(hi:its=#[a,b,c])(j:Nat)(hj:j<3)(dP:e j=true)(db:∀m,m<j->e m=false):
  Meets (Builtin.«tuple.index» ⟨[.ref l,x], []⟩)
   (λA R s=>s.heap.get? l=some { cls:=.type "tuple", dict:=dd,data:=.seq its n,slots:=sl }/\EqAt A.in1 s a x (e 0)/\EqAt A.in1 s b x (e 1)/\EqAt A.in1 s c x (e 2)/\R (.ok (.ret (.int j s.toks))) { s with toks:=s.toks+1 }):=by
 intro prog w A R s h;obtain⟨hp,g,d,tk,os⟩:=s;obtain⟨hl,h0,h1,h2,h⟩:=h;subst hi;unfold Builtin.«tuple.index»;simp only[Std.Legacy.Range.forIn_eq_forIn_range']
 wp_walk using wpAny_loadPart' hl;simp only[Du,Dv,D4,Std.Legacy.Range.size,Nat.min_self,show List.range' 0 ((0+1+1+1-0+1-1) / 1) 1=[0,1,2]from rfl,List.forIn_cons,List.forIn_nil];simp only[List.forIn'.loop];rcases(show j=0\/j=1\/j=2 by lia)with rfl|rfl|rfl
 ·rw[dP]at h0
  refine Ug (Ug (h0 prog w _ _ ?_))
  wp_walk;exact h
 ·rw[db 0 (by lia)]at h0
  rw[dP]at h1;refine Ug (Ug (h0 prog w _ _ ?_));simp only[D3,U4];refine Uh ?_;refine Ug (Ug (h1 prog w _ _ ?_))
  wp_walk;exact h
 ·rw[db 0 (by lia)]at h0
  rw[db 1 (by lia)]at h1;rw[dP]at h2;refine Ug (Ug (h0 prog w _ _ ?_));simp only[D3,U4];refine Uh ?_;refine Ug (Ug (h1 prog w _ _ ?_));simp only[D3,U4];refine Uh ?_;refine Ug (Ug (h2 prog w _ _ ?_))
  wp_walk;exact h
end PySem.SeqAt
namespace L2
open PySem PySem.Spec PyProof.Rows
theorem GZ(a b:Str):eqV (.str a) (.str b)=decide (a=b):=by
 by_cases h:a=b<;>simp[eqV,h]
structure Tup3(Ξ:PySem.W.Frag)(mg:Str->Option Value)(nm:Str)(p:Addr)(x y z:Str):Prop where
 mg:mg nm=some (.ref p)
 lk:∃(a b c:Tok)(n:Nat)(sl:Array (Option Value)),Ξ.lookup p=some ⟨.type "tuple", none,.seq #[.str x a,.str y b,.str z c] n,sl⟩
theorem Tup3.sq{mg:Str->Option Value}(T:Tup3 Ξ mg nm p x y z)(H:Hp):SqT Ξ H p [.str x,.str y,.str z]:=by
 obtain⟨a,b,c,n,sl,e⟩:=T.lk;exact .inr ⟨_,_,n,e,rfl,rfl,(by decide:3<=sizeLine),.cons ⟨a,rfl⟩ (.cons ⟨b,rfl⟩ (.cons ⟨c,rfl⟩ .nil))⟩
theorem Tup3.ty{mg:Str->Option Value}(T:Tup3 Ξ mg nm p x y z)(H:Hp):tyV Ξ "tuple" (.ref p) H:=by
 obtain⟨a,b,c,n,sl,e⟩:=T.lk;exact .inr (.inl ⟨rfl,_,e,rfl,rfl⟩)
def q67(p:Addr)(x y z:Str):V->List V->Hp->VK->Prop:=λv vs H Q=>∃(t:Str)(j:Nat),v=.ref p/\vs=[.str t]/\[x,y,z][j]?=some t/\(∀m,m<j->[x,y,z][m]?≠some t)/\Q (.int j) H
theorem W9(hK:X.K=Ξ)(T:Tup3 Ξ mg nm p x y z):MtR X "tuple.index" (q67 p x y z):=by
 subst hK;intro a4 s σ H v vs w us Q I rx rv h;obtain⟨t,j,rfl,rfl,hj,db,q⟩:=h;cases rx;obtain⟨u,rfl,ru⟩:=rv.one;obtain⟨tk,rfl⟩:=ru;obtain⟨a,b,c,n,sl,e⟩:=T.lk;have eo:=I.kIn p _ e;have nI:j<3:=(Dc.mp hj).1;refine UY F.slot_tuple_index ⟨_,eo,rfl⟩ F.entry_tuple_index (F.args_tuple_index_2 _ _) (SeqAt.tuple_index3 p _ n none sl (.str x a) (.str y b) (.str z c) (.str t tk) (λm=>match m with|0=>eqV (.str x) (.str t)|1=>eqV (.str y) (.str t)|2=>eqV (.str z) (.str t)|_=>false) rfl j nI ?_ ?_)
  ⟨eo,ZH (y:=.str x) (x:=.str t) ⟨a,rfl⟩ ⟨tk,rfl⟩ rfl rfl,ZH (y:=.str y) (x:=.str t) ⟨b,rfl⟩ ⟨tk,rfl⟩ rfl rfl,ZH (y:=.str z) (x:=.str t) ⟨c,rfl⟩ ⟨tk,rfl⟩ rfl rfl,⟨.int j,H,I.tok _,⟨_,rfl⟩,q⟩⟩
 ·rcases(show j=0\/j=1\/j=2 by lia)with rfl|rfl|rfl<;>(simp at hj;subst hj;simp[GZ])
 ·intro m hm
  have:=db m hm;rcases(show m=0\/m=1\/m=2 by lia)with rfl|rfl|rfl<;>(simp at this;simp[GZ,this])
noncomputable def h00:Heap:={}
noncomputable def JP(h:Heap)(L:Addr):List (Addr×Obj):=(List.range h.objs.size).filterMap λa=>if a=L then none else(h.get? a).map λo=>(a,o)
theorem q0f(a:Addr):h00.get? a=none:=Heap.get?_none_of_le (DG _)
theorem q0j(e:h.get? b=some o)(n:b≠L):(b,o)∈JP h L:=by
 refine DX.mpr ⟨b,D8.mpr (Heap.lt_size e),?_⟩;rw[Ui n,e];rfl
theorem q4O:News h00 L h (JP h L):=λp hp=>by
 obtain⟨a,_,e⟩:=DX.mp hp;by_cases n:a=L
 ·rw[Ul n]at e;cases e
 ·rw[Ui n]at e
  cases q:h.get? a with
  |none=>rw[q]at e;cases e
  |some o=>rw[q]at e;cases e;exact⟨q,n,q0f _⟩
theorem Inv.ledger(I:Inv X a4 σ H s):∃m,Fr h00 X.env.locals s.heap m/\News h00 X.env.locals s.heap (JP s.heap X.env.locals) /\
  ∀(h':Heap)(tk:Nat),Fr h00 X.env.locals h' m->News h00 X.env.locals h' (JP s.heap X.env.locals)->Inv X a4 σ H { s with heap:=h',toks:=tk }:=by
 obtain⟨m,hn,_⟩:=I.loc;refine⟨m,⟨hn,λb o e=>(by cases e),DG _⟩,q4O,λh' tk F W=>?_⟩;have kp:∀b o,b≠X.env.locals->s.heap.get? b=some o->h'.get? b=some o:=λb o n e=>(W _ (q0j e n)).1;refine I.step (ch:=[]) (H':=H) (λb hb=>nomatch hb) (λb o n _ _ e _=>kp b o n e) (λb o n _ _ e _=>⟨o.slots,kp b o n e⟩) (λb o _ _ z=>z) (λb o _ e=>?_) (λ_ _ z=>z) (λ_ _ _ z=>z) (λb ps z=>⟨#[],by simpa using z⟩) (λm' pA=>?_) (λa o e=>?_) I.bare
 ·by_cases n:b=X.env.locals
  ·subst n
   obtain⟨o',_,_,e',_⟩:=F.ns;exact⟨o',e'⟩
  ·exact⟨o,kp b o n e⟩
 ·have:m'=m:=funext λx=>by
   obtain⟨o,es,ep,e1,e2,e3,e4⟩:=pA;obtain⟨o',gn,gK,f1,f2,f3,f4⟩:=hn
   grind
  rw[this];exact F.ns
 ·refine(I.hok a o e).stay (λb u hb q=>kp b u ?_ q) (λ_ q=>q) λ_ _ q=>q
  intro z;have:=I.free
  lia
def q5B(Ξ:PySem.W.Frag):List V->Hp->VK->Prop:=λxs H Q=>∃p ys,xs=[.ref p]/\(SqL Ξ H p ys\/SqT Ξ H p ys)/\Q (.int ys.length) H
theorem K7(h:X.K=Ξ):xk X (.builtin "len") (q5B Ξ):=h▸jM
structure GInt(mg:Str->Option Value)(nm:Str)(n:Int):Prop where
 ex:∃t,mg nm=some (.int n t)
def Bt(n:Nat)(i:Int):Prop:=i.natAbs<2^n
theorem Bt.bits(h:Bt n i):Builtin.Int.intBits i<=n:=intBits_le_iff.mpr h
theorem Bt.mono(h:Bt n i)(hm:n<=m):Bt m i:=Dx h (Ra (by decide) hm)
theorem Bt.neg(h:Bt n i):Bt n (-i):=by unfold Bt;rw[Int.natAbs_neg];exact h
theorem Bt.small(h0 : -(2^62)<i)(h1:i<2^62)(hn:62<=n):Bt n i:=by
 refine Bt.mono (n:=62) ?_ hn;unfold Bt;lia
theorem Bt.nonneg_le(h:Bt n i)(h0:0<=j)(h1:j<=i):Bt n j:=by
 unfold Bt at *;lia
theorem Bt.sign(h:Bt n i)(hs:s=1\/s = -1):Bt n (s*i):=by
 rcases hs with rfl|rfl
 ·rw[DN];exact h
 ·rw[Int.neg_mul,DN];exact h.neg
def q8q(i j:Int):Prop:=0<=j/\j<=100000/\Bt 100000 i
theorem q3v:OpR X (binaryOp .LShift) (rI q8q λi j=>.int (i*2^j.toNat)):=opI λi j _ _ _ _ _ hc q=>lshift_int hc.1 (by
 have:=hc.2.2.bits;have h2:=hc.2.1;lia) q
def rBits:V->List V->Hp->VK->Prop:=λx vs H Q=>∃n:Int,x=.int n/\vs=[]/\Q (.int (Builtin.Int.intBits n)) H
theorem q3r:MtR X "int.bit_length" rBits:=by
 intro a4 s σ H x vs v us Q I rx rv h;obtain⟨n,rfl,rfl,q⟩:=h;obtain⟨t,rfl⟩:=rx;cases rv;exact call_int_bit_length ⟨.int _,H,I.tok _,⟨_,rfl⟩,q⟩
structure Nms2(mg:Str->Option Value):Prop where
 reversed:mg "reversed" = none
noncomputable def Itv(Ξ:PySem.W.Frag)(a:Addr)(n:Nat):It :=
 ⟨λi H=>i<n/\∃xs,SqL Ξ H a xs/\xs.length=n,λi H x H'=>H'=H/\∀xs,SqL Ξ H a xs->xs[n-1-i]?=some x,λi H=>n=i⟩
theorem q09(a it:Addr)(n:Nat):Turn P w Ξ tg (Itv Ξ a n) [it] it (λi h=>h.IsRevIter it a ((n:Int)-1-i)) where
 mem:=by simp
 obj:=λi h st b hb=>by
  have e:b=it:=by simpa using hb
  obtain⟨o,e,c,d⟩:=st
  grind
 keep:=λi h h' st k=>st.at λo e=>k it (by simp) o e
 item:=by
  intro X hP hw hK hc i a4 s σ H E I hf st hg;subst hP hw hK;obtain⟨hi,xs,hq,hn⟩:=hg;obtain⟨its,rv,p,hz⟩:=I.list hq;have hx:xs[n-1-i]?=some xs[n-1-i]:=Df (by lia);obtain⟨u,hu,ru⟩:=rv.get hx;obtain⟨f0,f1,f2,f3,f4,f5⟩:=hf it (by simp);have eR:s.heap.IsRevIter it a (((n-1-i:Nat)):Int):=by
   lia
  refine wpAny_pyNext_rev_item eR p.isList (x:=u) (by simpa using hu) λh' cS sb=>?_;have I1:=I.turned (t':=s.toks) (λb o hb e=>(sb.2 b hb).trans e) f0 f1 f3 f4 f5;obtain⟨o,e,c,d⟩:=id cS;have gr:h'.IsRevIter it a ((n:Int)-1-((i+1:Nat):Int)):=by
   grind
  exact⟨u,rfl,q0i e c d (by decide) ⟨_,H,I1,ru,⟨rfl,λys hy=>by rw[I.list_inj hy hq];exact hx⟩,gr,λb hb=>(hf b hb).1⟩⟩
 done:=by
  intro X hP hw hK hc i a4 s σ H E I hf st hg;obtain⟨f0,f1,f2,f3,f4,f5⟩:=hf it (by simp);have eR:=by
   have e:(n:Int)-1-i = -1:=by have:n=i:=hg;lia
   rw[e]at st;exact st
  exact wpAny_pyNext_rev_end (I.ok.hd hc) eR λh' eb=>⟨rfl,I.turned (t':=s.toks) (λb o hb e=>eb b o hb e) f0 f1 f3 f4 f5⟩
 self:=λ_ _ _ _ _ st h=>wpAny_pyIter_revIter st h
def q2s(Ξ:PySem.W.Frag)(vs:List V)(H:Hp)(R:It->Hp->Prop):Prop:=∃a xs,vs=[.ref a]/\SqL Ξ H a xs/\R (Itv Ξ a xs.length) H
def iRev(Ξ:PySem.W.Frag)(ta:TA):TI:=λσ H R=>ta σ H λvs H1=>q2s Ξ vs H1 R
theorem Vb:iRev Ξ ta σ H R=ta σ H λvs H1=>q2s Ξ vs H1 R:=rfl
def rNeL(Ξ:PySem.W.Frag):R2:=λx y H Q=>∃a b xs ys,x=.ref a/\y=.ref b/\SqL Ξ H a xs/\SqL Ξ H b ys/\((xs.length≠ys.length/\Q (.bl true) H)\/(xs.length=ys.length/\∃e:Nat->Bool,(∀(j:Nat) x y,xs[j]?=some x->ys[j]?=some y->DE Ξ H 20 x y (e j))/\Q (.bl (!(List.range xs.length).all e)) H))
def rEqL(Ξ:PySem.W.Frag):R2:=λx y H Q=>∃a b xs ys,x=.ref a/\y=.ref b/\SqL Ξ H a xs/\SqL Ξ H b ys/\((xs.length≠ys.length/\Q (.bl false) H)\/(xs.length=ys.length/\∃e:Nat->Bool,(∀(j:Nat) x y,xs[j]?=some x->ys[j]?=some y->DE Ξ H 20 x y (e j))/\Q (.bl ((List.range xs.length).all e)) H))
theorem XA(hK:X.K=Ξ)(hu:X.A.units+64<cLine):OpR X (compareOp .NotEq) (rNeL Ξ):=by
 subst hK;intro a4 s σ H x y v u Q I rx ry h;obtain⟨a,b,xs,ys,rfl,rfl,ha,hb,h⟩:=h;obtain rfl:=rx;obtain rfl:=ry;obtain⟨its,r1,p1,_⟩:=I.list ha;obtain⟨bd,r2,p2,_⟩:=I.list hb;rcases h with⟨hl,q⟩|⟨hl,e,he,q⟩
 ·exact EqBoolInt.of_rcne (SeqAt.RcNeAt.lists_lengths p1.isList p2.isList (by simp[<-r1.length, <-r2.length,hl]) (by lia)) ⟨.bl _,H,I,rfl,q⟩
 ·refine EqBoolInt.of_rcne (SeqAt.RcNeAt.lists (e:=e) p1.isList p2.isList (by simp[<-r1.length, <-r2.length,hl]) (by lia) λj h1 h2=>?_) ⟨.bl _,H,I,rfl,?_⟩
  ·have l1:j<xs.length:=by rw[r1.length];simpa using h1
   have l2:j<ys.length:=by rw[r2.length];simpa using h2
   obtain⟨u1,q1,s1⟩:=r1.get (Df l1);obtain⟨u2,q2,s2⟩:=r2.get (Df l2);have e1:its.toArray[j]=u1:=by
    grind
   have e2:bd.toArray[j]=u2:=by
    grind
   rw[e1,e2];exact(he j _ _ (Df l1) (Df l2)).eqAt I (by lia) s1 s2
  ·rw[Du, <-r1.length]
   exact q
theorem q5f(hK:X.K=Ξ)(hu:X.A.units+64<cLine):OpR X (compareOp .Eq) (rEqL Ξ):=by
 subst hK;intro a4 s σ H x y v u Q I rx ry h;obtain⟨a,b,xs,ys,rfl,rfl,ha,hb,h⟩:=h;obtain rfl:=rx;obtain rfl:=ry;obtain⟨its,r1,p1,_⟩:=I.list ha;obtain⟨bd,r2,p2,_⟩:=I.list hb;rcases h with⟨hl,q⟩|⟨hl,e,he,q⟩
 ·exact EqBoolInt.of_rc (SeqAt.RcAt.lists_lengths p1.isList p2.isList (by simp[<-r1.length, <-r2.length,hl]) (by lia)) ⟨.bl _,H,I,rfl,q⟩
 ·refine EqBoolInt.of_rc (SeqAt.RcAt.lists (e:=e) p1.isList p2.isList (by simp[<-r1.length, <-r2.length,hl]) (by lia) λj h1 h2=>?_) ⟨.bl _,H,I,rfl,?_⟩
  ·have l1:j<xs.length:=by rw[r1.length];simpa using h1
   have l2:j<ys.length:=by rw[r2.length];simpa using h2
   obtain⟨u1,q1,s1⟩:=r1.get (Df l1);obtain⟨u2,q2,s2⟩:=r2.get (Df l2);have e1:its.toArray[j]=u1:=by
    grind
   have e2:bd.toArray[j]=u2:=by
    grind
   rw[e1,e2];exact(he j _ _ (Df l1) (Df l2)).eqAt I (by rw[GF];lia) s1 s2
  ·rw[Du, <-r1.length]
   exact q
noncomputable def zG:Expr->Bool
 |.Starred _ _=>false
 |_=>true
theorem YA(h:zG e=true):starEach (e::es) env=(false,eval e env)::starEach es env:=by
 cases e<;>first|rfl|cases h
structure QE(X:Cx)(e:Expr)(t:TE):Prop where
 h:PE X e t
structure QT(X:Cx)(e:Expr)(t:TT):Prop where
 h:PT X e t
structure QW(X:Cx)(e:Expr)(t:TT):Prop where
 h:PW X e t
structure QA(X:Cx)(e:List Expr)(t:TA):Prop where
 h:PA X e t
structure QS(X:Cx)(e:Stmt)(t:TS):Prop where
 h:PS X e t
structure QSs(X:Cx)(e:List Stmt)(t:TS):Prop where
 h:PSs X e t
structure QG(X:Cx)(e:Expr)(t:TG):Prop where
 h:PG X e t
structure QTs(X:Cx)(e:List Expr)(t:TT):Prop where
 h:PTs X e t
structure QO(X:Cx)(e:Option Expr)(t:TO):Prop where
 h:PO X e t
structure QI(X:Cx)(tg e:Expr)(t:TI):Prop where
 h:PI X tg e t
structure QPs(X:Cx)(pos:Pos)(ks:List (Option Expr))(vs:List Expr)(t:List (TE×TE)):Prop where
 h:PPs X pos ks vs t
theorem qt:QSs X [] Q5:= ⟨λ_ _ σ H _ I h=>Ut ⟨σ,H,I,h⟩⟩
theorem qc{st:Stmt}(h1:QS X st t):QSs X [st] t:= ⟨by
 have h1 := h1.h;intro a4 s σ H D I h;refine Uw (thn (h1 a4 s σ H D I h) λf s1 q=>?_);cases f with
 |next=>exact Ut q
 |ret v=>exact q
 |brk=>exact q
 |cont=>exact q⟩
theorem qb{rest:List Stmt}{st:Stmt}(h1:QS X st t)(h2:QSs X rest u):QSs X (st::rest) (tSeq t u):= ⟨by
 have h1 := h1.h;have h2 := h2.h;intro a4 s σ H D I h;refine Uw (thn (h1 a4 s σ H { D with nx:=u D } I h) λf s1 q=>?_);cases f with
 |next=>
  obtain⟨ah,H',I',q⟩:=q;exact h2 a4 s1 ah H' D I' q
 |ret v=>exact q
 |brk=>exact q
 |cont=>exact q⟩
theorem q8n(bs:List Bool)(ext:List Str)(hN:X.N.Nodup)(hG:X.N[i]?=some x)(hx:X.env.scope.names.lookup x=some .local)(hi:QI X tg aH wi)(hg:∀fp s H,QG (cxB X scope ext fp s H) tg g)(ht:∀fp s H,QTs (cxB X scope ext fp s H) cz tt)(he:∀fp s H,QE (cxB X scope ext fp s H) elt te)(hk:jx scope X.env X.N bs=true:=by rfl)(hc:X.calm=true:=by rfl)(eC:swapsWith (.ListComp elt [⟨tg,aH,cz,0⟩] scope pos) (some (.Name x pos')) spos.line X.env=pure true:=by rfl)(hs:∀x,foldedSetIterable aH X.env x=pure x:=by intro _;rfl):QS X (.Assign [.Name x pos'] (.ListComp elt [⟨tg,aH,cz,0⟩] scope pos) spos) (tAsg (xG wi bs ext.length g tt te) (qJ i)):=⟨q84 bs ext hN hG hx hi.h (λfp s H=>(hg fp s H).h) (λfp s H=>(ht fp s H).h) (λfp s H=>(he fp s H).h) hk hc eC hs⟩
theorem xa(ha:QE X o ta)(hv:QE X value tv)(hs:swapsWith value (some (.Attribute o f pos')) pos.line X.env=pure false):QS X (.Assign [.Attribute o f pos'] value pos) (sFld X.K ta tv f):= ⟨by
 have ha := ha.h;have hv := hv.h;intro a4 s σ H D I h;refine UL (thn (hv a4 s σ H _ I h) λu s1 ⟨y,H1,I1,ry,q⟩=>thn (ha a4 s1 σ H1 _ I1 q) λov s2 ⟨x,H2,I2,rx,a,C,dx,fs,ex,ea,c,n,l,q2⟩=>?_) hs;subst ex;obtain rfl:=rx;exact Qh I2 ea c n l ry λs3 I3=>⟨σ,_,I3,q2⟩⟩
theorem ql(hN:X.N.Nodup)(hi:X.N[i]?=some x)(hx:Loc X.env.scope x)(he:QE X e te)(hs:swapsWith e (some (.Name x pos')) pos.line X.env=pure false:=by rfl)(hf:X.fn x=true\/X.env.scope.names.lookup x=some .local:=by first|exact .inl rfl|exact .inr rfl|assumption):QS X (.Assign [.Name x pos'] e pos) (tAsg te (qJ i)):= ⟨by
 have he := he.h;intro a4 s σ H D I h;refine UM (thn (he a4 s σ H _ I h) λv s1 ⟨y,H1,I1,r1,q1⟩=>?_) hs;exact vK I1 hN hi hx r1 (λs2 I2=>⟨_,H1,I2,q1⟩) hf⟩
theorem vD(he:QE X e te)(hg:QG X tg g)(hs:swapsWithSole [tg] e pos.line X.env=pure false:=by rfl)(hw:swappedStores [tg] e X.env=pure none:=by rfl)(h1:(assignEach [tg] X.env).map (·.2)=[assign tg X.env]:=by rfl):QS X (.Assign [tg] e pos) (tAsg te g):= ⟨by
 have he := he.h;have hg := hg.h;intro a4 s σ H D I h;refine UZ (thn (he a4 s σ H _ I h) λv s1 ⟨x,H1,I1,r1,q1⟩=>?_) hs hw;rw[h1];exact thn (hg a4 s1 σ H1 x v _ I1 r1 q1) λ_ s2 q=>q⟩
theorem q2p(hN:X.N.Nodup)(hi:X.N[i]?=some x)(hx:Loc X.env.scope x)(he:QE X e te)(ho:PIp X op ti)(hf:X.fn x=true\/X.env.scope.names.lookup x=some .local:=by first|exact .inl rfl|exact .inr rfl|assumption):QS X (.AugAssign (.Name x pos') op e pos) (tAug i te ti):= ⟨by
 have he := he.h;intro a4 s σ H D I h;obtain⟨v,e1,h⟩:=h;obtain⟨m,hn,hl⟩:=I.loc;have vis:Vis X.env.scope x:=by rcases hx with k|k;exact .inl k;exact .inr (.inl k)
 obtain⟨u,r,l⟩:=hl i x v hi e1 vis;refine wpAny_AugAssign_Name ?_;have go:wpAny (model X.prog X.w) X.A (eval e X.env) (λw bg=>wpAny (model X.prog X.w) X.A (inplaceOp op u w) (λr eq=>wpAny (model X.prog X.w) X.A (storeName X.env x r) (λ_=>SP X a4 D .next) X.xe eq) X.xe bg) X.xe s:=by
  refine thn (he a4 s σ H _ I h) λw s1 zz=>?_;obtain⟨y,H1,I1,r1,q1⟩:=zz;refine thn (ho a4 s1 σ H1 v y u w _ I1 r r1 q1) λz s2 zz=>?_;obtain⟨zv,H2,I2,r2,q2⟩:=zz;exact vK I2 hN hi hx r2 (λs3 I3=>⟨_,H2,I3,q2⟩) hf
 rcases l with⟨hk,hm⟩|⟨hk,c,hc,c7⟩
 ·exact wpAny_loadName_local I.ok.kind hk hn hm go
 ·rcases hk with hk|hk
  ·exact wpAny_loadName_cell I.ok.kind hk hc c7 go
  ·rcases hx with k|k
   ·have:X.env.scope.names.lookup x=some .free:=hk
    rw[k]at this;cases this
   ·have:X.env.scope.names.lookup x=some .free:=hk
    rw[k]at this;cases this⟩
theorem q5e:QS X (.Return none pos) VQ:= ⟨λ_ _ σ H _ I h=>wpAny_Return_none ⟨.non,σ,H,I,rfl,h⟩⟩
theorem qi(he:QE X e te):QS X (.Return (some e) pos) (tRet te):= ⟨by
 have he := he.h;intro a4 s σ H D I h;exact wpAny_Return_some (thn (he a4 s σ H _ I h) λv s1 ⟨x,H1,I1,r1,q1⟩=>⟨x,σ,H1,I1,r1,q1⟩)⟩
theorem qI(hc:QT X c tc)(ha:QSs X a t)(hb:QSs X b u):QS X (.If c a b pos) (tIfS tc t u):= ⟨by
 have hc := hc.h;have ha := ha.h;have hb := hb.h;intro a4 s σ H D I h;refine wpAny_If (thn (hc a4 s σ H _ I h) λd s1 zz=>?_);obtain⟨H1,I1,q1⟩:=zz;cases d with
 |true=>exact ha a4 s1 σ H1 D I1 q1
 |false=>exact hb a4 s1 σ H1 D I1 q1⟩
theorem z0(hp:PassesOwn (model X.prog X.w) X.A X.env X.xe)(hc:X.calm=true)(hi:QI X tg aH wi)(hg:QG X tg g)(hb:QSs X body tb)(hs:∀x,foldedSetIterable aH X.env x=pure x:=by intro _;rfl):QS X (.For tg aH body [] pos) (tFor wi g tb):= ⟨by
 have hi := hi.h;have hg := hg.h;have hb := hb.h;intro a4 s σ H D I h;refine wpAny_For (thn (hi a4 s σ H _ I h) λv s1 h1=>thn h1 λlC s2 h2=>?_) hs;obtain⟨it,fp,tn,J,H2,e,I2,T,eR,f2,W,⟨m0,w0⟩,eA⟩:=h2;subst e;have fT:∀{H':Hp},(∀b∈fp,H' b=none)->∀b∈fp,FpOk X a4 H' b:=λhn b hb=>⟨hn b hb,(f2 b hb).2⟩;refine codeAny_forLoop_any (λn s'=>∃i ah H',Inv X a4 ah H' s'/\tn i s'.heap/\(∀b∈fp,H' b=none)/\W i n ah H') ?_ m0 ⟨0,σ,H2,I2,eR,λb hb=>(f2 b hb).1,w0⟩;rintro n s3 ⟨i,eE,H3,I3,gr,nJ,w3⟩;rcases eA i n eE H3 w3 with⟨stop,qn⟩|⟨go,N,hN,step⟩
 ·refine Uv hp (thn (T.done X rfl rfl rfl hc i a4 s3 eE H3 X.xe I3 (fT nJ) gr stop) λr s4 zz=>?_)
  obtain⟨hr,I4⟩:=zz;subst hr;exact Ut ⟨eE,H3,I4,qn⟩
 ·refine Uv hp (thn (T.item X rfl rfl rfl hc i a4 s3 eE H3 X.xe I3 (fT nJ) gr go) λr s4 zz=>?_)
  obtain⟨u,hr,h4⟩:=zz;subst hr;refine Uv hp (thn h4 λ_ s5 zz=>?_);obtain⟨x,H5,I5,r5,y5,gu,iO⟩:=zz;have pB:=I5.pinned (fT iO) (T.obj _ _ gu);refine Uv hp (thn (hg _ s5 eE H5 x u _ pB r5 (step x H5 y5)) λ_ s6 zz=>?_);obtain⟨pC,H6,I6,q6⟩:=zz;refine Uv hp (thn (hb _ s6 pC H6 _ I6 q6) λf s7 q7=>?_);have again:∀{eF:St}{H7:Hp},Inv X _ eF H7 s7->N eF H7->∃m,m<n/\∃i ah H',Inv X a4 ah H' s7/\tn i s7.heap/\(∀b∈fp,H' b=none)/\W i m ah H':=λ{eF H7} I7 n7=>by
   obtain⟨m',hm,w7⟩:=hN eF H7 n7;refine⟨m',hm,i+1,eF,H7,I7.unpinned,T.keep _ _ _ gu λb hb o e=>(I7.pin _ (Ds _ (Ds _ (xo hb e)))).1,λb hb=>?_,w7⟩;obtain⟨o,e,d⟩:=T.obj _ _ gu b hb;exact(I7.pin _ (Ds _ (Ds _ (xo hb e)))).2.1
  cases f with
  |next=>obtain⟨eF,H7,I7,n7⟩:=q7;exact again I7 n7
  |cont=>obtain⟨eF,H7,I7,n7⟩:=q7;exact again I7 n7
  |brk=>obtain⟨eF,H7,I7,q7⟩:=q7;exact⟨eF,H7,I7.unpinned,q7⟩
  |ret v=>obtain⟨x7,eF,H7,I7,r7,q7⟩:=q7;exact⟨x7,eF,H7,I7.unpinned,r7,q7⟩⟩
theorem xZ(hp:PassesOwn (model X.prog X.w) X.A X.env X.xe)(hc:QT X c tc)(hb:QSs X body tb):QS X (.While c body [] pos) (Jp tc tb):= ⟨by
 have hc := hc.h;have hb := hb.h;intro a4 s σ H D I h;obtain⟨W,⟨m0,w0⟩,eA⟩:=h;refine wpAny_While (codeAny_whileLoop (λn s'=>∃ah H',Inv X a4 ah H' s'/\W n ah H') ?_ m0 ⟨σ,H,I,w0⟩);rintro n s1 ⟨cY,H1,I1,w1⟩;refine Uv hp (thn (hc a4 s1 cY H1 _ I1 (eA n cY H1 w1)) λb s2 zz=>?_);obtain⟨H2,I2,q2⟩:=zz;cases b with
 |true=>
  obtain⟨N,hN,q2⟩:=q2;refine Uv hp (thn (hb a4 s2 cY H2 _ I2 q2) λf s3 q3=>?_);cases f with
  |next=>
   obtain⟨eE,H3,I3,n3⟩:=q3;obtain⟨m',hm,w3⟩:=hN eE H3 n3;exact⟨m',hm,eE,H3,I3,w3⟩
  |cont=>
   obtain⟨eE,H3,I3,n3⟩:=q3;obtain⟨m',hm,w3⟩:=hN eE H3 n3;exact⟨m',hm,eE,H3,I3,w3⟩
  |brk=>exact q3
  |ret v=>exact q3
 |false=>
  exact Ut ⟨cY,H2,I2,q2⟩⟩
theorem vj(he:QE X e te)(hs:swapsWith e none pos.line X.env=pure false:=by rfl):QS X (.Expr e pos) (VS te):= ⟨by
 have he := he.h;intro a4 s σ H D I h;exact U8 (thn (he a4 s σ H _ I h) λv s1 ⟨x,H1,I1,r1,q1⟩=>⟨σ,H1,I1,q1⟩) I.quiet hs⟩
theorem ja(hg:Gl X "range")(hm:X.mg "range" = none)(ha:QA X [a] ta)(hs:starEach [a] X.env=[(false,eval a X.env)]:=by rfl):QI X tg (.Call (.Name "range" p) [a] [] pos) (q6t ta):= ⟨by
 have ha := ha.h;intro a4 s σ H R I h;refine Call_ (Zq I hg hm boot_range (PyProof.Rows.callWith_type1 (thn (ha pos a4 s σ H _ I h) λus s1 ⟨vs,H1,I1,r1,q1⟩=>?_) hs rfl));obtain⟨j,e,q1,q2,q⟩:=q1;subst e;cases r1 with
 |cons r rr=>
  cases rr;obtain⟨t,rfl⟩:=r;exact call_range_1 (q1Z I1 (by lia) (by lia) q1 q2 (by simpa using q))⟩
theorem q5l(hK:X.K=Ξ)(hg:Gl X "reversed")(hm:X.mg "reversed" = none)(ha:QA X [a] ta)(hs:starEach [a] X.env=[(false,eval a X.env)]:=by rfl):QI X tg (.Call (.Name "reversed" p) [a] [] pos) (iRev Ξ ta):= ⟨by
 have ha := ha.h;subst hK;intro a4 s σ H R I h;refine Call_ (Zq I hg hm boot_reversed (PyProof.Rows.callWith_type1 (thn (ha pos a4 s σ H _ I h) λus s1 ⟨vs,H1,I1,r1,q1⟩=>?_) hs rfl));obtain⟨l,xs,e,hq,q⟩:=q1;subst e;cases r1 with
 |cons r rr=>
  cases rr;cases r;obtain⟨its,rv,pl,hz⟩:=I1.list hq;have au:=rv.length;refine call_reversed_list pl.isList (wpAny_pyIter_revIter ⟨_,Heap.get?_push_size _ rfl,rfl,rfl⟩ ?_);refine⟨s1.heap.objs.size, [s1.heap.objs.size],_,_,H1,rfl,I1.kept (t':=s1.toks) λb o e=>Heap.get?_push_of_some _ e,q09 l _ xs.length,?_,λb hb=>?_,q⟩
  ·refine⟨_,Heap.get?_push_size _ rfl,rfl,?_⟩
   rw[au];simp;rfl
  ·have e:=by simpa using hb
   subst e;exact I1.fpOk (Dk _) (I1.hok.fresh (Dk _))⟩
theorem qY(h:X.K=Ξ)(hl:QE X l tl):QI X tg l (GG Ξ tl):= ⟨have hl := hl.h;h▸q44 hl⟩
theorem vd(hN:X.N.Nodup)(hi:X.N[i]?=some x)(hx:Loc X.env.scope x)(hf:X.fn x=true\/X.env.scope.names.lookup x=some .local:=by first|exact .inl rfl|exact .inr rfl|assumption):QG X (.Name x pos) (qJ i):=⟨zD hN hi hx hf⟩
theorem V5(h:X.K=Ξ)(hN:X.N.Nodup)(hc:X.calm=true)(hi:X.N[i]?=some x)(hj:X.N[j]?=some y)(lx:Loc X.env.scope x)(ly:Loc X.env.scope y)(fx:X.fn x=true\/X.env.scope.names.lookup x=some .local)(fy:X.fn y=true\/X.env.scope.names.lookup y=some .local):QG X (.Tuple [.Name x px,.Name y py] kk pos) (gTup Ξ 2 (vb (qJ i) (vb (qJ j) gNil))):= ⟨h▸q8K hN hc hi hj lx ly fx fy⟩
theorem Wb(h:X.K=Ξ)(hN:X.N.Nodup)(hc:X.calm=true)(hi:X.N[i]?=some x)(hj:X.N[j]?=some y)(hk:X.N[k]?=some z)(lx:Loc X.env.scope x)(ly:Loc X.env.scope y)(lz:Loc X.env.scope z)(fx:X.fn x=true\/X.env.scope.names.lookup x=some .local)(fy:X.fn y=true\/X.env.scope.names.lookup y=some .local)(fz:X.fn z=true\/X.env.scope.names.lookup z=some .local):QG X (.Tuple [.Name x px,.Name y py,.Name z pz] kk pos) (gTup Ξ 3 (vb (qJ i) (vb (qJ j) (vb (qJ k) gNil)))):= ⟨h▸q8j hN hc hi hj hk lx ly lz fx fy fz⟩
theorem vM(ho:QE X o to)(hi:QE X i ti)(hs:PSet X t)(ha:∀v,assign (.Subscript o i pos) X.env v=(do
   let ov <-holding [v] (eval o X.env);let iv <-holding [v,ov] (eval i X.env)
   standAt pos
   holding [v,ov,iv] (setItem ov iv v)
   release [v,ov,iv] []):=by intro _;rfl):QG X (.Subscript o i pos) (gSub to ti t):= ⟨by
 have ho := ho.h;have hi := hi.h;intro a4 s σ H v u Q I r h;rw[ha];refine Ug (Up (thn (ho a4 s σ H _ I h) λov s1 zz=>?_));obtain⟨x,H1,I1,r1,q1⟩:=zz;refine Ug (Up (thn (hi a4 s1 σ H1 _ I1 q1) λiv s2 zz=>?_));obtain⟨y,H2,I2,r2,q2⟩:=zz;refine Ug (Ur (Ug (Up (thn (hs a4 s2 σ H2 x y v ov iv u _ I2 r1 r2 r q2) λ_ s3 zz=>?_))));obtain⟨H3,I3,q3⟩:=zz;exact wpAny_release ⟨σ,H3,I3,q3⟩⟩
theorem jm:QTs X [] tYes:= ⟨λ_ _ _ H _ I h=>wpAny_tests_nil ⟨H,I,h⟩⟩
theorem xI(h:QT X c t):QTs X [c] t:= ⟨have h := h.h;λa4 s σ H Q I q=>wpAny_tests_one (h a4 s σ H Q I q)⟩
theorem qa_c(ha:QE X e te)(hr:QA X es t)(h:zG e=true:=by rfl):QA X (e::es) (vW te t):= ⟨have ha := ha.h;have hr := hr.h;q59 ha hr (YA h)⟩
theorem zm:QA X [] tNil:= ⟨λ_ _ _ _ H Q I h=>Calls.spliced_nil ⟨[],H,I,.nil,h⟩⟩
theorem qg(ho:OpR X (compareOp op) r)(ha:QE X a ta)(hb:QE X b tb)(hm:behindInMarks op b=false):QT X (.Compare a [op] [b] pos) (Q4 (tOp r ta tb)):= ⟨by
 have ha := ha.h;have hb := hb.h;intro a4 s σ H Q I h;refine wpAny_isTrue_Compare1 (thn (ha a4 s σ H _ I h) λv s1 ⟨x,H1,I1,r1,q1⟩=>thn (hb a4 s1 σ H1 _ I1 q1) λu s2 ⟨y,H2,I2,r2,q2⟩=>
  thn (ho a4 s2 σ H2 x y v u _ I2 r1 r2 q2) λc s3 ⟨z,H3,I3,r3,k,e,q3⟩=>?_) hm
 subst e;cases r3;exact UB ⟨H3,I3,q3⟩⟩
theorem V2(h:QW X e t):QT X e t:=⟨PW.pt h.h⟩
theorem QD{rest:List Expr}(ha:QT X a tA)(hb:QW X (.BoolOp .And (b::rest) pos) iH):QW X (.BoolOp .And (a::b::rest) pos) (tAnd tA iH):= ⟨by
 have ha := ha.h;have hb := hb.h;intro wh a4 s σ H Q I h;refine isTrue_and (thn (ha a4 s σ H _ I h) λc s1 zz=>?_);obtain⟨H1,I1,q1⟩:=zz;cases c with
 |true=>exact hb wh a4 s1 σ H1 Q I1 q1
 |false=>exact⟨H1,I1,q1⟩⟩
theorem kr(ha:QT X a tA):QW X (.BoolOp .And [a] pos) tA:= ⟨by
 have ha := ha.h;intro wh a4 s σ H Q I h;refine isTrue_and (thn (ha a4 s σ H Q I h) λc s1 e=>?_);cases c with
 |true=>exact isTrue_and_nil e
 |false=>exact e⟩
theorem q4n{rest:List Expr}(ha:QT X a tA)(hb:QW X (.BoolOp .Or (b::rest) pos) iH):QW X (.BoolOp .Or (a::b::rest) pos) (tOr tA iH):= ⟨by
 have ha := ha.h;have hb := hb.h;intro wh a4 s σ H Q I h;refine isTrue_or (thn (ha a4 s σ H _ I h) λc s1 zz=>?_);obtain⟨H1,I1,q1⟩:=zz;cases c with
 |true=>exact⟨H1,I1,q1⟩
 |false=>exact hb wh a4 s1 σ H1 Q I1 q1⟩
theorem Y6(ha:QT X a tA):QW X (.BoolOp .Or [a] pos) tA:= ⟨by
 have ha := ha.h;intro wh a4 s σ H Q I h;refine isTrue_or (thn (ha a4 s σ H Q I h) λc s1 e=>?_);cases c with
 |false=>exact isTrue_or_nil e
 |true=>exact e⟩
theorem Y7(ha:QT X a tA):QT X (.UnaryOp .Not a pos) (tNot tA):= ⟨by
 have ha := ha.h;intro a4 s σ H Q I h;exact isTrue_not (ha a4 s σ H _ I h)⟩
theorem zg(h:QE X e t)(he:∀bx,isTrue e X.env bx=(do let v <-bx;standAt e.pos;holding [v] (truthy v)):=by intro _;rfl):QT X e (tB t):= ⟨by
 have h := h.h;intro a4 s σ H Q I hw;refine isTrue_plain (thn (h a4 s σ H _ I hw) λv s1 ⟨x,H1,I1,r1,q1⟩=>?_) (he _);obtain⟨d,rfl,q⟩:=q1;cases r1;exact UB ⟨H1,I1,q⟩⟩
theorem V3(h:X.K=Ξ)(ha:QE X a ta)(he:∀bx,isTrue a X.env bx=(do let v <-bx;standAt a.pos;holding [v] (truthy v))):QT X a (tTru Ξ ta):= ⟨have ha := ha.h;h▸q0g ha he⟩
theorem vN:QE X (.Constant .none j pos) (tC .non):= ⟨λ_ _ _ H _ I h=>Constant_none ⟨.non,H,I,rfl,h⟩⟩
theorem q22:QE X (.Constant (.bool b) j pos) (tC (.bl b)):= ⟨λ_ _ _ H _ I h=>Constant_bool ⟨.bl b,H,I,rfl,h⟩⟩
theorem qa:QE X (.Constant (.int i) j pos) (tC (.int i)):= ⟨λ_ _ _ H _ I h=>wpAny_Constant_int ⟨.int i,H,I.tok _,⟨_,rfl⟩,h⟩⟩
theorem qe:QE X (.Constant (.str x) j pos) (tC (.str x)):= ⟨λ_ _ _ H _ I h=>Calls.Constant_str ⟨.str x,H,I.tok _,⟨_,rfl⟩,h⟩⟩
theorem qv{X:Cx}(i:Nat){x:Str}{pos:Pos}(hN:X.N[i]?=some x:=by rfl)(hv:Vis X.env.scope x:=by first|exact Or.inl rfl|exact Or.inr (Or.inl rfl)|exact Or.inr (Or.inr rfl))(hd:(x==("__debug__" : Str))=false:=by decide)(cZ:(x==("__classdict__" : Str))=false:=by decide):QE X (.Name x pos) (tVar i):=⟨pv i hN hv hd cZ⟩
theorem q6P(ho:UnR X (unaryOp op) r)(ha:QE X a ta):QE X (.UnaryOp op a pos) (tUn r ta):= ⟨by
 have ha := ha.h;intro a4 s σ H Q I h;exact UnaryOp_ (thn (ha a4 s σ H _ I h) λv s1 ⟨x,H1,I1,r1,q1⟩=>ho a4 s1 σ H1 x v Q I1 r1 q1)⟩
theorem qm(ho:OpR X (binaryOp op) r)(ha:QE X a ta)(hb:QE X b tb):QE X (.BinOp a op b pos) (tOp r ta tb):= ⟨by
 have ha := ha.h;have hb := hb.h;intro a4 s σ H Q I h;exact wpAny_BinOp (binT ha hb I h λv u s2 x y H2 I2 rx ry q=>ho a4 s2 σ H2 x y v u Q I2 rx ry q)⟩
theorem ze(ho:OpR X (compareOp op) r)(ha:QE X a ta)(hb:QE X b tb)(hm:behindInMarks op b=false):QE X (.Compare a [op] [b] pos) (tOp r ta tb):= ⟨by
 have ha := ha.h;have hb := hb.h;intro a4 s σ H Q I h;exact wpAny_Compare1 (binT ha hb I h λv u s2 x y H2 I2 rx ry q=>ho a4 s2 σ H2 x y v u Q I2 rx ry q) hm⟩
theorem JJ(ho:OpR X (compareOp op) r)(bv:OpR X (compareOp op') r')(ha:QE X a ta)(hb:QE X b tb)(hc:QE X c tc)(hm:lastMarks [op,op'] [b,c]=false:=by with_unfolding_all rfl):QE X (.Compare a [op,op'] [b,c] pos) (jB r r' ta tb tc):= ⟨by
 have ha := ha.h;have hb := hb.h;have hc := hc.h;intro a4 s σ H Q I h;refine Compare_chain (thn (ha a4 s σ H _ I h) λv s1 ⟨x,H1,I1,r1,q1⟩=>chain_link (thn (hb a4 s1 σ H1 _ I1 q1) λu s2 ⟨y,H2,I2,r2,q2⟩=>
  thn (ho a4 s2 σ H2 x y v u _ I2 r1 r2 q2) λd s3 ⟨z,H3,I3,r3,k,e,q3⟩=>?_)) hm
 subst e;cases r3;refine UB ?_;cases k with
 |false=>exact ite_ff ⟨.bl false,H3,I3,rfl,q3⟩
 |true=>exact ite_tt (chain_last (thn (hc a4 s3 σ H3 _ I3 q3) λw' s4 ⟨z',H4,I4,r4,q4⟩=>bv a4 s4 σ H4 y z' u w' Q I4 r2 r4 q4))⟩
theorem qZ(hc:QT X c tA)(ha:QE X a ta)(hb:QE X b tb):QE X (.IfExp c a b pos) (tIf tA ta tb):= ⟨by
 have hc := hc.h;have ha := ha.h;have hb := hb.h;intro a4 s σ H Q I h;refine wpAny_IfExp (thn (hc a4 s σ H _ I h) λd s1 zz=>?_);obtain⟨H1,I1,q1⟩:=zz;cases d with
 |true=>exact ha a4 s1 σ H1 Q I1 q1
 |false=>exact hb a4 s1 σ H1 Q I1 q1⟩
theorem qA(h:QA X es t):QE X (.List es pos) (tLst t):= ⟨by
 have h := h.h;intro a4 s σ H Q I hq;refine wpAny_List_spliced (thn (h pos a4 s σ H _ I hq) λus s1 ⟨xs,H1,I1,r,z,q⟩=>⟨by rw[<-r.length];exact z,?_⟩);have hf:=I1.hok.fresh (Dk _);refine⟨.ref s1.heap.objs.size,upd H1 s1.heap.objs.size _,I1.laid (t':=s1.toks) (λb u e=>Heap.get?_push_of_some _ e) (Dk _) ?_,rfl,q _ hf⟩;exact⟨z,us,0,r,Heap.get?_push_size _ rfl⟩⟩
theorem qy(h:QA X es t):QE X (.Tuple es x1 pos) (tTup t):= ⟨by
 have h := h.h;intro a4 s σ H Q I hq;refine wpAny_Tuple_spliced (thn (h pos a4 s σ H _ I hq) λus s1 ⟨xs,H1,I1,r,z,q⟩=>⟨by rw[<-r.length];exact z,?_⟩);have hf:=I1.hok.fresh (Dk _);refine⟨.ref s1.heap.objs.size,upd H1 s1.heap.objs.size _,I1.laid (t':=s1.toks) (λb u e=>Heap.get?_push_of_some _ e) (Dk _) ?_,rfl,q _ hf⟩;exact⟨z,us,r,⟨_,Heap.get?_push_size _ rfl,rfl,_,rfl⟩⟩⟩
theorem vm{hi lo:Option Expr}(hr:SlR X r)(he:QE X e te)(hl:QO X lo tl)(hu:QO X hi th):QE X (.Subscript e (.Slice lo hi none p2) pos) (tSl r te tl th):= ⟨by
 have he := he.h;have hl := hl.h;have hu := hu.h;intro a4 s σ H Q I h;refine Subscript_ (thn (he a4 s σ H _ I h) λv s1 zz=>?_);obtain⟨x,H1,I1,r1,q1⟩:=zz;refine wpAny_Slice (thn (hl a4 s1 σ H1 _ I1 q1) λvl s2 ⟨l,H2,I2,pl,q2⟩=>thn (hu a4 s2 σ H2 _ I2 q2) λvu s3 zz=>?_);obtain⟨u,H3,I3,pu,q3⟩:=zz;refine Uh ?_;have I4:Inv X a4 σ H3 { s3 with heap:=s3.heap.push { cls:=.type "slice", data:=.fields #[vl,vu,.none] } }:=I3.kept (t':=s3.toks) λb ob q=>Heap.get?_push_of_some _ q;obtain⟨T,id,hT,ht,hg⟩:=hr a4 { s3 with heap:=s3.heap.push { cls:=.type "slice", data:=.fields #[vl,vu,.none] } } σ H3 x v vl vu l u s3.heap.objs.size Q I4 r1 (Heap.IsSliceOf.new ..) pl pu q3;exact tail_any ht hT hg rfl⟩
theorem vf(h:QE X e te):QO X (some e) (VR te):= ⟨by
 have h := h.h;intro a4 s σ H Q I hw;refine thn (h a4 s σ H _ I hw) λu s1 zz=>?_;obtain⟨x,H1,I1,r1,q1⟩:=zz;obtain⟨i,rfl,q⟩:=q1;obtain⟨t,rfl⟩:=r1;exact⟨some i,H1,I1,.int i t,q⟩⟩
theorem zC:QO X none zT:= ⟨by
 intro a4 s σ H Q I h;exact Uh ⟨none,H,I,.none,h⟩⟩
theorem qh(hr:IxR X r)(ha:QE X a ta)(hb:QE X b tb)(hs:Jc b):QE X (.Subscript a b pos) (tOp r ta tb):= ⟨by
 have ha := ha.h;have hb := hb.h;intro a4 s σ H Q I h;exact Subscript_ (binT ha hb I h λv u s2 x y H2 I2 rx ry q=>hr a b a4 s2 σ H2 x y v u Q I2 rx ry q (hs _ _))⟩
theorem zd(hu:X.A.units+1<cLine)(ho:QE X o td)(hi:QE X i ty)(hs:NoSl i):QE X (.Subscript o i pos) (Yy td ty):= ⟨by
 have ho := ho.h;have hi := hi.h;intro a4 s σ H Q I h;refine Yz PySem.F.slot_dict_getitem.lookup hs (thn (ho a4 s σ H _ I h) λu s1 ⟨x,H1,I1,rx,q1⟩=>thn (hi a4 s1 σ H1 _ I1 q1) λiv s2 zz=>?_);obtain⟨y,H2,I2,ry,a,v,ex,g,q2⟩:=zz;subst ex;obtain rfl:=rx;exact⟨X4 I2 g,G6 hu I2 g ry λw' s3 I3 df=>⟨v,H2,I3,df,q2⟩⟩⟩
theorem qG(he:QE X e ta)(hb:attributeBase e f X.env (eval e X.env)=eval e X.env):QE X (.Attribute e f pos) (tFld X.K ta f):= ⟨by
 have he := he.h;intro a4 s σ H Q I h;refine qaB hb (thn (he a4 s σ H _ I h) λu s1 zz=>?_);obtain⟨x,H1,I1,rx,a,C,dx,fs,v,ex,ea,c,n,l,q⟩:=zz;subst ex;obtain rfl:=rx;exact QM I1 ea c n l λu' s2 I2 ru=>⟨v,H1,I2,ru,q⟩⟩
theorem jO(bs:List Bool)(ext:List Str)(hi:QI X tg aH wi)(hg:∀fp s H,QG (cxB X scope ext fp s H) tg g)(ht:∀fp s H,QTs (cxB X scope ext fp s H) cz tt)(he:∀fp s H,QE (cxB X scope ext fp s H) elt te)(hk:jx scope X.env X.N bs=true:=by rfl)(hc:X.calm=true:=by rfl)(hs:∀x,foldedSetIterable aH X.env x=pure x:=by intro _;rfl):QE X (.ListComp elt [⟨tg,aH,cz,0⟩] scope pos) (xG wi bs ext.length g tt te):=⟨q8x bs ext hi.h (λfp s H=>(hg fp s H).h) (λfp s H=>(ht fp s H).h) (λfp s H=>(he fp s H).h) hk hc hs⟩
theorem Wc(h:QPs X pos keys cK er)(ef:keys.all (·.isSome)=true)(hl:keys.length=cK.length)(h0:keys≠[])(pD:keys.length<=15):QE X (.Dict keys cK pos) (q5Z er):= ⟨by
 have h := h.h;intro a4 s σ H Q I q;have hn:=I.hok.fresh (Dk s.heap.objs.size);have I1:=I.laid (h':=s.heap.push { cls:=.type "dict", data:=.dict #[] }) (t':=s.toks) (λ_ _ q=>Heap.get?_push_of_some _ q) (Dk _) (Kb s.heap I.big);refine wpAny_Dict_walk (knd:=ve X.prog X.w) ef hl h0 pD (thn (h a4 _ σ _ _ I1 (q _ hn)) λws s2 zz=>?_);obtain⟨ps,H2,I2,bi,e,kvs,ep,lk,q2⟩:=zz;subst ep;obtain⟨rs,c,rk⟩:=QV bi;obtain⟨z,hd,vs0,r0,dd⟩:=q7z I2.hok e;cases r0;refine⟨rs,c,dd,λh' fM hs=>⟨.ref s.heap.objs.size,_,?_,rfl,q2⟩⟩;have hz:(kH [] kvs).length<=sizeLine:=by
  have h1:=je kvs [];rw[D4]at h1;rw[Uk];lia
 have he:∃q,h'.get? s.heap.objs.size=some q:=let⟨q,_,_,hq,_⟩:=fM;⟨q,hq⟩;exact X5 I2 (by rw[e];exact True.intro) hs he (q33 hz hd (rk.merge .nil) fM)⟩
theorem Wa:QPs X pos [] [] []:= ⟨λa4 s σ H Q I h=>pairTrees_nil_walk ⟨[],H,I,.nil,h⟩⟩
theorem zx(hk:QE X k tk)(hv:QE X v tv)(hr:QPs X pos ks vs er):QPs X pos (some k::ks) (v::vs) ((tk,tv)::er):= ⟨have hk := hk.h;have hv := hv.h;have hr := hr.h;λa4 s σ H Q I h=>
 pairTrees_cons_walk (thn (hk a4 s σ H _ I h) λu s1 ⟨x,H1,I1,rx,q1⟩=>thn (hv a4 s1 σ H1 _ I1 q1) λw2 s2 ⟨y,H2,I2,ry,q2⟩=>
  thn (hr a4 s2 σ H2 _ I2 q2) λws s3 ⟨ps,H3,I3,bi,q3⟩=>⟨_::ps,H3,I3,.cons ⟨rx,ry⟩ bi,q3⟩)⟩
theorem qf(D:Def X.prog X.w X.K X.mg X.base x k ps sp)(hr:Room k X.A)(ha:QA X (e::es) t)(hg:Gl X x:=by rfl)(c9:(x==("__debug__" : Str))=false:=by decide)(he:starEach (e::es) X.env=(false,eval e X.env)::starEach es X.env:=by rfl)(bQ:(backTo pos (starEach es X.env)).any (·.1)=false:=by rfl):QE X (.Call (.Name x p) (e::es) [] pos) (zW sp [] E0 t):= ⟨by
 have ha := ha.h;obtain⟨f,fd,h1,h2,h3,h4⟩:=D.ex;exact q4P h4 hr hg h1 h2 h3 .nil q0m ha c9 he bQ⟩
theorem qE{id:String}(hc:xk X (.builtin id) r)(hg:Gl X x)(hm:X.mg x=none)(hv:bootBuiltins x=some (.builtin id))(ha:QA X (e::es) t)(hn:x ≠ "__name__" := by decide)(c9:(x==("__debug__" : Str))=false:=by decide)(he:starEach (e::es) X.env=(false,eval e X.env)::starEach es X.env:=by rfl)(bQ:(backTo pos (starEach es X.env)).any (·.1)=false:=by rfl):QE X (.Call (.Name x p) (e::es) [] pos) (tCB r t):= ⟨by
 have ha := ha.h;intro a4 s σ H Q I h;refine Uy (Zq I hg hm hv ?_ hn c9);exact PyProof.Rows.callWith_builtin1 (thn (ha pos a4 s σ H _ I h) λus s1 ⟨vs,H1,I1,r1,q1⟩=>hc a4 s1 σ H1 vs us Q I1 r1 q1) he bQ⟩
theorem vz{T:String}(hc:xk X (.type T) r)(hg:Gl X x)(hm:X.mg x=none)(hv:bootBuiltins x=some (.type T))(ha:QA X (e::es) t)(hn:x ≠ "__name__" := by decide)(c9:(x==("__debug__" : Str))=false:=by decide)(he:starEach (e::es) X.env=(false,eval e X.env)::starEach es X.env:=by rfl)(bQ:(backTo pos (starEach es X.env)).any (·.1)=false:=by rfl):QE X (.Call (.Name x p) (e::es) [] pos) (tCB r t):= ⟨by
 have ha := ha.h;intro a4 s σ H Q I h;refine Uy (Zq I hg hm hv ?_ hn c9);exact PyProof.Rows.callWith_type1 (thn (ha pos a4 s σ H _ I h) λus s1 ⟨vs,H1,I1,r1,q1⟩=>hc a4 s1 σ H1 vs us Q I1 r1 q1) he bQ⟩
theorem xb(hg:Gl X x)(hm:X.mg x=none)(hv:bootBuiltins x=some u)(r:RelV v u)(hn:x ≠ "__name__" := by decide)(hd:(x==("__debug__" : Str))=false:=by decide):QE X (.Name x pos) (tC v):= ⟨λ_ _ _ H _ I h=>Zq I hg hm hv ⟨v,H,I,r,h⟩ hn hd⟩
theorem q8c{T id:String}(pa:PlainAttrs T)(slot:Slot T name id)(hX:typeOf (.builtin id)=pure (.type "method_descriptor"))(hm:MtR X id r)(ho:QE X o to)(ha:QA X (e::es) t)(cU:attributeBase o name X.env (eval o X.env)=eval o X.env:=by rfl)(fU:((backTo ax (starEach (e::es) X.env)).all (λx=> !x.1)&&(backToKw ax (keywordEach [] X.env)).all (λx=>x.1.isSome)
   && decide ((e::es).length+([]:List Keyword).length+(if([]:List Keyword).isEmpty then 0 else 1)<30))=true:=by rfl)(cV:(aF.endLine==ax.line)=true:=by rfl)(hs:starEach (e::es) X.env=(false,eval e X.env)::starEach es X.env:=by rfl)(ce:(backTo ax (starEach es X.env)).any (·.1)=false:=by rfl):QE X (.Call (.Attribute o name aF) (e::es) [] ax) (tBM X.K T r to t):= ⟨by
 have ho := ho.h;have ha := ha.h;intro a4 s σ H Q I h;refine wpAny_Call_method_late cU fU cV rfl (thn (ho a4 s σ H _ I h) λv s1 zz=>?_);obtain⟨x,H1,I1,r1,ty,q1⟩:=zz;obtain⟨h1,h2⟩:=Yp I1 r1 ty;refine⟨T,id,pa,slot,hX,h1,h2,?_⟩;have hA:=ha ax a4 s1 σ H1 _ I1 q1;rw[hs]at hA ⊢;refine Calls.callWith_builtin (by show(false||(backTo ax (starEach es X.env)).any (·.1))=false;rw[ce]<;>rfl) (Calls.evalArgs_plain ?_);exact thn hA λus s2 ⟨vs,H2,I2,r2,q2⟩=>hm a4 s2 σ H2 x vs v us Q I2 r1 r2 q2⟩
theorem We{T id:String}(pa:PlainAttrs T)(slot:Slot T name id)(hX:typeOf (.builtin id)=pure (.type "method_descriptor"))(hm:MtR X id r)(ho:QE X o to)(cU:attributeBase o name X.env (eval o X.env)=eval o X.env:=by rfl)(cV:(aF.endLine==ax.line)=true:=by rfl):QE X (.Call (.Attribute o name aF) [] [] ax) (tBM0 X.K T r to):= ⟨by
 have ho := ho.h;intro a4 s σ H Q I h;refine wpAny_Call_method0_late cU cV (thn (ho a4 s σ H _ I h) λv s1 zz=>?_);obtain⟨x,H1,I1,r1,ty,q1⟩:=zz;obtain⟨h1,h2⟩:=Yp I1 r1 ty;exact⟨T,id,pa,slot,hX,h1,h2,Calls.callWith_builtin rfl (PySem.evalArgs_none (hm a4 s1 σ H1 x [] v [] Q I1 r1 .nil q1))⟩⟩
theorem jN{id:String}(slot:Slot "list" name id)(hX:typeOf (.builtin id)=pure (.type "method_descriptor"))(hm:MtR X id r)(ho:QE X o to)(ha:QA X (e::es) t)(cU:attributeBase o name X.env (eval o X.env)=eval o X.env:=by rfl)(fU:((backTo ax (starEach (e::es) X.env)).all (λx=> !x.1)&&(backToKw ax (keywordEach [] X.env)).all (λx=>x.1.isSome)
   && decide ((e::es).length+([]:List Keyword).length+(if([]:List Keyword).isEmpty then 0 else 1)<30))=true:=by rfl)(cV:(aF.endLine==ax.line)=true:=by rfl)(hs:starEach (e::es) X.env=(false,eval e X.env)::starEach es X.env:=by rfl)(ce:(backTo ax (starEach es X.env)).any (·.1)=false:=by rfl):QE X (.Call (.Attribute o name aF) (e::es) [] ax) (tLM r to t):= ⟨by
 have ho := ho.h;have ha := ha.h;intro a4 s σ H Q I h;refine wpAny_Call_method_late cU fU cV rfl (thn (ho a4 s σ H _ I h) λv s1 zz=>?_);obtain⟨x,H1,I1,r1,p,xs,ex,hp,q1⟩:=zz;subst ex;obtain⟨h1,h2⟩:=Yp I1 r1 (.inl ⟨rfl,xs,SqL.of hp⟩);refine⟨"list", id,PySem.F.plainAttrs_list,slot,hX,h1,h2,?_⟩;have hA:=ha ax a4 s1 σ H1 _ I1 q1;rw[hs]at hA ⊢;refine Calls.callWith_builtin (by show(false||(backTo ax (starEach es X.env)).any (·.1))=false;rw[ce]<;>rfl) (Calls.evalArgs_plain ?_);exact thn hA λus s2 ⟨vs,H2,I2,r2,q2⟩=>hm a4 s2 σ H2 _ vs v us Q I2 r1 r2 q2⟩
theorem va(D:MDef X.prog X.w X.K X.mg X.base C m k ps sp)(c:Cls X.K C)(he:QE X o ta)(hr:Room k X.A)(ha:QA X (e::es) t)(eW:starEach (e::es) X.env=(false,eval e X.env)::starEach es X.env:=by rfl)(bQ:(backTo pos (starEach es X.env)).any (·.1)=false:=by rfl)(ht:eval (.Call (.Attribute o m aF) (e::es) [] pos) X.env=(do
   let ov <-eval o X.env
   standAt aF.atName;let(f,first) <-holding [ov] (getMethod ov m pl)
   callWith pos f first (backTo pos (starEach (e::es) X.env)) (backToKw pos (keywordEach [] X.env))):=by rfl):QE X (.Call (.Attribute o m aF) (e::es) [] pos) (Xh C m sp [] E0 ta t):= ⟨by
 have he := he.h;have ha := ha.h;obtain⟨f,fd,h1,h2,h3⟩:=D.ex;exact q5i he c h1 h3 hr h2 .nil q0m ha eW bQ ht⟩
theorem zI(G:GInt X.mg x n)(hg:Gl X x)(hd:(x==("__debug__" : Str))=false:=by decide):QE X (.Name x pos) (tC (.int n)):= ⟨by
 obtain⟨t,e⟩:=G.ex;exact Wq hg e ⟨t,rfl⟩ hd⟩
theorem q2X(hu:X.A.units+1<cLine)(hi:QE X i ty)(ho:QE X o td)(h1:behindInMarks .In o=false:=by with_unfolding_all rfl):QT X (.Compare i [.In] [o] pos) (tB (tDIn ty td)):=⟨q3m (q5Y hu hi.h ho.h) h1⟩
theorem V4(hu:X.A.units+1<cLine)(hi:QE X i ty)(ho:QE X o td)(h1:behindInMarks .NotIn o=false:=by with_unfolding_all rfl):QT X (.Compare i [.NotIn] [o] pos) (tB (Q6 ty td)):=⟨q3m (Ws hu hi.h ho.h) h1⟩
theorem ku(hu:X.A.units+1<cLine)(ho:QE X o td)(hi:QE X i ty)(hv:QE X value tv)(hs:swapsWith value (some (.Subscript o i pos')) pos.line X.env=pure false:=by rfl):QS X (.Assign [.Subscript o i pos'] value pos) (q7s td ty tv):= ⟨by
 have ho := ho.h;have hi := hi.h;have hv := hv.h;intro a4 s σ H D I h;refine wpAny_Assign_Subscript (thn (hv a4 s σ H _ I h) λr s1 ⟨v,H1,I1,rv,q1⟩=>thn (ho a4 s1 σ H1 _ I1 q1) λu s2 ⟨x,H2,I2,rx,q2⟩=>thn (hi a4 s2 σ H2 _ I2 q2) λiv s3 ⟨y,H3,I3,ry,a,H4,ex,g,q3⟩=>?_) hs;subst ex;obtain rfl:=rx;exact G5 hu I3 g ry rv λs4 I4=>⟨σ,H4,I4,q3⟩⟩
theorem ky:QE X (.Dict [] [] pos) Js:= ⟨λa4 s σ H Q I h=>
 wpAny_Dict_empty ⟨.ref s.heap.objs.size,_,I.laid (t':=s.toks) (λ_ _ q=>Heap.get?_push_of_some _ q) (Dk _) (Kb s.heap I.big),rfl,h _ (I.hok.fresh (Dk _))⟩⟩
theorem Xw(hg:Gl X x)(hm:X.mg x=some u)(r:RelV v u)(hd:(x==("__debug__" : Str))=false:=by decide):QE X (.Name x pos) (tC v):=⟨Wq hg hm r hd⟩
structure q0d(P:Program)(w:World)(Ξ:PySem.W.Frag)(mg:Str->Option Value)(base:Heap)(C:Addr)(x:Str)(k:Nat)(ps:List Str)(sp:Sp):Prop where
 ex:∃(f:Addr)(fd:FuncData),Mk Ξ C f/\mg x=some (.ref C)/\Binds Ξ fd ps []/\FnOk P w Ξ mg base CX0 k f fd ps sp
theorem q7u(D:q0d X.prog X.w X.K X.mg X.base C x k ps sp)(hr:Room (k+1) X.A)(hg:Gl X x)(ha:QA X (e::es) t)(c9:(x==("__debug__" : Str))=false:=by decide)(he:starEach (e::es) X.env=(false,eval e X.env)::starEach es X.env:=by rfl)(bQ:(backTo pos (starEach es X.env)).any (·.1)=false:=by rfl):QE X (.Call (.Name x p) (e::es) [] pos) (q3p C sp [] E0 t):=by
 obtain⟨f,fd,h1,h2,h3,h4⟩:=D.ex;exact⟨q49 h1 h4 hr hg h2 h3 .nil q0m ha.h c9 he bQ⟩
theorem Y8(hc:X.calm=true)(hN:X.N.Nodup)(hi:X.N[i]?=some x)(hj:X.N[j]?=some y)(eD:i≠j)(hx:X.env.scope.names.lookup x=some .local)(hy:X.env.scope.names.lookup y=some .local)(ha:QA X [a,b] ta)(hw:swappedStores [.Tuple [.Name x px,.Name y py] kt pt] (.Tuple [a,b] k2 pt2) X.env=pure (some [x,y]))(hs:swapsWithSole [.Tuple [.Name x px,.Name y py] kt pt] (.Tuple [a,b] k2 pt2) pos.line X.env=pure false:=by rfl):
  QS X (.Assign [.Tuple [.Name x px,.Name y py] kt pt] (.Tuple [a,b] k2 pt2) pos) (tPar i j ta):= ⟨by
 have ha := ha.h;intro a4 s σ H D I h;refine Ug (Ur ?_);refine Ug (Uh ?_);refine Ug (Tuple_ (thn (ha _ a4 s σ H _ I h) λus s1 zz=>?_));obtain⟨vs,H1,I1,r1,q1⟩:=zz;obtain⟨v,w,e1,q1⟩:=q1;subst e1;obtain⟨u1,u2,rfl,rv,df⟩:∃u1 u2,us=[u1,u2]/\RelV v u1/\RelV w u2:=by
  cases r1 with
  |cons p q=>
   cases q with
   |cons p' q'=>
    cases q';exact⟨_,_,rfl,p,p'⟩
 refine UJ ?_ (by show 2<=sizeLine;decide);have I2:Inv X a4 σ H1 { s1 with heap:=s1.heap.push { cls:=.type "tuple", data:=.seq [u1,u2].toArray } }:=I1.kept (t':=s1.toks) λb o e=>Heap.get?_push_of_some _ e;rw[hw];refine Ug (Uh ?_);refine Ug (Da (Ug (unpackItems_tuple (items:=#[u1,u2]) (I.ok.hd hc) (IsTup.new s1.heap _) λh' m5=>?_)));have I3:=I2.kept (h':=h') (t':=s1.toks) λb o e=>m5 b o (Dz (Heap.lt_size e)) e;refine Ug (Uu (UN (vK I3 hN hj (.inl hy) df (λs2 I4=>?_) (.inr hy))));refine Uu (UN (vK I4 hN hi (.inl hx) rv (λs3 I5=>U1 (Uh ?_)) (.inr hx)));rw[RD _ _ (Ne.symm eD)]at I5;exact⟨_,H1,I5,q1⟩⟩
def q7T(i j k:Nat)(ta:TA):TS:=λD σ H=>ta σ H λvs H1=>∃v w u,vs=[v,w,u]/\D.nx (((σ.set i (some v)).set j (some w)).set k (some u)) H1
theorem q4e(hc:X.calm=true)(hN:X.N.Nodup)(hi:X.N[i]?=some x)(hj:X.N[j]?=some y)(hk:X.N[k]?=some z)(eD:i≠j)(m6:i≠k)(pE:j≠k)(hx:X.env.scope.names.lookup x=some .local)(hy:X.env.scope.names.lookup y=some .local)(hz:X.env.scope.names.lookup z=some .local)(ha:QA X [a,b,c] ta)(hw:swappedStores [.Tuple [.Name x px,.Name y py,.Name z pz] kt pt] (.Tuple [a,b,c] k2 pt2) X.env=pure (some [x,y,z]))(hs:swapsWithSole [.Tuple [.Name x px,.Name y py,.Name z pz] kt pt] (.Tuple [a,b,c] k2 pt2) pos.line X.env=pure false:=by rfl):
  QS X (.Assign [.Tuple [.Name x px,.Name y py,.Name z pz] kt pt] (.Tuple [a,b,c] k2 pt2) pos) (q7T i j k ta):= ⟨by
 have ha := ha.h;intro a4 s σ H D I h;refine Ug (Ur ?_);rw[hs];refine Ug (Uh ?_);refine Ug (Tuple_ (thn (ha _ a4 s σ H _ I h) λus s1 zz=>?_));obtain⟨vs,H1,I1,r1,q1⟩:=zz;obtain⟨v,w,u,e1,q1⟩:=q1;subst e1;obtain⟨u1,u2,u3,rfl,rv,df,ru⟩:∃u1 u2 u3,us=[u1,u2,u3]/\RelV v u1/\RelV w u2/\RelV u u3:=by
  cases r1 with
  |cons p q=>
   cases q with
   |cons p' q'=>
    cases q' with
    |cons p2 q2=>
     cases q2;exact⟨_,_,_,rfl,p,p',p2⟩
 refine UJ ?_ (by show 3<=sizeLine;decide);have I2:Inv X a4 σ H1 { s1 with heap:=s1.heap.push { cls:=.type "tuple", data:=.seq [u1,u2,u3].toArray } }:=I1.kept (t':=s1.toks) λb o e=>Heap.get?_push_of_some _ e;rw[hw];refine Ug (Uh ?_);refine Ug (Da (Ug (unpackItems_tuple (items:=#[u1,u2,u3]) (I.ok.hd hc) (IsTup.new s1.heap _) λh' m5=>?_)));have I3:=I2.kept (h':=h') (t':=s1.toks) λb o e=>m5 b o (Dz (Heap.lt_size e)) e;refine Ug (Uu (UN (vK I3 hN hk (.inl hz) ru (λs2 I4=>?_) (.inr hz))));refine Uu (UN (vK I4 hN hj (.inl hy) df (λs3 I5=>?_) (.inr hy)));refine Uu (UN (vK I5 hN hi (.inl hx) rv (λs4 I6=>U1 (Uh ?_)) (.inr hx)));have e:(((σ.set k (some u)).set j (some w)).set i (some v))=((σ.set i (some v)).set j (some w)).set k (some u):=by
  rw[RD _ _ (Ne.symm eD),RD _ _ (Ne.symm m6),RD (some u) (some w) (Ne.symm pE)]
 rw[e]at I6;exact⟨_,H1,I6,q1⟩⟩
noncomputable def okey(o:Obj):Option Addr×Option Value:=(o.dict,match o.data with | .fields vs=>vs[2]?|_=>none)
def Obk(h h':Heap):Prop:=∀(b:Nat)(o:Obj),h.objs[b]?=some o->∃o',h'.objs[b]?=some o'/\okey o'=okey o
theorem Obk.refl(h:Heap):Obk h h:=λb o e=>⟨o,e,rfl⟩
theorem Obk.trans(x:Obk h h')(y:Obk h' h''):Obk h h'':=λb o e=>by
 obtain⟨o',e',d'⟩:=x b o e;obtain⟨o2,e2,d2⟩:=y b o' e';exact⟨o2,e2,d2.trans d'⟩
theorem Obk.push(h:Heap)(o:Obj):Obk h (h.push o):=λb u e=>⟨u,by
 have hb:=(Array.getElem?_eq_some_iff.mp e).1;simp[Heap.push]at e hb ⊢;rw[BL,Ui (Dz hb)];exact e,rfl⟩
theorem Obk.update(h:Heap)(a:Addr)(hf:∀o,okey (f o)=okey o):Obk h (h.update a f):=λb u e=>by
 simp[Heap.update]at e ⊢;rw[Array.getElem?_modify];split
 ·exact⟨f u,by rw[e];rfl,hf u⟩
 ·exact⟨u,e,rfl⟩
theorem Obk.get{h h':Heap}{a d:Addr}{o o':Obj}(x:Obk h h')(e:h.get? a=some o)(e':h'.get? a=some o'):okey o'=okey o:=by
 obtain⟨u,eu,du⟩:=x a o (Heap.get?_some_iff.mp e).1;rw[(Heap.get?_some_iff.mp e').1]at eu
 lia
def DK{α:Type}:Sem α->Prop
 |.pure _=>True
 |.raise _=>True
 |.unsupported _=>True
 |.finish _=>True
 |.rule _ k=>DK (k ())
 |.at _ k=>DK (k ())
 |.load _ _ k=>∀o,DK (k o)
 |.update _ _ f k=>(∀o,okey (f o)=okey o)/\DK (k ())
 |.alloc _ k=>∀a,DK (k a)
 |.loadIfAlive _ k=>∀o,DK (k o)
 |.point _ k=>DK (k ())
 |.register _ _=>True
 |.fresh k=>∀t,DK (k t)
 |.ask k=>∀x,DK (k x)
 |.choose _ _ k=>∀n,DK (k n)
 |.os _ _ k=>∀r,DK (k r)
 |.call _ _ _ _ _=>False
 |.handled _ k=>∀x,DK (k x)
 |.newGen _ k=>∀n,DK (k n)
 |.genState _ k=>∀x,DK (k x)
 |.resume _ _ _ _=>False
 |.yield _ _ _ _=>True
 |.stack k=>∀l,DK (k l)
 |.fork _ _=>True
 |.thread k=>∀n,DK (k n)
 |.await _ _ _ _ _=>True
theorem DK.wp{α:Type}{M:Model}{Γ:PySem.Ctx}:∀{t:Sem α}{Q:α->Pos->Shared->Prop}{E:Value->Pos->Shared->Prop}{p:Pos}{s:Shared},DK t->Sem.wp M Γ t Q E p s ->
  Sem.wp M Γ t (λa p' s'=>Q a p' s'/\Obk s.heap s'.heap) (λe p' s'=>E e p' s'/\Obk s.heap s'.heap) p s:=by
 intro t
 induction t with
 |pure a=>intro Q E p s _ h;exact⟨h,.refl _⟩
 |raise e=>intro Q E p s _ h;exact⟨h,.refl _⟩
 |unsupported x=>intro Q E p s _ h;simp_all
 |finish x=>intro Q E p s _ h;simp_all
 |rule x k ih=>intro Q E p s d h;exact ih () d h
 | «at» x k ih=>intro Q E p s d h;exact ih () d h
 |load a x k ih=>intro Q E p s d h;obtain⟨o,e,h⟩:=h;exact⟨o,e,ih o (d o) h⟩
 |update a x f k ih=>
  intro Q E p s d h;refine⟨h.1,Sem.wp_mono M Γ _ (λa p' s' z=>⟨z.1,(Obk.update _ _ d.1).trans z.2⟩) (λa p' s' z=>⟨z.1,(Obk.update _ _ d.1).trans z.2⟩) _ _ (ih () d.2 h.2)⟩
 |alloc o k ih=>
  intro Q E p s d h;exact Sem.wp_mono M Γ _ (λa p' s' z=>⟨z.1,(Obk.push _ _).trans z.2⟩) (λa p' s' z=>⟨z.1,(Obk.push _ _).trans z.2⟩) _ _ (ih _ (d _) h)
 |loadIfAlive a k ih=>intro Q E p s d h;exact ih _ (d _) h
 |point x k ih=>intro Q E p s d h;exact ih () d h
 |register a k ih=>intro Q E p s d h;simp_all
 |fresh k ih=>intro Q E p s d h;exact ih _ (d _) h
 |ask k ih=>intro Q E p s d h;exact ih _ (d _) h
 |choose x n k ih=>intro Q E p s d h;exact⟨h.1,ih _ (d _) h.2⟩
 |os q l k ih=>intro Q E p s d h;exact ih _ (d _) h
 |call c x g l k ih=>intro Q E p s d h;exact d.elim
 |handled x k ih=>intro Q E p s d h;exact ih _ (d _) h
 |newGen c k ih=>intro Q E p s d h;exact ih _ (d _) h
 |genState g k ih=>intro Q E p s d h;obtain⟨o,e,h⟩:=h;exact⟨o,e,ih _ (d _) h⟩
 |resume g r l k ih=>intro Q E p s d h;exact d.elim
 |yield v g l k ih=>intro Q E p s d h;simp_all
 |stack k ih=>intro Q E p s d h;exact ih _ (d _) h
 |fork c k ih=>intro Q E p s d h;simp_all
 |thread k ih=>intro Q E p s d h;exact ih _ (d _) h
 |await a f b l k ih=>intro Q E p s d h;simp_all
theorem DK.any{α:Type}{M:Model}{A:Around}{t:Sem α}{Q:α->Shared->Prop}{E:Value->Shared->Prop}{s:Shared}(d:DK t)(h:wpAny M A t Q E s):
  wpAny M A t (λa s'=>Q a s'/\Obk s.heap s'.heap) (λe s'=>E e s'/\Obk s.heap s'.heap) s:=λΓ p pF=>DK.wp d (h Γ p pF)
theorem DK.bind{α β:Type}{f:α->Sem β}:∀{m:Sem α},DK m->(∀a,DK (f a))->DK (m >>= f):=by
 intro m
 induction m with
 |pure a=>intro _ h;exact h a
 |update a x g k ih=>intro d h;exact⟨d.1,ih () d.2 h⟩
 |raise e=>intro _ _;trivial
 |unsupported x=>intro _ _;trivial
 |finish x=>intro _ _;trivial
 |rule x k ih=>intro d h;exact ih () d h
 | «at» x k ih=>intro d h;exact ih () d h
 |load a x k ih=>intro d h o;exact ih o (d o) h
 |alloc o k ih=>intro d h o;exact ih o (d o) h
 |loadIfAlive a k ih=>intro d h o;exact ih o (d o) h
 |point x k ih=>intro d h;exact ih () d h
 |register a k ih=>intro _ _;trivial
 |fresh k ih=>intro d h o;exact ih o (d o) h
 |ask k ih=>intro d h o;exact ih o (d o) h
 |choose x n k ih=>intro d h o;exact ih o (d o) h
 |os q l k ih=>intro d h o;exact ih o (d o) h
 |call c x g l k ih=>intro d h;exact d.elim
 |handled x k ih=>intro d h o;exact ih o (d o) h
 |newGen c k ih=>intro d h o;exact ih o (d o) h
 |genState g k ih=>intro d h o;exact ih o (d o) h
 |resume g r l k ih=>intro d h;exact d.elim
 |yield v g l k ih=>intro _ _;trivial
 |stack k ih=>intro d h o;exact ih o (d o) h
 |fork c k ih=>intro _ _;trivial
 |thread k ih=>intro d h o;exact ih o (d o) h
 |await a f b l k ih=>intro _ _;trivial
theorem DK.pure{α:Type}(a:α):DK (Pure.pure a:Sem α):=trivial
theorem X2(a:Addr):DK (load a):=λ_=>trivial
theorem dk_stack:DK stack:=λ_=>trivial
theorem ZJ(a:Addr)(h:∀o,okey (f o)=okey o):DK (update a f):=⟨h,trivial⟩
theorem ZL(hf:∀vs,(f vs)[2]?=vs[2]?)(o:Obj):okey (Obj.mapFields f o)=okey o:=by
 unfold Obj.mapFields;split
 ·exact Um (Prod.mk _) (hf _)
 ·rfl
theorem X3(v:Value):DK (fieldsOf v):=by
 unfold fieldsOf;split
 ·refine(X2 _).bind λo=>?_
  split<;>trivial
 ·trivial
theorem jZ(v:Value)(i:Nat):DK (field v i):=by
 refine(X3 v).bind λo=>?_;split<;>trivial
theorem xQ(v:Value)(x:Value)(hi:i≠2):DK (setField v i x):=by
 unfold setField;split
 ·refine(X2 _).bind λo=>?_
  split
  ·split
   ·exact ZJ _ (ZL λvs=>Array.getElem?_setIfInBounds_ne hi)
   ·trivial
  ·trivial
 ·trivial
theorem zA(e:Value)(f:Option Addr):DK (setFlight e f):=by
 refine(jZ _ _).bind λo=>?_;split
 ·exact xQ _ _ (by decide)
 ·trivial
theorem ZK(ty:String)(vs:List Value):DK (newFields ty vs):=by
 unfold newFields newObj;dsimp only;split
 ·trivial
 ·exact λa=>trivial
theorem G1(env:Env)(l:List Env):DK (behindIsImport env l):=by
 unfold behindIsImport;split
 ·trivial
 ·split
  ·trivial
  ·exact(jZ _ _).bind λ_=>trivial
theorem q5A(env:Env)(b:Bool)(l:List Env):DK (keptBack env b l):=by
 unfold keptBack;split
 ·split
  ·trivial
  ·exact DK.bind (dk_stack.bind λ_=>trivial) λ_=>trivial
 ·trivial
theorem Ka:∀l:List Env,DK (readyFrames l)
 | []=>by trivial
 |env::outer=>by
  unfold readyFrames;split
  ·refine(X2 _).bind λo=>?_
   split
   ·trivial
   ·refine(G1 _ _).bind λ_=>(q5A _ _ _).bind λ_=>DK.bind ?_ λ_=>Ka outer
    exact ZJ _ λo=>rfl
  ·trivial
theorem K6(env:Env):DK (PySem.frameOf env):=by
 refine DK.bind (dk_stack.bind λ_=>trivial) λl=>DK.bind ?_ λx=>?_
 ·unfold frameObject
  split
  ·trivial
  ·exact(Ka _).bind λ_=>trivial
 ·split<;>trivial
theorem q1q(f:Addr)(b:Bool):DK (entryPlaceOf f b):=by
 refine dk_stack.bind λl=>?_;split<;>trivial
theorem G0(e:Value)(env:Env):DK (noteFrame e env):=by
 unfold noteFrame;have k:∀f head,DK (do setField e 1 (<-EntryCells.newEntry head (<-PySem.frameOf env) .none (rawInt f) .none (<-entryPlaceOf f (head != .none)))):=λf head=>
  (K6 _).bind λ_=>(q1q _ _).bind λ_=>DK.bind (by exact ZK _ _) λ_=>xQ _ _ (by decide)
 split
 ·refine(jZ _ _).bind λhead=>?_
  split
  ·refine(jZ _ _).bind λ_=>?_
   split
   ·trivial
   ·exact(xQ _ _ (by decide)).bind λ_=>k _ _
  ·exact k _ _
 ·trivial
theorem QP(env:Env)(e:Value):DK (leaving env e):=by
 exact(G0 _ _).bind λ_=>zA _ _
end L2
namespace PySem.W
open Builtin.ObjectAttr
theorem getX_value(X:Ξ.In s.heap)(I:InstAt s.heap x ox C od)(pG:findIn Ξ (.ref C) "__getattribute__" = some (some (.builtin "BaseException.__getattribute__")))(fe:findIn Ξ (.ref C) "__getattr__" = some none)(hm:mroIn Ξ C (.type "BaseException")=some true)(hf:findObj Ξ C od name=some (.value v))(hh:handedIn v=true)(h:Q v { s with toks:=s.toks+1 }):wpAny (model prog w) A (getAttr (.ref x) name expr) Q E s:=by
 obtain⟨hp,g,d,t,os⟩:=s;have L0:=I.type (M:=model prog w);have L1:=looks_findIn (M:=model prog w) X pG;have L2:=looks_findIn (M:=model prog w) X fe;have L3:=looks_find (M:=model prog w) X I hf;have L4:=looks_mroIn (M:=model prog w) X hm;have FB:=PySem.F.excAttr_ValueError;have f3:=FB.ga.bind (.ref x);have m7:(expr&&onTheHeap (Value.builtin "BaseException.__getattribute__"))=false:=by cases expr<;>rfl
 have fv:(Value.builtin "BaseException.__getattribute__" == Value.builtin "object.__getattribute__")=false:=by decide+kernel
 have hx1:(onTheHeap (Value.ref C)&&Value.builtin "BaseException.__getattribute__" == Value.builtin "object.__getattribute__")=false:=by rw[fv];rfl
 have ha:=F.args_bexc_ga (.ref x) (.str name t);have hk:builtinKind "BaseException.__getattribute__" = some .slot:=by decide+kernel
 have fV:splitId "BaseException.__getattribute__" = some ("BaseException","__getattribute__"):=by decide+kernel
 unfold getAttr getAttrBy;refine Ug (wpAny_mkText (Up (Ug (L0.at (Ug (L1.at ?_))))))
 repeat (any_goals (first|assumption|with_reducible refine L0.at ?_|with_reducible refine L2.at ?_|wp_step))
 refine UW FB.ga.plain F.entry_bexc_ga ?_;simp only[checkBuiltinCall,hk,fV,Ro,Rh];refine Ug ?_;unfold isInstance;refine Ug (L0.at (L4.at ?_))
 repeat (any_goals (first|assumption|with_reducible refine L0.at ?_|with_reducible refine L3.at ?_|wp_step))
 show wpAny _ _ (handedOut v) _ _ _;rw[handedOut_of hh];exact Uh h
noncomputable def ji(dW:List Value):List Value->Bool
 |.ref _::r=>ji dW r
 |l=>l==dW
theorem QN:ji dW (.ref c::r)=ji dW r:=by rw[ji]
theorem Vw(h:refuseLoop self "__setattr__" dW=pure ()):∀l,ji dW l=true->refuseLoop self "__setattr__" l=pure ():=by
 intro l
 induction l with
 |nil=>intro e;have e:(([]:List Value)==dW)=true:=e;rw[eq_of_beq e];exact h
 |cons x r ih=>
  intro e;cases x with
  |ref c=>rw[refuseLoop_ref];exact ih (by rw[QN]at e;exact e)
  |_=>
   rw[ji]at e
   ·rw[eq_of_beq e];exact h
   ·intro a r' q;cases q
theorem K5(h:dW.contains v=true):∀l,ji dW l=true->l.contains v=true:=by
 intro l
 induction l with
 |nil=>intro e;have e:(([]:List Value)==dW)=true:=e;rw[eq_of_beq e];exact h
 |cons x r ih=>
  intro e;cases x with
  |ref c=>rw[BQ,ih (by rw[QN]at e;exact e),Bool.or_true]
  |_=>
   rw[ji]at e
   ·rw[eq_of_beq e];exact h
   ·intro a r' q;cases q
noncomputable def excOver(Ξ:Frag)(C:Addr):Bool:=(clsIn Ξ C).any λcd=>ji [.type "ValueError",.type "Exception",.type "BaseException",.type "object"] cd.mro&&cd.hasDict && !cd.mro.isEmpty
theorem setX_new(X:Ξ.In s.heap)(I:InstAt s.heap x ox C none)(nK:ox.dict=none)(nL:ox.data=.fields vs)(pH:findIn Ξ (.ref C) "__setattr__" = some (some (.builtin "object.__setattr__")))(hp:excOver Ξ C=true)(ht:findIn Ξ (.ref C) name=some none)(h:∀h' d,d=s.heap.objs.size->(∀b o,b≠x->s.heap.get? b=some o->h'.get? b=some o)->h'.get? x=some { ox with dict:=some d }->h'.Ns1 d (λy=>if y=name then some v else none)->Q () { s with heap:=h',toks:=s.toks+2 }):
  wpAny (model prog w) A (setAttr (.ref x) name v) Q E s:=by
 have SF:=PySem.F.store_ValueError;obtain⟨cd,hc,ho⟩:=any_some hp;simp only[RP,Bool.not_eq_true']at ho;obtain⟨⟨ho,hd⟩,ne⟩:=ho;refine set_plain X I pH ?_;have sub:Looks (model prog w) s.heap (isInstance (.ref x) (.type "object")) true:=I.type.andThen (looks_mroIn X (by unfold mroIn;rw[hc,Option.bind_some,Ui (by rw[ne];decide),K5 (by decide) _ ho]));refine UW SF.slot.plain SF.entry (@check_slot (model prog w) _ _ { s with toks:=s.toks+1 } "object.__setattr__" "object" "__setattr__" (.ref x) [.str name s.toks,v] [] _ SF.kind SF.split sub (SF.args (.ref x) (.str name s.toks) v) ?_);have hm:Looks (model prog w) s.heap (mroOf (.ref C)) cd.mro:=(looks_clsIn X hc).andThen .now;rw[osa_eq,refuse_eq];refine Ug (Ug (Looks.here (s:={ s with toks:=s.toks+1 }) I.type (Ug (Looks.here (s:={ s with toks:=s.toks+1 }) hm ?_))));rw[Vw (SF.passes _) _ ho];refine Uh (Ug (Looks.here (s:={ s with toks:=s.toks+1 }) I.type (Ug (Looks.here (s:={ s with toks:=s.toks+1 }) (looks_findIn X ht) (Ug (Uh ?_))))));obtain⟨hx,gz,hn, -⟩:=I;obtain⟨oc,odi,oda,eZ⟩:=ox;dsimp only at gz nK nL;subst gz nK nL;refine Ug (Uh (Ug (Ug (wpAny_loadPart hx (Ug (Looks.here (s:={ s with toks:=s.toks+1 }) (looks_clsIn X hc) ?_))))));rw[hd];have fw:(s.heap.push { cls:=.type "dict", data:=.dict #[] }).get? x=some ⟨.ref C,none,.fields vs,eZ⟩:=Heap.get?_push_of_some _ hx;have nM:x≠s.heap.objs.size:=Dz (Heap.lt_size hx);refine Ug (wpAny_alloc' (Ug (wpAny_update' fw (Uh ?_))));have pI:((s.heap.push { cls:=.type "dict", data:=.dict #[] }).update x λo=>{ cls:=o.cls,dict:=some s.heap.objs.size,data:=o.data,slots:=o.slots }).get? s.heap.objs.size=some { cls:=.type "dict", data:=.dict #[] } :=
  (Heap.get?_update_ne _ _ _ _ nM.symm).trans (Heap.get?_push_at rfl rfl)
 have cA:((s.heap.push { cls:=.type "dict", data:=.dict #[] }).update x λo=>{ cls:=o.cls,dict:=some s.heap.objs.size,data:=o.data,slots:=o.slots }).Ns s.heap.objs.size (λ_=>none):=
  ⟨_, #[],_,pI,rfl,λe he=>absurd he (by simp),λ_=>rfl⟩
 show wpAny _ _ (storeInDict s.heap.objs.size (.str name s.toks) name v) _ _ _;unfold storeInDict newKeyGuard;refine Ug (Uh (Ug (wpAny_nsSet1 (Heap.Ns1.of_empty cA) λh' gp hs=>?_)));obtain⟨oD,oQ,oR,lD,lE,lF⟩:=gp.count (Within.cons name v Within.nil);refine Ug (wpAny_lookBehind lD (by rw[lE];exact pastItsLine_dict (DA lF (by rw[Dv,D4,Uk];lia))) ?_);refine Uh (h h' s.heap.objs.size rfl (λb ob pJ hb=>?_) ?_ gp)
 ·exact(hs.2 b (Dz (Heap.lt_size hb))).trans ((Heap.get?_update_ne _ _ _ _ pJ).trans (Heap.get?_push_of_some _ hb))
 ·exact(hs.2 x nM).trans (Heap.get?_update_self _ fw rfl)
end PySem.W
namespace PySem.W
noncomputable abbrev bmV:List Value:=[.type "ValueError",.type "Exception",.type "BaseException",.type "object"]
structure ExcI(h:Heap)(C f:Addr):Prop where
 ex:∃bm N nm qn bs hdct sn sub ab col dd k0 k1 k2 k3 k5 mN oI,h.get? C=some (excClassObj nm qn C N bs bm hdct sn sub ab col dd k0 k1 k2 k3 k5 "ValueError.__new__")/\h.Ns N mN/\mN "__init__" = some (.ref f)/\OwnTail h bmV bm/\h.get? f=some oI/\oI.cls=.type "function"
noncomputable def excInI(Ξ:Frag)(C f:Addr):Bool:=match Ξ.lookup C with
 |some ⟨.type "type", _,.cls cd,sl⟩=>(match cd.mro,sl.toList with
  |.ref C'::bm, [_,_,_,_,some (.builtin n),_]=>C'==C&&n == "ValueError.__new__" && !cd.hasDel&&tailIn Ξ bmV bm&&nsOkIn Ξ cd.ns&&nsIn Ξ cd.ns "__init__" == some (some (.ref f))&&typeIn Ξ (.ref f)==some (.type "function")
  |_,_=>false)
 |_=>false
set_option tactic.hygienic true in
theorem KK(X:Ξ.In h)(G:h.Ns N mg)(e:nsIn Ξ N n=some (some v)):mg n=some v:=by
 obtain⟨o,es,ep,ho,hd,_,hf⟩:=G;unfold nsIn at e;split at e
 ·rename_i c d gn n' sl q
  have:=X _ _ q;rw[ho]at this;cases this;split at e
  ·rw[<-hf]
   unfold nsFind findBy
   grind
  ·lia
 ·cases e
theorem q71(X:Ξ.In h)(e:typeIn Ξ (.ref f)=some (.type "function")):∃oI,h.get? f=some oI/\oI.cls=.type "function" := by
 unfold typeIn at e;dsimp only at e;cases q:Ξ.lookup f with
 |none=>rw[q]at e;cases e
 |some o=>rw[q]at e;exact⟨o,X _ _ q,by simpa using e⟩
set_option tactic.hygienic true in
theorem excI_of(X:Ξ.In h)(q:excInI Ξ C f=true):ExcI h C f:=by
 unfold excInI at q;split at q
 ·rename_i dd cd sl ho
  split at q
  ·rename_i C' bm k0 k1 k2 k3 n k5 hm hs
   obtain⟨nm,bs,mro,ns,qn,hd,sn,sub,ab,col,pK⟩:=cd;simp at q hm;obtain⟨⟨⟨⟨⟨⟨z1,z2⟩,z3⟩,z4⟩,z5⟩,z6⟩,z7⟩:=q;simp_all;obtain⟨l⟩:=sl;subst hs;obtain⟨oI,e1,e2⟩:=q71 X z7;have N1:=Heap.Ns.of_isNs (isNs_of_in X z5);exact⟨bm,ns,nm,qn,bs,hd,sn,sub,ab,col,dd,k0,k1,k2,k3,k5,_,oI,X _ _ ho,N1,KK X N1 z6,tail_of_in X z4,e1,e2⟩
  ·cases q
 ·cases q
theorem k7{os:OsState}(J:ExcI h C f)(dI:rest.length<=sizeLine)(hq:∀h' e,Heap.MadeExcOf h h' e (.ref C) rest->wpAny (model prog w) A (call (.ref f) (.ref e::rest)) (λr s'=>r=.none/\Q (.done (.ret (.ref e))) s') E ⟨h',g,d,t,os⟩):
  wpAny (model prog w) A (Builtin.«type.__call__» ⟨.ref C::rest, []⟩) Q E ⟨h,g,d,t,os⟩:=by
 obtain⟨bm,N,nm,qn,bs,hdct,sn,sub,ab,col,dd,k0,k1,k2,k3,k5,mN,oI,hC,hn,hi,T,hZ,i4⟩:=J.ex;have Fn:=PySem.F.excBase_ValueError
 repeat (first|with_reducible refine UC hC ?_|with_reducible refine wpAny_madeBy_exc hC ?_|wp_step)
 refine codeAny_call_builtin_code (Code.quiet_builtin _ Fn.quiet) (wpAny_check_new_subU Fn rfl T hC ?_);refine codeAny_exc_new_subU Fn rfl Fn T hC ?_ dI;have kk:∀b o,h.get? b=some o->((h.push { cls:=.type "tuple", data:=.seq rest.toArray }).push { cls:=.ref C,data:=.fields #[.ref h.objs.size,.none,.none,.none,.bool false,.none] }).get? b=some o :=
  λb o e=>Heap.get?_push_of_some _ (Heap.get?_push_of_some _ e)
 have eG:((h.push { cls:=.type "tuple", data:=.seq rest.toArray }).push
   { cls:=.ref C,data:=.fields #[.ref h.objs.size,.none,.none,.none,.bool false,.none] }).get? (h.objs.size+1)=some
   { cls:=.ref C,data:=.fields #[.ref h.objs.size,.none,.none,.none,.bool false,.none] }:=by heap_get
 have fA:=kk _ _ hC;have i5:=hn.keeps kk;have m8:=T.keeps kk;have pL:(Value.ref C::bm).contains (.ref C)=true:=by simp
 repeat (first|with_reducible refine UC eG ?_|(with_reducible refine wpAny_isSubtype_exc fA ?_;rw[pL])|wp_step)
 refine wpAny_typeLookup_tail fA i5 m8 Fn.mroIs Fn.init.lookup ?_;rw[hi];refine Up (Ug ?_);refine Ug (U7 ⟨_,kk _ _ hZ,i4⟩ ?_);refine Uh (Ug (Uj (hq _ _ ⟨kk,Heap.get?_none_of_le (Bh _),h.objs.size,eG,Heap.get?_none_of_le (Dk _),?_⟩) (λr s' hr=>?_) λ_ _ x=>x))
 ·exact Heap.get?_push_of_some _ (Heap.get?_push_at rfl rfl)
 ·obtain⟨rfl,hQ⟩:=hr
  wp_walk;exact hQ
theorem qay(J:ExcI s.heap C f)(dI:rest.length<=sizeLine)(hq:∀h' e,Heap.MadeExcOf s.heap h' e (.ref C) rest->wpAny (model prog w) (A.under (.builtin "type.__call__" ⟨.ref C::rest, []⟩)) (call (.ref f) (.ref e::rest)) (λr s'=>r=.none/\Q (.ref e) s') E { s with heap:=h' }):
  wpAny (model prog w) A (call (.ref C) rest) Q E s:=by
 obtain⟨h,g,d,t,os⟩:=s;obtain⟨bm,N,nm,qn,bs,hdct,sn,sub,ab,col,dd,k0,k1,k2,k3,k5,mN,oI,hC,hn,hi,T,hZ,i4⟩:=J.ex;have f1:=tc_lookup;have f2:=tc_bind (.ref C);have hT:(⟨h,g,d,t,os⟩:Shared).TypeIs (.ref C) "type" := ⟨_,hC,rfl⟩;refine U2 (codeAny_of_tree ?_)
 repeat (any_goals (first|assumption|with_reducible refine UC hC ?_|wp_step))
 refine⟨rfl,?_⟩;refine codeAny_call_builtin_at (Code.quiet_builtin _ (by decide+kernel)) entry_typeCall (wpAny_check_type_call_sub hC (k7 J dI λh' e hm=>?_));exact hq h' e hm
noncomputable abbrev excOb(C:Addr)(d:Option Addr)(t:Addr):Obj:={ cls:=.ref C,dict:=d,data:=.fields #[.ref t,.none,.none,.none,.bool false,.none] }
theorem Xp(hh:A.handled=none)(h:wpAny (model prog w) A x (λv af=>∃e d t,v=.ref e/\ExcI af.heap C f/\af.heap.get? e=some (excOb C d t)/\E (.ref e) af) E s):wpAny (model prog w) A (raiseStmt env (some x) none) Q E s:=by
 refine Ug (Uj h (λv af di=>?_) λ_ _ x=>x);obtain⟨e,dx,tx,rfl,J,he,hE⟩:=di;obtain⟨bm,N,nm,qn,bs,hdct,sn,sub,ab,col,dd,k0,k1,k2,k3,k5,mN,oI,hC,hn,hi,T,hZ,i4⟩:=J.ex;have pM:(Value.ref C::bm).contains (.type "BaseException")=true:=by rw[BQ,T.hasType (b:=true) rfl,Bool.or_true]
 repeat (first|with_reducible refine UC he ?_|with_reducible refine UC hC ?_|(with_reducible refine wpAny_isSubtype_exc hC ?_;rw[pM])|wp_step)
 exact wpAny_raiseNew_none hh hE
theorem Raise_I(hh:A.handled=none)(ce:(backTo ax (starEach args env)).any (·.1)=false)(h:wpAny (model prog w) A (eval (.Name x np) env) (λc af=>c=.ref C/\wpAny (model prog w) A (evalArgs (.ref C) true (backTo ax (starEach args env)) [])
   (λa bg=>a.kw=[]/\a.pos.length<=sizeLine/\ExcI bg.heap C f/\∀h' e,Heap.MadeExcOf bg.heap h' e (.ref C) a.pos ->
    wpAny (model prog w) (A.under (.builtin "type.__call__" ⟨.ref C::a.pos, []⟩)) (call (.ref f) (.ref e::a.pos)) (λr s'=>r=.none/\∃d t,ExcI s'.heap C f/\s'.heap.get? e=some (excOb C d t)/\E (.ref e) s') E { bg with heap:=h' }) E af) E s):
  wpAny (model prog w) A (exec (.Raise (some (.Call (.Name x np) args [] ax)) none pos) env) Q E s:=by
 refine Ug (Ur (Xp (C:=C) (f:=f) hh ?_));refine Ug (Uj (wpAny_Call_ofName (Uj h (λc af di=>?_) λ_ _ x=>x)) (λv eq fN=>Ug (Ur (Uh fN))) λ_ _ x=>x);obtain⟨rfl,di⟩:=di;refine Ug (Up (Uj di (λa bg dk=>Ug (Ur ?_)) λ_ _ x=>x));obtain⟨aF,akw⟩:=a;obtain⟨pN,au,J,dk⟩:=dk;obtain rfl:=pN;obtain⟨bm,N,nm,qn,bs,hdct,sn,sub,ab,col,dd,k0,k1,k2,k3,k5,mN,oI,hC,hn,hi,T,hZ,i4⟩:=J.ex;simp only[ce];refine Ug (wpAny_keeperOf_exc hC ?_);refine Ug (qay J au λh' e hm=>Uj (dk h' e hm) (λr s' z=>⟨z.1,Ug (Up (wpAny_point (Uh ?_)))⟩) λ_ _ x=>x);obtain⟨_,dx,tx,J',he,hE⟩:=z;exact⟨e,dx,tx,rfl,J',he,hE⟩
theorem bexc_init(J:ExcI s.heap C f)(he:s.heap.get? e=some (excOb C dx tx))(dI:rest.length<=sizeLine)(hq:∀h' t',(∀b o,b≠e->s.heap.get? b=some o->h'.get? b=some o)->h'.get? e=some (excOb C dx t')->R (.ok (.ret .none)) { s with heap:=h' }):
  codeAny (model prog w) A (.call (.builtin "ValueError.__init__") ⟨.ref e::rest, []⟩) R s:=by
 obtain⟨bm,N,nm,qn,bs,hdct,sn,sub,ab,col,dd,k0,k1,k2,k3,k5,mN,oI,hC,hn,hi,T,hZ,i4⟩:=J.ex;have F:=PySem.F.excBase_ValueError;obtain⟨h,g,d,t,os⟩:=s;refine UW F.init.plain F.initEntry (wpAny_check_init_subU F T hC he rfl ?_);have pO:(h.push { cls:=.type "tuple", data:=.seq rest.toArray }).get? e=some _:=Heap.get?_push_of_some _ he
 wp_walk;refine hq _ h.objs.size (λb o hb q=>?_) ?_
 ·rw[Heap.get?_update_other _ _ (Ne.symm hb)];exact Heap.get?_push_of_some _ q
 ·exact(Heap.get?_update_self _ pO rfl).trans rfl
end PySem.W
namespace L2
open PySem PySem.Spec PyProof.Rows
def q8G(a C:Addr)(d:Option Addr):Heap->Prop:=λh=>∃t,h.get? a=some (W.excOb C d t)
noncomputable abbrev excO(a C:Addr)(d:Option Addr):HO:=.ext (q8G a C d)
theorem XZ(e:h.get? a=some (W.excOb C d t)):ObjOk P w H h a (excO a C d):=
 ⟨⟨t,e⟩,⟨_,e⟩,λh1 h2 ⟨t',e'⟩ k=>⟨t',k _ e'⟩⟩
theorem jY(x:HOk P w H h)(e:H a=some (excO a C d)):∃t,h.get? a=some (W.excOb C d t):=(x a _ e).1
structure ExcK(Ξ:PySem.W.Frag)(C f:Addr):Prop where
 i:W.excInI Ξ C f=true
 sa:W.findIn Ξ (.ref C) "__setattr__" = some (some (.builtin "object.__setattr__"))
 ov:W.excOver Ξ C=true
 ga:W.findIn Ξ (.ref C) "__getattribute__" = some (some (.builtin "BaseException.__getattribute__"))
 gt:W.findIn Ξ (.ref C) "__getattr__" = some none
 mr:W.mroIn Ξ C (.type "BaseException")=some true
 hd:W.hasDictIn Ξ C=true
def q8w(Ξ:PySem.W.Frag)(C:Addr)(ta tv:TE)(f:Str):TS:=λD σ H=>tv σ H λy H1=>ta σ H1 λx H2=>∃a,x=.ref a/\H2 a=some (excO a C none)/\∀d,H2 d=none->D.nx σ (upd (upd H2 d (.xd [(f,y)])) a (excO a C (some d)))
def tFs3(a b:Str)(te:TE):TE:=λσ H Q=>te σ H λv H1=>∃n,v=.int n/\n.natAbs.log2<1920/\(Str.ofString (toString n)).length<=10000/\Q (.str (Str.empty++a++(Str.ofString (toString n))++b)) H1
theorem q6c(la:a.length<=10000)(lb:b.length<=10000)(he:QE X e te):QE X (.JoinedStr [.Constant (.str a) ka pa,.FormattedValue e (-1) none pf,.Constant (.str b) kb pb] pos) (tFs3 a b te):= ⟨by
 have he := he.h;intro a4 s σ H Q I h;refine wpAny_JoinedStr ?_;refine Calls.Constant_str ⟨a,_,rfl,by rw[UD,show Str.empty.length=0 from rfl,Uk];lia,?_⟩;refine wpAny_FormattedValue_plain (thn (he a4 _ σ H _ (I.tok _) h) λu s1 zz=>?_);obtain⟨v,H1,I1,rv,n,ev,hn,ln,q⟩:=zz;subst ev;obtain⟨t,rfl⟩:=rv;refine wpAny_formatField_int hn ?_;refine⟨_,_,rfl,by rw[UD,UD,show Str.empty.length=0 from rfl,Uk];lia,?_⟩;have lz:(Str.empty++a++Str.ofString (toString n)++b).length<=sizeLine:=by rw[UD,UD,UD,show Str.empty.length=0 from rfl,Uk];lia
 refine Calls.Constant_str ⟨b,_,rfl,lz,lz,?_⟩;exact⟨.str _,H1,(((I1.tok _).tok _).tok _),⟨_,rfl⟩,q⟩⟩
theorem q4u(c:ExcK X.K C g)(n:NoAttr X.K C f)(ha:QE X o ta)(hv:QE X value tv)(hs:swapsWith value (some (.Attribute o f pos')) pos.line X.env=pure false:=by rfl):QS X (.Assign [.Attribute o f pos'] value pos) (q8w X.K C ta tv f):= ⟨by
 have ha := ha.h;have hv := hv.h;intro a4 s σ H D I h;refine UL (thn (hv a4 s σ H _ I h) λu s1 ⟨y,H1,I1,ry,q⟩=>thn (ha a4 s1 σ H1 _ I1 q) λov s2 ⟨x,H2,I2,rx,a,ex,ea,q2⟩=>?_) hs;subst ex;obtain rfl:ov=Value.ref a:=rx;obtain⟨t,hx⟩:=jY I2.hok ea;refine W.setX_new I2.kIn (C:=C) ⟨hx,rfl,rfl,trivial⟩ rfl rfl c.sa c.ov n λh' d hd k e1 e2=>?_;obtain⟨od,es,ep,ho,hr⟩:=e2;have hf:=(Heap.get?_some_iff.mp ho).2;have hm:(s2.heap.push od).get? d=some od:=by rw[hd];exact Heap.get?_push_size _ hf
 have ne:a≠d:=by rw[hd];exact Dz (Heap.lt_size hx)
 have J:=I2.laid (a:=d) (o:=.xd [(f,y)]) (h':=s2.heap.push od) (t':=s2.toks) (λb v q=>Heap.get?_push_of_some _ q) (by lia)
  ⟨_,⟨od,es,ep,hm,hr⟩,λz=>by
   rw[DP];by_cases q:z=f
   ·subst q;rw[beq_self_eq_true,Ul rfl];exact ry
   ·rw[Ui q,beq_eq_false_iff_ne.mpr q];exact True.intro⟩
 have fr:H2 d=none:=I2.hok.fresh (by lia);have J2:=J.write (x:=a) (e:=a) (h':=h') (t':=s2.toks+2) (by rw[upd_ne ne,ea];exact True.intro) (.inl rfl) (λb v hb q=>?_) ⟨_,e1⟩ (XZ (t:=t) e1)
 ·exact⟨σ,_,J2,q2 d fr⟩
 ·by_cases hbd:b=d
  ·subst hbd;rw[hm]at q;rw[ho];exact q
  ·have q':s2.heap.get? b=some v:=by
    have hz:b≠s2.heap.objs.size:=by rw[<-hd];exact hbd
    have:=Heap.get?_some_iff.mp q;refine Heap.get?_some_iff.mpr ⟨?_,this.2⟩;have q1:=this.1;revert q1 hz;intro hz q1;simp only[Heap.push]at q1 hz ⊢;rw[BL,Ui hz]at q1;exact q1
   exact k b v hb q'⟩
structure q3E(Ξ:PySem.W.Frag)(mg:Str->Option Value)(x:Str)(B:Addr):Prop where
 b:mg x=some (.ref B)
 sp:W.specialIn Ξ (.ref B) "__getattribute__" = some (some (.builtin "type.__getattribute__"))
 rd:W.readsIn Ξ B (.type "type")=true
 fi:W.findCls Ξ (.ref B) (.type "type") "__init__" = some (.val (.builtin "ValueError.__init__"))
def q5E(C:Addr)(ta:TA):TS:=λD σ H=>ta σ H λvs H1=>∃a d rest,vs=.ref a::rest/\H1 a=some (excO a C d)/\rest.length<=1000/\D.nx σ H1
set_option tactic.hygienic true in
theorem q0r(c:ExcK X.K C g)(b:q3E X.K X.mg x B)(ha:QA X (e::es) tl)(hg:Gl X x:=by rfl)(c9:(x==("__debug__" : Str))=false:=by decide)(eW:starEach (e::es) X.env=(false,eval e X.env)::starEach es X.env:=by rfl)(bQ:(backTo pos (starEach es X.env)).any (·.1)=false:=by rfl)(ht:eval (.Call (.Attribute (.Name x p) "__init__" aF) (e::es) [] pos) X.env=(do
   let ov <-eval (.Name x p) X.env
   standAt aF.atName;let(f,first) <-holding [ov] (getMethod ov "__init__" pl)
   callWith pos f first (backTo pos (starEach (e::es) X.env)) (backToKw pos (keywordEach [] X.env))):=by rfl)(hs:swapsWith (.Call (.Attribute (.Name x p) "__init__" aF) (e::es) [] pos) none pos'.line X.env=pure false:=by rfl):
  QS X (.Expr (.Call (.Attribute (.Name x p) "__init__" aF) (e::es) [] pos) pos') (q5E C tl):= ⟨by
 have ha := ha.h;intro a4 s σ H D I h;refine U8 ?_ I.quiet hs;refine Rj (zp I hg b.b ?_ c9) ht;refine W.method_cls I.kIn b.sp (W.cls_value I.kIn b.rd b.fi rfl ?_);refine PyProof.Rows.callWith_builtin1 (thn (ha pos a4 _ σ H _ (I.tok _) h) λus s1 ⟨vs,H1,I1,r1,a,d,rest,ev,ea,hl,q1⟩=>?_) eW bQ;subst ev;cases r1 with
 |cons ra rr=>
 rename_i u cE _;obtain rfl:=ra;obtain⟨t,hx⟩:=jY I1.hok ea;refine U2 (W.bexc_init (W.excI_of I1.kIn c.i) hx (by rw[<-rr.length,Uk];lia) λh' t' k e1=>?_);have J:=I1.write (h':=h') (t':=s1.toks) (by rw[ea];exact True.intro) (.inl rfl) (λb v hb q=>k b v hb q) ⟨_,e1⟩ (XZ e1);refine⟨σ,H1,?_,q1⟩;have eH:upd H1 a (excO a C d)=H1:=by
  funext b;unfold upd;split
  ·rename_i q;rw[q,ea]
  ·rfl
 rw[eH]at J;exact J⟩
structure Fli(P:Program)(w:World)(outer:List Env)(H:Hp)(s:Shared)(a:Addr)(C:Value)(d:Option Addr)(H':Hp)(s':Shared):Prop where
 own:∀o,s'.heap.get? a=some o->okey o=(d,some .none)
 os:s'.os=s.os
 bare:AllBare s'.gens
 fly:∃(B:Heap)(a0:Value),Heap.FlyingW B outer a C a0 s'.heap/\HOk P w H' B/\(∀b∈frs outer,B.get? b=none)/\(∀b o,s.heap.get? b=some o->H b=none->b∉frs outer->B.get? b=some o) /\
  ∀b o,s.heap.get? b=some o->H b≠none->∃o',B.get? b=some o'
 up:∀b o,s.heap.get? b=some o->H b=none->b∈frs outer->∃sl,s'.heap.get? b=some { o with slots:=sl }
 free:∀b o,s.heap.get? b=some o->H b=none->H' b=none
 tups:∀b xs,H b=some (.tup xs)->H' b=some (.tup xs)
 frzs:∀b o u,H b=some (.frz o u)->H' b=some (.frz o u)
 tbls:∀b ps,H b=some (.tbl ps)->∃bc,H' b=some (.tbl (ps++bc))
def CXe(P:Program)(w:World):CXT:=λouter H s E e s'=>∃a C d H',e=.ref a/\Fli P w outer H s a C d H' s'/\E C d H'
theorem CXe.mono(h:CXe P w outer H s E e s')(k:∀C d H',E C d H'->E' C d H'):CXe P w outer H s E' e s':=by
 obtain⟨a,C,d,H',e1,f,q⟩:=h;exact⟨a,C,d,H',e1,f,k C d H' q⟩
structure Body(X:Cx)(outer:List Env):Prop where
 stk:X.stack=X.env::outer
 out:X.outer=outer
 fr:X.env.frame=some X.env.locals
 ex:X.ex=[]
theorem Inv.old(I:Inv X a4 σ H s)(q:X.s₀.heap.get? b=some o):b≠X.env.locals:=λz=>by
 subst z;exact absurd (Heap.lt_size q) (R9.mpr I.ok.above)
theorem Body.mem(Y:Body X outer)(hb:b∈frs X.stack):b=X.env.locals\/b∈frs outer:=by
 rw[Y.stk]at hb;obtain⟨env,he,hf⟩:=DX.mp hb;rcases Dl.mp he with rfl|he
 ·rw[Y.fr]at hf;exact .inl (Option.some.inj hf).symm
 ·exact .inr (DX.mpr ⟨env,he,hf⟩)
theorem Body.in_(Y:Body X outer)(hb:b∈frs outer):b∈frs X.stack:=by
 rw[Y.stk];obtain⟨env,he,hf⟩:=DX.mp hb;exact DX.mpr ⟨env,.tail _ he,hf⟩
noncomputable def untr(H:Hp)(a:Addr):Hp:=λb=>if b=a then none else H b
theorem xE(h:b≠a):untr H a b=H b:=by unfold untr;rw[Ui h]
theorem Ye:untr H a a=none:=by unfold untr;rw[Ul rfl]
theorem HOk.untr{P:Program}{w:World}{H:Hp}{h h':Heap}{a:Addr}{φ:Heap->Prop}(x:HOk P w H h)(ea:H a=some (.ext φ))(k:∀b u,b≠a->H b≠none->h.get? b=some u->h'.get? b=some u):HOk P w (untr H a) h':=λb o e=>by
 have hb:b≠a:=λz=>by rw[z,Ye]at e;cases e
 rw[xE hb]at e;refine(x b o e).stay (λc u hc q=>?_) (λc hc=>?_) λc xs hc=>?_
 ·rcases hc with rfl|hc
  ·exact k _ u hb (by rw[e];simp) q
  ·exact k c u (λz=>by rw[z,ea]at hc;cases hc) (by rw[hc];simp) q
 ·rw[xE λz=>by rw[z,ea]at hc;lia];exact hc
 ·rw[xE λz=>by rw[z,ea]at hc;lia];exact hc
theorem XH(Y:Body X outer)(I:Inv X a4 σ H s)(hA:A.frames=some X.stack)(hx:H e=some (excO e C d))(pP:X.s₀.heap.get? e=none)(hE:E (.ref C) d (untr H e)):
  wpAny M A (leaving X.env (.ref e)) (λ_ fI=>CXe X.prog X.w outer X.H₀ X.s₀ E (.ref e) fI) R s:=by
 obtain⟨t0,m9⟩:=jY I.hok hx;have bf:∀env∈X.stack,∀b,env.frame=some b->b∈e::frs X.stack:=λenv he b hb=>.tail _ (DX.mpr ⟨env,he,hb⟩);have hl:=W.funFrames_hide I.stack bf;rw[Y.stk]at hA;have ob:∀b o,X.s₀.heap.get? b=some o->b∉frs outer->b∉e::frs X.stack:=λb o q n z=>by
  rcases Dl.mp z with rfl|z
  ·rw[pP]at q;cases q
  ·rcases Y.mem z with z|z
   ·exact I.old q z
   ·exact n z
 have nx:∀b,b∉X.ex:=λb=>by rw[Y.ex];simp
 have fs:∀b,b∈frs outer↔b∈X.fs:=λb=>by show _↔b∈frs X.outer;rw[Y.out]
 refine Uj (DK.any (QP _ _) (wpAny_leaving_firstW hA (by rw[<-Y.stk];exact hl) Y.fr m9 (λb o q=>BO _ q) (Rw _ (.head _)) rfl rfl rfl (Q:=λ_ s'=>Heap.LeftW _ (X.env::outer) e (.ref C) (.ref t0) s.heap s'.heap/\∃h',s'={ s with heap:=h' }) λh' q=>⟨q,h',rfl⟩)) (λ_ s' q=>?_) λ_ _ q=>q.1;obtain⟨⟨⟨k1,⟨_,_,k2⟩,k3,k4⟩,h',rfl⟩,kd⟩:=q;refine⟨e,.ref C,d,untr H e,rfl,⟨?_,I.os,I.bare,⟨_,.ref t0,⟨k1,Rw _ (.head _),k2,k3⟩,?_,?_,?_,?_⟩,?_,?_,?_,?_,?_⟩,hE⟩
 ·exact λo q=>(kd.get (d:=0) m9 q)
 ·exact I.hok.untr hx λb u hb i6 q=>Rz _ q λhm=>by
   rcases Dl.mp hm with z|hm
   ·exact hb z
   ·exact i6 (I.stkFree b hm)
 ·exact λb hb=>Rw _ (.tail _ (Y.in_ hb))
 ·exact λb o q n hb=>Rz _ (I.base.keep b o q n (λz=>hb ((fs b).mpr z)) (nx b)) (ob b o q hb)
 ·intro b o q n
  obtain⟨o',e1⟩:=I.base.there b o q (nx b);refine⟨o',Rz _ e1 (ob b o q λz=>n (I.ok.frf b ((fs b).mp z)))⟩
 ·intro b o q n hb
  obtain⟨sl,e1⟩:=I.base.slot b o q n ((fs b).mp hb) (nx b);obtain⟨_,o',bv,hd⟩:=I.ok.funs.mem ((fs b).mp hb);rw[q]at bv;cases bv;obtain⟨eT,e2⟩:=k4 b _ e1 hd;exact⟨eT,e2⟩
 ·intro b o q n
  have:=I.base.free b o q n (nx b);unfold untr;split
  ·rfl
  ·exact this
 ·intro b xs q
  have:=I.base.tups b xs q;rw[xE λz=>by rw[z,hx]at this;cases this];exact this
 ·intro b o u q
  have:=I.base.frzs b o u q;rw[xE λz=>by rw[z,hx]at this;cases this];exact this
 ·intro b ps q
  obtain⟨m,this⟩:=I.base.tbls b ps q;exact⟨m,by rw[xE λz=>by rw[z,hx]at this;cases this];exact this⟩
theorem WG(Y:Body X outer)(I:Inv X a4 σ H s)(hA:A.frames=some X.stack)(hx:CXe X.prog X.w X.stack H s E e s'):
  wpAny M A (leaving X.env e) (λ_ fI=>CXe X.prog X.w outer X.H₀ X.s₀ E e fI) R s':=by
 obtain⟨a,C,d,H',rfl,F,hE⟩:=hx;obtain⟨B,a0,fl,hok,nb,kp,th⟩:=F.fly;have ob:∀b o,X.s₀.heap.get? b=some o->b∉frs outer->b∉frs X.stack:=λb o q n z=>by
  rcases Y.mem z with z|z
  ·exact I.old q z
  ·exact n z
 have nx:∀b,b∉X.ex:=λb=>by rw[Y.ex];simp
 have fs:∀b,b∈frs outer↔b∈X.fs:=λb=>by show _↔b∈frs X.outer;rw[Y.out]
 rw[Y.stk]at hA fl;refine Uj (DK.any (QP _ _) (wpAny_leaves_onW hA Y.fr fl (Q:=λ_ s2=>(Heap.FlyingW B outer a C a0 s2.heap/\s'.heap.UpToSlots s2.heap)/\∃h',s2={ s' with heap:=h' }) λh' x1 x4=>⟨⟨x1,x4⟩,h',rfl⟩)) (λ_ s2 z=>?_) λ_ _ q=>q.1;obtain⟨⟨⟨x1,x4⟩,h',rfl⟩,kd⟩:=z;refine⟨a,C,d,H',rfl,⟨?_,F.os.trans I.os,F.bare,⟨B,a0,x1,hok,λb hb=>nb b (Y.in_ hb),?_,?_⟩,?_,?_,λb xs q=>F.tups b xs (I.base.tups b xs q),λb o u q=>F.frzs b o u (I.base.frzs b o u q),?_⟩,hE⟩
 ·obtain⟨o1,e1,_⟩:=fl.there
  exact λo q=>(kd.get (d:=0) e1 q).trans (F.own o1 e1)
 ·exact λb o q n hb=>kp b o (I.base.keep b o q n (λz=>hb ((fs b).mpr z)) (nx b)) (I.base.free b o q n (nx b)) (ob b o q hb)
 ·intro b o q n
  obtain⟨o',e1⟩:=I.base.there b o q (nx b);cases hb:H b with
  |none=>exact⟨o',kp b o' e1 hb (ob b o q λz=>n (I.ok.frf b ((fs b).mp z)))⟩
  |some u=>exact th b o' e1 (by rw[hb];simp)
 ·intro b o q n hb
  obtain⟨sl,e1⟩:=I.base.slot b o q n ((fs b).mp hb) (nx b);obtain⟨iE,e2⟩:=F.up b _ e1 (I.base.free b o q n (nx b)) (Y.in_ hb);obtain⟨_,o',bv,hd⟩:=I.ok.funs.mem ((fs b).mp hb);rw[q]at bv;cases bv;obtain⟨eT,e3⟩:=x4 b _ e2 hd;exact⟨eT,e3⟩
 ·intro b o q n
  obtain⟨o',e1⟩:=I.base.there b o q (nx b);exact F.free b o' e1 (I.base.free b o q n (nx b))
 ·intro b ps q
  obtain⟨m1,e1⟩:=I.base.tbls b ps q;obtain⟨m2,e2⟩:=F.tbls b _ e1;exact⟨m1++m2,by rw[e2,R0]⟩
noncomputable def q68:List Str:=["laying","room","word","head","end","limb","small","kind","address"]
noncomputable def wW(n:Int):Str:=(q68[((n-1000000) % 9).toNat]?).getD ""
noncomputable def wK(n:Int):Int:=(n-1000000) / 9
noncomputable def xfs(n:Int):List (Str×V):=if n<1000000 then[("part",.int n)] else[("word",.str (wW n)),("k",.int (wK n))]
theorem Je(h:n<1000000):xfs n=([("part",.int n)]:List (Str×V)):=Ul h
noncomputable def pV:Option Int->V
 |none=>.non
 |some n=>.int n
theorem q2d(h:pV p=pV q):p=q:=by
 cases p<;>cases q<;>first|rfl|cases h
 rfl
def PartIs(d:Option Addr)(H:Hp):Option Int->Prop
 |none=>d=none
 |some n=>∃x,d=some x/\H x=some (.xd (xfs n))
def EX(mg:Str->Option Value)(D:Ends)(σ:St):XK:=λC d H'=>∃nm p,mg nm=some C/\PartIs d H' p/\D.bk (some (.str nm)::some (pV p)::σ) H'
def Cmp(X:Cx)(E:XK)(σ:St):Prop:=∀a4 H s e s',Inv X a4 σ H s->CXe X.prog X.w X.stack H s E e s'->X.xe e s'
def CmpD(r:Prop)(X:Cx)(D:Ends):Prop:=(∀σ,Cmp X (EX X.mg D σ) σ)/\(r->∀a4 σ H s e C d,Inv X a4 σ H s->H e=some (excO e C d)->X.s₀.heap.get? e=none->EX X.mg D σ (.ref C) d (untr H e)->X.xe (.ref e) s)
structure QX(r:Prop)(X:Cx)(st:Stmt)(t:TS):Prop where
 h:∀a4 s σ H D,CmpD r X D->Inv X a4 σ H s->t D σ H->wpAny (model X.prog X.w) X.A (exec st X.env) (SP X a4 D) X.xe s
structure QXs(r:Prop)(X:Cx)(st:List Stmt)(t:TS):Prop where
 h:∀a4 s σ H D,CmpD r X D->Inv X a4 σ H s->t D σ H->wpAny (model X.prog X.w) X.A (execs st X.env) (SP X a4 D) X.xe s
abbrev TX:=St->Hp->VK->XK->Prop
structure QXe(X:Cx)(e:Expr)(t:TX):Prop where
 h:∀a4 s σ H Q E,Cmp X E σ->Inv X a4 σ H s->t σ H Q E->wpAny (model X.prog X.w) X.A (eval e X.env) (EP X a4 σ Q) X.xe s
section
variable {r:Prop}{X:Cx}{st:Stmt}{rest:List Stmt}{t u:TS}{e:Expr}{tx:TX}{pos:Pos}
theorem qX(h1:QX r X st t)(h2:QXs r X rest u):QXs r X (st::rest) (tSeq t u):=⟨λa4 s σ H D c I h=>by
 refine Uw (thn (h1.h a4 s σ H { D with nx:=u D } c I h) λf s1 q=>?_);cases f with
 |next=>
  obtain⟨ah,H',I',q⟩:=q;exact h2.h a4 s1 ah H' D c I' q
 |ret v=>exact q
 |brk=>exact q
 |cont=>exact q⟩
theorem xH:QXs r X [] Q5:=⟨λa4 s σ H D c I h=>Ut ⟨σ,H,I,h⟩⟩
theorem vB(h1:QX r X st t):QXs r X [st] t:=⟨λa4 s σ H D c I h=>by
 refine Uw (thn (h1.h a4 s σ H D c I h) λf s1 q=>?_);cases f with
 |next=>exact Ut q
 |ret v=>exact q
 |brk=>exact q
 |cont=>exact q⟩
theorem xY(h:QS X.nox st t):QX r X st t:=⟨λa4 s σ H D _ I q=>Uj (h.h a4 s σ H D (I.wish _) q) (λ_ _ z=>z.unwish) λ_ _ z=>False.elim z⟩
theorem Xr(hc:QT X.nox c tc)(ha:QXs r X a t)(hb:QXs r X b u):QX r X (.If c a b pos) (tIfS tc t u):=⟨λa4 s σ H D k I h=>by
 refine wpAny_If (thn (hc.h.nox a4 s σ H _ I h) λd s1 zz=>?_);obtain⟨H1,I1,q1⟩:=zz;cases d with
 |true=>exact ha.h a4 s1 σ H1 D k I1 q1
 |false=>exact hb.h a4 s1 σ H1 D k I1 q1⟩
def q3k(tx:TX)(mg:Str->Option Value):TS:=λD σ H=>tx σ H (λ_ H1=>D.nx σ H1) (EX mg D σ)
theorem Xs(he:QXe X e tx)(hs:swapsWith e none pos.line X.env=pure false:=by rfl):QX r X (.Expr e pos) (q3k tx X.mg):=⟨λa4 s σ H D k I h=>
 U8 (thn (he.h a4 s σ H _ _ (k.1 σ) I h) λv s1 ⟨x,H1,I1,r1,q1⟩=>⟨σ,H1,I1,q1⟩) I.quiet hs⟩
def q7H(tx:TX)(mg:Str->Option Value):TS:=λD σ H=>tx σ H D.rt (EX mg D σ)
theorem JH(he:QXe X e tx):QX r X (.Return (some e) pos) (q7H tx X.mg):=⟨λa4 s σ H D k I h=>
 wpAny_Return_some (thn (he.h a4 s σ H _ _ (k.1 σ) I h) λv s1 ⟨x,H1,I1,r1,q1⟩=>⟨x,σ,H1,I1,r1,q1⟩)⟩
def q75(i:Nat)(tx:TX)(mg:Str->Option Value):TS:=λD σ H=>tx σ H (λv H1=>D.nx (σ.set i (some v)) H1) (EX mg D σ)
theorem q5Q(hN:X.N.Nodup)(hi:X.N[i]?=some x)(hx:Loc X.env.scope x)(he:QXe X e tx)(hs:swapsWith e (some (.Name x pos')) pos.line X.env=pure false:=by rfl)(hf:X.fn x=true\/X.env.scope.names.lookup x=some .local:=by first|exact .inl rfl|exact .inr rfl|assumption):
  QX r X (.Assign [.Name x pos'] e pos) (q75 i tx X.mg):=⟨λa4 s σ H D k I h=>by
 refine UM (thn (he.h a4 s σ H _ _ (k.1 σ) I h) λv s1 ⟨y,H1,I1,r1,q1⟩=>?_) hs;exact vK I1 hN hi hx r1 (λs2 I2=>⟨_,H1,I2,q1⟩) hf⟩
theorem YO(F:FnOk X.prog X.w X.K X.mg X.base (CXe X.prog X.w) k f fd ps sp)(hr:Room k X.A)(hb:Binds X.K fd ps [])(hx:Cmp X E σ)(I:Inv X a4 σ H s)(rv:Vals vs us)(h:sp vs H Q E):wpAny (model X.prog X.w) X.A (call (.ref f) us) (EP X a4 σ Q) X.xe s:=by
 have hl:us.length=ps.length:=by rw[<-rv.length];exact F.len _ _ _ _ h
 refine U2 (UQ (F.run X.A X.stack s H ⟨us, []⟩ us vs Q E hr I.env0 (by simpa using hb s us I.kIn (by simpa using hl)) rv h) λrr s' hq=>?_);cases rr with
 |error e=>exact hx a4 H s e s' I hq
 |ok fl=>
  cases fl with
  |ret u=>exact I.after hq
  |next=>exact False.elim hq
  |brk=>exact False.elim hq
  |cont=>exact False.elim hq
structure DefX(P:Program)(w:World)(Ξ:PySem.W.Frag)(mg:Str->Option Value)(base:Heap)(x:Str)(k:Nat)(ps:List Str)(sp:Sp):Prop where
 ex:∃(f:Addr)(fd:FuncData),mg x=some (.ref f)/\W.keepIn Ξ (.ref f)=true/\Binds Ξ fd ps []/\FnOk P w Ξ mg base (CXe P w) k f fd ps sp
structure q03(P:Program)(w:World)(Ξ:PySem.W.Frag)(mg:Str->Option Value)(base:Heap)(C:Addr)(m:Str)(k:Nat)(ps:List Str)(sp:Sp):Prop where
 ex:∃(f:Addr)(fd:FuncData),Meth Ξ C m f/\Binds Ξ fd ps []/\FnOk P w Ξ mg base (CXe P w) k f fd ps sp
def q3g(sp:Sp)(t:TA):TX:=λσ H Q E=>t σ H λvs H1=>sp vs H1 Q E
theorem Y4(D:DefX X.prog X.w X.K X.mg X.base x k ps sp)(hr:Room k X.A)(ha:QA X.nox (e::es) ta)(hg:Gl X x:=by rfl)(c9:(x==("__debug__" : Str))=false:=by decide)(he:starEach (e::es) X.env=(false,eval e X.env)::starEach es X.env:=by rfl)(bQ:(backTo pos (starEach es X.env)).any (·.1)=false:=by rfl):
  QXe X (.Call (.Name x p) (e::es) [] pos) (q3g sp ta):=⟨λa4 s σ H Q E hx I h=>by
 obtain⟨f,fd,hm,hk,hb,F⟩:=D.ex;refine Uy (zp I hg hm ?_ c9);refine Rp I.ok.mod.kin hk (Uj (ha.h pos a4 s σ H _ (I.wish _) h) (λus s1 ⟨vs,H1,I1,r,q⟩=>⟨I1.unwish.kIn,?_⟩) λ_ _ z=>False.elim z) he bQ;exact YO F hr hb hx I1.unwish r q⟩
def q3b(C:Addr)(m:Str)(sp:Sp)(ta:TE)(t:TA):TX:=λσ H Q E=>ta σ H λx H1=>∃a dx fs,x=.ref a/\H1 a=some (.ins C dx fs)/\fs.lookup m=none/\t σ H1 λvs H2=>sp (x::vs) H2 Q E
theorem zc(hq:QE X.nox o ta)(c:Cls X.K C)(D:q03 X.prog X.w X.K X.mg X.base C m k ps sp)(hr:Room k X.A)(ha:QA X.nox (e::es) tl)(eW:starEach (e::es) X.env=(false,eval e X.env)::starEach es X.env:=by rfl)(bQ:(backTo pos (starEach es X.env)).any (·.1)=false:=by rfl)(ht:eval (.Call (.Attribute o m aF) (e::es) [] pos) X.env=(do
   let ov <-eval o X.env
   standAt aF.atName;let(f,first) <-holding [ov] (getMethod ov m pl)
   callWith pos f first (backTo pos (starEach (e::es) X.env)) (backToKw pos (keywordEach [] X.env))):=by rfl):
  QXe X (.Call (.Attribute o m aF) (e::es) [] pos) (q3b C m sp ta tl):=⟨λa4 s σ H Q E hx I h=>by
 obtain⟨f,fd,hm,hb,F⟩:=D.ex;refine Rj (thn (hq.h.nox a4 s σ H _ I h) λu s1 ⟨x,H1,I1,rx,a,dx,fs,ex,ea,l,q⟩=>?_) ht;subst ex;obtain rfl:=rx;refine xp I1 ea c hm l ?_;refine Rp I.ok.mod.kin hm.kp (Uj (ha.h pos a4 s1 σ H1 _ (I1.wish _) q) (λus s2 ⟨vs,H2,I2,r,q2⟩=>⟨I2.unwish.kIn,?_⟩) λ_ _ z=>False.elim z) eW bQ;exact YO (vs:=.ref a::vs) F hr hb hx I2.unwish (.cons rfl r) q2⟩
end
set_option tactic.hygienic true in
theorem q4s(X:Ξ.In h)(q:W.excIn Ξ C dW newId=true):
  ∃bm N nm qn bs hdct sn sub ab col dd k0 k1 k2 k3 k5 mN,h.get? C=some (excClassObj nm qn C N bs bm hdct sn sub ab col dd k0 k1 k2 k3 k5 newId)/\h.Ns N mN/\mN "__init__" = none/\OwnTail h dW bm:=by
 unfold W.excIn at q;split at q
 ·rename_i dd cd sl ho
  split at q
  ·rename_i C' bm k0 k1 k2 k3 n k5 hm hs
   obtain⟨nm,bs,mro,ns,qn,hd,sn,sub,ab,col,pK⟩:=cd;simp at q hm;obtain⟨⟨⟨⟨⟨z1,z2⟩,z3⟩,z4⟩,z5⟩,z6⟩:=q;subst z1;subst z2;subst hm;subst z3;obtain⟨l⟩:=sl;subst hs;exact⟨bm,ns,nm,qn,bs,hd,sn,sub,ab,col,dd,k0,k1,k2,k3,k5,_,X _ _ ho,.of_isNs (W.isNs_of_in X z5),W.nsMap_none_of_in X z5 z6,W.tail_of_in X z4⟩
  ·cases q
 ·cases q
structure ExcC(Ξ:PySem.W.Frag)(mg:Str->Option Value)(x:Str)(C:Addr):Prop where
 b:mg x=some (.ref C)
 o:W.excIn Ξ C [.type "ValueError",.type "Exception",.type "BaseException",.type "object"] "ValueError.__new__" = true
set_option tactic.hygienic true in
theorem q1w(h:H a=none):untr (upd H a o) a=H:=by
 funext b;unfold untr upd;split
 ·rename_i q;rw[q,h]
 ·rfl
theorem Inv.none0(I:Inv X a4 σ H s)(hx:e∉X.ex)(h:s.heap.get? e=none):X.s₀.heap.get? e=none:=by
 cases z:X.s₀.heap.get? e with
 |none=>rfl
 |some o=>
  obtain⟨o',q⟩:=I.base.there e o z hx
  lia
theorem ObjOk.here(x:ObjOk P w H h a o):∃u,h.get? a=some u:=by
 cases o with
 |lst xs=>obtain⟨_,_,_,_,e⟩:=x;exact⟨_,e⟩
 |tup xs=>obtain⟨_,_,_,o,e,_⟩:=x;grind
 |dK kvs=>obtain⟨_,_,_,_,o,_,_,e,_⟩:=x;grind
 |dT kvs=>obtain⟨_,_,_,_,o,_,_,e,_⟩:=x;grind
 |set S n=>obtain⟨o,_,_,_,e,_⟩:=x;grind
 |ins C dx fs=>obtain⟨_,_,_,e,_⟩:=x;exact⟨_,e⟩
 |own y=>obtain⟨_,e⟩:=x;grind
 |xd fs=>obtain⟨_,⟨_,_,_,e,_⟩,_⟩:=x;grind
 |rng lo hi=>obtain⟨_,_,_,e⟩:=x;exact⟨_,e⟩
 |frz ob u=>obtain⟨e,_⟩:=x;grind
 |tbl ps=>exact⟨_,x⟩
 |met f y=>exact⟨_,x⟩
 |ext φ=>obtain⟨_,⟨o,e⟩,_⟩:=x;grind
theorem Inv.exc(I:Inv X a4 σ H s)(hm:Heap.MadeExcOf s.heap h1 e (.ref C) args):H e=none/\Inv X a4 σ (upd H e (excO e C none)) { s with heap:=h1 }:=by
 obtain⟨k,hn,t,ht,_⟩:=hm;have fr:H e=none:=by
  cases z:H e with
  |none=>rfl
  |some o=>
   obtain⟨u,q⟩:=(I.hok e o z).here;rw[hn]at q;cases q
 refine⟨fr,?_⟩;refine I.un (h':=h1) (t':=s.toks) ⟨λb u q _ _ _=>k b u q,λb u q _ _ _=>⟨u.slots,k b u q⟩,λb u q n _=>?_,λb u q _=>⟨u,k b u q⟩,λb xs q=>?_,λb u xs q=>?_,λb ps q=>⟨#[],?_⟩⟩ λb u q=>?_
 ·rw[upd_ne λz=>by rw[z,hn]at q;cases q];exact n
 ·rw[upd_ne (qU q fr)];exact q
 ·rw[upd_ne (qU q fr)];exact q
 ·rw[upd_ne (qU q fr),q];simp
 ·by_cases hb:b=e
  ·subst hb;rw[upd_same]at q;cases q;exact XZ ht
  ·rw[upd_ne hb]at q
   exact(I.hok b u q).stay (λc v _ q=>k c v q) (λc q=>by rw[upd_ne (qU q fr)];exact q) λc xs q=>by rw[upd_ne (qU q fr)];exact q
def q2y(x:Str)(t:TA):TS:=λD σ H=>t σ H λvs H1=>vs.length<=sizeLine/\D.bk (some (.str x)::some .non::σ) H1
theorem JI(hc:X.calm=true)(hx:X.ex=[])(O:ExcC X.K X.mg x C)(ha:QA X.nox (e::es) ta)(hg:Gl X x:=by rfl)(c9:(x==("__debug__" : Str))=false:=by decide)(he:starEach (e::es) X.env=(false,eval e X.env)::starEach es X.env:=by rfl)(bQ:(backTo ax (starEach es X.env)).any (·.1)=false:=by rfl):
  QX True X (.Raise (some (.Call (.Name x np) (e::es) [] ax)) none pos) (q2y x ta):=⟨λa4 s σ H D k I h=>by
 obtain⟨bm,N,nm,qn,bs,hdct,sn,sub,ab,col,dd,k0,k1,k2,k3,k5,mN,hC,hN,gA,T⟩:=q4s I.mod.kin O.o;have hh:=I.ok.hd hc;refine wpAny_Raise_call_subU (nm:=nm) (q:=qn) (N:=N) (bs:=bs) (hdct:=hdct) (sn:=sn) (sub:=sub) (ab:=ab) (col:=col) (dd:=dd) (k0:=k0) (k1:=k1) (k2:=k2) (k3:=k3) (k5:=k5)
  PySem.F.excBase_ValueError rfl PySem.F.excBase_ValueError (T.hasType PySem.F.excBase_ValueError.hasBase) hh (by rw[he];show(false||(backTo ax _).any _)=false;rw[bQ];rfl) gA (zp I hg O.b ⟨rfl,?_⟩ c9)
 have h1:=ha.h ax a4 s σ H _ (I.wish _) h;rw[he]at h1 ⊢;refine Calls.evalArgs_plain (Uj h1 (λvs bg ⟨xs,H1,I1,r,hl,q⟩=>?_) λ_ _ z=>False.elim z);have I2:=I1.unwish;refine⟨rfl,by rw[<-r.length];exact hl,I2.bk _ _ hC,hN.keeps I2.bk,T.keeps I2.bk,λh' e' hm=>?_⟩;obtain⟨fr,J⟩:=I2.exc hm;refine k.2 trivial a4 σ _ _ e' C none J upd_same (I2.none0 (by rw[hx];simp) hm.new) ⟨x,none,O.b,rfl,?_⟩;rw[q1w fr];exact q⟩
abbrev Jt(n:Int):Prop:=n.natAbs.log2<1920/\(Str.ofString (toString n)).length<=10000/\n<1000000
def spI(C:Addr):Sp:=λvs H Q _=>∃a n,vs=[.ref a,.int n]/\Jt n/\H a=some (excO a C none)/\∀d,H d=none->Q .non (upd (upd H d (.xd [("part",.int n)])) a (excO a C (some d)))
structure ExcD(P:Program)(w:World)(Ξ:PySem.W.Frag)(mg:Str->Option Value)(base:Heap)(x:Str)(C:Addr)(k:Nat):Prop where
 b:mg x=some (.ref C)
 ex:∃f fd,ExcK Ξ C f/\Binds Ξ fd ["self","part"] []/\FnOk P w Ξ mg base CX0 k f fd ["self","part"] (spI C)
def Yv(x:Str)(t:TA):TS:=λD σ H=>t σ H λvs H1=>∃n,vs=[.int n]/\Jt n/\∀d,H1 d=none->D.bk (some (.str x)::some (.int n)::σ) (upd H1 d (.xd [("part",.int n)]))
theorem Y3(hc:X.calm=true)(hx:X.ex=[])(O:ExcD X.prog X.w X.K X.mg X.base x C kk)(hr:Room (kk+1) X.A)(ha:QA X.nox (e::es) ta)(hg:Gl X x:=by rfl)(c9:(x==("__debug__" : Str))=false:=by decide)(he:starEach (e::es) X.env=(false,eval e X.env)::starEach es X.env:=by rfl)(bQ:(backTo ax (starEach es X.env)).any (·.1)=false:=by rfl):
  QX True X (.Raise (some (.Call (.Name x np) (e::es) [] ax)) none pos) (Yv x ta):=⟨λa4 s σ H D k I h=>by
 obtain⟨f,fd,ck,hb,F⟩:=O.ex;have hh:=I.ok.hd hc;refine PySem.W.Raise_I (C:=C) (f:=f) hh (by rw[he];show(false||(backTo ax (starEach es X.env)).any (·.1))=false;rw[bQ];rfl) (zp I hg O.b ⟨rfl,?_⟩ c9);have h1:=ha.h ax a4 s σ H _ (I.wish _) h;rw[he]at h1 ⊢;refine Calls.evalArgs_plain (Uj h1 (λus bg ⟨xs,H1,I1,r,n,ev,hn,q⟩=>?_) λ_ _ z=>False.elim z);subst ev;have I2:=I1.unwish;have fB:us.length=1:=by rw[<-r.length];rfl
 refine⟨rfl,by show us.length<=_;rw[fB,Uk];lia,W.excI_of I2.kIn ck.i,λh' e' hm=>?_⟩;obtain⟨fr,J⟩:=I2.exc hm;have r2:Vals [V.ref e',V.int n] (Value.ref e'::us):=.cons rfl r;refine U2 (UQ (F.run _ X.stack _ _ ⟨Value.ref e'::us, []⟩ (Value.ref e'::us) _ (λv H2=>v=.non/\∃d,H1 d=none/\d≠e'/\H2=upd (upd _ d (.xd [("part",.int n)])) e' (excO e' C (some d))) E0 (hr.make C us [])
  (J.env0.make C us []) (by simpa using hb _ (Value.ref e'::us) J.kIn (by simp[fB])) r2 ⟨e',n,rfl,hn,upd_same,λd hd=>⟨rfl,d,?_,?_,rfl⟩⟩) λrr s' dZ=>?_)
 ·by_cases z:d=e'
  ·subst z;rw[upd_same]at hd;cases hd
  ·rwa [upd_ne z]at hd
 ·intro z;subst z;rw[upd_same]at hd;cases hd
 ·cases rr with
  |error e=>exact False.elim dZ
  |ok fl=>
   cases fl with
   |ret u=>
    obtain⟨v,H2,I3,rv,ev,d,iR,dG,eH⟩:=J.after dZ;subst ev eH;obtain⟨t,ht⟩:=jY I3.hok (upd_same);refine⟨rv,some d,t,W.excI_of I3.kIn ck.i,ht,?_⟩;refine k.2 trivial a4 σ _ _ e' C (some d) I3 upd_same (I2.none0 (by rw[hx];simp) hm.new) ⟨x,some n,O.b,⟨d,rfl,?_⟩,?_⟩
    ·rw[xE dG,upd_ne dG,upd_same,Je hn.2.2]
    ·have eU:untr (upd (upd (upd H1 e' (excO e' C none)) d (.xd [("part",.int n)])) e' (excO e' C (some d))) e'=upd H1 d (.xd [("part",.int n)]):=by
      funext b;unfold untr upd
      lia
     rw[eU];exact q d iR
   |next=>exact False.elim dZ
   |brk=>exact False.elim dZ
   |cont=>exact False.elim dZ⟩
def bkX(n:Nat)(mg:Str->Option Value)(E:XK):St->Hp->Prop:=λτ H'=>∃nm p ah,τ=some (.str nm)::some (pV p)::ah/\ah.length=n/\∀C d,mg nm=some C->PartIs d H' p->E C d H'
theorem bkX.ex(h:EX mg { nx:=nx,rt:=Q,bk:=bkX n mg E } σ C d H'):E C d H':=by
 obtain⟨nm,p,hm,hp,pQ,p',ah,e,_,k⟩:=h;simp at e;exact k C d (e.1▸hm) (q2d e.2.1▸hp)
theorem Fun.okX{st:Stmt}(F:Fun Ξ x ac st f fd)(S:q01 N ps (qw st))(len:∀vs H Q E,sp vs H Q E->vs.length=ps.length)(aC:∀(ap:Value)(A:Around)(outer:List Env)(s:Shared)(H:Hp)(vs:List V)(Q:VK)(E:XK),Room k (A.deeper (envOfC ac (qw st) s.heap.objs.size f ap))->sp vs H Q E ->
   ∃t,QXs True (cxOf (CXe P w) P w Ξ mg base N ac (qw st) f ap A outer s H E) (vg st) t/\t { nx:=λ_ H'=>Q .non H',rt:=Q,bk:=bkX N.length mg E } (start N vs) H):FnOk P w Ξ mg base (CXe P w) (k+1) f fd ps sp:=by
 obtain⟨oc,od,kV,bV,pm,an,ap,ct,eZ,rfl,lk,cZ⟩:=F.ex;refine q7k lk cZ S len λA outer s H vs Q E hr da=>?_;obtain⟨t,h,q⟩:=aC ap A outer s H vs Q E hr da;refine⟨λD σ H1=>D={ nx:=λ_ H'=>Q .non H',rt:=Q }/\t { nx:=λ_ H'=>Q .non H',rt:=Q,bk:=bkX N.length mg E } σ H1,λa4 s1 σ H1 D I hd=>?_,rfl,q⟩;obtain⟨rfl,hd⟩:=hd;have Y:Body (cxOf (CXe P w) P w Ξ mg base N ac (qw st) f ap A outer s H E) outer:=⟨rfl,rfl,rfl,rfl⟩;refine Uj (h.h a4 s1 σ H1 _ ⟨λσ a4 H s e s' I hx=>?_,λ_ a4 σ H s e C d I hm h0 hx=>?_⟩ I hd) (λfl s' z=>?_) λ_ _ z=>z
 ·exact WG Y I I.ok.frames (hx.mono λC d H' z=>bkX.ex z)
 ·exact XH Y I I.ok.frames hm h0 (bkX.ex hx)
 ·cases fl with
  |next=>exact z
  |ret u=>exact z
  |cont=>exact z
  |brk=>
   obtain⟨ah,H',I',nm,p,pR,e,hl,_⟩:=z;have:=I'.len;rw[e,Dv,Dv,hl]at this;exact absurd this (by show N.length+1+1≠N.length;lia)
theorem Fli.un(F:Fli P w outer H s a C d H' s'):Un (frs outer) [] H H' s.heap s'.heap/\HOk P w H' s'.heap:=by
 obtain⟨B,a0,fl,hok,nb,kp,th⟩:=F.fly;refine⟨⟨λb o q n hb _=>fl.1 b o (kp b o q n hb),λb o q n hb _=>F.up b o q n hb,λb o q n _=>F.free b o q n,λb o q _=>?_,F.tups,F.frzs,F.tbls⟩,hok.kept fl.1⟩;cases hb:H b with
 |some u=>
  obtain⟨o',e⟩:=th b o q (by rw[hb];simp);exact⟨o',fl.1 b o' e⟩
 |none=>
  by_cases hf:b∈frs outer
  ·obtain⟨sl,e⟩:=F.up b o q hb hf
   exact⟨_,e⟩
  ·exact⟨o,fl.1 b o (kp b o q hb hf)⟩
theorem Fli.inv(I:Inv X a4 σ H s)(F:Fli X.prog X.w X.stack H s a C d H' s'):Inv X a4 σ H' s' :=
 I.call' F.os F.un.1 F.un.2 F.bare λb z=>absurd z (by simp)
theorem Fli.step(F:Fli P w outer H s a C d H' s'):∃B a0,Heap.FlyingW B outer a C a0 s'.heap/\∀h',Heap.FlyingW B outer a C a0 h'->s'.heap.UpToSlots h'->Obk s'.heap h'->Fli P w outer H s a C d H' { s' with heap:=h' }:=by
 obtain⟨B,a0,fl,hok,nb,kp,th⟩:=F.fly;refine⟨B,a0,fl,λh' i7 up kd=>⟨λo q=>by
  obtain⟨o1,e1,_⟩:=fl.there;exact(kd.get (d:=0) e1 q).trans (F.own o1 e1),F.os,F.bare,⟨B,a0,i7,hok,nb,kp,th⟩,λb o q n hb=>?_,F.free,F.tups,F.frzs,F.tbls⟩⟩
 obtain⟨sl,e⟩:=F.up b o q n hb;obtain⟨_,o',bv,hd⟩:=fl.2.2.1.mem hb;rw[e]at bv;cases bv;obtain⟨eT,e2⟩:=up b _ e hd;exact⟨eT,e2⟩
theorem Fli.ty(F:Fli P w outer H s a C d H' s'):PySem.W.Looks M s'.heap (typeOf (.ref a)) C:=by
 obtain⟨B,a0,fl,_⟩:=F.fly;obtain⟨ob,pS,hc⟩:=fl.there;subst hc;exact(PySem.W.Looks.ld pS).andThen .now
noncomputable abbrev Cx.caught(X:Cx)(a:Addr):Cx:={ X with A:=X.A.mark (some (.ref a)),calm:=false,xe:=λ_ _=>False }
theorem Inv.caught(I:Inv X a4 σ H s)(a:Addr):Inv (X.caught a) a4 σ H s :=
 ⟨⟨I.ok.mod,I.ok.kind,I.ok.glob,I.ok.blt,I.ok.above,I.ok.inj,I.ok.has,I.ok.cab,(λz=>nomatch z),I.ok.frames,I.ok.stk,I.ok.exf,I.ok.bs,I.ok.bsz,I.ok.noex,I.ok.exfs,I.ok.funs,I.ok.frf⟩,I.os,I.bare,I.base,I.loc,I.cell,I.free,I.freeC,I.pin,I.hok,I.len⟩
theorem Inv.back(ok:X.Ok)(I:Inv (X.caught a) a4 σ H s):Inv X a4 σ H s:=⟨ok,I.os,I.bare,I.base,I.loc,I.cell,I.free,I.freeC,I.pin,I.hok,I.len⟩
noncomputable abbrev Cx.tried(X:Cx)(a4:List (Addr×Obj))(xe:Value->Shared->Prop):Cx:={ X with pn:=X.pn++a4,xe:=xe }
theorem Inv.tried(I:Inv X a4 σ H s)(xe:Value->Shared->Prop):Inv (X.tried a4 xe) [] σ H s :=
 ⟨⟨I.ok.mod,I.ok.kind,I.ok.glob,I.ok.blt,I.ok.above,I.ok.inj,I.ok.has,I.ok.cab,I.ok.hd,I.ok.frames,I.ok.stk,I.ok.exf,I.ok.bs,I.ok.bsz,I.ok.noex,I.ok.exfs,I.ok.funs,I.ok.frf⟩,I.os,I.bare,I.base,I.loc,I.cell,I.free,I.freeC,λp hp=>I.pin p (by simpa using hp),I.hok,I.len⟩
theorem Inv.untried(ok:X.Ok)(I:Inv (X.tried a4 xe) dE σ H s):Inv X a4 σ H s :=
 ⟨ok,I.os,I.bare,I.base,I.loc,I.cell,I.free,I.freeC,λp hp=>I.pin p (Dw _ hp),I.hok,I.len⟩
structure QH(X:Cx)(hs:List ExceptHandler)(C:Value)(q:Option Int)(t:TS):Prop where
 h:∀a4 σ H1 s1 d H' s a D,Inv X a4 σ H1 s1->Fli X.prog X.w X.stack H1 s1 a C d H' s->PartIs d H' q->t D σ H'->wpAny (model X.prog X.w) X.A (handleBy (.ref a) X.env hs) (SP X a4 D) X.xe s
theorem Xv(hm:X.mg x=some cX)(he:W.exmOne X.K C cX=some false)(hr:QH X hs C qp t)(hg:Gl X x:=by rfl)(c9:(x==("__debug__" : Str))=false:=by decide):
  QH X (.ExceptHandler (some (.Name x p)) nmo suite pos::hs) C qp t:=⟨λa4 σ H1 s1 d H' s a D I F hq h=>by
 have J:=F.inv I;refine U0 (UR (zp (J.caught a) hg hm ?_ c9)) (by intro q;cases q);refine Bx J.kIn F.ty he _ _ _ s (λ_ _ z=>z) ?_;exact hr.h a4 σ H1 s1 d H' s a D I F hq h⟩
theorem q2e(hm:X.mg x=some cX)(he:W.exmOne X.K C cX=some true)(hb:∀a,QSs (X.caught a) (b0::suite) t)(hg:Gl X x:=by rfl)(c9:(x==("__debug__" : Str))=false:=by decide):
  QH X (.ExceptHandler (some (.Name x p)) none (b0::suite) pos::hs) C qp t:=⟨λa4 σ H1 s1 d H' s a D I F hq h=>by
 have J:=F.inv I;refine U0 (UR (zp (J.caught a) hg hm ?_ c9)) (by intro q;cases q);refine Bx J.kIn F.ty he _ _ _ s (λ_ _ z=>z) ?_;refine codeAny_handlers_suite ?_;obtain⟨B,a0,fl,st⟩:=F.step;refine Uj (DK.any (zA _ _) (lands_againW fl (Q:=λ_ s2=>(Heap.FlyingW B X.stack a C a0 s2.heap/\s.heap.UpToSlots s2.heap)/\∃h',s2={ s with heap:=h' }) (E:=λ_ _=>False) λh' x1 x4=>⟨⟨x1,x4⟩,h',rfl⟩)) (λ_ s2 z=>?_) λ_ _ q=>q.1.elim;obtain⟨⟨⟨i7,up⟩,h',rfl⟩,kd⟩:=z;have J2:=(st h' i7 up kd).inv I;refine Uj ((hb a).h a4 _ σ H' D (J2.caught a) h) (λf s2 q=>?_) λ_ _ z=>False.elim z;cases f with
 |next=>obtain⟨ah,H2,I2,q⟩:=q;exact⟨ah,H2,I2.back I.ok,q⟩
 |brk=>obtain⟨ah,H2,I2,q⟩:=q;exact⟨ah,H2,I2.back I.ok,q⟩
 |cont=>obtain⟨ah,H2,I2,q⟩:=q;exact⟨ah,H2,I2.back I.ok,q⟩
 |ret u=>obtain⟨v,ah,H2,I2,r,q⟩:=q;exact⟨v,ah,H2,I2.back I.ok,r,q⟩⟩
def tTry(n:Nat)(tb:TS)(l:List (Str×(Option Int->TS))):TS:=λD σ H=>tb { D with bk:=λτ H'=>∃nm p ah t,τ=some (.str nm)::some (pV p)::ah/\ah.length=n/\l.lookup nm=some t/\t p D ah H' } σ H
theorem q79(Y:Body X outer)(hb:∀a4 xe,QXs False (X.tried a4 xe) body tb)(hh:∀nm t C,l.lookup nm=some t->X.mg nm=some C->∀p,QH X (h0::hs) C p (t p)):QS X (.Try body (h0::hs) [] [] pos) (tTry X.N.length tb l):=⟨λa4 s σ H D I h=>by
 refine wpAny_Try_except ?_;refine Uj ((hb a4 λe s1=>wpAny _ X.A _ _ X.xe s1).h [] s σ H _ ⟨λcY dE H1 s1 e s' IY hx=>?_,λz=>z.elim⟩ (I.tried _) h) (λf s1 q=>?_) λ_ _ z=>z
 ·obtain⟨a,C,d,H',rfl,F,nm,p,hm,hp,pQ,p',ah,t,e,hl,ht,q⟩:=hx
  simp at e;obtain⟨rfl,ep,rfl⟩:=e;obtain rfl:=q2d ep;have I1:=IY.untried I.ok;have F:Fli X.prog X.w X.stack H1 s1 a C d H' s':=F;obtain⟨B,a0,fl,st⟩:=F.step;have hA:X.A.frames=some (X.env::outer):=by rw[<-Y.stk];exact I.ok.frames
  rw[Y.stk]at fl;refine Uj (DK.any (G0 _ _) (wpAny_looks_onW hA Y.fr fl (Q:=λ_ s2=>(Heap.HeldW B _ a C a0 X.env.locals s2.heap/\s'.heap.UpToSlots s2.heap)/\∃h',s2={ s' with heap:=h' }) (E:=λ_ _=>False) λh' x1 x4=>⟨⟨x1,x4⟩,h',rfl⟩)) (λ_ s2 z=>?_) λ_ _ q=>q.1.elim;obtain⟨⟨⟨ma,up1⟩,h1,rfl⟩,pU⟩:=z;refine Uj (DK.any (zA _ _) (wpAny_landsW ma (Q:=λ_ s2=>(Heap.FlyingW B _ a C a0 s2.heap/\h1.UpToSlots s2.heap)/\∃h',s2={ s' with heap:=h' }) (E:=λ_ _=>False) λh' x1 x4=>⟨⟨x1,x4⟩,h',rfl⟩)) (λ_ s2 z=>?_) λ_ _ q=>q.1.elim;obtain⟨⟨⟨pW,pX⟩,h2,rfl⟩,pY⟩:=z;exact(hh nm t C ht hm p).h a4 cY H1 s1 d H' _ a D I1 (st h2 (by rw[Y.stk];exact pW) (up1.trans pX) (pU.trans pY)) hp q
 ·cases f with
  |next=>obtain⟨ah,H2,I2,q⟩:=q;exact Ut ⟨ah,H2,I2.untried I.ok,q⟩
  |cont=>obtain⟨ah,H2,I2,q⟩:=q;exact⟨ah,H2,I2.untried I.ok,q⟩
  |ret u=>obtain⟨v,ah,H2,I2,r,q⟩:=q;exact⟨v,ah,H2,I2.untried I.ok,r,q⟩
  |brk=>
   obtain⟨ah,H2,I2,nm,p,pR,t,e,hl,_⟩:=q;have:=I2.len;rw[e,Dv,Dv,hl]at this;exact absurd this (by show X.N.length+1+1≠X.N.length;lia)⟩
theorem W7(I:Inv X a4 σ H s)(hN:X.N.Nodup)(hi:X.N[i]?=some x)(hk:X.env.scope.names.lookup x=some .local)(h:∀s',Inv X a4 (σ.set i none) H s'->Q () s'):wpAny M A (do bindName X.env x .none;unbindBehindTheSuite X.env x pos) Q E s:=by
 obtain⟨m,hn,hl⟩:=id I.loc;have fD:(X.env.scope.kind == .class||(X.env.scope.kind == .module&&X.env.locals != X.env.globals))=false:=by rw[I.ok.kind];rfl
 have cne:=I.cne;refine wpAny_nameGoes_keeps hk hn fD λh' v gp hs=>h _ ⟨I.ok,I.os,I.bare,⟨λb o e n hb hx=>?_,λb o e n hb hx=>?_,I.base.free,λb o e hx=>?_,I.base.tups,I.base.frzs,I.base.tbls⟩,⟨_,gp,λj y v' e1 e2 e3=>?_⟩,λy c e=>?_,I.free,I.freeC,λp hp=>?_,λb ob e=>?_,by simpa using I.len⟩
 ·exact(hs.2 b (Dz (Dx (Heap.lt_size e) I.ok.above))).trans (I.base.keep b o e n hb hx)
 ·obtain⟨sl,e1⟩:=I.base.slot b o e n hb hx
  exact⟨sl,(hs.2 b (Dz (Dx (Heap.lt_size e) I.ok.above))).trans e1⟩
 ·obtain⟨o',e1⟩:=I.base.there b o e hx
  exact⟨o',(hs.2 b (Dz (Dx (Heap.lt_size e) I.ok.above))).trans e1⟩
 ·have hj:j≠i:=λz=>by
   subst z;rw[List.getElem?_set]at e2;simp only[Db]at e2;split at e2<;>cases e2
  rw[Di (Ne.symm hj)]at e2;obtain⟨u',r',q⟩:=hl j y v' e1 e2 e3;refine⟨u',r',?_⟩;rcases q with⟨k,e⟩|⟨k,c,e,z⟩
  ·refine .inl ⟨k,?_⟩
   have:y≠x:=λe=>hj (Vf hN e1 (e▸hi));simp[this,e]
  ·exact .inr ⟨k,c,e,z.sameBut hs (cne y c e)⟩
 ·obtain⟨w',z⟩:=I.cell y c e
  exact⟨w',z.sameBut hs (cne y c e)⟩
 ·obtain⟨e,n,ne,nf,d⟩:=I.pin p hp
  exact⟨(hs.2 p.1 ne).trans e,n,ne,nf,d⟩
 ·refine(I.hok b ob e).stay (λc w' hc q=>(hs.2 c ?_).trans q) (λ_ q=>q) λ_ _ q=>q
  have gM:=I.free
  lia
theorem Fli.new{X:Cx}(F:Fli X.prog X.w X.stack H1 s1 a C d H' s'):s1.heap.get? a=none/\H' a=none/\∃oe vs,s'.heap.get? a=some oe/\oe.cls=C/\oe.dict=d/\oe.data=.fields vs/\vs[2]?=some .none:=by
 obtain⟨B,a0,fl,hok,nb,kp,th⟩:=F.fly;obtain⟨oe,vs,T,oT,ts,he,hc,hd,_⟩:=fl.2.2.2;refine⟨?_,?_,oe,vs,he,hc.1,Um Prod.fst (F.own oe he),hd,by have:=Um Prod.snd (F.own oe he);unfold okey at this;rw[hd]at this;exact this⟩
 ·cases z:s1.heap.get? a with
  |none=>rfl
  |some o=>
   exfalso;have hn:=fl.2.1;by_cases hH:H1 a=none
   ·by_cases hf:a∈frs X.stack
    ·obtain⟨_,o',bv,gm⟩:=fl.2.2.1.mem hf
     rw[he]at bv;cases bv;exact gm vs hd
    ·rw[kp a o z hH hf]at hn;cases hn
   ·obtain⟨o',q⟩:=th a o z hH
    rw[q]at hn;cases hn
 ·cases z:H' a with
  |none=>rfl
  |some u=>
   obtain⟨o,q⟩:=(hok a u z).here;rw[fl.2.1]at q;cases q
theorem Fli.pinned(Y:Body X outer)(I:Inv X a4 σ H1 s1)(F:Fli X.prog X.w X.stack H1 s1 a C d H' s')(he:s'.heap.get? a=some oe)(hd:oe.data=.fields vs):Inv X (a4++[(a,oe)]) σ H' s':=by
 have J:=F.inv I;obtain⟨n1,n2,_⟩:=F.new;refine J.pins_of λp hp=>?_;rcases Dr.mp hp with hp|hp
 ·exact J.pin p (Ds _ hp)
 ·obtain rfl:=Dm.mp hp
  refine⟨he,n2,λz=>?_,λz=>?_,λv z=>?_⟩
  ·obtain⟨m,⟨o,_,_,ho,_⟩,_⟩:=I.loc
   lia
  ·obtain⟨_,o',bv,_⟩:=I.ok.funs.mem z
   obtain⟨o2,q⟩:=I.base.there a o' bv (by rw[Y.ex];simp)
   lia
  ·lia
def tAs(i j k:Nat)(c:Str)(q:Option Int):TS:=λD σ H=>∃n,q=some n/\n<1000000/\D.nx (((σ.set j (some (.str c))).set k (some (.int n))).set i none) H
theorem q8m(Y:Body X outer)(ck:ExcK X.K C g)(na:NoAttr X.K C "part")(hm:X.mg x=some cX)(he:W.exmOne X.K (.ref C) cX=some true)(hN:X.N.Nodup)(hi:X.N[i]?=some e)(hj:X.N[j]?=some w)(hk:X.N[k]?=some v)(eD:i≠j)(m6:i≠k)(iS:X.env.scope.names.lookup e=some .local)(nN:X.env.scope.names.lookup w=some .local)(nO:X.env.scope.names.lookup v=some .local)(hg:Gl X x:=by rfl)(c9:(x==("__debug__" : Str))=false:=by decide)(pZ:(e==("__debug__" : Str))=false:=by decide)(md:(e==("__classdict__" : Str))=false:=by decide)(gy:swapsWith (.Constant (.str c) kc p2) (some (.Name w p1)) p3.line X.env=pure false:=by rfl)(eY:swapsWith (.Attribute (.Name e p5) "part" p6) (some (.Name v p4)) p7.line X.env=pure false:=by rfl)(me:attributeBase (.Name e p5) "part" X.env (eval (.Name e p5) X.env)=eval (.Name e p5) X.env:=by rfl):
  QH X (.ExceptHandler (some (.Name x p)) (some e) [.Assign [.Name w p1] (.Constant (.str c) kc p2) p3,.Assign [.Name v p4] (.Attribute (.Name e p5) "part" p6) p7] pos::hs) (.ref C) q (tAs i j k c q):=⟨λa4 σ H1 s1 d H' s a D I F hq h=>by
 obtain⟨n,rfl,r9,h⟩:=h;obtain⟨x0,rfl,m7⟩:=hq;rw[Je r9]at m7;have J:=F.inv I;refine U0 (UR (zp (X:=X.caught a) (J.caught a) hg hm ?_ c9)) (by intro q;cases q);refine Bx J.kIn F.ty he _ _ _ s (λ_ _ z=>z) ?_;show codeAny _ _ _ _ s;refine codeAny_handlers_suite_as ?_;obtain⟨B,a0,fl,st⟩:=F.step;refine Uj (DK.any (zA _ _) (lands_againW fl (Q:=λ_ s2=>(Heap.FlyingW B X.stack a (.ref C) a0 s2.heap/\s.heap.UpToSlots s2.heap)/\∃h',s2={ s with heap:=h' }) (E:=λ_ _=>False) λh' x1 x4=>⟨⟨x1,x4⟩,h',rfl⟩)) (λ_ s2 z=>?_) λ_ _ q=>q.1.elim;obtain⟨⟨⟨i7,up⟩,h',rfl⟩,kd⟩:=z;have F2:=st h' i7 up kd;obtain⟨n1,n2,oe,vs,re,gz,rh,nP,_⟩:=F2.new;have J2:=F2.pinned Y I re nP;refine Uj (E:=λ_ _=>False) (vK J2 hN hi (.inl iS) (v:=.ref a) (u:=.ref a) rfl (Q:=λ_ s3=>Inv X (a4++[(a,oe)]) (σ.set i (some (.ref a))) H' s3) (λs3 I3=>I3) (.inr iS)) (λ_ s3 I3=>?_) λ_ _ z=>z.elim;refine Uj (E:=λ_ _=>False) (Q:=λf s4=>f=.next/\Inv X (a4++[(a,oe)]) (((σ.set i (some (.ref a))).set j (some (.str c))).set k (some (.int n))) H' s4) ?_ (λf s4 z=>?_) λ_ _ z=>z.elim
 ·refine Uw (UM (Calls.Constant_str ?_) gy)
  refine vK (I3.tok _) hN hj (.inl nN) (v:=.str c) ⟨_,rfl⟩ (λs4 I4=>?_) (.inr nN);refine Uw (UM (qaB me ?_) eY);have I5:=I4.caught a;refine Uj (q28 (X:=X.caught a) hi (.inl iS) pZ md _ s4 _ H' (λv H2=>v=.ref a/\H2=H') I5 ?_) (λu s5 q=>?_) λ_ _ z=>z.elim
  ·have li:i<σ.length:=by rw[J.len];exact(Dc.mp hi).1
   exact⟨.ref a,by rw[Di (Ne.symm eD),Dn li],rfl,rfl⟩
  obtain⟨v5,H5,I6,r5,e5,e6⟩:=q;subst e5 e6;obtain rfl:u=Value.ref a:=r5;have I7:=I6.back I.ok;obtain⟨mA,dh,mh⟩:=I7.hok x0 _ m7;obtain⟨od,rj,iT⟩:=Zn dh;have mi:=(I7.pin (a,oe) (by simp)).1;have hv:∃t,mA "part" = some (.int n t):=by
   have:=mh "part";obtain⟨u,hu,t,rfl⟩:=RelO.some_of (v:=.int n) (o:=mA "part") (by simpa using this);exact⟨t,hu⟩
  obtain⟨tn,hv⟩:=hv;refine W.getX_value (v:=.int n tn) (C:=C) (od:=some od) I7.kIn ⟨mi,gz,by unfold W.notCls;rw[nP],by rw[rh];exact rj⟩ ck.ga ck.gt ck.mr ?_ rfl ?_
  ·exact BJ ck.hd na rfl (by rw[iT,hv])
  ·refine vK (I7.tok _) hN hk (.inl nO) (v:=.int n) ⟨_,rfl⟩ (λs6 I8=>?_) (.inr nO)
   exact Ut ⟨rfl,I8⟩
 ·obtain⟨rfl,I8⟩:=z
  show wpAny _ _ _ _ _ _;refine W7 I8 hN hi iS λs9 I9=>?_;have fQ:Inv X a4 _ H' s9:=⟨I9.ok,I9.os,I9.bare,I9.base,I9.loc,I9.cell,I9.free,I9.freeC,λp hp=>I9.pin p (by
   rcases Dr.mp hp with z|z
   ·exact Dw _ z
   ·exact Ds _ (Dw _ z)),I9.hok,I9.len⟩
  refine⟨_,H',fQ,?_⟩;have e:(((σ.set i (some (V.ref a))).set j (some (.str c))).set k (some (.int n))).set i none=((σ.set j (some (.str c))).set k (some (.int n))).set i none:=by
   rw[RD _ _ eD,RD _ _ m6,BX]
  rw[e];exact h⟩
end L2
namespace PySem
theorem Paired.of_get{α β:Type}{F:α->β->Prop}:∀{l:List α}{m:List β},l.length=m.length->(∀(i:Nat) x y,l[i]?=some x->m[i]?=some y->F x y)->Paired F l m
 | [], [],_,_=>.nil
 | [],_::_,h,_=>by simp at h
 |_::_, [],h,_=>by simp at h
 |x::l,y::m,h,r=>.cons (r 0 x y rfl rfl) (Paired.of_get (by simpa using h) λi a b ha hb=>r (i+1) a b (by grind) (by grind))
theorem Paired.len{α β:Type}{F:α->β->Prop}:∀{l:List α}{m:List β},Paired F l m->l.length=m.length
 |_,_,.nil=>rfl
 |_,_,.cons _ t=>by rw[Dv,Dv,Paired.len t]
theorem Paired.get2{α β:Type}{F:α->β->Prop}:∀{l:List α}{m:List β}{i:Nat}{x:α}{y:β},Paired F l m->l[i]?=some x->m[i]?=some y->F x y
 |_,_,_,_,_,.nil,h,_=>by simp at h
 |_,_,0,_,_,.cons r _,h,k=>by simp at h k;subst h k;exact r
 |_,_,i+1,_,_,.cons _ t,h,k=>Paired.get2 t (by simpa using h) (by simpa using k)
theorem Paired.getR{α β:Type}{F:α->β->Prop}{l:List α}{m:List β}{i:Nat}{y:β}(h:Paired F l m)(e:m[i]?=some y):∃x,l[i]?=some x/\F x y:=by
 have hl:=h.len;have hi:=(Dc.mp e).1;have hx:l[i]?=some _:=Df (by lia);exact⟨_,hx,h.get2 hx e⟩
theorem Paired.getL{α β:Type}{F:α->β->Prop}{l:List α}{m:List β}{i:Nat}{x:α}(h:Paired F l m)(e:l[i]?=some x):∃y,m[i]?=some y/\F x y:=by
 have hl:=h.len;have hi:=(Dc.mp e).1;have hx:m[i]?=some _:=Df (by lia);exact⟨_,hx,h.get2 e hx⟩
theorem Paired.app{α β:Type}{F:α->β->Prop}:∀{l l':List α}{m m':List β},Paired F l m->Paired F l' m'->Paired F (l++l') (m++m')
 |_,_,_,_,.nil,h=>h
 |_,_,_,_,.cons r t,h=>.cons r (Paired.app t h)
theorem Paired.put{α β:Type}{F:α->β->Prop}{x:α}{y:β}(r:F x y):∀{l:List α}{m:List β}(i:Nat),Paired F l m->Paired F (l.set i x) (m.set i y)
 |_,_,_,.nil=>.nil
 |_,_,0,.cons _ t=>.cons r t
 |_,_,i+1,.cons q t=>.cons q (Paired.put r i t)
theorem Paired.tk{α β:Type}{F:α->β->Prop}:∀{l:List α}{m:List β}(n:Nat),Paired F l m->Paired F (l.take n) (m.take n)
 |_,_,0,_=>.nil
 |_,_,_+1,.nil=>.nil
 |_,_,n+1,.cons r t=>.cons r (Paired.tk n t)
theorem Paired.dr{α β:Type}{F:α->β->Prop}:∀{l:List α}{m:List β}(n:Nat),Paired F l m->Paired F (l.drop n) (m.drop n)
 |_,_,0,r=>r
 |_,_,_+1,.nil=>.nil
 |_,_,n+1,.cons _ t=>Paired.dr n t
theorem Paired.erase{α β:Type}{F:α->β->Prop}:∀{l:List α}{m:List β}(n:Nat),Paired F l m->Paired F (l.eraseIdx n) (m.eraseIdx n)
 |_,_,_,.nil=>.nil
 |_,_,0,.cons _ t=>t
 |_,_,n+1,.cons r t=>.cons r (Paired.erase n t)
theorem Paired.mapR{α β γ:Type}{F:α->β->Prop}{G:α->γ->Prop}{f:β->γ}(h:∀a b,F a b->G a (f b)):∀{l:List α}{m:List β},Paired F l m->Paired G l (m.map f)
 |_,_,.nil=>.nil
 |_,_,.cons r t=>.cons (h _ _ r) (Paired.mapR h t)
theorem Paired.unmapR{α β γ:Type}{F:α->β->Prop}{G:α->γ->Prop}{f:β->γ}(h:∀a b,G a (f b)->F a b):∀{m:List β}{l:List α},Paired G l (m.map f)->Paired F l m
 | [],_,.nil=>.nil
 |_::m,_,.cons r t=>.cons (h _ _ r) (Paired.unmapR h t)
theorem Paired.empt{α β:Type}{F:α->β->Prop}{l:List α}{m:List β}(h:Paired F l m):l.isEmpty=m.isEmpty:=by cases h<;>rfl
end PySem
namespace L2
open PySem PySem.Spec PyProof.Rows
inductive T where
 |non|bl (b:Bool)|int (i:Int)|str (x:Str)|tup (xs:List T)|lst (xs:List T)
inductive U where
 |p (t:T)|m (k:Nat)|x (a:Addr) (d:Option Addr) (q:Option Int)
inductive MO where
 |lst (us:List U)|tup (us:List U)|ins (C:Addr) (fs:List (Str×U))|dK (kvs:List (Key×U))|dF (kvs:List (Key×U)) (ob:Obj) (gs:List (Key×V))|tab (P:Addr) (pos:Pos) (ac:Str)
abbrev MM:=List MO
abbrev UEnv:=List (Option U)
inductive RepT(A:Addr->Prop)(H:Hp):V->T->Prop
 |non:RepT A H .non .non
 |bl (b:Bool):RepT A H (.bl b) (.bl b)
 |int (i:Int):RepT A H (.int i) (.int i)
 |str (x:Str):RepT A H (.str x) (.str x)
 |tup {p:Addr}{vs:List V}{ts:List T} (na:¬A p) (e:H p=some (.tup vs)) (l:vs.length=ts.length) (r:∀(i:Nat) v t,vs[i]?=some v->ts[i]?=some t->RepT A H v t):RepT A H (.ref p) (.tup ts)
 |lst {p:Addr}{vs:List V}{ts:List T} (na:¬A p) (e:H p=some (.lst vs)) (l:vs.length=ts.length) (r:∀(i:Nat) v t,vs[i]?=some v->ts[i]?=some t->RepT A H v t):RepT A H (.ref p) (.lst ts)
section
variable {A A':Addr->Prop}{H H':Hp}{v:V}{t:T}{ι ae:List Addr}{M:MM}{u:U}{σ:St}{ρ:UEnv}
abbrev RepTs(A:Addr->Prop)(H:Hp):List V->List T->Prop:=Paired (RepT A H)
theorem RepT.tupP(na:¬A p)(e:H p=some (.tup vs))(r:RepTs A H vs ts):RepT A H (.ref p) (.tup ts):=.tup na e r.len λi v t h k=>r.get2 h k
theorem RepT.lstP(na:¬A p)(e:H p=some (.lst vs))(r:RepTs A H vs ts):RepT A H (.ref p) (.lst ts):=.lst na e r.len λi v t h k=>r.get2 h k
theorem RepT.mono(h:∀x o,¬A x->H x=some o->H' x=some o/\¬A' x)(r:RepT A H v t):RepT A' H' v t:=by
 induction r with
 |non=>exact .non
 |bl b=>exact .bl b
 |int i=>exact .int i
 |str x=>exact .str x
 |tup na e l r ih=>exact .tup (h _ _ na e).2 (h _ _ na e).1 l ih
 |lst na e l r ih=>exact .lst (h _ _ na e).2 (h _ _ na e).1 l ih
theorem RepT.tup_inv(r:RepT A H v (.tup ts)):∃p vs,v=.ref p/\¬A p/\H p=some (.tup vs)/\RepTs A H vs ts:=by
 cases r with
 |tup na e l r=>exact⟨_,_,rfl,na,e,Paired.of_get l r⟩
theorem RepT.lst_inv(r:RepT A H v (.lst ts)):∃p vs,v=.ref p/\¬A p/\H p=some (.lst vs)/\RepTs A H vs ts:=by
 cases r with
 |lst na e l r=>exact⟨_,_,rfl,na,e,Paired.of_get l r⟩
def Av(A:Addr->Prop)(ι:List Addr):Addr->Prop:=λx=>A x\/x∈ι
def PartX(ι:List Addr)(H:Hp)(d:Option Addr):Option Int->Prop
 |none=>d=none
 |some n=>∃x0,d=some x0/\x0∉ι/\H x0=some (.xd (xfs n))
inductive RepU(A:Addr->Prop)(ι:List Addr)(H:Hp):V->U->Prop
 |p {v:V}{t:T} (r:RepT (Av A ι) H v t):RepU A ι H v (.p t)
 |m {k:Nat}{a:Addr} (e:ι[k]?=some a):RepU A ι H (.ref a) (.m k)
 |x {a:Addr}{d:Option Addr}{q:Option Int} (h:PartX ι H d q):RepU A ι H (.ref a) (.x a d q)
abbrev RepUs(A:Addr->Prop)(ι:List Addr)(H:Hp):List V->List U->Prop:=Paired (RepU A ι H)
noncomputable def q86(c:Addr)(ac:Str):HO:=.ext λh=>h.CodeRec (.ref c) ac
def ObjR(A:Addr->Prop)(ι:List Addr)(H:Hp)(a:Addr):MO->Prop
 |.lst us=>∃vs,H a=some (.lst vs)/\RepUs A ι H vs us
 |.tup us=>∃vs,H a=some (.tup vs)/\RepUs A ι H vs us
 |.ins C fs=>∃dx gs,H a=some (.ins C dx gs)/\H dx=some (.own a)/\dx∉ι/\Paired (λ(g:Str×V) (f:Str×U)=>g.1=f.1/\RepU A ι H g.2 f.2) gs fs
 |.dK kvs=>∃gs,H a=some (.dK gs)/\Paired (λ(g:Key×V) (f:Key×U)=>g.1=f.1/\RepU A ι H g.2 f.2) gs kvs
 |.dF kvs ob gs=>H a=some (.frz ob (.dK gs))/\Paired (λ(g:Key×V) (f:Key×U)=>g.1=f.1/\RepU A ι H g.2 f.2) gs kvs
 |.tab P pos ac=>∃ps:Array Value,H a=some (.tbl ps)/\(TriplesOk ps.toList/\a=P)/\(codeAmong pos ps.toList=none\/∃c,codeAmong pos ps.toList=some (.ref c)/\H c=some (q86 c ac)/\c∉ι)
structure Wd(A:Addr->Prop)(ι:List Addr)(H:Hp)(M:MM):Prop where
 nd:ι.Nodup
 len:ι.length=M.length
 dom:∀x,A x->H x≠none
 na:∀x∈ι,¬A x
 obj:∀(k:Nat) a o,ι[k]?=some a->M[k]?=some o->ObjR A ι H a o
structure Le(ι:List Addr)(H:Hp)(ae:List Addr)(H':Hp):Prop where
 ext:∃n,ae=ι++n/\∀x∈n,H x=none
 fr:∀x o,H x=some o->x∉ι->H' x=some o
 al:∀x,H x≠none->H' x≠none
theorem Le.refl(ι:List Addr)(H:Hp):Le ι H ι H:=⟨⟨[],by simp,by simp⟩,λ_ _ h _=>h,λ_ h=>h⟩
theorem Le.trans(a:Le ι H ae H')(b:Le ae H' a9 H2):Le ι H a9 H2:=by
 obtain⟨n,rfl,hn⟩:=a.ext;obtain⟨m,rfl,hm⟩:=b.ext;have aD:∀x,H x≠none->x∉ι->x∉ι++n:=λx hx h z=>by
  rcases Dr.mp z with z|z
  ·exact h z
  ·exact hx (hn x z)
 refine⟨⟨n++m,by rw[DC],λx hx=>?_⟩,λx o e h=>b.fr x o (a.fr x o e h) (aD x (by lia) h),λx h=>b.al x (a.al x h)⟩;rcases Dr.mp hx with z|z
 ·exact hn x z
 ·cases q:H x with
  |none=>rfl
  |some o=>exact absurd (hm x z) (a.al x (by lia))
theorem Le.av(l:Le ι H ae H')(h:¬Av A ι x)(e:H x=some o):H' x=some o/\¬Av A ae x:=by
 obtain⟨n,rfl,hn⟩:=l.ext;refine⟨l.fr x o e λz=>h (.inr z),λz=>?_⟩;rcases z with z|z
 ·exact h (.inl z)
 ·rcases Dr.mp z with z|z
  ·exact h (.inr z)
  ·rw[hn x z]at e;cases e
theorem RepT.le(l:Le ι H ae H')(r:RepT (Av A ι) H v t):RepT (Av A ae) H' v t:=r.mono λ_ _ h e=>l.av h e
theorem PartX.le(l:Le ι H ae H')(h:PartX ι H d q):PartX ae H' d q:=by
 cases q with
 |none=>exact h
 |some n=>
  obtain⟨x0,e,ni,hx⟩:=h;obtain⟨m,rfl,hm⟩:=l.ext;refine⟨x0,e,λz=>?_,l.fr x0 _ hx ni⟩;rcases Dr.mp z with z|z
  ·exact ni z
  ·rw[hm x0 z]at hx;cases hx
theorem RepU.le(l:Le ι H ae H')(r:RepU A ι H v u):RepU A ae H' v u:=by
 cases r with
 |p r=>exact .p (r.le l)
 |m e=>
  obtain⟨n,rfl,_⟩:=l.ext;exact .m (by rw[De (Dc.mp e).1];exact e)
 |x h=>exact .x (h.le l)
theorem RepUs.le(l:Le ι H ae H')(r:RepUs A ι H vs us):RepUs A ae H' vs us:=Paired.mapP r λ_ _ q=>q.le l
theorem ObjR.some{a:Addr}{o:MO}(r:ObjR A ι H a o):∃h,H a=some h:=by
 cases o with
 |lst=>obtain⟨vs,e,_⟩:=r;exact⟨_,e⟩
 |tup=>obtain⟨vs,e,_⟩:=r;exact⟨_,e⟩
 |ins=>obtain⟨_,_,e,_⟩:=r;exact⟨_,e⟩
 |dK=>obtain⟨_,e,_⟩:=r;exact⟨_,e⟩
 |dF=>obtain⟨e,_⟩:=r;exact⟨_,e⟩
 |tab=>obtain⟨_,e,_⟩:=r;exact⟨_,e⟩
theorem ObjR.le'(l:Le ι H ae H')(ea:H' a=H a)(eo:∀x,H x=Option.some (.own a)->H' x=H x)(r:ObjR A ι H a o):ObjR A ae H' a o:=by
 cases o with
 |lst=>obtain⟨vs,e,r⟩:=r;exact⟨vs,by rw[ea];exact e,Paired.mapP r λ_ _ q=>q.le l⟩
 |tup=>obtain⟨vs,e,r⟩:=r;exact⟨vs,by rw[ea];exact e,Paired.mapP r λ_ _ q=>q.le l⟩
 |ins=>
  obtain⟨dx,gs,e,ed,nd,r⟩:=r;obtain⟨n,rfl,hn⟩:=l.ext;refine⟨dx,gs,by rw[ea];exact e,by rw[eo dx ed];exact ed,λz=>?_,Paired.mapP r λ_ _ q=>⟨q.1,q.2.le l⟩⟩;rcases Dr.mp z with z|z
  ·exact nd z
  ·rw[hn dx z]at ed;cases ed
 |dK=>obtain⟨gs,e,r⟩:=r;exact⟨gs,by rw[ea];exact e,Paired.mapP r λ_ _ q=>⟨q.1,q.2.le l⟩⟩
 |dF=>obtain⟨e,r⟩:=r;exact⟨by rw[ea];exact e,Paired.mapP r λ_ _ q=>⟨q.1,q.2.le l⟩⟩
 |tab=>
  obtain⟨ps,e,t,z⟩:=r;obtain⟨n,rfl,hn⟩:=l.ext;refine⟨ps,by rw[ea];exact e,t,z.imp id λ⟨c,h1,h2,h3⟩=>⟨c,h1,l.fr c _ h2 h3,λy=>?_⟩⟩;rcases Dr.mp y with y|y
  ·exact h3 y
  ·rw[hn c y]at h2;cases h2
theorem Wd.al(w:Wd A ι H M){k:Nat}(e:ι[k]?=some a):∃o,M[k]?=some o/\ObjR A ι H a o:=by
 have h:=(Dc.mp e).1;have e2:M[k]?=some (M[k]'(by rw[<-w.len];exact h)):=Df _;exact⟨_,e2,w.obj k a _ e e2⟩
theorem Wd.mem_some(w:Wd A ι H M)(h:a∈ι):∃o,H a=some o:=by
 obtain⟨k,e⟩:=Rl h;obtain⟨o,_,r⟩:=w.al e;exact r.some
theorem Wd.not_own(w:Wd A ι H M)(h:a∈ι):H a≠some (.own x):=λz=>by
 obtain⟨k,e⟩:=Rl h;obtain⟨o,_,r⟩:=w.al e;cases o with
 |lst=>obtain⟨vs,e,_⟩:=r;lia
 |tup=>obtain⟨vs,e,_⟩:=r;lia
 |ins=>obtain⟨_,_,e,_⟩:=r;lia
 |dK=>obtain⟨_,e,_⟩:=r;lia
 |dF=>obtain⟨e,_⟩:=r;lia
 |tab=>obtain⟨_,e,_⟩:=r;lia
theorem Le.fresh(h:H p=none):Le ι H ι (upd H p o):=⟨⟨[],by simp,by simp⟩,λx o' e _=>zS h e,λx e=>by
 by_cases z:x=p
 ·subst z;rw[upd_same];simp
 ·rw[upd_ne z];exact e⟩
theorem Le.push(h:H p=none):Le ι H (ι++[p]) (upd H p o):=⟨⟨[p],rfl,λx hx=>by rw[Dm.mp hx];exact h⟩,(Le.fresh h).fr,(Le.fresh (ι:=ι) h).al⟩
theorem Le.put(h:p∈ι):Le ι H ι (upd H p o):=⟨⟨[],by simp,by simp⟩,λx o' e n=>by rw[upd_ne (λz=>n (by rw[z];exact h))];exact e,λx e=>by
 by_cases z:x=p
 ·subst z;rw[upd_same];simp
 ·rw[upd_ne z];exact e⟩
theorem Wd.fresh(w:Wd A ι H M)(h:H p=none):Wd A ι (upd H p o) M :=
 ⟨w.nd,w.len,λx hx=>(Le.fresh (ι:=ι) h).al x (w.dom x hx),w.na,λk a ob e1 e2=>(w.obj k a ob e1 e2).le' (.fresh h) (upd_ne λz=>by
  obtain⟨q,hq⟩:=w.mem_some (Dh e1);rw[z]at hq;lia) λx ex=>upd_ne λz=>by rw[z]at ex;lia⟩
theorem Wd.nin(w:Wd A ι H M)(h:H p=none):p∉ι:=λz=>by
 obtain⟨q,hq⟩:=w.mem_some z
 lia
theorem Wd.nA(w:Wd A ι H M)(h:H p=none):¬Av A ι p:=λz=>z.elim (λz=>w.dom p z h) (w.nin h)
theorem Wd.push(w:Wd A ι H M)(h:H p=none)(new:ObjR A (ι++[p]) (upd H p o) p mo):Wd A (ι++[p]) (upd H p o) (M++[mo]):=by
 have np:=w.nin h;refine⟨DW.mpr ⟨w.nd,by simp,λa ha b hb=>?_⟩,by simp[w.len],λx hx=>(Le.fresh (ι:=ι) h).al x (w.dom x hx),λx hx=>?_,λk a ob e1 e2=>?_⟩
 ·rw[Dm.mp hb];exact λz=>np (by rw[<-z];exact ha)
 ·rcases Dr.mp hx with z|z
  ·exact w.na x z
  ·rw[Dm.mp z];exact λz=>w.dom p z h
 ·by_cases hk:k<ι.length
  ·rw[De hk]at e1
   rw[De (by rw[<-w.len];exact hk)]at e2;exact(w.obj k a ob e1 e2).le' (.push h) (upd_ne λz=>np (by rw[<-z];exact Dh e1)) λx ex=>upd_ne λz=>by rw[z]at ex;lia
  ·have i8:=(Dc.mp e1).1
   rw[Dj,DQ]at i8;have:k=ι.length:=by lia
   subst this;rw[Dp (Dk _),Rq]at e1;rw[w.len,Dp (Dk _),Rq]at e2;simp at e1 e2;subst e1 e2;exact new
theorem Wd.put(w:Wd A ι H M)(e:ι[k]?=some p)(new:ObjR A ι (upd H p o) p mo):Wd A ι (upd H p o) (M.set k mo):=by
 have hp:=Dh e;refine⟨w.nd,by rw[Do];exact w.len,λx hx=>(Le.put hp).al x (w.dom x hx),w.na,λj a ob e1 e2=>?_⟩;by_cases hj:k=j
 ·subst hj
  rw[e]at e1;cases e1;rw[Dn (by rw[<-w.len];exact(Dc.mp e).1)]at e2;cases e2;exact new
 ·rw[Di hj]at e2
  have na:a≠p:=λz=>by
   subst z;have h1:=Dc.mp e;have h2:=Dc.mp e1;exact hj ((Bm w.nd).mp (h1.2.trans h2.2.symm))
  exact(w.obj j a ob e1 e2).le' (.put hp) (upd_ne na) λx ex=>upd_ne λz=>by
   rw[z]at ex;exact w.not_own hp ex
def EnvR(A:Addr->Prop)(ι:List Addr)(H:Hp):St->UEnv->Prop:=Paired λ(s:Option V) (r:Option U)=>∀u,r=some u->∃v,s=some v/\RepU A ι H v u
theorem EnvR.le(l:Le ι H ae H')(r:EnvR A ι H σ ρ):EnvR A ae H' σ ρ:=Paired.mapP r λ_ _ q u e=>by
 obtain⟨v,h1,h2⟩:=q u e;exact⟨v,h1,h2.le l⟩
theorem EnvR.get(r:EnvR A ι H σ ρ){i:Nat}(e:ρ[i]?=some (some u)):∃v,σ[i]?=some (some v)/\RepU A ι H v u:=by
 obtain⟨s,h1,h2⟩:=Paired.getR r e;obtain⟨v,rfl,h3⟩:=h2 u rfl;exact⟨v,h1,h3⟩
theorem EnvR.put(r:EnvR A ι H σ ρ)(i:Nat)(q:RepU A ι H v u):EnvR A ι H (σ.set i (some v)) (ρ.set i (some u)):=Paired.put (λw e=>by lia) i r
noncomputable def KW(bs:List Bool)(n:Nat)(ρ:UEnv):UEnv:=(bs.zip ρ).map (λp=>if p.1 then p.2 else none)++List.replicate n none
theorem EnvR.mask(r:EnvR A ι H σ ρ):EnvR A ι H (zE bs n σ) (KW bs n ρ):=by
 refine Paired.app ?_ ?_
 ·induction r generalizing bs with
  |nil=>simp;exact .nil
  |cons q t ih=>
   cases bs with
   |nil=>exact .nil
   |cons b bs=>
    refine .cons ?_ ih;cases b
    ·intro u e;simp at e
    ·simpa using q
 ·induction n with
  |zero=>exact .nil
  |succ n ih=>exact .cons (λu e=>by cases e) ih
end
abbrev UK:=U->MM->Prop
abbrev UE:=UEnv->MM->UK->Prop
abbrev UT:=UEnv->MM->(Bool->MM->Prop)->Prop
abbrev UA:=UEnv->MM->(List U->MM->Prop)->Prop
def LE(te:TE)(ue:UE):Prop:=∀(A:Addr->Prop)(ι:List Addr)(σ:St)(H:Hp)(ρ:UEnv)(M:MM)(Qu:UK)(Q:VK),Wd A ι H M->EnvR A ι H σ ρ->ue ρ M Qu ->
 (∀u M' ae v H',Le ι H ae H'->Wd A ae H' M'->RepU A ae H' v u->Qu u M'->Q v H')->te σ H Q
def LT(tt:TT)(ut:UT):Prop:=∀(A:Addr->Prop)(ι:List Addr)(σ:St)(H:Hp)(ρ:UEnv)(M:MM)(Qu:Bool->MM->Prop)(Q:Bool->Hp->Prop),Wd A ι H M->EnvR A ι H σ ρ->ut ρ M Qu ->
 (∀b M' ae H',Le ι H ae H'->Wd A ae H' M'->Qu b M'->Q b H')->tt σ H Q
def LA(n:Nat)(ta:TA)(ua:UA):Prop:=∀(A:Addr->Prop)(ι:List Addr)(σ:St)(H:Hp)(ρ:UEnv)(M:MM)(Qu:List U->MM->Prop)(Q:List V->Hp->Prop),Wd A ι H M->EnvR A ι H σ ρ->ua ρ M Qu ->
 (∀us M' ae vs H',Le ι H ae H'->Wd A ae H' M'->us.length=n->RepUs A ae H' vs us->Qu us M'->Q vs H')->ta σ H Q
section
def uVar(i:Nat):UE:=λρ M Q=>∃u,ρ[i]?=some (some u)/\Q u M
inductive Sc:V->T->Prop
 |non:Sc .non .non
 |bl (b:Bool):Sc (.bl b) (.bl b)
 |int (i:Int):Sc (.int i) (.int i)
 |str (x:Str):Sc (.str x) (.str x)
theorem Sc.rep(h:Sc v t):RepT A H v t:=by cases h<;>constructor
def uC(t:T):UE:=λ_ M Q=>Q (.p t) M
def uNil:UA:=λ_ M Q=>Q [] M
def Xe(ua:UE)(ul:UA):UA:=λρ M Q=>ua ρ M λx M1=>ul ρ M1 λxs M2=>Q (x::xs) M2
noncomputable def vU:List U->Option (List T)
 | []=>some []
 |.p t::r=>(vU r).map (t :: ·)
 |.m _::_=>none
 |.x _ _ _::_=>none
@[simp] theorem xn:∀ts:List T,vU (ts.map U.p)=some ts
 | []=>rfl
 |t::r=>by simp[vU,xn r]
theorem zF:∀{us:List U}{ts:List T},vU us=some ts->us=ts.map U.p
 | [],_,h=>by simp[vU]at h;subst h;rfl
 |.p t::r,ts,h=>by
  simp[vU]at h;obtain⟨a,h1,rfl⟩:=h;rw[DD, <-zF h1]
 |.m _::_,_,h=>by simp[vU]at h
 |.x _ _ _::_,_,h=>by simp[vU]at h
noncomputable def sn(M:MM):U->Option T
 |.p t=>some t
 |.m k=>match M[k]? with
  |some (.lst us)=>(vU us).map T.lst
  |some (.tup us)=>(vU us).map T.tup
  |_=>none
 |.x _ _ _=>none
noncomputable def sns(M:MM):List U->Option (List T)
 | []=>some []
 |u::r=>match sn M u,sns M r with
  |some t,some ts=>some (t::ts)
  |_,_=>none
inductive RepV(A:Addr->Prop)(H:Hp):V->T->Prop
 |of {v:V}{t:T} (r:RepT A H v t):RepV A H v t
 |lst {p:Addr}{vs:List V}{ts:List T} (e:H p=some (.lst vs)) (r:RepTs A H vs ts):RepV A H (.ref p) (.lst ts)
 |tup {p:Addr}{vs:List V}{ts:List T} (e:H p=some (.tup vs)) (r:RepTs A H vs ts):RepV A H (.ref p) (.tup ts)
variable {A:Addr->Prop}{H H':Hp}{ι:List Addr}{M:MM}{v:V}{u:U}{t:T}
theorem RepV.lst_inv(r:RepV A H v (.lst ts)):∃p vs,v=.ref p/\H p=some (.lst vs)/\RepTs A H vs ts:=by
 cases r with
 |of r=>obtain⟨p,vs,h1,_,h2,h3⟩:=r.lst_inv;exact⟨p,vs,h1,h2,h3⟩
 |lst e r=>exact⟨_,_,rfl,e,r⟩
theorem RepV.tup_inv(r:RepV A H v (.tup ts)):∃p vs,v=.ref p/\H p=some (.tup vs)/\RepTs A H vs ts:=by
 cases r with
 |of r=>obtain⟨p,vs,h1,_,h2,h3⟩:=r.tup_inv;exact⟨p,vs,h1,h2,h3⟩
 |tup e r=>exact⟨_,_,rfl,e,r⟩
theorem RepV.int_inv(r:RepV A H v (.int i)):v=.int i:=by cases r with|of r=>cases r;rfl
theorem RepV.bl_inv(r:RepV A H v (.bl i)):v=.bl i:=by cases r with|of r=>cases r;rfl
theorem RepV.str_inv(r:RepV A H v (.str i)):v=.str i:=by cases r with|of r=>cases r;rfl
theorem RepV.non_inv(r:RepV A H v .non):v=.non:=by cases r with|of r=>cases r;rfl
theorem RepUs.pures(r:RepUs A ι H vs (ts.map U.p)):RepTs (Av A ι) H vs ts:=Paired.unmapR (λa b q=>by cases q with|p r=>exact r) r
theorem RepTs.ups(r:RepTs (Av A ι) H vs ts):RepUs A ι H vs (ts.map U.p):=Paired.mapR (λa b q=>.p q) r
theorem RepU.sn(w:Wd A ι H M)(r:RepU A ι H v u)(e:sn M u=some t):RepV (Av A ι) H v t:=by
 cases r with
 |p r=>simp[L2.sn]at e;subst e;exact .of r
 |m q=>
  obtain⟨o,h1,h2⟩:=w.al q;simp[L2.sn,h1]at e;cases o with
  |lst us=>
   simp at e;obtain⟨ts,e1,rfl⟩:=e;obtain⟨vs,h3,h4⟩:=h2;rw[zF e1]at h4;exact .lst h3 h4.pures
  |tup us=>
   simp at e;obtain⟨ts,e1,rfl⟩:=e;obtain⟨vs,h3,h4⟩:=h2;rw[zF e1]at h4;exact .tup h3 h4.pures
  |ins=>simp at e
  |dK=>simp at e
  |dF=>simp at e
  |tab=>simp at e
 |x h=>simp[L2.sn]at e
set_option tactic.hygienic true in
theorem RepUs.sns(w:Wd A ι H M):∀{vs:List V}{us:List U}{ts:List T},RepUs A ι H vs us->sns M us=some ts->Paired (RepV (Av A ι) H) vs ts
 |_,_,ts,.nil,e=>by simp[L2.sns]at e;subst e;exact .nil
 |_,_,ts,.cons r q,e=>by
  simp[L2.sns]at e;split at e
  ·rename_i h1 h2
   simp at e;subst e;exact .cons (r.sn w h1) (RepUs.sns w q h2)
  ·cases e
def OpL(r:R2)(s:T->T->(T->Prop)->Prop):Prop:=∀(A:Addr->Prop)(ι:List Addr)(H:Hp)(M:MM)(x y:V)(a b:T)(Qs:T->Prop)(Q:VK),Wd A ι H M->RepV (Av A ι) H x a->RepV (Av A ι) H y b->s a b Qs ->
 (∀t ae v H',Le ι H ae H'->Wd A ae H' M->RepT (Av A ae) H' v t->Qs t->Q v H')->r x y H Q
def uOp(s:T->T->(T->Prop)->Prop)(ua ub:UE):UE:=λρ M Q=>ua ρ M λx M1=>ub ρ M1 λy M2=>∃a b,sn M2 x=some a/\sn M2 y=some b/\s a b λt=>Q (.p t) M2
def sI(C:Int->Int->Prop)(g:Int->Int->T):T->T->(T->Prop)->Prop:=λa b Q=>∃i j,a=.int i/\b=.int j/\C i j/\Q (g i j)
def sI0(g:Int->Int->T):T->T->(T->Prop)->Prop:=λa b Q=>∃i j,a=.int i/\b=.int j/\Q (g i j)
theorem q8t(hg:∀i j,Sc (gv i j) (g i j)):OpL (rI C gv) (sI C g):=λA ι H M x y a b Qs Q w r1 r2 ⟨i,j,ea,eb,c,q⟩ k=>by
 subst ea eb;exact⟨i,j,r1.int_inv,r2.int_inv,c,k _ ι _ H (.refl _ _) w (hg i j).rep q⟩
theorem zn(hg:∀i j,Sc (gv i j) (g i j)):OpL (rI0 gv) (sI0 g):=λA ι H M x y a b Qs Q w r1 r2 ⟨i,j,ea,eb,q⟩ k=>by
 subst ea eb;exact⟨i,j,r1.int_inv,r2.int_inv,k _ ι _ H (.refl _ _) w (hg i j).rep q⟩
noncomputable def vt:T->Option V
 |.non=>some .non
 |.bl b=>some (.bl b)
 |.int i=>some (.int i)
 |.str x=>some (.str x)
 |_=>none
theorem jA(e:vt t=some x):Sc x t:=by
 cases t<;>simp[vt]at e<;>subst e<;>constructor
theorem RepV.sc{x y:V}(r:RepV A H v t)(e:vt t=some x):v=x:=by
 cases jA e with
 |non=>exact r.non_inv
 |bl=>exact r.bl_inv
 |int=>exact r.int_inv
 |str=>exact r.str_inv
def sEq(neg:Bool):T->T->(T->Prop)->Prop:=λa b Q=>∃x y,vt a=some x/\vt b=some y/\scal x y=true/\Q (.bl (if neg then !decide (x=y) else decide (x=y)))
theorem Wx:OpL rEq (sEq false):=λA ι H M x y a b Qs Q w r1 r2 ⟨x',y',e1,e2,sc,q⟩ k=>by
 cases r1.sc (y:=.non) e1;cases r2.sc (y:=.non) e2;exact⟨sc,k _ ι _ H (.refl _ _) w (.bl _) q⟩
theorem q7I:OpL rNe (sEq true):=λA ι H M x y a b Qs Q w r1 r2 ⟨x',y',e1,e2,sc,q⟩ k=>by
 cases r1.sc (y:=.non) e1;cases r2.sc (y:=.non) e2;exact⟨sc,k _ ι _ H (.refl _ _) w (.bl _) q⟩
noncomputable def vts:List T->Option (List V)
 | []=>some []
 |t::r=>match vt t,vts r with
  |some x,some xs=>some (x::xs)
  |_,_=>none
set_option tactic.hygienic true in
theorem Xb:∀{vs:List V}{ts:List T}{xs:List V},RepTs A H vs ts->vts ts=some xs->vs=xs/\xs.all jQ=true
 |_,_,xs,.nil,e=>by simp[vts]at e;subst e;exact⟨rfl,rfl⟩
 |_,_,xs,.cons r q,e=>by
  simp[vts]at e;split at e
  ·rename_i h1 h2
   simp at e;subst e;obtain⟨z1,z2⟩:=Xb q h2;subst z1;cases(RepV.of r).sc (y:=.non) h1;refine⟨rfl,?_⟩;rw[Bi,z2];cases jA h1<;>rfl
  ·cases e
noncomputable def seqT:T->Option (List T)
 |.lst ts=>some ts
 |.tup ts=>some ts
 |_=>none
def sIn(neg:Bool):T->T->(T->Prop)->Prop:=λa b Q=>∃x ts ys,vt a=some x/\seqT b=some ts/\vts ts=some ys/\Q (.bl (if neg then !inV x ys else inV x ys))
theorem q6X:OpL (rIn Ξ neg) (sIn neg):=λA ι H M x y a b Qs Q w r1 r2 ⟨x',ts,ys,e1,e2,e3,q⟩ k=>by
 cases r1.sc (y:=.non) e1;have hf:jQ x=true:=by cases jA e1<;>rfl
 cases b<;>simp[seqT]at e2
 ·subst e2
  obtain⟨p,vs,rfl,h,r⟩:=r2.tup_inv;obtain⟨rfl,z⟩:=Xb r e3;exact⟨p,vs,rfl,.inr (SqT.of h),hf,z,k _ ι _ H (.refl _ _) w (.bl _) q⟩
 ·subst e2
  obtain⟨p,vs,rfl,h,r⟩:=r2.lst_inv;obtain⟨rfl,z⟩:=Xb r e3;exact⟨p,vs,rfl,.inl (SqL.of h),hf,z,k _ ι _ H (.refl _ _) w (.bl _) q⟩
theorem zH(w:Wd A ι H M)(h:H p=none)(r:RepTs (Av A ι) H vs ts):RepT (Av A ι) (upd H p (.lst vs)) (.ref p) (.lst ts):=
 .lstP (w.nA h) upd_same (Paired.mapP r λ_ _ q=>q.le (.fresh h))
theorem kQ(w:Wd A ι H M)(h:H p=none)(r:RepTs (Av A ι) H vs ts):RepT (Av A ι) (upd H p (.tup vs)) (.ref p) (.tup ts):=
 .tupP (w.nA h) upd_same (Paired.mapP r λ_ _ q=>q.le (.fresh h))
def sCat:T->T->(T->Prop)->Prop:=λa b Q=>∃xs ys,a=.lst xs/\b=.lst ys/\xs.length+ys.length<=sizeLine/\Q (.lst (xs++ys))
theorem Wy:OpL rCat sCat:=λA ι H M x y a b Qs Q w r1 r2 ⟨xs,ys,ea,eb,hz,q⟩ k=>by
 subst ea eb;obtain⟨p,vs,rfl,h1,q1⟩:=r1.lst_inv;obtain⟨p2,cB,rfl,h2,q2⟩:=r2.lst_inv;exact⟨p,p2,vs,cB,rfl,rfl,h1,h2,by rw[q1.len,q2.len];exact hz,λp hp=>k _ ι _ _ (.fresh hp) (w.fresh hp) (zH w hp (q1.app q2)) q⟩
theorem jn{α β:Type}{F:α->β->Prop}{l:List α}{m:List β}(h:Paired F l m):∀n:Nat,Paired F (List.replicate n l).flatten (List.replicate n m).flatten
 |0=>.nil
 |n+1=>by exact h.app (jn h n)
noncomputable def XN:U->Bool
 |.p .non=>true
 |_=>false
theorem Zu(r:RepU A ι H v u):decide (v=.non)=XN u:=by
 cases r with
 |p r=>cases r<;>simp[XN]
 |m e=>simp[XN]
 |x h=>simp[XN]
def uIsN(neg:Bool)(ua:UE):UE:=λρ M Q=>ua ρ M λx M1=>Q (.p (.bl (if neg then !XN x else XN x))) M1
def uNeg(ua:UE):UE:=λρ M Q=>ua ρ M λx M1=>∃i,x=.p (.int i)/\Q (.p (.int (-i))) M1
def uB(ua:UE):UT:=λρ M Q=>ua ρ M λx M1=>∃b,x=.p (.bl b)/\Q b M1
theorem lt_b(ha:LE ta ua):LT (tB ta) (uB ua):=λA ι σ H ρ M Qu Q w e q k=>
 ha A ι σ H ρ M _ _ w e q λx M1 a6 v H1 l1 w1 r1 zz=>by
  obtain⟨b,ex,q1⟩:=zz;subst ex;cases r1 with
  |p r=>cases r;exact⟨b,rfl,k b M1 a6 H1 l1 w1 q1⟩
noncomputable def truU(M:MM):U->Option Bool
 |.p .non=>some false
 |.p (.bl b)=>some b
 |.p (.int i)=>some (i != 0)
 |.p (.lst ts)=>some (!ts.isEmpty)
 |.p (.tup ts)=>some (!ts.isEmpty)
 |.m k=>match M[k]? with
  |some (.lst us)=>some (!us.isEmpty)
  |some (.tup us)=>some (!us.isEmpty)
  |some (.dK us)=>some (!us.isEmpty)
  |_=>none
 |_=>none
theorem q48(w:Wd A ι H M)(r:RepU A ι H v u)(e:truU M u=some b):TruV Ξ v H b:=by
 cases r with
 |p r=>
  cases r with
  |non=>simp[truU]at e;subst e;rfl
  |bl=>simp[truU]at e;subst e;rfl
  |int=>simp[truU]at e;subst e;rfl
  |str=>simp[truU]at e
  |tup na e1 l r=>simp only[truU,Option.some.injEq]at e;subst e;exact .inr (.inl ⟨_,SqT.of e1,by rw[(Paired.of_get l r).empt]⟩)
  |lst na e1 l r=>simp only[truU,Option.some.injEq]at e;subst e;exact .inl ⟨_,SqL.of e1,by rw[(Paired.of_get l r).empt]⟩
 |m q=>
  obtain⟨o,h1,h2⟩:=w.al q;simp[truU,h1]at e;cases o with
  |lst us=>simp only[Option.some.injEq]at e;subst e;obtain⟨vs,h3,h4⟩:=h2;exact .inl ⟨_,SqL.of h3,by rw[h4.empt]⟩
  |tup us=>simp only[Option.some.injEq]at e;subst e;obtain⟨vs,h3,h4⟩:=h2;exact .inr (.inl ⟨_,SqT.of h3,by rw[h4.empt]⟩)
  |ins=>simp at e
  |dK us=>simp only[Option.some.injEq]at e;subst e;obtain⟨vs,h3,h4⟩:=h2;exact .inr (.inr ⟨_,h3,by rw[h4.empt]⟩)
  |dF=>simp at e
  |tab=>simp at e
 |x h=>simp[truU]at e
def uTru(ua:UE):UT:=λρ M Q=>ua ρ M λx M1=>∃b,truU M1 x=some b/\Q b M1
def uAnd(t s:UT):UT:=λρ M Q=>t ρ M λc M1=>if c=true then s ρ M1 Q else Q false M1
def uOr(t s:UT):UT:=λρ M Q=>t ρ M λc M1=>if c=true then Q true M1 else s ρ M1 Q
def uNot(t:UT):UT:=λρ M Q=>t ρ M λc M1=>Q (!c) M1
def uIf(t:UT)(ua ub:UE):UE:=λρ M Q=>t ρ M λc M1=>if c=true then ua ρ M1 Q else ub ρ M1 Q
def Jk(s s':T->T->(T->Prop)->Prop)(ua ub uc:UE):UE:=λρ M Q=>ua ρ M λx M1=>ub ρ M1 λy M2=>∃a b,sn M2 x=some a/\sn M2 y=some b/\s a b λz=>∃k,z=.bl k /\
 if k=true then uc ρ M2 λc M3=>∃b' c',sn M3 y=some b'/\sn M3 c=some c'/\s' b' c' λt=>Q (.p t) M3 else Q (.p (.bl false)) M2
def uTup(ul:UA):UE:=λρ M Q=>ul ρ M λus M1=>∃ts,vU us=some ts/\Q (.p (.tup ts)) M1
def uLst(ul:UA):UE:=λρ M Q=>ul ρ M λus M1=>∃ts,vU us=some ts/\Q (.p (.lst ts)) M1
def uNew(ul:UA):UE:=λρ M Q=>ul ρ M λus M1=>Q (.m M1.length) (M1++[.lst us])
def q6R(ul:UA):UE:=λρ M Q=>ul ρ M λus M1=>Q (.m M1.length) (M1++[.tup us])
theorem xq{α:Type}{l:List α}{x:α}:(l++[x])[l.length]?=some x:=by rw[Dp (Dk _),Rq];rfl
theorem zJ(w:Wd A ι H M)(h:H p=none)(r:RepUs A ι H vs us):Wd A (ι++[p]) (upd H p (.lst vs)) (M++[.lst us])/\RepU A (ι++[p]) (upd H p (.lst vs)) (.ref p) (.m M.length):=
 ⟨w.push h ⟨vs,upd_same,r.le (.push h)⟩,.m (by rw[<-w.len];exact xq)⟩
theorem W3(w:Wd A ι H M)(h:H p=none)(r:RepUs A ι H vs us):Wd A (ι++[p]) (upd H p (.tup vs)) (M++[.tup us])/\RepU A (ι++[p]) (upd H p (.tup vs)) (.ref p) (.m M.length):=
 ⟨w.push h ⟨vs,upd_same,r.le (.push h)⟩,.m (by rw[<-w.len];exact xq)⟩
noncomputable def qB(M:MM):U->Option (List U)
 |.p (.lst ts)=>some (ts.map .p)
 |.m k=>match M[k]? with
  |some (.lst us)=>some us
  |_=>none
 |_=>none
noncomputable def vI(M:MM):U->Option (List U)
 |.p (.tup ts)=>some (ts.map .p)
 |.m k=>match M[k]? with
  |some (.tup us)=>some us
  |_=>none
 |_=>none
theorem vA(w:Wd A ι H M)(r:RepU A ι H v u)(e:qB M u=some us):∃p vs,v=.ref p/\H p=some (.lst vs)/\RepUs A ι H vs us:=by
 cases r with
 |p r=>
  cases r with
  |lst na e1 l r=>simp[qB]at e;subst e;exact⟨_,_,rfl,e1,RepTs.ups (Paired.of_get l r)⟩
  |_=>simp[qB]at e
 |m q=>
  obtain⟨o,h1,h2⟩:=w.al q;simp[qB,h1]at e;cases o with
  |lst us=>simp at e;obtain⟨vs,h3,h4⟩:=h2;grind
  |_=>simp at e
 |x h=>simp[qB]at e
theorem zk(w:Wd A ι H M)(r:RepU A ι H v u)(e:vI M u=some us):∃p vs,v=.ref p/\H p=some (.tup vs)/\RepUs A ι H vs us:=by
 cases r with
 |p r=>
  cases r with
  |tup na e1 l r=>simp[vI]at e;subst e;exact⟨_,_,rfl,e1,RepTs.ups (Paired.of_get l r)⟩
  |_=>simp[vI]at e
 |m q=>
  obtain⟨o,h1,h2⟩:=w.al q;simp[vI,h1]at e;cases o with
  |tup us=>simp at e;obtain⟨vs,h3,h4⟩:=h2;grind
  |_=>simp at e
 |x h=>simp[vI]at e
theorem X8(r:RepUs A ι H vs us)(e:atI us i=some z):∃x,atI vs i=some x/\RepU A ι H x z:=by
 unfold atI at e ⊢;rw[r.len];cases q:ixN us.length i with
 |none=>rw[q]at e;cases e
 |some j=>
  rw[q]at e;exact Paired.getR r e
def uIx(it:MM->U->Option (List U))(ua ub:UE):UE:=λρ M Q=>ua ρ M λx M1=>ub ρ M1 λy M2=>∃us i z,it M2 x=some us/\y=.p (.int i)/\atI us i=some z/\Q z M2
def CbL(r:List V->Hp->VK->Prop)(s:List T->(T->Prop)->Prop):Prop:=∀(A:Addr->Prop)(ι:List Addr)(H:Hp)(M:MM)(vs:List V)(ts:List T)(Qs:T->Prop)(Q:VK),Wd A ι H M->Paired (RepV (Av A ι) H) vs ts->s ts Qs ->
 (∀t ae v H',Le ι H ae H'->Wd A ae H' M->RepT (Av A ae) H' v t->Qs t->Q v H')->r vs H Q
def uCb(s:List T->(T->Prop)->Prop)(ul:UA):UE:=λρ M Q=>ul ρ M λus M1=>∃ts,sns M1 us=some ts/\s ts λt=>Q (.p t) M1
theorem pv1(r:Paired (RepV A H) vs [t]):∃v,vs=[v]/\RepV A H v t:=by
 cases r with
 |cons r q=>cases q;exact⟨_,rfl,r⟩
theorem pv2(r:Paired (RepV A H) vs [t,s]):∃v z,vs=[v,z]/\RepV A H v t/\RepV A H z s:=by
 cases r with
 |cons r q=>
  obtain⟨v,rfl,r2⟩:=pv1 q;exact⟨_,_,rfl,r,r2⟩
def sAbs:List T->(T->Prop)->Prop:=λts Q=>∃i,ts=[.int i]/\Q (.int (if i<0 then -i else i))
theorem qat:CbL (λxs H Q=>∃i,xs=[.int i]/\Q (.int (if i<0 then -i else i)) H) sAbs:=λA ι H M vs ts Qs Q w r ⟨i,e,q⟩ k=>by
 subst e;obtain⟨v,ev,r1⟩:=pv1 r;subst ev;cases r1.int_inv;exact⟨i,rfl,k _ ι _ H (.refl _ _) w (.int _) q⟩
def sMin:List T->(T->Prop)->Prop:=λts Q=>∃i j,ts=[.int i,.int j]/\Q (.int (if j<i then j else i))
theorem q4t:CbL (λxs H Q=>∃i j,xs=[.int i,.int j]/\Q (.int (if j<i then j else i)) H) sMin:=λA ι H M vs ts Qs Q w r ⟨i,j,e,q⟩ k=>by
 subst e;obtain⟨v,z,ev,r1,r2⟩:=pv2 r;subst ev;cases r1.int_inv;cases r2.int_inv;exact⟨i,j,rfl,k _ ι _ H (.refl _ _) w (.int _) q⟩
def sInt:List T->(T->Prop)->Prop:=λts Q=>(∃i,ts=[.int i]/\Q (.int i))\/∃k,ts=[.bl k]/\Q (.int (if k then 1 else 0))
theorem X7:CbL (λxs H Q=>(∃i,xs=[.int i]/\Q (.int i) H)\/∃k,xs=[.bl k]/\Q (.int (if k then 1 else 0)) H) sInt:=λA ι H M vs ts Qs Q w r h k=>by
 rcases h with⟨i,e,q⟩|⟨b,e,q⟩
 ·subst e
  obtain⟨v,ev,r1⟩:=pv1 r;subst ev;cases r1.int_inv;exact .inl ⟨i,rfl,k _ ι _ H (.refl _ _) w (.int _) q⟩
 ·subst e
  obtain⟨v,ev,r1⟩:=pv1 r;subst ev;cases r1.bl_inv;exact .inr ⟨b,rfl,k _ ι _ H (.refl _ _) w (.int _) q⟩
noncomputable def bls:List T->Option (List Bool)
 | []=>some []
 |.bl b::r=>(bls r).map (b :: ·)
 |_=>none
@[simp] theorem bls_map:∀bs:List Bool,bls (bs.map T.bl)=some bs
 | []=>rfl
 |b::r=>by simp[bls,bls_map r]
def q3U:List T->(T->Prop)->Prop:=λts Q=>∃a xs,ts=[a]/\seqT a=some xs/\Q (.lst xs)
theorem q0n:CbL (λxs H Q=>∃p ys,xs=[.ref p]/\(SqL Ξ H p ys\/SqT Ξ H p ys)/\∀l,H l=none->Q (.ref l) (upd H l (.lst ys))) q3U:=λA ι H M vs ts Qs Q w r ⟨a,xs,e,ea,q⟩ k=>by
 subst e;obtain⟨v,ev,r1⟩:=pv1 r;subst ev;cases a<;>simp[seqT]at ea
 ·subst ea
  obtain⟨p,zs,rfl,h1,h2⟩:=r1.tup_inv;exact⟨p,zs,rfl,.inr (SqT.of h1),λl hl=>k _ ι _ _ (.fresh hl) (w.fresh hl) (zH w hl h2) q⟩
 ·subst ea
  obtain⟨p,zs,rfl,h1,h2⟩:=r1.lst_inv;exact⟨p,zs,rfl,.inl (SqL.of h1),λl hl=>k _ ι _ _ (.fresh hl) (w.fresh hl) (zH w hl h2) q⟩
def uLen(it:MM->U->Option (List U))(ul:UA):UE:=λρ M Q=>ul ρ M λus M1=>∃x ys,us=[x]/\it M1 x=some ys/\Q (.p (.int ys.length)) M1
def q7M(ua:UE):UE:=λρ M Q=>ua ρ M λx M1=>∃i,x=.p (.int i)/\Q (.p (.int (Builtin.Int.intBits i))) M1
noncomputable def cutT(xs:List T)(lo hi:Option Int):List T:=(xs.drop (HT.sIx xs.length 0 lo)).take (HT.sIx xs.length xs.length hi-HT.sIx xs.length 0 lo)
theorem qab{lo hi:Option Int}(r:RepTs A H vs ts):RepTs A H (cutV vs lo hi) (cutT ts lo hi):=by
 unfold cutV cutT;rw[r.len];exact(r.dr _).tk _
abbrev UO:=UEnv->MM->(Option Int->MM->Prop)->Prop
def LO(to:TO)(uo:UO):Prop:=∀(A:Addr->Prop)(ι:List Addr)(σ:St)(H:Hp)(ρ:UEnv)(M:MM)(Qu:Option Int->MM->Prop)(Q:Option Int->Hp->Prop),Wd A ι H M->EnvR A ι H σ ρ->uo ρ M Qu ->
 (∀b M' ae H',Le ι H ae H'->Wd A ae H' M'->Qu b M'->Q b H')->to σ H Q
def j7:UO:=λ_ M Q=>Q none M
def Yj(ua:UE):UO:=λρ M Q=>ua ρ M λx M1=>∃i,x=.p (.int i)/\Q (some i) M1
def uSl(ua:UE)(ul uh:UO):UE:=λρ M Q=>ua ρ M λx M1=>ul ρ M1 λl M2=>uh ρ M2 λh M3=>∃ts,sn M3 x=some (.lst ts)/\Q (.p (.lst (cutT ts l h))) M3
end
section
variable {te ta tb:TE}{ue ua ub:UE}{tt:TT}{ut:UT}{tl:TA}{ul:UA}{n:Nat}{A A' A2:Addr->Prop}{H H' H1 H2:Hp}{ι ae a6 a9:List Addr}{M M':MM}{v:V}{u:U}{t:T}{σ:St}{ρ:UEnv}{Ξ:PySem.W.Frag}
structure Lea(A:Addr->Prop)(ι:List Addr)(H:Hp)(A':Addr->Prop)(ae:List Addr)(H':Hp):Prop where
 ext:∃n,ae=ι++n
 av:∀x o,¬Av A ι x->H x=some o->H' x=some o/\¬Av A' ae x
 xd:∀x fs,x∉ι->H x=some (.xd fs)->x∉ae/\H' x=some (.xd fs)
theorem Le.xd(l:Le ι H ae H'):∀x fs,x∉ι->H x=some (.xd fs)->x∉ae/\H' x=some (.xd fs):=λx fs hx e=>by
 obtain⟨m,rfl,hm⟩:=l.ext;refine⟨λz=>?_,l.fr x _ e hx⟩;rcases Dr.mp z with z|z
 ·exact hx z
 ·rw[hm x z]at e;cases e
theorem Le.lea(l:Le ι H ae H'):Lea A ι H A ae H':=⟨let⟨n,e,_⟩:=l.ext;⟨n,e⟩,λ_ _ h e=>l.av h e,l.xd⟩
theorem Lea.trans(a:Lea A ι H A' ae H')(b:Lea A' ae H' A2 a9 H2):Lea A ι H A2 a9 H2:=by
 obtain⟨n,rfl⟩:=a.ext;obtain⟨m,rfl⟩:=b.ext;exact⟨⟨n++m,by rw[DC]⟩,λx o h e=>b.av x o (a.av x o h e).2 (a.av x o h e).1,λx fs h e=>b.xd x fs (a.xd x fs h e).1 (a.xd x fs h e).2⟩
theorem RepU.lea(l:Lea A ι H A' ae H')(r:RepU A ι H v u):RepU A' ae H' v u:=by
 cases r with
 |p r=>exact .p (r.mono l.av)
 |m e=>
  obtain⟨n,rfl⟩:=l.ext;exact .m (by rw[De (Dc.mp e).1];exact e)
 | @x a d q h=>
  refine .x ?_;cases q with
  |none=>exact h
  |some n=>
   obtain⟨x0,e,ni,hx⟩:=h;have:=l.xd x0 _ ni hx;exact⟨x0,e,this.1,this.2⟩
theorem EnvR.lea(l:Lea A ι H A' ae H')(r:EnvR A ι H σ ρ):EnvR A' ae H' σ ρ:=Paired.mapP r λ_ _ q u e=>by
 obtain⟨v,h1,h2⟩:=q u e;exact⟨v,h1,h2.lea l⟩
structure UIt where
 n:Nat
 ok:MM->Prop
 item:Nat->U->Prop
def ItR(A:Addr->Prop)(a6:List Addr)(H1:Hp)(J:It)(it:UIt):Prop:=∀(A':Addr->Prop)(ι:List Addr)(H:Hp)(M:MM)(i:Nat),Lea A a6 H1 A' ι H->Wd A' ι H M->it.ok M ->
 (i<it.n->J.go i H/\∀x H',J.yld i H x H'->∃u,it.item i u/\Le ι H ι H'/\Wd A' ι H' M/\RepU A' ι H' x u)/\(i=it.n->J.stop i H)
abbrev UI:=UEnv->MM->(UIt->MM->Prop)->Prop
def LI(wi:TI)(ui:UI):Prop:=∀(A:Addr->Prop)(ι:List Addr)(σ:St)(H:Hp)(ρ:UEnv)(M:MM)(Qu:UIt->MM->Prop)(R:It->Hp->Prop),Wd A ι H M->EnvR A ι H σ ρ->ui ρ M Qu ->
 (∀it M' ae J H',Le ι H ae H'->Wd A ae H' M'->ItR A ae H' J it->Qu it M'->R J H')->wi σ H R
def q5C(ua:UE):UI:=λρ M Q=>ua ρ M λx M1=>∃us,qB M1 x=some us/\Q ⟨us.length,λM=>qB M x=some us,λi z=>us[i]?=some z⟩ M1
def uRev(ul:UA):UI:=λρ M Q=>ul ρ M λxs M1=>∃x us,xs=[x]/\qB M1 x=some us/\Q ⟨us.length,λM=>qB M x=some us,λi z=>us[us.length-1-i]?=some z⟩ M1
def q6f(ul:UA):UI:=λρ M Q=>ul ρ M λxs M1=>∃j:Int,xs=[.p (.int j)] /\ -(2^62)<=j/\j<2^62/\Q ⟨j.toNat,λ_=>True,λi z=>z=.p (.int i)⟩ M1
theorem q5T{lo:Int}:ItR A ι H (Itr lo n) ⟨n,λ_=>True,λi z=>z=.p (.int (lo+i))⟩:=λA' a9 H2 M2 i l w2 _=>
 ⟨λhi=>⟨hi,λx H' y=>by
  obtain⟨rfl,rfl⟩:=y;exact⟨_,rfl,.refl _ _,w2,.p (.int _)⟩⟩,λhi=>R3 hi.symm⟩
abbrev UG:=U->UEnv->MM->(UEnv->MM->Prop)->Prop
def LG(g:TG)(ug:UG):Prop:=∀(A:Addr->Prop)(ι:List Addr)(σ:St)(H:Hp)(ρ:UEnv)(M:MM)(v:V)(u:U)(Qu:UEnv->MM->Prop)(Q:St->Hp->Prop),Wd A ι H M->EnvR A ι H σ ρ->RepU A ι H v u->ug u ρ M Qu ->
 (∀bS M' ae ah H',Le ι H ae H'->Wd A ae H' M'->EnvR A ae H' ah bS->Qu bS M'->Q ah H')->g v σ H Q
def Kq(i:Nat):UG:=λu ρ M Q=>Q (ρ.set i (some u)) M
def Yk(i j:Nat):UG:=λu ρ M Q=>∃a b,vI M u=some [a,b]/\Q ((ρ.set i (some a)).set j (some b)) M
def Qc(i j k:Nat):UG:=λu ρ M Q=>∃a b c,vI M u=some [a,b,c]/\Q (((ρ.set i (some a)).set j (some b)).set k (some c)) M
theorem rep2(r:RepUs A ι H vs [a,b]):∃x y,vs=[x,y]/\RepU A ι H x a/\RepU A ι H y b:=by
 cases r with
 |cons r q=>cases q with|cons r2 q=>cases q;exact⟨_,_,rfl,r,r2⟩
theorem rep3(r:RepUs A ι H vs [a,b,c]):∃x y z,vs=[x,y,z]/\RepU A ι H x a/\RepU A ι H y b/\RepU A ι H z c:=by
 cases r with
 |cons r q=>
  obtain⟨y,z,rfl,r2,r3⟩:=rep2 q;exact⟨_,_,_,rfl,r,r2,r3⟩
def uSub(uo ui:UE):UG:=λu ρ M Q=>uo ρ M λo M1=>ui ρ M1 λi M2=>∃k us z j,o=.m k/\M2[k]?=some (.lst us)/\i=.p (.int z)/\ixN us.length z=some j/\Q ρ (M2.set k (.lst (us.set j u)))
noncomputable def zw(bs:List Bool)(n i:Nat):Bool:=match bs[i]? with
 |some b=> !b
 |none=>decide (i<bs.length+n)
theorem v7(hl:σ.length=bs.length)(h:zw bs n i=true):(zE bs n σ)[i]?=some none:=by
 unfold zw at h;unfold zE;have hz:((bs.zip σ).map (λp=>if p.1 then p.2 else none)).length=bs.length:=by simp[hl]
 cases e:bs[i]? with
 |some b=>
  rw[e]at h;have hi:=(Dc.mp e).1;rw[De (by rw[hz];exact hi),Dy];have hb:b=false:=by simpa using h
  have e2:(bs.zip σ)[i]?=some (b,σ[i]'(by lia)):=by
   rw[Df (by simp[hl];exact hi)];simp;exact(Dc.mp e).2
  rw[e2,hb];rfl
 |none=>
  rw[e]at h;have hi:=List.getElem?_eq_none_iff.mp e;simp at h;rw[Dp (by rw[hz];exact hi),hz,RC];rw[Ul (by lia)]
def LGx(bs:List Bool)(n:Nat)(g:TG)(ug:UG):Prop:=∀(A:Addr->Prop)(ι:List Addr)(σ:St)(H:Hp)(ρ:UEnv)(M:MM)(v:V)(u:U)(Qu:UEnv->MM->Prop)(Q:St->Hp->Prop),σ.length=bs.length->Wd A ι H M->EnvR A ι H (zE bs n σ) ρ->RepU A ι H v u->ug u ρ M Qu ->
 (∀bS ah,EnvR A ι H ah bS->ExtS (zE bs n σ) ah->ah.length=(zE bs n σ).length->Qu bS M->Q ah H)->g v (zE bs n σ) H Q
def UComp(it:UIt)(ug:UG)(ut:UT)(ue:UE)(dQ:UEnv)(M1:MM)(Q:UK):Prop:=it.n<=sizeLine/\∃Iv:Nat->List T->MM->Prop,Iv 0 [] M1 /\
 (∀i a7 M2,i<it.n->a7.length<=i->Iv i a7 M2->it.ok M2/\∀u,it.item i u->ug u dQ M2 λbB M4=>ut bB M4 λb M5=>if b=true then ue bB M5 λz M6=>∃t,z=.p t/\Iv (i+1) (a7++[t]) M6 else Iv (i+1) a7 M5) /\
 (∀a7 M2,Iv it.n a7 M2->it.ok M2/\Q (.p (.lst a7)) M2)
def q5O(ui:UI)(bs:List Bool)(n:Nat)(ug:UG)(ut:UT)(ue:UE):UE:=λρ M Q=>ui ρ M λit M1=>ρ.length=bs.length/\UComp it ug ut ue (KW bs n ρ) M1 Q
theorem Wd.addA(w:Wd A ι H M)(h:H p=none):Wd (λx=>A x\/x=p) ι (upd H p o) M:=by
 have w2:=w.fresh (o:=o) h;have hm:∀x o',¬Av A ι x->(upd H p o) x=some o'->H x≠none->(upd H p o) x=some o'/\¬Av (λx=>A x\/x=p) ι x:=λx o' hx e hs=>⟨e,λz=>by
  rcases z with(z|z)|z
  ·exact hx (.inl z)
  ·subst z;exact hs h
  ·exact hx (.inr z)⟩
 have hl:Lea A ι H _ ι _:=⟨⟨[],by simp⟩,λx o' hx e=>hm x o' hx (zS h e) (by rw[e];simp),λx fs hx e=>⟨hx,zS h e⟩⟩;refine⟨w.nd,w.len,λx hx=>?_,λx hx z=>?_,λk a ob e1 e2=>?_⟩
 ·rcases hx with hx|hx
  ·exact w2.dom x hx
  ·rw[hx,upd_same];simp
 ·rcases z with z|z
  ·exact w.na x hx z
  ·exact w.nin h (by rw[<-z];exact hx)
 ·have r:=w.obj k a ob e1 e2
  have ea:upd H p o a=H a:=upd_ne λz=>by
   obtain⟨q,hq⟩:=r.some
   lia
  cases ob with
  |lst=>obtain⟨vs,e,r⟩:=r;exact⟨vs,by rw[ea];exact e,Paired.mapP r λ_ _ q=>q.lea hl⟩
  |tup=>obtain⟨vs,e,r⟩:=r;exact⟨vs,by rw[ea];exact e,Paired.mapP r λ_ _ q=>q.lea hl⟩
  |ins=>
   obtain⟨dx,gs,e,ed,nd,r⟩:=r;exact⟨dx,gs,by rw[ea];exact e,zS h ed,nd,Paired.mapP r λ_ _ q=>⟨q.1,q.2.lea hl⟩⟩
  |dK=>obtain⟨gs,e,r⟩:=r;exact⟨gs,by rw[ea];exact e,Paired.mapP r λ_ _ q=>⟨q.1,q.2.lea hl⟩⟩
  |dF=>obtain⟨e,r⟩:=r;exact⟨by rw[ea];exact e,Paired.mapP r λ_ _ q=>⟨q.1,q.2.lea hl⟩⟩
  |tab=>obtain⟨ps,e,t,z⟩:=r;exact⟨ps,by rw[ea];exact e,t,z.imp id λ⟨c,h1,h2,h3⟩=>⟨c,h1,zS h h2,h3⟩⟩
theorem Wd.lessA(w:Wd A' ι H M)(h:∀x,A x->A' x):Wd A ι H M:=by
 have hl:Lea A' ι H A ι H:=⟨⟨[],by simp⟩,λx o hx e=>⟨e,λz=>hx (z.elim (λz=>.inl (h x z)) .inr)⟩,λx fs hx e=>⟨hx,e⟩⟩;refine⟨w.nd,w.len,λx hx=>w.dom x (h x hx),λx hx z=>w.na x hx (h x z),λk a ob e1 e2=>?_⟩;have r:=w.obj k a ob e1 e2;cases ob with
 |lst=>obtain⟨vs,e,r⟩:=r;exact⟨vs,e,Paired.mapP r λ_ _ q=>q.lea hl⟩
 |tup=>obtain⟨vs,e,r⟩:=r;exact⟨vs,e,Paired.mapP r λ_ _ q=>q.lea hl⟩
 |ins=>obtain⟨dx,gs,e,ed,nd,r⟩:=r;exact⟨dx,gs,e,ed,nd,Paired.mapP r λ_ _ q=>⟨q.1,q.2.lea hl⟩⟩
 |dK=>obtain⟨gs,e,r⟩:=r;exact⟨gs,e,Paired.mapP r λ_ _ q=>⟨q.1,q.2.lea hl⟩⟩
 |dF=>obtain⟨e,r⟩:=r;exact⟨e,Paired.mapP r λ_ _ q=>⟨q.1,q.2.lea hl⟩⟩
 |tab=>exact r
theorem Wd.updA(w:Wd A ι H M)(ha:A p)(hp:H p=some (.lst ys)):Lea A ι H A ι (upd H p o)/\Wd A ι (upd H p o) M:=by
 have hl:Lea A ι H A ι (upd H p o):=⟨⟨[],by simp⟩,λx o' hx e=>⟨by rw[upd_ne λz=>hx (.inl (by lia))];exact e,hx⟩,λx fs hx e=>⟨hx,by rw[upd_ne λz=>by rw[z,hp]at e;cases e];exact e⟩⟩;refine⟨hl,w.nd,w.len,λx hx=>?_,w.na,λk a ob e1 e2=>?_⟩
 ·by_cases z:x=p
  ·rw[z,upd_same];simp
  ·rw[upd_ne z];exact w.dom x hx
 ·have r:=w.obj k a ob e1 e2
  have ea:upd H p o a=H a:=upd_ne λz=>w.na a (Dh e1) (by lia);cases ob with
  |lst=>obtain⟨vs,e,r⟩:=r;exact⟨vs,by rw[ea];exact e,Paired.mapP r λ_ _ q=>q.lea hl⟩
  |tup=>obtain⟨vs,e,r⟩:=r;exact⟨vs,by rw[ea];exact e,Paired.mapP r λ_ _ q=>q.lea hl⟩
  |ins=>
   obtain⟨dx,gs,e,ed,nd,r⟩:=r;exact⟨dx,gs,by rw[ea];exact e,by rw[upd_ne λz=>by rw[z,hp]at ed;lia];exact ed,nd,Paired.mapP r λ_ _ q=>⟨q.1,q.2.lea hl⟩⟩
  |dK=>obtain⟨gs,e,r⟩:=r;exact⟨gs,by rw[ea];exact e,Paired.mapP r λ_ _ q=>⟨q.1,q.2.lea hl⟩⟩
  |dF=>obtain⟨e,r⟩:=r;exact⟨by rw[ea];exact e,Paired.mapP r λ_ _ q=>⟨q.1,q.2.lea hl⟩⟩
  |tab=>obtain⟨ps,e,t,z⟩:=r;exact⟨ps,by rw[ea];exact e,t,z.imp id λ⟨c,h1,h2,h3⟩=>⟨c,h1,by rw[upd_ne λz=>by rw[z,hp]at h2;cases h2];exact h2,h3⟩⟩
theorem Le.updF(l:Le ι H ae H')(h:H p=none):Le ι H ae (upd H' p o):=⟨l.ext,λx o' e n=>by rw[upd_ne (qU e h)];exact l.fr x o' e n,λx e=>by
 by_cases z:x=p
 ·rw[z,upd_same];simp
 ·rw[upd_ne z];exact l.al x e⟩
end
section
variable {ta:TE}{ua ub uc:UE}{tt:TT}{ut:UT}{tl:TA}{ul:UA}{n:Nat}{A:Addr->Prop}{H H' H1 H2:Hp}{ι ae a6 a9:List Addr}{M M':MM}{v:V}{u:U}{t:T}{σ:St}{ρ:UEnv}
structure q07 where
 nx:UEnv->MM->Prop
 rt:UK
 bk:UEnv->MM->Prop:=λ_ _=>False
 ct:UEnv->MM->Prop:=λ_ _=>False
abbrev US:=q07->UEnv->MM->Prop
structure EndsR(A:Addr->Prop)(gB:List Addr)(H0:Hp)(E:q07)(D:Ends):Prop where
 nx:∀ι σ H ρ M,Le gB H0 ι H->Wd A ι H M->EnvR A ι H σ ρ->E.nx ρ M->D.nx σ H
 rt:∀ι v H u M,Le gB H0 ι H->Wd A ι H M->RepU A ι H v u->E.rt u M->D.rt v H
 bk:∀ι σ H ρ M,Le gB H0 ι H->Wd A ι H M->EnvR A ι H σ ρ->E.bk ρ M->D.bk σ H
 ct:∀ι σ H ρ M,Le gB H0 ι H->Wd A ι H M->EnvR A ι H σ ρ->E.ct ρ M->D.ct σ H
theorem EndsR.le(l:Le ι H ae H')(r:EndsR A ι H E D):EndsR A ae H' E D :=
 ⟨λ_ _ _ _ _ h=>r.nx _ _ _ _ _ (l.trans h),λ_ _ _ _ _ h=>r.rt _ _ _ _ _ (l.trans h),λ_ _ _ _ _ h=>r.bk _ _ _ _ _ (l.trans h),λ_ _ _ _ _ h=>r.ct _ _ _ _ _ (l.trans h)⟩
def LS(ts:TS)(us:US):Prop:=∀(A:Addr->Prop)(ι:List Addr)(σ:St)(H:Hp)(ρ:UEnv)(M:MM)(D:Ends)(E:q07),Wd A ι H M->EnvR A ι H σ ρ->EndsR A ι H E D->us E ρ M->ts D σ H
def Kp:US:=λE ρ M=>E.nx ρ M
def uSeq(a b:US):US:=λE ρ M=>a { E with nx:=b E } ρ M
def q7O(ua:UE):US:=λE ρ M=>ua ρ M λ_ M1=>E.nx ρ M1
def uRet(ua:UE):US:=λE ρ M=>ua ρ M E.rt
def q7D:US:=λE ρ M=>E.rt (.p .non) M
def uIfS(c:UT)(a b:US):US:=λE ρ M=>c ρ M λk M1=>if k=true then a E ρ M1 else b E ρ M1
def uAsg(ua:UE)(g:UG):US:=λE ρ M=>ua ρ M λx M1=>g x ρ M1 E.nx
def uAug(i:Nat)(f:Int->Int->Int)(ua:UE):US:=λE ρ M=>∃a,ρ[i]?=some (some (.p (.int a)))/\ua ρ M λy M1=>∃b,y=.p (.int b)/\E.nx (ρ.set i (some (.p (.int (f a b))))) M1
def UFor(it:UIt)(ug:UG)(ub:US)(E:q07)(ρ:UEnv)(M1:MM):Prop:=∃Iv:Nat->UEnv->MM->Prop,Iv 0 ρ M1 /\
 (∀i ar M2,i<it.n->Iv i ar M2->it.ok M2/\∀u,it.item i u->ug u ar M2 λeI M3=>ub { E with nx:=Iv (i+1),ct:=Iv (i+1),bk:=E.nx } eI M3) /\
 (∀ar M2,Iv it.n ar M2->it.ok M2/\E.nx ar M2)
def uFor(ui:UI)(ug:UG)(ub:US):US:=λE ρ M=>ui ρ M λit M1=>UFor it ug ub E ρ M1
def q7v(uc:UT)(ub:US):US:=λE ρ M=>∃W:Nat->UEnv->MM->Prop,(∃m,W m ρ M)/\∀m ρ M,W m ρ M ->
 uc ρ M λb M1=>if b=true then ∃N:UEnv->MM->Prop,(∀bS M',N bS M'->∃m',m'<m/\W m' bS M')/\ub { E with nx:=N,ct:=N,bk:=E.nx } ρ M1 else E.nx ρ M1
def MeL(r:V->List V->Hp->VK->Prop)(s:List U->List U->(U->List U->Prop)->Prop):Prop:=∀(A:Addr->Prop)(ι:List Addr)(H:Hp)(M:MM)(k:Nat)(a:Addr)(xs ys:List V)(us ws:List U)(Qs:U->List U->Prop)(Q:VK),Wd A ι H M->ι[k]?=some a->H a=some (.lst xs)->M[k]?=some (.lst us)->RepUs A ι H xs us->RepUs A ι H ys ws->s us ws Qs ->
 (∀z cE v gC,RepUs A ι H gC cE->RepU A ι H v z->Qs z cE->Q v (upd H a (.lst gC)))->r (.ref a) ys H Q
def uMe(s:List U->List U->(U->List U->Prop)->Prop)(uo:UE)(ul:UA):UE:=λρ M Q=>uo ρ M λo M1=>∃k,o=.m k/\(∃zs,M1[k]?=some (.lst zs))/\ul ρ M1 λws M2=>∃us,M2[k]?=some (.lst us)/\s us ws λz cE=>Q z (M2.set k (.lst cE))
def YN:List U->List U->(U->List U->Prop)->Prop:=λus ws Q=>∃y,ws=[y]/\us.length<sizeLine/\Q (.p .non) (us++[y])
theorem KU:MeL Y2 YN:=λA ι H M k a xs ys us ws Qs Q w ek h1 h2 rx ry ⟨y,ey,hz,q⟩ kk=>by
 subst ey;cases ry with
 |cons r q'=>
 cases q';exact⟨a,xs,_,rfl,rfl,h1,by rw[rx.len];exact hz,kk _ _ _ _ (rx.app (.cons r .nil)) (.p .non) q⟩
def spU(G:List U->MM->UK->Prop):Sp:=λvs H Q _=>∃A ι M us Qu,Wd A ι H M/\RepUs A ι H vs us/\G us M Qu/\∀u M' ae v H',Le ι H ae H'->Wd A ae H' M'->RepU A ae H' v u->Qu u M'->Q v H'
def q69(G:List U->MM->UK->Prop)(ul:UA):UE:=λρ M Q=>ul ρ M λus M1=>G us M1 Q
def spP(G:List T->(T->Prop)->Prop):Sp:=λvs H Q _=>∃A ts Qt,(∀x,A x->H x≠none)/\RepTs A H vs ts/\G ts Qt/\∀t v H',Same H H'->RepT A H' v t->Qt t->Q v H'
def Ym(G:List T->(T->Prop)->Prop)(ul:UA):UE:=λρ M Q=>ul ρ M λus M1=>∃ts,vU us=some ts/\G ts λt=>Q (.p t) M1
theorem Same.le(s:Same H H'):Le ι H ι H':=⟨⟨[],by simp,by simp⟩,λx o e _=>s x o e,λx e=>by
 cases q:H x with
 |none=>exact absurd q e
 |some o=>rw[s x o q];simp⟩
theorem Wd.same(w:Wd A ι H M)(s:Same H H'):Wd A ι H' M :=
 ⟨w.nd,w.len,λx hx=>(Same.le (ι:=ι) s).al x (w.dom x hx),w.na,λk a ob e1 e2=>(w.obj k a ob e1 e2).le' s.le (by
  obtain⟨o,ho⟩:=(w.obj k a ob e1 e2).some;rw[ho,s _ _ ho]) λx ex=>by rw[ex,s _ _ ex]⟩
theorem Wd.domAv(w:Wd A ι H M):∀x,Av A ι x->H x≠none:=λx h=>by
 rcases h with h|h
 ·exact w.dom x h
 ·obtain⟨o,ho⟩:=w.mem_some h
  rw[ho];simp
noncomputable def frzs(f:U->Option T):List U->Option (List T)
 | []=>some []
 |u::r=>match f u,frzs f r with
  |some t,some ts=>some (t::ts)
  |_,_=>none
noncomputable def frzN:Nat->MM->U->Option T
 |_,_,.p t=>some t
 |0,_,.m _=>none
 |_,_,.x _ _ _=>none
 |n+1,M,.m k=>match M[k]? with
  |some (.lst us)=>(frzs (frzN n M) us).map T.lst
  |some (.tup us)=>(frzs (frzN n M) us).map T.tup
  |_=>none
set_option tactic.hygienic true in
theorem jX(r:RepUs A ι H vs us)(h:∀v u t,RepU A ι H v u->f u=some t->RepT A H v t)(e:frzs f us=some ts):RepTs A H vs ts:=by
 induction r generalizing ts with
 |nil=>simp[frzs]at e;subst e;exact .nil
 |cons r q ih=>
  simp[frzs]at e;split at e
  ·rename_i h1 h2
   simp at e;subst e;exact .cons (h _ _ _ r h1) (ih h2)
  ·cases e
theorem xP(w:Wd A ι H M):∀{n:Nat}{v:V}{u:U}{t:T},RepU A ι H v u->frzN n M u=some t->RepT A H v t
 |n,v,.p t',t,.p r,e=>by
  cases n<;>simp[frzN]at e<;>subst e<;>exact r.mono λx o hx ex=>⟨ex,λz=>hx (.inl z)⟩
 |0,v,.m k,t,r,e=>by simp[frzN]at e
 |n,v,.x a d q,t,r,e=>by cases n<;>simp[frzN]at e
 |n+1,v,.m k,t,r,e=>by
  cases r with
  |m q=>
  obtain⟨o,h1,h2⟩:=w.al q;have i9:=w.na _ (Dh q);simp[frzN,h1]at e;cases o with
  |lst us=>
   simp at e;obtain⟨ts,e1,rfl⟩:=e;obtain⟨vs,h3,h4⟩:=h2;exact .lstP i9 h3 (jX h4 (λv u t r e=>xP w r e) e1)
  |tup us=>
   simp at e;obtain⟨ts,e1,rfl⟩:=e;obtain⟨vs,h3,h4⟩:=h2;exact .tupP i9 h3 (jX h4 (λv u t r e=>xP w r e) e1)
  |ins=>simp at e
  |dK=>simp at e
  |dF=>simp at e
  |tab=>simp at e
theorem Vq(h:∀t,f (.p t)=some t):∀ts:List T,frzs f (ts.map U.p)=some ts
 | []=>rfl
 |t::r=>by simp[frzs,h t,Vq h r]
@[simp] theorem ZD:frzN n M (.p t)=some t:=by cases n<;>rfl
noncomputable def xz(N:List Str)(us:List U):UEnv:=us.map some++List.replicate (N.length-us.length) none
theorem xU(r:RepUs A ι H vs us):EnvR A ι H (start N vs) (xz N us):=by
 refine Paired.app ?_ ?_
 ·exact Paired.mapR (F:=λs u=>∃v,s=some v/\RepU A ι H v u) (λa b q u e=>by cases e;exact q) (by
   induction r with
   |nil=>exact .nil
   |cons r q ih=>exact .cons ⟨_,rfl,r⟩ ih)
 ·rw[r.len]
  generalize N.length-us.length=m
  induction m with
  |zero=>exact .nil
  |succ m ih=>exact .cons (λu e=>by cases e) ih
end
section
variable {P:Program}{w:World}{Ξ:PySem.W.Frag}{mg:Str->Option Value}{base:Heap}
theorem Fun.okU{st:Stmt}(F:Fun Ξ x ac st f fd)(S:q01 N ps (qw st))(len:∀us M Qu,G us M Qu->us.length=ps.length)(aC:∀(ap:Value)(A:Around)(outer:List Env)(s:Shared)(H:Hp)(E:XK),Room k (A.deeper (envOfC ac (qw st) s.heap.objs.size f ap)) ->
   ∃t,PSs (cxOf CX0 P w Ξ mg base N ac (qw st) f ap A outer s H E).nox (vg st) t/\∃u,LS t u/\∀us M Qu,G us M Qu->u { nx:=λ_ M'=>Qu (.p .non) M',rt:=Qu } (xz N us) M):FnOk P w Ξ mg base CX0 (k+1) f fd ps (spU G):=by
 refine F.ok S (λvs H Q E h=>?_) (λap A outer s H vs Q E hr h=>?_)
 ·obtain⟨A,ι,M,us,Qu,w1,r,g,_⟩:=h
  rw[r.len];exact len us M Qu g
 ·obtain⟨B,ι,M,us,Qu,w1,r,g,kk⟩:=h
  obtain⟨t,ht,u,hu,hb⟩:=aC ap A outer s H E hr;refine⟨t,ht,hu B ι _ H _ M _ { nx:=λ_ M'=>Qu _ M',rt:=Qu } w1 (xU r) ⟨λa6 cY H1 fW M1 l1 w1 e1 q1=>kk _ M1 a6 _ H1 l1 w1 (.p .non) q1,λa6 v H1 z M1 l1 w1 r1 q1=>kk z M1 a6 v H1 l1 w1 r1 q1,λ_ _ _ _ _ _ _ _ q=>q.elim,λ_ _ _ _ _ _ _ _ q=>q.elim⟩ (hb us M Qu g)⟩
theorem Fun.okP{st:Stmt}(F:Fun Ξ x ac st f fd)(S:q01 N ps (qw st))(len:∀ts Qt,G ts Qt->ts.length=ps.length)(aC:∀(ap:Value)(A:Around)(outer:List Env)(s:Shared)(H:Hp)(E:XK),Room k (A.deeper (envOfC ac (qw st) s.heap.objs.size f ap)) ->
   ∃t,PSs (cxOf CX0 P w Ξ mg base N ac (qw st) f ap A outer s H E).nox (vg st) t/\∃u,LS t u/\∀ts Qt,G ts Qt->u { nx:=λ_ _=>Qt .non,rt:=λz M'=>∃t,frzN 4 M' z=some t/\Qt t } (xz N (ts.map U.p)) []):FnOk P w Ξ mg base CX0 (k+1) f fd ps (spP G):=by
 refine F.ok S (λvs H Q E h=>?_) (λap A outer s H vs Q E hr h=>?_)
 ·obtain⟨A,ts,Qt,hd,r,g,_⟩:=h
  rw[r.len];exact len ts Qt g
 ·obtain⟨B,ts,Qt,hd,r,g,kk⟩:=h
  obtain⟨t,ht,u,hu,hb⟩:=aC ap A outer s H E hr;have w0:Wd B [] H []:=⟨RM,rfl,hd,λx hx=>by simp at hx,λk a o e _=>by simp at e⟩;have same:∀{a6:List Addr}{H1:Hp},Le [] H a6 H1->Same H H1:=λl b o e=>l.fr b o e (by simp);have r0:RepUs B [] H vs _:=RepTs.ups (Paired.mapP r λ_ _ q=>q.mono λx o hx ex=>⟨ex,λz=>z.elim hx (by simp)⟩);refine⟨t,ht,hu B [] _ H _ [] _ { nx:=λ_ _=>Qt .non,rt:=λz M'=>∃t,frzN 4 M' z=some t/\Qt t } w0 (xU r0) ⟨λa6 cY H1 fW M1 l1 w1 e1 q1=>kk _ _ H1 (same l1) .non q1,λa6 v H1 z M1 l1 w1 r1 ⟨t1,et,q1⟩=>kk t1 v H1 (same l1) (xP w1 r1 et) q1,λ_ _ _ _ _ _ _ _ q=>q.elim,λ_ _ _ _ _ _ _ _ q=>q.elim⟩ (hb ts Qt g)⟩
end
def OpS(s:T->T->(T->Prop)->Prop)(M:MM)(x y:U)(Q:UK):Prop:=∃a b,sn M x=some a/\sn M y=some b/\s a b λt=>Q (.p t) M
theorem q8b:uOp s ua ub ρ M Q=ua ρ M λx M1=>ub ρ M1 λy M2=>OpS s M2 x y Q:=rfl
theorem q81:OpS s M (.p a) (.p b) Q=s a b λt=>Q (.p t) M :=
 propext ⟨λzz=>by obtain⟨_,_,e1,e2,h⟩:=zz;cases e1;cases e2;exact h,λh=>⟨a,b,rfl,rfl,h⟩⟩
theorem q2Y(h1:sn M x=some a)(h2:sn M y=some b)(q:s a b λt=>Q (.p t) M):OpS s M x y Q:=⟨a,b,h1,h2,q⟩
theorem q82:sI C g (.int i) (.int j) Q=(C i j/\Q (g i j)):=
 propext ⟨λzz=>by obtain⟨_,_,e1,e2,h⟩:=zz;cases e1;cases e2;exact h,λh=>⟨i,j,rfl,rfl,h⟩⟩
theorem q6l:sI0 g (.int i) (.int j) Q=Q (g i j):=
 propext ⟨λzz=>by obtain⟨_,_,e1,e2,h⟩:=zz;cases e1;cases e2;exact h,λh=>⟨i,j,rfl,rfl,h⟩⟩
theorem q7V:sEq false (.int i) (.int j) Q=Q (.bl (decide (i=j))):=by
 refine propext ⟨λ⟨x,y,e1,e2,_,h⟩=>?_,λh=>⟨_,_,rfl,rfl,rfl,?_⟩⟩
 ·simp[vt]at e1 e2;subst e1 e2;simp_all
 ·simpa using h
theorem q5L:sEq false (.str i) (.str j) Q=Q (.bl (decide (i=j))):=by
 refine propext ⟨λ⟨x,y,e1,e2,_,h⟩=>?_,λh=>⟨_,_,rfl,rfl,rfl,?_⟩⟩
 ·simp[vt]at e1 e2;subst e1 e2;simp_all
 ·simpa using h
theorem q6Q:sEq true (.str i) (.str j) Q=Q (.bl (!decide (i=j))):=by
 refine propext ⟨λ⟨x,y,e1,e2,_,h⟩=>?_,λh=>⟨_,_,rfl,rfl,rfl,?_⟩⟩
 ·simp[vt]at e1 e2;subst e1 e2;simp_all
 ·simpa using h
def VarS(o:Option (Option U))(M:MM)(Q:UK):Prop:=∃u,o=some (some u)/\Q u M
theorem q6x:uVar i ρ M Q=VarS ρ[i]? M Q:=rfl
theorem q4z:VarS (some (some u)) M Q=Q u M:=propext ⟨λzz=>by obtain⟨_,e,h⟩:=zz;cases e;exact h,λh=>⟨u,rfl,h⟩⟩
def IntS(x:U)(R:Int->Prop):Prop:=∃i,x=.p (.int i)/\R i
theorem q56:IntS (.p (.int i)) R=R i:=propext ⟨λzz=>by obtain⟨_,e,h⟩:=zz;cases e;exact h,λh=>⟨i,rfl,h⟩⟩
def BlS(x:U)(R:Bool->Prop):Prop:=∃b,x=.p (.bl b)/\R b
theorem q7y:BlS (.p (.bl b)) R=R b:=propext ⟨λzz=>by obtain⟨_,e,h⟩:=zz;cases e;exact h,λh=>⟨b,rfl,h⟩⟩
theorem q7J:uNeg ua ρ M Q=ua ρ M λx M1=>IntS x λi=>Q (.p (.int (-i))) M1:=rfl
theorem q4R:q7M ua ρ M Q=ua ρ M λx M1=>IntS x λi=>Q (.p (.int (Builtin.Int.intBits i))) M1:=rfl
theorem rd_b:uB ua ρ M QB=ua ρ M λx M1=>BlS x λb=>QB b M1:=rfl
theorem q6E:uTru ua ρ M QB=ua ρ M λx M1=>∃b,truU M1 x=some b/\QB b M1:=rfl
def ChS(s':T->T->(T->Prop)->Prop)(uc:UE)(ρ:UEnv)(M:MM)(y:U)(Q:UK)(z:T):Prop:=∃k,z=.bl k/\if k=true then uc ρ M λc M3=>OpS s' M3 y c Q else Q (.p (.bl false)) M
theorem q0J:Jk s s' ua ub uc ρ M Q=ua ρ M λx M1=>ub ρ M1 λy M2=>OpS s M2 x y λz _=>∃t,z=.p t/\ChS s' uc ρ M2 y Q t :=
 propext (by
  have e:∀x y M2,(∃a b,sn M2 x=some a/\sn M2 y=some b/\s a b λz=>∃k,z=.bl k/\if k=true then uc ρ M2 λc M3=>∃b' c',sn M3 y=some b'/\sn M3 c=some c'/\s' b' c' λt=>Q (.p t) M3 else Q (.p (.bl false)) M2)=(OpS s M2 x y λz _=>∃t,z=.p t/\ChS s' uc ρ M2 y Q t):=λx y M2=>by
   unfold OpS ChS;have:∀z:T,(∃t,U.p z=.p t/\∃k,t=.bl k/\if k=true then uc ρ M2 λc M3=>OpS s' M3 y c Q else Q _ M2)=(∃k,z=.bl k/\if k=true then uc ρ M2 λc M3=>∃b' c',sn M3 y=some b'/\sn M3 c=some c'/\s' b' c' λt=>Q _ M3 else Q (.p (.bl false)) M2):=λz=>
    propext ⟨λzz=>by obtain⟨t,e,h⟩:=zz;cases e;exact h,λh=>⟨z,rfl,h⟩⟩
   simp only[this]
  unfold Jk;simp only[e])
def PurS(us:List U)(R:List T->Prop):Prop:=∃ts,vU us=some ts/\R ts
theorem YX:PurS (ts.map U.p) R=R ts:=propext ⟨λzz=>by obtain⟨_,e,h⟩:=zz;rw[xn]at e;cases e;exact h,λh=>⟨ts,xn ts,h⟩⟩
theorem q3q:PurS [] R=R []:=YX (ts:=[])
theorem q4M:PurS (.p a::us) R=PurS us λts=>R (a::ts):=by
 refine propext ⟨λ⟨ts,e,h⟩=>?_,λ⟨ts,e,h⟩=>⟨a::ts,by simp[vU,e],h⟩⟩;simp[vU]at e;obtain⟨r,e1,rfl⟩:=e;exact⟨r,e1,h⟩
theorem q6M:uTup ul ρ M Q=ul ρ M λus M1=>PurS us λts=>Q (.p (.tup ts)) M1:=rfl
theorem q6N:uLst ul ρ M Q=ul ρ M λus M1=>PurS us λts=>Q (.p (.lst ts)) M1:=rfl
def IxS(it:MM->U->Option (List U))(M:MM)(x y:U)(Q:UK):Prop:=∃us i z,it M x=some us/\y=.p (.int i)/\atI us i=some z/\Q z M
theorem q8D:uIx it ua ub ρ M Q=ua ρ M λx M1=>ub ρ M1 λy M2=>IxS it M2 x y Q:=rfl
theorem xM(h1:it M x=some us)(h2:atI us i=some z)(q:Q z M):IxS it M x (.p (.int i)) Q:=⟨us,i,z,h1,rfl,h2,q⟩
theorem X9(h:atI ts i=some t):atI (ts.map U.p) i=some (.p t):=by
 unfold atI at h ⊢;rw[Dg];cases e:ixN ts.length i with
 |none=>rw[e]at h;cases h
 |some j=>rw[e]at h;simp at h ⊢;rw[h]
theorem qR(h:atI ts i=some t)(q:Q (.p t) M):IxS qB M (.p (.lst ts)) (.p (.int i)) Q:=xM rfl (X9 h) q
theorem q2U(h:atI ts i=some t)(q:Q (.p t) M):IxS vI M (.p (.tup ts)) (.p (.int i)) Q:=xM rfl (X9 h) q
def SnsS(M:MM)(us:List U)(R:List T->Prop):Prop:=∃ts,sns M us=some ts/\R ts
theorem q4c:SnsS M [] R=R []:=propext ⟨λzz=>by obtain⟨_,e,h⟩:=zz;cases e;exact h,λh=>⟨[],rfl,h⟩⟩
theorem q5r:SnsS M (.p a::us) R=SnsS M us λts=>R (a::ts):=by
 refine propext ⟨λ⟨ts,e,h⟩=>?_,λ⟨ts,e,h⟩=>⟨a::ts,by simp[sns,sn,e],h⟩⟩;simp[sns,sn]at e;cases q:sns M us with
 |none=>rw[q]at e;cases e
 |some r=>rw[q]at e;simp at e;subst e;exact⟨r,q,h⟩
theorem q8v:uCb s ul ρ M Q=ul ρ M λus M1=>SnsS M1 us λts=>s ts λt=>Q (.p t) M1:=rfl
theorem q4Z:sAbs [.int i] Q=Q (.int (if i<0 then -i else i)):=propext ⟨λzz=>by obtain⟨_,e,h⟩:=zz;cases e;exact h,λh=>⟨i,rfl,h⟩⟩
theorem q3R:sMin [.int i,.int j] Q=Q (.int (if j<i then j else i)):=propext ⟨λzz=>by obtain⟨_,_,e,h⟩:=zz;cases e;exact h,λh=>⟨i,j,rfl,h⟩⟩
theorem q42:sInt [.bl k] Q=Q (.int (if k then 1 else 0)):=by
 refine propext ⟨λh=>?_,λh=>Or.inr ⟨k,rfl,h⟩⟩;rcases h with⟨_,e,h⟩|⟨_,e,h⟩
 ·cases e
 ·cases e;exact h
def LenS(it:MM->U->Option (List U))(M:MM)(us:List U)(Q:UK):Prop:=∃x ys,us=[x]/\it M x=some ys/\Q (.p (.int ys.length)) M
theorem q7U:uLen it ul ρ M Q=ul ρ M λus M1=>LenS it M1 us Q:=rfl
theorem q3Z:LenS qB M [.p (.lst ts)] Q=Q (.p (.int ts.length)) M :=
 propext ⟨λzz=>by obtain⟨_,_,e1,e2,h⟩:=zz;cases e1;cases e2;rw[Dg]at h;exact h,λh=>⟨_,_,rfl,rfl,by rw[Dg];exact h⟩⟩
theorem Vl(e:M[k]?=some (.lst us))(h:Q (.p (.int us.length)) M):LenS qB M [.m k] Q:=⟨_,_,rfl,by simp[qB,e],h⟩
def SlS(M:MM)(x:U)(l h:Option Int)(Q:UK):Prop:=∃ts,sn M x=some (.lst ts)/\Q (.p (.lst (cutT ts l h))) M
theorem q8l:uSl ua u1 u2 ρ M Q=ua ρ M λx M1=>u1 ρ M1 λl M2=>u2 ρ M2 λh M3=>SlS M3 x l h Q:=rfl
theorem q6z:SlS M (.p (.lst ts)) l h Q=Q (.p (.lst (cutT ts l h))) M:=propext ⟨λzz=>by obtain⟨_,e,h⟩:=zz;cases e;exact h,λh=>⟨ts,rfl,h⟩⟩
theorem q3H{QO:Option Int->MM->Prop}:Yj ua ρ M QO=ua ρ M λx M1=>IntS x λi=>QO (some i) M1:=rfl
theorem YY{QO:Option Int->MM->Prop}:j7 ρ M QO=QO none M:=rfl
theorem q7w:sCat (.lst xs) (.lst ys) Q=(xs.length+ys.length<=sizeLine/\Q (.lst (xs++ys))):=propext ⟨λzz=>by obtain⟨_,_,e1,e2,h⟩:=zz;cases e1;cases e2;exact h,λh=>⟨xs,ys,rfl,rfl,h⟩⟩
noncomputable def itU(x:U)(us:List U):UIt:=⟨us.length,λM=>qB M x=some us,λi z=>us[i]?=some z⟩
def q3D(M:MM)(x:U)(R:UIt->MM->Prop):Prop:=∃us,qB M x=some us/\R (itU x us) M
theorem q5p:q5C ua ρ M R=ua ρ M λx M1=>q3D M1 x R:=rfl
theorem q0V:q3D M (.p (.lst ts)) R=R (itU (.p (.lst ts)) (ts.map U.p)) M:=propext ⟨λzz=>by obtain⟨_,e,h⟩:=zz;cases e;exact h,λh=>⟨_,rfl,h⟩⟩
theorem xN(e:M[k]?=some (.lst us))(h:R (itU (.m k) us) M):q3D M (.m k) R:=⟨us,by simp[qB,e],h⟩
noncomputable def itR0(n:Nat):UIt:=⟨n,λ_=>True,λi z=>z=.p (.int i)⟩
def RngS(us:List U)(M:MM)(R:UIt->MM->Prop):Prop:=∃j:Int,us=[.p (.int j)] /\ -(2^62)<=j/\j<2^62/\R (itR0 j.toNat) M
theorem q3J:q6f ul ρ M R=ul ρ M λus M1=>RngS us M1 R:=rfl
theorem JF(h1 : -(2^62)<=j)(h2:j<2^62)(q:R (itR0 j.toNat) M):RngS [.p (.int j)] M R:=⟨j,rfl,h1,h2,q⟩
theorem VM(Iv:Nat->UEnv->MM->Prop)(h0:Iv 0 ρ M)(hs:∀i t ar M2,ts[i]?=some t->Iv i ar M2->ug (.p t) ar M2 λeI M3=>ub { E with nx:=Iv (i+1),ct:=Iv (i+1),bk:=E.nx } eI M3)(hd:∀ar M2,Iv ts.length ar M2->E.nx ar M2):UFor (itU (.p (.lst ts)) (ts.map U.p)) ug ub E ρ M:=by
 refine⟨Iv,h0,λi ar M2 hi h=>⟨rfl,λu hu=>?_⟩,λar M2 h=>⟨rfl,hd ar M2 (by simpa[itU]using h)⟩⟩;have hu:_[i]?=some u:=hu;rw[Dy]at hu;cases e:ts[i]? with
 |none=>rw[e]at hu;cases hu
 |some t=>rw[e]at hu;cases hu;exact hs i t ar M2 e h
theorem Q2(Iv:Nat->UEnv->MM->Prop)(h0:Iv 0 ρ M)(hs:∀(i:Nat) ar M2,i<m->Iv i ar M2->ug (.p (.int i)) ar M2 λeI M3=>ub { E with nx:=Iv (i+1),ct:=Iv (i+1),bk:=E.nx } eI M3)(hd:∀ar M2,Iv m ar M2->E.nx ar M2):UFor (itR0 m) ug ub E ρ M :=
 ⟨Iv,h0,λi ar M2 hi h=>⟨trivial,λu hu=>by cases hu;exact hs i ar M2 hi h⟩,λar M2 h=>⟨trivial,hd ar M2 h⟩⟩
theorem Jh(Iv:Nat->UEnv->MM->Prop)(h0:Iv 0 ρ M)(hk:∀i ar M2,Iv i ar M2->M2[k]?=some (.lst xs))(hs:∀i z ar M2,xs[i]?=some z->Iv i ar M2->ug z ar M2 λeI M3=>ub { E with nx:=Iv (i+1),ct:=Iv (i+1),bk:=E.nx } eI M3)(hd:∀ar M2,Iv xs.length ar M2->E.nx ar M2):UFor (itU (.m k) xs) ug ub E ρ M :=
 ⟨Iv,h0,λi ar M2 hi h=>⟨by show qB M2 _=_;simp[qB,hk i ar M2 h],λu hu=>hs i u ar M2 hu h⟩,λar M2 h=>⟨by show qB M2 _=_;simp[qB,hk _ ar M2 h],hd ar M2 h⟩⟩
theorem zj(hz:ts.length<=sizeLine)(Iv:Nat->List T->MM->Prop)(h0:Iv 0 [] M)(hs:∀i t a7 M2,ts[i]?=some t->a7.length<=i->Iv i a7 M2->ug (.p t) dQ M2 λbB M4=>ut bB M4 λb M5=>if b=true then ua bB M5 λz M6=>∃t,z=.p t/\Iv (i+1) (a7++[t]) M6 else Iv (i+1) a7 M5)(hd:∀a7 M2,Iv ts.length a7 M2->Q (.p (.lst a7)) M2):UComp (itU (.p (.lst ts)) (ts.map U.p)) ug ut ua dQ M Q:=by
 refine⟨by simpa[itU]using hz,Iv,h0,λi a7 M2 hi ha h=>⟨rfl,λu hu=>?_⟩,λa7 M2 h=>⟨rfl,hd a7 M2 (by simpa[itU]using h)⟩⟩;have hu:_[i]?=some u:=hu;rw[Dy]at hu;cases e:ts[i]? with
 |none=>rw[e]at hu;cases hu
 |some t=>rw[e]at hu;cases hu;exact hs i t a7 M2 e ha h
theorem Yg(hz:m<=sizeLine)(Iv:Nat->List T->MM->Prop)(h0:Iv 0 [] M)(hs:∀(i:Nat) a7 M2,i<m->a7.length<=i->Iv i a7 M2->ug (.p (.int i)) dQ M2 λbB M4=>ut bB M4 λb M5=>if b=true then ua bB M5 λz M6=>∃t,z=.p t/\Iv (i+1) (a7++[t]) M6 else Iv (i+1) a7 M5)(hd:∀a7 M2,Iv m a7 M2->Q (.p (.lst a7)) M2):UComp (itR0 m) ug ut ua dQ M Q :=
 ⟨hz,Iv,h0,λi a7 M2 hi ha h=>⟨trivial,λu hu=>by cases hu;exact hs i a7 M2 hi ha h⟩,λa7 M2 h=>⟨trivial,hd a7 M2 h⟩⟩
def T2S(M:MM)(u:U)(R:U->U->Prop):Prop:=∃a b,vI M u=some [a,b]/\R a b
def T3S(M:MM)(u:U)(R:U->U->U->Prop):Prop:=∃a b c,vI M u=some [a,b,c]/\R a b c
theorem q1O:Yk i j u ρ M R=T2S M u λa b=>R ((ρ.set i (some a)).set j (some b)) M:=rfl
theorem q0A:Qc i j k u ρ M R=T3S M u λa b c=>R (((ρ.set i (some a)).set j (some b)).set k (some c)) M:=rfl
theorem q87:T2S M (.p (.tup [a,b])) R=R (.p a) (.p b):=propext ⟨λzz=>by obtain⟨_,_,e,h⟩:=zz;cases e;exact h,λh=>⟨_,_,rfl,h⟩⟩
theorem q8E:T3S M (.p (.tup [a,b,c])) R=R (.p a) (.p b) (.p c):=propext ⟨λzz=>by obtain⟨_,_,_,e,h⟩:=zz;cases e;exact h,λh=>⟨_,_,_,rfl,h⟩⟩
theorem q0N:Ym G ul ρ M Q=ul ρ M λus M1=>PurS us λts=>G ts λt=>Q (.p t) M1:=rfl
theorem q0R:q69 G ul ρ M Q=ul ρ M λus M1=>G us M1 Q:=rfl
def MeS(s:List U->List U->(U->List U->Prop)->Prop)(ul:UA)(ρ:UEnv)(M:MM)(o:U)(Q:UK):Prop:=∃k,o=.m k/\(∃zs,M[k]?=some (.lst zs))/\ul ρ M λws M2=>∃us,M2[k]?=some (.lst us)/\s us ws λz cE=>Q z (M2.set k (.lst cE))
theorem q8a:uMe s ua ul ρ M Q=ua ρ M λo M1=>MeS s ul ρ M1 o Q:=rfl
theorem XF(e:M[k]?=some (.lst zs))(h:ul ρ M λws M2=>∃us,M2[k]?=some (.lst us)/\s us ws λz cE=>Q z (M2.set k (.lst cE))):MeS s ul ρ M (.m k) Q:=⟨k,rfl,⟨zs,e⟩,h⟩
theorem q6q:YN us [y] Q=(us.length<sizeLine/\Q (.p .non) (us++[y])):=propext ⟨λzz=>by obtain⟨_,e,h⟩:=zz;cases e;exact h,λh=>⟨y,rfl,h⟩⟩
inductive EqT:Nat->T->T->Bool->Prop
 |flat {n:Nat}{a b:T}{x y:V}:vt a=some x->vt b=some y->EqT n a b (eqV x y)
 |tup {n:Nat}{xs ys:List T}{e:Nat->Bool}:(∀(j:Nat) x y,xs[j]?=some x->ys[j]?=some y->EqT n x y (e j))->EqT (n+1) (.tup xs) (.tup ys) ((List.range (min xs.length ys.length)).all e&&xs.length==ys.length)
 |lst {n:Nat}{xs ys:List T}{e:Nat->Bool}:xs.length=ys.length->(∀(j:Nat) x y,xs[j]?=some x->ys[j]?=some y->EqT n x y (e j))->EqT (n+1) (.lst xs) (.lst ys) ((List.range xs.length).all e)
 |lstN {n:Nat}{xs ys:List T}:xs.length≠ys.length->EqT (n+1) (.lst xs) (.lst ys) false
theorem RepT.inj(r:RepT A H v a):RepT A H v b->a=b:=by
 induction r generalizing b with
 |non=>intro q;cases q;rfl
 |bl=>intro q;cases q;rfl
 |int=>intro q;cases q;rfl
 |str=>intro q;cases q;rfl
 |tup na e l r ih=>
  intro q;cases q with
  |tup na' e' l' r'=>
   rw[e]at e';cases e'
   congr 1;refine List.ext_getElem (by lia) λi h1 h2=>?_;have h3:=h1;rw[<-l]at h3;exact ih i _ _ (Df h3) (Df h1) (r' i _ _ (Df h3) (Df h2))
  |lst na' e' l' r'=>rw[e]at e';cases e'
 |lst na e l r ih=>
  intro q;cases q with
  |lst na' e' l' r'=>
   rw[e]at e';cases e'
   congr 1;refine List.ext_getElem (by lia) λi h1 h2=>?_;have h3:=h1;rw[<-l]at h3;exact ih i _ _ (Df h3) (Df h1) (r' i _ _ (Df h3) (Df h2))
  |tup na' e' l' r'=>rw[e]at e';cases e'
theorem q1t:∀{x:V}{t:T},vt t=some x->eqV x x=true:=λ{x t} h=>by cases jA h<;>simp[eqV]
theorem EqT.self(h:EqT n a b r):a=b->r=true:=by
 induction h with
 |flat h1 h2=>intro e;subst e;rw[h1]at h2;cases h2;exact q1t h1
 | @tup n xs ys e hh ih=>
  simp_all
 | @lst n xs ys e hl hh ih=>
  simp_all
 |lstN hl=>intro q;cases q;exact absurd rfl hl
theorem EqT.de(h:EqT n a b r):∀{x y:V},RepT A H x a->RepT A H y b->DE Ξ H n x y r:=by
 induction h with
 | @flat n a b x0 y0 h1 h2=>
  intro x y r1 r2;cases(RepV.of r1).sc (y:=.non) h1;cases(RepV.of r2).sc (y:=.non) h2;exact .flat (by cases jA h1<;>rfl) (by cases jA h2<;>rfl)
 | @tup n xs ys e hh ih=>
  intro x y r1 r2;obtain⟨p,vs,rfl,_,h1,q1⟩:=r1.tup_inv;obtain⟨p2,cB,rfl,_,h2,q2⟩:=r2.tup_inv;by_cases hp:p=p2
  ·subst hp
   have:=(EqT.tup (n:=n) hh).self (r1.inj r2);rw[this];exact .same
  ·have:=DE.tup (Ξ:=Ξ) (H:=H) (n:=n) (e:=e) hp (SqT.of h1) (SqT.of h2) λj x y hx hy=>by
    obtain⟨a,ha,ra⟩:=Paired.getL q1 hx;obtain⟨b,hb,rb⟩:=Paired.getL q2 hy
    grind
   rw[q1.len,q2.len]at this;exact this
 | @lst n xs ys e hl hh ih=>
  intro x y r1 r2;obtain⟨p,vs,rfl,_,h1,q1⟩:=r1.lst_inv;obtain⟨p2,cB,rfl,_,h2,q2⟩:=r2.lst_inv;by_cases hp:p=p2
  ·subst hp
   have:=(EqT.lst (n:=n) hl hh).self (r1.inj r2);rw[this];exact .same
  ·have:=DE.lst (Ξ:=Ξ) (H:=H) (n:=n) (e:=e) hp (SqL.of h1) (SqL.of h2) (by rw[q1.len,q2.len,hl]) λj x y hx hy=>by
    obtain⟨a,ha,ra⟩:=Paired.getL q1 hx;obtain⟨b,hb,rb⟩:=Paired.getL q2 hy
    grind
   rw[q1.len]at this;exact this
 | @lstN n xs ys hl=>
  intro x y r1 r2;obtain⟨p,vs,rfl,_,h1,q1⟩:=r1.lst_inv;obtain⟨p2,cB,rfl,_,h2,q2⟩:=r2.lst_inv;by_cases hp:p=p2
  ·subst hp
   have:=r1.inj r2;cases this;exact absurd rfl hl
  ·exact .lstN hp (SqL.of h1) (SqL.of h2) (by rw[q1.len,q2.len];exact hl)
def sEqL(neg:Bool):T->T->(T->Prop)->Prop:=λa b Q=>∃xs ys,a=.lst xs/\b=.lst ys/\((xs.length≠ys.length/\Q (.bl neg))\/(xs.length=ys.length/\∃e:Nat->Bool,(∀(j:Nat) x y,xs[j]?=some x->ys[j]?=some y->EqT 20 x y (e j))/\Q (.bl (if neg then !(List.range xs.length).all e else(List.range xs.length).all e))))
theorem q5q:OpL (rEqL Ξ) (sEqL false):=λA ι H M x y a b Qs Q w r1 r2 ⟨xs,ys,ea,eb,h⟩ k=>by
 subst ea eb;obtain⟨p,vs,rfl,h1,q1⟩:=r1.lst_inv;obtain⟨p2,cB,rfl,h2,q2⟩:=r2.lst_inv;refine⟨p,p2,vs,cB,rfl,rfl,SqL.of h1,SqL.of h2,?_⟩;rcases h with⟨hl,q⟩|⟨hl,e,he,q⟩
 ·exact .inl ⟨by rw[q1.len,q2.len];exact hl,k _ ι _ H (.refl _ _) w (.bl _) q⟩
 ·refine .inr ⟨by rw[q1.len,q2.len];exact hl,e,λj x y hx hy=>?_,by rw[q1.len];exact k _ ι _ H (.refl _ _) w (.bl _) q⟩
  obtain⟨a,ha,ra⟩:=Paired.getL q1 hx;obtain⟨b,hb,rb⟩:=Paired.getL q2 hy;exact(he j a b ha hb).de ra rb
theorem Ww:OpL (rNeL Ξ) (sEqL true):=λA ι H M x y a b Qs Q w r1 r2 ⟨xs,ys,ea,eb,h⟩ k=>by
 subst ea eb;obtain⟨p,vs,rfl,h1,q1⟩:=r1.lst_inv;obtain⟨p2,cB,rfl,h2,q2⟩:=r2.lst_inv;refine⟨p,p2,vs,cB,rfl,rfl,SqL.of h1,SqL.of h2,?_⟩;rcases h with⟨hl,q⟩|⟨hl,e,he,q⟩
 ·exact .inl ⟨by rw[q1.len,q2.len];exact hl,k _ ι _ H (.refl _ _) w (.bl _) q⟩
 ·refine .inr ⟨by rw[q1.len,q2.len];exact hl,e,λj x y hx hy=>?_,by rw[q1.len];exact k _ ι _ H (.refl _ _) w (.bl _) q⟩
  obtain⟨a,ha,ra⟩:=Paired.getL q1 hx;obtain⟨b,hb,rb⟩:=Paired.getL q2 hy;exact(he j a b ha hb).de ra rb
noncomputable abbrev qC(ns:List Int):T:=.lst (ns.map T.int)
def sRep:T->T->(T->Prop)->Prop:=λa b Q=>∃xs k,a=.lst xs/\b=.int k /\ -(2^63)<=k/\k<2^63/\xs.length*k.toNat<=sizeLine/\Q (.lst (List.replicate k.toNat xs).flatten)
theorem q3P:OpL rRep sRep:=λA ι H M x y a b Qs Q w r1 r2 ⟨xs,kk,ea,eb,k0,k1,hz,q⟩ k=>by
 subst ea eb;obtain⟨p,vs,rfl,h1,q1⟩:=r1.lst_inv;cases r2.int_inv;exact⟨p,kk,vs,rfl,rfl,h1,k0,k1,by rw[q1.len];exact hz,λl hl=>k _ ι _ _ (.fresh hl) (w.fresh hl) (zH w hl (jn q1 _)) q⟩
noncomputable def frzB(b:Nat):Nat->MM->U->Option T
 |_,_,.p t=>some t
 |0,_,.m _=>none
 |_,_,.x _ _ _=>none
 |n+1,M,.m k=>if b<=k then match M[k]? with
  |some (.lst us)=>(frzs (frzB b n M) us).map T.lst
  |some (.tup us)=>(frzs (frzB b n M) us).map T.tup
  |_=>none else none
@[simp] theorem GW:frzB b n M (.p t)=some t:=by cases n<;>rfl
set_option tactic.hygienic true in
theorem ZC(r:RepUs A ι H vs us)(h:∀v u t,RepU A ι H v u->f u=some t->RepT A' H v t)(e:frzs f us=some ts):RepTs A' H vs ts:=by
 induction r generalizing ts with
 |nil=>simp[frzs]at e;subst e;exact .nil
 |cons r q ih=>
  simp[frzs]at e;split at e
  ·rename_i h1 h2
   simp at e;subst e;exact .cons (h _ _ _ r h1) (ih h2)
  ·cases e
set_option tactic.hygienic true in
theorem Vr(w:Wd A (ι++m) H M):∀{n:Nat}{v:V}{u:U}{t:T},RepU A (ι++m) H v u->frzB ι.length n M u=some t->RepT (Av A ι) H v t
 |n,v,.p t',t,.p r,e=>by
  rw[GW]at e;cases e;exact r.mono λx o hx ex=>⟨ex,λz=>hx (z.elim .inl λz=>.inr (Dw _ z))⟩
 |0,v,.m k,t,r,e=>by simp[frzB]at e
 |n,v,.x a d q,t,r,e=>by cases n<;>simp[frzB]at e
 |n+1,v,.m k,t,r,e=>by
  cases r with
  |m q=>
  rename_i a;obtain⟨o,h1,h2⟩:=w.al q;simp only[frzB,h1]at e;split at e
  ·rename_i hk
   have i9:¬Av A ι a:=λz=>by
    rcases z with z|z
    ·exact w.na _ (Dh q) z
    ·rw[Dp hk]at q
     have hd:=(DW.mp w.nd).2.2;exact hd a z a (Dh q) rfl
   cases o with
   |lst us=>
    simp at e;obtain⟨ts,e1,rfl⟩:=e;obtain⟨vs,h3,h4⟩:=h2;exact .lstP i9 h3 (ZC h4 (λv u t r e=>Vr w r e) e1)
   |tup us=>
    simp at e;obtain⟨ts,e1,rfl⟩:=e;obtain⟨vs,h3,h4⟩:=h2;exact .tupP i9 h3 (ZC h4 (λv u t r e=>Vr w r e) e1)
   |ins=>simp at e
   |dK=>simp at e
   |dF=>simp at e
   |tab=>simp at e
  ·cases e
def PurO(o:MO):Prop:=∃ts:List T,o=.lst (ts.map U.p)
def zR(M M':MM):Prop:=∀(i:Nat) o,i<M.length->M'[i]?=some o->M[i]?=some o\/PurO o
theorem RepU.less{m:List Addr}(r:RepU A (ι++m) H v u)(r0:RepU A ι H0 v0 u):RepU A ι H v u:=by
 cases r with
 |p r=>exact .p (r.mono λx o hx ex=>⟨ex,λz=>hx (z.elim .inl λz=>.inr (Dw _ z))⟩)
 |m e=>
  cases r0 with
  |m e0=>
   rw[De (Dc.mp e0).1]at e;exact .m e
 | @x a d q h=>
  refine .x ?_;cases q with
  |none=>exact h
  |some n=>
   obtain⟨x0,e,ni,hx⟩:=h;exact⟨x0,e,λz=>ni (Dw _ z),hx⟩
theorem vX{α β:Type}{F G L:α->β->Prop}(h:∀a a0 b,F a b->G a0 b->L a b):∀{l l0:List α}{r:List β},Paired F l r->Paired G l0 r->Paired L l r
 |_,_,_,.nil,.nil=>.nil
 |_,_,_,.cons p q,.cons p0 q0=>.cons (h _ _ _ p p0) (vX h q q0)
theorem ObjR.less(r:ObjR A (ι++m) H a o)(r0:ObjR A ι H0 a0 o):ObjR A ι H a o:=by
 cases o with
 |lst=>obtain⟨vs,e,r⟩:=r;obtain⟨_,_,r0⟩:=r0;exact⟨vs,e,vX (λ_ _ _ p q=>p.less q) r r0⟩
 |tup=>obtain⟨vs,e,r⟩:=r;obtain⟨_,_,r0⟩:=r0;exact⟨vs,e,vX (λ_ _ _ p q=>p.less q) r r0⟩
 |ins=>obtain⟨dx,gs,e,ed,nd,r⟩:=r;obtain⟨_,_,_,_,_,r0⟩:=r0;exact⟨dx,gs,e,ed,λz=>nd (Dw _ z),vX (λ_ _ _ p q=>⟨p.1,p.2.less q.2⟩) r r0⟩
 |dK=>obtain⟨gs,e,r⟩:=r;obtain⟨_,_,r0⟩:=r0;exact⟨gs,e,vX (λ_ _ _ p q=>⟨p.1,p.2.less q.2⟩) r r0⟩
 |dF=>obtain⟨e,r⟩:=r;obtain⟨_,r0⟩:=r0;exact⟨e,vX (λ_ _ _ p q=>⟨p.1,p.2.less q.2⟩) r r0⟩
 |tab=>obtain⟨ps,e,t,z⟩:=r;exact⟨ps,e,t,z.imp id λ⟨c,h1,h2,h3⟩=>⟨c,h1,h2,λz=>h3 (Dw _ z)⟩⟩
theorem Wd.trim(w:Wd A (ι++m) H M')(w0:Wd A ι H0 M)(h:zR M M'):Wd A ι H (M'.take M.length):=by
 have hl:M.length<=M'.length:=by
  have:=w.len;rw[Dj,w0.len]at this;lia
 refine⟨(DW.mp w.nd).1,by rw[D0,Rr hl];exact w0.len,w.dom,λx hx=>w.na x (Dw _ hx),λk a o e1 e2=>?_⟩;have hk:=(Dc.mp e1).1;rw[Ba (by rw[<-w0.len];exact hk)]at e2;have r:=w.obj k a o (by rw[De hk];exact e1) e2;rcases h k o (by rw[<-w0.len];lia) e2 with z|⟨ts,rfl⟩
 ·exact r.less (w0.obj k a o e1 z)
 ·obtain⟨vs,e,q⟩:=r
  refine⟨vs,e,?_⟩;have q2:=q.pures;exact RepTs.ups (Paired.mapP q2 λ_ _ q=>q.mono λx o hx ex=>⟨ex,λz=>hx (z.elim .inl λz=>.inr (Dw _ z))⟩)
theorem q6Z(hu:LS t u)(hb:∀us M Qu,G us M Qu->u { nx:=λ_ M'=>zR M M'/\Qu (.p .non) (M'.take M.length),rt:=λz M'=>zR M M'/\∃t,frzB M.length 4 M' z=some t/\Qu (.p t) (M'.take M.length) } (xz N us) M)(h:spU G vs H Q E):t { nx:=λ_ H'=>Q .non H',rt:=Q } (start N vs) H:=by
 obtain⟨B,ι,M,us,Qu,w1,r,g,kk⟩:=h;have less:∀{a6:List Addr}{H1:Hp},Le ι H a6 H1->Le ι H ι H1:=λl=>⟨⟨[],by simp,by simp⟩,l.fr,l.al⟩;refine hu B ι _ H _ M _ { nx:=λ_ M'=>zR M M'/\Qu _ _,rt:=λz M'=>zR M M'/\∃t,frzB M.length 4 M' z=some t/\Qu _ _ } w1 (xU r) ⟨λa6 cY H1 fW M1 l1 w2 e1 q1=>?_,λa6 v H1 z M1 l1 w2 r1 q1=>?_,λ_ _ _ _ _ _ _ _ q=>q.elim,λ_ _ _ _ _ _ _ _ q=>q.elim⟩ (hb us M Qu g)
 ·obtain⟨tr,q⟩:=q1
  obtain⟨m,rfl,_⟩:=id l1.ext;exact kk _ _ ι _ H1 (less l1) (w2.trim w1 tr) (.p .non) q
 ·obtain⟨tr,t1,et,q⟩:=q1
  obtain⟨m,rfl,_⟩:=id l1.ext;rw[<-w1.len]at et;exact kk _ _ ι v H1 (less l1) (w2.trim w1 tr) (.p (Vr w2 r1 et)) q
theorem Fun.okV{st:Stmt}(F:Fun Ξ x ac st f fd)(S:q01 N ps (qw st))(len:∀us M Qu,G us M Qu->us.length=ps.length)(aC:∀(ap:Value)(A:Around)(outer:List Env)(s:Shared)(H:Hp)(E:XK),Room k (A.deeper (envOfC ac (qw st) s.heap.objs.size f ap)) ->
   ∃t,PSs (cxOf CX0 P w Ξ mg base N ac (qw st) f ap A outer s H E).nox (vg st) t/\∃u,LS t u/\∀us M Qu,G us M Qu->u { nx:=λ_ M'=>zR M M'/\Qu (.p .non) (M'.take M.length),rt:=λz M'=>zR M M'/\∃t,frzB M.length 4 M' z=some t/\Qu (.p t) (M'.take M.length) } (xz N us) M):FnOk P w Ξ mg base CX0 (k+1) f fd ps (spU G):=by
 refine F.ok S (λvs H Q E h=>?_) (λap A outer s H vs Q E hr h=>?_)
 ·obtain⟨A,ι,M,us,Qu,w1,r,g,_⟩:=h
  rw[r.len];exact len us M Qu g
 ·obtain⟨t,ht,u,hu,hb⟩:=aC ap A outer s H E hr
  exact⟨t,ht,q6Z hu hb h⟩
noncomputable def keyU:Key->U
 |.inl i=>.p (.int i)
 |.inr x=>.p (.str x)
 |.non=>.p .non
noncomputable def valU(kvs:List (Key×U))(k:Key):Option U:=(kvs.find? λkv=>decide (kv.1=k)).map (·.2)
noncomputable def putU(kvs:List (Key×U))(k:Key)(y:U):List (Key×U):=if kvs.any (λkv=>decide (kv.1=k)) then kvs.map (λkv=>if kv.1=k then(kv.1,y) else kv) else kvs++[(k,y)]
noncomputable def xC(kvs bc:List (Key×U)):List (Key×U):=bc.foldl (λa7 kv=>putU a7 kv.1 kv.2) kvs
abbrev KR(A:Addr->Prop)(ι:List Addr)(H:Hp):List (Key×V)->List (Key×U)->Prop:=Paired λ(g:Key×V) (f:Key×U)=>g.1=f.1/\RepU A ι H g.2 f.2
theorem QZ(r:KR A ι H gs kvs):match valU kvs k with|some u=>∃v,valV gs k=some v/\RepU A ι H v u|none=>valV gs k=none:=by
 induction r with
 |nil=>rfl
 | @cons g f gs kvs p q ih=>
  obtain⟨e,r⟩:=p;unfold valU valV at ih ⊢;simp only[RE];by_cases h:f.1=k
  ·rw[e]
   simp only[h,decide_true];exact⟨_,rfl,r⟩
  ·rw[e]
   simp only[h,UU];exact ih
theorem q5j(r:KR A ι H gs kvs):(gs.any λkv=>decide (kv.1=k))=(kvs.any λkv=>decide (kv.1=k)):=by
 induction r with
 |nil=>rfl
 |cons p q ih=>rw[Rk,Rk,ih,p.1]
theorem XG(r:KR A ι H gs kvs)(rv:RepU A ι H v u):KR A ι H (gs.map λkv=>if kv.1=k then(kv.1,v) else kv) (kvs.map λkv=>if kv.1=k then(kv.1,u) else kv):=by
 induction r with
 |nil=>exact .nil
 | @cons g f gs kvs p q ih=>
  refine .cons ?_ ih;show(if g.1=k then(g.1,v) else g).1=(if f.1=k then(f.1,u) else f).1/\RepU A ι H (if g.1=k then(g.1,v) else g).2 (if f.1=k then(f.1,u) else f).2;by_cases h:f.1=k
  ·rw[Ul h,Ul (p.1.trans h)];exact⟨p.1,rv⟩
  ·rw[Ui h,Ui (λz=>h (p.1.symm.trans z))];exact p
theorem Wg(r:KR A ι H gs kvs)(rv:RepU A ι H v u):KR A ι H (putK gs k v) (putU kvs k u):=by
 unfold putK putU;rw[q5j r];split
 ·exact XG r rv
 ·exact r.app (.cons ⟨rfl,rv⟩ .nil)
theorem Gd(q:KR A ι H bc moreU):∀{gs:List (Key×V)}{kvs:List (Key×U)},KR A ι H gs kvs->KR A ι H (kH gs bc) (xC kvs moreU):=by
 unfold kH xC
 induction q with
 |nil=>intro gs kvs r;exact r
 |cons p q ih=>
  intro gs kvs r;rw[List.foldl_cons,p.1];exact ih (Wg r p.2)
inductive LPs:List (TE×TE)->List (UE×UE)->Prop
 |nil:LPs [] []
 |cons {tk tv:TE}{uk uv:UE}{ts:List (TE×TE)}{us:List (UE×UE)}:LE tk uk->LE tv uv->LPs ts us->LPs ((tk,tv)::ts) ((uk,uv)::us)
def Ji:List (UE×UE)->UEnv->MM->(List (U×U)->MM->Prop)->Prop
 | [],_,M,Q=>Q [] M
 | (k,v)::r,ρ,M,Q=>k ρ M λx M1=>v ρ M1 λy M2=>Ji r ρ M2 λps M3=>Q ((x,y)::ps) M3
theorem q3Q(h:LPs er ia):∀(A:Addr->Prop)(ι:List Addr)(σ:St)(H:Hp)(ρ:UEnv)(M:MM)(Qu:List (U×U)->MM->Prop)(Q:List (V×V)->Hp->Prop),Wd A ι H M->EnvR A ι H σ ρ->Ji ia ρ M Qu ->
  (∀us M' ae vs H',Le ι H ae H'->Wd A ae H' M'->Paired (λ(x:V×V) (y:U×U)=>RepU A ae H' x.1 y.1/\RepU A ae H' x.2 y.2) vs us->Qu us M'->Q vs H')->Jq er σ H Q:=by
 induction h with
 |nil=>intro A ι σ H ρ M Qu Q w e q k;exact k [] M ι [] H (.refl _ _) w .nil q
 |cons h1 h2 h3 ih=>
  intro A ι σ H ρ M Qu Q w e q k;refine h1 A ι σ H ρ M _ _ w e q λx M1 a6 v1 H1 l1 w1 r1 q1=>?_;refine h2 A a6 σ H1 ρ M1 _ _ w1 (e.le l1) q1 λy M2 a9 v2 H2 l2 w2 r2 q2=>?_;refine ih A a9 σ H2 ρ M2 _ _ w2 (e.le (l1.trans l2)) q2 λus M3 ca vs H3 l3 w3 r3 q3=>?_;exact k _ M3 ca _ H3 ((l1.trans l2).trans l3) w3 (.cons ⟨(r1.le l2).le l3,r2.le l3⟩ r3) q3
def q3u(ia:List (UE×UE)):UE:=λρ M Q=>Ji ia ρ (M++[.dK []]) λps M2=>M2[M.length]?=some (.dK [])/\∃kvs:List (Key×U),ps=kvs.map (λkv=>(keyU kv.1,kv.2))/\kvs.length<=15/\Q (.m M.length) (M2.set M.length (.dK (xC [] kvs)))
theorem jq(r:RepU A ι H v (keyU k)):v=kV k:=by
 cases k with
 |inl i=>cases r with|p r=>cases r;rfl
 |inr x=>cases r with|p r=>cases r;rfl
 |non=>cases r with|p r=>cases r;rfl
theorem Gp:∀{kvs:List (Key×U)}{vs:List (V×V)},Paired (λ(x:V×V) (y:U×U)=>RepU A ι H x.1 y.1/\RepU A ι H x.2 y.2) vs (kvs.map λkv=>(keyU kv.1,kv.2))->∃gs:List (Key×V),vs=gs.map (λkv=>(kV kv.1,kv.2))/\KR A ι H gs kvs
 | [],_,.nil=>⟨[],rfl,.nil⟩
 |kv::kvs,(a,b)::_,.cons p q=>by
  obtain⟨gs,rfl,r⟩:=Gp q;refine⟨(kv.1,b)::gs,?_,.cons ⟨rfl,p.2⟩ r⟩;rw[DD];have:=jq p.1;simp only at this;rw[this]
def qaF(M:MM)(x y:U)(Q:UK):Prop:=∃k kvs aD w,x=.m k/\M[k]?=some (.dK kvs)/\y=keyU aD/\valU kvs aD=some w/\Q w M
def q6Y(ua ub:UE):UE:=λρ M Q=>ua ρ M λx M1=>ub ρ M1 λy M2=>qaF M2 x y Q
theorem q4H:q6Y ua ub ρ M Q=ua ρ M λx M1=>ub ρ M1 λy M2=>qaF M2 x y Q:=rfl
theorem Kd(h1:M[k]?=some (.dK kvs))(h2:valU kvs (.inr x)=some w)(q:Q w M):qaF M (.m k) (.p (.str x)) Q:=⟨k,kvs,.inr x,w,rfl,h1,rfl,h2,q⟩
theorem Ke(h1:M[k]?=some (.dK kvs))(h2:valU kvs (.inl x)=some w)(q:Q w M):qaF M (.m k) (.p (.int x)) Q:=⟨k,kvs,.inl x,w,rfl,h1,rfl,h2,q⟩
def uIfC(c:UT)(t1 t2:T):UE:=λρ M Q=>c ρ M λb M1=>Q (.p (if b=true then t1 else t2)) M1
theorem q21[Decidable c]:(if c then T.int a else T.int b)=T.int (if c then a else b):=by split<;>rfl
theorem q1e[Decidable c]:(if c then T.str a else T.str b)=T.str (if c then a else b):=by split<;>rfl
noncomputable def itV(x:U)(us:List U):UIt:=⟨us.length,λM=>qB M x=some us,λi z=>us[us.length-1-i]?=some z⟩
def RevS(us:List U)(M:MM)(R:UIt->MM->Prop):Prop:=∃x ys,us=[x]/\qB M x=some ys/\R (itV x ys) M
theorem q6h:uRev ul ρ M R=ul ρ M λus M1=>RevS us M1 R:=rfl
theorem q5o:RevS [.p (.lst ts)] M R=R (itV (.p (.lst ts)) (ts.map U.p)) M:=propext ⟨λzz=>by obtain⟨_,_,e1,e2,h⟩:=zz;cases e1;cases e2;exact h,λh=>⟨_,_,rfl,rfl,h⟩⟩
theorem q0h(Iv:Nat->UEnv->MM->Prop)(h0:Iv 0 ρ M)(hs:∀i t ar M2,i<ts.length->ts[ts.length-1-i]?=some t->Iv i ar M2->ug (.p t) ar M2 λeI M3=>ub { E with nx:=Iv (i+1),ct:=Iv (i+1),bk:=E.nx } eI M3)(hd:∀ar M2,Iv ts.length ar M2->E.nx ar M2):UFor (itV (.p (.lst ts)) (ts.map U.p)) ug ub E ρ M:=by
 refine⟨Iv,h0,λi ar M2 hi h=>⟨rfl,λu hu=>?_⟩,λar M2 h=>⟨rfl,hd ar M2 (by simpa[itV]using h)⟩⟩;have hu:_[(ts.map U.p).length-1-i]?=some u:=hu;have hi:i<(ts.map U.p).length:=hi;rw[Dg]at hu hi;rw[Dy]at hu;cases e:ts[ts.length-1-i]? with
 |none=>rw[e]at hu;cases hu
 |some t=>rw[e]at hu;cases hu;exact hs i t ar M2 hi e h
theorem q8r:ChS s' uc ρ M y Q (.bl b)=if b=true then uc ρ M λc M3=>OpS s' M3 y c Q else Q (.p (.bl false)) M :=
 propext ⟨λzz=>by obtain⟨k,e,h⟩:=zz;cases e;exact h,λh=>⟨b,rfl,h⟩⟩
def q4I:List U->List U->(U->List U->Prop)->Prop:=λus ws Q=>∃(ts:List T)(y:T)(j:Nat)(e:Nat->Bool),us=ts.map U.p/\ws=[.p y]/\j<ts.length/\e j=true/\(∀m,m<j->e m=false)/\(∀(m:Nat) z,m<=j->ts[m]?=some z->EqT 20 z y (e m))/\Q (.p .non) ((ts.eraseIdx j).map U.p)
theorem Zl{α β:Type}(f:α->β):∀(l:List α)(j:Nat),(l.eraseIdx j).map f=(l.map f).eraseIdx j
 | [],_=>rfl
 |_::_,0=>rfl
 |x::l,j+1=>by rw[Bj,DD,DD,Bj,Zl f l j]
theorem KP:MeL (Xq Ξ) q4I:=λA ι H M k a xs ys us ws Qs Q w ek h1 h2 rx ry ⟨ts,y,j,e,eu,ew,hj,rl,rn,hd,q⟩ kk=>by
 subst eu ew;cases ry with
 |cons r q'=>
 cases q';cases r with
 |p r=>
 have rp:=rx.pures;refine⟨a,xs,_,j,e,rfl,rfl,h1,by rw[rp.len];exact hj,rl,rn,λm z hm hz=>?_,kk _ _ _ _ (RepTs.ups (rp.erase j)) (.p .non) q⟩;obtain⟨b,hb,rb⟩:=Paired.getL rp hz;exact(hd m b hm hb).de rb r
def KTu(Ξ:PySem.W.Frag)(p:Addr)(vs:List V):Prop:=∀H,SqT Ξ H p vs
theorem Tup3.kt{mg:Str->Option Value}(T3:Tup3 Ξ mg nm p x y z):KTu Ξ p [.str x,.str y,.str z]:=T3.sq
theorem q1I{α β:Type}{F:α->β->Prop}{vs:List α}{ts:List β}{i:Int}{z:β}(r:Paired F vs ts)(e:atI ts i=some z):∃x,atI vs i=some x/\F x z:=by
 unfold atI at e ⊢;rw[r.len];cases q:ixN ts.length i with
 |none=>rw[q]at e;cases e
 |some j=>
  rw[q]at e;exact Paired.getR r e
theorem YC:∀xs:List Str,Paired Sc (xs.map V.str) (xs.map T.str)
 | []=>.nil
 |x::xs=>.cons (.str x) (YC xs)
def uIxK(ts:List T)(ub:UE):UE:=λρ M Q=>ub ρ M λy M1=>IntS y λi=>∃t,atI ts i=some t/\Q (.p t) M1
inductive TyC where
 |int|bool|str|list|tuple
noncomputable def TyC.name:TyC->String
 |.int=> "int" |.bool=> "bool" |.str=> "str" |.list=> "list" |.tuple=> "tuple"
noncomputable def isT:T->TyC->Bool
 |.int _,.int=>true
 |.bl _,.int=>true
 |.bl _,.bool=>true
 |.str _,.str=>true
 |.lst _,.list=>true
 |.tup _,.tuple=>true
 |_,_=>false
noncomputable def isU(M:MM):U->TyC->Option Bool
 |.p t,c=>some (isT t c)
 |.m k,c=>match M[k]? with
  |some (.lst _)=>some (isT (.lst []) c)
  |some (.tup _)=>some (isT (.tup []) c)
  |_=>none
 |.x _ _ _,_=>none
theorem q3M(w:Wd A ι H M)(r:RepU A ι H v u)(e:isU M u c=some b):∃t,TyOf Ξ H v (.type t)/\W.kitOne Ξ (.type t) (.type c.name)=some b:=by
 cases r with
 |p r=>
  simp[isU,Option.some.injEq]at e;subst e;cases r with
  |non=>exact⟨_,.non,by cases c<;>rfl⟩
  |bl b=>exact⟨_,.bl b,by cases c<;>rfl⟩
  |int i=>exact⟨_,.int i,by cases c<;>rfl⟩
  |str x=>exact⟨_,.str x,by cases c<;>rfl⟩
  |tup na e l r=>exact⟨_,.tup e,by cases c<;>rfl⟩
  |lst na e l r=>exact⟨_,.lst e,by cases c<;>rfl⟩
 |m q=>
  obtain⟨o,h1,h2⟩:=w.al q;simp[isU,h1]at e;cases o with
  |lst us=>simp at e;subst e;obtain⟨vs,h3,_⟩:=h2;exact⟨_,.lst h3,by cases c<;>rfl⟩
  |tup us=>simp at e;subst e;obtain⟨vs,h3,_⟩:=h2;exact⟨_,.tup h3,by cases c<;>rfl⟩
  |ins=>simp at e
  |dK=>simp at e
  |dF=>simp at e
  |tab=>simp at e
 |x h=>simp[isU]at e
def uIsi(c:TyC)(ua:UE):UE:=λρ M Q=>ua ρ M λx M1=>∃b,isU M1 x c=some b/\Q (.p (.bl b)) M1
def q7R(neg:Bool):T->T->(T->Prop)->Prop:=λa b Q=>∃xs ys,∃e:Nat->Bool,a=.tup xs/\b=.tup ys/\(∀(j:Nat) x y,xs[j]?=some x->ys[j]?=some y->EqT 20 x y (e j))/\Q (.bl (if neg then !((List.range (min xs.length ys.length)).all e&&xs.length==ys.length) else((List.range (min xs.length ys.length)).all e&&xs.length==ys.length)))
theorem q4N:OpL (rEqT Ξ) (q7R false):=λA ι H M x y a b Qs Q w r1 r2 ⟨xs,ys,e,ea,eb,he,q⟩ k=>by
 subst ea eb;obtain⟨p,vs,rfl,h1,q1⟩:=r1.tup_inv;obtain⟨p2,cB,rfl,h2,q2⟩:=r2.tup_inv;refine⟨p,p2,vs,cB,e,rfl,rfl,SqT.of h1,SqT.of h2,λj x y hx hy=>?_,by rw[q1.len,q2.len];exact k _ ι _ H (.refl _ _) w (.bl _) q⟩;obtain⟨a,ha,ra⟩:=Paired.getL q1 hx;obtain⟨b,hb,rb⟩:=Paired.getL q2 hy;exact(he j a b ha hb).de ra rb
def q6O:UE:=λ_ M Q=>Q (.m M.length) (M++[.dK []])
def DInS(neg:Bool)(M:MM)(y x:U)(Q:UK):Prop:=∃k kvs aD,x=.m k/\M[k]?=some (.dK kvs)/\y=keyU aD/\Q (.p (.bl (if neg then !(valU kvs aD).isSome else(valU kvs aD).isSome))) M
def uDIn(neg:Bool)(ua ub:UE):UE:=λρ M Q=>ua ρ M λy M1=>ub ρ M1 λx M2=>DInS neg M2 y x Q
theorem Kc{k:Nat}(w:Wd A ι H M)(ek:ι[k]?=some a)(em:M[k]?=some (.dK kvs))(ry:RepU A ι H y (keyU aD)):∃o,DGet H a y o/\o.isSome=(valU kvs aD).isSome:=by
 obtain⟨gs,h1,h2⟩:=w.obj k a _ ek em;have hv:=QZ (k:=aD) h2;have:=DGet.k (k:=aD) h1;rw[<-jq ry]at this;refine⟨_,this,?_⟩;cases e:valU kvs aD with
 |none=>rw[e]at hv;simp only at hv;rw[hv];rfl
 |some u=>rw[e]at hv;obtain⟨x,hx,_⟩:=hv;rw[hx];rfl
def q4E(M:MM)(x y v:U)(R:MM->Prop):Prop:=∃k kvs aD,x=.m k/\M[k]?=some (.dK kvs)/\y=keyU aD/\kvs.length<sizeLine/\R (M.set k (.dK (putU kvs aD v)))
def q6k(ud uy uv:UE):US:=λE ρ M=>uv ρ M λv M1=>ud ρ M1 λx M2=>uy ρ M2 λy M3=>q4E M3 x y v λM4=>E.nx ρ M4
theorem q6T:uDIn neg ua ub ρ M Q=ua ρ M λy M1=>ub ρ M1 λx M2=>DInS neg M2 y x Q:=rfl
theorem q5w:q6k ud uy uv E ρ M=uv ρ M λv M1=>ud ρ M1 λx M2=>uy ρ M2 λy M3=>q4E M3 x y v λM4=>E.nx ρ M4:=rfl
theorem Vy(h1:M[k]?=some (.dK kvs))(q:Q (.p (.bl (if neg then !(valU kvs (.inl x)).isSome else(valU kvs (.inl x)).isSome))) M):DInS neg M (.p (.int x)) (.m k) Q:=⟨k,kvs,.inl x,rfl,h1,rfl,q⟩
theorem jk(h1:M[k]?=some (.dK kvs))(hz:kvs.length<sizeLine)(q:R (M.set k (.dK (putU kvs (.inl x) v)))):q4E M (.m k) (.p (.int x)) v R:=⟨k,kvs,.inl x,rfl,h1,rfl,hz,q⟩
def IdxS(us:List U)(xs:List Str)(M:MM)(Q:UK):Prop:=∃(t:Str)(j:Nat),us=[.p (.str t)]/\xs[j]?=some t/\(∀m,m<j->xs[m]?≠some t)/\Q (.p (.int j)) M
def q6D(xs:List Str)(ul:UA):UE:=λρ M Q=>ul ρ M λus M1=>IdxS us xs M1 Q
theorem q5m:q6D xs ul ρ M Q=ul ρ M λus M1=>IdxS us xs M1 Q:=rfl
theorem gdIx(h:IxS it M x y Q):IxS it M x y Q:=h
theorem gdMe(h:MeS s ul ρ M o Q):MeS s ul ρ M o Q:=h
abbrev FR(A:Addr->Prop)(ι:List Addr)(H:Hp):List (Str×V)->List (Str×U)->Prop:=Paired (λ(g:Str×V) (f:Str×U)=>g.1=f.1/\RepU A ι H g.2 f.2)
theorem JQ(r:FR A ι H gs fs)(e:fs.lookup f=some u):∃v,gs.lookup f=some v/\RepU A ι H v u:=by
 induction r with
 |nil=>cases e
 | @cons g h gs fs a _ ih=>
  obtain⟨g1,g2⟩:=g;obtain⟨h1,h2⟩:=h;obtain⟨e1,r1⟩:=a;simp only at e1 r1;subst e1;rw[DP]at e ⊢;cases hk:f==g1 with
  |true=>rw[hk]at e;cases e;exact⟨_,rfl,r1⟩
  |false=>rw[hk]at e;exact ih e
theorem Zm(r:FR A ι H gs fs)(e:fs.lookup f=none):gs.lookup f=none:=by
 induction r with
 |nil=>rfl
 | @cons g h gs fs a _ ih=>
  obtain⟨g1,g2⟩:=g;obtain⟨h1,h2⟩:=h;obtain⟨e1,r1⟩:=a;simp only at e1 r1;subst e1;rw[DP]at e ⊢;cases hk:f==g1 with
  |true=>rw[hk]at e;cases e
  |false=>rw[hk]at e;exact ih e
noncomputable def k8(f:Str)(v:U):List (Str×U)->List (Str×U)
 | []=>[(f,v)]
 | (g,x)::r=>if g=f then(g,v)::r else(g,x)::k8 f v r
theorem JK(r:FR A ι H gs fs)(rv:RepU A ι H v u):FR A ι H (putF f v gs) (k8 f u fs):=by
 induction r with
 |nil=>exact .cons ⟨rfl,rv⟩ .nil
 | @cons g h gs fs a rr ih=>
  obtain⟨g1,g2⟩:=g;obtain⟨h1,h2⟩:=h;obtain⟨e1,r1⟩:=a;simp only at e1 r1;subst e1;unfold putF k8;by_cases hk:g1=f
  ·rw[Ul hk,Ul hk];exact .cons ⟨rfl,rv⟩ rr
  ·rw[Ui hk,Ui hk];exact .cons ⟨rfl,r1⟩ ih
def FldS(Ξ:PySem.W.Frag)(f:Str)(x:U)(M:MM)(Q:UK):Prop:=∃k C fs u,x=.m k/\M[k]?=some (.ins C fs)/\Cls Ξ C/\NoAttr Ξ C f/\fs.lookup f=some u/\Q u M
def uFld(Ξ:PySem.W.Frag)(ua:UE)(f:Str):UE:=λρ M Q=>ua ρ M λx M1=>FldS Ξ f x M1 Q
def Jd(Ξ:PySem.W.Frag)(f:Str)(x y:U)(M:MM)(R:MM->Prop):Prop:=∃k C fs,x=.m k/\M[k]?=some (.ins C fs)/\Cls Ξ C/\NoAttr Ξ C f/\fs.length<1000/\R (M.set k (.ins C (k8 f y fs)))
def Xd(Ξ:PySem.W.Frag)(ua uv:UE)(f:Str):US:=λE ρ M=>uv ρ M λy M1=>ua ρ M1 λx M2=>Jd Ξ f x y M2 λM3=>E.nx ρ M3
def qaE(C:Addr)(m:Str)(x:U)(M:MM)(R:Prop):Prop:=∃k fs,x=.m k/\M[k]?=some (.ins C fs)/\fs.lookup m=none/\R
def q7o(C:Addr)(m:Str)(G:List U->MM->UK->Prop)(ua:UE)(ul:UA):UE:=λρ M Q=>ua ρ M λx M1=>qaE C m x M1 (ul ρ M1 λus M2=>G (x::us) M2 Q)
def q7X(C:Addr)(G:List U->MM->UK->Prop)(ul:UA):UE:=λρ M Q=>ul ρ M λus M1=>G (.m M1.length::us) (M1++[.ins C []]) λv M2=>v=.p .non/\Q (.m M1.length) M2
def q41(M:MM)(x y:U)(Q:UK):Prop:=∃xs k,x=.p (.lst xs)/\y=.p (.int k) /\ -(2^63)<=k/\k<2^63/\xs.length*k.toNat<=sizeLine/\Q (.m M.length) (M++[.lst ((List.replicate k.toNat xs).flatten.map U.p)])
def Xc(ua ub:UE):UE:=λρ M Q=>ua ρ M λx M1=>ub ρ M1 λy M2=>q41 M2 x y Q
noncomputable def flT:T->Bool
 |.int _=>true
 |.str _=>true
 |_=>false
def sEqW:T->T->(T->Prop)->Prop:=λa b Q=>sEq false a b Q\/q7R false a b Q\/(∃xs,flT a=true/\b=.tup xs/\Q (.bl false))\/∃xs,flT b=true/\a=.tup xs/\Q (.bl false)
theorem GY(h:flT t=true)(r:RepV A H v t):GX v=true:=by
 cases t with
 |int i=>rw[r.int_inv];rfl
 |str i=>rw[r.str_inv];rfl
 |_=>cases h
theorem q5t:OpL (λx y H Q=>rEq x y H Q\/rEqT Ξ x y H Q\/q5x Ξ x y H Q\/q4J Ξ x y H Q) sEqW:=λA ι H M x y a b Qs Q w r1 r2 h k=>by
 rcases h with h|h|⟨xs,hf,eb,q⟩|⟨xs,hf,ea,q⟩
 ·exact .inl (Wx A ι H M x y a b Qs Q w r1 r2 h k)
 ·exact .inr (.inl (q4N A ι H M x y a b Qs Q w r1 r2 h k))
 ·subst eb
  obtain⟨p,vs,rfl,h1,q1⟩:=r2.tup_inv;exact .inr (.inr (.inl ⟨p,vs,GY hf r1,rfl,SqT.of h1,k _ ι _ H (.refl _ _) w (.bl _) q⟩))
 ·subst ea
  obtain⟨p,vs,rfl,h1,q1⟩:=r1.tup_inv;exact .inr (.inr (.inr ⟨p,vs,GY hf r2,rfl,SqT.of h1,k _ ι _ H (.refl _ _) w (.bl _) q⟩))
def SubS(M:MM)(o i u:U)(R:MM->Prop):Prop:=∃k us z j,o=.m k/\M[k]?=some (.lst us)/\i=.p (.int z)/\ixN us.length z=some j/\R (M.set k (.lst (us.set j u)))
theorem q6d:uSub ua ub u ρ M Q=ua ρ M λo M1=>ub ρ M1 λi M2=>SubS M2 o i u λM3=>Q ρ M3:=rfl
theorem rep4(r:RepUs A ι H vs [a,b,c,d]):∃x y z s,vs=[x,y,z,s]/\RepU A ι H x a/\RepU A ι H y b/\RepU A ι H z c/\RepU A ι H s d:=by
 cases r with
 |cons r q=>
  obtain⟨y,z,s,rfl,r2,r3,r4⟩:=rep3 q;exact⟨_,_,_,_,rfl,r,r2,r3,r4⟩
def q2l(i j k l:Nat):UG:=λu ρ M Q=>∃a b c d,vI M u=some [a,b,c,d]/\Q ((((ρ.set i (some a)).set j (some b)).set k (some c)).set l (some d)) M
def T4S(M:MM)(u:U)(R:U->U->U->U->Prop):Prop:=∃a b c d,vI M u=some [a,b,c,d]/\R a b c d
theorem q0p:q2l i j k l u ρ M R=T4S M u λa b c d=>R ((((ρ.set i (some a)).set j (some b)).set k (some c)).set l (some d)) M:=rfl
theorem q88:T4S M (.p (.tup [a,b,c,d])) R=R (.p a) (.p b) (.p c) (.p d):=propext ⟨λzz=>by obtain⟨_,_,_,_,e,h⟩:=zz;cases e;exact h,λh=>⟨_,_,_,_,rfl,h⟩⟩
def P2S(us:List U)(R:U->U->Prop):Prop:=∃a b,us=[a,b]/\R a b
def P3S(us:List U)(R:U->U->U->Prop):Prop:=∃a b c,us=[a,b,c]/\R a b c
def uPar(i j:Nat)(ul:UA):US:=λE ρ M=>ul ρ M λus M1=>P2S us λa b=>E.nx ((ρ.set i (some a)).set j (some b)) M1
def q66(i j k:Nat)(ul:UA):US:=λE ρ M=>ul ρ M λus M1=>P3S us λa b c=>E.nx (((ρ.set i (some a)).set j (some b)).set k (some c)) M1
theorem q5M:uPar i j ul E ρ M=ul ρ M λus M1=>P2S us λa b=>E.nx ((ρ.set i (some a)).set j (some b)) M1:=rfl
theorem q4j:q66 i j k ul E ρ M=ul ρ M λus M1=>P3S us λa b c=>E.nx (((ρ.set i (some a)).set j (some b)).set k (some c)) M1:=rfl
theorem q8I:P2S [a,b] R=R a b:=propext ⟨λzz=>by obtain⟨_,_,e,h⟩:=zz;cases e;exact h,λh=>⟨a,b,rfl,h⟩⟩
theorem q8L:P3S [a,b,c] R=R a b c:=propext ⟨λzz=>by obtain⟨_,_,_,e,h⟩:=zz;cases e;exact h,λh=>⟨a,b,c,rfl,h⟩⟩
theorem q7A:uFld Ξ ua f ρ M Q=ua ρ M λx M1=>FldS Ξ f x M1 Q:=rfl
theorem YZ:Xd Ξ ua uv f E ρ M=uv ρ M λy M1=>ua ρ M1 λx M2=>Jd Ξ f x y M2 λM3=>E.nx ρ M3:=rfl
theorem q52:q7o C m G ua ul ρ M Q=ua ρ M λx M1=>qaE C m x M1 (ul ρ M1 λus M2=>G (x::us) M2 Q):=rfl
theorem q3o:q7X C G ul ρ M Q=ul ρ M λus M1=>G (.m M1.length::us) (M1++[.ins C []]) λv M2=>v=.p .non/\Q (.m M1.length) M2:=rfl
theorem YW:Xc ua ub ρ M Q=ua ρ M λx M1=>ub ρ M1 λy M2=>q41 M2 x y Q:=rfl
theorem zq(c:Cls Ξ C)(na:NoAttr Ξ C f)(e:M[k]?=some (.ins C fs))(lk:fs.lookup f=some u)(q:Q u M):FldS Ξ f (.m k) M Q:=⟨k,C,fs,u,rfl,e,c,na,lk,q⟩
theorem vF(c:Cls Ξ C)(na:NoAttr Ξ C f)(e:M[k]?=some (.ins C fs))(hz:fs.length<1000)(q:R (M.set k (.ins C (k8 f y fs)))):Jd Ξ f (.m k) y M R:=⟨k,C,fs,rfl,e,c,na,hz,q⟩
theorem q5g(e:M[k]?=some (.ins C fs))(lk:fs.lookup m=none)(q:R):qaE C m (.m k) M R:=⟨k,fs,rfl,e,lk,q⟩
theorem YU(k0 : -(2^63)<=k)(k1:k<2^63)(hz:xs.length*k.toNat<=sizeLine)(q:Q (.m M.length) (M++[.lst ((List.replicate k.toNat xs).flatten.map U.p)])):q41 M (.p (.lst xs)) (.p (.int k)) Q:=⟨xs,k,rfl,rfl,k0,k1,hz,q⟩
def gNo:List U->MM->UK->Prop:=λ_ _ _=>False
theorem FnOk.no:FnOk P w Ξ mg base CX0 k f fd ps (spU gNo):=
 ⟨λvs H Q E ⟨_,_,_,_,_,_,_,h,_⟩=>h.elim,λ_ _ _ _ _ _ _ _ _ _ _ _ _ ⟨_,_,_,_,_,_,_,h,_⟩=>h.elim⟩
structure ZE(a:TE)(b:UE):Prop where
 h:LE a b
structure ZT(a:TT)(b:UT):Prop where
 h:LT a b
structure ZA(n:Nat)(a:TA)(b:UA):Prop where
 h:LA n a b
structure ZO(a:TO)(b:UO):Prop where
 h:LO a b
structure ZI(a:TI)(b:UI):Prop where
 h:LI a b
structure ZG(a:TG)(b:UG):Prop where
 h:LG a b
structure ZX(bs:List Bool)(n:Nat)(a:TG)(b:UG):Prop where
 h:LGx bs n a b
structure ZS(a:TS)(b:US):Prop where
 h:LS a b
structure ZP(a:List (TE×TE))(b:List (UE×UE)):Prop where
 h:LPs a b
theorem q25:ZP [] []:=⟨.nil⟩
theorem xi(a:ZE tk uk)(b:ZE tv uv)(c:ZP ts us):ZP ((tk,tv)::ts) ((uk,uv)::us):=⟨.cons a.h b.h c.h⟩
theorem qar(h:ZP er ia):ZE (q5Z er) (q3u ia):= ⟨by
 have h := h.h;intro A ι σ H ρ M Qu Q w e q k p hp;have w1:Wd A _ _ (M++[.dK []]):=w.push hp ⟨[],upd_same,.nil⟩;have l1:Le ι H _ (upd H p (.dK [])):=.push hp;refine q3Q h A _ σ _ ρ _ _ _ w1 (e.le l1) q λus M2 a9 vs H2 l2 w2 r2 q2=>?_;obtain⟨hm,kvs,rfl,hl,q2⟩:=q2;have ep:a9[M.length]?=some p:=by
  obtain⟨nn,rfl,_⟩:=l2.ext;rw[De (by rw[Dj,w.len];simp), <-w.len];exact xq
 obtain⟨nQ,h1,h2⟩:=w2.obj _ p _ ep hm;cases h2;obtain⟨gs,rfl,rk⟩:=Gp r2;have aI:=Dh ep;refine⟨h1,gs,rfl,by rw[rk.len];exact hl,k _ _ a9 _ _ ((l1.trans l2).trans (.put aI)) (w2.put (mo:=.dK _) ep ⟨_,upd_same,?_⟩) (.m ep) q2⟩;exact Paired.mapP (Gd rk .nil) λ_ _ q=>⟨q.1,q.2.le (.put aI)⟩⟩
theorem qk(i:Nat):ZE (tVar i) (uVar i):= ⟨λA ι σ H ρ M Qu Q w e ⟨u,h,q⟩ k=>by
 obtain⟨v,h1,h2⟩:=e.get h;exact⟨v,h1,k u M ι v H (.refl _ _) w h2 q⟩⟩
theorem ce_c(h:Sc v t):ZE (tC v) (uC t):= ⟨λA ι σ H ρ M Qu Q w e q k=>k _ M ι v H (.refl _ _) w (.p h.rep) q⟩
theorem qK  : ZA 0 tNil uNil:= ⟨λA ι σ H ρ M Qu Q w e q k=>k [] M ι [] H (.refl _ _) w rfl .nil q⟩
theorem qq(ha:ZE ta ua)(hl:ZA n tl ul):ZA (n+1) (vW ta tl) (Xe ua ul):= ⟨have ha := ha.h;have hl := hl.h;λA ι σ H ρ M Qu Q w e q k=>
 ha A ι σ H ρ M _ _ w e q λx M1 a6 v H1 l1 w1 r1 q1=>hl A a6 σ H1 ρ M1 _ _ w1 (e.le l1) q1 λxs M2 a9 vs H2 l2 w2 hn r2 q2=>
  k _ M2 a9 _ H2 (l1.trans l2) w2 (by rw[Dv,hn]) (.cons (r1.le l2) r2) q2⟩
theorem zu(h:OpL r s)(ha:ZE ta ua)(hb:ZE tb ub):ZE (tOp r ta tb) (uOp s ua ub):= ⟨have ha := ha.h;have hb := hb.h;λA ι σ H ρ M Qu Q w e q k=>
 ha A ι σ H ρ M _ _ w e q λx M1 a6 v H1 l1 w1 r1 q1=>hb A a6 σ H1 ρ M1 _ _ w1 (e.le l1) q1 λy M2 a9 v2 H2 l2 w2 r2 ⟨a,b,e1,e2,q2⟩=>
  h A a9 H2 M2 v v2 a b _ Q w2 ((r1.le l2).sn w2 e1) (r2.sn w2 e2) q2 λt ca z H3 l3 w3 r3 q3=>k _ M2 ca z H3 ((l1.trans l2).trans l3) w3 (.p r3) q3⟩
theorem q5R(ha:ZE ta ua):ZE (tOp (λx y H Q=>y=.non/\Q (.bl (decide (x=.non))) H) ta (tC .non)) (uIsN false ua):= ⟨have ha := ha.h;λA ι σ H ρ M Qu Q w e q k=>
 ha A ι σ H ρ M _ _ w e q λx M1 a6 v H1 l1 w1 r1 q1=>⟨rfl,by rw[Zu r1];exact k _ M1 a6 _ H1 l1 w1 (.p (.bl _)) q1⟩⟩
theorem q47(ha:ZE ta ua):ZE (tOp (λx y H Q=>y=.non/\Q (.bl (!decide (x=.non))) H) ta (tC .non)) (uIsN true ua):= ⟨have ha := ha.h;λA ι σ H ρ M Qu Q w e q k=>
 ha A ι σ H ρ M _ _ w e q λx M1 a6 v H1 l1 w1 r1 q1=>⟨rfl,by rw[Zu r1];exact k _ M1 a6 _ H1 l1 w1 (.p (.bl _)) q1⟩⟩
theorem q2k(ha:ZE ta ua):ZE (tUn (rU λi=>.int (-i)) ta) (uNeg ua):= ⟨have ha := ha.h;λA ι σ H ρ M Qu Q w e q k=>
 ha A ι σ H ρ M _ _ w e q λx M1 a6 v H1 l1 w1 r1 zz=>by
  obtain⟨i,ex,q1⟩:=zz;subst ex;cases r1 with
  |p r=>cases r;exact⟨i,rfl,k _ M1 a6 _ H1 l1 w1 (.p (.int _)) q1⟩⟩
theorem ct_b(ha:ZE ta ua):ZT (tB ta) (uB ua):=⟨lt_b ha.h⟩
theorem xR(ha:ZE ta ua):ZT (Q4 ta) (uB ua):= ⟨have ha := ha.h;lt_b ha⟩
theorem q31(ha:ZE ta ua):ZT (tTru Ξ ta) (uTru ua):= ⟨have ha := ha.h;λA ι σ H ρ M Qu Q w e q k=>
 ha A ι σ H ρ M _ _ w e q λx M1 a6 v H1 l1 w1 r1 ⟨b,eb,q1⟩=>⟨b,q48 w1 r1 eb,k b M1 a6 H1 l1 w1 q1⟩⟩
theorem ZQ(ha:ZT tt ut)(hb:ZT tt' ut'):ZT (tAnd tt tt') (uAnd ut ut'):= ⟨have ha := ha.h;have hb := hb.h;λA ι σ H ρ M Qu Q w e q k=>
 ha A ι σ H ρ M _ _ w e q λc M1 a6 H1 l1 w1 q1=>by
  cases c with
  |false=>exact k false M1 a6 H1 l1 w1 q1
  |true=>exact hb A a6 σ H1 ρ M1 _ _ w1 (e.le l1) q1 λb M2 a9 H2 l2 w2 q2=>k b M2 a9 H2 (l1.trans l2) w2 q2⟩
theorem q6n(ha:ZT tt ut)(hb:ZT tt' ut'):ZT (tOr tt tt') (uOr ut ut'):= ⟨have ha := ha.h;have hb := hb.h;λA ι σ H ρ M Qu Q w e q k=>
 ha A ι σ H ρ M _ _ w e q λc M1 a6 H1 l1 w1 q1=>by
  cases c with
  |true=>exact k true M1 a6 H1 l1 w1 q1
  |false=>exact hb A a6 σ H1 ρ M1 _ _ w1 (e.le l1) q1 λb M2 a9 H2 l2 w2 q2=>k b M2 a9 H2 (l1.trans l2) w2 q2⟩
theorem q7b(ha:ZT tt ut):ZT (tNot tt) (uNot ut):= ⟨have ha := ha.h;λA ι σ H ρ M Qu Q w e q k=>
 ha A ι σ H ρ M _ _ w e q λc M1 a6 H1 l1 w1 q1=>k _ M1 a6 H1 l1 w1 q1⟩
theorem q1Q(hc:ZT tt ut)(ha:ZE ta ua)(hb:ZE tb ub):ZE (tIf tt ta tb) (uIf ut ua ub):= ⟨have hc := hc.h;have ha := ha.h;have hb := hb.h;λA ι σ H ρ M Qu Q w e q k=>
 hc A ι σ H ρ M _ _ w e q λc M1 a6 H1 l1 w1 q1=>by
  cases c with
  |true=>exact ha A a6 σ H1 ρ M1 _ _ w1 (e.le l1) q1 λb M2 a9 v2 H2 l2 w2 r2 q2=>k b M2 a9 v2 H2 (l1.trans l2) w2 r2 q2
  |false=>exact hb A a6 σ H1 ρ M1 _ _ w1 (e.le l1) q1 λb M2 a9 v2 H2 l2 w2 r2 q2=>k b M2 a9 v2 H2 (l1.trans l2) w2 r2 q2⟩
theorem Km(h:OpL r s)(h':OpL r' s')(ha:ZE ta ua)(hb:ZE tb ub)(hc:ZE tc uc):ZE (jB r r' ta tb tc) (Jk s s' ua ub uc):= ⟨by
 have ha := ha.h;have hb := hb.h;have hc := hc.h;intro A ι σ H ρ M Qu Q w e q k;refine ha A ι σ H ρ M _ _ w e q λx M1 a6 v H1 l1 w1 r1 q1=>?_;refine hb A a6 σ H1 ρ M1 _ _ w1 (e.le l1) q1 λy M2 a9 v2 H2 l2 w2 r2 q2=>?_;obtain⟨a,b,e1,e2,q2⟩:=q2;refine h A a9 H2 M2 v v2 a b _ _ w2 ((r1.le l2).sn w2 e1) (r2.sn w2 e2) q2 λt ca z H3 l3 w3 r3 q3=>?_;obtain⟨kk,et,q3⟩:=q3;subst et;cases r3;refine⟨kk,rfl,?_⟩;cases kk with
 |false=>exact k _ M2 ca _ H3 ((l1.trans l2).trans l3) w3 (.p (.bl _)) q3
 |true=>
  refine hc A ca σ H3 ρ M2 _ _ w3 (e.le ((l1.trans l2).trans l3)) q3 λc M4 eJ v4 H4 l4 w4 r4 q4=>?_;obtain⟨b',c',e3,e4,q4⟩:=q4;exact h' A eJ H4 M4 v2 v4 b' c' _ Q w4 ((r2.le (l3.trans l4)).sn w4 e3) (r4.sn w4 e4) q4 λt dm z H5 l5 w5 r5 q5=>k _ M4 dm z H5 ((((l1.trans l2).trans l3).trans l4).trans l5) w5 (.p r5) q5⟩
theorem ZU(ha:ZA n tl ul)(hn:n<=1000:=by decide):ZE (tTup tl) (uTup ul):= ⟨have ha := ha.h;λA ι σ H ρ M Qu Q w e q k=>
 ha A ι σ H ρ M _ _ w e q λus M1 a6 vs H1 l1 w1 hl r1 zz=>by
  obtain⟨ts,et,q1⟩:=zz;have r2:=r1;rw[zF et]at r2;exact⟨by rw[r1.len,hl];exact DS (qV hn),λp hp=>k _ M1 a6 _ _ (l1.trans (.fresh hp)) (w1.fresh hp) (.p (kQ w1 hp r2.pures)) q1⟩⟩
theorem qap(ha:ZA n tl ul)(hn:n<=1000:=by decide):ZE (tLst tl) (uLst ul):= ⟨have ha := ha.h;λA ι σ H ρ M Qu Q w e q k=>
 ha A ι σ H ρ M _ _ w e q λus M1 a6 vs H1 l1 w1 hl r1 zz=>by
  obtain⟨ts,et,q1⟩:=zz;have r2:=r1;rw[zF et]at r2;exact⟨by rw[r1.len,hl];exact DS (qV hn),λp hp=>k _ M1 a6 _ _ (l1.trans (.fresh hp)) (w1.fresh hp) (.p (zH w1 hp r2.pures)) q1⟩⟩
theorem zr(ha:ZA n tl ul)(hn:n<=1000:=by decide):ZE (tLst tl) (uNew ul):= ⟨have ha := ha.h;λA ι σ H ρ M Qu Q w e q k=>
 ha A ι σ H ρ M _ _ w e q λus M1 a6 vs H1 l1 w1 hl r1 q1=>⟨by rw[r1.len,hl];exact DS (qV hn),λp hp=>k _ _ _ _ _ (l1.trans (.push hp)) (zJ w1 hp r1).1 (zJ w1 hp r1).2 q1⟩⟩
theorem q40(ha:ZA n tl ul)(hn:n<=1000:=by decide):ZE (tTup tl) (q6R ul):= ⟨have ha := ha.h;λA ι σ H ρ M Qu Q w e q k=>
 ha A ι σ H ρ M _ _ w e q λus M1 a6 vs H1 l1 w1 hl r1 q1=>⟨by rw[r1.len,hl];exact DS (qV hn),λp hp=>k _ _ _ _ _ (l1.trans (.push hp)) (W3 w1 hp r1).1 (W3 w1 hp r1).2 q1⟩⟩
theorem jK(ha:ZE ta ua)(hb:ZE tb ub):ZE (tOp (rIxL Ξ) ta tb) (uIx qB ua ub):= ⟨have ha := ha.h;have hb := hb.h;λA ι σ H ρ M Qu Q w e q k=>
 ha A ι σ H ρ M _ _ w e q λx M1 a6 v H1 l1 w1 r1 q1=>hb A a6 σ H1 ρ M1 _ _ w1 (e.le l1) q1 λy M2 a9 v2 H2 l2 w2 r2 zz=>by
  obtain⟨us,i,z,e1,e2,e3,q2⟩:=zz;subst e2;obtain⟨p,vs,rfl,h1,h2⟩:=vA w2 (r1.le l2) e1;obtain⟨x',h3,h4⟩:=X8 h2 e3;cases r2 with
  |p r=>cases r;exact⟨p,vs,i,x',rfl,rfl,SqL.of h1,h3,k z M2 a9 x' H2 (l1.trans l2) w2 h4 q2⟩⟩
theorem QU(ha:ZE ta ua)(hb:ZE tb ub):ZE (tOp (rIxT Ξ) ta tb) (uIx vI ua ub):= ⟨have ha := ha.h;have hb := hb.h;λA ι σ H ρ M Qu Q w e q k=>
 ha A ι σ H ρ M _ _ w e q λx M1 a6 v H1 l1 w1 r1 q1=>hb A a6 σ H1 ρ M1 _ _ w1 (e.le l1) q1 λy M2 a9 v2 H2 l2 w2 r2 zz=>by
  obtain⟨us,i,z,e1,e2,e3,q2⟩:=zz;subst e2;obtain⟨p,vs,rfl,h1,h2⟩:=zk w2 (r1.le l2) e1;obtain⟨x',h3,h4⟩:=X8 h2 e3;cases r2 with
  |p r=>cases r;exact⟨p,vs,i,x',rfl,rfl,SqT.of h1,h3,k z M2 a9 x' H2 (l1.trans l2) w2 h4 q2⟩⟩
theorem ZY(h:CbL r s)(ha:ZA n tl ul):ZE (tCB r tl) (uCb s ul):= ⟨have ha := ha.h;λA ι σ H ρ M Qu Q w e q k=>
 ha A ι σ H ρ M _ _ w e q λus M1 a6 vs H1 l1 w1 hl r1 ⟨ts,e1,q1⟩=>h A a6 H1 M1 vs ts _ Q w1 (r1.sns w1 e1) q1 λt a9 z H2 l2 w2 r2 q2=>k _ M1 a9 z H2 (l1.trans l2) w2 (.p r2) q2⟩
theorem q5D(ha:ZA n tl ul):ZE (tCB q4d tl) (uLen qB ul):= ⟨have ha := ha.h;λA ι σ H ρ M Qu Q w e q k=>
 ha A ι σ H ρ M _ _ w e q λus M1 a6 vs H1 l1 w1 hl r1 zz=>by
  obtain⟨x,ys,e1,e2,q1⟩:=zz;subst e1;cases r1 with
  |cons r q=>
   cases q;obtain⟨p,zs,rfl,h1,h2⟩:=vA w1 r e2;exact⟨p,zs,rfl,h1,by rw[h2.len];exact k _ M1 a6 _ H1 l1 w1 (.p (.int _)) q1⟩⟩
theorem q3B(ha:ZE ta ua):ZE (tBM0 Ξ "int" rBits ta) (q7M ua):= ⟨have ha := ha.h;λA ι σ H ρ M Qu Q w e q k=>
 ha A ι σ H ρ M _ _ w e q λx M1 a6 v H1 l1 w1 r1 zz=>by
  obtain⟨i,ex,q1⟩:=zz;subst ex;cases r1 with
  |p r=>cases r;exact⟨rfl,i,rfl,rfl,k _ M1 a6 _ H1 l1 w1 (.p (.int _)) q1⟩⟩
theorem kU  : ZO zT j7:= ⟨λA ι σ H ρ M Qu Q w e q k=>k _ M ι H (.refl _ _) w q⟩
theorem xS(ha:ZE ta ua):ZO (VR ta) (Yj ua):= ⟨have ha := ha.h;λA ι σ H ρ M Qu Q w e q k=>
 ha A ι σ H ρ M _ _ w e q λx M1 a6 v H1 l1 w1 r1 zz=>by
  obtain⟨i,ex,q1⟩:=zz;subst ex;cases r1 with
  |p r=>cases r;exact⟨i,rfl,k _ M1 a6 H1 l1 w1 q1⟩⟩
theorem q51(ha:ZE ta ua)(h1:ZO t1 u1)(h2:ZO t2 u2):ZE (tSl (rSlL Ξ) ta t1 t2) (uSl ua u1 u2):= ⟨have ha := ha.h;have h1 := h1.h;have h2 := h2.h;λA ι σ H ρ M Qu Q w e q k=>
 ha A ι σ H ρ M _ _ w e q λx M1 a6 v H1 l1 w1 r1 q1=>h1 A a6 σ H1 ρ M1 _ _ w1 (e.le l1) q1 λlo M2 a9 H2 l2 w2 q2=>h2 A a9 σ H2 ρ M2 _ _ w2 (e.le (l1.trans l2)) q2 λhi M3 ca H3 l3 w3 zz=>by
  obtain⟨ts,es,q3⟩:=zz;obtain⟨p,vs,rfl,h4,h5⟩:=((r1.le (l2.trans l3)).sn w3 es).lst_inv;exact⟨p,vs,rfl,SqL.of h4,λr hr=>k _ M3 ca _ _ (((l1.trans l2).trans l3).trans (.fresh hr)) (w3.fresh hr) (.p (zH w3 hr (qab h5))) q3⟩⟩
theorem VA(ha:ZE ta ua):ZI (GG Ξ ta) (q5C ua):= ⟨have ha := ha.h;λA ι σ H ρ M Qu R w e q k=>
 ha A ι σ H ρ M _ _ w e q λx M1 a6 v H1 l1 w1 r1 zz=>by
  obtain⟨us,eu,q1⟩:=zz;obtain⟨p,vs,rfl,h1,h2⟩:=vA w1 r1 eu;refine⟨p,rfl,⟨vs,SqL.of h1⟩,k _ M1 a6 _ H1 l1 w1 ?_ q1⟩;intro A' a9 H2 M2 i l w2 ok;obtain⟨p',cB,e2,h3,h4⟩:=vA w2 (r1.lea l) ok;cases e2;have hl:=h4.len;refine⟨λhi=>?_,λhi=>⟨cB,SqL.of h3,by rw[hl];exact R3 hi.symm⟩⟩;have hx:cB[i]?=some (cB[i]'(by rw[hl];exact hi)):=Df _;refine⟨⟨cB,_,SqL.of h3,hx⟩,λx H' y=>?_⟩;obtain⟨rfl,y⟩:=y;have fv:=y cB (SqL.of h3);obtain⟨z,hz,rz⟩:=Paired.getL h4 fv;exact⟨z,hz,.refl _ _,w2,rz⟩⟩
theorem q7K(ha:ZA n tl ul):ZI (iRev Ξ tl) (uRev ul):= ⟨have ha := ha.h;λA ι σ H ρ M Qu R w e q k=>
 ha A ι σ H ρ M _ _ w e q λxs M1 a6 rq H1 l1 w1 hn r0 zz=>by
  obtain⟨x,us,ex,eu,q1⟩:=zz;subst ex;cases r0 with
  |cons r1 r0=>
  cases r0;obtain⟨p,vs,rfl,h1,h2⟩:=vA w1 r1 eu;refine⟨p,vs,rfl,SqL.of h1,k _ M1 a6 _ H1 l1 w1 ?_ q1⟩;intro A' a9 H2 M2 i l w2 ok;obtain⟨p',cB,e2,h3,h4⟩:=vA w2 (r1.lea l) ok;cases e2;have hl:=h4.len;have ic:=h2.len;refine⟨λhi=>?_,λhi=>by rw[ic];exact hi.symm⟩;refine⟨⟨by rw[ic];exact hi,cB,SqL.of h3,by rw[hl,ic]⟩,λx H' y=>?_⟩;obtain⟨rfl,y⟩:=y;have fv:=y cB (SqL.of h3);obtain⟨z,hz,rz⟩:=Paired.getL h4 fv;exact⟨z,by rw[<-ic];exact hz,.refl _ _,w2,rz⟩⟩
theorem q53(ha:ZA n tl ul):ZI (q6t tl) (q6f ul):= ⟨have ha := ha.h;λA ι σ H ρ M Qu R w e q k=>
 ha A ι σ H ρ M _ _ w e q λxs M1 a6 rq H1 l1 w1 hn r0 zz=>by
  obtain⟨j,ex,j0,j1,q1⟩:=zz;subst ex;cases r0 with
  |cons r1 r0=>
  cases r0;cases r1 with
  |p r=>
  cases r;have:=q5T (A:=A) (ι:=a6) (H:=H1) (lo:=0) (n:=j.toNat);simp only[Int.zero_add]at this;exact⟨j,rfl,j0,j1,k _ M1 a6 _ H1 l1 w1 this q1⟩⟩
theorem qF(i:Nat):ZG (qJ i) (Kq i):= ⟨λA ι σ H ρ M v u Qu Q w e r q k=>k _ M ι _ H (.refl _ _) w (e.put i r) q⟩
theorem VC(i j:Nat):ZG (gTup Ξ 2 (vb (qJ i) (vb (qJ j) gNil))) (Yk i j):= ⟨λA ι σ H ρ M v u Qu Q w e r ⟨a,b,ei,q⟩ k=>by
 obtain⟨p,vs,rfl,h1,h2⟩:=zk w r ei;obtain⟨x,y,rfl,r1,r2⟩:=rep2 h2;exact JV h1 (k _ M ι _ H (.refl _ _) w ((e.put i r1).put j r2) q)⟩
theorem q1G(i j l:Nat):ZG (gTup Ξ 3 (vb (qJ i) (vb (qJ j) (vb (qJ l) gNil)))) (Qc i j l):= ⟨λA ι σ H ρ M v u Qu Q w e r ⟨a,b,c,ei,q⟩ k=>by
 obtain⟨p,vs,rfl,h1,h2⟩:=zk w r ei;obtain⟨x,y,z,rfl,r1,r2,r3⟩:=rep3 h2;exact Vo h1 (k _ M ι _ H (.refl _ _) w (((e.put i r1).put j r2).put l r3) q)⟩
theorem q6m(ha:ZE ta ua)(hb:ZE tb ub):ZG (gSub ta tb Y0) (uSub ua ub):= ⟨have ha := ha.h;have hb := hb.h;λA ι σ H ρ M v u Qu Q w e r q k=>
 ha A ι σ H ρ M _ _ w e q λo M1 a6 v1 H1 l1 w1 r1 q1=>hb A a6 σ H1 ρ M1 _ _ w1 (e.le l1) q1 λi M2 a9 v2 H2 l2 w2 r2 zz=>by
  obtain⟨kk,us,z,j,eo,em,ei,ej,q2⟩:=zz;subst eo ei;cases r2 with
  |p r2=>
  cases r2;have cW:=r1.le l2;cases cW with
  |m ek=>
  obtain⟨vs,h1,h2⟩:=w2.obj kk _ _ ek em;have hm:=Dh ek;refine⟨_,vs,z,j,rfl,rfl,h1,by rw[h2.len];exact ej,k _ _ a9 _ _ ((l1.trans l2).trans (.put hm)) (w2.put (mo:=.lst _) ek ⟨_,upd_same,?_⟩) (e.le ((l1.trans l2).trans (.put hm))) q2⟩;exact RepUs.le (.put hm) (Paired.put (r.le (l1.trans l2)) j h2)⟩
theorem VB(i:Nat)(h:zw bs n i=true:=by rfl):ZX bs n (qJ i) (Kq i):= ⟨λA ι σ H ρ M v u Qu Q hl w e r q k=>
 k _ _ (e.put i r) ((ExtS.refl _).put (v7 hl h)) (by simp) q⟩
theorem qam(i j l:Nat)(h:zw bs n i=true:=by rfl)(h2:zw bs n j=true:=by rfl)(h3:zw bs n l=true:=by rfl):ZX bs n (gTup Ξ 3 (vb (qJ i) (vb (qJ j) (vb (qJ l) gNil)))) (Qc i j l):= ⟨λA ι σ H ρ M v u Qu Q hl w e r ⟨a,b,c,ei,q⟩ k=>by
 obtain⟨p,vs,rfl,h1,hh⟩:=zk w r ei;obtain⟨x,y,z,rfl,r1,r2,r3⟩:=rep3 hh;exact Vo h1 (k _ _ (((e.put i r1).put j r2).put l r3) ((((ExtS.refl _).put (v7 hl h)).put (v7 hl h2)).put (v7 hl h3)) (by simp) q)⟩
theorem q2D:ZT tYes (λ_ M Q=>Q true M):= ⟨λA ι σ H ρ M Qu Q w e q k=>k true M ι H (.refl _ _) w q⟩
theorem qas(hi:ZI wi ui)(hg:ZX bs n g ug)(ht:ZT tt ut)(he:ZE te ue):ZE (xG wi bs n g tt te) (q5O ui bs n ug ut ue):= ⟨by
 have hi := hi.h;have hg := hg.h;have ht := ht.h;have he := he.h;intro A ι σ H ρ M Qu Q w e q k;refine hi A ι σ H ρ M _ _ w e q λit M1 a6 J H1 l1 w1 hJ q1 a7 bC=>?_;obtain⟨au,dY,Iv,I0,It,Id⟩:=q1;have mj:σ.length=bs.length:=by rw[<-au];exact e.len
 have e1:=e.le l1;have na:¬Av A a6 a7:=w1.nA bC;have aD:∀a9 H2,Le a6 H1 a9 H2->(∀x∈a9,¬(A x\/x=a7))->Lea A a6 H1 (λx=>A x\/x=a7) a9 H2:=λa9 H2 l h=>by
  refine⟨let⟨n,e,_⟩:=l.ext;⟨n,e⟩,λx o hx ex=>?_,l.xd⟩;obtain⟨a1,a2⟩:=l.av hx ex;refine⟨a1,λz=>?_⟩;rcases z with(z|z)|z
  ·exact a2 (.inl z)
  ·rw[z,bC]at ex;cases ex
  ·exact a2 (.inr z)
 refine⟨λi m H2=>m=it.n-i/\i<=it.n/\∃a9 M2 aB ys,Le a6 H1 a9 H2/\Wd (λx=>A x\/x=a7) a9 H2 M2/\H2 a7=some (.lst ys)/\RepTs (Av (λx=>A x\/x=a7) a9) H2 ys aB/\aB.length<=i/\Iv i aB M2,
  ⟨it.n,by simp,DG _,a6,M1, [], [],.fresh bC,w1.addA bC,upd_same,.nil,Dk _,I0⟩,?_⟩
 rintro i m H2 ⟨rfl,bf,a9,M2,aB,ys,l2,w2,fR,fX,fY,I2⟩;have lea:=aD a9 H2 l2 w2.na;by_cases bw:i<it.n
 ·obtain⟨ok,step⟩:=It i aB M2 bw fY I2
  obtain⟨ie,jy⟩:=(hJ _ a9 H2 M2 i lea w2 ok).1 bw;refine .inr ⟨ie,λH'=>∃a9 M2 aB ys,Le a6 H1 a9 H'/\Wd (λx=>A x\/x=a7) a9 H' M2/\H' a7=some (.lst ys)/\RepTs _ H' ys aB/\aB.length<=i+1/\Iv (i+1) aB M2,λH' h=>⟨it.n-(i+1),by lia,rfl,bw,h⟩,λx H3 y=>?_⟩;obtain⟨u,hu,l3,w3,r3⟩:=jy x H3 y;have dX:=l2.trans l3;have dn:∀{ae:List Addr}{H':Hp}{M':MM},Wd (λx=>A x\/x=a7) ae H' M'->a7∉ae:=λw z=>w.na a7 z (.inr rfl);have ml:H3 a7=some (.lst ys):=l3.fr _ _ fR (dn w2);have fZ:EnvR (λx=>A x\/x=a7) a9 H3 (zE bs n σ) (KW bs n ρ):=(e1.mask).lea (aD a9 H3 dX w3.na);refine hg _ a9 σ H3 _ M2 x u _ _ mj w3 fZ r3 (step u hu) λbB cT e4 x4 g6 q4=>⟨⟨x4,g6⟩,?_⟩;refine ht _ a9 cT H3 bB M2 _ _ w3 e4 q4 λb M5 dm H5 l5 w5 q5=>?_;have ig:H5 a7=some (.lst ys):=l5.fr _ _ ml (dn w3);have eK:=Paired.mapP fX λ_ _ q=>(q.le l3).le l5;cases b with
  |false=>exact⟨dm,M5,aB,ys,dX.trans l5,w5,ig,eK,Bc fY,q5⟩
  |true=>
   refine he _ dm cT H5 bB M5 _ _ w5 (e4.le l5) q5 λz M6 mm zv H6 l6 w6 r6 q6=>?_;obtain⟨t,rfl,q6⟩:=q6;have g7:H6 a7=some (.lst ys):=l6.fr _ _ ig (dn w5);refine⟨ys,g7,?_,mm,M6,aB++[t],ys++[zv],((dX.trans l5).trans l6).updF bC,(w6.updA (.inr rfl) g7).2,upd_same,?_,by rw[Dj,DQ];lia,q6⟩
   ·rw[fX.len];lia
   ·have hl:=(w6.updA (o:=.lst (ys++[zv])) (.inr rfl) g7).1
    cases r6 with
    |p r6=>exact Paired.app (Paired.mapP eK λ_ _ q=>(q.le l6).mono hl.av) (.cons (r6.mono hl.av) .nil)
 ·have ei:i=it.n:=by lia
  subst ei;obtain⟨ok,fin⟩:=Id aB M2 I2;refine .inl ⟨(hJ _ a9 H2 M2 _ lea w2 ok).2 rfl,k _ M2 a9 _ H2 (l1.trans l2) (w2.lessA λx hx=>.inl hx) (.p (.lstP (λz=>?_) fR (Paired.mapP fX λ_ _ q=>q.mono λx o hx ex=>⟨ex,λz=>hx (z.elim (λz=>.inl (.inl z)) .inr)⟩))) fin⟩;rcases z with z|z
  ·exact na (.inl z)
  ·exact w2.na a7 z (.inr rfl)⟩
theorem vG  : ZS Q5 Kp:= ⟨λA ι σ H ρ M D E w e r q=>r.nx ι σ H ρ M (.refl _ _) w e q⟩
theorem qj(ha:ZS ts us)(hb:ZS ts' cE):ZS (tSeq ts ts') (uSeq us cE):= ⟨have ha := ha.h;have hb := hb.h;λA ι σ H ρ M D E w e r q=>
 ha A ι σ H ρ M _ { E with nx:=cE E } w e ⟨λa6 cY H1 fW M1 l w1 e1 q1=>hb A a6 cY H1 fW M1 D E w1 e1 (r.le l) q1,r.rt,r.bk,r.ct⟩ q⟩
theorem qag(ha:ZE ta ua):ZS (VS ta) (q7O ua):= ⟨have ha := ha.h;λA ι σ H ρ M D E w e r q=>
 ha A ι σ H ρ M _ _ w e q λx M1 a6 v H1 l1 w1 r1 q1=>r.nx a6 σ H1 ρ M1 l1 w1 (e.le l1) q1⟩
theorem vS(ha:ZE ta ua):ZS (tRet ta) (uRet ua):= ⟨have ha := ha.h;λA ι σ H ρ M D E w e r q=>
 ha A ι σ H ρ M _ _ w e q λx M1 a6 v H1 l1 w1 r1 q1=>r.rt a6 v H1 x M1 l1 w1 r1 q1⟩
theorem q4Q  : ZS VQ q7D:= ⟨λA ι σ H ρ M D E w e r q=>r.rt ι .non H _ M (.refl _ _) w (.p .non) q⟩
theorem xh(hc:ZT tt ut)(ha:ZS ts us)(hb:ZS ts' cE):ZS (tIfS tt ts ts') (uIfS ut us cE):= ⟨have hc := hc.h;have ha := ha.h;have hb := hb.h;λA ι σ H ρ M D E w e r q=>
 hc A ι σ H ρ M _ _ w e q λc M1 a6 H1 l1 w1 q1=>by
  cases c with
  |true=>exact ha A a6 σ H1 ρ M1 D E w1 (e.le l1) (r.le l1) q1
  |false=>exact hb A a6 σ H1 ρ M1 D E w1 (e.le l1) (r.le l1) q1⟩
theorem qM(ha:ZE ta ua)(hg:ZG g ug):ZS (tAsg ta g) (uAsg ua ug):= ⟨have ha := ha.h;have hg := hg.h;λA ι σ H ρ M D E w e r q=>
 ha A ι σ H ρ M _ _ w e q λx M1 a6 v H1 l1 w1 r1 q1=>hg A a6 σ H1 ρ M1 v x _ _ w1 (e.le l1) r1 q1 λar M2 a9 cD H2 l2 w2 e2 q2=>r.nx a9 cD H2 ar M2 (l1.trans l2) w2 e2 q2⟩
theorem q6r(ha:ZE ta ua):ZS (tAug i ta (ipI f)) (uAug i f ua):= ⟨have ha := ha.h;λA ι σ H ρ M D E w e r zz=>by
 obtain⟨a,ea,q⟩:=zz;obtain⟨x,h1,h2⟩:=e.get ea;cases h2 with
 |p h2=>
 cases h2;refine⟨.int a,h1,ha A ι σ H ρ M _ _ w e q λy M1 a6 v H1 l1 w1 r1 q1=>?_⟩;obtain⟨b,rfl,q1⟩:=q1;cases r1 with
 |p r1=>
 cases r1;exact⟨a,b,rfl,rfl,r.nx a6 _ H1 _ M1 l1 w1 ((e.le l1).put i (.p (.int _))) q1⟩⟩
theorem QQ(hi:ZI wi ui)(hg:ZG g ug)(hb:ZS ts us):ZS (tFor wi g ts) (uFor ui ug us):= ⟨by
 have hi := hi.h;have hg := hg.h;have hb := hb.h;intro A ι σ H ρ M D E w e r q;refine hi A ι σ H ρ M _ _ w e q λit M1 a6 J H1 l1 w1 hJ q1=>?_;obtain⟨Iv,I0,It,Id⟩:=q1;have r1:=r.le l1;refine⟨λi m cD H2=>m=it.n-i/\i<=it.n/\∃a9 ar M2,Le a6 H1 a9 H2/\Wd A a9 H2 M2/\EnvR A a9 H2 cD ar/\Iv i ar M2,⟨it.n,by simp,DG _,a6,ρ,M1,.refl _ _,w1,e.le l1,I0⟩,?_⟩;rintro i m cD H2 ⟨rfl,bf,a9,ar,M2,l2,w2,e2,I2⟩;by_cases bw:i<it.n
 ·obtain⟨ok,step⟩:=It i ar M2 bw I2
  obtain⟨ie,jy⟩:=(hJ A a9 H2 M2 i l2.lea w2 ok).1 bw;refine .inr ⟨ie,λah H'=>∃a9 ar M2,Le a6 H1 a9 H'/\Wd A a9 H' M2/\EnvR A a9 H' ah ar/\Iv _ ar M2,λah H' h=>⟨it.n-_,by lia,rfl,bw,h⟩,λx H3 y=>?_⟩;obtain⟨u,hu,l3,w3,r3⟩:=jy x H3 y;refine hg A a9 cD H3 ar M2 x u _ _ w3 (e2.le l3) r3 (step u hu) λbB M4 eJ cT H4 l4 w4 e4 q4=>?_;have iU:=(l2.trans l3).trans l4;exact hb A eJ cT H4 bB M4 _ { E with nx:=Iv _,ct:=Iv _,bk:=E.nx } w4 e4 ⟨λdm mq H5 g8 M5 l5 w5 e5 q5=>⟨dm,g8,M5,iU.trans l5,w5,e5,q5⟩,(r1.le iU).rt,(r1.le iU).nx,λdm mq H5 g8 M5 l5 w5 e5 q5=>⟨dm,g8,M5,iU.trans l5,w5,e5,q5⟩⟩ q4
 ·have ei:i=it.n:=by lia
  subst ei;obtain⟨ok,fin⟩:=Id ar M2 I2;exact .inl ⟨(hJ A a9 H2 M2 _ l2.lea w2 ok).2 rfl,r1.nx a9 cD H2 ar M2 l2 w2 e2 fin⟩⟩
theorem Vz(hc:ZT tt ut)(hb:ZS ts us):ZS (Jp tt ts) (q7v ut us):= ⟨by
 have hc := hc.h;have hb := hb.h;intro A ι σ H ρ M D E w e r q;obtain⟨W,⟨m0,W0⟩,step⟩:=q;refine⟨λm cD H2=>∃a9 ar M2,Le ι H a9 H2/\Wd A a9 H2 M2/\EnvR A a9 H2 cD ar/\W m ar M2,⟨m0,ι,ρ,M,.refl _ _,w,e,W0⟩,?_⟩;rintro m cD H2 ⟨a9,ar,M2,l2,w2,e2,W2⟩;refine hc A a9 cD H2 ar M2 _ _ w2 e2 (step m ar M2 W2) λb M3 ca H3 l3 w3 q3=>?_;cases b with
 |false=>exact r.nx ca cD H3 ar M3 (l2.trans l3) w3 (e2.le l3) q3
 |true=>
  obtain⟨N,hN,q3⟩:=q3;have dX:=l2.trans l3;refine⟨λah H'=>∃eJ bB M4,Le ι H eJ H'/\Wd A eJ H' M4/\EnvR A eJ H' ah bB/\N bB M4,?_,?_⟩
  ·rintro ah H' ⟨eJ,bB,M4,l4,w4,e4,n4⟩
   obtain⟨m',hm,W4⟩:=hN bB M4 n4;exact⟨m',hm,eJ,bB,M4,l4,w4,e4,W4⟩
  ·exact hb A ca cD H3 ar M3 _ { E with nx:=N,ct:=N,bk:=E.nx } w3 (e2.le l3) ⟨λdm mq H5 g8 M5 l5 w5 e5 q5=>⟨dm,g8,M5,dX.trans l5,w5,e5,q5⟩,(r.le dX).rt,(r.le dX).nx,λdm mq H5 g8 M5 l5 w5 e5 q5=>⟨dm,g8,M5,dX.trans l5,w5,e5,q5⟩⟩ q3⟩
set_option tactic.hygienic true in
theorem q6A(h:MeL r s)(ha:ZE ta ua)(hl:ZA n tl ul):ZE (tLM r ta tl) (uMe s ua ul):= ⟨have ha := ha.h;have hl := hl.h;λA ι σ H ρ M Qu Q w e q k=>
 ha A ι σ H ρ M _ _ w e q λo M1 a6 v H1 l1 w1 r1 zz=>by
  obtain⟨kk,eo,⟨zs,hz⟩,q1⟩:=zz;subst eo;cases r1 with
  |m ek=>
  rename_i a;obtain⟨iV,h1,_⟩:=w1.obj kk a _ ek hz;refine⟨a,iV,rfl,h1,hl A a6 σ H1 ρ M1 _ _ w1 (e.le l1) q1 λws M2 a9 ys H2 l2 w2 hn r2 q2=>?_⟩;obtain⟨us,iJ,q2⟩:=q2;have dJ:a9[kk]?=some a:=by
   obtain⟨nn,rfl,_⟩:=l2.ext;rw[De (Dc.mp ek).1];exact ek
  obtain⟨rA,h3,h4⟩:=w2.obj kk a _ dJ iJ;have hm:=Dh dJ;exact h A a9 H2 M2 kk a rA ys us ws _ Q w2 dJ h3 iJ h4 r2 q2 λz cE zv gC rx rz qz=>k z _ a9 zv _ ((l1.trans l2).trans (.put hm)) (w2.put (mo:=.lst cE) dJ ⟨gC,upd_same,RepUs.le (.put hm) rx⟩) (rz.le (.put hm)) qz⟩
theorem zB(ha:ZA n tl ul):ZE (zW (spU G) [] E tl) (q69 G ul):= ⟨have ha := ha.h;λA ι σ H ρ M Qu Q w e q k=>
 ha A ι σ H ρ M _ _ w e q λus M1 a6 vs H1 l1 w1 hn r1 q1=>by
  rw[DI];exact⟨A,a6,M1,us,_,w1,r1,q1,λu M2 a9 v H2 l2 w2 r2 q2=>k u M2 a9 v H2 (l1.trans l2) w2 r2 q2⟩⟩
theorem xt(ha:ZA n tl ul):ZE (zW (spP G) [] E tl) (Ym G ul):= ⟨have ha := ha.h;λA ι σ H ρ M Qu Q w e q k=>
 ha A ι σ H ρ M _ _ w e q λus M1 a6 vs H1 l1 w1 hn r1 zz=>by
  obtain⟨ts,et,q1⟩:=zz;rw[DI];rw[zF et]at r1;exact⟨Av A a6,ts,_,w1.domAv,r1.pures,q1,λt v H2 s r2 q2=>k _ M1 a6 v H2 (l1.trans s.le) (w1.same s) (.p r2) q2⟩⟩
theorem VD(ha:ZE ta ua)(hb:ZE tb ub):ZE (Yy ta tb) (q6Y ua ub):= ⟨have ha := ha.h;have hb := hb.h;λA ι σ H ρ M Qu Q w e q k=>
 ha A ι σ H ρ M _ _ w e q λx M1 a6 v H1 l1 w1 r1 q1=>hb A a6 σ H1 ρ M1 _ _ w1 (e.le l1) q1 λy M2 a9 v2 H2 l2 w2 r2 zz=>by
  obtain⟨kk,kvs,aD,z,ex,em,ey,ez,q2⟩:=zz;subst ex ey;have cW:=r1.le l2;cases cW with
  |m ek=>
  obtain⟨gs,h1,h2⟩:=w2.obj kk _ _ ek em;have hv:=QZ (k:=aD) h2;rw[ez]at hv;obtain⟨x',hx,rx⟩:=hv;refine⟨_,x',rfl,?_,k z M2 a9 x' H2 (l1.trans l2) w2 rx q2⟩;have:=DGet.k (k:=aD) h1;rw[hx]at this;rw[jq r2];exact this⟩
theorem q3h(hc:ZT tt ut)(h1:Sc v1 t1)(h2:Sc v2 t2):ZE (tIf tt (tC v1) (tC v2)) (uIfC ut t1 t2):= ⟨have hc := hc.h;λA ι σ H ρ M Qu Q w e q k=>
 hc A ι σ H ρ M _ _ w e q λc M1 a6 H1 l1 w1 q1=>by
  cases c with
  |true=>exact k _ M1 a6 _ H1 l1 w1 (.p h1.rep) q1
  |false=>exact k _ M1 a6 _ H1 l1 w1 (.p h2.rep) q1⟩
theorem q78(h:KTu Ξ p vs)(hs:Paired Sc vs ts)(hb:ZE tb ub):ZE (tOp (rIxT Ξ) (tC (.ref p)) tb) (uIxK ts ub):= ⟨have hb := hb.h;λA ι σ H ρ M Qu Q w e q k=>
 hb A ι σ H ρ M _ _ w e q λy M1 a6 v1 H1 l1 w1 r1 zz=>by
  obtain⟨i,ey,t,et,q1⟩:=zz;subst ey;cases r1 with
  |p r=>
  cases r;obtain⟨x,hx,sx⟩:=q1I hs et;exact⟨p,vs,i,x,rfl,rfl,h H1,hx,k _ M1 a6 x H1 l1 w1 (.p sx.rep) q1⟩⟩
theorem q3x(h:KTu Ξ p vs):ZE (tCB (q5B Ξ) (vW (tC (.ref p)) tNil)) (uC (.int vs.length)):= ⟨λA ι σ H ρ M Qu Q w e q k=>
 ⟨p,vs,rfl,.inr (h H),k _ M ι _ H (.refl _ _) w (.p (.int _)) q⟩⟩
theorem jL(c:TyC)(ha:ZE ta ua):ZE (tCB (rIsi Ξ) (vW ta (vW (tC (.ty c.name)) tNil))) (uIsi c ua):= ⟨have ha := ha.h;λA ι σ H ρ M Qu Q w e q k=>
 ha A ι σ H ρ M _ _ w e q λx M1 a6 v1 H1 l1 w1 r1 zz=>by
  obtain⟨b,eb,q1⟩:=zz;obtain⟨t,h1,h2⟩:=q3M w1 r1 eb;exact⟨v1,c.name,t,b,rfl,h1,h2,k _ M1 a6 _ H1 l1 w1 (.p (.bl _)) q1⟩⟩
theorem kW  : ZE Js q6O:= ⟨λA ι σ H ρ M Qu Q w e q k p hp=>
 k _ _ _ _ _ (.push hp) (w.push (mo:=.dK []) hp ⟨[],upd_same,.nil⟩) (.m (by rw[<-w.len];exact xq)) q⟩
theorem q2t(ha:ZE ta ua)(hb:ZE tb ub):ZE (tDIn ta tb) (uDIn false ua ub):= ⟨have ha := ha.h;have hb := hb.h;λA ι σ H ρ M Qu Q w e q k=>
 ha A ι σ H ρ M _ _ w e q λy M1 a6 v1 H1 l1 w1 r1 q1=>hb A a6 σ H1 ρ M1 _ _ w1 (e.le l1) q1 λx M2 a9 v2 H2 l2 w2 r2 zz=>by
  obtain⟨kk,kvs,aD,ex,em,ey,q2⟩:=zz;subst ex ey;cases r2 with
  |m ek=>
  obtain⟨o,h1,h2⟩:=Kc w2 ek em (r1.le l2);exact⟨_,o,rfl,h1,by rw[h2];exact k _ M2 a9 _ H2 (l1.trans l2) w2 (.p (.bl _)) q2⟩⟩
theorem ZW(ha:ZE ta ua)(hb:ZE tb ub):ZE (Q6 ta tb) (uDIn true ua ub):= ⟨have ha := ha.h;have hb := hb.h;λA ι σ H ρ M Qu Q w e q k=>
 ha A ι σ H ρ M _ _ w e q λy M1 a6 v1 H1 l1 w1 r1 q1=>hb A a6 σ H1 ρ M1 _ _ w1 (e.le l1) q1 λx M2 a9 v2 H2 l2 w2 r2 zz=>by
  obtain⟨kk,kvs,aD,ex,em,ey,q2⟩:=zz;subst ex ey;cases r2 with
  |m ek=>
  obtain⟨o,h1,h2⟩:=Kc w2 ek em (r1.le l2);exact⟨_,o,rfl,h1,by rw[h2];exact k _ M2 a9 _ H2 (l1.trans l2) w2 (.p (.bl _)) q2⟩⟩
theorem q3K(hd:ZE td ud)(hy:ZE ty uy)(hv:ZE tv uv):ZS (q7s td ty tv) (q6k ud uy uv):= ⟨have hd := hd.h;have hy := hy.h;have hv := hv.h;λA ι σ H ρ M D E w e r q=>
 hv A ι σ H ρ M _ _ w e q λv M1 a6 vv H1 l1 w1 r1 q1=>hd A a6 σ H1 ρ M1 _ _ w1 (e.le l1) q1 λx M2 a9 vx H2 l2 w2 r2 q2=>hy A a9 σ H2 ρ M2 _ _ w2 (e.le (l1.trans l2)) q2 λy M3 ca vy H3 l3 w3 r3 zz=>by
  obtain⟨kk,kvs,aD,ex,em,ey,hz,q3⟩:=zz;subst ex ey;have mv:=r2.le l3;cases mv with
  |m ek=>
  obtain⟨gs,h1,h2⟩:=w3.obj kk _ _ ek em;have aI:=Dh ek;have l4:=(l1.trans l2).trans l3;refine⟨_,_,rfl,?_,r.nx ca σ _ ρ _ (l4.trans (.put aI)) (w3.put (mo:=.dK _) ek ⟨_,upd_same,Paired.mapP (Wg h2 (r1.le (l2.trans l3))) λ_ _ q=>⟨q.1,q.2.le (.put aI)⟩⟩) (e.le (l4.trans (.put aI))) q3⟩;rw[jq r3];exact DPut.k h1 (by rw[h2.len];exact hz)⟩
theorem q3z(T3:Tup3 Ξ mg nm p x y z)(ha:ZA n tl ul):ZE (tBM Ξ "tuple" (q67 p x y z) (tC (.ref p)) tl) (q6D [x,y,z] ul):= ⟨have ha := ha.h;λA ι σ H ρ M Qu Q w e q k=>
 ⟨T3.ty H,ha A ι σ H ρ M _ _ w e q λus M1 a6 vs H1 l1 w1 hn r1 zz=>by
  obtain⟨t,j,eu,ej,hf,q1⟩:=zz;subst eu;cases r1 with
  |cons r q'=>
  cases q';cases r with
  |p r=>
  cases r;exact⟨t,j,rfl,rfl,ej,hf,k _ M1 a6 _ H1 l1 w1 (.p (.int _)) q1⟩⟩⟩
theorem qaq(ha:ZE ta ua):ZE (tFld Ξ ta f) (uFld Ξ ua f):= ⟨have ha := ha.h;λA ι σ H ρ M Qu Q w e q k=>
 ha A ι σ H ρ M _ _ w e q λx M1 a6 v1 H1 l1 w1 r1 zz=>by
  obtain⟨kk,C,fs,u,ex,em,c,na,lk,q1⟩:=zz;subst ex;cases r1 with
  |m ek=>
  obtain⟨dx,gs,h1,h2,h3,h4⟩:=w1.obj kk _ _ ek em;obtain⟨v,hv,rv⟩:=JQ h4 lk;exact⟨_,C,dx,gs,v,rfl,h1,c,na,hv,k _ M1 a6 v H1 l1 w1 rv q1⟩⟩
set_option tactic.hygienic true in
theorem ZR(ha:ZE ta ua)(hv:ZE tv uv):ZS (sFld Ξ ta tv f) (Xd Ξ ua uv f):= ⟨have ha := ha.h;have hv := hv.h;λA ι σ H ρ M D E w e r q=>
 hv A ι σ H ρ M _ _ w e q λy M1 a6 vy H1 l1 w1 r1 q1=>ha A a6 σ H1 ρ M1 _ _ w1 (e.le l1) q1 λx M2 a9 vx H2 l2 w2 r2 zz=>by
  obtain⟨kk,C,fs,ex,em,c,na,hz,q2⟩:=zz;subst ex;cases r2 with
  |m ek=>
  rename_i a;obtain⟨dx,gs,h1,h2,h3,h4⟩:=w2.obj kk _ _ ek em;have aI:=Dh ek;have l4:=l1.trans l2;have eQ:dx≠a:=λz=>by rw[z,h1]at h2;lia
  refine⟨a,C,dx,gs,rfl,h1,c,na,by rw[h4.len];exact hz,r.nx a9 σ _ ρ _ (l4.trans (.put aI)) (w2.put (mo:=.ins C _) ek ⟨dx,_,upd_same,by rw[upd_ne eQ];exact h2,h3,Paired.mapP (JK h4 (r1.le l2)) λ_ _ q=>⟨q.1,q.2.le (.put aI)⟩⟩) (e.le (l4.trans (.put aI))) q2⟩⟩
theorem X6(ha:ZE ta ua)(hl:ZA n tl ul):ZE (Xh C m (spU G) [] E ta tl) (q7o C m G ua ul):= ⟨have ha := ha.h;have hl := hl.h;λA ι σ H ρ M Qu Q w e q k=>
 ha A ι σ H ρ M _ _ w e q λx M1 a6 v1 H1 l1 w1 r1 zz=>by
  obtain⟨kk,fs,ex,em,lk,q1⟩:=zz;subst ex;have cW:=r1;cases cW with
  |m ek=>
  obtain⟨dx,gs,h1,h2,h3,h4⟩:=w1.obj kk _ _ ek em;refine⟨_,dx,gs,rfl,h1,Zm h4 lk,hl A a6 σ H1 ρ M1 _ _ w1 (e.le l1) q1 λus M2 a9 vs H2 l2 w2 hn r2 q2=>?_⟩;rw[DI];exact⟨A,a9,M2,_,_,w2,.cons (r1.le l2) r2,q2,λu M3 ca v H3 l3 w3 r3 q3=>k u M3 ca v H3 ((l1.trans l2).trans l3) w3 r3 q3⟩⟩
theorem qao(hl:ZA n tl ul):ZE (q3p C (spU G) [] E tl) (q7X C G ul):= ⟨have hl := hl.h;λA ι σ H ρ M Qu Q w e q k=>
 hl A ι σ H ρ M _ _ w e q λus M1 a6 vs H1 l1 w1 hn r1 q1 x dx hx mw eQ=>by
  have fv:upd H1 dx (.own x) x=none:=by rw[upd_ne (Ne.symm eQ)];exact hx
  have l2:Le a6 H1 a6 (upd H1 dx (.own x)):=.fresh mw;have w2:=w1.fresh (o:=.own x) mw;have l3:Le a6 _ _ (upd _ x (.ins C dx [])):=.push fv;have w3:=w2.push (mo:=.ins C []) fv ⟨dx, [],upd_same,by rw[upd_ne eQ,upd_same],λz=>by
   rcases Dr.mp z with z|z
   ·exact w1.nin mw z
   ·exact eQ (Dm.mp z),.nil⟩
  have rx:RepU A _ (upd (upd H1 dx (.own x)) x (.ins C dx [])) (.ref x) (.m M1.length):=.m (by rw[<-w1.len];exact xq);rw[DI];refine⟨A,a6++[x],_,_,_,w3,.cons rx (r1.le (l2.trans l3)),q1,λu M4 eJ v4 H4 l4 w4 r4 q4=>?_⟩;obtain⟨eu,q4⟩:=q4;subst eu;cases r4 with
  |p r4=>
  cases r4;exact⟨rfl,k _ M4 eJ _ H4 (l1.trans ((l2.trans l3).trans l4)) w4 (rx.le l4) q4⟩⟩
theorem ZV(ha:ZE ta ua)(hb:ZE tb ub):ZE (tOp rRep ta tb) (Xc ua ub):= ⟨have ha := ha.h;have hb := hb.h;λA ι σ H ρ M Qu Q w e q k=>
 ha A ι σ H ρ M _ _ w e q λx M1 a6 v H1 l1 w1 r1 q1=>hb A a6 σ H1 ρ M1 _ _ w1 (e.le l1) q1 λy M2 a9 v2 H2 l2 w2 r2 zz=>by
  obtain⟨xs,kk,ex,ey,k0,k1,hz,q2⟩:=zz;subst ex ey;have cW:=r1.le l2;cases cW with
  |p r1=>
  cases r2 with
  |p r2=>
  cases r2;obtain⟨p,vs,rfl,na,h1,h2⟩:=r1.lst_inv;refine⟨p,kk,vs,rfl,rfl,h1,k0,k1,by rw[h2.len];exact hz,λl hl=>?_⟩;have:=zJ w2 hl (RepTs.ups (jn h2 kk.toNat));exact k _ _ _ _ _ ((l1.trans l2).trans (.push hl)) this.1 this.2 q2⟩
theorem qae(hl:ZA n tl ul):ZS (tPar i j tl) (uPar i j ul):= ⟨have hl := hl.h;λA ι σ H ρ M D E w e r q=>
 hl A ι σ H ρ M _ _ w e q λus M1 a6 vs H1 l1 w1 hn r1 zz=>by
  obtain⟨a,b,eu,q1⟩:=zz;subst eu;obtain⟨x,y,rfl,ra,rb⟩:=rep2 r1;exact⟨x,y,rfl,r.nx a6 _ H1 _ M1 l1 w1 (((e.le l1).put i ra).put j rb) q1⟩⟩
theorem q57(hl:ZA n tl ul):ZS (q7T i j k tl) (q66 i j k ul):= ⟨have hl := hl.h;λA ι σ H ρ M D E w e r q=>
 hl A ι σ H ρ M _ _ w e q λus M1 a6 vs H1 l1 w1 hn r1 zz=>by
  obtain⟨a,b,c,eu,q1⟩:=zz;subst eu;obtain⟨x,y,z,rfl,ra,rb,rc⟩:=rep3 r1;exact⟨x,y,z,rfl,r.nx a6 _ H1 _ M1 l1 w1 ((((e.le l1).put i ra).put j rb).put k rc) q1⟩⟩
section
variable {P:Program}{w:World}{Ξ:PySem.W.Frag}{mg:Str->Option Value}{base:Heap}
theorem Fun.okQ{st:Stmt}(F:Fun Ξ x ac st f fd)(S:q01 N ps (qw st))(len:∀vs H Q E,sp vs H Q E->vs.length=ps.length)(aC:∀(ap:Value)(A:Around)(outer:List Env)(s:Shared)(H:Hp)(vs:List V)(Q:VK)(E:XK),Room k (A.deeper (envOfC ac (qw st) s.heap.objs.size f ap))->sp vs H Q E ->
   ∃t,QSs (cxOf CX0 P w Ξ mg base N ac (qw st) f ap A outer s H E).nox (vg st) t/\t { nx:=λ_ H'=>Q .non H',rt:=Q } (start N vs) H):FnOk P w Ξ mg base CX0 (k+1) f fd ps sp :=
 F.ok S len λap A outer s H vs Q E hr da=>by
  obtain⟨t,h,q⟩:=aC ap A outer s H vs Q E hr da;exact⟨t,h.h,q⟩
theorem Fun.zU{st:Stmt}(F:Fun Ξ x ac st f fd)(S:q01 N ps (qw st))(len:∀us M Qu,G us M Qu->us.length=ps.length)(aC:∀(ap:Value)(A:Around)(outer:List Env)(s:Shared)(H:Hp)(E:XK),Room k (A.deeper (envOfC ac (qw st) s.heap.objs.size f ap))->N.Nodup ->
   ∃t,QSs (cxOf CX0 P w Ξ mg base N ac (qw st) f ap A outer s H E).nox (vg st) t/\∃u,ZS t u/\∀us M Qu,G us M Qu->u { nx:=λ_ M'=>Qu (.p .non) M',rt:=Qu } (xz N us) M):FnOk P w Ξ mg base CX0 (k+1) f fd ps (spU G):=
 F.okU S len λap A outer s H E hr=>by
  obtain⟨t,h,u,hu,q⟩:=aC ap A outer s H E hr S.nd;exact⟨t,h.h,u,hu.h,q⟩
theorem Fun.zV{st:Stmt}(F:Fun Ξ x ac st f fd)(S:q01 N ps (qw st))(len:∀us M Qu,G us M Qu->us.length=ps.length)(aC:∀(ap:Value)(A:Around)(outer:List Env)(s:Shared)(H:Hp)(E:XK),Room k (A.deeper (envOfC ac (qw st) s.heap.objs.size f ap))->N.Nodup ->
   ∃t,QSs (cxOf CX0 P w Ξ mg base N ac (qw st) f ap A outer s H E).nox (vg st) t/\∃u,ZS t u/\∀us M M1 Qu,M1=M->G us M Qu->u { nx:=λ_ M'=>zR M M'/\Qu (.p .non) (M'.take M.length),rt:=λz M'=>zR M M'/\∃t,frzB M.length 4 M' z=some t/\Qu (.p t) (M'.take M.length) } (xz N us) M1):FnOk P w Ξ mg base CX0 (k+1) f fd ps (spU G):=
 F.okV S len λap A outer s H E hr=>by
  obtain⟨t,h,u,hu,q⟩:=aC ap A outer s H E hr S.nd;exact⟨t,h.h,u,hu.h,λus M Qu g=>q us M M Qu rfl g⟩
theorem Fun.zP{st:Stmt}(F:Fun Ξ x ac st f fd)(S:q01 N ps (qw st))(len:∀ts Qt,G ts Qt->ts.length=ps.length)(aC:∀(ap:Value)(A:Around)(outer:List Env)(s:Shared)(H:Hp)(E:XK),Room k (A.deeper (envOfC ac (qw st) s.heap.objs.size f ap))->N.Nodup ->
   ∃t,QSs (cxOf CX0 P w Ξ mg base N ac (qw st) f ap A outer s H E).nox (vg st) t/\∃u,ZS t u/\∀ts Qt,G ts Qt->u { nx:=λ_ _=>Qt .non,rt:=λz M'=>∃t,frzN 4 M' z=some t/\Qt t } (xz N (ts.map U.p)) []):FnOk P w Ξ mg base CX0 (k+1) f fd ps (spP G):=
 F.okP S len λap A outer s H E hr=>by
  obtain⟨t,h,u,hu,q⟩:=aC ap A outer s H E hr S.nd;exact⟨t,h.h,u,hu.h,q⟩
end
abbrev UX:=Str->Option Int->MM->Prop
noncomputable def pT:Option Int->T
 |none=>.non
 |some n=>.int n
theorem q7G:∀p:Option Int,RepT A H (pV p) (pT p)
 |none=>.non
 |some _=>.int _
theorem q2u:∀{p:Option Int},RepT A H v (pT p)->v=pV p
 |none,r=>by cases r;rfl
 |some _,r=>by cases r;rfl
abbrev UXe:=UEnv->MM->UK->UX->Prop
def spX(mg:Str->Option Value)(G:List U->MM->UK->UX->Prop):Sp:=λvs H Q E=>∃A ι M us Qu Xu,Wd A ι H M/\RepUs A ι H vs us/\G us M Qu Xu /\
 (∀u M' ae v H',Le ι H ae H'->Wd A ae H' M'->RepU A ae H' v u->Qu u M'->Q v H')/\∀nm p C d M' ae H',mg nm=some C->PartIs d H' p->Le ι H ae H'->Wd A ae H' M'->Xu nm p M'->E C d H'
structure ZXe(mg:Str->Option Value)(tx:TX)(ux:UXe):Prop where
 h:∀(A:Addr->Prop)(ι:List Addr)(σ:St)(H:Hp)(ρ:UEnv)(M:MM)(Qu:UK)(Xu:UX)(Q:VK)(E:XK),Wd A ι H M->EnvR A ι H σ ρ->ux ρ M Qu Xu ->
  (∀u M' ae v H',Le ι H ae H'->Wd A ae H' M'->RepU A ae H' v u->Qu u M'->Q v H')->(∀nm p C d M' ae H',mg nm=some C->PartIs d H' p->Le ι H ae H'->Wd A ae H' M'->Xu nm p M'->E C d H')->tx σ H Q E
def vq(G:List U->MM->UK->UX->Prop)(ul:UA):UXe:=λρ M Q X=>ul ρ M λus M1=>G us M1 Q X
theorem G7(ha:ZA n tl ul):ZXe mg (q3g (spX mg G) tl) (vq G ul):=⟨λA ι σ H ρ M Qu Xu Q E w e q k kx=>
 ha.h A ι σ H ρ M _ _ w e q λus M1 a6 vs H1 l1 w1 hn r1 q1=>
  ⟨A,a6,M1,us,_,_,w1,r1,q1,λu M2 a9 v H2 l2 w2 r2 q2=>k u M2 a9 v H2 (l1.trans l2) w2 r2 q2,λnm p C d M2 a9 H2 hm hp l2 w2 q2=>kx nm p C d M2 a9 H2 hm hp (l1.trans l2) w2 q2⟩⟩
def vo(C:Addr)(m:Str)(G:List U->MM->UK->UX->Prop)(ua:UE)(ul:UA):UXe:=λρ M Q X=>ua ρ M λx M1=>qaE C m x M1 (ul ρ M1 λus M2=>G (x::us) M2 Q X)
theorem q54(ha:ZE ta ua)(hl:ZA n tl ul):ZXe mg (q3b C m (spX mg G) ta tl) (vo C m G ua ul):=⟨λA ι σ H ρ M Qu Xu Q E w e q k kx=>
 ha.h A ι σ H ρ M _ _ w e q λx M1 a6 v1 H1 l1 w1 r1 zz=>by
  obtain⟨kk,fs,ex,em,lk,q1⟩:=zz;subst ex;have cW:=r1;cases cW with
  |m ek=>
  obtain⟨dx,gs,h1,h2,h3,h4⟩:=w1.obj kk _ _ ek em;refine⟨_,dx,gs,rfl,h1,Zm h4 lk,hl.h A a6 σ H1 ρ M1 _ _ w1 (e.le l1) q1 λus M2 a9 vs H2 l2 w2 hn r2 q2=>?_⟩;exact⟨A,a9,M2,_,_,_,w2,.cons (r1.le l2) r2,q2,λu M3 ca v H3 l3 w3 r3 q3=>k u M3 ca v H3 ((l1.trans l2).trans l3) w3 r3 q3,λnm p C d M3 ca H3 hm hp l3 w3 q3=>kx nm p C d M3 ca H3 hm hp ((l1.trans l2).trans l3) w3 q3⟩⟩
noncomputable def tagU(nm:Str)(p:Option Int)(ρ:UEnv):UEnv:=some (.p (.str nm))::some (.p (pT p))::ρ
theorem xF(e:EnvR A ι H σ ρ):EnvR A ι H (some (.str nm)::some (pV p)::σ) (tagU nm p ρ):=.cons (λu q=>by cases q;exact⟨_,rfl,.p (.str _)⟩) (.cons (λu q=>by cases q;exact⟨_,rfl,.p (q7G p)⟩) e)
def vp(ux:UXe):US:=λE ρ M=>ux ρ M (λ_ M1=>E.nx ρ M1) λnm p M1=>E.bk (tagU nm p ρ) M1
theorem q24(h:ZXe mg tx ux):ZS (q3k tx mg) (vp ux):=⟨λA ι σ H ρ M D E w e r q=>
 h.h A ι σ H ρ M _ _ _ _ w e q (λx M1 a6 v H1 l1 w1 r1 q1=>r.nx a6 σ H1 ρ M1 l1 w1 (e.le l1) q1) λnm p C d M1 a6 H1 hm hp l1 w1 q1=>⟨nm,p,hm,hp,r.bk a6 _ H1 _ M1 l1 w1 (xF (e.le l1)) q1⟩⟩
def za(ux:UXe):US:=λE ρ M=>ux ρ M E.rt λnm p M1=>E.bk (tagU nm p ρ) M1
theorem q4g(h:ZXe mg tx ux):ZS (q7H tx mg) (za ux):=⟨λA ι σ H ρ M D E w e r q=>
 h.h A ι σ H ρ M _ _ _ _ w e q (λx M1 a6 v H1 l1 w1 r1 q1=>r.rt a6 v H1 x M1 l1 w1 r1 q1) λnm p C d M1 a6 H1 hm hp l1 w1 q1=>⟨nm,p,hm,hp,r.bk a6 _ H1 _ M1 l1 w1 (xF (e.le l1)) q1⟩⟩
def v9(i:Nat)(ux:UXe):US:=λE ρ M=>ux ρ M (λx M1=>E.nx (ρ.set i (some x)) M1) λnm p M1=>E.bk (tagU nm p ρ) M1
theorem q58(h:ZXe mg tx ux):ZS (q75 i tx mg) (v9 i ux):=⟨λA ι σ H ρ M D E w e r q=>
 h.h A ι σ H ρ M _ _ _ _ w e q (λx M1 a6 v H1 l1 w1 r1 q1=>r.nx a6 _ H1 _ M1 l1 w1 ((e.le l1).put i r1) q1) λnm p C d M1 a6 H1 hm hp l1 w1 q1=>⟨nm,p,hm,hp,r.bk a6 _ H1 _ M1 l1 w1 (xF (e.le l1)) q1⟩⟩
def vn(x:Str)(ul:UA):US:=λE ρ M=>ul ρ M λus M1=>us.length<=sizeLine/\E.bk (tagU x none ρ) M1
theorem q1l(h:ZA n tl ul):ZS (q2y x tl) (vn x ul):=⟨λA ι σ H ρ M D E w e r q=>
 h.h A ι σ H ρ M _ _ w e q λus M1 a6 vs H1 l1 w1 hn r1 ⟨hl,q1⟩=>⟨by rw[r1.len];exact hl,r.bk a6 _ H1 _ M1 l1 w1 (xF (p:=none) (e.le l1)) q1⟩⟩
def qN(x:Str)(ul:UA):US:=λE ρ M=>ul ρ M λus M1=>∃k,us=[.p (.int k)]/\Jt k/\E.bk (tagU x (some k) ρ) M1
theorem qad(h:ZA n tl ul):ZS (Yv x tl) (qN x ul):=⟨λA ι σ H ρ M D E w e r q=>
 h.h A ι σ H ρ M _ _ w e q λus M1 a6 vs H1 l1 w1 hn r1 zz=>by
  obtain⟨k,eu,sk,q1⟩:=zz;subst eu;cases r1 with
  |cons a b=>
  cases b;cases a with
  |p a=>
  cases a;exact⟨k,rfl,sk,λd hd=>r.bk a6 _ _ _ M1 (l1.trans (Le.fresh hd)) (w1.fresh hd) (xF (p:=some k) ((e.le l1).le (Le.fresh hd))) q1⟩⟩
def uTry(n:Nat)(ub:US)(l:List (Str×(Option Int->US))):US:=λE ρ M=>ub { E with bk:=λτ M'=>∃nm p bS u,τ=tagU nm p bS/\bS.length=n/\l.lookup nm=some u/\u p E bS M' } ρ M
structure ZHs(l:List (Str×(Option Int->TS)))(l':List (Str×(Option Int->US))):Prop where
 h:∀nm u,l'.lookup nm=some u->∃t,l.lookup nm=some t/\∀p,LS (t p) (u p)
theorem q6w:ZHs [] []:=⟨λnm u e=>by simp at e⟩
theorem Xa(h:∀p,ZS (t p) (u p))(hr:ZHs l l'):ZHs ((x,t)::l) ((x,u)::l'):=⟨λnm v e=>by
 rw[DP]at e ⊢;cases hx:(nm==x) with
 |true=>rw[hx]at e;cases e;exact⟨t,rfl,λp=>(h p).h⟩
 |false=>rw[hx]at e;exact hr.h nm v e⟩
theorem q70(hb:ZS tb ub)(hl:ZHs l l'):ZS (tTry n tb l) (uTry n ub l'):=⟨λA ι σ H ρ M D E w e r q=>
 hb.h A ι σ H ρ M _ { E with bk:=λτ M'=>∃nm p bS u,τ=tagU nm p bS/\bS.length=n/\l'.lookup nm=some u/\u p E bS M' } w e ⟨r.nx,r.rt,λa6 cY H1 fW M1 l1 w1 e1 q1=>by
  obtain⟨nm,p,bS,u,rfl,hn,hu,q1⟩:=q1;obtain⟨t,ht,lk⟩:=hl.h nm u hu;cases e1 with
  |cons a b=>
  cases b with
  |cons a2 b=>
  obtain⟨v,rfl,rv⟩:=a _ rfl;obtain⟨v2,rfl,g9⟩:=a2 _ rfl;cases rv with
  |p rv=>
  cases rv;cases g9 with
  |p g9=>
  cases q2u g9;exact⟨nm,p,_,t,rfl,by rw[b.length];exact hn,ht,lk p A a6 _ H1 bS M1 D E w1 b (r.le l1) q1⟩,r.ct⟩ q⟩
def uAs(i j k:Nat)(c:Str)(q:Option Int):US:=λE ρ M=>∃n,q=some n/\n<1000000/\E.nx (((ρ.set j (some (.p (.str c)))).set k (some (.p (.int n)))).set i none) M
theorem q8y:ZS (tAs i j k c q) (uAs i j k c q):=⟨λA ι σ H ρ M D E w e r h=>by
 obtain⟨m,hq,rB,h⟩:=h;refine⟨m,hq,rB,r.nx ι _ H _ M (Le.refl _ _) w ?_ h⟩;exact Paired.put (λw z=>by cases z) i (EnvR.put (EnvR.put e j (.p (.str c))) k (.p (.int m)))⟩
noncomputable def endX(n:Nat)(Qu:UK)(Xu:UX):q07:={ nx:=λ_ M'=>Qu (.p .non) M',rt:=Qu,bk:=λτ M'=>∃nm p ρ,τ=tagU nm p ρ/\ρ.length=n/\Xu nm p M' }
theorem Fun.zX{st:Stmt}(F:Fun Ξ x ac st f fd)(S:q01 N ps (qw st))(len:∀us M Qu Xu,G us M Qu Xu->us.length=ps.length)(aC:∀(ap:Value)(A:Around)(outer:List Env)(s:Shared)(H:Hp)(E:XK),Room k (A.deeper (envOfC ac (qw st) s.heap.objs.size f ap))->N.Nodup ->
   ∃t,QXs True (cxOf (CXe P w) P w Ξ mg base N ac (qw st) f ap A outer s H E) (vg st) t/\∃u,ZS t u/\∀us M Qu Xu,G us M Qu Xu->u (endX N.length Qu Xu) (xz N us) M):FnOk P w Ξ mg base (CXe P w) (k+1) f fd ps (spX mg G):=by
 refine F.okX S (λvs H Q E h=>?_) (λap A outer s H vs Q E hr h=>?_)
 ·obtain⟨A,ι,M,us,Qu,Xu,w1,r,g,_⟩:=h
  rw[r.len];exact len us M Qu Xu g
 ·obtain⟨B,ι,M,us,Qu,Xu,w1,r,g,kk,kx⟩:=h
  obtain⟨t,ht,u,hu,hb⟩:=aC ap A outer s H E hr S.nd;refine⟨t,ht,hu.h B ι _ H _ M _ (endX N.length Qu Xu) w1 (xU r) ⟨λa6 cY H1 fW M1 l1 w1 e1 q1=>kk _ M1 a6 _ H1 l1 w1 (.p .non) q1,λa6 v H1 z M1 l1 w1 r1 q1=>kk z M1 a6 v H1 l1 w1 r1 q1,λa6 cY H1 fW M1 l1 w1 e1 q1=>?_,λ_ _ _ _ _ _ _ _ q=>q.elim⟩ (hb us M Qu Xu g)⟩;obtain⟨nm,p,ρ,rfl,hn,q1⟩:=q1;cases e1 with
  |cons a b=>
  cases b with
  |cons a2 b=>
  obtain⟨v,rfl,rv⟩:=a _ rfl;obtain⟨v2,rfl,g9⟩:=a2 _ rfl;cases rv with
  |p rv=>
  cases rv;cases g9 with
  |p g9=>
  cases q2u g9;exact⟨nm,p,_,rfl,by rw[b.length];exact hn,λC d hm hp=>kx nm p C d M1 a6 H1 hm hp l1 w1 q1⟩
theorem q7m:∀nm t C,([]:List (Str×(Option Int->TS))).lookup nm=some t->X.mg nm=some C->∀p,QH X hs C p (t p):=λnm t C e _=>by simp at e
theorem XQ{X:Cx}{hs:List ExceptHandler}{x:Str}{C:Value}{t:Option Int->TS}(hb:X.mg x=some C)(h:∀p,QH X hs C p (t p))(hr:∀nm t C,l.lookup nm=some t->X.mg nm=some C->∀p,QH X hs C p (t p)):
  ∀nm t' C',((x,t)::l).lookup nm=some t'->X.mg nm=some C'->∀p,QH X hs C' p (t' p):=λnm t' C' e hm=>by
 rw[DP]at e;cases hx:(nm==x) with
 |true=>
  simp_all
 |false=>rw[hx]at e;exact hr nm t' C' e hm
theorem Paired.app{α β:Type}{F:α->β->Prop}:∀{a c:List α}{b d:List β},Paired F a b->Paired F c d->Paired F (a++c) (b++d)
 |_,_,_,_,.nil,h=>h
 |_,_,_,_,.cons x y,h=>.cons x (Paired.app y h)
def q6H(tx:TX)(g:TG)(mg:Str->Option Value):TS:=λD σ H=>tx σ H (λx H1=>g x σ H1 D.nx) (EX mg D σ)
theorem q2n(he:QXe X e tx)(hg:QG X.nox tg g)(hs:swapsWithSole [tg] e pos.line X.env=pure false:=by rfl)(hw:swappedStores [tg] e X.env=pure none:=by rfl)(h1:(assignEach [tg] X.env).map (·.2)=[assign tg X.env]:=by rfl):
  QX r X (.Assign [tg] e pos) (q6H tx g X.mg):=⟨λa4 s σ H D k I h=>by
 refine UZ (thn (he.h a4 s σ H _ _ (k.1 σ) I h) λv s1 ⟨x,H1,I1,r1,q1⟩=>?_) hs hw;rw[h1];refine Uj (hg.h a4 s1 σ H1 x v _ (I1.wish _) r1 q1) (λ_ s2 ⟨ah,H',I2,q⟩=>⟨ah,H',I2.unwish,q⟩) λ_ _ z=>False.elim z⟩
def zb(ux:UXe)(ug:UG):US:=λE ρ M=>ux ρ M (λx M1=>ug x ρ M1 E.nx) λnm p M1=>E.bk (tagU nm p ρ) M1
theorem q3F(h:ZXe mg tx ux)(hg:ZG g ug):ZS (q6H tx g mg) (zb ux ug):=⟨λA ι σ H ρ M D E w e r q=>
 h.h A ι σ H ρ M _ _ _ _ w e q (λx M1 a6 v H1 l1 w1 r1 q1=>hg.h A a6 σ H1 ρ M1 v x _ _ w1 (e.le l1) r1 q1 λar M2 a9 cD H2 l2 w2 e2 q2=>r.nx a9 cD H2 ar M2 (l1.trans l2) w2 e2 q2) λnm p C d M1 a6 H1 hm hp l1 w1 q1=>⟨nm,p,hm,hp,r.bk a6 _ H1 _ M1 l1 w1 (xF (e.le l1)) q1⟩⟩
theorem Wd.not_xd(w:Wd A ι H M)(h:a∈ι):H a≠some (.xd fs):=λz=>by
 obtain⟨k,e⟩:=Rl h;obtain⟨o,_,r⟩:=w.al e;cases o with
 |lst=>obtain⟨vs,e,_⟩:=r;lia
 |tup=>obtain⟨vs,e,_⟩:=r;lia
 |ins=>obtain⟨_,_,e,_⟩:=r;lia
 |dK=>obtain⟨_,e,_⟩:=r;lia
 |dF=>obtain⟨e,_⟩:=r;lia
 |tab=>obtain⟨_,e,_⟩:=r;lia
theorem PartIs.x(w:Wd A ι H M)(h:PartIs d H q):PartX ι H d q:=by
 cases q with
 |none=>exact h
 |some n=>
  obtain⟨x0,e,hx⟩:=h;exact⟨x0,e,λz=>w.not_xd z hx,hx⟩
theorem Wd.ext(w:Wd A ι H M)(h:∀x o,H x=some o->H' x=some o):Wd A ι H' M:=by
 have l:Le ι H ι H':=⟨⟨[],by simp,by simp⟩,λx o e _=>h x o e,λx e=>by
  cases q:H x with
  |none=>exact absurd q e
  |some o=>rw[h x o q];simp⟩
 refine⟨w.nd,w.len,λx hx=>l.al x (w.dom x hx),w.na,λk a o e1 e2=>?_⟩;have r:=w.obj k a o e1 e2;obtain⟨q,hq⟩:=r.some;exact r.le' l (by rw[h a q hq,hq]) λx hx=>by rw[h x _ hx,hx]
def q13(neg:Bool)(ua ub:UE):UE:=λρ M Q=>ua ρ M λx M1=>ub ρ M1 λy M2=>∃a b,frzN 5 M2 x=some a/\frzN 5 M2 y=some b/\sEqL neg a b λt=>Q (.p t) M2
theorem Gn(rC:OpL r (sEqL neg))(ha:LE ta ua)(hb:LE tb ub):LE (tOp r ta tb) (q13 neg ua ub):=λA ι σ H ρ M Qu Q w e q k=>
 ha A ι σ H ρ M _ _ w e q λx M1 a6 v H1 l1 w1 r1 q1=>hb A a6 σ H1 ρ M1 _ _ w1 (e.le l1) q1 λy M2 a9 v2 H2 l2 w2 r2 zz=>by
  obtain⟨a,b,ea,eb,q⟩:=zz;have cW:=xP w2 (r1.le l2) ea;have mv:=xP w2 r2 eb;have up:∀{v t},RepT A H2 v t->RepT (Av A []) H2 v t:=λr=>r.mono λx o hx e=>⟨e,λz=>hx (z.elim id λz=>by simp at z)⟩;have w0:Wd A [] H2 []:=⟨RM,rfl,w2.dom,by simp,by simp⟩;refine rC A [] H2 [] v v2 a b (λt=>∃c,t=.bl c/\Qu (.p t) M2) Q w0 (.of (up cW)) (.of (up mv)) ?_ λt ca z H3 l3 w3 r3 ⟨c,et,q3⟩=>?_
  ·obtain⟨xs,ys,ex,ey,h⟩:=q
   refine⟨xs,ys,ex,ey,?_⟩;rcases h with⟨hl,q⟩|⟨hl,ee,he,q⟩
   ·exact .inl ⟨hl,_,rfl,q⟩
   ·exact .inr ⟨hl,ee,he,_,rfl,q⟩
  ·subst et
   cases r3;have mx:Le a9 H2 a9 H3:=⟨⟨[],by simp,by simp⟩,λx o e _=>l3.fr x o e (by simp),l3.al⟩;exact k _ M2 a9 _ H3 ((l1.trans l2).trans mx) (w2.ext λx o e=>l3.fr x o e (by simp)) (.p (.bl _)) q3
theorem q3e(ha:ZE ta ua)(hb:ZE tb ub):ZE (tOp (rNeL Ξ) ta tb) (q13 true ua ub):=⟨Gn Ww ha.h hb.h⟩
theorem q6b(ha:ZE ta ua)(hb:ZE tb ub):ZE (tOp (rEqL Ξ) ta tb) (q13 false ua ub):=⟨Gn q5q ha.h hb.h⟩
def flD:Nat->T->Prop
 |0,_=>False
 |n+1,.tup xs=>∀x∈xs,flD n x
 |n+1,.lst xs=>∀x∈xs,flD n x
 |_+1,_=>True
theorem Vu:∀{n:Nat}{t:T},flD n t->∃r,EqT n t t r
 |0,_,h=>h.elim
 |n+1,.non,_=>⟨_,.flat rfl rfl⟩
 |n+1,.bl b,_=>⟨_,.flat rfl rfl⟩
 |n+1,.int i,_=>⟨_,.flat rfl rfl⟩
 |n+1,.str s,_=>⟨_,.flat rfl rfl⟩
 |n+1,.tup xs,h=>by
  have:∀j:Nat,∃r,∀x,xs[j]?=some x->EqT n x x r:=λj=>by
   cases e:xs[j]? with
   |none=>exact⟨true,λx z=>by cases z⟩
   |some x=>
    obtain⟨r,hr⟩:=Vu (h x (Dh e));exact⟨r,λy z=>by cases z;lia⟩
  exact⟨_,.tup (e:=λj=>(this j).choose) λj x y hx hy=>by grind⟩
 |n+1,.lst xs,h=>by
  have:∀j:Nat,∃r,∀x,xs[j]?=some x->EqT n x x r:=λj=>by
   cases e:xs[j]? with
   |none=>exact⟨true,λx z=>by cases z⟩
   |some x=>
    obtain⟨r,hr⟩:=Vu (h x (Dh e));exact⟨r,λy z=>by cases z;lia⟩
  exact⟨_,.lst (e:=λj=>(this j).choose) rfl λj x y hx hy=>by grind⟩
theorem J9(h:∀x∈xs,flD 20 x)(q:Q (.bl (!neg))):sEqL neg (.lst xs) (.lst xs) Q:=by
 have:∀j:Nat,∃r,∀x,xs[j]?=some x->EqT 20 x x r:=λj=>by
  cases e:xs[j]? with
  |none=>exact⟨true,λx z=>by cases z⟩
  |some x=>
   obtain⟨r,hr⟩:=Vu (h x (Dh e));exact⟨r,λy z=>by cases z;exact hr⟩
 refine⟨xs,xs,rfl,rfl,.inr ⟨rfl,λj=>(this j).choose,λj x y hx hy=>by rw[hx]at hy;cases hy;exact(this j).choose_spec x hx,?_⟩⟩;have e:(List.range xs.length).all (λj=>(this j).choose)=true:=by
  rw[List.all_eq_true];intro j hj;have hj:=D8.mp hj;exact((this j).choose_spec _ (Df hj)).self rfl
 rw[e];cases neg<;>exact q
noncomputable def entD(P:Params)(e:Str×Tok×Value):DictEntry:=⟨PyData.keyHash P e.1,.str e.1 e.2.1,e.2.2⟩
structure KDi(Ξ:PySem.W.Frag)(w:World)(mg:Str->Option Value)(nm:Str)(a:Addr)(kvs:List (Str×V)):Prop where
 g:mg nm=some (.ref a)
 ex:∃(aQ:List (Str×Tok×Value))(ep:Nat),Ξ.lookup a=some ⟨.type "dict", none,.dict ((aQ.map (entD w.params)).toArray) ep, #[]⟩/\(aQ.map (·.1)).Nodup/\Paired (λ(kv:Str×V) (r:Str×Tok×Value)=>kv.1=r.1/\RelV kv.2 r.2.2) kvs aQ
noncomputable def keyR(r:Str×Tok×Value):Key×Value:=(.inr r.1,r.2.2)
theorem Wu:∀aQ:List (Str×Tok×Value),Pairs (ve prog w) (aQ.map (entD w.params)) (aQ.map keyR)
 | []=>.nil
 |r::aQ=>.cons (xJ prog w r.1 r.2.1) rfl (Wu aQ)
theorem q7l(aQ:List (Str×Tok×Value)):KeysOf (ve prog w) (aQ.map (entD w.params)).toArray:=λe he=>by
 obtain⟨r,_,rfl⟩:=DL.mp (List.mem_toArray.mp he);exact⟨.inr r.1,xJ prog w r.1 r.2.1,rfl⟩
theorem q3G:∀{aQ:List (Str×Tok×Value)},(aQ.map (·.1)).Nodup->((aQ.map keyR).map (·.1)).Nodup:=λ{aQ} h=>by
 rw[RB];have e:((λx=>x.1) ∘ keyR)=(λx:Str=>_) ∘ _:=rfl;rw[e, <-RB];exact List.Pairwise.map _ (λa b me z=>me (Key.inr.inj z)) h
theorem q2Z:∀{kvs:List (Str×V)}{aQ:List (Str×Tok×Value)},Paired (λ(kv:Str×V) (r:Str×Tok×Value)=>kv.1=r.1/\RelV kv.2 r.2.2) kvs aQ->kvs.lookup k=some v->∃u,valueAt (aQ.map keyR) (.inr k:Key)=some u/\RelV v u
 |_,_,.nil,e=>by simp at e
 | (a,b)::kvs,r::aQ,.cons ⟨e1,e2⟩ q,e=>by
  subst e1;by_cases h:k=r.1
  ·subst h
   rw[DP,beq_self_eq_true]at e;cases e;exact⟨r.2.2,by simp[valueAt,keyR],e2⟩
  ·rw[DP,beq_false_of_ne h]at e
   obtain⟨u,h1,h2⟩:=q2Z q e;refine⟨u,?_,h2⟩;unfold valueAt at h1 ⊢;rw[DD,List.find?_cons_of_neg]
   ·exact h1
   ·intro z
    exact h (Key.inr.inj (Uq z)).symm
theorem q8J(D:KDi X.K X.w X.mg nm a kvs)(I:Inv X a4 σ H s):∃aQ:List (Str×Tok×Value),s.heap.DictOf (ve X.prog X.w) a (aQ.map keyR)/\Paired (λ(kv:Str×V) (r:Str×Tok×Value)=>kv.1=r.1/\RelV kv.2 r.2.2) kvs aQ:=by
 obtain⟨aQ,ep,h1,h2,h3⟩:=D.ex;exact⟨aQ,⟨_,_,ep,I.kIn a _ h1,⟨rfl,rfl,rfl⟩,rfl,q7l aQ,by simpa using Wu aQ,q3G h2⟩,h3⟩
def tKD(kvs:List (Str×V))(ty:TE):TE:=λσ H Q=>ty σ H λy H1=>∃k v,y=.str k/\kvs.lookup k=some v/\Q v H1
theorem q89(D:KDi X.K X.w X.mg nm a kvs)(hg:Gl X nm)(hi:QE X i ty)(hs:NoSl i)(hd:(nm==("__debug__" : Str))=false:=by decide):QE X (.Subscript (.Name nm p) i pos) (tKD kvs ty):= ⟨by
 have hi := hi.h;intro a4 s σ H Q I h;refine Yz PySem.F.slot_dict_getitem.lookup hs (zp I hg D.g (thn (hi a4 s σ H _ I h) λiv s2 ⟨y,H2,I2,ry,k,v,ey,e,q2⟩=>?_) hd);subst ey;obtain⟨aQ,dd,hp⟩:=q8J D I2;obtain⟨u,hu,ru⟩:=q2Z hp e;exact⟨dd.typeIs,wpAny_getItem_of (Zs (k:=.inr k) ry) dd.mapOf hu ⟨v,H2,I2.tok _,ru,q2⟩⟩⟩
def uKD(ks:List (Str×T))(ub:UE):UE:=λρ M Q=>ub ρ M λy M1=>∃k t,y=.p (.str k)/\ks.lookup k=some t/\Q (.p t) M1
theorem Gh:∀{kvs:List (Str×V)}{ks:List (Str×T)},Paired (λ(a:Str×V) (b:Str×T)=>a.1=b.1/\Sc a.2 b.2) kvs ks->ks.lookup k=some t->∃v,kvs.lookup k=some v/\Sc v t
 |_,_,.nil,e=>by simp at e
 | (a,b)::kvs,(c,d)::ks,.cons ⟨e1,e2⟩ q,e=>by
  subst e1;rw[DP]at e ⊢;cases h:k==a with
  |true=>rw[h]at e;cases e;exact⟨b,rfl,e2⟩
  |false=>rw[h]at e;exact Gh q e
theorem q8A(h:Paired (λ(a:Str×V) (b:Str×T)=>a.1=b.1/\Sc a.2 b.2) kvs ks)(hb:ZE tb ub):ZE (tKD kvs tb) (uKD ks ub):= ⟨have hb := hb.h;λA ι σ H ρ M Qu Q w e q k=>
 hb A ι σ H ρ M _ _ w e q λy M1 a6 v H1 l1 w1 r1 zz=>by
  obtain⟨kk,t,ey,el,q1⟩:=zz;subst ey;cases r1 with
  |p r=>
  cases r;obtain⟨v,h1,h2⟩:=Gh h el;exact⟨kk,v,rfl,h1,k _ M1 a6 _ H1 l1 w1 (.p h2.rep) q1⟩⟩
mutual
noncomputable def toD:T->PyData
 |.non=>.none
 |.bl b=>.bool b
 |.int i=>.int i
 |.str x=>.str x
 |.tup xs=>.tuple (toDs xs)
 |.lst xs=>.list (toDs xs)
noncomputable def toDs:List T->List PyData
 | []=>[]
 |x::xs=>toD x::toDs xs
end
mutual
theorem noD:∀t:T,(toD t).hasDict=false
 |.non=>rfl
 |.bl _=>rfl
 |.int _=>rfl
 |.str _=>rfl
 |.tup xs=>noDs xs
 |.lst xs=>noDs xs
theorem noDs:∀ts:List T,PyData.hasDictAll (toDs ts)=false
 | []=>rfl
 |x::xs=>by show((toD x).hasDict||PyData.hasDictAll (toDs xs))=false;rw[noD x,noDs xs];rfl
end
theorem zZ{h:Heap}:∀{vs:List V}{ts:List T}{us:List Value},Vals vs us->vs.length=ts.length->(∀(i:Nat) v t,vs[i]?=some v->ts[i]?=some t->∀u,RelV v u->∃as,Reads h u (toD t) as)->∃as,ReadsAll h us (toDs ts) as
 | [], [],_,.nil,_,_=>⟨_,.nil⟩
 |v::vs,t::ts,_,.cons r q,hl,ih=>by
  obtain⟨as,h1⟩:=ih 0 v t rfl rfl _ r;obtain⟨bs,h2⟩:=zZ q (by simpa using hl) λi v t e1 e2=>ih (i+1) v t (by simpa using e1) (by simpa using e2);exact⟨_,.cons h1 h2⟩
theorem Q9{A:Addr->Prop}{v:V}{t:T}(I:Inv X a4 σ H s)(r:RepT A H v t):∀u,RelV v u->∃as,Reads s.heap u (toD t) as:=by
 induction r with
 |non=>intro u e;cases e;exact⟨_,.none⟩
 |bl b=>intro u e;cases e;exact⟨_,.bool b⟩
 |int i=>intro u e;obtain⟨t,rfl⟩:=e;exact⟨_,.int i t⟩
 |str x=>intro u e;obtain⟨t,rfl⟩:=e;exact⟨_,.str x t⟩
 |tup na e l r ih=>
  intro u eu;cases eu;obtain⟨its,rv,⟨o,h1,h2,n,h3⟩,_⟩:=I.tuple (SqT.of e);obtain⟨as,q⟩:=zZ rv l ih;exact⟨_,.tuple h1 h2 h3 (by simpa using q)⟩
 |lst na e l r ih=>
  intro u eu;cases eu;obtain⟨its,rv,pl,_⟩:=I.list (SqL.of e);obtain⟨o,h1,h2,n,h3⟩:=pl.isList;obtain⟨as,q⟩:=zZ rv l ih;exact⟨_,.list h1 h2 h3 (by simpa using q)⟩
structure q06(t:T):Prop where
 sh:(toD t).showable=true
 dp:(toD t).depth<=60
 sz:(toD t).shown.length<=sizeLine
def q6V:List V->Hp->VK->Prop:=λxs H Q=>∃(A:Addr->Prop)(v:V)(t:T),xs=[v]/\RepV A H v t/\q06 t/\Q (.str (toD t).shown) H
theorem ZZ(hg:X.A.guards=some [])(hu:X.A.units+64<cLine):xk X (.builtin "repr") q6V:=by
 intro a4 s σ H xs us Q I r h;obtain⟨A,v,t,rfl,rv,ok,q⟩:=h;obtain⟨u,rfl,ru⟩:=VL r;have big:∀a as,Reads s.heap (.ref a) _ as->wpAny (model X.prog X.w) X.A _ (EP X a4 σ Q) X.xe s:=λa as rd=>
  repr_of_reads' rd ok.sh (PyData.noDict_hsm (noD t)) hg (by have:=ok.dp;lia) (λ_ _ e=>e) (λh' u tk hk=>⟨.str _,H,I.kept (t':=tk) hk,⟨_,rfl⟩,q⟩) ok.sz
 cases rv with
 |of r=>
  obtain⟨as,rd⟩:=Q9 I r u ru;cases r with
  |non=>cases ru;exact PySem.P.repr_of_none ⟨.str _,H,I.tok _,⟨_,rfl⟩,q⟩
  |bl b=>cases ru;exact PySem.P.repr_of_bool ⟨.str _,H,I.tok _,⟨_,rfl⟩,q⟩
  |int i=>
   obtain⟨t,rfl⟩:=ru;exact PySem.P.repr_of_int (Uq ok.sh) ⟨.str _,H,I.tok _,⟨_,rfl⟩,q⟩
  |str x=>
   obtain⟨t,rfl⟩:=ru;exact PySem.P.repr_of_str ⟨.str _,H,I.tok _,⟨_,rfl⟩,q⟩ ok.sz
  |tup=>cases ru;exact big _ _ rd
  |lst=>cases ru;exact big _ _ rd
 |lst e rr=>
  cases ru;obtain⟨its,rv,pl,_⟩:=I.list (SqL.of e);obtain⟨o,h1,h2,n,h3⟩:=pl.isList;obtain⟨as,q⟩:=zZ rv rr.len λi v t e1 e2=>Q9 I (Paired.get2 rr e1 e2);exact big _ _ (.list h1 h2 h3 (by simpa using q))
 |tup e rr=>
  cases ru;obtain⟨its,rv,⟨o,h1,h2,n,h3⟩,_⟩:=I.tuple (SqT.of e);obtain⟨as,q⟩:=zZ rv rr.len λi v t e1 e2=>Q9 I (Paired.get2 rr e1 e2);exact big _ _ (.tuple h1 h2 h3 (by simpa using q))
def q6e:List T->(T->Prop)->Prop:=λts Q=>∃t,ts=[t]/\q06 t/\Q (.str (toD t).shown)
theorem q1k:CbL q6V q6e:=λA ι H M vs ts Qs Q w r ⟨t,e,ok,q⟩ k=>by
 subst e;obtain⟨v,ev,r1⟩:=pv1 r;subst ev;exact⟨_,v,t,rfl,r1,ok,k _ ι _ H (.refl _ _) w (.str _) q⟩
theorem YV{t:T}{Q:T->Prop}:q6e [t] Q=(q06 t/\Q (.str (toD t).shown)):=propext ⟨λzz=>by obtain⟨_,e,h⟩:=zz;cases e;exact h,λh=>⟨t,rfl,h⟩⟩
theorem q37:bootBuiltins "repr" = some (.builtin "repr"):=by  rfl
theorem Wd.takeA(w:Wd (λx=>A x\/x=p) ι H M)(ha:¬A p)(hp:H p=some (.lst ys))(r:RepTs (Av (λx=>A x\/x=p) ι) H ys ts):Wd A (ι++[p]) H (M++[.lst (ts.map U.p)])/\p∉ι:=by
 have np:p∉ι:=λz=>w.na p z (.inr rfl);have hl:Lea (λx=>A x\/x=p) ι H A (ι++[p]) H:=⟨⟨[p],rfl⟩,λx o hx e=>⟨e,λz=>hx (z.elim (λz=>.inl (.inl z)) λz=>(Dr.mp z).elim .inr λz=>.inl (.inr (Dm.mp z)))⟩,λx fs hx e=>⟨λz=>(Dr.mp z).elim hx λz=>(by rw[Dm.mp z,hp]at e;cases e),e⟩⟩;refine⟨⟨DW.mpr ⟨w.nd,by simp,λa ha b hb=>by rw[Dm.mp hb];exact λz=>np (by rw[<-z];exact ha)⟩,by simp[w.len],λx hx=>w.dom x (.inl hx),λx hx z=>?_,λk a ob e1 e2=>?_⟩,np⟩
 ·rcases Dr.mp hx with h|h
  ·exact w.na x h (.inl z)
  ·rw[Dm.mp h]at z;exact ha z
 ·by_cases hk:k<ι.length
  ·rw[De hk]at e1
   rw[De (by rw[<-w.len];exact hk)]at e2;have q:=w.obj k a ob e1 e2;cases ob with
   |lst=>obtain⟨vs,e,q⟩:=q;exact⟨vs,e,Paired.mapP q λ_ _ q=>q.lea hl⟩
   |tup=>obtain⟨vs,e,q⟩:=q;exact⟨vs,e,Paired.mapP q λ_ _ q=>q.lea hl⟩
   |ins=>
    obtain⟨dx,gs,e,ed,nd,q⟩:=q;refine⟨dx,gs,e,ed,λz=>?_,Paired.mapP q λ_ _ q=>⟨q.1,q.2.lea hl⟩⟩;rcases Dr.mp z with z|z
    ·exact nd z
    ·rw[Dm.mp z,hp]at ed;cases ed
   |dK=>obtain⟨gs,e,q⟩:=q;exact⟨gs,e,Paired.mapP q λ_ _ q=>⟨q.1,q.2.lea hl⟩⟩
   |dF=>obtain⟨e,q⟩:=q;exact⟨e,Paired.mapP q λ_ _ q=>⟨q.1,q.2.lea hl⟩⟩
   |tab=>
    obtain⟨ps,e,t,z⟩:=q;refine⟨ps,e,t,z.imp id λ⟨c,h1,h2,h3⟩=>⟨c,h1,h2,λy=>?_⟩⟩;rcases Dr.mp y with y|y
    ·exact h3 y
    ·rw[Dm.mp y,hp]at h2;cases h2
  ·have i8:=(Dc.mp e1).1
   rw[Dj,DQ]at i8;have:k=ι.length:=by lia
   subst this;rw[Dp (Dk _),Rq]at e1;rw[w.len,Dp (Dk _)]at e2;simp at e1 e2;subst e1 e2;exact⟨ys,hp,RepTs.ups (Paired.mapP r λ_ _ q=>q.mono hl.av)⟩
theorem Le.pushed{H H':Hp}{ι ae:List Addr}{p:Addr}(l:Le ι H ae H')(h:H p=none)(_:p∉ae):Le ι H (ae++[p]) H':=by
 obtain⟨m,rfl,hm⟩:=l.ext;refine⟨⟨m++[p],by rw[DC],λx hx=>?_⟩,l.fr,l.al⟩;rcases Dr.mp hx with z|z
 ·exact hm x z
 ·rw[Dm.mp z];exact h
def qaD(it:UIt)(ug:UG)(ut:UT)(ue:UE)(dQ:UEnv)(M1:MM)(Q:UK):Prop:=it.n<=sizeLine/\∃Iv:Nat->List T->MM->Prop,Iv 0 [] M1 /\
 (∀i a7 M2,i<it.n->a7.length<=i->Iv i a7 M2->it.ok M2/\∀u,it.item i u->ug u dQ M2 λbB M4=>ut bB M4 λb M5=>if b=true then ue bB M5 λz M6=>∃t,z=.p t/\Iv (i+1) (a7++[t]) M6 else Iv (i+1) a7 M5) /\
 (∀a7 M2,Iv it.n a7 M2->it.ok M2/\Q (.m M2.length) (M2++[.lst (a7.map U.p)]))
def Jj(ui:UI)(bs:List Bool)(n:Nat)(ug:UG)(ut:UT)(ue:UE):UE:=λρ M Q=>ui ρ M λit M1=>ρ.length=bs.length/\qaD it ug ut ue (KW bs n ρ) M1 Q
theorem Kl(hi:ZI wi ui)(hg:ZX bs n g ug)(ht:ZT tt ut)(he:ZE te ue):ZE (xG wi bs n g tt te) (Jj ui bs n ug ut ue):= ⟨by
 have hi := hi.h;have hg := hg.h;have ht := ht.h;have he := he.h;intro A ι σ H ρ M Qu Q w e q k;refine hi A ι σ H ρ M _ _ w e q λit M1 a6 J H1 l1 w1 hJ q1 a7 bC=>?_;obtain⟨au,dY,Iv,I0,It,Id⟩:=q1;have mj:σ.length=bs.length:=by rw[<-au];exact e.len
 have e1:=e.le l1;have na:¬Av A a6 a7:=w1.nA bC;have aD:∀a9 H2,Le a6 H1 a9 H2->(∀x∈a9,¬(A x\/x=a7))->Lea A a6 H1 (λx=>A x\/x=a7) a9 H2:=λa9 H2 l h=>by
  refine⟨let⟨n,e,_⟩:=l.ext;⟨n,e⟩,λx o hx ex=>?_,l.xd⟩;obtain⟨a1,a2⟩:=l.av hx ex;refine⟨a1,λz=>?_⟩;rcases z with(z|z)|z
  ·exact a2 (.inl z)
  ·rw[z,bC]at ex;cases ex
  ·exact a2 (.inr z)
 refine⟨λi m H2=>m=it.n-i/\i<=it.n/\∃a9 M2 aB ys,Le a6 H1 a9 H2/\Wd (λx=>A x\/x=a7) a9 H2 M2/\H2 a7=some (.lst ys)/\RepTs (Av (λx=>A x\/x=a7) a9) H2 ys aB/\aB.length<=i/\Iv i aB M2,
  ⟨it.n,by simp,DG _,a6,M1, [], [],.fresh bC,w1.addA bC,upd_same,.nil,Dk _,I0⟩,?_⟩
 rintro i m H2 ⟨rfl,bf,a9,M2,aB,ys,l2,w2,fR,fX,fY,I2⟩;have lea:=aD a9 H2 l2 w2.na;by_cases bw:i<it.n
 ·obtain⟨ok,step⟩:=It i aB M2 bw fY I2
  obtain⟨ie,jy⟩:=(hJ _ a9 H2 M2 i lea w2 ok).1 bw;refine .inr ⟨ie,λH'=>∃a9 M2 aB ys,Le a6 H1 a9 H'/\Wd (λx=>A x\/x=a7) a9 H' M2/\H' a7=some (.lst ys)/\RepTs _ H' ys aB/\aB.length<=i+1/\Iv (i+1) aB M2,λH' h=>⟨it.n-(i+1),by lia,rfl,bw,h⟩,λx H3 y=>?_⟩;obtain⟨u,hu,l3,w3,r3⟩:=jy x H3 y;have dX:=l2.trans l3;have dn:∀{ae:List Addr}{H':Hp}{M':MM},Wd (λx=>A x\/x=a7) ae H' M'->a7∉ae:=λw z=>w.na a7 z (.inr rfl);have ml:H3 a7=some (.lst ys):=l3.fr _ _ fR (dn w2);have fZ:EnvR (λx=>A x\/x=a7) a9 H3 (zE bs n σ) (KW bs n ρ):=(e1.mask).lea (aD a9 H3 dX w3.na);refine hg _ a9 σ H3 _ M2 x u _ _ mj w3 fZ r3 (step u hu) λbB cT e4 x4 g6 q4=>⟨⟨x4,g6⟩,?_⟩;refine ht _ a9 cT H3 bB M2 _ _ w3 e4 q4 λb M5 dm H5 l5 w5 q5=>?_;have ig:H5 a7=some (.lst ys):=l5.fr _ _ ml (dn w3);have eK:=Paired.mapP fX λ_ _ q=>(q.le l3).le l5;cases b with
  |false=>exact⟨dm,M5,aB,ys,dX.trans l5,w5,ig,eK,Bc fY,q5⟩
  |true=>
   refine he _ dm cT H5 bB M5 _ _ w5 (e4.le l5) q5 λz M6 mm zv H6 l6 w6 r6 q6=>?_;obtain⟨t,rfl,q6⟩:=q6;have g7:H6 a7=some (.lst ys):=l6.fr _ _ ig (dn w5);refine⟨ys,g7,?_,mm,M6,aB++[t],ys++[zv],((dX.trans l5).trans l6).updF bC,(w6.updA (.inr rfl) g7).2,upd_same,?_,by rw[Dj,DQ];lia,q6⟩
   ·rw[fX.len];lia
   ·have hl:=(w6.updA (o:=.lst (ys++[zv])) (.inr rfl) g7).1
    cases r6 with
    |p r6=>exact Paired.app (Paired.mapP eK λ_ _ q=>(q.le l6).mono hl.av) (.cons (r6.mono hl.av) .nil)
 ·have ei:i=it.n:=by lia
  subst ei;obtain⟨ok,fin⟩:=Id aB M2 I2;obtain⟨w3,l3⟩:=w2.takeA (λz=>na (.inl z)) fR fX;exact .inl ⟨(hJ _ a9 H2 M2 _ lea w2 ok).2 rfl,k _ _ (a9++[a7]) _ H2 (l1.trans (l2.pushed bC l3)) w3 (.m (by rw[<-w2.len];exact xq)) fin⟩⟩
theorem UComp.new{M1:MM}(h:UComp it ug ut ue dQ M1 R)(k:∀a7 M2,R (.p (.lst a7)) M2->Q (.m M2.length) (M2++[.lst (a7.map U.p)])):qaD it ug ut ue dQ M1 Q:=by
 obtain⟨hz,Iv,h0,hs,hd⟩:=h;exact⟨hz,Iv,h0,hs,λa7 M2 h=>⟨(hd a7 M2 h).1,k a7 M2 (hd a7 M2 h).2⟩⟩
def LiN(us:List U)(M:MM)(Q:UK):Prop:=∃x ys,us=[x]/\(qB M x=some ys\/vI M x=some ys)/\Q (.m M.length) (M++[.lst ys])
def Qd(ul:UA):UE:=λρ M Q=>ul ρ M λus M1=>LiN us M1 Q
theorem j2(ha:ZA n tl ul):ZE (tCB (λxs H Q=>∃p ys,xs=[.ref p]/\(SqL Ξ H p ys\/SqT Ξ H p ys)/\∀l,H l=none->Q (.ref l) (upd H l (.lst ys))) tl) (Qd ul):= ⟨have ha := ha.h;λA ι σ H ρ M Qu Q w e q k=>
 ha A ι σ H ρ M _ _ w e q λus M1 a6 vs H1 l1 w1 hn r1 zz=>by
  obtain⟨x,ys,eu,hy,q1⟩:=zz;subst eu;cases r1 with
  |cons r q'=>
  cases q';rcases hy with hy|hy
  ·obtain⟨p,zs,rfl,h1,h2⟩:=vA w1 r hy
   exact⟨p,zs,rfl,.inl (SqL.of h1),λl hl=>k _ _ _ _ _ (l1.trans (.push hl)) (zJ w1 hl h2).1 (zJ w1 hl h2).2 q1⟩
  ·obtain⟨p,zs,rfl,h1,h2⟩:=zk w1 r hy
   exact⟨p,zs,rfl,.inr (SqT.of h1),λl hl=>k _ _ _ _ _ (l1.trans (.push hl)) (zJ w1 hl h2).1 (zJ w1 hl h2).2 q1⟩⟩
def Yo(G:List T->(T->Prop)->Prop)(ul:UA):UE:=λρ M Q=>ul ρ M λus M1=>∃ts,frzs (frzN 6 M1) us=some ts/\G ts λt=>(∃x,vt t=some x)/\Q (.p t) M1
theorem q0F(ha:ZA n tl ul):ZE (zW (spP G) [] E tl) (Yo G ul):= ⟨have ha := ha.h;λA ι σ H ρ M Qu Q w e q k=>
 ha A ι σ H ρ M _ _ w e q λus M1 a6 vs H1 l1 w1 hn r1 zz=>by
  obtain⟨ts,et,q1⟩:=zz;rw[DI];refine⟨A,ts,_,w1.dom,jX r1 (λv u t r e=>xP w1 r e) et,q1,λt v H2 s r2 ⟨⟨x,hx⟩,q2⟩=>k _ M1 a6 v H2 (l1.trans s.le) (w1.same s) (.p ?_) q2⟩;cases(RepV.of r2).sc (y:=.non) hx;exact(jA hx).rep⟩
def Me0S(s:List U->List U->(U->List U->Prop)->Prop)(o:U)(M:MM)(Q:UK):Prop:=∃k us,o=.m k/\M[k]?=some (.lst us)/\s us [] λz cE=>Q z (M.set k (.lst cE))
def uMe0(s:List U->List U->(U->List U->Prop)->Prop)(uo:UE):UE:=λρ M Q=>uo ρ M λo M1=>Me0S s o M1 Q
set_option tactic.hygienic true in
theorem q3f(h:MeL r s)(ha:ZE ta ua):ZE (tBM0 Ξ "list" r ta) (uMe0 s ua):= ⟨have ha := ha.h;λA ι σ H ρ M Qu Q w e q k=>
 ha A ι σ H ρ M _ _ w e q λo M1 a6 v H1 l1 w1 r1 zz=>by
  obtain⟨kk,us,eo,hz,q1⟩:=zz;subst eo;cases r1 with
  |m ek=>
  rename_i a;obtain⟨iV,h1,h2⟩:=w1.obj kk a _ ek hz;have hm:=Dh ek;exact⟨.inl ⟨rfl,iV,SqL.of h1⟩,h A a6 H1 M1 kk a iV [] us [] _ Q w1 ek h1 hz h2 .nil q1 λz cE zv gC rx rz qz=>k z _ a6 zv _ (l1.trans (.put hm)) (w1.put (mo:=.lst cE) ek ⟨gC,upd_same,RepUs.le (.put hm) rx⟩) (rz.le (.put hm)) qz⟩⟩
def ItB(b:Bool)(h:Heap)(it a:Addr)(i:Nat):Prop:=match b with
 |true=>h.IsListIter it a i
 |false=>h.IsTupleIter it a i
theorem ItB.ex(x:ItB b h it a i):∃o vs,h.get? it=some o/\o.data=.fields vs:=by
 cases b
 ·obtain⟨o,e,_,d⟩:=x;grind
 ·obtain⟨o,e,_,d⟩:=x;grind
theorem q1o(hu:X.A.units+1<cLine)(ho:QE X o td)(he:QE X e ty)(m:M1 X o "get" aF e ax):QE X (.Call (.Attribute o "get" aF) [e] [] ax) (Yx td ty):= ⟨by
 have ho := ho.h;have he := he.h;intro a4 s σ H Q I h;refine wpAny_Call_method m.base m.few m.line PySem.F.plainAttrs_dict PySem.F.slot_dict_get PySem.F.type_dict_get (thn (ho a4 s σ H _ I h) λu s1 zz=>?_);obtain⟨x,H1,I1,rx,a,ex,d,q1⟩:=zz;subst ex;obtain rfl:=rx;obtain⟨t1,t2,_⟩:=q62 I1 d;refine⟨t1,t2,?_⟩;rw[m.trees];refine Calls.callWith_builtin rfl (Calls.evalArgs_plain (Calls.spliced_cons (thn (he a4 s1 σ H1 _ I1 q1) λiv s2 ⟨y,H2,I2,ry,ov,g,q2⟩=>Calls.spliced_nil ?_)));exact q64 hu I2 g ry λw' s3 I3 df=>⟨_,H2,I3,df,q2⟩⟩
def DG1S(M:MM)(x:U)(ρ:UEnv)(uy:UE)(Q:UK):Prop:=∃k ii,x=.m k/\M[k]?=some (.dK ii)/\uy ρ M λy M2=>∃kvs aD,M2[k]?=some (.dK kvs)/\y=keyU aD/\Q ((valU kvs aD).getD (.p .non)) M2
def q2P(ud uy:UE):UE:=λρ M Q=>ud ρ M λx M1=>DG1S M1 x ρ uy Q
set_option tactic.hygienic true in
theorem q1c(hd:ZE td ud)(hy:ZE ty uy):ZE (Yx td ty) (q2P ud uy):=⟨λA ι σ H ρ M Qu Q w e q k=>
 hd.h A ι σ H ρ M _ _ w e q λx M1 a6 v H1 l1 w1 r1 zz=>by
  obtain⟨kk,ii,ex,em,q1⟩:=zz;subst ex;cases r1 with
  |m ek=>
  rename_i a;obtain⟨nQ,h0,_⟩:=w1.obj kk a _ ek em;refine⟨a,rfl,.inl ⟨nQ,.inl h0⟩,hy.h A a6 σ H1 ρ M1 _ _ w1 (e.le l1) q1 λy M2 a9 v2 H2 l2 w2 r2 ⟨kvs,aD,ij,ey,q2⟩=>?_⟩;subst ey;have dJ:a9[kk]?=some a:=by
   obtain⟨nn,rfl,_⟩:=l2.ext;rw[De (Dc.mp ek).1];exact ek
  obtain⟨gs,h1,h2⟩:=w2.obj kk a _ dJ ij;have hv:=QZ (k:=aD) h2;have g:=DGet.k (k:=aD) h1;rw[<-jq r2]at g;refine⟨_,g,?_⟩;cases ev:valU kvs aD with
  |none=>
   rw[ev]at hv q2;rw[hv];exact k _ M2 a9 _ H2 (l1.trans l2) w2 (.p .non) q2
  |some u=>
   rw[ev]at hv q2;obtain⟨x,hx,rx⟩:=hv;rw[hx];exact k _ M2 a9 _ H2 (l1.trans l2) w2 rx q2⟩
section
variable {P:Program}{w:World}{A:Around}{E:Value->Shared->Prop}{s:Shared}{κ:Type} [DecidableEq κ]
def q7r(P:Program)(w:World)(t:Sem Value)(x:Str):Prop:=∀(A:Around)(E:Value->Shared->Prop)(s:Shared)(Q:Value->Shared->Prop),(∀tk t',Q (.str x t') { s with toks:=tk })->wpAny (model P w) A t Q E s
inductive TextPs(P:Program)(w:World):List (Sem Value×Sem Value)->List (Str×Str)->Prop
 |nil:TextPs P w [] []
 |cons {k v:Sem Value}{x y:Str}{ps:List (Sem Value×Sem Value)}{zs:List (Str×Str)} (hk:q7r P w k x) (hv:q7r P w v y) (r:TextPs P w ps zs):TextPs P w ((k,v)::ps) ((x,y)::zs)
theorem TextPs.len(h:TextPs P w ps zs):ps.length=zs.length:=by
 induction h with
 |nil=>rfl
 |cons _ _ _ ih=>rw[Dv,Dv,ih]
inductive TextV:List (Key×Value)->List (Str×Str)->Prop
 |nil:TextV [] []
 |cons {x y:Str}{t:Tok}{l:List (Key×Value)}{zs:List (Str×Str)} (r:TextV l zs):TextV ((.inr x,.str y t)::l) ((x,y)::zs)
theorem TextV.keys(h:TextV l zs):l.map (·.1)=zs.map λz=>Key.inr z.1:=by
 induction h with
 |nil=>rfl
 |cons _ ih=>rw[DD,DD,ih]
theorem TextV.len(h:TextV l zs):l.length=zs.length:=by
 have:=Um List.length h.keys;simpa using this
end
inductive ConstPs:List (Option Expr)->List Expr->List (Str×Str)->Prop
 |nil:ConstPs [] [] []
 |cons {x y:Str}{j j':Nat}{p p':Pos}{ks:List (Option Expr)}{vs:List Expr}{zs:List (Str×Str)} (r:ConstPs ks vs zs):ConstPs (some (.Constant (.str x) j p)::ks) (.Constant (.str y) j' p'::vs) ((x,y)::zs)
theorem ConstPs.all(h:ConstPs ks vs zs):ks.all (·.isSome)=true/\ks.length=vs.length:=by
 induction h with
 |nil=>exact⟨rfl,rfl⟩
 |cons _ ih=>exact⟨by rw[Bi,ih.1];rfl,by rw[Dv,Dv,ih.2]⟩
theorem ConstPs.text(h:ConstPs ks vs zs):TextPs P w (pairTrees ks vs env pos) zs:=by
 induction h with
 |nil=>exact .nil
 | @cons x y j j' p p' ks vs zs r ih=>
  exact .cons (λA E s Q q=>Calls.Constant_str (q _ _)) (λA E s Q q=>Ug (Calls.Constant_str (Ug (Ur (Uh (q _ _)))))) ih
def q5N(Ξ:PySem.W.Frag):R2:=λx y H Q=>∃a b xs ys,x=.ref a/\y=.ref b/\SqT Ξ H a xs/\SqT Ξ H b ys/\xs.length+ys.length<=sizeLine /\
 (xs=[]->Q (.ref b) H)/\(xs≠[]->ys=[]->Q (.ref a) H)/\(xs≠[]->ys≠[]->∀p,H p=none->Q (.ref p) (upd H p (.tup (xs++ys))))
theorem q5b(hK:X.K=Ξ):OpR X (binaryOp .Add) (q5N Ξ):=by
 subst hK;intro a4 s σ H x y v u Q I rx ry h;obtain⟨a,b,xs,ys,rfl,rfl,ha,hb,hz,q0,q1,q2⟩:=h;cases rx;cases ry;obtain⟨its,r1,p1,_⟩:=I.tuple ha;obtain⟨bd,r2,p2,_⟩:=I.tuple hb;by_cases hx:xs=[]
 ·obtain⟨⟨cls,dd,data,sl⟩,ho,hc,n,hd⟩:=id p1
  obtain⟨⟨lG,iI,data2,eT⟩,fJ,gR,n2,dG⟩:=id p2;simp only at hc hd gR dG;subst hc hd gR dG;exact concat_meets ⟨_,ho,rfl⟩ ⟨_,fJ,rfl⟩ U5 seq_tuple_add PySem.F.slot_tuple_add PySem.F.entry_tuple_add (PySem.F.args_tuple_add_2 _ _)
   (tuple_addW0 a b its.toArray bd.toArray n n2 dd iI sl eT (by simp[r1.nil_iff.mpr hx])) ⟨ho,fJ,.ref b,H,I,rfl,q0 hx⟩
 refine HT.cat_tup p1 p2 (λz=>hx (r1.nil_iff.mp z)) (λz=>⟨.ref a,H,I,rfl,q1 hx (r2.nil_iff.mp z)⟩) (λz=>?_) (by rw[<-r1.length, <-r2.length];exact hz);refine⟨.ref s.heap.objs.size,_,I.laid (t':=s.toks) (λb ob q=>Heap.get?_push_of_some _ q) (Dk _) ?_,rfl,q2 hx (λw=>z (r2.nil_iff.mpr w)) _ (I.hok.fresh (Dk _))⟩;exact⟨by rw[Dj];exact hz,_,r1.append r2,IsTup.new _ _⟩
def q8z(x y:U)(M:MM)(Q:UK):Prop:=∃xs ys,x=.p (.tup xs)/\y=.p (.tup ys)/\xs.length+ys.length<=sizeLine/\Q (.p (.tup (xs++ys))) M
def VN(ua ub:UE):UE:=λρ M Q=>ua ρ M λx M1=>ub ρ M1 λy M2=>q8z x y M2 Q
theorem q4x(ha:ZE ta ua)(hb:ZE tb ub):ZE (tOp (q5N Ξ) ta tb) (VN ua ub):=⟨λA ι σ H ρ M Qu Q w e q k=>
 ha.h A ι σ H ρ M _ _ w e q λx M1 a6 v H1 l1 w1 r1 q1=>hb.h A a6 σ H1 ρ M1 _ _ w1 (e.le l1) q1 λy M2 a9 v2 H2 l2 w2 r2 zz=>by
  obtain⟨xs,ys,ex,ey,hz,q3⟩:=zz;subst ex ey;have cW:=r1.le l2;cases cW with
  |p t1=>
  cases r2 with
  |p t2=>
  obtain⟨p,vs,rfl,_,h1,g1⟩:=id t1.tup_inv;obtain⟨p2,cB,rfl,_,h2,g2⟩:=id t2.tup_inv;have n1:=g1.len;have n2:=g2.len;refine⟨p,p2,vs,cB,rfl,rfl,SqT.of h1,SqT.of h2,by rw[n1,n2];exact hz,λz=>?_,λ_ z=>?_,λ_ _ p hp=>k _ M2 a9 _ _ ((l1.trans l2).trans (.fresh hp)) (w2.fresh hp) (.p (kQ w2 hp (g1.app g2))) q3⟩
  ·obtain rfl:xs=[]:=RF.mp (by grind)
   exact k _ M2 a9 _ _ (l1.trans l2) w2 (.p t2) q3
  ·obtain rfl:ys=[]:=RF.mp (by grind)
   rw[DI]at q3;exact k _ M2 a9 _ _ (l1.trans l2) w2 (.p t1) q3⟩
def tX0(te:TE):TX:=λσ H Q _=>te σ H Q
def tOpX(r:R2)(ta tb:TX):TX:=λσ H Q E=>ta σ H (λx H1=>tb σ H1 (λy H2=>r x y H2 Q) E) E
def tIfX(tt:TT)(ta tb:TX):TX:=λσ H Q E=>tt σ H λb H1=>if b=true then ta σ H1 Q E else tb σ H1 Q E
theorem xX(hc:QT X.nox c tt)(ha:QXe X a tx)(hb:QXe X b tx'):QXe X (.IfExp c a b pos) (tIfX tt tx tx'):=⟨λa4 s σ H Q E k I h=>by
 refine wpAny_IfExp (Uj (hc.h a4 s σ H _ (I.wish _) h) (λd s1 ⟨H1,I1,q1⟩=>?_) λ_ _ z=>z.elim);cases d with
 |true=>exact ha.h a4 s1 σ H1 Q E k I1.unwish q1
 |false=>exact hb.h a4 s1 σ H1 Q E k I1.unwish q1⟩
def uX0(ue:UE):UXe:=λρ M Q _=>ue ρ M Q
theorem cx_0(h:ZE te ue):ZXe mg (tX0 te) (uX0 ue):=⟨λA ι σ H ρ M Qu Xu Q E w e q k _=>h.h A ι σ H ρ M Qu Q w e q k⟩
def uOpX(s:T->T->(T->Prop)->Prop)(ua ub:UXe):UXe:=λρ M Q X=>ua ρ M (λx M1=>ub ρ M1 (λy M2=>OpS s M2 x y Q) X) X
theorem q8u(h:OpL r s)(ha:ZXe mg tx ux)(hb:ZXe mg ty uy):ZXe mg (tOpX r tx ty) (uOpX s ux uy):=⟨λA ι σ H ρ M Qu Xu Q E w e q k kx=>
 ha.h A ι σ H ρ M _ Xu _ E w e q (λx M1 a6 v H1 l1 w1 r1 q1=>hb.h A a6 σ H1 ρ M1 _ Xu _ E w1 (e.le l1) q1 (λy M2 a9 v2 H2 l2 w2 r2 ⟨a,b,e1,e2,q2⟩=>
  h A a9 H2 M2 v v2 a b _ Q w2 ((r1.le l2).sn w2 e1) (r2.sn w2 e2) q2 λt ca z H3 l3 w3 r3 q3=>k _ M2 ca z H3 ((l1.trans l2).trans l3) w3 (.p r3) q3)
  λnm p C d M' ae H' hm hp l' w' x'=>kx nm p C d M' ae H' hm hp (l1.trans l') w' x') kx⟩
def uIfX(ut:UT)(ua ub:UXe):UXe:=λρ M Q X=>ut ρ M λb M1=>if b=true then ua ρ M1 Q X else ub ρ M1 Q X
theorem q8H(hc:ZT tt ut)(ha:ZXe mg tx ux)(hb:ZXe mg ty uy):ZXe mg (tIfX tt tx ty) (uIfX ut ux uy):=⟨λA ι σ H ρ M Qu Xu Q E w e q k kx=>
 hc.h A ι σ H ρ M _ _ w e q λc M1 a6 H1 l1 w1 q1=>by
  have nR:=λnm p C d M' ae H' hm hp l' w' x'=>kx nm p C d M' ae H' hm hp (l1.trans l') w' x';cases c with
  |true=>exact ha.h A a6 σ H1 ρ M1 _ Xu _ E w1 (e.le l1) q1 (λb M2 a9 v2 H2 l2 w2 r2 q2=>k b M2 a9 v2 H2 (l1.trans l2) w2 r2 q2) nR
  |false=>exact hb.h A a6 σ H1 ρ M1 _ Xu _ E w1 (e.le l1) q1 (λb M2 a9 v2 H2 l2 w2 r2 q2=>k b M2 a9 v2 H2 (l1.trans l2) w2 r2 q2) nR⟩
def q7t(Ξ:PySem.W.Frag):List V->Hp->VK->Prop:=λxs H Q=>∃(l:Addr)(ns:List Int),xs=[.ref l]/\SqL Ξ H l (ns.map V.int)/\0<ns.length/\∀M,M∈ns->(∀a∈ns,M<=a)->Q (.int M) H
theorem qav(hK:X.K=Ξ)(hc:X.calm=true):xk X (.builtin "min") (q7t Ξ):=by
 subst hK;intro a4 s σ H xs us Q I r h;obtain⟨l,ns,rfl,hl,h0,q⟩:=h;obtain⟨u,rfl,rx⟩:=VL r;cases rx;obtain⟨its,r',pl,hz⟩:=I.list hl;obtain⟨m,F,W,fin⟩:=I.ledger;exact min_list_N (I.ok.hd hc) F W pl.isList (QL r') h0 λh' M t tk F' W' hM ef=>⟨.int M,H,fin h' tk F' W',⟨_,rfl⟩,q M hM ef⟩
def q7c(Ξ:PySem.W.Frag):List V->Hp->VK->Prop:=λxs H Q=>∃(l:Addr)(ns:List Int),xs=[.ref l]/\SqL Ξ H l (ns.map V.int)/\Q (.int ns.sum) H
theorem qau(hK:X.K=Ξ)(hc:X.calm=true):xk X (.builtin "sum") (q7c Ξ):=by
 subst hK;intro a4 s σ H xs us Q I r h;obtain⟨l,ns,rfl,hl,q⟩:=h;obtain⟨u,rfl,rx⟩:=VL r;cases rx;obtain⟨its,r',pl,hz⟩:=I.list hl;have hi:=QL r';obtain⟨xs,e⟩:=hi.allInts.items;have dh:ns=xs.toList.map (·.1):=by rw[<-hi.numsOf, <-nums_intItems, <-e]
 have cy:=pl.isList;rw[e]at cy;refine sum_intListG (I.ok.hd hc) cy λh' tk t' hk=>⟨.int ns.sum,H,I.kept (t':=tk) hk,⟨t',?_⟩,q⟩;rw[preSum_eq,RH (by simp),dh]
theorem q05:∀{ss:List Int}{A:Addr->Prop}{H:Hp}{vs:List V},RepTs A H vs (ss.map T.int)->vs=ss.map V.int
 | [],_,_,_,.nil=>rfl
 |s::ss,_,_,_,.cons r q=>by cases r;rw[q05 q];rfl
def q8N:List T->(T->Prop)->Prop:=λts Q=>∃ss:List Int,ts=[.lst (ss.map T.int)]/\0<ss.length/\∀M,M∈ss->(∀a∈ss,M<=a)->Q (.int M)
theorem q1a:CbL (q7t Ξ) q8N:=λA ι H M vs ts Qs Q w r ⟨ss,e,h0,q⟩ k=>by
 subst e;obtain⟨v,ev,r1⟩:=pv1 r;subst ev;obtain⟨p,zs,rfl,h1,h2⟩:=r1.lst_inv;cases q05 h2;exact⟨p,ss,rfl,SqL.of h1,h0,λM a b=>k _ ι _ _ (.refl _ _) w (.int M) (q M a b)⟩
def q8p:List T->(T->Prop)->Prop:=λts Q=>∃ss:List Int,ts=[.lst (ss.map T.int)]/\Q (.int ss.sum)
theorem q0E:CbL (q7c Ξ) q8p:=λA ι H M vs ts Qs Q w r ⟨ss,e,q⟩ k=>by
 subst e;obtain⟨v,ev,r1⟩:=pv1 r;subst ev;obtain⟨p,zs,rfl,h1,h2⟩:=r1.lst_inv;cases q05 h2;exact⟨p,ss,rfl,SqL.of h1,k _ ι _ _ (.refl _ _) w (.int _) q⟩
end L2
namespace L2
open PySem PySem.Spec PyProof.Rows PySem.W
theorem ObjOk.there(x:ObjOk P w H h a o):∃u,h.get? a=some u:=by
 cases o with
 |lst xs=>obtain⟨_,_,_,_,e⟩:=x;exact⟨_,e⟩
 |tup xs=>obtain⟨_,_,_,o,e,_⟩:=x;grind
 |dK kvs=>obtain⟨_,_,_,_,o,_,_,e,_⟩:=x;grind
 |dT kvs=>obtain⟨_,_,_,_,o,_,_,e,_⟩:=x;grind
 |set S n=>obtain⟨o,_,_,_,e,_⟩:=x;grind
 |ins C dx fs=>obtain⟨_,_,_,e,_⟩:=x;exact⟨_,e⟩
 |own y=>obtain⟨_,e⟩:=x;grind
 |xd fs=>obtain⟨_,⟨_,_,_,e,_⟩,_⟩:=x;grind
 |rng lo hi=>obtain⟨_,_,_,e⟩:=x;exact⟨_,e⟩
 |frz ob u=>obtain⟨e,_⟩:=x;grind
 |tbl ps=>exact⟨_,x⟩
 |met f y=>exact⟨_,x⟩
 |ext φ=>obtain⟨_,⟨_,e⟩,_⟩:=x;grind
theorem q4l(h:(ve P w).is k v=true):RelV (kV k) v:=by
 rcases qP h with⟨i,t,rfl,rfl⟩|⟨x,t,rfl,rfl⟩|⟨rfl,rfl⟩
 ·exact⟨t,rfl⟩
 ·exact⟨t,rfl⟩
 ·rfl
theorem Inv.freeze(I:Inv X a4 σ H s)(e:H d=some (.dK kvs)):∃o,s.heap.get? d=some o/\Inv X a4 σ (upd H d (.frz o (.dK kvs))) s:=by
 obtain⟨o,ho⟩:=(I.hok d _ e).there;have ne:∀{b:Addr}{u:HO},H b=some u->(∀k,u ≠ .dK k)->b≠d:=λhb hu z=>by
  subst z;rw[e]at hb;cases hb;exact hu _ rfl
 refine⟨o,ho,I.step (ch:=[]) (h':=s.heap) (g':=s.gens) (t':=s.toks) (d':=s.drawn) (λb hb=>nomatch hb) (λb o _ _ _ e _=>e) (λb o _ _ _ e _=>⟨o.slots,e⟩) (λb o' _ _ z=>?_) (λb o _ e=>⟨o,e⟩) (λb xs q=>?_) (λb o u q=>?_) (λb ps q=>⟨#[],?_⟩) (λm h=>h) (λa u q=>?_) I.bare⟩
 ·rw[upd_ne λz'=>by rw[z',e]at z;cases z];exact z
 ·rw[upd_ne (ne q λk z=>by cases z)];exact q
 ·rw[upd_ne (ne q λk z=>by cases z)];exact q
 ·rw[upd_ne (ne q λk z=>by cases z)];simpa using q
 ·have own:∀c x,H c=some (.own x)->upd H d (.frz o (.dK kvs)) c=some _:=λc x q=>by rw[upd_ne (ne q λk z=>by cases z)];exact q
  have tup:∀c xs,H c=some (.tup xs)->upd H d (.frz o (.dK kvs)) c=some _:=λc x q=>by rw[upd_ne (ne q λk z=>by cases z)];exact q
  by_cases ha:a=d
  ·subst ha
   rw[upd_same]at q;cases q;exact⟨ho,(I.hok a _ e).stay (λb u _ q=>q) (λc q=>own c _ q) λc xs q=>tup c xs q⟩
  ·rw[upd_ne ha]at q
   exact(I.hok a u q).stay (λb u _ q=>q) (λc q=>own c _ q) λc xs q=>tup c xs q
noncomputable def Itd(bh:Bool)(d:Addr)(o:Obj)(kvs:List (Key×V)):It :=
 ⟨λi H=>H d=some (.frz o (.dK kvs))/\i<kvs.length,λi H x H'=>H'=H/\∃k v,kvs[i]?=some (k,v)/\x=(if bh then v else kV k),λi H=>H d=some (.frz o (.dK kvs))/\kvs.length<=i⟩
theorem GV(ik:o.data=.dict es ep)(I:Inv X a4 σ H s)(h:H d=some (.frz o (.dK kvs))):∃vs,KV kvs vs/\s.heap.DictAt (ve X.prog X.w) d vs ep:=by
 obtain⟨ho,_,_,vs,bi,o',gn,gK,bv,hx,hd,r⟩:=I.hok d _ h;rw[ho]at bv;cases bv;rw[ik]at hd;cases hd;exact⟨vs,bi,o,es,ho,hx,ik,r⟩
theorem Ys(eQ:d≠it)(ik:o.data=.dict es ep):Turn P w Ξ tg (Itd false d o kvs) [it] it (λi h=>h.IsKeyIter it d i kvs.length ep) where
 mem:=by simp
 obj:=λi h st b hb=>by
  have e:=by simpa using hb
  obtain⟨o,e,c,d⟩:=st
  grind
 keep:=λi h h' st k=>st.at λo e=>k it (by simp) o e
 item:=by
  intro X hP hw hK hc i a4 s σ H E I hf st hg;subst hP hw hK;obtain⟨hH,hi⟩:=hg;obtain⟨vs,bi,dd⟩:=GV ik I hH;have hl:=KV.length bi;rw[hl]at st;obtain⟨f0,f1,f2,f3,f4,f5⟩:=hf it (by simp);have hv:vs[i]?=some (vs[i]'(by lia)):=Df _;obtain⟨⟨k,v⟩,hk,hkv⟩:∃p,kvs[i]?=some p/\p.1=(vs[i]'_).1:=by
   have hk:kvs[i]?=some (kvs[i]'hi):=Df _;exact⟨_,hk,(Paired.get2 bi hk hv).1⟩
  refine wpAny_pyNext_dict_item st dd hv λaD h' fF cS my=>?_;have I1:=I.turned (t':=s.toks) (λb o hb e=>my.extBut b o hb e) f0 f1 f3 f4 f5;rw[<-hl]at cS;obtain⟨o,e,c,d⟩:=id cS;exact⟨aD,rfl,q0i e c d (by decide) ⟨kV k,H,I1,by rw[show k=_ from hkv];exact q4l fF,⟨rfl,k,v,hk,rfl⟩,cS,λb hb=>(hf b hb).1⟩⟩
 done:=by
  intro X hP hw hK hc i a4 s σ H E I hf st hg;subst hP hw hK;obtain⟨hH,hi⟩:=hg;obtain⟨vs,bi,dd⟩:=GV ik I hH;have hl:=KV.length bi;rw[hl]at st;obtain⟨f0,f1,f2,f3,f4,f5⟩:=hf it (by simp);exact wpAny_pyNext_dict_end (I.ok.hd hc) st dd (by grind) λh' eb=>⟨rfl,I.turned (t':=s.toks) (λb o hb e=>eb b o hb e) f0 f1 f3 f4 f5⟩
 self:=λ_ _ _ _ _ st h=>wpAny_pyIter_keyiter st h
def q7S(tl:TE):TI:=λσ H R=>tl σ H λx H1=>∃d,x=.ref d/\((∃kvs,H1 d=some (.dK kvs)/\∀o,R (Itd false d o kvs) (upd H1 d (.frz o (.dK kvs))))\/∃o kvs,H1 d=some (.frz o (.dK kvs))/\R (Itd false d o kvs) H1)
theorem q46(hl:QE X l tl):QI X tg l (q7S tl):= ⟨by
 have hl := hl.h;intro a4 s σ H R I h;refine thn (hl a4 s σ H _ I h) λv s1 zz=>?_;obtain⟨x,H1,I1,r1,q1⟩:=zz;obtain⟨d,e,q⟩:=q1;subst e;cases r1;have go:∀o kvs H2,Inv X a4 σ H2 s1->H2 d=some (.frz o (.dK kvs))->R _ H2->wpAny _ X.A _ (PIE X a4 σ tg R) X.xe s1:=λo kvs H2 I2 hH q=>by
  obtain⟨ho,hz,mz,vs,bi,o',es,ep,bv,hx,hd,r⟩:=id (I2.hok d _ hH);rw[ho]at bv;cases bv;obtain⟨vs',mB,dd⟩:=GV hd I2 hH;have hl:=KV.length mB;refine wpAny_pyIter_dict mz dd ?_;rw[<-hl];refine⟨s1.heap.objs.size, [s1.heap.objs.size],_,_,H2,rfl,I2.kept (t':=s1.toks) λb o e=>Heap.get?_push_of_some _ e,Ys (Dz (Heap.lt_size ho)) hd,⟨_,Heap.get?_push_size _ rfl,rfl,rfl⟩,λb hb=>?_,q⟩;have e:=by simpa using hb
  subst e;exact I2.fpOk (Dk _) (I2.hok.fresh (Dk _))
 rcases q with⟨kvs,hH,q⟩|⟨o,kvs,hH,q⟩
 ·obtain⟨o,ho,I2⟩:=I1.freeze hH
  exact go o kvs _ I2 upd_same (q o)
 ·exact go o kvs H1 I1 hH q⟩
noncomputable def itD(bh:Bool)(k:Nat)(kvs:List (Key×U))(ob:Obj)(gs:List (Key×V)):UIt:=⟨kvs.length,λM=>M[k]?=some (.dF kvs ob gs),λi z=>∃aD v,kvs[i]?=some (aD,v)/\z=(if bh then v else keyU aD)⟩
def q73(bh:Bool)(M:MM)(x:U)(Q:UIt->MM->Prop):Prop:=∃k kvs,x=.m k/\((M[k]?=some (.dK kvs)/\∀ob gs,Q (itD bh k kvs ob gs) (M.set k (.dF kvs ob gs)))\/∃ob gs,M[k]?=some (.dF kvs ob gs)/\Q (itD bh k kvs ob gs) M)
def q4G(bh:Bool)(ua:UE):UI:=λρ M Q=>ua ρ M λx M1=>q73 bh M1 x Q
theorem q0Y(k:Key):RepU A ι H (kV k) (keyU k):=by
 cases k with
 |inl i=>exact .p (.int i)
 |inr x=>exact .p (.str x)
 |non=>exact .p .non
theorem Gz(ek:a6[kk]?=some a):ItR A a6 H1 (Itd bh a ob gs) (itD bh kk kvs ob gs):=by
 intro A' a9 H2 M2 i l w2 ok;have dJ:a9[kk]?=some a:=by
  obtain⟨nn,rfl⟩:=l.ext;rw[De (Dc.mp ek).1];exact ek
 obtain⟨h3,h4⟩:=w2.obj kk a _ dJ ok;have hl:=h4.len;refine⟨λhi=>⟨⟨h3,by rw[hl];exact hi⟩,λx H' y=>?_⟩,λhi=>⟨h3,by rw[hl];exact R3 hi.symm⟩⟩;obtain⟨rfl,aD,v,hkv,rfl⟩:=y;obtain⟨⟨key',u⟩,hu,e1,ru⟩:=Paired.getL h4 hkv;subst e1;refine⟨_,⟨aD,u,hu,rfl⟩,.refl _ _,w2,?_⟩;cases bh with
 |true=>exact ru
 |false=>exact q0Y aD
set_option tactic.hygienic true in
theorem q1K(hw:∀σ H R,(ta σ H λx H1=>∃d,x=.ref d/\((∃kvs,H1 d=some (.dK kvs)/\∀o,R (Itd bh d o kvs) (upd H1 d (.frz o (.dK kvs))))\/∃o kvs,H1 d=some (.frz o (.dK kvs))/\R (Itd bh d o kvs) H1))->wi σ H R)(ha:LE ta ua):LI wi (q4G bh ua):=λA ι σ H ρ M Qu R w e q k=>
 hw σ H R (ha A ι σ H ρ M _ _ w e q λx M1 a6 v H1 l1 w1 r1 zz=>by
  obtain⟨kk,kvs,ex,q1⟩:=zz;subst ex;cases r1 with
  |m ek=>
  rename_i a;have hm:=Dh ek;rcases q1 with⟨em,q1⟩|⟨ob,gs,em,q1⟩
  ·obtain⟨gs,h1,h2⟩:=w1.obj kk a _ ek em
   exact⟨a,rfl,.inl ⟨gs,h1,λo=>k _ _ a6 _ _ (l1.trans (.put hm)) (w1.put (mo:=.dF kvs o gs) ek ⟨upd_same,Paired.mapP h2 λ_ _ q=>⟨q.1,q.2.le (.put hm)⟩⟩) (Gz ek) (q1 o gs)⟩⟩
  ·obtain⟨h1,h2⟩:=w1.obj kk a _ ek em
   exact⟨a,rfl,.inr ⟨ob,gs,h1,k _ _ a6 _ _ l1 w1 (Gz ek) q1⟩⟩)
theorem q3X(ha:ZE ta ua):ZI (q7S ta) (q4G false ua):=⟨q1K (λ_ _ _ h=>h) ha.h⟩
theorem DGet.f{k:Key}(e:H a=some (.frz o (.dK kvs))):DGet H a (kV k) (valV kvs k):=.inl ⟨kvs,k,.inr ⟨o,e⟩,rfl,rfl⟩
def q7L(M:MM)(x y:U)(Q:UK):Prop:=∃k kvs ob gs aD w,x=.m k/\M[k]?=some (.dF kvs ob gs)/\y=keyU aD/\valU kvs aD=some w/\Q w M
def q35(ua ub:UE):UE:=λρ M Q=>ua ρ M λx M1=>ub ρ M1 λy M2=>q7L M2 x y Q
theorem q1s(ha:ZE ta ua)(hb:ZE tb ub):ZE (Yy ta tb) (q35 ua ub):=⟨λA ι σ H ρ M Qu Q w e q k=>
 ha.h A ι σ H ρ M _ _ w e q λx M1 a6 v H1 l1 w1 r1 q1=>hb.h A a6 σ H1 ρ M1 _ _ w1 (e.le l1) q1 λy M2 a9 v2 H2 l2 w2 r2 zz=>by
  obtain⟨kk,kvs,ob,gs,aD,z,ex,em,ey,ez,q2⟩:=zz;subst ex ey;have cW:=r1.le l2;cases cW with
  |m ek=>
  obtain⟨h1,h2⟩:=w2.obj kk _ _ ek em;have hv:=QZ (k:=aD) h2;rw[ez]at hv;obtain⟨x',hx,rx⟩:=hv;refine⟨_,x',rfl,?_,k z M2 a9 x' H2 (l1.trans l2) w2 rx q2⟩;have:=DGet.f (k:=aD) h1;rw[hx]at this;rw[jq r2];exact this⟩
noncomputable def min3(i j k:Int):Int:=if j<i then(if k<j then k else j) else(if k<i then k else i)
theorem Gc:min3 i j k<=i/\min3 i j k<=j/\min3 i j k<=k:=by unfold min3;lia
theorem Gb:min3 i j k=i\/min3 i j k=j\/min3 i j k=k:=by unfold min3;split<;>split<;>simp
theorem qaw(hc:X.calm=true):xk X (.builtin "min") (λxs H Q=>∃i j k,xs=[.int i,.int j,.int k]/\Q (.int (min3 i j k)) H):=by
 intro a4 s σ H xs us Q I r h;obtain⟨i,j,k,rfl,q⟩:=h;cases r with
 |cons r1 r=>
 obtain⟨u,w',rfl,⟨t,rfl⟩,⟨t',rfl⟩⟩:=vals2 r;obtain⟨t0,rfl⟩:=r1;refine min_three_ints (I.ok.hd hc) λh' tk kp=>⟨_,H,I.kept kp,?_,q⟩;unfold min3;by_cases h1:j<i
 ·rw[Ul h1,Ul h1]
  by_cases h2:k<j
  ·rw[Ul h2,Ul h2];exact⟨_,rfl⟩
  ·rw[Ui h2,Ui h2];exact⟨_,rfl⟩
 ·rw[Ui h1,Ui h1]
  by_cases h2:k<i
  ·rw[Ul h2,Ul h2];exact⟨_,rfl⟩
  ·rw[Ui h2,Ui h2];exact⟨_,rfl⟩
def q5G:List T->(T->Prop)->Prop:=λts Q=>∃i j k,ts=[.int i,.int j,.int k]/\Q (.int (min3 i j k))
theorem q1D:CbL (λxs H Q=>∃i j k,xs=[.int i,.int j,.int k]/\Q (.int (min3 i j k)) H) q5G:=λA ι H M vs ts Qs Q w r ⟨i,j,k0,e,q⟩ k=>by
 subst e;cases r with
 |cons r0 r=>
 obtain⟨v,z,ev,r1,r2⟩:=pv2 r;subst ev;cases r0.int_inv;cases r1.int_inv;cases r2.int_inv;exact⟨i,j,k0,rfl,k _ ι _ H (.refl _ _) w (.int _) q⟩
theorem q4o:q5G [.int i,.int j,.int k] Q=Q (.int (min3 i j k)):=propext ⟨λzz=>by obtain⟨_,_,_,e,h⟩:=zz;cases e;exact h,λh=>⟨i,j,k,rfl,h⟩⟩
def CatN(x y:U)(M:MM)(Q:UK):Prop:=∃us vs,qB M x=some us/\qB M y=some vs/\us.length+vs.length<=sizeLine/\Q (.m M.length) (M++[.lst (us++vs)])
def q5F(ua ub:UE):UE:=λρ M Q=>ua ρ M λx M1=>ub ρ M1 λy M2=>CatN x y M2 Q
theorem q5a(ha:ZE ta ua)(hb:ZE tb ub):ZE (tOp rCat ta tb) (q5F ua ub):=⟨λA ι σ H ρ M Qu Q w e q k=>
 ha.h A ι σ H ρ M _ _ w e q λx M1 a6 v H1 l1 w1 r1 q1=>hb.h A a6 σ H1 ρ M1 _ _ w1 (e.le l1) q1 λy M2 a9 v2 H2 l2 w2 r2 zz=>by
  obtain⟨us,vs,hx,hy,hz,q2⟩:=zz;obtain⟨p,xs,rfl,h1,h2⟩:=vA w2 (r1.le l2) hx;obtain⟨p2,ys,rfl,h3,h4⟩:=vA w2 r2 hy;exact⟨p,p2,xs,ys,rfl,rfl,h1,h3,by rw[h2.len,h4.len];exact hz,λl hl=>k _ _ _ _ _ ((l1.trans l2).trans (.push hl)) (zJ w2 hl (h2.app h4)).1 (zJ w2 hl (h2.app h4)).2 q2⟩⟩
end L2
namespace PySem
theorem Paired.drl{α β:Type}{F:α->β->Prop}:∀{l:List α}{m:List β},Paired F l m->Paired F l.dropLast m.dropLast
 |_,_,.nil=>.nil
 |_,_,.cons _ .nil=>.nil
 |_,_,.cons r (.cons s t)=>.cons r (Paired.drl (.cons s t))
end PySem
namespace L2
open PySem PySem.Spec PyProof.Rows
def sPop:List U->List U->(U->List U->Prop)->Prop:=λus ws Q=>∃y:U,ws=[]/\us[us.length-1]?=some y/\Q y us.dropLast
theorem Ge:MeL rPop sPop:=λA ι H M k a xs ys us ws Qs Q w ek h1 h2 rx ry ⟨y,ew,hy,q⟩ kk=>by
 subst ew;cases ry;obtain⟨x,hx,rD⟩:=Paired.getR rx hy;have hl:=rx.len;exact⟨a,xs,x,rfl,rfl,h1,by rw[hl];exact hx,kk _ _ _ _ rx.drl rD q⟩
def q4U:List U->List U->(U->List U->Prop)->Prop:=λus ws Q=>∃ts:List T,ws=[.p (.lst ts)]/\us.length+ts.length<=sizeLine/\Q (.p .non) (us++ts.map U.p)
theorem KQ:MeL Y1 q4U:=λA ι H M k a xs ys us ws Qs Q w ek h1 h2 rx ry ⟨ts,ew,hz,q⟩ kk=>by
 subst ew;cases ry with
 |cons r ry=>
 cases ry;cases r with
 |p r=>
 obtain⟨b,zs,rfl,_,hb,hr⟩:=r.lst_inv;have hl:=rx.len;have cy:=hr.len;exact⟨a,b,xs,zs,rfl,rfl,h1,hb,by lia,kk _ _ _ _ (rx.app (RepTs.ups hr)) (.p .non) q⟩
theorem Y9(ha:QE X o ta)(hv:QE X value tv):QS X (.AugAssign (.Attribute o f tpos) .Add value pos) (Xo X.K ta tv rAdd f):=⟨by
 intro a4 s σ H D I h;refine wpAny_AugAssign_AttributeAny (thn (ha.h a4 s σ H _ I h) λov s1 zz=>?_);obtain⟨x,H1,I1,rx,a,C,dx,fs,v,ex,ea,c,n,l,q⟩:=zz;subst ex;obtain rfl:=rx;refine QM I1 ea c n l λu s2 I2 ru=>thn (hv.h a4 s2 σ H1 _ I2 q) λw3 s3 ⟨y,H2,I3,ry,q3⟩=>thn (q6y a4 s3 σ H2 v y u w3 _ I3 ru ry q3) λw4 s4 zz=>?_;obtain⟨z,H3,I4,rz,fG,eS,rE,l',q4⟩:=zz;exact Qh I4 rE c n l' rz λs5 I5=>⟨σ,_,I5,q4⟩⟩
def Yl(Ξ:PySem.W.Frag)(ua uv:UE)(f:Str):US:=λE ρ M=>ua ρ M λx M1=>∃k C fs i,x=.m k/\M1[k]?=some (.ins C fs)/\Cls Ξ C/\NoAttr Ξ C f/\fs.lookup f=some (.p (.int i)) /\
 uv ρ M1 λy M2=>∃j eS,y=.p (.int j)/\M2[k]?=some (.ins C eS)/\eS.length<1000/\E.nx ρ (M2.set k (.ins C (k8 f (.p (.int (i+j))) eS)))
set_option tactic.hygienic true in
theorem qaf(ha:ZE ta ua)(hv:ZE tv uv):ZS (Xo Ξ ta tv rAdd f) (Yl Ξ ua uv f):=⟨λA ι σ H ρ M D E w e r q=>
 ha.h A ι σ H ρ M _ _ w e q λx M1 a6 vx H1 l1 w1 r1 zz=>by
  obtain⟨kk,C,fs,i,ex,em,c,na,lk,q1⟩:=zz;subst ex;cases r1 with
  |m ek=>
  rename_i a;obtain⟨dx,gs,h1,h2,h3,h4⟩:=w1.obj kk _ _ ek em;obtain⟨v,rF,rv⟩:=JQ h4 lk;cases rv with
  |p rv=>
  cases rv;refine⟨a,C,dx,gs,.int i,rfl,h1,c,na,rF,hv.h A a6 σ H1 ρ M1 _ _ w1 (e.le l1) q1 λy M2 a9 vy H2 l2 w2 r2 ⟨j,eS,ey,ij,hz,q2⟩=>?_⟩;subst ey;cases r2 with
  |p r2=>
  cases r2;have dJ:a9[kk]?=some a:=by
   obtain⟨nn,rfl,_⟩:=l2.ext;rw[De (Dc.mp ek).1];exact ek
  obtain⟨fG,rG,k1,k2,k3,k4⟩:=w2.obj kk _ _ dJ ij;have aI:=Dh dJ;have l4:=l1.trans l2;have eQ:fG≠a:=λz=>by rw[z,k1]at k2;cases k2
  exact⟨i,j,rfl,rfl,fG,rG,k1,by rw[k4.len];exact hz,r.nx a9 σ _ ρ _ (l4.trans (.put aI)) (w2.put (mo:=.ins C (k8 f (.p (.int (i+j))) eS)) dJ ⟨fG,_,upd_same,by rw[upd_ne eQ];exact k2,k3,Paired.mapP (JK k4 (.p (.int _))) λ_ _ q=>⟨q.1,q.2.le (.put aI)⟩⟩) (e.le (l4.trans (.put aI))) q2⟩⟩
noncomputable def U.sh(n:Nat):U->U
 |.m k=>.m (n+k)
 |u=>u
noncomputable def MO.sh(n:Nat):MO->MO
 |.lst us=>.lst (us.map (U.sh n))
 |.tup us=>.tup (us.map (U.sh n))
 |.ins C fs=>.ins C (fs.map λf=>(f.1,f.2.sh n))
 |.dK kvs=>.dK (kvs.map λf=>(f.1,f.2.sh n))
 |.dF kvs ob gs=>.dF (kvs.map λf=>(f.1,f.2.sh n)) ob gs
 |.tab a p q=>.tab a p q
def U.flat:U->Prop
 |.m _=>True
 |.p t=>∃x,vt t=some x
 |.x _ _ _=>False
def MO.flat:MO->Prop
 |.lst us=>∀u∈us,u.flat
 |.tup us=>∀u∈us,u.flat
 |.ins _ _=>False
 |.dK kvs=>∀f∈kvs,f.2.flat
 |.dF kvs _ _=>∀f∈kvs,f.2.flat
 |.tab _ _ _=>False
theorem RepU.sh(r:RepU A ae H v u)(f:u.flat):RepU A (ι++ae) H v (u.sh ι.length):=by
 cases r with
 |p r=>
  obtain⟨x,hx⟩:=f;cases(RepV.of r).sc (y:=.non) hx;exact .p (jA hx).rep
 |m e=>exact .m (by rw[Dp (Nat.le_add_right _ _),DM];exact e)
 |x h=>exact f.elim
theorem RepUs.sh:∀{vs:List V},RepUs A ae H vs us->(∀u∈us,u.flat)->RepUs A (ι++ae) H vs (us.map (U.sh ι.length)):=by
 induction us with
 |nil=>intro vs r _;cases r;exact .nil
 |cons u us ih=>
  intro vs r f;cases r with
  |cons a b=>exact .cons (a.sh (f u (.head _))) (ih b λx hx=>f x (.tail _ hx))
theorem RepK.sh:∀{gs:List (Key×V)},Paired (λ(g:Key×V) (f:Key×U)=>g.1=f.1/\RepU A ae H g.2 f.2) gs kvs->(∀f∈kvs,f.2.flat)->Paired (λ(g:Key×V) (f:Key×U)=>g.1=f.1/\RepU A (ι++ae) H g.2 f.2) gs (kvs.map λf=>(f.1,f.2.sh ι.length)):=by
 induction kvs with
 |nil=>intro gs r _;cases r;exact .nil
 |cons u us ih=>
  intro gs r f;cases r with
  |cons a b=>exact .cons ⟨a.1,a.2.sh (f u (.head _))⟩ (ih b λx hx=>f x (.tail _ hx))
theorem q4S(r:ObjR A ae H a o)(f:o.flat):ObjR A (ι++ae) H a (o.sh ι.length):=by
 cases o with
 |lst us=>obtain⟨vs,e,r⟩:=r;exact⟨vs,e,RepUs.sh r f⟩
 |tup us=>obtain⟨vs,e,r⟩:=r;exact⟨vs,e,RepUs.sh r f⟩
 |ins C fs=>exact f.elim
 |dK kvs=>obtain⟨gs,e,r⟩:=r;exact⟨gs,e,RepK.sh r f⟩
 |dF kvs ob gs=>obtain⟨e,r⟩:=r;exact⟨e,RepK.sh r f⟩
 |tab=>exact f.elim
theorem WZ(l:Le ι H ae H')(all:∀x o,H x=some o->H' x=some o)(new:∀x∈ae,x∉ι->H x=none)(r:ObjR A ι H a o):ObjR A ae H' a o:=by
 cases o with
 |lst us=>obtain⟨vs,e,r⟩:=r;exact⟨vs,all _ _ e,RepUs.le l r⟩
 |tup us=>obtain⟨vs,e,r⟩:=r;exact⟨vs,all _ _ e,RepUs.le l r⟩
 |ins C fs=>
  obtain⟨dx,gs,e,e2,e3,r⟩:=r;exact⟨dx,gs,all _ _ e,all _ _ e2,(λz=>by have:=new dx z e3;lia),Paired.mapP r λ_ _ q=>⟨q.1,q.2.le l⟩⟩
 |dK kvs=>obtain⟨gs,e,r⟩:=r;exact⟨gs,all _ _ e,Paired.mapP r λ_ _ q=>⟨q.1,q.2.le l⟩⟩
 |dF kvs ob gs=>obtain⟨e,r⟩:=r;exact⟨all _ _ e,Paired.mapP r λ_ _ q=>⟨q.1,q.2.le l⟩⟩
 |tab=>obtain⟨ps,e,t,z⟩:=r;exact⟨ps,all _ _ e,t,z.imp id λ⟨c,h1,h2,h3⟩=>⟨c,h1,all _ _ h2,λy=>by have:=new c y h3;lia⟩⟩
theorem WY(r:ObjR A ι H a o):H a≠none:=by
 cases o with
 |lst us=>obtain⟨vs,e,r⟩:=r;rw[e];simp
 |tup us=>obtain⟨vs,e,r⟩:=r;rw[e];simp
 |ins C fs=>obtain⟨dx,gs,e,r⟩:=r;rw[e];simp
 |dK kvs=>obtain⟨gs,e,r⟩:=r;rw[e];simp
 |dF kvs ob gs=>obtain⟨e,r⟩:=r;rw[e];simp
 |tab=>obtain⟨ps,e,r⟩:=r;rw[e];simp
def Yn(G:List U->MM->UK->Prop)(ul:UA):UE:=λρ M Q=>ul ρ M λus M1=>∃ts,frzs (frzN 6 M1) us=some ts/\G (ts.map U.p) [] λu M'=>u.flat/\(∀o∈M',o.flat)/\Q (u.sh M1.length) (M1++M'.map (MO.sh M1.length))
theorem q1S(ha:ZA n tl ul):ZE (zW (spU G) [] E tl) (Yn G ul):= ⟨have ha := ha.h;λA ι σ H ρ M Qu Q w e q k=>
 ha A ι σ H ρ M _ _ w e q λus M1 a6 vs H1 l1 w1 hn r1 zz=>by
  obtain⟨ts,et,q1⟩:=zz;rw[DI];have rH:Wd A [] H1 []:=⟨RM,rfl,w1.dom,by simp,by simp⟩;have rt:=jX r1 (λv u t r e=>xP w1 r e) et;refine⟨A, [], [],ts.map U.p,_,rH,RepTs.ups (Paired.mapP rt λ_ _ q=>q.mono λx o hx ex=>⟨ex,λz=>z.elim hx (by simp)⟩),q1,λu M' ae v H' l w' r' ⟨uf,mf,q2⟩=>?_⟩;have all:=λx o e=>l.fr x o e (by simp);have new:∀x∈ae,H1 x=none:=λx hx=>by
   obtain⟨nn,rfl,hh⟩:=l.ext;exact hh x (by simpa using hx)
  have le:Le a6 H1 _ H':=⟨⟨ae,rfl,new⟩,λx o e _=>all x o e,l.al⟩;have fB:=w1.len;have cy:=w'.len;refine k _ _ _ v H' (l1.trans le) ⟨?_,by rw[Dj,Dj,Dg,fB,cy],w'.dom,λx hx=>?_,λi a o hi ho=>?_⟩ (by rw[<-fB];exact r'.sh uf) q2
  ·rw[DW]
   refine⟨w1.nd,w'.nd,λa ha b hb z=>?_⟩;subst z;obtain⟨i,hi⟩:=Rl ha;have il:=(Dc.mp hi).1;exact WY (w1.obj i a _ hi (Df (by lia))) (new a hb)
  ·rcases Dr.mp hx with hx|hx
   ·exact w1.na x hx
   ·exact w'.na x hx
  ·by_cases h:i<a6.length
   ·rw[De h]at hi
    rw[De (by lia)]at ho;refine WZ le all (λx hx hn=>?_) (w1.obj i a o hi ho);rcases Dr.mp hx with hx|hx
    ·exact absurd hx hn
    ·exact new x hx
   ·rw[Dp (by lia)]at hi
    rw[Dp (by lia),Dy, <-fB]at ho;obtain⟨o',bv,rfl⟩:=DO.mp ho;exact q4S (w'.obj _ a o' hi bv) (mf o' (Dh bv))⟩
theorem v3(he:QE X.nox e te):QXe X e (tX0 te):=⟨λa4 s σ H Q E k I h=>Uj (he.h a4 s σ H Q (I.wish _) h) (λ_ _ ⟨v,H',I',r,q⟩=>⟨v,H',I'.unwish,r,q⟩) λ_ _ z=>z.elim⟩
theorem JG(ho:OpR X.nox (binaryOp op) r)(ha:QXe X a tx)(hb:QXe X b tx'):QXe X (.BinOp a op b pos) (tOpX r tx tx'):=⟨λa4 s σ H Q E k I h=>by
 refine wpAny_BinOp (thn (ha.h a4 s σ H _ E k I h) λv s1 ⟨x,H1,I1,r1,q1⟩=>thn (hb.h a4 s1 σ H1 _ E k I1 q1) λu s2 zz=>?_);obtain⟨y,H2,I2,r2,q2⟩:=zz;exact Uj (ho a4 s2 σ H2 x y v u Q (I2.wish _) r1 r2 q2) (λ_ _ ⟨v,H',I',r,q⟩=>⟨v,H',I'.unwish,r,q⟩) λ_ _ z=>z.elim⟩
theorem q2b(hr:IxR X.nox r)(ha:QXe X a tx)(hb:QXe X b tx')(hs:Jc b):QXe X (.Subscript a b pos) (tOpX r tx tx'):=⟨λa4 s σ H Q E k I h=>by
 refine Subscript_ (thn (ha.h a4 s σ H _ E k I h) λv s1 ⟨x,H1,I1,r1,q1⟩=>thn (hb.h a4 s1 σ H1 _ E k I1 q1) λu s2 zz=>?_);obtain⟨y,H2,I2,r2,q2⟩:=zz;exact Uj (hr a b a4 s2 σ H2 x y v u Q (I2.wish _) r1 r2 q2 (hs _ _)) (λ_ _ ⟨v,H',I',r,q⟩=>⟨v,H',I'.unwish,r,q⟩) λ_ _ z=>z.elim⟩
def q7d(te to:TE)(tx:TX)(t:TSet)(mg:Str->Option Value):TS:=λD σ H=>te σ H λv H0=>to σ H0 λo H1=>tx σ H1 (λi H2=>t o i v H2 λH3=>D.nx σ H3) (EX mg D σ)
theorem Y5(he:QE X.nox e te)(ho:QE X.nox o to)(hi:QXe X i tx)(ht:PSet X.nox t)(ha:∀v,assign (.Subscript o i pos') X.env v=(do
   let ov <-holding [v] (eval o X.env);let iv <-holding [v,ov] (eval i X.env)
   standAt pos'
   holding [v,ov,iv] (setItem ov iv v)
   release [v,ov,iv] []):=by intro _;rfl)(hs:swapsWithSole [.Subscript o i pos'] e pos.line X.env=pure false:=by rfl)(hw:swappedStores [.Subscript o i pos'] e X.env=pure none:=by rfl)(h1:(assignEach [.Subscript o i pos'] X.env).map (·.2)=[assign (.Subscript o i pos') X.env]:=by rfl):
  QX r X (.Assign [.Subscript o i pos'] e pos) (q7d te to tx t X.mg):=⟨λa4 s σ H D k I h=>by
 refine UZ ((v3 he).h a4 s σ H _ _ (k.1 σ) I h |> λz=>thn z λv s1 ⟨x,H1,I1,r1,q1⟩=>?_) hs hw;show wpAny _ _ (assign _ X.env v) _ _ _;rw[ha];refine Ug (Up (thn ((v3 ho).h a4 s1 σ H1 _ _ (k.1 σ) I1 q1) λov s2 zz=>?_));obtain⟨y,H2,I2,r2,q2⟩:=zz;refine Ug (Up (thn (hi.h a4 s2 σ H2 _ _ (k.1 σ) I2 q2) λiv s3 zz=>?_));obtain⟨z,H3,I3,r3,q3⟩:=zz;refine Ug (Ur (Ug (Up (Uj (ht a4 s3 σ H3 y z x ov iv v _ (I3.wish _) r2 r3 r1 q3) (λ_ s4 ⟨H4,I4,q4⟩=>?_) λ_ _ z=>z.elim))));exact wpAny_release ⟨σ,H4,I4.unwish,q4⟩⟩
def uIxX(it:MM->U->Option (List U))(ua ub:UXe):UXe:=λρ M Q X=>ua ρ M (λx M1=>ub ρ M1 (λy M2=>IxS it M2 x y Q) X) X
theorem q5S(ha:ZXe mg tx ux)(hb:ZXe mg ty uy):ZXe mg (tOpX (rIxL Ξ) tx ty) (uIxX qB ux uy):=⟨λA ι σ H ρ M Qu Xu Q E w e q k kx=>
 ha.h A ι σ H ρ M _ Xu _ E w e q (λx M1 a6 v H1 l1 w1 r1 q1=>hb.h A a6 σ H1 ρ M1 _ Xu _ E w1 (e.le l1) q1 (λy M2 a9 v2 H2 l2 w2 r2 zz=>by
  obtain⟨us,i,z,e1,e2,e3,q2⟩:=zz;subst e2;obtain⟨p,vs,rfl,h1,h2⟩:=vA w2 (r1.le l2) e1;obtain⟨x',h3,h4⟩:=X8 h2 e3;cases r2 with
  |p r=>cases r;exact⟨p,vs,i,x',rfl,rfl,SqL.of h1,h3,k z M2 a9 x' H2 (l1.trans l2) w2 h4 q2⟩)
  λnm p C d M' ae H' hm hp l' w' x'=>kx nm p C d M' ae H' hm hp (l1.trans l') w' x') kx⟩
def q7a(ue uo:UE)(ux:UXe):US:=λE ρ M=>ue ρ M λv M0=>uo ρ M0 λo M1=>ux ρ M1 (λi M2=>SubS M2 o i v λM3=>E.nx ρ M3) λnm p M2=>E.bk (tagU nm p ρ) M2
theorem q4q(he:ZE te ue)(ho:ZE to uo)(hi:ZXe mg tx ux):ZS (q7d te to tx Y0 mg) (q7a ue uo ux):=⟨λA ι σ H ρ M D E w e r q=>
 he.h A ι σ H ρ M _ _ w e q λu M0 gB v H0 l0 w0 r0 q0=>ho.h A gB σ H0 ρ M0 _ _ w0 (e.le l0) q0 λo M1 a6 v1 H1 l1 w1 r1 q1=>
  hi.h A a6 σ H1 ρ M1 _ _ _ _ w1 (e.le (l0.trans l1)) q1 (λi M2 a9 v2 H2 l2 w2 r2 zz=>by
   obtain⟨kk,us,z,j,eo,em,ei,ej,q2⟩:=zz;subst eo ei;cases r2 with
   |p r2=>
   cases r2;have cW:=r1.le l2;cases cW with
   |m ek=>
   obtain⟨vs,h1,h2⟩:=w2.obj kk _ _ ek em;have hm:=Dh ek;have l3:=((l0.trans l1).trans l2).trans (Le.put (o:=.lst (vs.set j v)) hm);refine⟨_,vs,z,j,rfl,rfl,h1,by rw[h2.len];exact ej,r.nx a9 σ _ ρ _ l3 (w2.put (mo:=.lst _) ek ⟨_,upd_same,?_⟩) (e.le l3) q2⟩;exact RepUs.le (.put hm) (Paired.put (r0.le (l1.trans l2)) j h2)) λnm p C d rJ rK rL hm hp nS rM rN=>⟨nm,p,hm,hp,r.bk rK _ rL _ rJ ((l0.trans l1).trans nS) rM (xF (e.le ((l0.trans l1).trans nS))) rN⟩⟩
end L2
namespace HT
open PySem PySem.Spec PyProof.Rows
theorem getItem_tuple_all{lo hi:Option Int}(ht:IsTup s.heap t items)(hs:s.heap.IsSliceOf sl vl vu .none)(pl:IsPart vl lo)(pu:IsPart vu hi)(h0:sIx items.size 0 lo=0)(h1:sIx items.size items.size hi=items.size)(h:Q (.ref t) s):wpAny (model prog w) A (getItem (.ref t) (.ref sl)) Q E s:=by
 obtain⟨os,fK,gU,hds⟩:=id hs;have lH:s.TypeIs (.ref sl) "slice" := ⟨os,fK,gU⟩;unfold getItem
 try with_reducible refine Up ?_
 refine Ug (wpAny_sequenceKey ht.typeIs rfl ?_);refine Ug (wpAny_callSpecial?_slot ht.typeIs PyProof.Rows.slot_tuple_getitem
  (UV PyProof.Rows.slot_tuple_getitem ht.typeIs entry_tuple_getitem ?_ (args_tuple_getitem _ _)))
 show wpAny _ _ (Builtin.Tuple.tupleItemsOf _ >>= _) _ _ s;refine Ug (tupleItemsOf_ ht ?_);refine Ug (U7 lH ?_);refine Ug (zQ hs pl pu ?_);show wpAny _ _ (if _=true then _ else _) _ _ s;rw[Ul (by rw[h0,h1];simp)];refine Ug (Ug (U7 ht.typeIs (Uh ?_)));refine Ug (Da ?_)
 first
  |exact Uh ⟨_,rfl,Uh h⟩
  |exact Ug _
end HT
namespace L2
open PySem PySem.Spec PyProof.Rows
def rSlA(Ξ:PySem.W.Frag):V->Option Int->Option Int->Hp->VK->Prop:=λx lo hi H Q=>∃a xs,x=.ref a/\SqT Ξ H a xs/\((HT.sIx xs.length 0 lo=0/\HT.sIx xs.length xs.length hi=xs.length)->Q (.ref a) H) /\
 (¬(HT.sIx xs.length 0 lo=0/\HT.sIx xs.length xs.length hi=xs.length)->∀p,H p=none->Q (.ref p) (upd H p (.tup (cutV xs lo hi))))
theorem Xk(hK:X.K=Ξ):SlR X (rSlA Ξ):=by
 subst hK;intro a4 s σ H x v vl vu lo hi sl Q I rx hs pl pu h;obtain⟨a,xs,rfl,hx,q1,q2⟩:=h;by_cases hw:HT.sIx xs.length 0 lo=0/\HT.sIx xs.length xs.length hi=xs.length
 ·cases rx
  obtain⟨its,r,ht,hz⟩:=I.tuple hx;have au:its.toArray.size=xs.length:=by exact r.length.symm
  refine⟨"tuple", _,PyProof.Rows.slot_tuple_getitem.lookup,ht.typeIs,?_⟩;exact HT.getItem_tuple_all ht hs pl pu (by rw[au];exact hw.1) (by rw[au];exact hw.2) ⟨.ref a,H,I,rfl,q1 hw⟩
 ·exact q7g a4 s σ H _ v vl vu lo hi sl Q I rx hs pl pu ⟨a,xs,rfl,hx,hw,q2 hw⟩
def SlAS(M:MM)(x:U)(l h:Option Int)(Q:UK):Prop:=∃ts,x=.p (.tup ts)/\Q (.p (.tup (cutT ts l h))) M
def uSlA(ua:UE)(ul uh:UO):UE:=λρ M Q=>ua ρ M λx M1=>ul ρ M1 λl M2=>uh ρ M2 λh M3=>SlAS M3 x l h Q
theorem qaa(h0:HT.sIx ts.length 0 l=0)(h1:HT.sIx ts.length ts.length h=ts.length):cutT ts l h=ts:=by
 unfold cutT;rw[h0,h1,Nat.sub_zero,List.drop_zero,DF]
theorem qan(ha:ZE ta ua)(h1:ZO t1 u1)(h2:ZO t2 u2):ZE (tSl (rSlA Ξ) ta t1 t2) (uSlA ua u1 u2):=⟨λA ι σ H ρ M Qu Q w e q k=>
 ha.h A ι σ H ρ M _ _ w e q λx M1 a6 v H1 l1 w1 r1 q1=>h1.h A a6 σ H1 ρ M1 _ _ w1 (e.le l1) q1 λl M2 a9 H2 l2 w2 q2=>h2.h A a9 σ H2 ρ M2 _ _ w2 ((e.le l1).le l2) q2 λh M3 ca H3 l3 w3 zz=>by
  obtain⟨ts,es,q3⟩:=zz;subst es;have r3:=(r1.le l2).le l3;have r4:=r3;cases r3 with
  |p r5=>
  obtain⟨p,vs,rfl,na,hv,hr⟩:=r5.tup_inv;have lv:=hr.len;refine⟨p,vs,rfl,SqT.of hv,λhw=>?_,λ_ a hp=>?_⟩
  ·rw[lv]at hw
   rw[qaa hw.1 hw.2]at q3;exact k _ M3 ca _ _ ((l1.trans l2).trans l3) w3 r4 q3
  ·exact k _ M3 ca _ _ (((l1.trans l2).trans l3).trans (.fresh hp)) (w3.fresh hp) (.p (kQ w3 hp (qab hr))) q3⟩
section
variable {X:Cx}{a b c d:Expr}{ta tb tc td:TE}
theorem qa1(ha:QE X a ta)(h1:zG a=true:=by rfl):QA X [a] (vW ta tNil):=qa_c ha zm h1
theorem qa2(ha:QE X a ta)(hb:QE X b tb)(h1:zG a=true:=by rfl)(h2:zG b=true:=by rfl):QA X [a,b] (vW ta (vW tb tNil)):=qa_c ha (qa1 hb h2) h1
theorem qa3(ha:QE X a ta)(hb:QE X b tb)(hc:QE X c tc)(h1:zG a=true:=by rfl)(h2:zG b=true:=by rfl)(h3:zG c=true:=by rfl):QA X [a,b,c] (vW ta (vW tb (vW tc tNil))):=qa_c ha (qa2 hb hc h2 h3) h1
theorem qa4(ha:QE X a ta)(hb:QE X b tb)(hc:QE X c tc)(hd:QE X d td)(h1:zG a=true:=by rfl)(h2:zG b=true:=by rfl)(h3:zG c=true:=by rfl)(h4:zG d=true:=by rfl):QA X [a,b,c,d] (vW ta (vW tb (vW tc (vW td tNil)))):=qa_c ha (qa3 hb hc hd h2 h3 h4) h1
def qv0:=@qv X 0
def qv1:=@qv X 1
def qv2:=@qv X 2
def qv3:=@qv X 3
def qv4:=@qv X 4
def qv5:=@qv X 5
def qv6:=@qv X 6
def qv7:=@qv X 7
def qv11:=@qv X 11
end
section
variable {i:Nat}{l w:Str}{b r:US}{E:q07}{ρ:UEnv}{M:MM}
theorem q8f(hi:ρ[i]?=some (some (.p (.str w))))(h:decide (w=l)=false)(q:r E ρ M):uSeq (uIfS (uB (uOp (sEq false) (uVar i) (uC (.str l)))) b Kp) r E ρ M :=
 ⟨_,hi,.str w,.str l,rfl,rfl,.str w,.str l,rfl,rfl,rfl,false,Um (λz=>U.p _) (Us λe=>UF h (V.str.inj e)),q⟩
theorem q0U(hj:ρ[j]?=some (some (.p (.tup (t::ts)))))(q:r E (ρ.set i (some (.p t))) M):uSeq (uAsg (uIx vI (uVar j) (uC (.int 0))) (Kq i)) r E ρ M:=⟨_,hj,_,0,_,rfl,rfl,at0,q⟩
theorem inVs{l:List Str}:inV (.str z) (l.map V.str)=decide (z∈l):=by
 unfold inV;rw[List.any_map]
 induction l with
 |nil=>rfl
 |cons a l ih=>
  rw[Rk,ih];show(decide _||decide _)=_
  grind
inductive CsL:UA->List Str->Prop
 |nil:CsL uNil []
 |cons {x:Str}{ul:UA}{l:List Str} (h:CsL ul l):CsL (Xe (uC (.str x)) ul) (x::l)
theorem CsL.ok{l:List Str}(h:CsL ul l):∀{Q:List U->MM->Prop},Q (l.map λx=>.p (.str x)) M->ul ρ M Q:=by
 induction h with
 |nil=>exact λq=>q
 | @cons x ul l h ih=>exact λ{Q} q=>ih q
theorem kz:∀{l:List Str},vU (l.map λx=>.p (.str x))=some (l.map T.str)
 | []=>rfl
 |x::l=>by show(vU _).map _=_;rw[kz];rfl
theorem q04:∀{l:List Str},vts (l.map T.str)=some (l.map V.str)
 | []=>rfl
 |x::l=>by rw[DD,vts,q04];rfl
theorem Yi(hi:ρ[i]?=some (some (.p (.str w))))(hl:CsL ul ls)(h:decide (w∈ls)=false)(q:r E ρ M):uSeq (uIfS (uB (uOp (sIn false) (uVar i) (uLst ul))) b Kp) r E ρ M :=
 ⟨_,hi,hl.ok ⟨_,kz,_,_,rfl,rfl,.str w,_,_,rfl,rfl,q04,false,Um (λz=>U.p _) (inVs.trans h),q⟩⟩
theorem Yh(hi:ρ[i]?=some (some (.p (.str w))))(hl:CsL ul ls)(h:decide (w∈ls)=true)(q:b { E with nx:=r E } ρ M):uSeq (uIfS (uB (uOp (sIn false) (uVar i) (uLst ul))) b Kp) r E ρ M :=
 ⟨_,hi,hl.ok ⟨_,kz,_,_,rfl,rfl,.str w,_,_,rfl,rfl,q04,true,Um (λz=>U.p _) (inVs.trans h),q⟩⟩
theorem q74(hj:ρ[j]?=some (some (.p (.tup tt))))(hc:cutT tt (some 1) none=cs)(hs:cs.length+3<=sizeLine)(h3:cutT (cs++[.int 0,.int 0,.int 0]) none (some 3)=[t0,t1,t2])(q:r E (((ρ.set i1 (some (.p t0))).set i2 (some (.p t1))).set i3 (some (.p t2))) M):uSeq (uAsg (uSlA (VN (uSlA (uVar j) (Yj (uC (.int 1))) j7) (uTup (Xe (uC (.int 0)) (Xe (uC (.int 0)) (Xe (uC (.int 0)) uNil))))) j7 (Yj (uC (.int 3)))) (Qc i1 i2 i3)) r E ρ M:=by
 subst hc;refine⟨_,hj,_,rfl,_,rfl,?_⟩;exact⟨[.int 0,.int 0,.int 0],rfl,_,_,rfl,rfl,hs,3,rfl,_,rfl,.p t0,.p t1,.p t2,by rw[h3];rfl,q⟩
end
end L2
set_option maxHeartbeats 4000000
namespace Mw
open PySem L2 PyProof.Rows
def Gm(Ξ:PySem.W.Frag){X:Cx}(h:X.K=Ξ:=by rfl):=vL h
def Ua(Ξ:PySem.W.Frag){X:Cx}(h:X.K=Ξ:=by rfl):=qd h
def Ub(Ξ:PySem.W.Frag){X:Cx}(h:X.K=Ξ:=by rfl):=qr h
def Uc(Ξ:PySem.W.Frag){X:Cx}(h:X.K=Ξ:=by rfl):=v8 h
def Ud(Ξ:PySem.W.Frag){X:Cx}(h:X.K=Ξ:=by rfl):=zo h
theorem Wh{k j:Nat}{A:Around}(r:Room k A)(h:j<=k:=by first|decide|exact Dk _):Room j A:=r.mono h
theorem Wi{i:Int}:ZE (tC (.int i)) (uC (.int i)):=ce_c (.int i)
theorem Wo{i:Str}:ZE (tC (.str i)) (uC (.str i)):=ce_c (.str i)
theorem Wr{α:Type}{a:α}{b:Prop}:a=a\/b:=Or.inl rfl
theorem Gj{α:Type}{a:α}{b:Prop}:b\/a=a:=Or.inr rfl
local macro_rules|`(tactic|walk_at "hp")=>`(tactic|first|assumption|exact upd_same|(refine zS (by assumption) ?_; walk_at "hp")|(refine jS (by first|assumption|(apply Ne.symm; assumption)) ?_; walk_at "hp"))
local macro_rules|`(tactic|rfl')=>`(tactic|repeat (first|(simp only[$[$(wN "L2.start tSeq Q5 tAsg tOp tUn tVar tC qJ gSub tRet VQ tIfS VS tLM tTru zW tBM tBM0 jB xG Vb tSl zT VR rd_I q1j Va q0G tCB vW tNil tTup tLst tYes tAnd tOr tNot tB tIf Q4 q16 List.getElem?_cons_zero List.getElem?_cons_succ Option.some.injEq exists_eq_left' List.set_cons_zero List.set_cons_succ zE List.zip_cons_cons List.zip_nil_left List.zip_nil_right List.map_cons List.map_nil List.length_cons List.length_nil List.replicate List.append_nil List.nil_append List.cons_append Bool.false_eq_true if_true if_false decide_eq_true_eq Nat.zero_add xr"):term],*])|refine Gy (by walk_at "hp") rfl ?_|refine Gy (by walk_at "hp") at0 ?_|refine q5s (by walk_at "hp") rfl ?_|first $[|refine $(wN "q5X JV Vo") (by walk_at "hp") ?_]*|refine q8k rfl ?_))
set_option hygiene false
local macro_rules|`(tactic|walk_at "l1")=>`(tactic|first|(obtain⟨rfl,_⟩:=h; rfl)|(obtain⟨_,h⟩:=h; walk_at "l1"))
local macro_rules|`(tactic|exists $z,$n,$t)=>`(tactic|exists $z,$n,$t,by right)|`(tactic| exists $z,$n,$t,$l) => `(tactic| (refine $z (N:=$n) (by ac_rfl) (by intro _ _; (repeat intro h); walk_at "l1") λ_ _ _ _ _ _ hr nd=>?_; refine⟨_,$t,_,$l,?_⟩))
section
variable {P:Program}{w:World}{Ξ:PySem.W.Frag}{mg:Str->Option Value}{base:Heap}
noncomputable abbrev sBag:Stmt:=top 52
theorem scBag:q01 ["script","stir","cell"] ["script"] (qw sBag):=by ac_rfl
noncomputable abbrev q0H:Stmt:=top 53
theorem scDraw:q01 ["bag","many","found"] ["bag","many"] (qw q0H):=by ac_rfl
structure BagAt(H:Hp)(b:Addr):Prop where
 ex:∃(c:Addr)(ns:List Int)(i a st n:Int),H b=some (.lst [.ref c,.int i,.int a,.int st,.int n])/\H c=some (.lst (ns.map V.int))/\0<=i/\i<=ns.length/\ns.length<=63/\(∀x∈ns,0<=x)/\0<=a/\0<=st/\st<2147483647
def q3A(Ξ:PySem.W.Frag):Sp:=λvs H Q _=>∃(a:Addr)(ns:List Int),vs=[.ref a]/\SqL Ξ H a (ns.map V.int)/\ns.length<=63/\∀(b:Addr)(H':Hp),H b=none->Same H H'->BagAt H' b->Q (.ref b) H'
theorem q6I(ns:List Int)(h:ns.length<=63):cutV (ns.map V.int) none (some 63)=ns.map V.int:=by
 unfold cutV;have e1:HT.sIx (ns.map V.int).length 0 none=0:=rfl;have e2:HT.sIx (ns.map V.int).length (ns.map V.int).length (some 63)=min 63 (ns.map V.int).length:=HT.sIx_nat _ _ 63
 grind
theorem JT{ns:List Int}{i:Nat}(h:(ns.map V.int)[i]?=some y):∃z,y=V.int z/\ns[i]?=some z:=by
 rw[Dy]at h;cases e:ns[i]? with
 |none=>rw[e]at h;cases h
 |some z=>rw[e]at h;exact⟨z,(Option.some.inj h).symm,rfl⟩
theorem q6p(F:Fun Ξ "_law_bag" "_law_bag" sBag f fd)(N:Nms mg):FnOk P w Ξ mg base CX0 1 f fd ["script"] (q3A Ξ):=by
 refine F.okQ scBag (λvs H Q E h=>?_) (λap A outer s H vs Q E hr h=>?_)
 ·obtain⟨a,ns,rfl,_⟩:=h
  rfl
 ·obtain⟨a,ns,rfl,hS,au,k⟩:=h
  refine⟨_,(qb (ql (i:=1) scBag.nd rfl Wr qa) (qb (z0 PassesOwn.never rfl (qY (Ξ:=Ξ) rfl (vm (Gm Ξ) qv0 zC (vf qa))) (vd (i:=2) scBag.nd rfl Wr) (qc (ql (i:=1) scBag.nd rfl Wr (qm vV (qm qH (qm qH (qm jJ qv1 qa) (qm vV qv2 qa)) qa) qa)))) (qc (qi (qA (qa_c (jO [false,false,false] [] (qY (Ξ:=Ξ) rfl (vm (Gm Ξ) qv0 zC (vf qa))) (λ_ _ _=>(vd (i:=2) scBag.nd rfl Wr)) (λ_ _ _=>jm) (λ_ _ _=>(qm vV (qE j3 (by rfl) N.abs q0Z (qa1 qv2)) (qm WB qa qa)))) (qa4 qa qa qv1 qa))))))),?_⟩;refine⟨_,rfl,_,rfl,a,_,rfl,hS,λp hp=>?_⟩;rw[q6I ns au];refine⟨p,rfl,⟨_,SqL.of upd_same⟩,q0v (Ξ:=Ξ) (a:=p) (xs:=ns.map V.int) (λi σ H2=>∃(st:Int)(v:Option V),σ=[some (.ref a),some (.int st),v]/\0<=st/\st<2147483647/\H2=upd H p (.lst (ns.map V.int)))
   ⟨17,none,rfl,by decide,by decide,rfl⟩ (λi σ H2 _ zz=>by obtain⟨_,_,_,_,_,e⟩:=zz;rw[e];exact SqL.of upd_same) ?_ ?_⟩
  ·rintro i y σ H2 hi ⟨st,v,rfl,h0,h1,rfl⟩
   obtain⟨z,rfl,_⟩:=JT hi
   (simp only[L2.start,tSeq,Q5,tAsg,tOp,tUn,tVar,tC,qJ,gSub,tRet,VQ,tIfS,VS,tLM,tTru,zW,tBM,tBM0,jB,xG,Vb,tSl,zT,VR,rd_I,q1j,Va,q0G,tCB,vW,tNil,tTup,tLst,tYes,tAnd,tOr,tNot,tB,tIf,Q4,q16,Rb,RG,Option.some.injEq,exists_eq_left',R4,R5,zE,R6,Bd,R7,DD,By,Dv,D4,List.replicate,DI,Rh,Ro,D3,Db,U4,U3,Re,xr]);refine⟨.inr ⟨by decide,by decide⟩,by decide,by decide,_,_,rfl,D9 _ (by decide),D5 _ (by decide),trivial⟩
  ·rintro σ H2 ⟨st,v,rfl,h0,h1,rfl⟩
   have rO:SqL Ξ (upd H p (.lst (ns.map V.int))) a (ns.map V.int):=((Same.refl H).upd hp).seq hS;refine⟨_,rfl,_,rfl,a,_,rfl,rO,λp2 lQ=>?_⟩;rw[q6I ns au];obtain⟨f2,n2⟩:=Vs lQ;refine⟨p2,rfl,⟨_,SqL.of upd_same⟩,λa7 bC=>?_⟩;obtain⟨g1,n3⟩:=Vs bC;obtain⟨g2,n4⟩:=Vs g1;refine qah (xs:=ns.map V.int) (λi H3=>∃ys:List Int,H3 a7=some (.lst (ys.map V.int))/\ys.length=i/\(∀y∈ys,0<=y)/\H3 p2=some (.lst (ns.map V.int))/\Same H H3) ?_ ?_ ?_ ?_
   ·exact⟨[],upd_same,rfl,(λ_ h=>nomatch h),zS bC upd_same,(((Same.refl H).upd hp).upd f2).upd g2⟩
   ·rintro i H3 _ ⟨ys,_,_,_,e,_⟩
    exact SqL.of e
   ·rintro i y H3 hi ⟨ys,e1,e2,e3,e4,e5⟩
    obtain⟨z,rfl,hz⟩:=JT hi;have il:i<ns.length:=(Dc.mp hz).1
    (simp only[L2.start,tSeq,Q5,tAsg,tOp,tUn,tVar,tC,qJ,gSub,tRet,VQ,tIfS,VS,tLM,tTru,zW,tBM,tBM0,jB,xG,Vb,tSl,zT,VR,rd_I,q1j,Va,q0G,tCB,vW,tNil,tTup,tLst,tYes,tAnd,tOr,tNot,tB,tIf,Q4,q16,Rb,RG,Option.some.injEq,exists_eq_left',R4,R5,zE,R6,Bd,R7,DD,By,Dv,D4,List.replicate,DI,Rh,Ro,D3,Db,U4,U3,Re,xr]);refine⟨⟨by(repeat (first|exact ExtS.nl|refine ExtS.sm ?_|refine ExtS.no ?_)),trivial⟩,⟨by decide,by decide,by decide⟩,by decide,ys.map V.int,e1,qV (by simp;lia),ys++[(if z<0 then -z else z) % 10^(60:Int).toNat],?_,by simp[e2],?_,jS n3.symm e4,e5.upd g2⟩
    ·rw[upd_same,Dq];rfl
    ·intro y hy
     rcases Dr.mp hy with h|h
     ·exact e3 y h
     ·rw[Dm.mp h];exact D9 _ (by decide)
   ·rintro H3 ⟨ys,e1,e2,e3,e4,e5⟩
    rw[Dg]at e2
    (simp only[L2.start,tSeq,Q5,tAsg,tOp,tUn,tVar,tC,qJ,gSub,tRet,VQ,tIfS,VS,tLM,tTru,zW,tBM,tBM0,jB,xG,Vb,tSl,zT,VR,rd_I,q1j,Va,q0G,tCB,vW,tNil,tTup,tLst,tYes,tAnd,tOr,tNot,tB,tIf,Q4,q16,Rb,RG,Option.some.injEq,exists_eq_left',R4,R5,zE,R6,Bd,R7,DD,By,Dv,D4,List.replicate,DI,Rh,Ro,D3,Db,U4,U3,Re,xr]);refine⟨by decide,λb hb=>?_⟩;refine k b _ (e5.free hb) (e5.upd (e5.free hb)) ⟨a7,ys,0,0,st,0,upd_same,zS hb e1,by decide,by lia,by lia,e3,by decide,h0,h1⟩
theorem qaz{H:Hp}{ns:List Int}{i a st n:Int}(hb:H b=some (.lst [.ref c,.int i,.int a,.int st,.int n]))(hc:H c=some (.lst (ns.map V.int))):c≠b:=by
 intro e;subst e;cases ns<;>grind
def jh(H:Hp)(b c:Addr):Prop:=∃r,H b=some (.lst (.ref c::r))
theorem Zw(h:H b=some (.lst (.ref c::r)))(h':H' b=some (.lst (.ref c::r'))):∀c',jh H b c'->jh H' b c':=λc' zz=>by
 obtain⟨q,e⟩:=zz;rw[h]at e;injection e with e
 injection e with e
 injection e with e _
 injection e with e
 subst e;exact⟨r',h'⟩
theorem q18(h:jh H b c)(h':jh H b c'):c=c':=by
 obtain⟨q,e⟩:=h;obtain⟨q',e'⟩:=h';rw[e]at e';injection e' with e'
 injection e' with e'
 injection e' with e' _
 injection e'
def q3I:Sp:=λvs H Q _=>∃(b:Addr)(aS:Int),vs=[.ref b,.int aS]/\BagAt H b/\0<aS/\aS.natAbs.log2<9000/\∀(aR:Int)(H':Hp),0<=aR->aR<aS->BagAt H' b->(∀x,x≠b->H' x=H x)->(∀c,jh H b c->jh H' b c)->Q (.int aR) H'
theorem BagAt.put(h:BagAt H b)(hh:jh H b c0)(n1:p≠b)(n2:p≠c0):BagAt (L2.upd H p o) b:=by
 obtain⟨c,ns,i,a,st,n,hb,hc,r⟩:=h.ex;have e:c0=c:=by
  obtain⟨q,e⟩:=hh;rw[hb]at e;injection e with e
  injection e with e
  injection e with e _
  injection e with e
  exact e.symm
 subst e;exact⟨c0,ns,i,a,st,n,jS n1.symm hb,jS n2.symm hc,r⟩
theorem q1T(F:Fun Ξ "_law_draw" "_law_draw" q0H f fd)(N:Nms mg):FnOk P w Ξ mg base CX0 1 f fd ["bag","many"] q3I:=by
 refine F.okQ scDraw (λvs H Q E h=>?_) (λap A outer s H vs Q E hr h=>?_)
 ·obtain⟨b,m,rfl,_⟩:=h
  rfl
 ·obtain⟨b,aS,rfl,⟨c,ns,i,a,st,n,hb,hc,i0,i1,hl,dh,a0,s0,s1⟩,m0,mb,k⟩:=h
  have rP:=qaz hb hc;refine⟨_,(qb (qI (V2 (QD (qg op_eq (qh (Ua Ξ) qv0 qa (λ_ _=>rfl)) qa (qo _)) (kr (qg xw (qh (Ua Ξ) qv0 qa (λ_ _=>rfl)) (qE vJ (by rfl) N.len kY (qa1 (qh (Ua Ξ) qv0 qa (λ_ _=>rfl)))) (qo _))))) (qb (vD (qh (Ua Ξ) (qh (Ua Ξ) qv0 qa (λ_ _=>rfl)) (qh (Ua Ξ) qv0 qa (λ_ _=>rfl)) (λ_ _=>rfl)) (vM qv0 qa qL)) (qc (vD (qm qH (qh (Ua Ξ) qv0 qa (λ_ _=>rfl)) qa) (vM qv0 qa qL)))) (qc (qI (qg op_eq (qh (Ua Ξ) qv0 qa (λ_ _=>rfl)) qa (qo _)) (qb (vD (qm qH (qh (Ua Ξ) qv0 qa (λ_ _=>rfl)) qa) (vM qv0 qa qL)) (qb (vD (qm vV (qm qH (qm qH (qm qH (qm WB (qh (Ua Ξ) qv0 qa (λ_ _=>rfl)) qa) (qm jJ qa (qh (Ua Ξ) qv0 qa (λ_ _=>rfl)))) (qm jJ qa (qh (Ua Ξ) qv0 qa (λ_ _=>rfl)))) qa) qa) (vM qv0 qa qL)) (qc (qi (qm vV (qm jV (qh (Ua Ξ) qv0 qa (λ_ _=>rfl)) qa) qv1))))) qt))) (qb (ql (i:=2) scDraw.nd rfl Wr (qm vV (qh (Ua Ξ) qv0 qa (λ_ _=>rfl)) qv1)) (qb (vD (qm jV (qh (Ua Ξ) qv0 qa (λ_ _=>rfl)) qv1) (vM qv0 qa qL)) (qc (qi qv2))))),?_⟩;rfl';have fin:∀(z:Int)(H':Hp)(i' a' cS n':Int),0<=z->H' b=some (.lst [.ref c,.int i',.int (z / aS),.int cS,.int n'])->(∀x,x≠b->H' x=H x)->0<=i'->i'<=ns.length->0<=cS->cS<2147483647->Q (.int (z % aS)) H':=λz H' i' a' cS n' hz e1 e2 e3 e4 e5 e6=>
   k _ _ (D9 _ (by lia)) (D5 _ m0) ⟨c,ns,i',z / aS,cS,n',e1,by rw[e2 c rP];exact hc,e3,e4,hl,dh,Int.ediv_nonneg hz (by lia),e5,e6⟩ e2 (Zw hb e1)
  refine ite2 (λha=>?_) (λha=>?_)
  ·rfl'
   refine ite2 (λhi=>?_) (λhi=>?_)
   ·rw[Dg]at hi
    obtain⟨j,rfl⟩:∃j:Nat,i=(j:Int):=⟨i.toNat,by lia⟩;have hj:j<ns.length:=by lia
    rfl';refine Gy hc (jz (v:=.int ns[j]) (by rw[Dy,Df hj];rfl)) ?_;rfl';refine⟨m0,?_⟩;rfl';refine⟨⟨m0,mb⟩,?_⟩;rfl';exact fin _ _ (j+1) 0 st n (dh _ (List.getElem_mem hj)) upd_same (λx hx=>by rw[upd_ne hx,upd_ne hx,upd_ne hx]) (by lia) (by lia) s0 s1
   ·rfl'
    rw[Ul ha];rfl';refine⟨⟨by decide,by decide,by lia⟩,?_⟩;rfl';refine⟨.inl ⟨by decide,by decide⟩,?_⟩;rfl';refine⟨.inl ⟨by decide,by decide⟩,by decide,?_⟩;rfl';refine⟨⟨by decide,by decide⟩,m0,?_⟩;refine k _ _ (D9 _ (by lia)) (D5 _ m0) ⟨c,ns,i,a,_,n+1,upd_same,?_,i0,i1,hl,dh,a0,D9 _ (by decide),D5 _ (by decide)⟩ (λx hx=>by rw[upd_ne hx,upd_ne hx]) (Zw hb upd_same);walk_at "hp"
  ·rfl'
   rw[Ui ha];rfl';refine⟨m0,?_⟩;rfl';refine⟨⟨m0,mb⟩,?_⟩;rfl';exact fin _ _ i 0 st n a0 upd_same (λx hx=>by rw[upd_ne hx]) i0 i1 s0 s1
noncomputable def MB(M:MM)(k:Nat)(o:MO)(L:List MO):MM:=M.set k o++L
theorem q5J:(MB M k o L).length=M.length+L.length:=by unfold MB;rw[Dj,Do]
theorem q7P:MB M k o L++[x]=MB M k o (L++[x]):=by unfold MB;rw[DC]
theorem MB_get:(MB M k o L)[M.length+i]?=L[i]?:=by
 unfold MB;rw[Dp (by rw[Do];lia),Do,DM]
theorem zO(h:L[i]?=some x:=by rfl):(MB M k o L)[M.length+i]?=some x:=MB_get.trans h
theorem q65:(MB M k o L).set (M.length+i) x=MB M k o (L.set i x):=by
 unfold MB;rw[Bz _ _ (by rw[Do];lia),Do,DM]
theorem q32(h:k<M.length):(MB M k o L)[k]?=some o:=by
 unfold MB;rw[De (by rw[Do];exact h),Dn h]
theorem Z9(h:k<M.length):(MB M k o L).set k o'=MB M k o' L:=by
 unfold MB;simp_all
theorem VG:(MB M k o L).take M.length=M.set k o:=by
 unfold MB;rw[BA (by rw[Do])]
theorem VH(h:M[k]?=some o):k<M.length/\M=MB M k o []:=by
 refine⟨(Dc.mp h).1,?_⟩;unfold MB;rw[DI];obtain⟨hk,rfl⟩:=Dc.mp h;simp_all
theorem VF(h:PurO o):zR M (MB M k o L):=λi x hi e=>by
 unfold MB at e;rw[De (by rw[Do];exact hi)]at e;by_cases hk:k=i
 ·subst hk
  rw[Dn hi]at e;cases e;exact .inr h
 ·rw[Di hk]at e
  exact .inl e
structure BagO(o:MO):Prop where
 ex:∃(ns:List Int)(i a st n:Int),o=.lst [.p (qC ns),.p (.int i),.p (.int a),.p (.int st),.p (.int n)]/\0<=i/\i<=ns.length/\ns.length<=63/\(∀x∈ns,0<=x)/\0<=a/\0<=st/\st<2147483647
theorem BagO.pur(h:BagO o):PurO o:=by
 obtain⟨ns,i,a,st,n,rfl,_⟩:=h.ex;exact⟨[qC ns,.int i,.int a,.int st,.int n],rfl⟩
def XX:List U->MM->UK->Prop:=λus M Q=>∃(k:Nat)(o:MO)(aS:Int),us=[.m k,.p (.int aS)]/\M[k]?=some o/\BagO o/\0<aS/\aS.natAbs.log2<9000/\∀(aR:Int)(o':MO),0<=aR->aR<aS->BagO o'->Q (.p (.int aR)) (M.set k o')
theorem vC(hk:k<M.length)(B:BagO o)(h0:0<aS)(h1:aS.natAbs.log2<9000)(q:∀(aR:Int)(o':MO),0<=aR->aR<aS->BagO o'->Q (.p (.int aR)) (MB M k o' L)):XX [.m k,.p (.int aS)] (MB M k o L) Q :=
 ⟨k,o,aS,rfl,q32 hk,B,h0,h1,λf o' f0 f1 B'=>by rw[Z9 hk];exact q f o' f0 f1 B'⟩
theorem q05(r:RepT A H v (qC ns)):∃p,v=.ref p/\¬A p/\H p=some (.lst (ns.map V.int)):=by
 obtain⟨p,vs,rfl,na,h,q⟩:=r.lst_inv;refine⟨p,rfl,na,?_⟩;have:vs=ns.map V.int:=by
  clear h r na
  induction ns generalizing vs with
  |nil=>cases q;rfl
  |cons n ns ih=>
   cases q with
   |cons a b=>cases a;rw[ih _ b];rfl
 rw[h,this]
theorem JR(na:¬A p)(h:H p=some (.lst (ns.map V.int))):RepT A H (.ref p) (qC ns):=by
 refine .lstP na h ?_
 induction ns with
 |nil=>exact .nil
 |cons n ns ih=>exact .cons (.int n) (by
   clear h ih
   induction ns with
   |nil=>exact .nil
   |cons n ns ih=>exact .cons (.int n) ih)
theorem q3L(hb:BagO o)(r:ObjR A ι H b o):BagAt H b/\∃c,jh H b c/\¬Av A ι c/\∃ns:List Int,H c=some (.lst (ns.map V.int)):=by
 obtain⟨ns,i,a,st,n,rfl,k⟩:=hb.ex;obtain⟨vs,h,q⟩:=r;cases q with
 |cons q1 q=>
 cases q with
 |cons q2 q=>
 cases q with
 |cons q3 q=>
 cases q with
 |cons q4 q=>
 cases q with
 |cons q5 q=>
 cases q;cases q1 with
 |p q1=>
 obtain⟨c,rfl,nc,hc⟩:=q05 q1;cases q2 with
 |p q2=>
 cases q3 with
 |p q3=>
 cases q4 with
 |p q4=>
 cases q5 with
 |p q5=>
 cases q2;cases q3;cases q4;cases q5;exact⟨⟨c,ns,i,a,st,n,h,hc,k⟩,c,⟨_,h⟩,nc,ns,hc⟩
theorem Kn(B:BagAt H b)(hd:jh H b c)(nc:¬Av A ι c):∃o,BagO o/\ObjR A ι H b o/\∃x,H b=some x/\∀H',H' b=some x->(∀y z,H y=some z->y≠b->H' y=some z)->ObjR A ι H' b o:=by
 obtain⟨c',ns,i,a,st,n,h,hc,k⟩:=B.ex;have:c=c':=q18 hd ⟨_,h⟩;subst this;have mC:=qaz h hc;refine⟨_,⟨ns,i,a,st,n,rfl,k⟩,⟨_,h,.cons (.p (JR nc hc)) (.cons (.p (.int _)) (.cons (.p (.int _)) (.cons (.p (.int _)) (.cons (.p (.int _)) .nil))))⟩,_,h,λH' e f=>⟨_,e,.cons (.p (JR nc (f _ _ hc mC))) (.cons (.p (.int _)) (.cons (.p (.int _)) (.cons (.p (.int _)) (.cons (.p (.int _)) .nil))))⟩⟩
set_option tactic.hygienic true in
theorem q0k(F:Fun Ξ "_law_draw" "_law_draw" q0H f fd)(N:Nms mg):FnOk P w Ξ mg base CX0 1 f fd ["bag","many"] (spU XX):=by
 refine(q1T F N).imp λvs H Q E h=>?_;obtain⟨A,ι,M,us,Qu,w1,r,⟨k,o,aS,rfl,em,hb,h0,h1,q⟩,kk⟩:=h;cases r with
 |cons r1 r=>
 cases r with
 |cons r2 r=>
 cases r;cases r2 with
 |p r2=>
 cases r2;cases r1 with
 |m ek=>
 rename_i b;have ro:=w1.obj k b o ek em;obtain⟨B,c,hd,nc,ns,gU⟩:=q3L hb ro;refine⟨b,aS,rfl,B,h0,h1,λaR H' f0 f1 B' fr rQ=>?_⟩;have gm:=rQ c hd;have aI:=Dh ek;obtain⟨o',im,rR,x,hx,_⟩:=Kn B' gm nc;have eH:H'=L2.upd H b x:=by
  funext y;by_cases z:y=b
  ·subst z;rw[L2.upd_same];exact hx
  ·rw[L2.upd_ne z];exact fr y z
 subst eH;exact kk _ _ ι _ _ (.put aI) (w1.put ek rR) (.p (.int _)) (q aR o' f0 f1 im)
theorem up1{R:T->Prop}:(∃t,U.p a=.p t/\R t)=R a:=propext ⟨λzz=>by obtain⟨_,e,h⟩:=zz;cases e;exact h,λh=>⟨a,rfl,h⟩⟩
theorem xT{ts:List T}(hz:ts.length<=sizeLine)(Iv:Nat->List T->MM->Prop)(h0:Iv 0 [] M)(hk:∀i a7 M2,Iv i a7 M2->M2[k]?=some (.lst (ts.map U.p)))(hs:∀i t a7 M2,ts[i]?=some t->a7.length<=i->Iv i a7 M2->ug (.p t) dQ M2 λbB M4=>ut bB M4 λb M5=>if b=true then ua bB M5 λz M6=>∃t,z=.p t/\Iv (i+1) (a7++[t]) M6 else Iv (i+1) a7 M5)(hd:∀a7 M2,Iv ts.length a7 M2->Q (.p (.lst a7)) M2):UComp (itU (.m k) (ts.map U.p)) ug ut ua dQ M Q:=by
 refine⟨by simpa[itU]using hz,Iv,h0,λi a7 M2 hi ha h=>⟨by show qB M2 _=_;simp[qB,hk i a7 M2 h],λu hu=>?_⟩,λa7 M2 h=>⟨by show qB M2 _=_;simp[qB,hk _ a7 M2 h],hd a7 M2 (by simpa[itU]using h)⟩⟩;have hu:_[i]?=some u:=hu;rw[Dy]at hu;cases e:ts[i]? with
 |none=>rw[e]at hu;cases hu
 |some t=>rw[e]at hu;cases hu;exact hs i t a7 M2 e ha h
theorem q02{α β:Type}{f:α->β}{l:List α}{i:Nat}{y:β}(h:(l.map f)[i]?=some y):∃x,l[i]?=some x/\y=f x:=by
 rw[Dy]at h;cases e:l[i]? with
 |none=>rw[e]at h;cases h
 |some n=>rw[e]at h;cases h;exact⟨n,rfl,rfl⟩
theorem q8o(h:vI M u=some [a,b])(q:R a b):T2S M u R:=⟨a,b,h,q⟩
theorem q8M(h:vI M u=some [a,b,c])(q:R a b c):T3S M u R:=⟨a,b,c,h,q⟩
theorem q2z(e:M[k]?=some (.lst (ts.map U.p)))(q:Q (.p (.lst (cutT ts l h))) M):SlS M (.m k) l h Q:=⟨ts,by simp[sn,e],q⟩
theorem useq(h:a { E with nx:=b E } ρ M):uSeq a b E ρ M:=h
local macro_rules|`(tactic|nofun)=>`(tactic|repeat (first|walk_at "vs" |simp only[uSeq]|refine qR rfl ?_|refine qR at0 ?_|first $[|refine $(wN "q2U q8o q8M XF Vl") rfl ?_]*|first $[|refine $(wN "XF Vl") zO ?_]*))
local macro_rules|`(tactic|walk_at "vs")=>`(tactic|simp only[$[$(wN "xz Kp uAsg Kq q1O q0A q6x q4z uC Xe uNil q8b q81 q82 q6l q7V q5L q6Q uIsN XN q56 q7y q7J q4R rd_b uAnd uOr uNot uIf q0J q8r q3q q4M YX q6M q6N uNew q6R q8D q4c q5r q8v q4Z q3R q42 q7U q3Z q8l q6z q3H YY q7w q5p q0V q3J uFor q5O KW q87 q8E q0N q0R q8a q6q q7O uRet q7D uIfS uIsi isU isT uIxK vt q6O q6T q5w q5m q6d q5M q4j q8I q8L q0p q88 q7A YZ q52 q3o YW Bool.or_true Bool.true_or Bool.or_false Bool.false_or uIfC q21 q1e q6h q5o up1 GW ZD MO.lst.injEq q4H Ji q7P q5J MB_get q65 Option.some.injEq List.map_cons List.map_nil List.length_cons List.length_nil List.replicate List.append_nil List.nil_append List.cons_append List.getElem?_cons_zero List.getElem?_cons_succ List.set_cons_zero List.set_cons_succ List.zip_cons_cons List.zip_nil_left List.zip_nil_right Bool.false_eq_true if_true if_false decide_eq_true_eq decide_true decide_false Bool.not_true Bool.not_false true_and and_true Nat.reduceAdd Nat.reduceSub Nat.zero_add exists_eq_left'"):term],*])
local macro_rules|`(tactic|symm)=>`(tactic|repeat (first|with_reducible refine useq ?_|walk_at "vs"|((with_reducible refine gdIx ?_); first|refine qR rfl ?_|refine qR at0 ?_|refine q2U rfl ?_)|((with_reducible refine gdMe ?_); first|refine XF rfl ?_|refine XF zO ?_) ))
local macro_rules|`(tactic|right)=>`(tactic|repeat' first|(with_reducible first|(apply ce_c; constructor)|exact zn λ_ _=>.int _|exact q8t λ_ _=>.int _|exact zn λ_ _=>.bl _|first $[|apply $(wN "qk qq qK qj qM qF vS xR q5R q47 jK QU zu Wx qaq xt ZU qap zB xh vG qas VD q1Q q5D X6 q2k q51 q6m VA q53 xS q4q q3F q6r q3K qag q24 ZR qaf QQ q1l qad q4g Vz ZQ ct_b q7b q6n qat q0n q4t q1k VC q1G kU q2D KU KQ Wy q5t q6X q7I q3P ZY q6A")]*)|first $[|apply $(wN "q54 G7 cx_0 q8H q5S q8u VB qam")]*|decide)
abbrev Mk3:=Str×Int×Int
noncomputable def on(a8:Int)(m:Mk3):Bool:=decide (a8 % 2^m.2.1.toNat=m.2.2)
def Wd(ms:List Mk3):Prop:=∀m∈ms,0<=m.2.1/\m.2.1<=1000
theorem qO(k:Nat):(0:Int)<2^k:=Int.pow_pos (by decide)
theorem qD{α:Type}{l:List α}{i:Nat}{x:α}(h:l[i]?=some x):l.take (i+1)=l.take i++[x]:=by
 obtain⟨hi,e⟩:=Dc.mp h;rw[List.take_succ_eq_append_getElem hi,e]
def OfKind(ms:List Mk3)(kind:Str)(m:Mk3):Prop:=∃rest,ms.filter (λm=>decide (m.1=kind))=m::rest
noncomputable def jR:List Str:=["small","far","pair","sign","one"]
abbrev Nd:=Int×Int
def Disj(a b:Nd):Prop:=∀x:Int,¬(x % 2^a.1.toNat=a.2/\x % 2^b.1.toNat=b.2)
theorem Disj.symm(h:Disj a b):Disj b a:=λx ⟨p,q⟩=>h x ⟨q,p⟩
def NdOk(a:Nd):Prop:=0<=a.1/\a.1<=60/\0<=a.2/\a.2<2^a.1.toNat
theorem jp{x:Int}(h:a<=b):x % 2^b % 2^a=x % 2^a:=by
 refine Int.emod_emod_of_dvd x ?_;obtain⟨c,rfl⟩:=Nat.exists_eq_add_of_le h;exact⟨2^c,BM ..⟩
noncomputable def zM(a:Nd)(s:Int):Nd:=(a.1+1,a.2+s*2^a.1.toNat)
theorem qak(ha:NdOk a)(h:x % 2^(zM a s).1.toNat=(zM a s).2):x % 2^a.1.toNat=a.2:=by
 have e:(zM a s).1.toNat=a.1.toNat+1:=by show(a.1+1).toNat=_;have:=ha.1;lia
 rw[e]at h;rw[<-jp (Bh a.1.toNat),h];show(a.2+s*2^a.1.toNat) % 2^a.1.toNat=a.2;rw[BY,Int.add_mul_emod_self_left];exact D7 ha.2.2.1 ha.2.2.2
theorem QR(ha:NdOk a)(h:Disj a b):Disj (zM a s) b:=λx ⟨p,q⟩=>h x ⟨qak ha p,q⟩
theorem qaj(hs:s≠t):Disj (zM a s) (zM a t):=λx zz=>by
 obtain⟨p,q⟩:=zz;rw[show(zM a t).1=(zM a s).1 from rfl,p]at q;have:(a.2+s*2^a.1.toNat)=a.2+t*2^a.1.toNat:=q;have h2:s*2^a.1.toNat=t*2^a.1.toNat:=by lia
 exact hs (Int.eq_of_mul_eq_mul_right (RN (qO _)) h2)
theorem Kj(ha:NdOk a)(mD:a.1<=59)(hs:s=0\/s=1):NdOk (zM a s):=by
 obtain⟨h1,h2,h3,h4⟩:=ha;have e:(a.1+1).toNat=a.1.toNat+1:=by lia
 refine⟨by show 0<=a.1+1;lia,by show a.1+1<=60;lia,?_,?_⟩
 ·show 0<=a.2+s*2^a.1.toNat
  lia
 ·show a.2+s*2^a.1.toNat<2^(a.1+1).toNat
  lia
theorem q4T(h:a.2 % 2^(min a.1.toNat b.1.toNat)≠b.2 % 2^(min a.1.toNat b.1.toNat)):Disj a b:=λx zz=>by
 obtain⟨p,q⟩:=zz;refine h ?_;rw[<-p, <-q,jp (Nat.min_le_left _ _),jp (Nat.min_le_right _ _)]
theorem QF{α:Type}:∀{l:List α}{i:Nat}{x:α},l[i]?=some x->l.Perm (x::l.eraseIdx i)
 | [],_,_,h=>by simp at h
 |y::l,0,x,h=>by simp at h;subst h;simp
 |y::l,i+1,x,h=>by
  have:=QF (by simpa using h);exact(List.Perm.cons y this).trans (List.Perm.swap ..)
noncomputable def need(kind:Str):Int:=if kind = "sign" then 7 else if kind = "small" then 2 else if kind = "one" then 2 else 3
structure Right(bits:Int)(ms:List Mk3):Prop where
 b:8<=bits/\bits<=32
 n:ms.length=5
 k:(ms.map (·.1)).Perm jR
 w:∀m∈ms,1<=m.2.1/\m.2.1<=bits-need m.1
 p:∀m∈ms,0<=m.2.2/\m.2.2<2^m.2.1.toNat
 d:ms.Pairwise λm m'=>Disj m.2 m'.2
theorem vY(k:Str):2<=need k:=by unfold need;split<;>(try split)<;>(try split)<;>decide
theorem Right.wd(r:Right bits ms):Wd ms:=λm hm=>by
 have:=r.w m hm;have h2:=vY m.1;have:=r.b;lia
theorem Right.kind(r:Right bits ms){kind:Str}(h:kind∈jR):∃m,OfKind ms kind m:=by
 have:kind∈ms.map _:=r.k.mem_iff.mpr h;obtain⟨m,hm,e⟩:=DL.mp this;cases q:ms.filter _ with
 |nil=>
  have:m∈ms.filter (λm=>decide (m.1=kind)):=DB.mpr ⟨hm,by simp[e]⟩;rw[q]at this;grind
 |cons m0 rest=>exact⟨m0,rest,q⟩
theorem Right.of_perm(r:Right bits ms)(h:ms.Perm ns):Right bits ns :=
 ⟨r.b,h.length_eq.symm.trans r.n,(h.map _).symm.trans r.k,λm hm=>r.w m (h.mem_iff.mpr hm),λm hm=>r.p m (h.mem_iff.mpr hm),(h.pairwise_iff λh=>h.symm).mp r.d⟩
theorem log2_lt{n:Int}(h0:0<n)(h1:n<2^62):n.natAbs.log2<9000:=by
 have:n.natAbs.log2<62:=(Nat.log2_lt (by lia)).mpr (by lia);lia
noncomputable def T0:List Nd:=[(1,0),(2,1),(3,3),(4,7),(4,15)]
noncomputable def T1:List Nd:=[(1,0),(3,1),(3,3),(3,5),(3,7)]
noncomputable def T2:List Nd:=[(2,0),(2,1),(2,2),(3,3),(3,7)]
def Tbl(bits:Int)(t:List Nd):Prop:=t=T0\/t=T1\/(t=T2/\9<=bits)
noncomputable def xm(mask:Int)(n:Nd):Nd:=(n.1,Builtin.bitXor n.2 mask % 2^n.1.toNat)
noncomputable def fm(mask:Int)(o:Str)(n:Nd):Mk3:=(o,xm mask n)
noncomputable def cnt(bits:Int)(t:List Nd):Nat:=(t.filter λn=>decide (n.1<=bits-7)).length
theorem q4h(hb:8<=bits)(h:Tbl bits t):0<cnt bits t:=by
 refine RW.mpr λe=>?_;rcases h with rfl|rfl|⟨rfl,h9⟩
 ·have:((1,0))∈T0.filter λn=>decide (n.1<=bits-7):=DB.mpr ⟨by decide,by simp;lia⟩
  rw[e]at this;cases this
 ·have:((1,0))∈T1.filter λn=>decide (n.1<=bits-7):=DB.mpr ⟨by decide,by simp;lia⟩
  rw[e]at this;cases this
 ·have:((2,0))∈T2.filter λn=>decide (n.1<=bits-7):=DB.mpr ⟨by decide,by simp;lia⟩
  rw[e]at this;cases this
theorem Q3(h:Tbl bits t):t.length=5:=by rcases h with rfl|rfl|⟨rfl,_⟩<;>rfl
theorem q3Y(h:Tbl bits t):∀n∈t,1<=n.1/\n.1<=4:=by rcases h with rfl|rfl|⟨rfl,_⟩<;>decide
theorem q1C(hb:8<=bits)(h:Tbl bits t)(ha:aB<cnt bits t)(hn:t[aB]?=some n):n.1<=bits-7:=by
 by_cases h11:11<=bits
 ·have:=(q3Y h n (Dh hn)).2
  lia
 ·have hl:=by
   have:=(Dc.mp hn).1;rw[Q3 h]at this;exact this
  have aD:∀b∈([8,9,10]),∀t∈[T0,T1,T2],∀i∈List.range 5,i<cnt b t->∀n∈t[i]?,n.1<=b-7:=by decide+kernel
  have rS:bits∈([8,9,10]):=by
   grind
  have mE:t∈[T0,T1,T2]:=by rcases h with rfl|rfl|⟨rfl,_⟩<;>simp
  exact aD bits rS t mE aB (D8.mpr hl) ha n hn
theorem q0a(h:Tbl bits t)(m0:0<=mask)(m1:mask<16):(t.map (xm mask)).Pairwise Disj:=by
 have aD:∀k∈List.range 16,∀t∈[T0,T1,T2],(t.map (xm k)).Pairwise λa b=>a.2 % 2^(min a.1.toNat b.1.toNat)≠b.2 % 2^(min a.1.toNat b.1.toNat):=by decide+kernel
 obtain⟨k,rfl⟩:∃k:Nat,mask=k:=⟨mask.toNat,by lia⟩;have mE:t∈[T0,T1,T2]:=by rcases h with rfl|rfl|⟨rfl,_⟩<;>simp
 exact(aD k (D8.mpr (by lia)) t mE).imp λh=>q4T h
noncomputable def four:List Str:=["small","far","pair","one"]
theorem W5{k:Str}(h:k ≠ "sign"):need k<=3:=by unfold need;rw[Ui h];split<;>(try split)<;>decide
theorem j4:∀{os:List Str}{t:List Nd},os.length=t.length->(List.zipWith (fm mask) os t).map (·.2)=t.map (xm mask)
 | [], [],_=>rfl
 |o::os,n::t,h=>by
  have:=j4 (mask:=mask) (by simpa using h);simp only[Bq,DD,this];rfl
theorem j5:∀{os:List Str}{t:List Nd},os.length=t.length->(List.zipWith (fm mask) os t).map (·.1)=os
 | [], [],_=>rfl
 |o::os,n::t,h=>by
  have:=j5 (mask:=mask) (by simpa using h);simp only[Bq,DD,this];rfl
theorem K3{ks:List Str}(hb:8<=bits/\bits<=32)(h:Tbl bits t)(m0:0<=mask)(m1:mask<16)(hk:ks.Perm four)(ha:aB<cnt bits t)(nU:aB<=4):
  Right bits (List.zipWith (fm mask) (ks.take aB++(["sign"]:List Str)++ks.drop aB) t):=by
 have io:ks.length=4:=hk.length_eq;have gD:(ks.take aB++(["sign"]:List Str)++ks.drop aB).length=t.length:=by
  rw[Q3 h];grind
 have dh:∀k∈ks,k ≠ "sign" := λk mF=>by
  have:k∈four:=hk.mem_iff.mp mF;intro e;subst e;exact absurd this (by decide+kernel)
 have eG:∀m∈List.zipWith (fm mask) (ks.take aB++(["sign"]:List Str)++ks.drop aB) t,∃i o n,(ks.take aB++(["sign"]:List Str)++ks.drop aB)[i]?=some o/\t[i]?=some n/\m=fm mask o n:=λm hm=>by
  obtain⟨i,hi⟩:=List.mem_iff_getElem?.mp hm;rw[List.getElem?_zipWith_eq_some]at hi;obtain⟨o,n,h1,h2,h3⟩:=hi;exact⟨i,o,n,h1,h2,h3.symm⟩
 refine⟨hb,?_,?_,λm hm=>?_,λm hm=>?_,?_⟩
 ·rw[List.length_zipWith,gD,Nat.min_self,Q3 h]
 ·rw[j5 gD]
  have p1:(ks.take aB++(["sign"]:List Str)++ks.drop aB).Perm ("sign" :: (ks.take aB++ks.drop aB)):=by
   rw[DC];exact List.perm_middle
  rw[Rs]at p1;exact p1.trans ((List.Perm.cons _ hk).trans (by decide+kernel))
 ·obtain⟨i,o,n,h1,h2,rfl⟩:=eG m hm
  have hw:=q3Y h n (Dh h2);show 1<=n.1/\n.1<=bits-need o;by_cases ho:o = "sign"
  ·have hi:i=aB:=by
    have hl:(ks.take aB).length=aB:=by simp;lia
    rcases Nat.lt_trichotomy i aB with z|z|z
    ·rw[DC,De (by lia)]at h1
     have:o∈ks:=Rm (Dh h1);exact absurd ho (dh o this)
    ·exact z
    ·rw[Dp (by simp;lia)]at h1
     have:o∈ks:=RQ (Dh h1);exact absurd ho (dh o this)
   subst hi;have:=q1C hb.1 h ha h2;rw[ho];have e7:need "sign" = 7:=by decide+kernel
   rw[e7];lia
  ·have:=W5 ho
   lia
 ·obtain⟨i,o,n,h1,h2,rfl⟩:=eG m hm
  exact⟨D9 _ (RN (qO _)),D5 _ (qO _)⟩
 ·have:=q0a h m0 m1
  rw[<-j4 gD,Be]at this;exact this
noncomputable def L0:List Str:=["small","far","pair","one"]
noncomputable def L1:List Str:=["far","one","small","pair"]
noncomputable def rot(L:List Str)(α:Nat):List Str:=((L++L).drop α).take 4
theorem q20(h:L=L0\/L=L1)(ha:α<4):(rot L α).Perm four:=by
 have aD:∀L∈[L0,L1],∀α∈List.range 4,(rot L α).Perm four:=by decide+kernel
 exact aD L (by rcases h with rfl|rfl<;>simp) α (D8.mpr ha)
structure LInv(bits:Int)(KS:List Str)(i:Nat)(ns:List Nd)(ms:List Mk3):Prop where
 ok:∀n∈ns,NdOk n
 low:∃n∈ns,n.1<=i
 len:ns.length<=1+31*i
 kinds:ms.map (·.1)=KS.take i
 w:∀m∈ms,1<=m.2.1/\m.2.1<=bits-need m.1
 p:∀m∈ms,NdOk m.2
 d:(ns++ms.map (·.2)).Pairwise Disj
structure WInv(i:Nat)(w0:Int)(c:Nd)(ns:List Nd)(ms:List Mk3):Prop where
 cok:NdOk c
 w:w0<=c.1
 ok:∀n∈ns,NdOk n
 low:(∃n∈ns,n.1<=i+1)\/(c.1=w0/\w0<=i)
 len:(ns.length:Int)<=31*i+c.1
 d:(c::(ns++ms.map (·.2))).Pairwise Disj
theorem LInv.pick(h:LInv bits KS i ns ms)(hj:ns[j]?=some n):WInv i n.1 n (ns.eraseIdx j) ms:=by
 have hp:=QF hj;have hn:=Dh hj;have:=h.len;have hok:=h.ok n hn;refine⟨hok,RK _,λm hm=>h.ok m (List.mem_of_mem_eraseIdx hm),?_,?_,?_⟩
 ·obtain⟨m,hm,hw⟩:=h.low
  rcases Dl.mp (hp.mem_iff.mp hm)with rfl|z
  ·exact .inr ⟨rfl,hw⟩
  ·exact .inl ⟨m,z,by lia⟩
 ·have:=hok.1
  grind
 ·exact((hp.append_right _).pairwise_iff λh=>h.symm).mp h.d
theorem WInv.step(h:WInv i w0 c ns ms)(hs:s=0\/s=1)(mD:c.1<=59):WInv i w0 (zM c s) (ns++[zM c (1-s)]) ms:=by
 have my:1-s=0\/1-s=1:=by lia
 obtain⟨dc,dr⟩:=DY.mp h.d;have cw:(zM c s).1=c.1+1:=rfl;refine⟨Kj h.cok mD hs,by have:=h.w;lia,λn hn=>?_,?_,?_,?_⟩
 ·rcases Dr.mp hn with z|z
  ·exact h.ok n z
  ·rw[Dm.mp z];exact Kj h.cok mD my
 ·rcases h.low with⟨n,hn,hw⟩|⟨e,hw⟩
  ·exact .inl ⟨n,Dw _ hn,hw⟩
  ·exact .inl ⟨zM c _,Ds _ (Dm.mpr rfl),by show c.1+1<=_;lia⟩
 ·have:=h.len
  grind
 ·have p1:(zM c s::(ns++[zM c (1-s)]++ms.map (·.2))).Perm (zM c s::zM c (1-s)::(ns++ms.map (·.2))):=by
   refine List.Perm.cons _ ?_;rw[DC];exact List.perm_middle
  refine(p1.pairwise_iff λh=>h.symm).mpr ?_;refine DY.mpr ⟨λn hn=>?_,DY.mpr ⟨λn hn=>QR h.cok (dc n hn),dr⟩⟩;rcases Dl.mp hn with rfl|z
  ·exact qaj (by lia)
  ·exact QR h.cok (dc n z)
theorem WInv.fin(h:WInv i w0 c ns ms)(h0:LInv bits KS i ns0 ms)(hk:KS[i]?=some kind)(hg:c.1=goal)(hw:w0<goal)(h1:1<=goal)(h2:goal<=bits-need kind)(h31:goal<=31):
  LInv bits KS (i+1) ns (ms++[(kind,c)]):=by
 have hl:=h.len;refine⟨h.ok,?_,?_,?_,λm hm=>?_,λm hm=>?_,?_⟩
 ·rcases h.low with⟨n,hn,rT⟩|⟨e,_⟩
  ·exact⟨n,hn,by push_cast;exact rT⟩
  ·lia
 ·lia
 ·rw[Dq,h0.kinds,qD hk];rfl
 ·rcases Dr.mp hm with z|z
  ·exact h0.w m z
  ·rw[Dm.mp z];exact⟨by show 1<=c.1;lia,by show c.1<=bits-need kind;lia⟩
 ·rcases Dr.mp hm with z|z
  ·exact h0.p m z
  ·rw[Dm.mp z];exact h.cok
 ·rw[Dq, <-DC]
  have p1:(ns++ms.map (·.2)++[c]).Perm _:=BB;exact(p1.pairwise_iff λh=>h.symm).mpr h.d
theorem LInv.right(h:LInv bits KS 5 ns ms)(hK:KS.Perm jR)(hb:8<=bits/\bits<=32):Right bits ms:=by
 have hl:KS.length=5:=hK.length_eq;have hk:ms.map (·.1)=KS:=by rw[h.kinds,RH (by lia)]
 refine⟨hb,?_,by rw[hk];exact hK,h.w,λm hm=>⟨(h.p m hm).2.2.1,(h.p m hm).2.2.2⟩,?_⟩
 ·have:=Um List.length hk
  rw[Dg,hl]at this;exact this
 ·have:=(Rx.mp h.d).2.1
  rw[Be]at this;exact this
theorem q6K{α i:Nat}(hb:8<=bits)(hp:(rot L α).Perm four)(hk:(("sign" : Str)::rot L α)[i]?=some kind):(i:Int)<bits-need kind/\kind∈jR/\i<5:=by
 have hl:(rot L α).length=4:=hp.length_eq;cases i with
 |zero=>
  simp at hk;subst hk;have e7:need "sign" = 7:=by  rfl
  rw[e7];exact⟨by lia,by decide+kernel,by lia⟩
 |succ i=>
  simp at hk;have hm:=hp.mem_iff.mp (Dh hk);have hi:=(Dc.mp hk).1;have dh:kind ≠ "sign" := λe=>by subst e;exact absurd hm (by decide+kernel)
  have:=W5 dh;have sub:∀k∈four,k∈jR:=by decide+kernel
  grind
theorem J7{α:Type}[DecidableEq α]:∀{l:List α}{x:α},x∈l->∃j:Nat,l[j]?=some x/\∀m:Nat,m<j->l[m]?≠some x
 | [],_,h=>by cases h
 |y::l,x,h=>by
  by_cases e:y=x
  ·exact⟨0,by simp[e],λm hm=>by lia⟩
  ·have:x∈l:=by
    rcases Dl.mp h with z|z
    ·exact absurd z.symm e
    ·exact z
   obtain⟨j,h1,h2⟩:=J7 this;refine⟨j+1,by simpa using h1,λm hm=>?_⟩;cases m with
   |zero=>simpa using e
   |succ m=>simpa using h2 m (by lia)
theorem OfKind.mem(h:OfKind ms kind m):m∈ms:=by
 obtain⟨rest,e⟩:=h;have:m∈ms.filter (λm=>decide (m.1=kind)):=by rw[e];exact DH
 exact(DB.mp this).1
theorem OfKind.is(h:OfKind ms kind m):m.1=kind:=by
 obtain⟨rest,e⟩:=h;have:m∈ms.filter (λm=>decide (m.1=kind)):=by rw[e];exact DH
 exact Uq (DB.mp this).2
noncomputable def jP(m:Mk3):T:=.tup [.str m.1,.int m.2.1,.int m.2.2]
noncomputable def layT(bits:Int)(ms:List Mk3):T:=.tup [.int bits,.lst (ms.map jP)]
noncomputable def ndT(n:Nd):T:=.tup [.int n.1,.int n.2]
noncomputable def Xi(ks:List Str):T:=.lst (ks.map T.str)
theorem Kf{α:Type}{f:α->T}{xs:List α}{a b:Nat}(h1:a<=b)(h2:b<=xs.length):cutT (xs.map f) (some (a:Int)) (some (b:Int))=((xs.drop a).take (b-a)).map f:=by
 unfold cutT;have e1:HT.sIx (xs.map f).length 0 _=min a (xs.map f).length:=HT.sIx_nat _ _ a;have e2:HT.sIx (xs.map f).length (xs.map f).length _=min b (xs.map f).length:=HT.sIx_nat _ _ b;rw[e1,e2];simp only[Dg];rw[Rr (show a<=xs.length by lia),Rr h2,List.map_take,BS]
theorem ZM{α:Type}{f:α->T}{xs:List α}{a:Nat}(h:a<=xs.length):cutT (xs.map f) none (some (a:Int))=(xs.take a).map f:=by
 unfold cutT;have e1:HT.sIx (xs.map f).length 0 none=0:=rfl;have e2:HT.sIx (xs.map f).length (xs.map f).length _=min a (xs.map f).length:=HT.sIx_nat _ _ a;simp_all
theorem ZN{α:Type}{f:α->T}{xs:List α}{a:Nat}(h:a<=xs.length):cutT (xs.map f) (some (a:Int)) none=(xs.drop a).map f:=by
 unfold cutT;have e1:HT.sIx (xs.map f).length 0 _=min a (xs.map f).length:=HT.sIx_nat _ _ a;have e2:HT.sIx (xs.map f).length (xs.map f).length none=(xs.map f).length:=rfl;rw[e1,e2];simp only[Dg,Rr h];rw[RH (by simp),BS]
theorem atT{α:Type}{f:α->T}{xs:List α}{i:Nat}{x:α}(h:xs[i]?=some x):atI (xs.map f) (i:Int)=some (f x):=jz (by rw[Dy,h];rfl)
noncomputable abbrev kq:Stmt:=top 54
theorem Vi:(["bag","bits","order","rows","some","mask","at","one"]:List Str).Nodup:=by decide+kernel
theorem Vh:(["bag","bits","order","rows","some","mask","at","k"]:List Str).Nodup:=by decide+kernel
def q6v:List U->MM->UK->Prop:=λus M Q=>∃(k:Nat)(o:MO)(bits:Int)(ks:List Str),us=[.m k,.p (.int bits),.p (Xi ks)]/\M[k]?=some o/\BagO o/\ks.Perm four/\(8<=bits/\bits<=32)/\∀(o':MO)(ms:List Mk3),BagO o'->Right bits ms->Q (.p (layT bits ms)) (M.set k o')
theorem q1g(F:Fun Ξ "_law_full_laying" "_law_full_laying" kq f fd)(N:Nms mg)(am:Def P w Ξ mg base "_law_draw" 1 ["bag","many"] (spU XX)):FnOk P w Ξ mg base CX0 2 f fd ["bag","bits","order"] (spU q6v):=by
 exists F.zV, ["bag","bits","order","rows","some","mask","at"],qb (ql (i:=3) nd rfl Wr (qA (qa2 (qA (qa_c (qy (qa2 qa qa)) (qa4 (qy (qa2 qa qa)) (qy (qa2 qa qa)) (qy (qa2 qa qa)) (qy (qa2 qa qa))))) (qA (qa_c (qy (qa2 qa qa)) (qa4 (qy (qa2 qa qa)) (qy (qa2 qa qa)) (qy (qa2 qa qa)) (qy (qa2 qa qa)))))))) (qb (vj (jN PySem.F.slot_list_append PySem.F.type_list_append vQ qv3 (qa1 (qA (qa_c (qy (qa2 qa qa)) (qa4 (qy (qa2 qa qa)) (qy (qa2 qa qa)) (qy (qa2 qa qa)) (qy (qa2 qa qa)))))))) (qb (ql (i:=4) nd rfl Gj (qh (Ua Ξ) qv3 (qf am (Wh hr) (qa2 qv0 (qm qH qa (vz kX (by rfl) N.int qaA (qa1 (ze WD qv1 qa (qo _))))))) (λ_ _=>rfl))) (qb (ql (i:=5) nd rfl Gj (qf am (Wh hr) (qa2 qv0 qa))) (qb (ql (i:=6) nd rfl Wr (qf am (Wh hr) (qa2 qv0 (qE vJ (by rfl) N.len kY (qa1 (jO [false,true,false,false,false,false,false] ["one"] (qY (Ξ:=Ξ) rfl qv4) (λ_ _ _=>(vd (i:=7) Vi rfl Wr)) (λ_ _ _=>xI (qg q4K (qh (Ub Ξ) qv7 qa (λ_ _=>rfl)) (qm vH qv1 qa) (qo _))) (λ_ _ _=>qv7))))))) (qb (ql (i:=2) nd rfl Gj (qm jb (qm jb (vm (Gm Ξ) qv2 zC (vf qv6)) (qA (qa1 qe))) (vm (Gm Ξ) qv2 (vf qv6) zC))) (qc (qi (qy (qa2 qv1 (jO [false,false,true,false,true,true,false] ["k"] (ja rfl N.range (qa1 qa)) (λ_ _ _=>(vd (i:=7) Vh rfl Wr)) (λ_ _ _=>jm) (λ_ _ _=>(qy (qa3 (qh (Ua Ξ) qv2 qv7 (λ_ _=>rfl)) (qh (Ub Ξ) (qh (Ua Ξ) qv4 qv7 (λ_ _=>rfl)) qa (λ_ _=>rfl)) (qm vV (qm q6u (qh (Ub Ξ) (qh (Ua Ξ) qv4 qv7 (λ_ _=>rfl)) qa (λ_ _=>rfl)) qv5) (qm vO qa (qh (Ub Ξ) (qh (Ua Ξ) qv4 qv7 (λ_ _=>rfl)) qa (λ_ _=>rfl))))))))))))))))),(qj (qM (zr (by right)) (qF 3)) (qj (by right) (qj (qM (jK (qk 3) (zB (qq (qk 0) (qq (zu (by right) (by right) (ZY X7 (by right))) qK)))) (qF 4)) (by right))));rintro us M M1 Qu e1 ⟨k,o,bits,ks,rfl,em,hB,hk,hb,post⟩;obtain⟨bz,eM⟩:=VH em;rw[e1.trans eM];nofun;refine⟨by show 2<sizeLine;decide,?_⟩;have hmany:(2:Int)<=2+(if 8<bits then 1 else 0)/\(2:Int)+(if 8<bits then 1 else 0)<=3:=by split<;>lia
 refine vC bz hB (by lia) (log2_lt (by lia) (by lia)) λd o1 d0 d1 B1=>?_;have ip:∃t,atI [U.p (.lst (T0.map ndT)),.p (.lst (T1.map ndT)),.p (.lst (T2.map ndT))] d=some (.p (.lst (t.map ndT)))/\Tbl bits t:=by
  rcases(show d=0\/d=1\/d=2 by lia)with rfl|rfl|rfl
  ·exact⟨T0,rfl,.inl rfl⟩
  ·exact⟨T1,rfl,.inr (.inl rfl)⟩
  ·exact⟨T2,rfl,.inr (.inr ⟨rfl,by split at d1<;>lia⟩)⟩
 obtain⟨t,fY,hT⟩:=ip;refine xM (by simp only[qB,MB_get];rfl) fY ?_;refine vC bz B1 (by decide) (by decide) λmask o2 m0 m1 B2=>?_;have nV:=Q3 hT;nofun;refine zj (by rw[Dg,nV];decide) (λi a7 M'=>M'=MB M k o2 [MO.lst [U.p (.lst (T0.map ndT)),.p (.lst (T1.map ndT)),.p (.lst (T2.map ndT))]]/\a7=((t.take i).filter λn=>decide (n.1<=bits-7)).map ndT) ⟨rfl,rfl⟩ ?_ ?_
 ·rintro i x a7 M' hx _ ⟨rfl,rfl⟩
  obtain⟨n,hn,rfl⟩:∃n,t[i]?=some n/\x=ndT n:=by
   rw[Dy]at hx;cases e:t[i]? with
   |none=>rw[e]at hx;cases hx
   |some n=>rw[e]at hx;cases hx;exact⟨n,rfl,rfl⟩
  nofun;rw[qD hn,D6,Dq];refine ite2 (λhh=>?_) (λhh=>?_)<;>simp[hh]
 ·rintro a7 M' ⟨rfl,rfl⟩
  rw[Dg,DF];nofun;have gz:(((t.filter λn=>decide (n.1<=bits-7)).map ndT).length:Int)=(cnt bits t:Int):=by rw[Dg];rfl
  rw[gz];have hcp:=q4h hb.1 hT;have hc5:cnt bits t<=5:=by
   have:=Ru (λn:Nd=>decide (n.1<=bits-7)) t;rw[nV]at this;exact this
  refine vC bz B2 (by lia) (log2_lt (by lia) (by lia)) λα o3 α0 α1 B3=>?_;obtain⟨aB,rfl⟩:∃j:Nat,α=(j:Int):=⟨α.toNat,by lia⟩;have io:ks.length=4:=hk.length_eq;have nU:aB<=4:=by lia
  unfold Xi;nofun;rw[ZM (by lia),ZN (by lia)];have dq:=K3 (mask:=mask) hb hT m0 m1 hk (by lia) nU;have nz:(ks.take aB++(["sign"]:List Str)++ks.drop aB).length=5:=by simp;lia
  have ij:(ks.take aB).map T.str++[T.str "sign"]++(ks.drop aB).map T.str=(ks.take aB++(["sign"]:List Str)++ks.drop aB).map T.str:=by simp
  refine⟨by simp;exact DS (qV (by lia)),by simp;exact DS (qV (by lia)),JF (by decide) (by decide) ?_⟩;rw[ij];generalize ks.take aB++(["sign"]:List Str)++ks.drop aB=os at dq nz ⊢;refine Yg (by decide) (λi a7 M'=>M'=MB M k o3 [MO.lst [U.p (.lst (T0.map ndT)),.p (.lst (T1.map ndT)),.p (.lst (T2.map ndT))]]/\a7=((List.zipWith (fm mask) os t).take i).map jP) ⟨rfl,rfl⟩ ?_ ?_
  ·rintro i a7 M' hi _ ⟨rfl,rfl⟩
   have rV:i<5:=hi;have nW:os[i]?=some (os[i]'(by lia)):=Df _;have iq:t[i]?=some (t[i]'(by lia)):=Df _;have hw:=q3Y hT _ (Dh iq);have hz:(List.zipWith (fm mask) os t)[i]?=some (fm mask (os[i]'(by lia)) (t[i]'(by lia))):=by
    rw[List.getElem?_zipWith,nW,iq]
   nofun;refine qR (atT nW) ?_;refine qR (atT iq) ?_;nofun;refine qR (atT iq) ?_;nofun;refine qR (atT iq) ?_;nofun;refine⟨⟨by lia,by lia,by decide⟩,?_,?_⟩
   ·rw[DN];exact qO _
   ·rw[qD hz,Dq,DN]
    rfl
  ·rintro a7 M' ⟨rfl,rfl⟩
   have e5:(Int.toNat 5)=(List.zipWith (fm mask) os t).length:=by rw[dq.n]<;>rfl
   rw[e5,DF];nofun;refine⟨VF B3.pur,?_⟩;rw[VG];exact post o3 _ B3 dq
noncomputable abbrev YM:Stmt:=top 55
theorem W6:(["bag","bits","kinds","at","most","free","marks","kind","some","width","pattern","goal","side","turn","node"]:List Str).Nodup:=by decide+kernel
def XW:List U->MM->UK->Prop:=λus M Q=>∃(k:Nat)(o:MO),us=[.m k]/\M[k]?=some o/\BagO o/\∀(o':MO)(bits:Int)(ms:List Mk3),BagO o'->Right bits ms->Q (.p (layT bits ms)) (M.set k o')
noncomputable abbrev Zj(bits:Int):List (Key×U):=[(.inr "sign",.p (.int (bits-7))),(.inr "small",.p (.int (bits-2))),(.inr "one",.p (.int (bits-2))),(.inr "far",.p (.int (bits-3))),(.inr "pair",.p (.int (bits-3)))]
theorem Ga(h:kind∈jR):valU (xC [] (Zj bits)) (.inr kind)=some (.p (.int (bits-need kind))):=by
 have e:xC [] (Zj bits)=Zj bits:=rfl;rw[e];have h':=by simpa[jR]using h
 rcases h' with rfl|rfl|rfl|rfl|rfl<;>rfl
theorem q6a:EqT (n+1) (ndT a) (ndT b) (decide (a=b)):=by
 have h:=EqT.tup (xs:=[.int a.1,.int a.2]) (ys:=[.int b.1,.int b.2]) (e:=λj=>if j=0 then decide _ else decide _) (λj x y hx hy=>by
  match j,hx,hy with
  |0,hx,hy=>
   cases hx;cases hy;have:=EqT.flat (n:=n) (a:=.int a.1) (b:=.int b.1) rfl rfl;exact this
  |1,hx,hy=>
   cases hx;cases hy;have:=EqT.flat (n:=n) (a:=.int a.2) (b:=.int b.2) rfl rfl;exact this
  |j+2,hx,_=>cases hx)
 have e:((List.range (min [T.int a.1,T.int a.2].length [T.int b.1,T.int b.2].length)).all (λj=>if j=0 then decide (a.1=b.1) else decide (a.2=b.2))&&[T.int a.1,T.int a.2].length==[T.int b.1,T.int b.2].length)=decide (a=b):=by
  obtain⟨a1,a2⟩:=a;obtain⟨b1,b2⟩:=b;simp[RX]
 rw[e]at h;exact h
theorem KI(F:Fun Ξ "_law_laying" "_law_laying" YM f fd)(N:Nms mg)(am:Def P w Ξ mg base "_law_draw" 1 ["bag","many"] (spU XX))(bj:Def P w Ξ mg base "_law_full_laying" 2 ["bag","bits","order"] (spU q6v)):FnOk P w Ξ mg base CX0 3 f fd ["bag"] (spU XW):=by
 exists F.zV, ["bag","bits","kinds","at","most","free","marks","kind","some","width","pattern","goal","side","turn"],qb (ql (i:=1) nd rfl Wr (qh (Ua Ξ) (qA (qa_c qa (qa_c qa (qa_c qa (qa_c qa (qa4 qa qa qa (qm qH qa (qf am (Wh hr) (qa2 qv0 qa))))))))) (qf am (Wh hr) (qa2 qv0 qa)) (λ_ _=>rfl))) (qb (ql (i:=2) nd rfl Wr (qm WA (qh (Ua Ξ) (qA (qa2 (qA (qa4 qe qe qe qe)) (qA (qa4 qe qe qe qe)))) (qf am (Wh hr) (qa2 qv0 qa)) (λ_ _=>rfl)) qa)) (qb (ql (i:=3) nd rfl Wr (qf am (Wh hr) (qa2 qv0 qa))) (qb (qI (qg op_eq (qf am (Wh hr) (qa2 qv0 qa)) qa (qo _)) (qc (qi (qf bj (Wh hr) (qa3 qv0 qv1 (vm (Gm Ξ) qv2 (vf qv3) (vf (qm qH qv3 qa))))))) qt) (qb (ql (i:=4) nd rfl Gj (Wc (zx qe (qm vH qv1 qa) (zx qe (qm vH qv1 qa) (zx qe (qm vH qv1 qa) (zx qe (qm vH qv1 qa) (zx qe (qm vH qv1 qa) Wa))))) rfl rfl (λz=>nomatch z) (by decide))) (qb (ql (i:=5) nd rfl Wr (qA (qa1 (qy (qa2 qa qa))))) (qb (ql (i:=6) nd rfl Wr (qA zm)) (qb (z0 PassesOwn.never rfl (qY (Ξ:=Ξ) rfl (qm jb (qA (qa1 qe)) (vm (Gm Ξ) qv2 (vf qv3) (vf (qm qH qv3 qa))))) (vd (i:=7) nd rfl Gj) (qb (q8n (i:=8) [false,false,false,false,true,false,false,true,false,false,false,false,false,false] ["node"] nd rfl rfl (qY (Ξ:=Ξ) rfl qv5) (λ_ _ _=>(vd (i:=14) W6 rfl Wr)) (λ_ _ _=>xI (qg xw (qh (Ub Ξ) (qv 14) qa (λ_ _=>rfl)) (zd (zt hr) qv4 qv7 (λ_ _=>rfl)) (qo _))) (λ_ _ _=>(qv 14))) (qb (vD (qh (Ua Ξ) (qv 8) (qf am (Wh hr) (qa2 qv0 (qE vJ (by rfl) N.len kY (qa1 (qv 8))))) (λ_ _=>rfl)) (V5 (Ξ:=Ξ) (i:=9) (j:=10) rfl nd rfl rfl rfl Wr Wr Wr Wr)) (qb (vj (jN PySem.F.slot_list_remove PySem.F.type_list_remove (KO (Ξ:=Ξ) rfl hr.units) qv5 (qa1 (qy (qa2 (qv 9) (qv 10)))))) (qb (ql (i:=11) nd rfl Wr (qE (qax rfl) (by rfl) N.min q4A (qa2 (zd (zt hr) qv4 qv7 (λ_ _=>rfl)) (qm qH (qv 9) (qh (Ua Ξ) (qA (qa_c qa (qa4 qa qa qa (qm qH qa (qf am (Wh hr) (qa2 qv0 qa)))))) (qf am (Wh hr) (qa2 qv0 qa)) (λ_ _=>rfl)))))) (qb (xZ PassesOwn.never (qg xw (qv 9) qv11 (qo _)) (qb (ql (i:=12) nd rfl Wr (qf am (Wh hr) (qa2 qv0 qa))) (qb (vj (jN PySem.F.slot_list_append PySem.F.type_list_append vQ qv5 (qa1 (qy (qa2 (qm qH (qv 9) qa) (qm qH (qv 10) (qm vO (qm vH qa (qv 12)) (qv 9)))))))) (qb (ql (i:=10) nd rfl Wr (qm qH (qv 10) (qm vO (qv 12) (qv 9)))) (qc (ql (i:=9) nd rfl Wr (qm qH (qv 9) qa))))))) (qc (vj (jN PySem.F.slot_list_append PySem.F.type_list_append vQ qv6 (qa1 (qy (qa3 qv7 (qv 9) (qv 10))))))))))))) (qb (ql (i:=13) nd rfl Wr (qf am (Wh hr) (qa2 qv0 qa))) (qc (qi (qy (qa2 qv1 (qm jb (vm (Gm Ξ) qv6 (vf (qv 13)) zC) (vm (Gm Ξ) qv6 zC (vf (qv 13)))))))))))))))),(qj (by right) (qj (by right) (qj (by right) (qj (by right) (qj (qM (qar (xi Wo (zu (zn λ_ _=>.int _) (qk 1) Wi) (xi Wo (zu (zn λ_ _=>.int _) (qk 1) Wi) (xi Wo (zu (zn λ_ _=>.int _) (qk 1) Wi) (xi Wo (zu (zn λ_ _=>.int _) (qk 1) Wi) (xi Wo (zu (zn λ_ _=>.int _) (qk 1) Wi) q25)))))) (qF 4)) (qj (qM (zr (by right)) (qF 5)) (qj (qM (zr qK) (qF 6)) (qj (QQ (by right) (qF 7) (qj (by right) (qj (by right) (qj (qag (q6A KP (qk 5) (by right))) (by right))))) (by right)))))))));rintro us M M1 Qu e1 ⟨k,o,rfl,em,hB,post⟩;obtain⟨bz,eM⟩:=VH em;rw[e1.trans eM];nofun;refine vC bz hB (by decide) (by decide) λe o1 e0 e1 B1=>?_;nofun;refine vC bz B1 (by decide) (by decide) λd o2 d0 d1 B2=>?_;have ir:∃bits:Int,atI [T.int 8,.int 9,.int 10,.int 12,.int 16,.int 24,.int 32,.int (8+e)] d=some (.int bits)/\8<=bits/\bits<=32:=by
  rcases(show d=0\/d=1\/d=2\/d=3\/d=4\/d=5\/d=6\/d=7 by lia)with rfl|rfl|rfl|rfl|rfl|rfl|rfl|rfl
  ·exact⟨_,rfl,by decide,by decide⟩
  ·exact⟨_,rfl,by decide,by decide⟩
  ·exact⟨_,rfl,by decide,by decide⟩
  ·exact⟨_,rfl,by decide,by decide⟩
  ·exact⟨_,rfl,by decide,by decide⟩
  ·exact⟨_,rfl,by decide,by decide⟩
  ·exact⟨_,rfl,by decide,by decide⟩
  ·exact⟨_,rfl,by lia,by lia⟩
 obtain⟨bits,iW,i6,mG⟩:=ir;refine qR iW ?_;nofun;refine vC bz B2 (by decide) (by decide) λd2 o3 rW rX B3=>?_;obtain⟨L,mH,hL⟩:∃L,atI [Xi L0,Xi L1] d2=some (Xi L)/\(L=L0\/L=L1):=by
  rcases(show d2=0\/d2=1 by lia)with rfl|rfl
  ·exact⟨L0,rfl,.inl rfl⟩
  ·exact⟨L1,rfl,.inr rfl⟩
 refine qR mH ?_;nofun;have hL8:(L++L).length=8:=by rcases hL with rfl|rfl<;>rfl
 refine⟨L.map T.str,2,rfl,rfl,by decide,by decide,(by rcases hL with rfl|rfl<;>(show 4*2<=sizeLine;decide)),?_⟩;have iu:(List.replicate (2:Int).toNat (L.map T.str)).flatten=(L++L).map T.str:=by rcases hL with rfl|rfl<;>rfl
 rw[iu];refine vC bz B3 (by decide) (by decide) λα o4 α0 α1 B4=>?_;obtain⟨aB,rfl⟩:∃j:Nat,α=(j:Int):=⟨α.toNat,by lia⟩;have ha:aB<4:=by lia
 have gE:=q20 (α:=aB) hL ha;have mI:(rot L aB).length=4:=gE.length_eq;have gb:cutT ((L++L).map T.str) (some (aB:Int)) (some ((aB:Int)+4))=(rot L aB).map T.str:=by
  have e4:(aB:Int)+4=((aB+4:Nat):Int):=by lia
  rw[e4,Kf (by lia) (by lia),show aB+4-aB=4 by lia];rfl
 nofun;refine vC bz B4 (by decide) (by decide) λd4 o5 rY rZ B5=>?_;nofun;rw[gb];refine ite2 (λ_=>?_) (λ_=>?_)
 ·refine⟨k,o5,bits,rot L aB,rfl,q32 bz,B5,gE,⟨i6,mG⟩,λo6 ms B6 hR=>?_⟩
  rw[Z9 bz];nofun;refine⟨VF B6.pur,?_⟩;rw[VG];exact post o6 bits ms B6 hR
 simp only[q3u];nofun;refine⟨Zj bits,rfl,by show 5<=15;decide,?_⟩;refine⟨by simp[mI];exact DS (qV (by decide)),?_⟩;refine VM (ts:=((("sign" : Str)::rot L aB).map T.str)) (λi ρ M'=>∃(o:MO)(ns:List Nd)(ms:List Mk3)(x7 x8 x9 gf gg eL iw:Option U),ρ=[some (.m k),some (.p (.int bits)),some (.p (.lst ((L++L).map T.str))),some (.p (.int aB)),some (.m (M.length+0)),some (.m (M.length+1)),some (.m (M.length+2)),x7,x8,x9,gf,gg,eL,iw]/\M'=MB M k o [.dK (xC [] (Zj bits)),.lst ((ns.map ndT).map U.p),.lst ((ms.map jP).map U.p)]/\BagO o/\LInv bits (("sign" : Str)::rot L aB) i ns ms) ?_ ?_ ?_
 ·refine⟨o5, [(0,0)], [],_,_,_,_,_,_,_,rfl,rfl,B5,⟨?_,⟨(0,0),by simp,by decide⟩,by decide,rfl,(λ_ h=>nomatch h),(λ_ h=>nomatch h),by simp⟩⟩
  intro n hn;rw[Dm.mp hn];exact⟨by decide,by decide,by decide,by decide⟩
 ·rintro i y ρ M' hi ⟨o,ns,ms,x7,x8,x9,gf,gg,eL,iw,rfl,rfl,B6,LI⟩
  obtain⟨kind,nX,rfl⟩:=q02 hi;obtain⟨hlow,iX,rV⟩:=q6K i6 gE nX;have iy:=Ga (bits:=bits) iX;have hneed:=vY kind;have hnl:=LI.len;nofun;refine xN (zO rfl) ?_;refine xT (by rw[Dg];exact DS (qV (by lia))) (λj a7 M2=>M2=MB M k o [.dK (xC [] (Zj bits)),.lst ((ns.map ndT).map U.p),.lst ((ms.map jP).map U.p)]/\a7=((ns.take j).filter λn=>decide (n.1<bits-need kind)).map ndT) ⟨rfl,rfl⟩ (λj a7 M2 zz=>by obtain⟨e,_⟩:=zz;rw[e];exact zO rfl) ?_ ?_
  ·rintro j y a7 M2 hj _ ⟨rfl,rfl⟩
   obtain⟨n,hn,rfl⟩:=q02 hj;nofun;refine Kd (zO rfl) iy ?_;nofun;rw[qD hn,D6,Dq];refine ite2 (λhh=>?_) (λhh=>?_)<;>simp[hh]
  ·rintro a7 M2 ⟨rfl,rfl⟩
   rw[Dg,DF];generalize fP:(ns.filter λn=>decide (n.1<bits-need kind))=fs;have hpos:0<fs.length:=by
    obtain⟨n,hn,hw⟩:=LI.low;have:n∈fs:=by rw[<-fP];exact DB.mpr ⟨hn,by simp;lia⟩
    exact List.length_pos_of_mem this
   have se:fs.length<=200:=by
    rw[<-fP];have:=Ru (λn:Nd=>decide (n.1<bits-need kind)) ns;lia
   nofun;rw[Dg];refine vC bz B6 (by lia) (log2_lt (by lia) (by lia)) λd o7 d0 d1 B7=>?_;obtain⟨jj,rfl⟩:∃j:Nat,d=(j:Int):=⟨d.toNat,by lia⟩;have mJ:fs[jj]?=some (fs[jj]'(by lia)):=Df _;generalize fs[jj]'(by lia)=n at mJ;have iY:=DB.mp (show n∈ns.filter λn=>decide (n.1<bits-need kind) by rw[fP];exact Dh mJ);have hnw:n.1<bits-need kind:=by simpa using iY.2
   have mK:=LI.ok n iY.1;refine qR (atT mJ) ?_;nofun;obtain⟨j,hj,dL⟩:=J7 iY.1;have gF:=(Dc.mp hj).1;refine⟨ns.map ndT,ndT n,j,λm=>decide (ns[m]?=some n),rfl,rfl,by rw[Dg];exact gF,by simp[hj],λm hm=>by simp[dL m hm],λm z hm hz=>?_,?_⟩
   ·obtain⟨nm,sf,rfl⟩:=q02 hz
    have e9:decide (ns[m]?=some n)=decide (nm=n):=by
     rw[sf];by_cases e:nm=n<;>simp[e]
    show EqT 20 _ _ (decide (ns[m]?=some n));rw[e9];exact q6a
   have W0:=LI.pick hj;rw[<-Zl];nofun;refine Kd (zO rfl) iy ?_;nofun;refine vC bz B7 (by decide) (by decide) λe o8 e0 e1 B8=>?_;nofun;refine vC bz B8 (by decide) (by decide) λd5 o9 sg sj B9=>?_;have mL:∃δ:Int,atI [T.int 1,.int 1,.int 2,.int 3,.int (1+e)] d5=some (.int δ)/\1<=δ/\δ<=30:=by
    rcases(show d5=0\/d5=1\/d5=2\/d5=3\/d5=4 by lia)with rfl|rfl|rfl|rfl|rfl
    ·exact⟨_,rfl,by decide,by decide⟩
    ·exact⟨_,rfl,by decide,by decide⟩
    ·exact⟨_,rfl,by decide,by decide⟩
    ·exact⟨_,rfl,by decide,by decide⟩
    ·exact⟨_,rfl,by lia,by lia⟩
   obtain⟨δ,so,δ0,δ1⟩:=mL;refine qR so ?_;nofun;obtain⟨g,sr,hg1,hg2⟩:∃g:Int,(if n.1+δ<bits-need kind then n.1+δ else bits-need kind)=g/\n.1<g/\g<=bits-need kind:=⟨_,rfl,by split<;>lia,by split<;>lia⟩;rw[sr];have hn0':=mK.1;refine⟨λm ρ M'=>∃(o:MO)(c:Nd)(fC:List Nd)(eL:Option U),m=(g-c.1).toNat/\ρ=[some (.m k),some (.p (.int bits)),some (.p (.lst ((L++L).map T.str))),some (.p (.int aB)),some (.m (M.length+0)),some (.m (M.length+1)),some (.m (M.length+2)),some (.p (.str kind)),some (.p (.lst (fs.map ndT))),some (.p (.int c.1)),some (.p (.int c.2)),some (.p (.int g)),eL,iw]/\M'=MB M k o [.dK (xC [] (Zj bits)),.lst ((fC.map ndT).map U.p),.lst ((ms.map jP).map U.p)]/\BagO o/\c.1<=g/\WInv i n.1 c fC ms,⟨_,o9,n,ns.eraseIdx j,_,rfl,rfl,rfl,B9,by lia,W0⟩,?_⟩;rintro m ρ M' ⟨su,c,fC,y12,rfl,rfl,rfl,nY,hcg,WI⟩;have mM:=WI.cok;have iK:=WI.len;have hww:=WI.w;have hc0:=mM.1;nofun;refine ite2 (λbw=>?_) (λm9=>?_)
   ·refine⟨λsv ff=>∃m',m'<(g-c.1).toNat/\∃(o:MO)(c:Nd)(fC:List Nd)(eL:Option U),m'=(g-c.1).toNat/\sv=[some (.m k),some (.p (.int bits)),some (.p (.lst ((L++L).map T.str))),some (.p (.int aB)),some (.m (M.length+0)),some (.m (M.length+1)),some (.m (M.length+2)),some (.p (.str kind)),some (.p (.lst (fs.map ndT))),some (.p (.int c.1)),some (.p (.int c.2)),some (.p (.int g)),eL,iw]/\ff=MB M k o [.dK (xC [] (Zj bits)),.lst ((fC.map ndT).map U.p),.lst ((ms.map jP).map U.p)]/\BagO o/\c.1<=g/\WInv i n.1 c fC ms,λ_ _ h=>h,?_⟩
    nofun;refine vC bz nY (by decide) (by decide) λsd sA s0 s1 sB=>?_;nofun;refine⟨⟨by lia,by lia,by lia⟩,?_⟩;nofun;refine⟨by rw[Dg,Dg];exact qV (by lia),?_⟩;refine⟨⟨by lia,by lia,by lia⟩,?_⟩;refine⟨(g-(c.1+1)).toNat,by lia,sA,zM c sd,fC++[zM c (1-sd)],_,rfl,rfl,?_,sB,by show c.1+1<=g;lia,WI.step (by lia) (by lia)⟩;rw[Dq,Dq];rfl
   ·have md:c.1=g:=by lia
    nofun;have h2:=Um List.length LI.kinds;rw[Dg,D0]at h2;refine⟨by rw[Dg,Dg];exact qV (by lia),?_⟩;refine⟨su,fC,ms++[(kind,c)],_,_,_,_,_,_,_,rfl,?_,nY,WI.fin LI nX md (by lia) (by lia) (by lia) (by lia)⟩;rw[Dq,Dq];rfl
 ·rintro ρ M' ⟨o,ns,ms,x7,x8,x9,gf,gg,eL,iw,rfl,rfl,B6,LI⟩
  have h5:((("sign" : Str)::rot L aB).map T.str).length=5:=by simp[mI]
  rw[h5]at LI;have sC:(("sign" : Str)::rot L aB).Perm jR:=(List.Perm.cons _ gE).trans (by decide+kernel);have hR:=LI.right sC ⟨i6,mG⟩;have mO:=hR.n;nofun;refine vC bz B6 (by decide) (by decide) λtu o7 t0 t1 B7=>?_;obtain⟨tn,rfl⟩:∃j:Nat,tu=(j:Int):=⟨tu.toNat,by lia⟩;nofun;refine q2z (zO rfl) ?_;refine q2z (zO rfl) ?_;rw[ZN (by lia),ZM (by lia)];nofun;have pm:ms.Perm (ms.drop tn++ms.take tn):=by
   have:=BB (l₁:=ms.take tn) (l₂:=ms.drop tn);rw[Rs]at this;exact this
  refine⟨by simp;exact DS (qV (by lia)),VF B7.pur,?_⟩;rw[VG, <-Dq];exact post o7 bits _ B7 (hR.of_perm pm)
def Zz:List T->(T->Prop)->Prop:=λts Q=>∃(bits:Int)(ms:List Mk3)(kind:Str)(m:Mk3),ts=[layT bits ms,.str kind]/\ms.length<=900/\OfKind ms kind m/\Q (jP m)
def ZB:List T->(T->Prop)->Prop:=λts Q=>∃(bits:Int)(ms:List Mk3)(kind:Str)(m:Mk3),ts=[layT bits ms,.str kind]/\ms.length<=900/\OfKind ms kind m/\Q (.int (bits-m.2.1))
noncomputable abbrev Jy:Stmt:=top 8
theorem KM:(["laying","kind","mark"]:List Str).Nodup:=by decide+kernel
theorem Zb(F:Fun Ξ "mark_for" "mark_for" Jy f fd):FnOk P w Ξ mg base CX0 1 f fd ["laying","kind"] (spP Zz):=by
 exists F.zP, ["laying","kind"],qc (qi (qh (Ua Ξ) (jO [false,true] ["mark"] (qY (Ξ:=Ξ) rfl (qh (Ub Ξ) qv0 qa (λ_ _=>rfl))) (λ_ _ _=>(vd (i:=2) KM rfl Wr)) (λ_ _ _=>xI (qg op_eq (qh (Ub Ξ) qv2 qa (λ_ _=>rfl)) qv1 (qo _))) (λ_ _ _=>qv2)) qa (λ_ _=>rfl)));rintro ts Qt ⟨bits,ms,kind,m,rfl,hl,⟨rest,hm⟩,q⟩;nofun;refine zj (by rw[Dg];exact DS (qV (by lia))) (λi a7 M'=>M'=[]/\a7=((ms.take i).filter λm=>decide (m.1=kind)).map jP) ⟨rfl,rfl⟩ ?_ ?_
 ·rintro i x a7 M' hx _ ⟨rfl,rfl⟩
  obtain⟨n,hn,rfl⟩:=q02 hx;nofun;rw[qD hn,D6,Dq];refine ite2 (λhh=>?_) (λhh=>?_)<;>simp[hh]
 ·rintro a7 M' ⟨rfl,rfl⟩
  rw[Dg,DF,hm];nofun;exact q
noncomputable abbrev q7q:Stmt:=top 57
theorem q3N:(["laying","kind","one"]:List Str).Nodup:=by decide+kernel
theorem Zc(F:Fun Ξ "_law_mark" "_law_mark" q7q f fd):FnOk P w Ξ mg base CX0 1 f fd ["laying","kind"] (spP Zz):=by
 exists F.zP, ["laying","kind"],qc (qi (qh (Ua Ξ) (jO [false,true] ["one"] (qY (Ξ:=Ξ) rfl (qh (Ub Ξ) qv0 qa (λ_ _=>rfl))) (λ_ _ _=>(vd (i:=2) q3N rfl Wr)) (λ_ _ _=>xI (qg op_eq (qh (Ub Ξ) qv2 qa (λ_ _=>rfl)) qv1 (qo _))) (λ_ _ _=>qv2)) qa (λ_ _=>rfl)));rintro ts Qt ⟨bits,ms,kind,m,rfl,hl,⟨rest,hm⟩,q⟩;nofun;refine zj (by rw[Dg];exact DS (qV (by lia))) (λi a7 M'=>M'=[]/\a7=((ms.take i).filter λm=>decide (m.1=kind)).map jP) ⟨rfl,rfl⟩ ?_ ?_
 ·rintro i x a7 M' hx _ ⟨rfl,rfl⟩
  obtain⟨n,hn,rfl⟩:=q02 hx;nofun;rw[qD hn,D6,Dq];refine ite2 (λhh=>?_) (λhh=>?_)<;>simp[hh]
 ·rintro a7 M' ⟨rfl,rfl⟩
  rw[Dg,DF,hm];nofun;exact q
noncomputable abbrev V0:Stmt:=top 9
theorem Vd(F:Fun Ξ "load_bits" "load_bits" V0 f fd)(aL:Def P w Ξ mg base "mark_for" 1 ["laying","kind"] (spP Zz)):FnOk P w Ξ mg base CX0 2 f fd ["laying","kind"] (spP ZB):=by
 exists F.zP, ["laying","kind"],qc (qi (qm vH (qh (Ub Ξ) qv0 qa (λ_ _=>rfl)) (qh (Ub Ξ) (qf aL (Wh hr) (qa2 qv0 qv1)) qa (λ_ _=>rfl))));rintro ts Qt ⟨bits,ms,kind,m,rfl,hl,hm,q⟩;nofun;refine⟨bits,ms,kind,m,rfl,hl,hm,?_⟩;nofun;exact q
noncomputable abbrev q5V:Stmt:=top 58
theorem Zd(F:Fun Ξ "_law_load" "_law_load" q5V f fd)(cF:Def P w Ξ mg base "_law_mark" 1 ["laying","kind"] (spP Zz)):FnOk P w Ξ mg base CX0 2 f fd ["laying","kind"] (spP ZB):=by
 exists F.zP, ["laying","kind"],qc (qi (qm vH (qh (Ub Ξ) qv0 qa (λ_ _=>rfl)) (qh (Ub Ξ) (qf cF (Wh hr) (qa2 qv0 qv1)) qa (λ_ _=>rfl))));rintro ts Qt ⟨bits,ms,kind,m,rfl,hl,hm,q⟩;nofun;refine⟨bits,ms,kind,m,rfl,hl,hm,?_⟩;nofun;exact q
noncomputable abbrev JA:Stmt:=top 6
theorem KN:(["marks","word","kind","width","pattern"]:List Str).Nodup:=by decide+kernel
def J3:List T->(T->Prop)->Prop:=λts Q=>∃(ms:List Mk3)(a8:Int),ts=[.lst (ms.map jP),.int a8]/\Wd ms/\ms.length<=900/\Q (Xi ((ms.filter (on a8)).map (·.1)))
theorem Ze(F:Fun Ξ "kinds_on" "kinds_on" JA f fd):FnOk P w Ξ mg base CX0 1 f fd ["marks","word"] (spP J3):=by
 exists F.zP, ["marks","word"],qc (qi (jO [false,true] ["kind","width" ,"pattern" ] (qY (Ξ:=Ξ) rfl qv0) (λ_ _ _=>(Wb (Ξ:=Ξ) (i:=2) (j:=3) (k:=4) rfl KN rfl rfl rfl rfl Wr Wr Wr Gj Gj Gj)) (λ_ _ _=>xI (qg op_eq (qm vV qv1 (qm vO qa qv3)) qv4 (qo _))) (λ_ _ _=>qv2)));rintro ts Qt ⟨ms,a8,rfl,hw,hl,q⟩;nofun;refine zj (by rw[Dg];exact DS (qV (by lia))) (λi a7 M'=>M'=[]/\a7=(((ms.take i).filter (on a8)).map (·.1)).map T.str) ⟨rfl,rfl⟩ ?_ ?_
 ·rintro i x a7 M' hx _ ⟨rfl,rfl⟩
  obtain⟨m,hm,rfl⟩:=q02 hx;have eV:=hw m (Dh hm);nofun;refine⟨⟨by lia,by lia,by decide⟩,?_,?_⟩
  ·rw[DN];exact qO _
  rw[qD hm,D6,Dq,Dq,DN];refine ite2 (λhh=>?_) (λhh=>?_)<;>simp[on,hh]
 ·rintro a7 M' ⟨rfl,rfl⟩
  rw[Dg,DF];nofun;exact q
noncomputable abbrev YK:Stmt:=top 7
noncomputable def xK(a8:Int)(ms:List Mk3):T:=match ms.filter (on a8) with
 | []=>.non
 |m::_=>.str m.1
def ju:List T->(T->Prop)->Prop:=λts Q=>∃(bits:Int)(ms:List Mk3)(a8:Int),ts=[layT bits ms,.int a8]/\Wd ms/\ms.length<=900/\Q (xK a8 ms)
theorem XC(F:Fun Ξ "mark_of" "mark_of" YK f fd)(cf:Def P w Ξ mg base "kinds_on" 1 ["marks","word"] (spP J3)):FnOk P w Ξ mg base CX0 2 f fd ["laying","word"] (spP ju):=by
 exists F.zP, ["laying","word","kinds"],qb (ql (i:=2) nd rfl Wr (qf cf (Wh hr) (qa2 (qh (Ub Ξ) qv0 qa (λ_ _=>rfl)) qv1))) (qc (qi (qZ (V3 (Ξ:=Ξ) rfl qv2 (λ_=>rfl)) (qh (Ua Ξ) qv2 qa (λ_ _=>rfl)) vN))),(qj (by right) (vS (q1Q (q31 (qk 2)) (by right) (ce_c .non))));rintro ts Qt ⟨bits,ms,a8,rfl,hw,hl,q⟩;nofun;refine⟨ms,a8,rfl,hw,hl,?_⟩;unfold xK at q;unfold Xi;cases e:ms.filter (on a8) with
 |nil=>
  rw[e]at q;simp only[uTru];nofun;refine⟨false,rfl,?_⟩;nofun;exact q
 |cons m r=>
  rw[e]at q;simp only[uTru];nofun;refine⟨true,rfl,?_⟩;nofun;exact q
noncomputable abbrev YL:Stmt:=top 26
def XV:List T->(T->Prop)->Prop:=λts Q=>∃(bits:Int)(ms:List Mk3)(a8:Int)(kind:Str)(m:Mk3),ts=[layT bits ms,.int a8,.str kind]/\ms.length<=900/\OfKind ms kind m/\0<=m.2.1/\Q (.int (a8 / 2^m.2.1.toNat))
theorem XD(F:Fun Ξ "load_of" "load_of" YL f fd)(aL:Def P w Ξ mg base "mark_for" 1 ["laying","kind"] (spP Zz)):FnOk P w Ξ mg base CX0 2 f fd ["laying","word","kind"] (spP XV):=by
 exists F.zP, ["laying","word","kind"],qc (qi (qm Wz qv1 (qh (Ub Ξ) (qf aL (Wh hr) (qa2 qv0 qv2)) qa (λ_ _=>rfl))));rintro ts Qt ⟨bits,ms,a8,kind,m,rfl,hl,hm,h0,q⟩;nofun;refine⟨bits,ms,kind,m,rfl,hl,hm,?_⟩;nofun;exact⟨h0,q⟩
noncomputable abbrev YJ:Stmt:=top 27
def GS:List T->(T->Prop)->Prop:=λts Q=>∃(bits:Int)(ms:List Mk3)(kind:Str)(load:Int)(m:Mk3),ts=[layT bits ms,.str kind,.int load]/\ms.length<=900/\OfKind ms kind m/\0<=m.2.1/\m.2.1<=1000/\load.natAbs<2^64/\Q (.int (load*2^m.2.1.toNat+m.2.2))
theorem KH(F:Fun Ξ "marked" "marked" YJ f fd)(aL:Def P w Ξ mg base "mark_for" 1 ["laying","kind"] (spP Zz)):FnOk P w Ξ mg base CX0 2 f fd ["laying","kind","load"] (spP GS):=by
 exists F.zP, ["laying","kind","load","mark"],qb (ql (i:=3) nd rfl Wr (qf aL (Wh hr) (qa2 qv0 qv1))) (qc (qi (qm qH (qm vO qv2 (qh (Ub Ξ) qv3 qa (λ_ _=>rfl))) (qh (Ub Ξ) qv3 qa (λ_ _=>rfl)))));rintro ts Qt ⟨bits,ms,kind,load,m,rfl,hl,hm,h0,h1,h2,q⟩;nofun;refine⟨bits,ms,kind,m,rfl,hl,hm,?_⟩;nofun;refine⟨⟨h0,by lia,h2⟩,?_⟩;nofun;exact q
noncomputable abbrev Jx:Stmt:=top 28
noncomputable def j9(s load:Int):Int:=if 2^(s-1).toNat<=load then load-2^s.toNat else load
def JY:List T->(T->Prop)->Prop:=λts Q=>∃(s load:Int),ts=[.int s,.int load]/\1<=s/\s<=1000/\Q (.int (j9 s load))
theorem Za(F:Fun Ξ "small_of" "small_of" Jx f fd):FnOk P w Ξ mg base CX0 1 f fd ["bits","load"] (spP JY):=by
 exists F.zP, ["bits","load"],qc (qi (qZ (qg q0C qv1 (qm vO qa (qm vH qv0 qa)) (qo _)) (qm vH qv1 (qm vO qa qv0)) qv1));rintro ts Qt ⟨sb,load,rfl,h0,h1,q⟩;nofun;unfold j9 at q;refine⟨⟨by lia,by lia,by decide⟩,?_⟩;rw[DN];refine ite2 (λhh=>?_) (λhh=>?_)
 ·rw[Ul hh]at q
  refine⟨⟨by lia,by lia,by decide⟩,?_⟩;rw[DN];exact q
 ·rw[Ui hh]at q
  exact q
theorem Zi:∀{ms:List Mk3}{m m':Mk3},(ms.map (·.1)).Nodup->m∈ms->m'∈ms->m.1=m'.1->m=m'
 | [],_,_,_,h,_,_=>nomatch h
 |x::ms,m,m',hn,h,h',e=>by
  obtain⟨n1,n2⟩:=DJ.mp hn;rcases Dl.mp h with z|h
  ·rcases Dl.mp h' with z'|h'
   ·rw[z,z']
   ·exact absurd (DL.mpr ⟨m',h',by rw[<-e,z]⟩) n1
  ·rcases Dl.mp h' with z'|h'
   ·exact absurd (DL.mpr ⟨m,h,by rw[e,z']⟩) n1
   ·exact Zi n2 h h' e
theorem Right.ofKind(r:Right bits ms)(hm:m∈ms):OfKind ms m.1 m:=by
 have hk:=r.k.mem_iff.mp (DL.mpr ⟨m,hm,rfl⟩);obtain⟨m',h'⟩:=r.kind hk;have nd:=r.k.nodup_iff.mpr (by decide);have:m'=m:=Zi nd h'.mem hm h'.is;rw[<-this]at h' ⊢;exact h'
noncomputable def three3:List Str:=["none","no","yes"]
theorem Xg{j:Nat}(h:three3[j]?=some t):∀m,m<j->three3[m]?≠some t:=by
 have hj:j<3:=(Dc.mp h).1;intro m hm;rcases(show j=1\/j=2 by lia)with rfl|rfl
 ·have:m=0:=by lia
  subst this;simp[three3]at h ⊢;subst h;decide
 ·simp[three3]at h
  subst h;rcases(show m=0\/m=1 by lia)with rfl|rfl<;>simp<;>decide
noncomputable def xy(bits:Int)(m:Mk3)(load:Int):Int:=load % 2^(bits-m.2.1).toNat*2^m.2.1.toNat+m.2.2
noncomputable abbrev Jv:Stmt:=top 29
noncomputable def Yb(bits:Int)(m:Mk3)(load:Int):T:=if m.1 = "small" then .int (j9 (bits-m.2.1) load) else if m.1 = "one" then(if load<3 then .str (three3.getD load.toNat "none") else .non) else if m.1 = "sign" /\ 128<=load then .non else .tup [.str m.1,.int load]
noncomputable def j6(bits:Int)(ms:List Mk3)(a8:Int):T:=match ms.filter (on a8) with
 | []=>.non
 |m::_=>Yb bits m (a8 / 2^m.2.1.toNat)
def JU:List T->(T->Prop)->Prop:=λts Q=>∃(bits:Int)(ms:List Mk3)(a8:Int),ts=[layT bits ms,.int a8]/\Right bits ms/\0<=a8/\Q (j6 bits ms a8)
theorem V9(F:Fun Ξ "worth_of" "worth_of" Jv f fd)(N:Nms mg)(T3:Tup3 Ξ mg "THREE" three "none" "no" "yes")(dv:GInt mg "SIGNS" 128)(ay:Def P w Ξ mg base "mark_of" 2 ["laying","word"] (spP ju))(bu:Def P w Ξ mg base "load_of" 2 ["laying","word","kind"] (spP XV))(cg:Def P w Ξ mg base "small_of" 1 ["bits","load"] (spP JY))(ak:Def P w Ξ mg base "load_bits" 2 ["laying","kind"] (spP ZB)):FnOk P w Ξ mg base CX0 3 f fd ["laying","word"] (spP JU):=by
 exists F.zP, ["laying","word","kind","load"],qb (ql (i:=2) nd rfl Wr (qf ay (Wh hr) (qa2 qv0 qv1))) (qb (qI (qg JM qv2 vN (qo _)) (qc (qi vN)) qt) (qb (ql (i:=3) nd rfl Wr (qf bu (Wh hr) (qa3 qv0 qv1 qv2))) (qb (qI (qg op_eq qv2 qe (qo _)) (qc (qi (qf cg (Wh hr) (qa2 (qf ak (Wh hr) (qa2 qv0 qv2)) qv3)))) qt) (qb (qI (qg op_eq qv2 qe (qo _)) (qc (qi (qZ (qg xw qv3 (qE (K7 (Ξ:=Ξ) rfl) (by rfl) N.len kY (qa1 (Xw (v:=.ref three) rfl T3.mg rfl))) (qo _)) (qh (Ub Ξ) (Xw (v:=.ref three) rfl T3.mg rfl) qv3 (λ_ _=>rfl)) vN))) qt) (qb (qI (V2 (QD (qg op_eq qv2 qe (qo _)) (kr (qg q0C qv3 (zI dv rfl) (qo _))))) (qc (qi vN)) qt) (qc (qi (qy (qa2 qv2 qv3))))))))),(qj (by right) (qj (by right) (qj (by right) (qj (by right) (qj (xh (by right) (vS (q1Q (xR (zu (by right) (qk 3) (q3x T3.kt))) (q78 T3.kt (YC [_,_,_]) (qk 3)) (ce_c .non))) vG) (by right))))));rintro ts Qt ⟨bits,ms,a8,rfl,hR,sD,q⟩;have mG:=hR.b;have mO:=hR.n;nofun;refine⟨bits,ms,a8,rfl,hR.wd,by lia,?_⟩;unfold j6 at q;unfold xK;cases e:ms.filter (on a8) with
 |nil=>
  rw[e]at q;nofun;exact q
 |cons m r=>
  rw[e]at q;have aI:m∈ms:=(DB.mp (by rw[e];exact DH)).1;have iZ:=hR.ofKind aI;have eV:=hR.w m aI;have cA:=vY m.1;simp only at q;generalize hld:a8 / 2^m.2.1.toNat=load at q;have ic:0<=load:=by rw[<-hld];exact Int.ediv_nonneg sD (BC (qO _))
  unfold Yb at q;nofun;refine⟨bits,ms,a8,m.1,m,rfl,by lia,iZ,by lia,?_⟩;rw[hld];nofun;refine ite2 (λh1=>?_) (λh1=>?_)
  ·rw[Ul h1]at q
   refine⟨bits,ms,m.1,m,rfl,by lia,iZ,?_⟩;nofun;refine⟨bits-m.2.1,load,rfl,by lia,by lia,?_⟩;nofun;exact q
  rw[Ui h1]at q;refine ite2 (λh2=>?_) (λh2=>?_)
  ·rw[Ul h2]at q
   refine ite2 (λh3=>?_) (λh3=>?_)
   ·rw[Ul (show load<3 by lia)]at q
    rcases(show load=0\/load=1\/load=2 by lia)with rfl|rfl|rfl
    ·exact⟨_,rfl,q⟩
    ·exact⟨_,rfl,q⟩
    ·exact⟨_,rfl,q⟩
   ·rw[Ui (show ¬load<3 by lia)]at q
    exact q
  rw[Ui h2]at q;refine ite2 (λh3=>?_) (λh3=>?_)
  ·refine ite2 (λh4=>?_) (λh4=>?_)
   ·rw[Ul ⟨h3,h4⟩]at q
    exact q
   ·rw[Ui (λz=>h4 z.2)]at q
    nofun;exact q
  ·rw[Ui (λz=>h3 z.1)]at q
   nofun;exact q
noncomputable abbrev YE:Stmt:=top 30
inductive WorthT:T->Str->Int->Prop
 |int (n:Int):WorthT (.int n) "small" n
 |one {t:Str}{j:Nat} (h:three3[j]?=some t):WorthT (.str t) "one" j
 |tup {kind:Str} (load:Int):WorthT (.tup [.str kind,.int load]) kind load
def xO:List T->(T->Prop)->Prop:=λts Q=>∃(bits:Int)(ms:List Mk3)(t:T)(kind:Str)(load:Int)(m:Mk3),ts=[layT bits ms,t]/\ms.length<=900/\WorthT t kind load/\OfKind ms kind m/\0<=m.2.1/\0<=bits-m.2.1/\bits<=60/\((∃n,t=.int n)\/(0<=load/\load<2^(bits-m.2.1).toNat))/\Q (.int (xy bits m load))
theorem q5c{s:Int}(h:s<=60):(2:Int)^s.toNat<=2^60:=by
 have:_^s.toNat<=2^60:=Ra (by decide) (by lia);exact_mod_cast this
theorem XB(F:Fun Ξ "word_of" "word_of" YE f fd)(N:Nms mg)(T3:Tup3 Ξ mg "THREE" three "none" "no" "yes")(bT:Def P w Ξ mg base "marked" 2 ["laying","kind","load"] (spP GS))(ak:Def P w Ξ mg base "load_bits" 2 ["laying","kind"] (spP ZB)):FnOk P w Ξ mg base CX0 3 f fd ["laying","worth"] (spP xO):=by
 exists F.zP, ["laying","worth"],qb (qI (zg (qE (Uc Ξ) (by rfl) N.isinstance vi (qa2 qv1 (xb (v:=.ty "int") (by rfl) N.int qaA rfl)))) (qc (qi (qf bT (Wh hr) (qa3 qv0 qe (qm vV qv1 (qm vO qa (qf ak (Wh hr) (qa2 qv0 qe)))))))) qt) (qb (qI (zg (qE (Uc Ξ) (by rfl) N.isinstance vi (qa2 qv1 (xb (v:=.ty "str") (by rfl) N.str q6F rfl)))) (qc (qi (qf bT (Wh hr) (qa3 qv0 qe (q8c PySem.F.plainAttrs_tuple PySem.F.slot_tuple_index PySem.F.type_tuple_index (W9 (Ξ:=Ξ) rfl T3) (Xw (v:=.ref three) rfl T3.mg rfl) (qa1 qv1)))))) qt) (qc (qi (qf bT (Wh hr) (qa3 qv0 (qh (Ub Ξ) qv1 qa (λ_ _=>rfl)) (qh (Ub Ξ) qv1 qa (λ_ _=>rfl))))))),(qj (xh (ct_b (jL .int (qk 1))) (by right) vG) (qj (xh (ct_b (jL .str (qk 1))) (vS (xt (qq (qk 0) (qq (by right) (qq (q3z T3 (qq (qk 1) qK)) qK))))) vG) (by right)));rintro ts Qt ⟨bits,ms,t,kind,load,m,rfl,hl,sE,hm,h0,h1,mP,hb,q⟩;have hp:=qO (bits-m.2.1).toNat;have hp60:=q5c (s:=bits-m.2.1) (by lia);unfold xy at q;cases sE with
 |int n=>
  have bw:=D5 load hp;have hnn:=D9 load (RN hp);nofun;refine⟨bits,ms,"small", m,rfl,hl,hm,?_⟩;nofun;refine⟨⟨h1,by lia,by decide⟩,by rw[DN];exact hp,?_⟩;rw[DN];refine⟨bits,ms,"small", _,m,rfl,hl,hm,h0,by lia,by lia,?_⟩;nofun;exact q
 | @one t j hj=>
  have nI:j<3:=(Dc.mp hj).1;obtain⟨g0,g1⟩:0<=(j:Int)/\(j:Int)<2^(bits-m.2.1).toNat:=hb.resolve_left λzz=>by obtain⟨_,z⟩:=zz;cases z
  nofun;refine⟨t,j,rfl,hj,Xg hj,?_⟩;nofun;refine⟨bits,ms,"one", _,m,rfl,hl,hm,h0,by lia,by lia,?_⟩;rw[D7 g0 g1]at q;nofun;exact q
 |tup load=>
  obtain⟨g0,g1⟩:0<=load/\load<2^(bits-m.2.1).toNat:=hb.resolve_left λzz=>by obtain⟨_,z⟩:=zz;cases z
  nofun;refine⟨bits,ms,kind,load,m,rfl,hl,hm,h0,by lia,by lia,?_⟩;rw[D7 g0 g1]at q;nofun;exact q
noncomputable def lcnt(bits n:Int):Nat:=(Builtin.Int.intBits n+bits.toNat-1) / bits.toNat
noncomputable def lim(b a i:Nat):Int:=((a / 2^(b*i) % 2^b:Nat):Int)
noncomputable def zh(bits n:Int):List Int:=(List.range (lcnt bits n)).map (lim bits.toNat n.natAbs)
theorem zK(hb:1<=bits)(i:Nat):0<n.natAbs / 2^(bits.toNat*i)↔i<lcnt bits n:=by
 have im:0<bits.toNat:=by lia
 have h1:0<n.natAbs / 2^(bits.toNat*i)↔¬n.natAbs<2^(bits.toNat*i):=by
  rw[Nat.div_pos_iff]
  grind
 rw[h1, <-intBits_le_iff];unfold lcnt;rw[<-Nat.succ_le_iff,Nat.le_div_iff_mul_le im,Nat.succ_mul,Nat.mul_comm i];lia
theorem XJ(h:Bt m n)(hb:1<=bits)(mP:bits<=60):lcnt bits n<=m+60:=by
 have:=h.bits;refine DA (Nat.div_le_self _ _) ?_;lia
theorem kL:a / 2^(b*i) / 2^b=a / 2^(b*(i+1)):=by
 rw[Br, <-qaG];rfl
theorem Jb(n:Int):(if n<0 then -n else n)=(n.natAbs:Int):=by  lia
theorem q15(n:Int):Builtin.Int.intBits (n.natAbs:Int)=Builtin.Int.intBits n:=by
 apply Nat.le_antisymm
 ·exact intBits_le_iff.mpr (by rw[BU];exact intBits_le_iff.mp (Dk _))
 ·refine intBits_le_iff.mpr ?_
  have:=intBits_le_iff.mp (Dk (Builtin.Int.intBits n.natAbs));rw[BU]at this;exact this
theorem q0l(hb:1<=bits):((Builtin.Int.intBits n:Int)+bits-1) / bits=(lcnt bits n:Int):=by
 unfold lcnt
 lia
theorem q1u(k:Nat):(1:Int)*2^k=((2^k:Nat):Int):=by rw[DN];simp
noncomputable def vT(bits n:Int):Int:=4*(lcnt bits n:Int)+(if n<0 then 2 else 0)
noncomputable def xW(bits n:Int):List Int:=vT bits n::zh bits n
theorem xl:(xW bits n).length=lcnt bits n+1:=by
 unfold xW;rw[Dv];unfold zh;rw[Dg,D2]
theorem xc(hb:1<=bits)(hn:n≠0):0<lcnt bits n:=by
 refine(zK hb 0).mp ?_
 lia
noncomputable def v6(s n:Int):Bool:=decide (-(2^(s-1).toNat)<=n/\n<2^(s-1).toNat)
noncomputable abbrev JB:Stmt:=top 31
def J4:List T->(T->Prop)->Prop:=λts Q=>∃(bits:Int)(ms:List Mk3)(n:Int)(m:Mk3),ts=[layT bits ms,.int n]/\ms.length<=900/\OfKind ms "small" m/\1<=bits-m.2.1/\bits-m.2.1<=60/\Q (.bl (v6 (bits-m.2.1) n))
theorem Zf(F:Fun Ξ "is_small" "is_small" JB f fd)(ak:Def P w Ξ mg base "load_bits" 2 ["laying","kind"] (spP ZB)):FnOk P w Ξ mg base CX0 3 f fd ["laying","n"] (spP J4):=by
 exists F.zP, ["laying","n","half"],qb (ql (i:=2) nd rfl Wr (qm vO qa (qm vH (qf ak (Wh hr) (qa2 qv0 qe)) qa))) (qc (qi (JJ q4K xw (q6P q2S qv2) qv1 qv2))),(qj (by right) (vS (Km (zn λ_ _=>.bl _) (zn λ_ _=>.bl _) (q2k (qk 2)) (qk 1) (qk 2))));rintro ts Qt ⟨bits,ms,n,m,rfl,hl,hm,s0,s1,q⟩;nofun;refine⟨bits,ms,"small", m,rfl,hl,hm,?_⟩;nofun;refine⟨⟨by lia,by lia,by decide⟩,?_⟩;rw[DN];unfold v6 at q;generalize(2:Int)^(bits-m.2.1-1).toNat=half at q ⊢;by_cases h1 : -half<=n
 ·rw[Ul h1]
  simpa only[h1,true_and]using q
 ·rw[Ui h1]
  simpa[h1,false_and,UU]using q
theorem JS{l:List Str}:inV (.str z) (l.map V.str)=decide (z∈l):=by
 unfold inV;rw[List.any_map]
 induction l with
 |nil=>rfl
 |cons a l ih=>
  rw[Rk,ih];show(decide _||decide _)=_
  grind
theorem vh{p:Prop}[Decidable p]{a b:Prop}(h:¬p)(q:b):if p then a else b:=by rw[Ui h];exact q
theorem qQ{p:Prop}[Decidable p]{a b:Prop}(h:p)(q:a):if p then a else b:=by rw[Ul h];exact q
noncomputable def qT(x:Int):Int:=if x=1 then 3 else x / 4+1
noncomputable def valL(b:Nat):List Int->Int
 | []=>0
 |l::ls=>l+2^b*valL b ls
noncomputable def limI(os:List Int)(k:Nat)(x:Int):List Int:=(os.drop (k+1)).take (x / 4).toNat
noncomputable def numI(b:Nat)(os:List Int)(k:Nat)(x:Int):Int:=if x % 4=0 then valL b (limI os k x) else -(valL b (limI os k x))
def q7F(bits:Int)(os:List Int):Prop:=∀x∈os,0<=x/\x<2^bits.toNat
theorem Yd:∀{L:List Int},(∀x∈L,0<=x/\x<2^b)->0<=valL b L/\valL b L<2^(b*L.length)
 | [],_=>⟨RK _,by exact qO _⟩
 |l::L,h=>by
  have h1:=h l (.head _);have h2:=Yd λx hx=>h x (.tail _ hx);have hp:=qO b;unfold valL;have e:(2:Int)^(b*(l::L).length)=2^b*2^(b*L.length):=by rw[Dv,Nat.mul_succ,BZ,BM]
  generalize(2:Int)^(b*L.length)=z at *;generalize(2:Int)^b=p at *;generalize valL b L=v at *;have h3:0<=p*v:=Int.mul_nonneg (by lia) h2.1;have h4:p*(v+1)<=p*z:=Int.mul_le_mul_of_nonneg_left (by lia) (by lia)
  lia
noncomputable abbrev YG:Stmt:=top 15
def Zx:List T->(T->Prop)->Prop:=λts Q=>∃(os:List Int)(k:Nat)(x:Int),ts=[qC os,.int k]/\os[k]?=some x/\Q (.int (qT x))
theorem q0L(F:Fun Ξ "size_at" "size_at" YG f fd)(b3:GInt mg "PAIR_HEAD" 1)(cG:GInt mg "PAIR_SIZE" 3):FnOk P w Ξ mg base CX0 1 f fd ["outside","address"] (spP Zx):=by
 exists F.zP, ["outside","address","head"],qb (ql (i:=2) nd rfl Wr (qh (Ua Ξ) qv0 qv1 (λ_ _=>rfl))) (qc (qi (qZ (qg op_eq qv2 (zI b3 rfl) (qo _)) (zI cG rfl) (qm qH (qm jV qv2 qa) qa))));rintro ts Qt ⟨os,k,x,rfl,hx,q⟩;symm;refine qR (atT hx) ?_;symm;unfold qT at q;refine ite2 (λz=>?_) (λz=>⟨⟨by decide,by decide⟩,?_⟩)
 ·rw[Ul z]at q;exact q
 ·rw[Ui z]at q;exact q
noncomputable abbrev VY:Stmt:=top 16
def q61:List T->(T->Prop)->Prop:=λts Q=>∃(bits:Int)(ms:List Mk3)(os:List Int)(k:Nat)(x:Int),ts=[layT bits ms,qC os,.int k]/\os[k]?=some x/\4<=x/\k+qT x<=os.length/\os.length<=1000/\1<=bits/\bits<=60/\q7F bits os/\Q (.int (numI bits.toNat os k x))
theorem q1L{os:List Int}{k:Nat}(h4:4<=x)(he:k+qT x<=os.length):(limI os k x).length=(x / 4).toNat:=by
 unfold limI;unfold qT at he
 grind
theorem q4p(F:Fun Ξ "number_at" "number_at" VY f fd)(N2:Nms2 mg)(aG:Def P w Ξ mg base "size_at" 1 ["outside","address"] (spP Zx)):FnOk P w Ξ mg base CX0 2 f fd ["laying","outside","address"] (spP q61):=by
 exists F.zP, ["laying","outside","address","amount","limb"],qb (ql (i:=3) nd rfl Wr qa) (qb (z0 PassesOwn.never rfl (q5l (Ξ:=Ξ) rfl rfl N2.reversed (qa1 (vm (Gm Ξ) qv1 (vf (qm qH qv2 qa)) (vf (qm qH qv2 (qf aG (Wh hr) (qa2 qv1 qv2))))))) (vd (i:=4) nd rfl Wr) (qc (ql (i:=3) nd rfl Wr (qm qH (qm q3v qv3 (qh (Ub Ξ) qv0 qa (λ_ _=>rfl))) qv4)))) (qc (qi (qZ (qg op_eq (qm vV (qh (Ua Ξ) qv1 qv2 (λ_ _=>rfl)) qa) qa (qo _)) qv3 (q6P q2S qv3))))),(qj (by right) (qj (QQ (q7K (qq (q51 (qk 1) (xS (zu (zn λ_ _=>.int _) (qk 2) Wi)) (xS (zu (zn λ_ _=>.int _) (qk 2) (xt (qq (qk 1) (qq (qk 2) qK)))))) qK)) (qF 4) (by right)) (by right)));rintro ts Qt ⟨bits,ms,os,k,x,rfl,hx,h4,he,hz,b0,b1,hw,q⟩;have hs:qT x=x / 4+1:=by unfold qT;rw[Ui (by lia)]
 have sF:=q1L h4 he;have sG:∀y∈limI os k x,0<=y/\y<2^bits.toNat:=λy hy=>hw y (RQ (Rm hy));symm;refine⟨os,k,x,rfl,hx,?_⟩;symm;have e1:(k:Int)+1=((k+1:Nat):Int):=by push_cast;rfl
 have e2:(k:Int)+qT x=((k+1+(x / 4).toNat:Nat):Int):=by rw[hs];push_cast;lia
 have gb:cutT (os.map T.int) (some ((k:Int)+1)) (some ((k:Int)+qT x))=(limI os k x).map T.int:=by
  rw[e1,e2,Kf (by lia) (by rw[hs]at he;lia)]
  congr 1;unfold limI
  congr 1;lia
 rw[gb];generalize hL:limI os k x=L at *;refine q0h (λi ρ M'=>M'=[]/\∃x4,ρ=[some (.p (layT bits ms)),some (.p (qC os)),some (.p (.int k)),some (.p (.int (valL bits.toNat (L.drop (L.length-i))))),x4]) ⟨rfl,none,by rw[Nat.sub_zero,List.drop_length];rfl⟩ ?_ ?_
 ·rintro i y ρ M' hi hy ⟨rfl,x4,rfl⟩
  rw[Dg]at hi hy;obtain⟨l,hl,rfl⟩:=q02 hy;symm;have hd:L.drop (L.length-(i+1))=l::L.drop (L.length-i):=by
   obtain⟨h1,h2⟩:=Dc.mp hl;rw[show L.length-(i+1)=L.length-1-i by lia,R8 h1,h2]
   congr 2;lia
  have hv:=Yd (b:=bits.toNat) (L:=L.drop (L.length-i)) λy hy=>sG y (RQ hy);refine⟨⟨by lia,by lia,?_⟩,some (.p (.int l)),?_⟩
  ·have h1:(valL bits.toNat (L.drop (L.length-i))).natAbs<2^(bits.toNat*(L.drop (L.length-i)).length):=by
    have:=hv.2;have e:((2^(bits.toNat*(L.drop (L.length-i)).length):Nat):Int)=2^(bits.toNat*(L.drop (L.length-i)).length):=by simp
    lia
   refine Dx h1 (Ra (by decide) ?_);have h2:(L.drop (L.length-i)).length<=1000:=by
    rw[Bn];lia
   have h3:bits.toNat<=60:=by lia
   exact DA (Nat.mul_le_mul h3 h2) (by decide)
  ·rw[hd,show valL bits.toNat (l::L.drop (L.length-i))=l+2^bits.toNat*valL bits.toNat (L.drop (L.length-i))from rfl,B0 l,BY]
 ·rintro ρ M' ⟨rfl,x4,rfl⟩
  rw[Dg,Rq,List.drop_zero];symm;refine qR (atT hx) ?_;symm;refine⟨by decide,?_⟩;unfold numI at q;rw[hL]at q;refine ite2 (λz=>?_) (λz=>?_)
  ·rw[Ul z]at q
   exact q
  ·rw[Ui z]at q
   exact q
noncomputable def Zv(x:Int):Bool:=decide (x=1)||(decide (4<=x)&&decide (x % 2=0))
noncomputable def xx(bits sm:Int)(os:List Int)(k:Nat)(x:Int):Option Str :=
 if Zv x=false then some "head" else if(os.length:Int)<k+qT x then some "end" else if x=1 then none else if os[k+(x / 4).toNat]?=some 0 then some "limb" else if v6 sm (numI bits.toNat os k x)=true then some "small" else none
noncomputable def thG(dR:Nat->Option Str)(sz:Nat->Nat)(len:Nat):Nat->Nat->Option (Str×Int)×List Nat
 |0,_=>(none, [])
 |n+1,k=>if k<len/\0<sz k then((dR k).elim (thG dR sz len n (k+sz k)).1 λw=>some (w,8+k),(dR k).elim (k::(thG dR sz len n (k+sz k)).2) λ_=>[]) else(none, [])
theorem Jo:∀n k,len-k<=n->thG dR sz len n k=thG dR sz len (n+1) k
 |0,k,h=>by
  show _=if _ then _ else _
  rw[Ui (by lia)];rfl
 |n+1,k,h=>by
  show(if _ then _ else _)=if _ then _ else _
  by_cases c:k<len/\0<sz k
  ·rw[Ul c,Ul c,Jo n _ (by lia)]
  ·rw[Ui c,Ui c]
noncomputable def thF(dR:Nat->Option Str)(sz:Nat->Nat)(len:Nat)(k:Nat):Option (Str×Int)×List Nat:=thG dR sz len (len+1) k
theorem q7E:thF dR sz len k=if k<len/\0<sz k then((dR k).elim (thF dR sz len (k+sz k)).1 λw=>some (w,8+k),(dR k).elim (k::(thF dR sz len (k+sz k)).2) λ_=>[]) else(none, []):=by
 show(if _ then _ else _)=_;by_cases c:k<len/\0<sz k
 ·rw[Ul c,Ul c,Jo len _ (by lia)]
  rfl
 ·rw[Ui c,Ui c]
noncomputable def badK(bits sm:Int)(os:List Int)(k:Nat):Option Str:=(os[k]?).bind (xx bits sm os k)
noncomputable def szK(os:List Int)(k:Nat):Nat:=(qT ((os[k]?).getD 1)).toNat
noncomputable def thI(bits sm:Int)(os:List Int):Nat->Option (Str×Int)×List Nat:=thF (badK bits sm os) (szK os) os.length
theorem Qe{os:List Int}:thI bits sm os k=if k<os.length/\0<szK os k then((badK bits sm os k).elim (thI bits sm os (k+szK os k)).1 λw=>some (w,8+k),(badK bits sm os k).elim (k::(thI bits sm os (k+szK os k)).2) λ_=>[]) else(none, []):=q7E
theorem j8{os:List Int}(h:os.length<=k):thI bits sm os k=(none, []):=by
 rw[Qe,Ui (by lia)]
set_option tactic.hygienic true in
theorem zN{os:List Int}(h:xx bits sm os k x=none):2<=qT x/\k+qT x<=os.length/\Zv x=true:=by
 unfold xx at h;split at h
 ·cases h
 rename_i h1;split at h
 ·cases h
 have hh:=by simpa using h1
 refine⟨?_,by lia,hh⟩;unfold qT;unfold Zv at hh
 lia
theorem q4m{os:List Int}{w:Str}(hx:os[k]?=some x)(h0:0<=x)(h:xx bits sm os k x=some w):thI bits sm os k=(some (w,(8:Int)+k), []):=by
 have hk:=(Dc.mp hx).1;have hb:badK bits sm os k=some w:=by unfold badK;rw[hx];exact h
 have hs:0<szK os k:=by
  unfold szK;rw[hx];show 0<(qT x).toNat;unfold qT
  lia
 rw[Qe,Ul ⟨hk,hs⟩,hb];rfl
theorem VO{os:List Int}(hx:os[k]?=some x)(h:xx bits sm os k x=none):thI bits sm os k=((thI bits sm os (k+(qT x).toNat)).1,k::(thI bits sm os (k+(qT x).toNat)).2):=by
 have hk:=(Dc.mp hx).1;have hb:badK bits sm os k=none:=by unfold badK;rw[hx];exact h
 have he:szK os k=(qT x).toNat:=by unfold szK;rw[hx];rfl
 have hs:=(zN h).1;rw[Qe,Ul ⟨hk,by lia⟩,hb,he];rfl
theorem VP{os:List Int}:∀(n k:Nat),os.length-k<=n->∀j∈(thI bits sm os k).2,k<=j/\j<os.length/\∃x,os[j]?=some x/\xx bits sm os j x=none
 |n,k,hn=>λj hj=>by
  by_cases hk:k<os.length
  ·obtain⟨x,hx⟩:∃x,os[k]?=some x:=⟨_,Df hk⟩
   cases hb:xx bits sm os k x with
   |none=>
    have hs:=zN hb;rw[VO hx hb]at hj;rcases Dl.mp hj with rfl|hj
    ·exact⟨Dk _,hk,x,hx,hb⟩
    ·match n,hn with
     |0,hn=>lia
     |n+1,hn=>
      obtain⟨h1,h2⟩:=VP n _ (by lia) j hj;exact⟨by lia,h2⟩
   |some w=>
    have:(thI bits sm os k).2=[]:=by
     have mQ:badK bits sm os k=some w:=by unfold badK;rw[hx];exact hb
     rw[Qe,mQ];split<;>rfl
    rw[this]at hj;cases hj
  ·rw[j8 (by lia)]at hj
   cases hj
theorem q3c{os:List Int}:∀(n k:Nat),os.length-k<=n->(thI bits sm os k).2.Pairwise (· < ·)
 |n,k,hn=>by
  by_cases hk:k<os.length
  ·obtain⟨x,hx⟩:∃x,os[k]?=some x:=⟨_,Df hk⟩
   cases hb:xx bits sm os k x with
   |none=>
    have hs:=zN hb;rw[VO hx hb]
    match n,hn with
    |0,hn=>lia
    |n+1,hn=>
     refine DY.mpr ⟨λj hj=>?_,q3c n _ (by lia)⟩;have:=(VP _ _ (Dk _) j hj).1;lia
   |some w=>
    have:(thI bits sm os k).2=[]:=by
     have mQ:badK bits sm os k=some w:=by unfold badK;rw[hx];exact hb
     rw[Qe,mQ];split<;>rfl
    simp_all
  ·rw[j8 (by lia)]
   exact .nil
structure Hds(os:List Int)(hs:List Nat):Prop where
 ex:∃bits sm,(thI bits sm os 0).1=none/\(thI bits sm os 0).2=hs
 w:∀x∈os,0<=x
 z:os.length<=1000
theorem kP(e:M[k]?=some (.lst (l.map U.p))):frzN (n+1) M (.m k)=some (.lst l):=by simp only[frzN,e];rw[Vq (λ_=>ZD)];rfl
theorem Hds.at{os:List Int}(h:Hds os hs):∀k∈hs,∃x,os[k]?=some x/\k+qT x<=os.length/\Zv x=true:=λk hk=>by
 obtain⟨bits,sm,_,rfl⟩:=h.ex;obtain⟨_,_,x,hx,hb⟩:=VP _ _ (Dk _) k hk;exact⟨x,hx,(zN hb).2⟩
theorem Hds.lt{os:List Int}(h:Hds os hs):hs.Pairwise (· < ·):=by
 obtain⟨bits,sm,_,rfl⟩:=h.ex;exact q3c _ _ (Dk _)
theorem Hds.len{os:List Int}(h:Hds os hs):hs.length<=1000:=by
 have h1:∀(l:List Nat)(a b),l.Pairwise (· < ·)->(∀x∈l,a<=x/\x<b)->l.length<=b-a:=by
  intro l
  induction l with
  |nil=>intro a b _ _;exact DG _
  |cons y l ih=>
   intro a b hp hm;rw[DY]at hp;have:=ih _ b hp.2 λx hx=>⟨hp.1 x hx,(hm x (.tail _ hx)).2⟩;have h2:=hm y (.head _)
   grind
 have:=h1 hs 0 os.length h.lt λk hk=>by
  obtain⟨x,hx,_⟩:=h.at k hk;exact⟨DG _,(Dc.mp hx).1⟩
 have:=h.z;lia
noncomputable abbrev JE:Stmt:=top 34
def q2o:List T->(T->Prop)->Prop:=λts Q=>∃(os:List Int)(hs:List Nat),ts=[qC os]/\Hds os hs/\Q (.lst (hs.map λ(k:Nat)=>T.int k))
theorem q1F(F:Fun Ξ "heads_in" "heads_in" JE f fd)(N:Nms mg)(aG:Def P w Ξ mg base "size_at" 1 ["outside","address"] (spP Zx)):FnOk P w Ξ mg base CX0 2 f fd ["outside"] (spP q2o):=by
 exists F.zP, ["outside","heads","address"],qb (ql (i:=1) nd rfl Wr (qA zm)) (qb (ql (i:=2) nd rfl Wr qa) (qb (xZ PassesOwn.never (qg xw qv2 (qE vJ (by rfl) N.len kY (qa1 qv0)) (qo _)) (qb (vj (jN PySem.F.slot_list_append PySem.F.type_list_append vQ qv1 (qa1 qv2))) (qc (q2p (i:=2) nd rfl Wr (qf aG (Wh hr) (qa2 qv0 qv2)) q26)))) (qc (qi qv1)))),(qj (qM (zr qK) (qF 1)) (by right));rintro ts Qt ⟨os,hs,rfl,⟨⟨bits,sm,hn,hh⟩,hw,hz⟩,q⟩;symm;refine⟨λd ρ M=>∃(k:Nat)(gs:List Nat),d=os.length-k/\ρ=[some (.p (qC os)),some (.m 0),some (.p (.int k))]/\M=[.lst ((gs.map λ(j:Nat)=>T.int j).map U.p)]/\(thI bits sm os k).1=none/\gs++(thI bits sm os k).2=hs/\gs.length<=k,⟨_,0, [],rfl,rfl,rfl,hn,hh,Dk _⟩,?_⟩;rintro d ρ M ⟨k,gs,rfl,rfl,rfl,h1,h2,h3⟩;symm;rw[Dg];refine ite2 (λhl=>?_) (λhl=>?_)
 ·have hl:k<os.length:=by lia
  obtain⟨x,hx⟩:∃x,os[k]?=some x:=⟨_,Df hl⟩;have sH:=hw x (Dh hx);have hb:xx bits sm os k x=none:=by
   cases hb:xx bits sm os k x with
   |none=>rfl
   |some w=>rw[q4m hx sH hb]at h1;cases h1
  have eY:=zN hb;rw[VO hx hb]at h1 h2;refine⟨λρ M=>ρ=[some (.p (qC os)),some (.m 0),some (.p (.int ((k+(qT x).toNat:Nat):Int)))]/\M=[.lst (((gs++[k]).map λ(j:Nat)=>T.int j).map U.p)],?_,?_⟩
  ·rintro bS M' ⟨rfl,rfl⟩
   exact⟨os.length-(k+(qT x).toNat),by lia,k+(qT x).toNat,gs++[k],rfl,rfl,rfl,h1,by rw[DC];exact h2,by rw[Dj];show gs.length+1<=_;lia⟩
  ·symm
   refine⟨by rw[Dg,Dg,Uk];lia,?_⟩;simp only[uAug];symm;have e:(k:Int)+qT x=((k+(qT x).toNat:Nat):Int):=by push_cast;lia
   refine⟨_,rfl,os,k,x,rfl,hx,_,rfl,by rw[e],?_⟩;rw[Dq,Dq];rfl
 ·rw[j8 (by lia)]at h2
  rw[DI]at h2;subst h2;symm;exact⟨_,kP rfl,q⟩
noncomputable def q5K(os:List Int)(k:Nat):Str:=if os[k]?=some 1 then "pair" else "far"
noncomputable def hkv(os:List Int)(hs:List Nat):List (Key×U):=hs.map λ(k:Nat)=>(Key.inl (k:Int),U.p (.str (q5K os k)))
theorem jU(h:∀kv∈kvs,kv.1≠k):putU kvs k v=kvs++[(k,v)]:=by
 unfold putU;rw[Ui];intro z;obtain⟨kv,hkv,e⟩:=List.any_eq_true.mp z;exact h kv hkv (Uq e)
theorem q4f{hs:List Nat}(h:hs.Pairwise (· < ·))(hk:hs[i]?=some k):∀j∈hs.take i,j≠k:=λj hj=>by
 obtain⟨n,hn⟩:=Rl hj;have gA:n<i:=by
  have:=(Dc.mp hn).1;rw[D0]at this;lia
 rw[List.getElem?_take,Ul gA]at hn;obtain⟨h1,rfl⟩:=Dc.mp hn;obtain⟨h2,rfl⟩:=Dc.mp hk;exact Dz (List.pairwise_iff_getElem.mp h n i h1 h2 gA)
noncomputable abbrev QC:Stmt:=top 32
noncomputable def xj(a8:Int)(ms:List Mk3):Option (Str×Int):=match ms.filter (on a8) with
 | []=>none
 |m::_=>if m.1 = "far" \/ m.1 = "pair" then some (m.1,a8 / 2^m.2.1.toNat) else none
noncomputable def K9:Option (Str×Int)->T
 |none=>.non
 |some p=>.int p.2
def q11:List T->(T->Prop)->Prop:=λts Q=>∃(bits:Int)(ms:List Mk3)(a8:Int),ts=[layT bits ms,.int a8]/\Right bits ms/\Q (K9 (xj a8 ms))
theorem q5h(F:Fun Ξ "address_of" "address_of" QC f fd)(ay:Def P w Ξ mg base "mark_of" 2 ["laying","word"] (spP ju))(bu:Def P w Ξ mg base "load_of" 2 ["laying","word","kind"] (spP XV)):FnOk P w Ξ mg base CX0 3 f fd ["laying","word"] (spP q11):=by
 exists F.zP, ["laying","word","kind"],qb (ql (i:=2) nd rfl Wr (qf ay (Wh hr) (qa2 qv0 qv1))) (qc (qi (qZ (qg (Ud Ξ) qv2 (qy (qa2 qe qe)) (by with_unfolding_all rfl)) (qf bu (Wh hr) (qa3 qv0 qv1 qv2)) vN)));rintro ts Qt ⟨bits,ms,a8,rfl,hR,q⟩;symm;refine⟨bits,ms,a8,rfl,hR.wd,by rw[hR.n];decide,?_⟩;unfold xj at q;unfold xK;cases e:ms.filter (on a8) with
 |nil=>
  rw[e]at q;symm;refine⟨_,_,_,rfl,rfl,rfl,⟨_,rfl,?_⟩⟩;exact vh (by decide+kernel) q
 |cons m r=>
  rw[e]at q;have aI:m∈ms:=(DB.mp (by rw[e];exact DH)).1;have iZ:=hR.ofKind aI;have eV:=hR.wd m aI;symm;refine⟨_,_,_,rfl,rfl,rfl,⟨_,rfl,?_⟩⟩;have ei:inV (V.str m.1) [V.str "far", V.str "pair"]=decide (m.1 = "far" \/ m.1 = "pair"):=by
   rw[show([V.str "far", V.str "pair"]:List V)=(["far","pair"]:List Str).map V.str from rfl,JS];exact decide_eq_decide.mpr ⟨λz=>by rcases Dl.mp z with z|z;exact .inl z;exact .inr (Dm.mp z),λz=>by rcases z with z|z;rw[z];exact .head _;rw[z];exact .tail _ (.head _)⟩
  show if inV (V.str m.1) [V.str "far", V.str "pair"]=true then _ else _
  rw[ei];refine ite2 (λh=>?_) (λh=>?_)
  ·have h:=Uq h
   rw[show(match m::r with | []=>none|m::_=>if m.1 = "far" \/ m.1 = "pair" then some (m.1,a8 / 2^m.2.1.toNat) else none)=some (m.1,a8 / 2^m.2.1.toNat)from Ul h]at q;exact⟨bits,ms,a8,m.1,m,rfl,by rw[hR.n];decide,iZ,eV.1,q⟩
  ·have h:¬(m.1 = "far" \/ m.1 = "pair"):=λz=>h (Ux z)
   rw[show(match m::r with | []=>none|m::_=>if m.1 = "far" \/ m.1 = "pair" then some (m.1,a8 / 2^m.2.1.toNat) else none)=none from Ui h]at q;exact q
noncomputable def wOf(ms:List Mk3)(kind:Str):Int:=match ms.filter (λm=>decide (m.1=kind)) with
 |m::_=>m.2.1
 | []=>0
theorem Qb(h:OfKind ms kind m):wOf ms kind=m.2.1:=by
 obtain⟨r,e⟩:=h;unfold wOf;rw[e]
noncomputable def kG(bits:Int)(ms:List Mk3)(room:Int):Int:=min3 room (2^(bits-wOf ms "far").toNat) (2^(bits-wOf ms "pair").toNat)
theorem q2a(hR:Right bits ms)(h:kind∈jR):1<=wOf ms kind/\2<=bits-wOf ms kind/\bits-wOf ms kind<=31:=by
 obtain⟨m,hm⟩:=hR.kind h;rw[Qb hm];have sJ:m∈ms:=by
  obtain⟨rest,hr⟩:=hm;exact(DB.mp (by rw[hr];exact .head _)).1
 have h1:=hR.w m sJ;have h2:=vY m.1;have h3:=hR.b;lia
noncomputable abbrev jH:Stmt:=top 46
def q7Y:List T->(T->Prop)->Prop:=λts Q=>∃(bits:Int)(ms:List Mk3)(room:Int),ts=[layT bits ms,.int room]/\Right bits ms/\Q (.int (kG bits ms room))
theorem q5v(F:Fun Ξ "most_outside" "most_outside" jH f fd)(N:Nms mg)(ak:Def P w Ξ mg base "load_bits" 2 ["laying","kind"] (spP ZB)):FnOk P w Ξ mg base CX0 3 f fd ["laying","room"] (spP q7Y):=by
 exists F.zP, ["laying","room"],qc (qi (qE (qaw rfl) (by rfl) N.min q4A (qa3 qv1 (qm vO qa (qf ak (Wh hr) (qa2 qv0 qe))) (qm vO qa (qf ak (Wh hr) (qa2 qv0 qe)))))),(vS (ZY q1D (by right)));rintro ts Qt ⟨bits,ms,room,rfl,hR,q⟩;obtain⟨m1,mR⟩:=hR.kind (kind := "far") (by decide+kernel);obtain⟨m2,iQ⟩:=hR.kind (kind := "pair") (by decide+kernel);have h1:=q2a hR (kind := "far") (by decide+kernel);have h2:=q2a hR (kind := "pair") (by decide+kernel);have hl:ms.length<=900:=by rw[hR.n];decide
 unfold kG at q;rw[Qb mR]at q h1;rw[Qb iQ]at q h2;symm;refine⟨bits,ms,_,m1,rfl,hl,mR,?_⟩;symm;refine⟨⟨by lia,by lia,by decide⟩,bits,ms,_,m2,rfl,hl,iQ,?_⟩;symm;refine⟨⟨by lia,by lia,by decide⟩,?_⟩;simp only[q4o,DN];symm;exact q
noncomputable def pwI(os:List Int)(k:Nat):List Int:=if os[k]?=some 1 then(os.drop (k+1)).take 2 else[]
theorem qac{os:List Int}(h:a<=b)(hb:b<=os.length):cutT (os.map T.int) (some (a:Int)) (some (b:Int))=((os.drop a).take (b-a)).map T.int:=by
 unfold cutT;rw[HT.sIx_nat,HT.sIx_nat,Dg,Rr hb,Rr (DA h hb),List.map_take,BS]
noncomputable abbrev jG:Stmt:=top 35
def GQ:List T->(T->Prop)->Prop:=λts Q=>∃(os:List Int)(k:Nat)(x:Int),ts=[qC os,.int k]/\os[k]?=some x/\k+qT x<=os.length/\Q (qC (pwI os k))
theorem q1P(F:Fun Ξ "pair_words_at" "pair_words_at" jG f fd)(b3:GInt mg "PAIR_HEAD" 1):FnOk P w Ξ mg base CX0 1 f fd ["outside","address"] (spP GQ):=by
 exists F.zP, ["outside","address"],qc (qi (qZ (qg op_eq (qh (Ua Ξ) qv0 qv1 (λ_ _=>rfl)) (zI b3 rfl) (qo _)) (vm (Gm Ξ) qv0 (vf (qm qH qv1 qa)) (vf (qm qH qv1 qa))) (qA zm)));rintro ts Qt ⟨os,k,x,rfl,hx,he,q⟩;symm;refine qR (atT hx) ?_;symm;unfold pwI at q;refine ite2 (λz=>?_) (λz=>?_)
 ·subst z
  rw[Ul hx]at q;symm;have e1:((k:Int)+1)=((k+1:Nat):Int):=by push_cast;rfl
  have e3:((k:Int)+3)=((k+3:Nat):Int):=by push_cast;rfl
  rw[e1,e3,qac (by lia) (by unfold qT at he;rw[Ul rfl]at he;lia),show k+3-(k+1)=2 by lia];exact q
 ·rw[Ui (by rw[hx];exact λy=>z (Option.some.inj y))]at q
  symm;exact q
def K1(ms:List Mk3)(a8:Int)(k:Nat):Prop:=∃s,xj a8 ms=some (s,(k:Int))
inductive Rch(ms:List Mk3)(ws os:List Int):Nat->Prop
 |of {a8:Int}{k:Nat}:a8∈ws->K1 ms a8 k->Rch ms ws os k
 |to {j k:Nat}{a8:Int}:Rch ms ws os j->a8∈pwI os j->K1 ms a8 k->Rch ms ws os k
structure SI(bits:Int)(ms:List Mk3)(ws os:List Int)(hs:List Nat):Prop where
 R:Right bits ms
 h:Hds os hs
 w:∀a8∈ws,∀s a,xj a8 ms=some (s,a)->∃k∈hs,a=(k:Int)
 o:∀j∈hs,∀a8∈pwI os j,∀s a,xj a8 ms=some (s,a)->∃k∈hs,a=(k:Int)
 n:ws.length<=1000
theorem vP:∀{ks hs:List Nat},ks.Nodup->(∀k∈ks,k∈hs)->ks.length<=hs.length
 | [],_,_,_=>DG _
 |k::ks,hs,h1,h2=>by
  have hk:=h2 k (.head _);rw[DJ]at h1;have:=vP h1.2 λx hx=>(List.mem_erase_of_ne (λz:x=k=>h1.1 (z▸hx))).mpr (h2 x (.tail _ hx))
  grind
noncomputable def vZ(ks:List Nat):List (Key×U):=ks.map λ(k:Nat)=>(Key.inl (k:Int),U.p (.bl true))
theorem jf{k:Nat}:(valU (vZ ks) (.inl (k:Int))).isSome=decide (k∈ks):=by
 induction ks with
 |nil=>rfl
 |cons j ks ih=>
  unfold vZ valU at ih ⊢;rw[DD,RE];by_cases h:j=k
  ·subst h
   simp
  ·have h1:¬((Key.inl (j:Int):Key)=Key.inl (k:Int)):=λz=>h (by injection z with z;exact_mod_cast z)
   simp only[h1,UU];rw[ih];simp[Ne.symm h]
theorem Zr{k:Nat}(h:k∉ks):putU (vZ ks) (.inl (k:Int)) (.p (.bl true))=vZ (ks++[k]):=by
 rw[jU]
 ·unfold vZ
  rw[Dq];rfl
 ·intro kv hkv z
  obtain⟨j,hj,rfl⟩:=DL.mp hkv;have z:(Key.inl (j:Int):Key)=Key.inl (k:Int):=z;injection z with z
  exact h ((by exact_mod_cast z:j=k)▸hj)
noncomputable abbrev jF:Stmt:=top 38
def q2A:List U->MM->UK->Prop:=λus M Q=>∃(bits:Int)(ms:List Mk3)(ws os:List Int)(hs:List Nat),us=[.p (layT bits ms),.p (qC ws),.p (qC os)]/\SI bits ms ws os hs/\∀ks:List Nat,ks.Nodup->(∀k,k∈ks↔Rch ms ws os k)->(∀k∈ks,k∈hs)->Q (.m M.length) (M++[.dK (vZ ks),.lst []])
structure RI(ms:List Mk3)(ws os:List Int)(hs:List Nat)(ks:List Nat)(L:List Int):Prop where
 nd:ks.Nodup
 r:∀k∈ks,k∈hs/\Rch ms ws os k
 f:∀x∈L,x∈ws\/∃j∈ks,x∈pwI os j
 c:∀x k,(x∈ws\/∃j∈ks,x∈pwI os j)->K1 ms x k->k∈ks\/x∈L
 l:L.length<=ws.length+2*ks.length
theorem Vc{os:List Int}:(pwI os k).length<=2:=by
 unfold pwI;split
 ·rw[D0];lia
 ·exact DG _
theorem q3s{l:List Int}(h:l≠[]):∃x,l[l.length-1]?=some x/\x∈l/\l=l.dropLast++[x]:=by
 have hp:=RW.mpr h;refine⟨l[l.length-1],Df _,List.getElem_mem _,?_⟩;have:=RT h;rw[List.getLast_eq_getElem]at this;exact this.symm
theorem q1p(F:Fun Ξ "reached_from" "reached_from" jF f fd)(N:Nms mg)(az:Def P w Ξ mg base "address_of" 3 ["laying","word"] (spP q11))(aE:Def P w Ξ mg base "pair_words_at" 1 ["outside","address"] (spP GQ)):FnOk P w Ξ mg base CX0 4 f fd ["laying","words","outside"] (spU q2A):=by
 exists F.zU, ["laying","words","outside","reached","waiting","address"],qb (ql (i:=3) nd rfl Wr ky) (qb (ql (i:=4) nd rfl Wr (vz vc (by rfl) N.list jl (qa1 qv1))) (qb (xZ PassesOwn.never (V3 (Ξ:=Ξ) rfl qv4 (λ_=>rfl)) (qb (ql (i:=5) nd rfl Wr (qf az (Wh hr) (qa2 qv0 (We PySem.F.plainAttrs_list PySem.F.slot_list_pop PySem.F.type_list_pop q2f qv4)))) (qc (qI (V2 (QD (qg q4w qv5 vN (qo _)) (kr (V4 (zt hr) qv5 qv3)))) (qb (ku (zt hr) qv3 qv5 q22) (qc (vj (jN PySem.F.slot_list_extend PySem.F.type_list_extend kB qv4 (qa1 (qf aE (Wh hr) (qa2 qv2 qv5))))))) qt)))) (qc (qi qv3)))),(qj (qM kW (qF 3)) (qj (qM (j2 (qq (qk 1) qK)) (qF 4)) (qj (Vz (q31 (qk 4)) (qj (qM (xt (qq (qk 0) (qq (q3f Ge (qk 4)) qK))) (qF 5)) (xh (ZQ (by right) (ct_b (ZW (qk 5) (qk 3)))) (by right) vG))) (by right))));rintro us M Qu ⟨bits,ms,ws,os,hs,rfl,hS,q⟩;symm;simp only[Qd];symm;refine⟨_,_,rfl,.inl rfl,?_⟩;symm;have fB:(M++[MO.dK []]).length=M.length+1:=by simp
 rw[fB,DC];refine⟨λd ρ M'=>∃(ks:List Nat)(L:List Int)(x5:Option U),d=L.length+3*(hs.length-ks.length)/\ρ=[some (.p (layT bits ms)),some (.p (qC ws)),some (.p (qC os)),some (.m M.length),some (.m (M.length+1)),x5]/\M'=M++[.dK (vZ ks),.lst ((L.map T.int).map U.p)]/\RI ms ws os hs ks L,⟨_, [],ws,_,rfl,rfl,rfl,⟨RM,(λk z=>nomatch z),(λx h=>.inl h),(λx k h _=>.inr (h.elim id λ⟨j,z,_⟩=>nomatch z)),by simp⟩⟩,?_⟩;rintro d ρ M' ⟨ks,L,x5,rfl,rfl,rfl,I⟩;have bz:=vP I.nd λk hk=>(I.r k hk).1;have hhl:=hS.h.len;have hn:=hS.n;have g0:∀a b:MO,(M++[a,b])[M.length]?=some a:=λa b=>by simp
 have g1:∀a b:MO,(M++[a,b])[M.length+1]?=some b:=λa b=>by simp
 have t0:∀a b c:MO,(M++[a,b]).set M.length c=M++[c,b]:=λa b c=>by simp
 have t1:∀a b c:MO,(M++[a,b]).set (M.length+1) c=M++[a,c]:=λa b c=>by simp
 symm;simp only[q6E];symm;refine⟨!((L.map T.int).map U.p).isEmpty,by simp only[truU,g1],?_⟩;refine ite2 (λhL=>?_) (λhL=>?_)
 ·have hL:L≠[]:=λz=>by rw[z]at hL;cases hL
  obtain⟨x,hx,nZ,oa⟩:=q3s hL;have sK:((L.map T.int).map U.p)[((L.map T.int).map U.p).length-1]?=some (.p (.int x)):=by rw[Dg,Dg,Dy,Dy,hx];rfl
  have sL:((L.map T.int).map U.p).dropLast=((L.dropLast.map T.int).map U.p):=by rw[List.map_dropLast,List.map_dropLast]
  have sF:L.length=L.dropLast.length+1:=by rw[List.length_dropLast];have:=RW.mpr hL;lia
  refine⟨λρ ff=>∃(dw:List Nat)(L':List Int)(mT:Option U),L'.length+3*(hs.length-dw.length)<L.length+3*(hs.length-ks.length)/\ρ=[some (.p (layT bits ms)),some (.p (qC ws)),some (.p (qC os)),some (.m M.length),some (.m (M.length+1)),mT]/\ff=M++[.dK (vZ dw),.lst ((L'.map T.int).map U.p)]/\RI ms ws os hs dw L',?_,?_⟩
  ·rintro bS ff ⟨dw,L',mT,h1,rfl,rfl,I'⟩
   exact⟨_,h1,dw,L',mT,rfl,rfl,rfl,I'⟩
  ·symm
   simp only[uMe0];symm;refine⟨_,_,rfl,g1 _ _,_,rfl,sK,?_⟩;dsimp only;rw[t1,sL];symm;refine⟨bits,ms,x,rfl,hS.R,?_⟩;have skip:(∀k,K1 ms x k->k∈ks)->RI ms ws os hs ks L.dropLast:=λh=>by
    refine⟨I.nd,I.r,λy hy=>I.f y (Rm (by rw[BD]at hy;exact hy)),λy k h1 h2=>?_,by have:=I.l;lia⟩;rcases I.c y k h1 h2 with z|z
    ·exact .inl z
    ·rw[oa]at z
     rcases Dr.mp z with z|z
     ·exact .inr z
     ·rw[Dm.mp z]at h2
      exact .inl (h k h2)
   cases ea:xj x ms with
   |none=>
    unfold K9;symm;exact⟨ks,L.dropLast,_,by lia,rfl,rfl,skip λk zz=>by obtain⟨s,z⟩:=zz;rw[ea]at z;cases z⟩
   |some p=>
    obtain⟨sk,a⟩:=p;obtain⟨k,hk,rfl⟩:∃k∈hs,a=(k:Int):=by
     rcases I.f x nZ with z|⟨j,hj,z⟩
     ·exact hS.w x z sk a ea
     ·exact hS.o j (I.r j hj).1 x z sk a ea
    have iT:∀j,K1 ms x j->j=k:=λj zz=>by obtain⟨s,z⟩:=zz;rw[ea]at z;cases z;rfl
    unfold K9;symm;refine Vy (g0 _ _) ?_;rw[jf];symm;refine ite2 (λbf=>?_) (λbf=>?_)
    ·have bf:k∉ks:=by simpa using bf
     obtain⟨y,hy,og,_⟩:=hS.h.at k hk;have gh:=vP (ks:=k::ks) (DJ.mpr ⟨bf,I.nd⟩) λj hj=>by
      rcases Dl.mp hj with rfl|hj
      ·exact hk
      ·exact(I.r j hj).1
     rw[Dv]at gh;have mU:Rch ms ws os k:=by
      rcases I.f x nZ with z|⟨j,hj,z⟩
      ·exact .of z ⟨sk,ea⟩
      ·exact .to (I.r j hj).2 z ⟨sk,ea⟩
     have hl:=I.l;symm;refine jk (g0 _ _) (by unfold vZ;rw[Dg,Uk];lia) ?_;rw[Zr bf,t0];symm;refine⟨_,rfl,⟨_,g1 _ _⟩,?_⟩;symm;refine⟨os,k,y,rfl,hy,og,?_⟩;symm;refine⟨_,g1 _ _,_,rfl,?_,?_⟩
     ·simp only[Dg];have:=Vc (os:=os) (k:=k);rw[Uk];lia
     dsimp only;rw[t1, <-Dq, <-Dq];refine⟨ks++[k],L.dropLast++pwI os k,_,?_,rfl,rfl,?_⟩
     ·have:=Vc (os:=os) (k:=k)
      rw[Dj,Dj];show _+3*(hs.length-(ks.length+1))<_;lia
     ·refine⟨?_,λj hj=>?_,λz hz=>?_,λz j h1 h2=>?_,?_⟩
      ·rw[DW]
       exact⟨I.nd,by simp,λa ha b hb z=>bf (by rw[Dm.mp hb]at z;exact z▸ha)⟩
      ·rcases Dr.mp hj with hj|hj
       ·exact I.r j hj
       ·rw[Dm.mp hj];exact⟨hk,mU⟩
      ·rcases Dr.mp hz with hz|hz
       ·rcases I.f z (Rm (by rw[BD]at hz;exact hz))with u|⟨j,hj,u⟩
        ·exact .inl u
        ·exact .inr ⟨j,Dw _ hj,u⟩
       ·exact .inr ⟨k,by simp,hz⟩
      ·have old:(z∈ws\/∃j∈ks,z∈pwI os j)->j∈ks++[k]\/z∈L.dropLast++pwI os k:=λh1=>by
        rcases I.c z j h1 h2 with u|u
        ·exact .inl (Dw _ u)
        ·rw[oa]at u
         rcases Dr.mp u with u|u
         ·exact .inr (Dw _ u)
         ·rw[Dm.mp u]at h2
          exact .inl (by rw[iT j h2];simp)
       rcases h1 with u|⟨i,hi,u⟩
       ·exact old (.inl u)
       ·rcases Dr.mp hi with hi|hi
        ·exact old (.inr ⟨i,hi,u⟩)
        ·rw[Dm.mp hi]at u
         exact .inr (Ds _ u)
      ·have:=Vc (os:=os) (k:=k)
       rw[Dj,Dj];show _<=_+2*(ks.length+1);lia
    ·have bf:k∈ks:=by simpa using bf
     exact⟨ks,L.dropLast,_,by lia,rfl,rfl,skip λj z=>iT j z▸bf⟩
 ·have hL:L=[]:=by
   cases L with
   |nil=>rfl
   |cons=>exact absurd rfl hL
  subst hL;symm;refine q ks I.nd (λk=>⟨λhk=>(I.r k hk).2,λhk=>?_⟩) λk hk=>(I.r k hk).1;have cl:∀x k,(x∈ws\/∃j∈ks,x∈pwI os j)->K1 ms x k->k∈ks:=λx k h1 h2=>(I.c x k h1 h2).elim id λz=>nomatch z
  induction hk with
  |of h1 h2=>exact cl _ _ (.inl h1) h2
  |to _ h1 h2 ih=>exact cl _ _ (.inr ⟨_,ih,h1⟩) h2
theorem Yu{os:List Int}:∀(n k:Nat),os.length-k<=n->(thI bits sm os k).2.Pairwise (λa b=>a+szK os a<=b)
 |n,k,hn=>by
  by_cases hk:k<os.length
  ·obtain⟨x,hx⟩:∃x,os[k]?=some x:=⟨_,Df hk⟩
   cases hb:xx bits sm os k x with
   |none=>
    have hs:=zN hb;rw[VO hx hb]
    match n,hn with
    |0,hn=>lia
    |n+1,hn=>
     refine DY.mpr ⟨λj hj=>?_,Yu n _ (by lia)⟩;have:=(VP _ _ (Dk _) j hj).1;have e:szK os k=(qT x).toNat:=by unfold szK;rw[hx];rfl
     lia
   |some w=>
    rw[Qe,show badK bits sm os k=some w by unfold badK;rw[hx];exact hb];split
    ·exact .nil
    ·exact .nil
  ·rw[j8 (by lia)]
   exact .nil
theorem Hds.gap{os:List Int}(h:Hds os hs):hs.Pairwise (λa b=>a+szK os a<=b):=by
 obtain⟨bits,sm,_,rfl⟩:=h.ex;exact Yu _ _ (Dk _)
theorem Hds.sz{os:List Int}(h:Hds os hs)(hk:k∈hs):k<os.length/\k+szK os k<=os.length/\2<=szK os k/\∃x,os[k]?=some x/\szK os k=(qT x).toNat/\2<=qT x:=by
 obtain⟨bits,sm,_,rfl⟩:=h.ex;obtain⟨_,h1,x,hx,hb⟩:=VP _ _ (Dk _) k hk;have h2:=zN hb;have e:szK os k=(qT x).toNat:=by unfold szK;rw[hx];rfl
 exact⟨h1,by lia,by lia,x,hx,e,h2.1⟩
noncomputable def offs(os:List Int):List Nat->Nat->List (Nat×Nat)
 | [],_=>[]
 |k::r,n=>(k,n)::offs os r (n+szK os k)
noncomputable def szs(os:List Int)(rs:List Nat):Nat:=(rs.map (szK os)).sum
theorem JN{os:List Int}:∀{r:List Nat}{k n:Nat},offs os (r++[k]) n=offs os r n++[(k,n+szs os r)]
 | [],k,n=>by simp[offs,szs]
 |j::r,k,n=>by
  show _::offs os (r++[k]) _=_::(offs os r _++[_]);rw[JN];simp[szs,DD,Bk,Nat.add_assoc]
theorem jW{os:List Int}:∀{r:List Nat}{n:Nat},(offs os r n).map (·.1)=r
 | [],_=>rfl
 |k::r,n=>Um _ jW
theorem WW{os:List Int}:∀{rs:List Nat}{n:Nat},rs.Pairwise (λa b=>a+szK os a<=b)->(∀k∈rs,n<=k)->∀p∈offs os rs n,p.2<=p.1
 | [],_,_,_=>λp hp=>nomatch hp
 |k::r,n,h,hn=>λp hp=>by
  rw[DY]at h;rcases Dl.mp hp with rfl|hp
  ·exact hn k (.head _)
  ·exact WW h.2 (λj hj=>by have:=h.1 j hj;have:=hn k (.head _);lia) p hp
noncomputable def plD(os:List Int)(rs:List Nat):List (Key×U):=(offs os rs 0).map λp=>(Key.inl (p.1:Int),U.p (.int (p.2:Int)))
theorem Wn{os:List Int}:(plD os rs).length=rs.length:=by
 unfold plD;rw[Dg, <-Dg,jW]
theorem q5k{os:List Int}{k:Nat}(h:k∉rs):putU (plD os rs) (.inl (k:Int)) (.p (.int (szs os rs:Int)))=plD os (rs++[k]):=by
 rw[jU]
 ·unfold plD
  rw[JN,Dq,Re];rfl
 ·intro kv hkv z
  obtain⟨p,hp,rfl⟩:=DL.mp hkv;injection z with z
  have:p.1∈rs:=by
   have:=RA (f:=Prod.fst) hp;rwa [jW]at this
  exact h ((by exact_mod_cast z:p.1=k)▸this)
theorem q5n{os:List Int}:szs os (rs++[k])=szs os rs+szK os k:=by
 unfold szs;simp
noncomputable abbrev Qw:Stmt:=top 39
def q2C:List U->MM->UK->Prop:=λus M Q=>∃(os:List Int)(hs ks:List Nat)(kd:Nat),us=[.p (qC os),.m kd]/\M[kd]?=some (.dK (vZ ks))/\Hds os hs/\Q (.m M.length) (M++[.dK (plD os (hs.filter λk=>decide (k∈ks)))])
theorem q0c(F:Fun Ξ "new_places" "new_places" Qw f fd)(ci:Def P w Ξ mg base "heads_in" 2 ["outside"] (spP q2o))(aG:Def P w Ξ mg base "size_at" 1 ["outside","address"] (spP Zx)):FnOk P w Ξ mg base CX0 3 f fd ["outside","reached"] (spU q2C):=by
 exists F.zU, ["outside","reached","places","filled","address"],qb (ql (i:=2) nd rfl Wr ky) (qb (ql (i:=3) nd rfl Wr qa) (qb (z0 PassesOwn.never rfl (qY (Ξ:=Ξ) rfl (qf ci (Wh hr) (qa1 qv0))) (vd (i:=4) nd rfl Wr) (qc (qI (q2X (zt hr) qv4 qv1) (qb (ku (zt hr) qv2 qv4 qv3) (qc (q2p (i:=3) nd rfl Wr (qf aG (Wh hr) (qa2 qv0 qv4)) q26))) qt))) (qc (qi qv2)))),(qj (qM kW (qF 2)) (qj (by right) (qj (QQ (by right) (qF 4) (xh (ct_b (q2t (qk 4) (qk 1))) (by right) vG)) (by right))));rintro us M Qu ⟨os,hs,ks,kd,rfl,gG,hH,q⟩;have bz:=(Dc.mp gG).1;symm;refine⟨os,hs,rfl,hH,?_⟩;symm;refine VM (λi ρ M'=>∃x4,ρ=[some (.p (qC os)),some (.m kd),some (.m M.length),some (.p (.int (szs os ((hs.take i).filter λk=>decide (k∈ks)):Int))),x4]/\M'=M++[.dK (plD os ((hs.take i).filter λk=>decide (k∈ks)))]) ⟨_,rfl,rfl⟩ (λi t ρ M' ht hI=>?_) (λρ M' hI=>?_)
 ·obtain⟨x4,rfl,rfl⟩:=hI
  rw[Dy]at ht;obtain⟨k,hk,rfl⟩:=DO.mp ht;have mF:=Dh hk;obtain⟨z1,z2,z3,x,hx,dY,eY⟩:=hH.sz mF;have au:=hH.len;have il:=(Dc.mp hk).1;have gO:hs.take (i+1)=hs.take i++[k]:=by rw[RL,hk];rfl
  have g0:(M++[MO.dK (plD os ((hs.take i).filter λk=>decide (k∈ks)))])[kd]?=some (.dK (vZ ks)):=by rw[De bz];exact gG
  symm;refine Vy g0 ?_;rw[Ui (by decide),jf];symm;refine ite2 (λbf=>?_) (λbf=>?_)
  ·have bf:k∈ks:=by simpa using bf
   have gA:k∉(hs.take i).filter λk=>decide (k∈ks):=λz=>q4f hH.lt hk k (DB.mp z).1 rfl;have hf:(hs.take (i+1)).filter (λk=>decide (k∈ks))=(hs.take i).filter (λk=>decide (k∈ks))++[k]:=by rw[gO,D6];simp[bf]
   symm;refine jk (kvs:=plD os ((hs.take i).filter λk=>decide (k∈ks))) (by simp) (by rw[Wn,Uk];have:=Ru (λk=>decide (k∈ks)) (hs.take i);rw[D0]at this;lia) ?_;rw[q5k gA, <-hf,show ∀a b:MO,(M++[a]).set M.length b=M++[b]from λa b=>by simp];simp only[uAug];symm;refine⟨_,rfl,os,k,x,rfl,hx,_,rfl,?_⟩;refine⟨some (.p (.int k)),?_⟩;have e:((szs os ((hs.take i).filter λk=>decide (k∈ks))+(qT x).toNat:Nat):Int)=(szs os ((hs.take i).filter λk=>decide (k∈ks)):Int)+qT x:=by push_cast;lia
   rw[hf,q5n,dY,e]
  ·have bf:k∉ks:=by simpa using bf
   have hf:(hs.take (i+1)).filter (λk=>decide (k∈ks))=(hs.take i).filter (λk=>decide (k∈ks)):=by rw[gO,D6];simp[bf]
   rw[hf];exact⟨_,rfl,rfl⟩
 ·obtain⟨x4,rfl,rfl⟩:=hI
  symm;rw[Dg,DF];exact q
noncomputable def plAt(os:List Int)(rs:List Nat)(k:Nat):Nat:=((offs os rs 0).lookup k).getD 0
theorem Ve{os:List Int}:∀{rs:List Nat}{n:Nat},k∈rs->∃a,(k,a)∈offs os rs n/\(offs os rs n).lookup k=some a/\valU ((offs os rs n).map λp=>(Key.inl (p.1:Int),U.p (.int (p.2:Int)))) (.inl (k:Int))=some (.p (.int (a:Int)))
 | [],_,h=>nomatch h
 |j::r,n,h=>by
  by_cases e:j=k
  ·subst e
   exact⟨n,.head _,by simp[offs],by simp[offs,valU]⟩
  ·have hk:=(Dl.mp h).elim (λz=>absurd z.symm e) id
   obtain⟨a,h1,h2,h3⟩:=Ve hk;have ne:¬((Key.inl j:Key)=Key.inl k):=λz=>e (by injection z with z;exact_mod_cast z);refine⟨a,.tail _ h1,?_,?_⟩
   ·show List.lookup k (_::_)=_
    rw[DP,beq_eq_false_iff_ne.mpr (Ne.symm e)];exact h2
   ·unfold valU at h3 ⊢
    show Option.map _ (List.find? _ (_::_))=_;rw[RE];simp only[ne,UU];exact h3
theorem q5d{os:List Int}{k:Nat}(h:k∈rs):valU (plD os rs) (.inl (k:Int))=some (.p (.int (plAt os rs k:Int))):=by
 obtain⟨a,_,h2,h3⟩:=Ve (os:=os) (n:=0) h;unfold plD plAt;rw[h3,h2];rfl
theorem q5y{os:List Int}(g:rs.Pairwise (λa b=>a+szK os a<=b))(h:k∈rs):plAt os rs k<=k:=by
 obtain⟨a,h1,h2,_⟩:=Ve h;unfold plAt;rw[h2];exact WW g (λ_ _=>DG _) _ h1
structure MV(bits:Int)(ms:List Mk3)(os:List Int)(rs:List Nat):Prop where
 R:Right bits ms
 g:rs.Pairwise (λa b=>a+szK os a<=b)
 l:∀k∈rs,k<os.length
 f:∀m∈ms,m.1 = "far" \/ m.1 = "pair" -> (os.length:Int)<=2^(bits-m.2.1).toNat
noncomputable def mvW(bits:Int)(ms:List Mk3)(pl:Nat->Nat)(a8:Int):Int:=match ms.filter (on a8) with
 | []=>a8
 |m::_=>if m.1 = "far" \/ m.1 = "pair" then xy bits m (pl (a8 / 2^m.2.1.toNat).toNat) else a8
noncomputable abbrev Qx:Stmt:=top 40
def XU:List U->MM->UK->Prop:=λus M Q=>∃(bits:Int)(ms:List Mk3)(os:List Int)(rs:List Nat)(a8:Int)(kd:Nat)(ob:Obj)(gs:List (Key×V)),us=[.p (layT bits ms),.m kd,.p (.int a8)]/\M[kd]?=some (.dF (plD os rs) ob gs)/\MV bits ms os rs/\(∀s a,xj a8 ms=some (s,a)->∃k∈rs,a=(k:Int))/\Q (.p (.int (mvW bits ms (plAt os rs) a8))) M
theorem WR(F:Fun Ξ "moved_word" "moved_word" Qx f fd)(az:Def P w Ξ mg base "address_of" 3 ["laying","word"] (spP q11))(ay:Def P w Ξ mg base "mark_of" 2 ["laying","word"] (spP ju))(aA:Def P w Ξ mg base "word_of" 3 ["laying","worth"] (spP xO)):FnOk P w Ξ mg base CX0 4 f fd ["laying","places","word"] (spU XU):=by
 exists F.zU, ["laying","places","word","address"],qb (ql (i:=3) nd rfl Wr (qf az (Wh hr) (qa2 qv0 qv2))) (qb (qI (qg JM qv3 vN (qo _)) (qc (qi qv2)) qt) (qc (qi (qf aA (Wh hr) (qa2 qv0 (qy (qa2 (qf ay (Wh hr) (qa2 qv0 qv2)) (zd (zt hr) qv1 qv3 (λ_ _=>rfl))))))))),(qj (by right) (qj (by right) (vS (xt (qq (qk 0) (qq (ZU (qq (by right) (qq (q1s (qk 1) (qk 3)) qK))) qK))))));rintro us M Qu ⟨bits,ms,os,rs,a8,kd,ob,gs,rfl,gG,hV,hl,q⟩;have hR:=hV.R;symm;refine⟨bits,ms,a8,rfl,hR,?_⟩;unfold mvW at q;have ea:xj a8 ms=match ms.filter (on a8) with
  | []=>none
  |m::_=>if m.1 = "far" \/ m.1 = "pair" then some (m.1,a8 / 2^m.2.1.toNat) else none:=rfl
 cases e:ms.filter (on a8) with
 |nil=>
  rw[e]at q ea;rw[ea];unfold K9;symm;exact q
 |cons m r=>
  rw[e]at q ea;have aI:m∈ms:=(DB.mp (by rw[e];exact DH)).1;by_cases hm:m.1 = "far" \/ m.1 = "pair"
  ·have q:Qu (.p (.int (xy bits m (plAt os rs (a8 / 2^m.2.1.toNat).toNat)))) M:=by
    have:=q;dsimp only at this;rwa [Ul hm]at this
   have ea:xj a8 ms=some (m.1,a8 / 2^m.2.1.toNat):=by rw[ea];exact Ul hm
   obtain⟨k,hk,oh⟩:=hl _ _ ea;rw[ea];rw[oh,Int.toNat_natCast]at q;unfold K9;dsimp only;rw[oh];symm;refine⟨bits,ms,a8,rfl,hR.wd,by rw[hR.n];decide,?_⟩;unfold xK;rw[e];symm;simp only[q35];symm;refine⟨kd,_,_,_,.inl (k:Int),_,rfl,gG,rfl,q5d hk,?_⟩;symm;have eV:=hR.w m aI;have cA:=vY m.1;have hb:=hR.b;have bw:=hV.l k hk;have bQ:=q5y hV.g hk;have hf:=hV.f m aI hm;exact⟨bits,ms,_,m.1,(plAt os rs k:Int),m,rfl,by rw[hR.n];decide,.tup _,hR.ofKind aI,by lia,by lia,by lia,.inr ⟨by lia,by lia⟩,q⟩
  ·have q:Qu (.p (.int a8)) M:=by
    have:=q;dsimp only at this;rwa [Ui hm]at this
   have ea:xj a8 ms=none:=by rw[ea];exact Ui hm
   rw[ea];unfold K9;symm;exact q
noncomputable def mvT(bits:Int)(ms:List Mk3)(os:List Int)(pl:Nat->Nat)(k:Nat):List Int:=if os[k]?=some 1 then 1::(pwI os k).map (mvW bits ms pl) else(os.drop k).take (szK os k)
noncomputable abbrev ko:Stmt:=top 41
theorem Vg:(["laying","places","outside","address","word"]:List Str).Nodup:=by decide+kernel
def GR:List U->MM->UK->Prop:=λus M Q=>∃(bits:Int)(ms:List Mk3)(os:List Int)(rs:List Nat)(k:Nat)(x:Int)(kd:Nat)(ob:Obj)(gs:List (Key×V)),us=[.p (layT bits ms),.m kd,.p (qC os),.p (.int k)]/\M[kd]?=some (.dF (plD os rs) ob gs)/\MV bits ms os rs/\os[k]?=some x/\2<=qT x/\k+qT x<=os.length/\os.length<=1000/\(∀a8∈pwI os k,∀s a,xj a8 ms=some (s,a)->∃k∈rs,a=(k:Int))/\Q (.p (qC (mvT bits ms os (plAt os rs) k))) M
theorem WS(F:Fun Ξ "moved_thing" "moved_thing" ko f fd)(b3:GInt mg "PAIR_HEAD" 1)(aE:Def P w Ξ mg base "pair_words_at" 1 ["outside","address"] (spP GQ))(aM:Def P w Ξ mg base "moved_word" 4 ["laying","places","word"] (spU XU))(aG:Def P w Ξ mg base "size_at" 1 ["outside","address"] (spP Zx)):FnOk P w Ξ mg base CX0 5 f fd ["laying","places","outside","address"] (spU GR):=by
 exists F.zU, ["laying","places","outside","address"],qb (qI (qg op_eq (qh (Ua Ξ) qv2 qv3 (λ_ _=>rfl)) (zI b3 rfl) (qo _)) (qc (qi (qm jb (qA (qa1 (zI b3 rfl))) (jO [true,true,false,false] ["word"] (qY (Ξ:=Ξ) rfl (qf aE (Wh hr) (qa2 qv2 qv3))) (λ_ _ _=>(vd (i:=4) Vg rfl Wr)) (λ_ _ _=>jm) (λ_ _ _=>(qf aM (Wh hr) (qa3 qv0 qv1 qv4))))))) qt) (qc (qi (vm (Gm Ξ) qv2 (vf qv3) (vf (qm qH qv3 (qf aG (Wh hr) (qa2 qv2 qv3)))))));rintro us M Qu ⟨bits,ms,os,rs,k,x,kd,ob,gs,rfl,gG,hV,hx,eY,he,hz,hl,q⟩;symm;refine qR (atT hx) ?_;symm;unfold mvT at q;refine ite2 (λz=>?_) (λz=>?_)
 ·subst z
  rw[Ul hx]at q;symm;refine⟨os,k,1,rfl,hx,he,?_⟩;symm;have bQ:=Vc (os:=os) (k:=k);refine zj (by rw[Dg,Uk];lia) (λi a7 M2=>M2=M/\a7=((pwI os k).take i).map λy=>T.int (mvW bits ms (plAt os rs) y)) ⟨rfl,rfl⟩ (λi t a7 M2 ht _ hI=>?_) (λa7 M2 hI=>?_)
  ·obtain⟨rfl,rfl⟩:=hI
   rw[Dy]at ht;obtain⟨y,hy,rfl⟩:=DO.mp ht;symm;refine⟨bits,ms,os,rs,y,kd,ob,gs,rfl,gG,hV,hl y (Dh hy),_,rfl,rfl,?_⟩;rw[RL,hy,Dq];rfl
  ·obtain⟨rfl,rfl⟩:=hI
   rw[Dg,DF];symm;refine⟨by rw[Dg,Uk];lia,?_⟩;have e:qC (1::(pwI os k).map (mvW bits ms (plAt os rs)))=.lst (T.int 1::(pwI os k).map λy=>T.int (mvW bits ms (plAt os rs) y)):=by
    show T.lst (List.map T.int (1::List.map _ _))=_;rw[DD,RB];rfl
   rw[e]at q;exact q
 ·rw[Ui (by rw[hx];exact λy=>z (Option.some.inj y))]at q
  symm;refine⟨os,k,x,rfl,hx,?_⟩;symm;have e:(k:Int)+qT x=((k+(qT x).toNat:Nat):Int):=by push_cast;lia
  have ez:szK os k=(qT x).toNat:=by unfold szK;rw[hx];rfl
  rw[e,qac (by lia) (by lia),show k+(qT x).toNat-k=szK os k by lia];exact q
noncomputable def rsOf(ms:List Mk3)(ws os:List Int)(hs:List Nat):List Nat:=hs.filter λk=>@decide (Rch ms ws os k) (Classical.propDecidable _)
noncomputable def swW(bits:Int)(ms:List Mk3)(ws os:List Int)(hs:List Nat):List Int:=ws.map (mvW bits ms (plAt os (rsOf ms ws os hs)))
noncomputable def swO(bits:Int)(ms:List Mk3)(ws os:List Int)(hs:List Nat):List Int:=(rsOf ms ws os hs).flatMap (mvT bits ms os (plAt os (rsOf ms ws os hs)))
theorem q55{os:List Int}{k:Nat}(hx:os[k]?=some x)(he:k+qT x<=os.length)(h2:2<=qT x):(mvT bits ms os pl k).length=szK os k:=by
 have ez:szK os k=(qT x).toNat:=by unfold szK;rw[hx];rfl
 unfold mvT;split
 ·have:qT 1=3:=rfl
  rw[Dv,Dg];unfold pwI
  grind
 ·grind
theorem q0O(Iv:Nat->UEnv->MM->Prop)(h0:Iv 0 ρ M)(hk:∀i ar M2,Iv i ar M2->M2[d]?=some (.dF kvs ob gs))(hs:∀i aD v ar M2,kvs[i]?=some (aD,v)->Iv i ar M2->ug (keyU aD) ar M2 λeI M3=>ub { E with nx:=Iv (i+1),ct:=Iv (i+1),bk:=E.nx } eI M3)(hd:∀ar M2,Iv kvs.length ar M2->E.nx ar M2):UFor (itD false d kvs ob gs) ug ub E ρ M :=
 ⟨Iv,h0,λi ar M2 hi h=>⟨hk i ar M2 h,λu hu=>by
  obtain⟨aD,v,hkv,e⟩:=hu;subst e;exact hs i aD v ar M2 hkv h⟩,λar M2 h=>⟨hk _ ar M2 h,hd ar M2 h⟩⟩
noncomputable abbrev q2L:Stmt:=top 42
theorem q0T:(["laying","words","outside","places","left","address","word"]:List Str).Nodup:=by decide+kernel
def q2i:List U->MM->UK->Prop:=λus M Q=>∃(bits:Int)(ms:List Mk3)(ws os:List Int)(hs:List Nat),us=[.p (layT bits ms),.p (qC ws),.p (qC os)]/\SI bits ms ws os hs/\(∀m∈ms,m.1 = "far" \/ m.1 = "pair" -> (os.length:Int)<=2^(bits-m.2.1).toNat)/\∀ks rs ob gs,Q (.m (M.length+5)) (M++[.dK (vZ ks),.lst [],.dF (plD os rs) ob gs,.lst (((swO bits ms ws os hs).map T.int).map U.p),.lst (((swW bits ms ws os hs).map T.int).map U.p),.tup [.m (M.length+4),.m (M.length+3)]])
theorem q17(F:Fun Ξ "swept" "swept" q2L f fd)(b4:Def P w Ξ mg base "reached_from" 4 ["laying","words","outside"] (spU q2A))(bD:Def P w Ξ mg base "new_places" 3 ["outside","reached"] (spU q2C))(bn:Def P w Ξ mg base "moved_thing" 5 ["laying","places","outside","address"] (spU GR))(aM:Def P w Ξ mg base "moved_word" 4 ["laying","places","word"] (spU XU)):FnOk P w Ξ mg base CX0 6 f fd ["laying","words","outside"] (spU q2i):=by
 exists F.zU, ["laying","words","outside","places","left","address"],qb (ql (i:=3) nd rfl Gj (qf bD (Wh hr) (qa2 qv2 (qf b4 (Wh hr) (qa3 qv0 qv1 qv2))))) (qb (ql (i:=4) nd rfl Wr (qA zm)) (qb (z0 PassesOwn.never rfl (q46 qv3) (vd (i:=5) nd rfl Wr) (qc (vj (jN PySem.F.slot_list_extend PySem.F.type_list_extend kB qv4 (qa1 (qf bn (Wh hr) (qa4 qv0 qv3 qv2 qv5))))))) (qc (qi (qy (qa2 (jO [true,false,false,true,false,false] ["word"] (qY (Ξ:=Ξ) rfl qv1) (λ_ _ _=>(vd (i:=6) q0T rfl Wr)) (λ_ _ _=>jm) (λ_ _ _=>(qf aM (Wh hr) (qa3 qv0 qv3 qv6)))) qv4)))))),(qj (by right) (qj (qM (zr qK) (qF 4)) (qj (QQ (q3X (qk 3)) (qF 5) (by right)) (vS (q40 (qq (Kl (VA (qk 1)) (VB 6) q2D (zB (qq (qk 0) (qq (qk 3) (qq (qk 6) qK))))) (by right)))))));rintro us M1 Qu ⟨bits,ms,ws,os,hs,rfl,hS,hf,q⟩;have hz:=hS.h.z;symm;refine⟨bits,ms,ws,os,hs,rfl,hS,λks nd hk hkh=>?_⟩;symm;refine⟨os,hs,ks,M1.length,rfl,by simp,hS.h,?_⟩;have sM:(hs.filter λk=>decide (k∈ks))=rsOf ms ws os hs:=by
  unfold rsOf;refine Bf λk _=>?_;by_cases h:Rch ms ws os k
  ·rw[Ux ((hk k).mpr h),@decide_eq_true _ (Classical.propDecidable _) h]
  ·rw[Us λz=>h ((hk k).mp z),@decide_eq_false _ (Classical.propDecidable _) h]
 rw[sM];generalize hgr:rsOf ms ws os hs=rs;symm;simp only[DC,Ro,Rh,Dj,Dv,D4,Re,Nat.reduceAdd];have g2:∀a b c d:MO,(M1++[a,b,c,d])[M1.length+2]?=some c:=λa b c d=>by simp
 have g3:∀a b c d:MO,(M1++[a,b,c,d])[M1.length+3]?=some d:=λa b c d=>by simp
 have t2:∀a b c d e:MO,(M1++[a,b,c,d]).set (M1.length+2) e=M1++[a,b,e,d]:=λa b c d e=>by simp
 have t3:∀a b c d e:MO,(M1++[a,b,c,d]).set (M1.length+3) e=M1++[a,b,c,e]:=λa b c d e=>by simp
 have iz:∀k∈rs,k∈hs/\Rch ms ws os k:=λk z=>by
  rw[<-hgr]at z;have z:=DB.mp z;exact⟨z.1,@of_decide_eq_true _ (Classical.propDecidable _) z.2⟩
 have oi:∀k∈hs,Rch ms ws os k->k∈rs:=λk h1 h2=>by
  rw[<-hgr];exact DB.mpr ⟨h1,@decide_eq_true _ (Classical.propDecidable _) h2⟩
 have hV:MV bits ms os rs:=⟨hS.R,by rw[<-hgr];exact hS.h.gap.sublist RY,λk z=>(hS.h.sz (iz k z).1).1,hf⟩;have mI:rs.length<=1000:=by rw[<-hgr];exact DA (Ru _ _) hS.h.len
 simp only[q4G];symm;refine⟨M1.length+2,plD os rs,rfl,.inl ⟨g2 _ _ _ _,λob gs=>?_⟩⟩;rw[t2];generalize ea0:MO.dK (vZ ks)=a0;refine q0O (λi ρ M'=>∃x5,ρ=[some (.p (layT bits ms)),some (.p (qC ws)),some (.p (qC os)),some (.m (M1.length+2)),some (.m (M1.length+3)),x5]/\M'=M1++[a0,MO.lst [],.dF (plD os rs) ob gs,.lst ((((rs.take i).flatMap (mvT bits ms os (plAt os rs))).map T.int).map U.p)]) ⟨_,rfl,rfl⟩ (λi ρ M' h=>by obtain⟨_,_,rfl⟩:=h;exact g2 _ _ _ _) (λi aD v ρ M' hkv hI=>?_) (λρ M' hI=>?_)
 ·obtain⟨x5,rfl,rfl⟩:=hI
  unfold plD at hkv;rw[Dy]at hkv;obtain⟨p,hp,sN⟩:=DO.mp hkv;cases sN;have mV:rs[i]?=some p.1:=by
   have:=Um (λl=>l[i]?) (jW (os:=os) (r:=rs) (n:=0));rw[Dy,hp]at this;exact this.symm
  have l7:=Dh mV;obtain⟨z1,z2,z3,x,hx,dY,eY⟩:=hS.h.sz (iz _ l7).1;have gE:=(iz _ l7).2;symm;refine⟨_,rfl,⟨_,g3 _ _ _ _⟩,?_⟩;symm;refine⟨bits,ms,os,rs,p.1,x,M1.length+2,ob,gs,rfl,g2 _ _ _ _,hV,hx,eY,by lia,hz,λy hy s a ha=>?_,?_⟩
  ·obtain⟨k,hk,rfl⟩:=hS.o _ (iz _ l7).1 y hy s a ha
   exact⟨k,oi k hk (.to gE hy ⟨s,ha⟩),rfl⟩
  dsimp only;have il:=(Dc.mp mV).1;have oj:∀k∈rs,(mvT bits ms os (plAt os rs) k).length<=1000:=λk hk=>by
   obtain⟨_,y2,_,y,hy,og,sO⟩:=hS.h.sz (iz _ hk).1;rw[q55 hy (by lia) sO];lia
  have se:((rs.take i).flatMap (mvT bits ms os (plAt os rs))).length<=1000*i:=by
   have:∀l:List Nat,(∀k∈l,k∈rs)->(l.flatMap (mvT bits ms os (plAt os rs))).length<=1000*l.length:=λl=>by
    induction l with
    |nil=>exact λ_=>Dk _
    |cons a l ih=>
     intro h;have h1:=oj a (h a (.head _));have h2:=ih λk hk=>h k (.tail _ hk);rw[Rv,Dj,Dv];lia
   refine DA (this _ λk hk=>Rm hk) ?_;rw[D0];lia
  have mR:=oj _ l7;refine⟨_,g3 _ _ _ _,_,rfl,?_,_,rfl,?_⟩
  ·simp only[Dg];rw[Uk];lia
  ·rw[t3, <-Dq, <-Dq,RL,mV,DT]
   simp
 ·obtain⟨x5,rfl,rfl⟩:=hI
  symm;rw[Wn,DF];have hn:=hS.n;generalize hgo:rs.flatMap (mvT bits ms os (plAt os rs))=os2;rw[Jj];symm;refine UComp.new (R:=λu M'=>M'=M1++[a0,MO.lst [],MO.dF (plD os rs) ob gs,.lst ((os2.map T.int).map U.p)]/\u=.p (.lst (ws.map λy=>T.int (mvW bits ms (plAt os rs) y)))) (zj (by rw[Dg,Uk];lia) (λi a7 M2=>M2=M1++[a0,MO.lst [],MO.dF (plD os rs) ob gs,.lst ((os2.map T.int).map U.p)]/\a7=(ws.take i).map λy=>T.int (mvW bits ms (plAt os rs) y)) ⟨rfl,rfl⟩ (λi t a7 M2 ht _ hI=>?_) (λa7 M2 hI=>?_)) (λa7 M2 hI=>?_)
  ·obtain⟨rfl,rfl⟩:=hI
   rw[Dy]at ht;obtain⟨y,hy,rfl⟩:=DO.mp ht;have ol:=Dh hy;symm;refine⟨bits,ms,os,rs,y,M1.length+2,ob,gs,rfl,g2 _ _ _ _,hV,λs a ha=>?_,_,rfl,rfl,?_⟩
   ·obtain⟨k,hk,rfl⟩:=hS.w y ol s a ha
    exact⟨k,oi k hk (.of ol ⟨s,ha⟩),rfl⟩
   rw[RL,hy,Dq];rfl
  ·obtain⟨rfl,rfl⟩:=hI
   rw[Dg,DF];exact⟨rfl,rfl⟩
  ·obtain⟨rfl,ea⟩:=hI
   cases ea;have q:=q ks rs ob gs;rw[ea0]at q;unfold swW swO at q;rw[hgr,hgo,show List.map T.int (List.map (mvW bits ms (plAt os rs)) ws)=List.map (λy=>T.int (mvW bits ms (plAt os rs) y)) ws from by rw[RB];rfl]at q;simp only[DC,Ro,Rh,Dj,Dv,D4,Re,Nat.reduceAdd];exact q
noncomputable def fldC(bits:Int)(ms:List Mk3)(room:Int)(h kp:Nat)(qu sl sw:Int):List (Str×U):=[("laying",.p (layT bits ms)),("room",.p (.int room)),("held",.m h),("kept",.m kp),("quick",.p (.int qu)),("slow",.p (.int sl)),("sweeps",.p (.int sw))]
structure q00(Ξ:PySem.W.Frag)(C:Addr):Prop where
 c:Cls Ξ C
 n1:NoAttr Ξ C "laying"
 n2:NoAttr Ξ C "room"
 n3:NoAttr Ξ C "held"
 n4:NoAttr Ξ C "kept"
 n5:NoAttr Ξ C "quick"
 n6:NoAttr Ξ C "slow"
 n7:NoAttr Ξ C "sweeps"
noncomputable abbrev iM(l:List Int):MO:=.lst ((l.map T.int).map U.p)
def Frm(M M':MM)(F:List Nat):Prop:=M.length<=M'.length/\∀i,i<M.length->i∉F->M'[i]?=M[i]?
theorem Frm.refl:Frm M M F:=⟨Dk _,λ_ _ _=>rfl⟩
theorem Frm.trans{M M1 M2:MM}(a:Frm M M1 F)(b:Frm M1 M2 G)(h:∀i∈G,i∈F\/M.length<=i):Frm M M2 F :=
 ⟨DA a.1 b.1,λi hi hn=>(b.2 i (Dx hi a.1) λz=>(h i z).elim hn λz=>absurd hi (R9.mpr z)).trans (a.2 i hi hn)⟩
structure StS(C:Addr)(M:MM)(s h kp:Nat)(bits:Int)(ms:List Mk3)(room:Int)(ws os:List Int)(qu sl sw:Int):Prop where
 s0:M[s]?=some (.ins C (fldC bits ms room h kp qu sl sw))
 h0:M[h]?=some (iM ws)
 k0:M[kp]?=some (iM os)
 sh:s≠h
 sk:s≠kp
 hk:h≠kp
theorem q5z:MO.sh n (iM l)=iM l:=by
 show MO.lst _=_;rw[RB];rfl
theorem V8:k8 "held" (.m a) (fldC bits ms room h kp qu sl sw)=fldC bits ms room a kp qu sl sw:=by rfl
theorem V7:k8 "kept" (.m a) (fldC bits ms room h kp qu sl sw)=fldC bits ms room h a qu sl sw:=by rfl
theorem Xy:k8 "sweeps" (.p (.int x)) (fldC bits ms room h kp qu sl sw)=fldC bits ms room h kp qu sl x:=by rfl
noncomputable abbrev ki:Stmt:=qx (top 47) 3
def GK(C:Addr):List U->MM->UK->Prop:=λus M Q=>∃(s h kp:Nat)(bits:Int)(ms:List Mk3)(room:Int)(ws os:List Int)(qu sl sw:Int)(hs:List Nat),us=[.m s]/\StS C M s h kp bits ms room ws os qu sl sw/\SI bits ms ws os hs/\(∀m∈ms,m.1 = "far" \/ m.1 = "pair" -> (os.length:Int)<=2^(bits-m.2.1).toNat)/\∀M' h' bA,Frm M M' [s]->M.length<=h'->M.length<=bA->StS C M' s h' bA bits ms room (swW bits ms ws os hs) (swO bits ms ws os hs) qu sl (sw+1)->Q (.p .non) M'
theorem q0o(F:Fun Ξ "sweep" "Store.sweep" ki f fd)(TP:q00 Ξ C)(dy:Def P w Ξ mg base "swept" 6 ["laying","words","outside"] (spU q2i)):FnOk P w Ξ mg base CX0 7 f fd ["self"] (spU (GK C)):=by
 exists F.zU, ["self","left"],qb (ql (i:=1) nd rfl Wr (qf dy (Wh hr) (qa3 (qG qv0 rfl) (qG qv0 rfl) (qG qv0 rfl)))) (qb (xa qv0 (qh (Ub Ξ) qv1 qa (λ_ _=>rfl)) rfl) (qb (xa qv0 (qh (Ub Ξ) qv1 qa (λ_ _=>rfl)) rfl) (qc (Y9 qv0 qa)))),(qj (qM (q1S (by right)) (qF 1)) (by right));rintro us M Qu ⟨s,h,kp,bits,ms,room,ws,os,qu,sl,sw,hs,rfl,S,hS,hf,q⟩;symm;simp only[Yn];symm;refine zq TP.c TP.n1 S.s0 (by rfl) ?_;symm;refine zq TP.c TP.n3 S.s0 (by rfl) ?_;symm;refine zq TP.c TP.n4 S.s0 (by rfl) ?_;symm;have mW:=(Dc.mp S.s0).1;refine⟨[layT bits ms,qC ws,qC os],by simp only[frzs,ZD,kP S.h0,kP S.k0],bits,ms,ws,os,hs,rfl,hS,hf,λks rs ob gs=>⟨trivial,λo ho=>?_,?_⟩⟩
 ·have fi:∀l:List Int,(MO.lst ((l.map T.int).map U.p)).flat:=λl u hu=>by
   obtain⟨t,ht,rfl⟩:=DL.mp hu;obtain⟨n,_,rfl⟩:=DL.mp ht;exact⟨_,rfl⟩
  simp only[Rh,Dl,DU,UP]at ho;rcases ho with rfl|rfl|rfl|rfl|rfl|rfl
  ·intro p hp
   obtain⟨k,_,rfl⟩:=DL.mp hp;exact⟨_,rfl⟩
  ·exact λu hu=>nomatch hu
  ·intro p hp
   obtain⟨k,_,rfl⟩:=DL.mp hp;exact⟨_,rfl⟩
  ·exact fi _
  ·exact fi _
  ·intro u hu
   simp only[Dl,DU,UP]at hu;rcases hu with rfl|rfl<;>trivial
 generalize ea:MO.sh M.length (.dK (vZ ks))=a;generalize eb:MO.sh M.length (.lst [])=b;generalize ec:MO.sh M.length (.dF (plD os rs) ob gs)=c;have eM:∀gH fH:List Int,M++List.map (MO.sh M.length) ([]++[.dK (vZ ks),.lst [],.dF (plD os rs) ob gs,iM fH,iM gH,.tup [.m ([]:MM).length.succ.succ.succ.succ,.m 3]])=M++[a,b,c,iM fH,iM gH,.tup [.m (M.length+4),.m (M.length+3)]]:=λgH fH=>by
  rw[<-ea, <-eb, <-ec];simp only[Rh,DD,By,q5z];rfl
 have eM:=eM (swW bits ms ws os hs) (swO bits ms ws os hs);generalize swW bits ms ws os hs=gH at *;generalize swO bits ms ws os hs=fH at *;show uSeq _ _ _ [some (.m s),some (.m (M.length+5))] (M++List.map (MO.sh M.length) ([]++[.dK (vZ ks),.lst [],.dF (plD os rs) ob gs,iM fH,iM gH,.tup [.m ([]:MM).length.succ.succ.succ.succ,.m 3]]));rw[eM];generalize eX:[a,b,c,iM fH,iM gH,MO.tup [.m (M.length+4),.m (M.length+3)]]=Y;have gY:∀(o:MO)(i:Nat),(M.set s o++Y)[M.length+i]?=Y[i]?:=λo i=>by rw[Dp (by rw[Do];lia),Do,DM]
 have gS:∀o:MO,(M.set s o++Y)[s]?=some o:=λo=>by rw[De (by rw[Do];exact mW),Dn mW]
 have gT:∀o:MO,(M.set s o++Y)[M.length+5]?=some (.tup [.m (M.length+4),.m (M.length+3)]):=λo=>by rw[gY, <-eX];rfl
 have tS:∀o o':MO,(M.set s o++Y).set s o'=M.set s o'++Y:=λo o'=>by rw[RS _ _ (by rw[Do];exact mW),BX]
 have e0:M++Y=M.set s (.ins C (fldC bits ms room h kp qu sl sw))++Y:=by
  obtain⟨_,z⟩:=Dc.mp S.s0;rw[<-z,BE]
 rw[e0];symm;refine xM (us:=[.m (M.length+4),.m (M.length+3)]) (by simp only[vI,gT]) rfl ?_;symm;refine vF TP.c TP.n3 (gS _) (by show 7<1000;decide) ?_;rw[tS,V8];symm;refine xM (us:=[.m (M.length+4),.m (M.length+3)]) (by simp only[vI,gT]) rfl ?_;symm;refine vF TP.c TP.n4 (gS _) (by show 7<1000;decide) ?_;rw[tS,V7];symm;simp only[Yl];symm;refine⟨s,C,_,sw,rfl,gS _,TP.c,TP.n7,by rfl,?_⟩;symm;refine⟨1,_,rfl,gS _,by show 7<1000;decide,?_⟩;rw[tS,Xy];refine q _ (M.length+4) (M.length+3) ⟨by rw[Dj,Do];lia,λi hi hn=>?_⟩ (by lia) (by lia) ⟨gS _,by rw[gY, <-eX];rfl,by rw[gY, <-eX];rfl,by lia,by lia,by lia⟩;rw[De (by rw[Do];exact hi),Di λz=>hn (by rw[z];simp)]
theorem Wj{bits aW:Int}(h0:0<=aW)(h1:aW<=bits):(2:Int)^bits.toNat=2^(bits-aW).toNat*2^aW.toNat:=by
 rw[<-BM]
 grind
theorem q4V{bits aW load cb:Int}(h0:0<=aW)(h1:aW<=bits)(l0:0<=load)(l1:load<2^(bits-aW).toNat)(p0:0<=cb)(p1:cb<2^aW.toNat):
  0<=load*2^aW.toNat+cb/\load*2^aW.toNat+cb<2^bits.toNat:=by
 have hp:=qO aW.toNat;have m0:=Int.mul_nonneg l0 (BC hp);rw[Wj h0 h1];have:(load+1)*2^aW.toNat<=2^(bits-aW).toNat*2^aW.toNat:=Int.mul_le_mul_of_nonneg_right (by lia) (BC hp)
 lia
abbrev KL:=Str×Int
noncomputable def tOf(x:KL):T:=if x.1 = "small" then .int x.2 else if x.1 = "one" then .str (three3.getD x.2.toNat "none") else .tup [.str x.1,.int x.2]
structure Vld(bits:Int)(ms:List Mk3)(x:KL)(m:Mk3):Prop where
 k:OfKind ms x.1 m
 s:x.1 = "small" -> -(2^(bits-m.2.1-1).toNat)<=x.2/\x.2<2^(bits-m.2.1-1).toNat
 o:x.1 ≠ "small" -> 0<=x.2/\x.2<2^(bits-m.2.1).toNat
 g:x.1 = "sign" -> x.2<128
 t:x.1 = "one" -> x.2<3
theorem WH(r:Right bits ms)(hm:m∈ms)(h:on a8 m=true):∃l,ms.filter (on a8)=m::l:=by
 have aI:=DB.mpr ⟨hm,h⟩;have om:(ms.filter (on a8)).Pairwise λm m'=>Disj m.2 m'.2:=r.d.sublist RY;cases e:ms.filter _ with
 |nil=>rw[e]at aI;cases aI
 |cons a l=>
  rw[e]at aI om;rcases Dl.mp aI with rfl|hl
  ·exact⟨l,rfl⟩
  ·have ha:on a8 a=true:=(DB.mp (by rw[e];exact DH)).2
   exact absurd ⟨Uq ha,Uq h⟩ ((DY.mp om).1 m hl a8)
theorem q1v{s:Int}(h:1<=s):(2:Int)^s.toNat=2*2^(s-1).toNat:=by
 have e:s.toNat=(s-1).toNat+1:=by lia
 rw[e,Int.pow_succ,BY]
theorem Ku(h:1<=s)(h1 : -(2^(s-1).toNat)<=l)(h2:l<2^(s-1).toNat):j9 s (l % 2^s.toNat)=l:=by
 unfold j9;rw[q1v h];generalize(2:Int)^(s-1).toNat=a at h1 h2 ⊢;by_cases hl:0<=l
 ·rw[D7 hl (by lia),Ui (by lia)]
 ·have:l % (2*a)=l+2*a:=by
   rw[<-Int.add_emod_right,D7 (by lia) (by lia)]
  lia
theorem Vx{load w p:Int}(p0:0<=p)(p1:p<2^w.toNat):(load*2^w.toNat+p) / 2^w.toNat=load/\(load*2^w.toNat+p) % 2^w.toNat=p:=by
 have hp:=qO w.toNat;constructor
 ·rw[B0,Int.add_mul_ediv_right _ _ (RN hp),Int.ediv_eq_zero_of_lt p0 p1,Int.zero_add]
 ·rw[B0,Int.add_mul_emod_self_right]
  exact D7 p0 p1
theorem Vld.load(h:Vld bits ms x m):0<=x.2 % 2^(bits-m.2.1).toNat/\x.2 % 2^(bits-m.2.1).toNat<2^(bits-m.2.1).toNat :=
 ⟨D9 _ (RN (qO _)),D5 _ (qO _)⟩
theorem Vld.there(r:Right bits ms)(h:Vld bits ms x m):0<=xy bits m x.2/\xy bits m x.2<2^bits.toNat/\j6 bits ms (xy bits m x.2)=tOf x:=by
 have eV:=r.w m h.k.mem;have dM:=r.p m h.k.mem;have cA:=vY m.1;have hl:=h.load;have oo:=q4V (by lia) (by lia) hl.1 hl.2 dM.1 dM.2;refine⟨oo.1,oo.2,?_⟩;unfold xy;have hd:=Vx (load:=x.2 % 2^(bits-m.2.1).toNat) dM.1 dM.2;obtain⟨l,e⟩:=WH r h.k.mem (Ux hd.2);unfold j6;rw[e];simp only;rw[hd.1];unfold Yb tOf;rw[h.k.is];by_cases h1:x.1 = "small"
 ·rw[Ul h1,Ul h1]
  rw[Ku (by lia) (h.s h1).1 (h.s h1).2]
 ·have ho:=h.o h1
  rw[Ui h1,Ui h1,D7 ho.1 ho.2];by_cases h2:x.1 = "one"
  ·rw[Ul h2,Ul h2,Ul (h.t h2)]
  ·rw[Ui h2,Ui h2,Ui (λz=>by have:=h.g z.1;lia)]
theorem q0Q{l:Int}(h0:0<=l)(h1:l<3):three3[l.toNat]?=some (three3.getD l.toNat "none"):=by
 rcases(show l=0\/l=1\/l=2 by lia)with rfl|rfl|rfl<;>rfl
set_option tactic.hygienic true in
theorem Vld.worth(h:Vld bits ms x m):WorthT (tOf x) x.1 x.2:=by
 unfold tOf;split
 ·rename_i h1;rw[h1];exact .int _
 ·split
  ·rename_i h1 h2
   have ho:=h.o h1;have:=WorthT.one (q0Q ho.1 (h.t h2));rw[Int.toNat_of_nonneg ho.1]at this;rw[h2];exact this
  ·exact .tup _
noncomputable def qW(ms:List Mk3)(kind:Str):Mk3:=(ms.filter λm=>decide (m.1=kind)).headD ("", 0,0)
theorem OfKind.mk(h:OfKind ms kind m):qW ms kind=m:=by
 obtain⟨r,e⟩:=h;unfold qW;rw[e];rfl
noncomputable def wdK(bits:Int)(ms:List Mk3)(x:KL):Int:=xy bits (qW ms x.1) x.2
theorem Jg:∀{c a:Nat},a<2^(b*c)->valL b ((List.range c).map (lim b a))=(a:Int)
 |0,a,h=>by
  have:a=0:=by simpa using h
  subst this;rfl
 |c+1,a,h=>by
  rw[List.range_succ_eq_map,DD,RB];have e:(lim b a) ∘ Nat.succ=lim b _:=funext λi=>by
   show lim b a _=_;unfold lim;rw[Br, <-qaG,Nat.mul_succ,BZ]
  rw[e];have h1:=Nat.div_lt_of_lt_mul (by rw[<-qaG,BZ];exact h);show lim b a 0+2^b*valL b _=_;rw[Jg h1];unfold lim;have:=Nat.mod_add_div a (2^b)
  lia
theorem Gi(hb:1<=bits):valL bits.toNat (zh bits n)=(n.natAbs:Int):=by
 refine Jg ?_;have:=mt (zK (n:=n) hb _).mp (DV _);have h:=qaH.mp (R9.mp this);exact(BN.mp h).resolve_left (Bu (BF _))
theorem q1A(hb:1<=bits)(hn:n≠0):(zh bits n)[lcnt bits n-1]?≠some 0:=λz=>by
 have hp:=xc hb hn;unfold zh at z;rw[Dy,List.getElem?_range (by lia)]at z;have z:=Option.some.inj z;unfold lim at z;have z:=by exact_mod_cast z
 have h1:=(zK (n:=n) hb (lcnt bits n-1)).mpr (by lia);have h2:=mt (zK (n:=n) hb _).mp (DV _);rw[show lcnt bits n=lcnt bits n-1+1 by lia, <-kL]at h2;have h3:=Nat.div_add_mod (n.natAbs / 2^(bits.toNat*(lcnt bits n-1))) (2^bits.toNat);have h4:=qaH.mp (R9.mp h2);rw[z,h4]at h3;lia
theorem q1m:∀x∈zh bits n,0<=x/\x<2^bits.toNat:=λx hx=>by
 obtain⟨i,_,rfl⟩:=DL.mp hx;have:=Nat.mod_lt (n.natAbs / 2^(bits.toNat*i)) (BF bits.toNat);unfold lim;exact⟨by lia,by exact_mod_cast this⟩
structure InW(bits:Int)(ms:List Mk3)(x:KL):Prop where
 v:Vld bits ms x (qW ms x.1)
 k:x.1 = "small" \/ x.1 = "sign" \/ x.1 = "one"
inductive Rf
 |w (x:KL)
 |t (i:Nat)
inductive Th
 |far (n:Int)
 |pr (a b:Rf)
structure Mc where
 bits:Int
 ms:List Mk3
 room:Int
 rg:List Rf
 tb:List Th
 od:List Nat
 qu:Int
 sl:Int
 sw:Int
noncomputable def Th.sz(bits:Int):Th->Nat
 |.far n=>lcnt bits n+1
 |.pr _ _=>3
noncomputable def Th.kd:Th->Str
 |.far _=> "far"
 |.pr _ _=> "pair"
noncomputable def plc(f:Nat->Nat):List Nat->Nat->Nat
 | [],_=>0
 |j::l,i=>if j=i then 0 else f j+plc f l i
theorem kA:∀{l:List Nat},i∉l->plc f (l++i::r) i=(l.map f).sum
 | [],_=>Ul rfl
 |j::l,h=>by
  have h1:¬j=i:=λz=>h (z ▸ .head _);show(if j=i then 0 else f j+plc f (l++i::r) i)=(f j::l.map f).sum;rw[Ui h1,kA λz=>h (.tail _ z),Bk]
namespace Mc
noncomputable def th(A:Mc)(i:Nat):Th:=A.tb.getD i (.far 0)
noncomputable def sz(A:Mc)(i:Nat):Nat:=(A.th i).sz A.bits
noncomputable def pl(A:Mc)(i:Nat):Nat:=plc A.sz A.od i
noncomputable def kl(A:Mc):Rf->KL
 |.w x=>x
 |.t i=>((A.th i).kd,(A.pl i:Int))
noncomputable def wd(A:Mc)(r:Rf):Int:=wdK A.bits A.ms (A.kl r)
noncomputable def tw(A:Mc)(i:Nat):List Int:=match A.th i with
 |.far n=>xW A.bits n
 |.pr a b=>[1,A.wd a,A.wd b]
noncomputable def os(A:Mc):List Int:=A.od.flatMap A.tw
noncomputable def ws(A:Mc):List Int:=A.rg.map A.wd
noncomputable def most(A:Mc):Int:=kG A.bits A.ms A.room
noncomputable def sm(A:Mc):Int:=A.bits-(qW A.ms "small").2.1
def RfOk(A:Mc):Rf->Prop
 |.w x=>InW A.bits A.ms x
 |.t i=>i∈A.od
def ThOk(A:Mc):Th->Prop
 |.far n=>v6 A.sm n=false/\(lcnt A.bits n:Int)<2^(A.bits-2).toNat
 |.pr a b=>A.RfOk a/\A.RfOk b
structure Ok(A:Mc):Prop where
 R:Right A.bits A.ms
 l8:A.rg.length=8
 g:∀r∈A.rg,A.RfOk r
 d:A.od.Pairwise (· < ·)
 b:∀i∈A.od,i<A.tb.length
 t:∀i∈A.od,A.ThOk (A.th i)
 f:(A.os.length:Int)<=A.most
 m:A.room<=400
variable {A:Mc}
set_option tactic.hygienic true in
theorem Jl:(A.tw i).length=A.sz i:=by
 unfold tw sz;split<;>rename_i e<;>rw[e]
 ·exact xl
 ·rfl
theorem fm_len{l:List Nat}:(l.flatMap A.tw).length=(l.map A.sz).sum:=by
 rw[List.length_flatMap]
 congr 1;exact D1 λ_ _=>Jl
theorem at_(O:A.Ok)(h:i∈A.od):∃l r,A.od=l++i::r/\i∉l/\A.os=l.flatMap A.tw++(A.tw i++r.flatMap A.tw)/\A.pl i=(l.flatMap A.tw).length:=by
 obtain⟨l,r,e⟩:=BV h;have hd:=O.d;rw[e]at hd;have hn:=λz=>DV _ ((Rx.mp hd).2.2 i z i (.head _));refine⟨l,r,e,hn,?_,?_⟩
 ·unfold os
  rw[e,DT,Rv]
 ·unfold pl
  rw[e,kA hn,fm_len]
theorem q63(O:A.Ok)(h:i∈A.od):2<=A.sz i:=by
 have ht:=O.t i h;unfold sz;cases e:A.th i with
 |pr a b=>show 2<=3;decide
 |far n=>
  rw[e]at ht;have hn:n≠0:=λz=>by
   have:=ht.1;rw[z]at this;have h2:=qO (A.sm-1).toNat;exact UF this ⟨by lia,h2⟩
  have:=xc (bits:=A.bits) (by have:=O.R.b;lia) hn;show 2<=lcnt _ _+1;lia
theorem pl_lt(O:A.Ok)(h:i∈A.od):A.pl i+A.sz i<=A.os.length:=by
 obtain⟨l,r,_,_,e,e2⟩:=at_ O h;rw[e,e2, <-Jl]
 grind
theorem most_le(O:A.Ok){k:Str}(h:k = "far" \/ k = "pair"):A.most<=2^(A.bits-(qW A.ms k).2.1).toNat/\A.most<=400:=by
 have h3:=@Gc A.room (2^(A.bits-wOf A.ms "far").toNat) (2^(A.bits-wOf A.ms "pair").toNat);have hm:=O.m;have e:∀k,k∈jR->(qW A.ms k).2.1=wOf A.ms k:=λk hk=>by
  obtain⟨m,hm⟩:=O.R.kind hk;rw[hm.mk,Qb hm]
 unfold most kG;rcases h with rfl|rfl<;>rw[e _ (by decide)]<;>lia
theorem vld(O:A.Ok)(h:A.RfOk r):Vld A.bits A.ms (A.kl r) (qW A.ms (A.kl r).1):=by
 cases r with
 |w x=>exact InW.v h
 |t i=>
  have hk:(A.th i).kd = "far" \/ (A.th i).kd = "pair" := by cases A.th i<;>simp[Th.kd]
  obtain⟨m,hm⟩:=O.R.kind (kind:=(A.th i).kd) (by rcases hk with e|e<;>rw[e]<;>decide);have h1:=(most_le O hk).1;have h2:=pl_lt O h;have h3:=q63 O h;have h4:=O.f;show Vld A.bits A.ms ((A.th i).kd,_) (qW A.ms (A.th i).kd);rw[hm.mk]at h1 ⊢;refine⟨hm,λz=>?_,λ_=>⟨R1 _,?_⟩,λz=>?_,λz=>?_⟩
  ·have z:(A.th i).kd = "small" := z
   rcases hk with e|e<;>rw[e]at z<;>exact absurd z (by decide)
  ·lia
  ·have z:(A.th i).kd = "sign" := z
   rcases hk with e|e<;>rw[e]at z<;>exact absurd z (by decide)
  ·have z:(A.th i).kd = "one" := z
   rcases hk with e|e<;>rw[e]at z<;>exact absurd z (by decide)
theorem WF(O:A.Ok)(h:A.RfOk r):∃l,A.ms.filter (on (A.wd r))=qW A.ms (A.kl r).1::l:=by
 have v:=vld O h;have dM:=O.R.p _ v.k.mem;exact WH O.R v.k.mem (Ux (Vx dM.1 dM.2).2)
theorem mark_wd(O:A.Ok)(h:A.RfOk r):xK (A.wd r) A.ms=.str (A.kl r).1:=by
 obtain⟨l,e⟩:=WF O h;unfold xK;rw[e];show T.str (qW A.ms _).1=_;rw[OfKind.is (vld O h).k]
theorem q6i(O:A.Ok)(h:InW A.bits A.ms x):xj (A.wd (.w x)) A.ms=none:=by
 obtain⟨l,e⟩:=WF O (r:=.w x) h;unfold xj;rw[e];refine Ui λz=>?_;have z:(qW A.ms x.1).1 = "far" \/ (qW A.ms x.1).1 = "pair" := z;rw[OfKind.is h.v.k]at z;rcases h.k with y|y|y<;>rw[y]at z<;>revert z<;>decide
theorem addr_t(O:A.Ok)(h:i∈A.od):xj (A.wd (.t i)) A.ms=some ((A.th i).kd,(A.pl i:Int)):=by
 obtain⟨l,e⟩:=WF O (r:=.t i) h;have v:=vld O (r:=.t i) h;have hk:(A.th i).kd = "far" \/ (A.th i).kd = "pair" := by cases A.th i<;>simp[Th.kd]
 unfold xj;rw[e];have v2:OfKind A.ms (A.th i).kd (qW A.ms (A.th i).kd):=v.k;have dM:=O.R.p _ v2.mem;have ho:(0:Int)<=A.pl i/\(A.pl i:Int)<2^(A.bits-(qW A.ms (A.th i).kd).2.1).toNat:=v.o (by show(A.th i).kd≠_;rcases hk with z|z<;>rw[z]<;>decide);have hd:=(Vx (load:=(A.pl i) % 2^(A.bits-(qW A.ms (A.th i).kd).2.1).toNat) dM.1 dM.2).1;refine(Ul (by show(qW A.ms (A.th i).kd).1=_\/(qW A.ms (A.th i).kd).1=_;rw[OfKind.is v2];exact hk)).trans ?_;show some ((qW A.ms (A.th i).kd).1,A.wd _ / 2^(qW A.ms (A.th i).kd).2.1.toNat)=_;rw[OfKind.is v2,show A.wd (.t i) / 2^(qW A.ms (A.th i).kd).2.1.toNat=_ from hd,D7 ho.1 ho.2]
theorem xu(O:A.Ok)(h:A.RfOk r)(e:xj (A.wd r) A.ms=some (s,a)):∃i∈A.od,r=.t i/\a=(A.pl i:Int):=by
 cases r with
 |w x=>rw[q6i O h]at e;cases e
 |t i=>rw[addr_t O h]at e;cases e;exact⟨i,h,rfl,rfl⟩
noncomputable def hd(A:Mc)(i:Nat):Int:=match A.th i with
 |.far n=>vT A.bits n
 |.pr _ _=>1
theorem tw_hd:∃r,A.tw i=A.hd i::r:=by
 unfold tw hd;split<;>exact⟨_,rfl⟩
theorem small_ne(h:v6 s n=false):n≠0:=λz=>by
 rw[z]at h;have h2:=qO (s-1).toNat;exact UF h ⟨by lia,h2⟩
theorem head_4{bits n:Int}(hb:1<=bits)(hn:n≠0):4<=vT bits n/\vT bits n / 4=lcnt bits n/\vT bits n % 2=0/\(vT bits n % 4=0↔0<=n)/\qT (vT bits n)=lcnt bits n+1:=by
 have:=xc hb hn;have h1:4<=vT bits n/\vT bits n / 4=lcnt bits n/\vT bits n % 2=0/\(vT bits n % 4=0↔0<=n):=by
  unfold vT
  lia
 refine⟨h1.1,h1.2.1,h1.2.2.1,h1.2.2.2,?_⟩;unfold qT;rw[Ui (by lia),h1.2.1]
theorem q76{bits n:Int}(hb:1<=bits)(hn:n≠0):limI (pre++(xW bits n++post)) pre.length (vT bits n)=zh bits n:=by
 unfold limI;rw[(head_4 hb hn).2.1];show List.take (lcnt bits n) _=_;rw[show pre++_=(pre++[vT bits n])++(zh bits n++post) by simp[xW],BG (by simp),BA (by have:=@xl bits n;unfold xW at this;grind)]
theorem num_at{bits n:Int}(hb:1<=bits)(hn:n≠0):numI bits.toNat (pre++(xW bits n++post)) pre.length (vT bits n)=n:=by
 unfold numI;rw[q76 hb hn,Gi hb];have:=(head_4 hb hn).2.2.2.1
 lia
theorem q2r(O:A.Ok)(h:A.ThOk (A.th i)):xx A.bits A.sm (pre++(A.tw i++post)) pre.length (A.hd i)=none/\(qT (A.hd i)).toNat=A.sz i:=by
 have hb:=O.R.b;unfold tw hd sz;cases e:A.th i with
 |pr a b=>
  refine⟨?_,rfl⟩;show xx _ _ _ _ 1=none;unfold xx;rw[Ui (by decide),Ui (by simp[qT];lia),Ul rfl]
 |far n=>
  rw[e]at h;have hn:=small_ne h.1;have h4:=head_4 (bits:=A.bits) (by lia) hn;have hp:=xc (bits:=A.bits) (by lia) hn;refine⟨?_,by show(qT (vT _ _)).toNat=lcnt _ _+1;lia⟩;show xx _ _ _ _ (vT A.bits n)=none;unfold xx;rw[Ui (by unfold Zv;simp[h4.1,h4.2.2.1]),Ui,Ui (by lia),Ui,num_at (by lia) hn,Ui (by rw[h.1];decide)]
  ·rw[h4.2.1]
   show ¬(pre++(xW A.bits n++post))[pre.length+lcnt A.bits n]?=_;rw[Dp (by lia),DM,De (by rw[xl];lia)];show ¬(vT A.bits n::zh A.bits n)[lcnt A.bits n]?=_;rw[show lcnt A.bits n=lcnt A.bits n-1+1 by lia];exact q1A (by lia) hn
  ·rw[h4.2.2.2.2]
   simp only[Dj,xl];lia
theorem Jn(O:A.Ok):∀(r l:List Nat),A.od=l++r->(∀i∈r,i∉l)->r.Nodup->thI A.bits A.sm A.os (l.flatMap A.tw).length=(none,r.map A.pl)
 | [],l,e,_,_=>by
  rw[DI]at e;rw[j8 (by unfold os;lia)];rfl
 |i::r,l,e,hn,hr=>by
  have hi:i∈A.od:=by rw[e];simp
  have eo:A.os=l.flatMap A.tw++(A.tw i++r.flatMap A.tw):=by
   unfold os;rw[e,DT,Rv]
  have hb:=q2r O (O.t i hi) (pre:=l.flatMap A.tw) (post:=r.flatMap A.tw);rw[<-eo]at hb;obtain⟨t,et⟩:=@tw_hd A i;rw[VO (by rw[eo,et];simp) hb.1,hb.2];have ih:=Jn O r (l++[i]) (by rw[e];simp) (λj hj=>by
   have h1:=hn j (.tail _ hj);have h2:j≠i:=λz=>(DJ.mp hr).1 (z▸hj);simp[h1,h2]) (DJ.mp hr).2
  rw[DT,Dj,show([i].flatMap A.tw)=A.tw i by simp,Jl]at ih;rw[ih];refine Um _ ?_
  congr 1;unfold pl;rw[e,kA (hn i (.head _)),fm_len]
theorem nd(O:A.Ok):A.od.Nodup:=O.d.imp Dz
theorem q4Y(O:A.Ok)(h:A.RfOk r):0<=A.wd r/\A.wd r<2^A.bits.toNat:=by
 have:=(vld O h).there O.R;exact⟨this.1,this.2.1⟩
theorem q83(O:A.Ok)(h:A.ThOk (A.th i)):∀x∈A.tw i,0<=x/\x<2^A.bits.toNat:=λx hx=>by
 unfold tw at hx;have hb:=O.R.b;have e4:(2:Int)^A.bits.toNat=2^(A.bits-2).toNat*4:=by
  rw[show A.bits.toNat=(A.bits-2).toNat+2 by lia,BM];rfl
 cases e:A.th i with
 |pr a b=>
  rw[e]at hx h;simp at hx;rcases hx with rfl|rfl|rfl
  ·have:=qO (A.bits-2).toNat
   lia
  ·exact q4Y O h.1
  ·exact q4Y O h.2
 |far n=>
  rw[e]at hx h;rcases Dl.mp hx with rfl|hx
  ·have:=h.2
   unfold vT
   lia
  ·exact q1m x hx
theorem os_ok(O:A.Ok):q7F A.bits A.os:=λx hx=>by
 obtain⟨i,hi,hx⟩:=List.mem_flatMap.mp hx;exact q83 O (O.t i hi) x hx
theorem os_le(O:A.Ok):A.os.length<=400:=by
 have:=(most_le O (.inl rfl)).2;have:=O.f;lia
theorem hds(O:A.Ok):Hds A.os (A.od.map A.pl):=by
 have h:=Jn O A.od [] rfl (λ_ _ z=>nomatch z) (nd O);exact⟨⟨_,_,Um Prod.fst h,Um Prod.snd h⟩,λx hx=>(os_ok O x hx).1,by have:=os_le O;lia⟩
theorem hd_at(O:A.Ok)(h:i∈A.od):A.os[A.pl i]?=some (A.hd i):=by
 obtain⟨l,r,_,_,e,e2⟩:=at_ O h;obtain⟨t,et⟩:=@tw_hd A i;simp_all
theorem Wf(O:A.Ok){i:Nat}(h:i∈A.od):pwI A.os (A.pl i)=match A.th i with
 |.far _=>[]
 |.pr a b=>[A.wd a,A.wd b]:=by
 unfold pwI;rw[hd_at O h];obtain⟨l,r,_,_,e,e2⟩:=at_ O h;have ht:=O.t i h;unfold hd;cases et:A.th i with
 |far n=>
  rw[et]at ht;have:=(head_4 (bits:=A.bits) (by have:=O.R.b;lia) (small_ne ht.1)).1;simp only;rw[Ui (λz=>by have:=Option.some.inj z;lia)]
 |pr a b=>
  rw[show A.tw i=[1,A.wd a,A.wd b] by unfold tw;rw[et]]at e;rw[e2,e];rw[show List.flatMap A.tw l++_=(List.flatMap A.tw l++[1])++([A.wd a,A.wd b]++List.flatMap A.tw r) by simp,BG (by simp)];rfl
theorem si(O:A.Ok):SI A.bits A.ms A.ws A.os (A.od.map A.pl):=by
 refine⟨O.R,hds O,λa8 hw s a e=>?_,λj hj a8 hw s a e=>?_,by unfold ws;rw[Dg,O.l8];decide⟩
 ·obtain⟨r,hr,rfl⟩:=DL.mp hw
  obtain⟨i,hi,_,rfl⟩:=xu O (O.g r hr) e;exact⟨_,RA hi,rfl⟩
 ·obtain⟨i,hi,rfl⟩:=DL.mp hj
  rw[Wf O hi]at hw;have ht:=O.t i hi;cases et:A.th i with
  |far n=>rw[et]at hw;grind
  |pr x y=>
   rw[et]at hw ht;simp at hw;rcases hw with rfl|rfl
   ·obtain⟨i,hi,_,rfl⟩:=xu O ht.1 e
    grind
   ·obtain⟨i,hi,_,rfl⟩:=xu O ht.2 e
    grind
theorem fit(O:A.Ok):∀m∈A.ms,m.1 = "far" \/ m.1 = "pair" -> (A.os.length:Int)<=2^(A.bits-m.2.1).toNat:=λm hm hk=>by
 have:=(most_le O hk).1;rw[(O.R.ofKind hm).mk]at this;have:=O.f;lia
end Mc
theorem Qf{f:Nat->Nat}:∀{l:List Nat},((l.filter p).map f).sum<=(l.map f).sum
 | []=>Dk _
 |j::l=>by
  have:=@Qf p f l
  grind
theorem Zh{os:List Int}:∀{l:List Nat}{n:Nat},(∀j∈l,p j=p i->j=i)->(∀j∈l,szK os (p j)=f j)->i∈l->(offs os (l.map p) n).lookup (p i)=some (n+plc f l i)
 | [],_,_,_,h=>nomatch h
 |j::l,n,hp,hf,h=>by
  show List.lookup _ (_::offs os _ _)=some (n+if j=i then 0 else f j+plc f l i);rw[DP];by_cases e:j=i
  ·subst e
   rw[Ul rfl];simp
  ·have:_=false:=beq_eq_false_iff_ne.mpr λz=>e (hp j (.head _) z.symm)
   rw[this,Ui e];simp only;rw[hf j (.head _),Zh (λj hj=>hp j (.tail _ hj)) (λj hj=>hf j (.tail _ hj)) ((Dl.mp h).resolve_left (Ne.symm e)),Nat.add_assoc]
namespace Mc
inductive Rc(A:Mc):Nat->Prop
 |of {i:Nat} : .t i∈A.rg->Rc A i
 |l {i j:Nat}{b:Rf}:Rc A i->A.th i=.pr (.t j) b->Rc A j
 |r {i j:Nat}{a:Rf}:Rc A i->A.th i=.pr a (.t j)->Rc A j
noncomputable def lv(A:Mc):List Nat:=A.od.filter λi=>@decide (A.Rc i) (Classical.propDecidable _)
noncomputable def swp(A:Mc):Mc:={ A with od:=A.lv,sw:=A.sw+1 }
variable {A:Mc}
theorem mem_lv:i∈A.lv↔i∈A.od/\A.Rc i:=by
 unfold lv;simp
theorem rc_od(O:A.Ok)(h:A.Rc i):i∈A.od:=by
 induction h with
 |of h=>exact O.g _ h
 |l h e ih=>have:=O.t _ ih;rw[e]at this;exact this.1
 |r h e ih=>have:=O.t _ ih;rw[e]at this;exact this.2
theorem Wm(O:A.Ok)(hi:i∈A.od)(hj:j∈A.od)(e:A.pl i=A.pl j):i=j:=by
 have hp:=(hds O).lt;rw[Be]at hp;obtain⟨l,r,e1⟩:=BV hi;rw[e1]at hp hj;have h1:=Rx.mp hp;have h2:=(DY.mp h1.2.1).1
 grind
theorem rch(O:A.Ok):Rch A.ms A.ws A.os k↔∃i,A.Rc i/\k=A.pl i:=by
 constructor
 ·intro h
  induction h with
  |of hw hl=>
   obtain⟨r,hr,rfl⟩:=DL.mp hw;obtain⟨s,e⟩:=hl;obtain⟨i,_,rfl,e'⟩:=xu O (O.g r hr) e;exact⟨i,.of hr,by exact_mod_cast e'⟩
  |to _ hw hl ih=>
   obtain⟨i,hi,rfl⟩:=ih;obtain⟨s,e⟩:=hl;have ht:=O.t i (rc_od O hi);rw[Wf O (rc_od O hi)]at hw;cases et:A.th i with
   |far n=>rw[et]at hw;grind
   |pr x y=>
    rw[et]at hw ht;simp at hw;rcases hw with rfl|rfl
    ·obtain⟨j,_,rfl,e'⟩:=xu O ht.1 e
     exact⟨j,.l hi et,by exact_mod_cast e'⟩
    ·obtain⟨j,_,rfl,e'⟩:=xu O ht.2 e
     exact⟨j,.r hi et,by exact_mod_cast e'⟩
 ·rintro⟨i,h,rfl⟩
  induction h with
  |of h=>exact .of (RA h) ⟨_,addr_t O (O.g _ h)⟩
  |l h e ih=>
   have ht:=O.t _ (rc_od O h);rw[e]at ht;exact .to ih (by rw[Wf O (rc_od O h),e];exact .head _) ⟨_,addr_t O ht.1⟩
  |r h e ih=>
   have ht:=O.t _ (rc_od O h);rw[e]at ht;exact .to ih (by rw[Wf O (rc_od O h),e];exact .tail _ (.head _)) ⟨_,addr_t O ht.2⟩
theorem q7N(O:A.Ok):rsOf A.ms A.ws A.os (A.od.map A.pl)=A.lv.map A.pl:=by
 unfold rsOf lv;rw[List.filter_map]
 congr 1;refine Bf λi hi=>?_;refine decide_eq_decide.mpr ⟨λh=>?_,λh=>(rch O).mpr ⟨i,h,rfl⟩⟩;obtain⟨j,hj,e⟩:=(rch O).mp h;rw[Wm O hi (rc_od O hj) e];exact hj
theorem q7f(O:A.Ok)(h:i∈A.od):szK A.os (A.pl i)=A.sz i:=by
 unfold szK;rw[hd_at O h];exact(q2r O (O.t i h) (pre:=[]) (post:=[])).2
theorem q6L(O:A.Ok)(h:i∈A.lv):plAt A.os (A.lv.map A.pl) (A.pl i)=A.swp.pl i:=by
 unfold plAt;rw[Zh (λj hj=>Wm O (mem_lv.mp hj).1 (mem_lv.mp h).1) (λj hj=>q7f O (mem_lv.mp hj).1) h];rw[Re];rfl
theorem q8g(O:A.Ok)(h:i∈A.od):A.wd (.t i) / 2^(qW A.ms (A.th i).kd).2.1.toNat=(A.pl i:Int):=by
 have e:=addr_t O h;obtain⟨l,e1⟩:=WF O (r:=.t i) h;unfold xj at e;rw[e1]at e;have e:(if(qW A.ms (A.th i).kd).1 = "far" \/ (qW A.ms (A.th i).kd).1 = "pair" then some _ else none)=some _:=e;split at e
 ·exact(Prod.mk.inj (Option.some.inj e)).2
 ·cases e
theorem YS(h:A.RfOk r)(hr:∀i,r=.t i->A.Rc i):A.swp.RfOk r:=by
 cases r with
 |w x=>exact h
 |t i=>exact mem_lv.mpr ⟨h,hr i rfl⟩
theorem q3w(O:A.Ok)(h:A.RfOk r)(h2:A.swp.RfOk r):mvW A.bits A.ms (plAt A.os (A.lv.map A.pl)) (A.wd r)=A.swp.wd r:=by
 obtain⟨l,e⟩:=WF O h;have v:=(vld O h).k;unfold mvW;rw[e];cases r with
 |w x=>
  refine Ui λz=>?_;have z:(qW A.ms x.1).1 = "far" \/ (qW A.ms x.1).1 = "pair" := z;rw[OfKind.is h.v.k]at z;rcases h.k with y|y|y<;>rw[y]at z<;>revert z<;>decide
 |t i=>
  have v:OfKind A.ms (A.th i).kd (qW A.ms (A.th i).kd):=v;have hk:(A.th i).kd = "far" \/ (A.th i).kd = "pair" := by cases A.th i<;>simp[Th.kd]
  refine(Ul (by show(qW A.ms (A.th i).kd).1=_\/(qW A.ms (A.th i).kd).1=_;rw[OfKind.is v];exact hk)).trans ?_;show xy A.bits _ (plAt _ _ (A.wd _ / 2^(qW A.ms (A.th i).kd).2.1.toNat).toNat)=_;rw[q8g O h,Int.toNat_natCast,q6L O h2];rfl
theorem rg_swp(O:A.Ok):∀r∈A.rg,A.swp.RfOk r:=λr hr=>YS (O.g r hr) λi e=>.of (e▸hr)
theorem q3i(O:A.Ok)(h:i∈A.lv):A.swp.ThOk (A.th i):=by
 obtain⟨h1,h2⟩:=mem_lv.mp h;have ht:=O.t i h1;cases e:A.th i with
 |far n=>rw[e]at ht;exact ht
 |pr a b=>
  rw[e]at ht;exact⟨YS ht.1 λj ej=>.l h2 (ej▸e),YS ht.2 λj ej=>.r h2 (ej▸e)⟩
theorem ws_swp(O:A.Ok):swW A.bits A.ms A.ws A.os (A.od.map A.pl)=A.swp.ws:=by
 unfold swW;rw[q7N O];unfold ws;rw[RB];exact D1 λr hr=>q3w O (O.g r hr) (rg_swp O r hr)
theorem q8F(O:A.Ok)(h:i∈A.lv):mvT A.bits A.ms A.os (plAt A.os (A.lv.map A.pl)) (A.pl i)=A.swp.tw i:=by
 obtain⟨h1,h2⟩:=mem_lv.mp h;have ht:=O.t i h1;have mX:=q3i O h;unfold mvT;rw[hd_at O h1,Wf O h1,q7f O h1];obtain⟨l,r,_,_,e,e2⟩:=at_ O h1;rw[e2];have e3:(A.os.drop (l.flatMap A.tw).length).take (A.sz i)=A.tw i:=by rw[e,BG rfl,BA Jl]
 rw[e3];cases et:A.th i with
 |far n=>
  rw[et]at ht;have:=(head_4 (bits:=A.bits) (by have:=O.R.b;lia) (small_ne ht.1)).1;rw[Ui (λz=>by unfold hd at z;rw[et]at z;have:vT A.bits n=1:=Option.some.inj z;lia)];unfold tw;rw[show A.swp.th i=A.th i from rfl,et];rfl
 |pr a b=>
  rw[et]at ht mX;rw[Ul (by unfold hd;rw[et])];unfold tw;rw[show A.swp.th i=A.th i from rfl,et];show 1::[_,_]=[_,_,_];rw[q3w O ht.1 mX.1,q3w O ht.2 mX.2]
theorem os_swp(O:A.Ok):swO A.bits A.ms A.ws A.os (A.od.map A.pl)=A.swp.os:=by
 unfold swO;rw[q7N O,List.flatMap_map];show _=A.lv.flatMap A.swp.tw;rw[Bo]
 congr 1;exact D1 λi hi=>q8F O hi
theorem Wv:A.swp.os.length<=A.os.length:=by
 unfold os;rw[fm_len,fm_len];exact Qf
theorem ok_swp(O:A.Ok):A.swp.Ok:=⟨O.R,O.l8,rg_swp O,O.d.sublist RY,λi hi=>O.b i (mem_lv.mp hi).1,λi hi=>q3i O hi,by have:=O.f;have:=@Wv A;show _<=A.most;lia,O.m⟩
end Mc
theorem Wl:∀{l:List Nat},(∀j∈l,f j=g j)->i∈l->plc f (l++r) i=plc g l i
 | [],_,h=>nomatch h
 |j::l,hf,h=>by
  show(if j=i then 0 else f j+plc f (l++r) i)=if j=i then 0 else g j+plc g l i
  by_cases e:j=i
  ·rw[Ul e,Ul e]
  ·rw[Ui e,Ui e,hf j (.head _),Wl (λk hk=>hf k (.tail _ hk)) ((Dl.mp h).resolve_left (Ne.symm e))]
namespace Mc
variable {A:Mc}
noncomputable def put(A:Mc)(r:Nat)(x:Rf):Mc:={ A with rg:=A.rg.set r x }
noncomputable def lay(A:Mc)(r:Nat)(t:Th):Mc:={ A with rg:=A.rg.set r (.t A.tb.length),tb:=A.tb++[t],od:=A.od++[A.tb.length] }
noncomputable def wt(A:Mc):Th->List Int
 |.far n=>xW A.bits n
 |.pr a b=>[1,A.wd a,A.wd b]
theorem wt_len:(A.wt t).length=t.sz A.bits:=by cases t with
 |far n=>exact xl
 |pr a b=>rfl
theorem ws_put:(A.put r x).ws=A.ws.set r (A.wd x):=RO
theorem ok_put(O:A.Ok)(h:A.RfOk x):(A.put r x).Ok:=by
 refine⟨O.R,by show(A.rg.set r x).length=8;rw[Do,O.l8],λy hy=>?_,O.d,O.b,O.t,O.f,O.m⟩;rcases Ry hy with z|z
 ·exact O.g y z
 ·rw[z];exact h
variable {r:Nat}{t:Th}
theorem th_lay(h:i<A.tb.length):(A.lay r t).th i=A.th i:=by
 unfold th lay;rw[Ri,Ri,De h]
theorem th_new:(A.lay r t).th A.tb.length=t:=by
 unfold th lay;simp
theorem q38(O:A.Ok):∀i∈A.od,(A.lay r t).sz i=A.sz i:=λi hi=>by
 unfold sz;rw[th_lay (O.b i hi)];rfl
theorem q60(O:A.Ok)(h:i∈A.od):(A.lay r t).pl i=A.pl i:=Wl (q38 O) h
theorem q5I(O:A.Ok):A.tb.length∉A.od:=λz=>DV _ (O.b _ z)
theorem q7C(O:A.Ok):(A.lay r t).pl A.tb.length=A.os.length:=by
 unfold pl os;show plc _ (A.od++[A.tb.length]) _=_;rw[kA (q5I O),fm_len]
 congr 1;exact D1 λi hi=>q38 O i hi
theorem q6g(O:A.Ok)(h:A.RfOk x):(A.lay r t).kl x=A.kl x:=by
 cases x with
 |w x=>rfl
 |t i=>
  show(((A.lay r t).th i).kd,_)=((A.th i).kd,_);rw[th_lay (O.b i h),q60 O h]
theorem Yc(O:A.Ok)(h:A.RfOk x):(A.lay r t).wd x=A.wd x:=by
 unfold wd;rw[q6g O h];rfl
theorem YT(h:A.RfOk x):(A.lay r t).RfOk x:=by
 cases x with
 |w x=>exact h
 |t i=>exact Dw _ h
theorem q2J(O:A.Ok)(h:A.ThOk u):(A.lay r t).wt u=A.wt u:=by
 cases u with
 |far n=>rfl
 |pr a b=>
  show[1,(A.lay r t).wd a,(A.lay r t).wd b]=[1,A.wd a,A.wd b];rw[Yc O h.1,Yc O h.2]
theorem Xf:A.tw i=A.wt (A.th i):=by rfl
theorem q2h(h:A.ThOk u):(A.lay r t).ThOk u:=by
 cases u with
 |far n=>exact h
 |pr a b=>exact⟨YT h.1,YT h.2⟩
theorem os_lay(O:A.Ok)(ht:A.ThOk t):(A.lay r t).os=A.os++A.wt t:=by
 show(A.od++[A.tb.length]).flatMap _=_;rw[DT]
 congr 1
 ·rw[Bo]
  congr 1;refine D1 λi hi=>?_;rw[Xf,Xf,th_lay (O.b i hi),q2J O (O.t i hi)]
 ·rw[show[A.tb.length].flatMap (A.lay r t).tw=(A.lay r t).tw A.tb.length by simp,Xf,th_new,q2J O ht]
theorem ws_lay(O:A.Ok):(A.lay r t).ws=A.ws.set r (wdK A.bits A.ms (t.kd,(A.os.length:Int))):=by
 have e:(A.lay r t).wd (.t A.tb.length)=wdK A.bits A.ms (t.kd,A.os.length):=by
  show wdK A.bits A.ms (((A.lay r t).th A.tb.length).kd,_)=_;rw[th_new,q7C O]
 show(A.rg.set r _).map _=_;rw[RO]
 congr 1;exact D1 λx hx=>Yc O (O.g x hx)
theorem ok_lay(O:A.Ok)(ht:A.ThOk t)(hf:(A.os.length:Int)+t.sz A.bits<=A.most):(A.lay r t).Ok:=by
 refine⟨O.R,by show(A.rg.set r _).length=8;rw[Do,O.l8],λy hy=>?_,?_,λi hi=>?_,λi hi=>?_,?_,O.m⟩
 ·rcases Ry hy with z|z
  ·exact YT (O.g y z)
  ·rw[z];exact Ds _ (.head _)
 ·refine Rx.mpr ⟨O.d,List.pairwise_singleton _ _,λi hi j hj=>?_⟩
  rw[Dm.mp hj];exact O.b i hi
 ·show i<(A.tb++[t]).length
  rw[Dj];rcases Dr.mp hi with z|z
  ·have:=O.b i z;lia
  ·rw[Dm.mp z];show _<_+1;lia
 ·rcases Dr.mp hi with z|z
  ·rw[th_lay (O.b i z)];exact q2h (O.t i z)
  ·rw[Dm.mp z,th_new];exact q2h ht
 ·rw[os_lay O ht,Dj,wt_len]
  exact hf
end Mc
structure StA(C:Addr)(M:MM)(s h kp:Nat)(A:Mc):Prop where
 O:A.Ok
 S:StS C M s h kp A.bits A.ms A.room A.ws A.os A.qu A.sl A.sw
def Nw(M:MM)(h h':Nat):Prop:=h'=h\/M.length<=h'
def Go(C:Addr)(M:MM)(s h kp:Nat)(B:Mc)(Q:MM->Prop):Prop:=∀M' h' bA,Frm M M' [s,h,kp]->Nw M h h'->Nw M kp bA->StA C M' s h' bA B->Q M'
theorem Go.here(S:StA C M s h kp A)(g:Go C M s h kp A Q):Q M:=g M h kp .refl (.inl rfl) (.inl rfl) S
theorem Go.step(g:Go C M s h kp B Q)(f:Frm M M' [s,h,kp])(hh:Nw M h h')(hk:Nw M kp bA)(hs:s<M.length):Go C M' s h' bA B Q:=λM2 h2 k2 f2 a b S=>by
 have nw:∀{x x' y:Nat},Nw M x x'->Nw M' x' y->Nw M x y:=λ{x x' y} p q=>by
  have:=f.1;unfold Nw at *;lia
 refine g M2 h2 k2 (f.trans f2 λi hi=>?_) (nw hh a) (nw hk b) S;simp at hi ⊢;unfold Nw at *;lia
theorem StA.put(S:StA C M s h kp A)(hx:A.RfOk x):StA C (M.set h (iM (A.ws.set r (A.wd x)))) s h kp (A.put r x):=by
 have hh:=(Dc.mp S.S.h0).1;refine⟨Mc.ok_put S.O hx,by rw[Di S.S.sh.symm];exact S.S.s0,by rw[Mc.ws_put];exact Dn hh,by rw[Di S.S.hk];exact S.S.k0,S.S.sh,S.S.sk,S.S.hk⟩
theorem zf(e:h∈F):Frm M (M.set h o) F:=⟨by rw[Do];exact Dk _,λi _ hn=>Di λz:h=i=>hn (z▸e)⟩
theorem zy(D:MDef X.prog X.w X.K X.mg X.base C m k ps sp)(c:Cls X.K C)(he:QE X o ta)(hr:Room k X.A)(ht:eval (.Call (.Attribute o m aF) [] [] pos) X.env=(do
   let ov <-eval o X.env
   standAt aF.atName;let(f,first) <-holding [ov] (getMethod ov m pl)
   callWith pos f first (backTo pos (starEach [] X.env)) (backToKw pos (keywordEach [] X.env))):=by rfl):QE X (.Call (.Attribute o m aF) [] [] pos) (Xh C m sp [] E0 ta tNil):=by
 obtain⟨f,fd,h1,h2,h3⟩:=D.ex;exact⟨q0q he.h c h1 h3 hr h2 .nil q0m ht⟩
local macro_rules|`(tactic|walk_at "vx")=>`(tactic|simp only[$[$(wN "vp za v9 vn qN uTry vq vo zb endX uIxX uOpX uX0 q7a uIfX uSlA VN"):term],*])
local macro_rules|`(tactic|left)=>`(tactic|(symm; repeat ((first|walk_at "vx" |refine vh (by decide) ?_|refine qQ rfl ?_); symm)))
theorem xf(TP:q00 Ξ C)(S:StA C M s h kp A)(q:Q (.p (layT A.bits A.ms)) M):FldS Ξ "laying" (.m s) M Q:=zq TP.c TP.n1 S.S.s0 rfl q
theorem YR(TP:q00 Ξ C)(S:StA C M s h kp A)(q:Q (.p (.int A.room)) M):FldS Ξ "room" (.m s) M Q:=zq TP.c TP.n2 S.S.s0 rfl q
theorem vE(TP:q00 Ξ C)(S:StA C M s h kp A)(q:Q (.m h) M):FldS Ξ "held" (.m s) M Q:=zq TP.c TP.n3 S.S.s0 rfl q
theorem xg(TP:q00 Ξ C)(S:StA C M s h kp A)(q:Q (.m kp) M):FldS Ξ "kept" (.m s) M Q:=zq TP.c TP.n4 S.S.s0 rfl q
theorem mS(S:StA C M s h kp A)(hm:(fldC A.bits A.ms A.room h kp A.qu A.sl A.sw).lookup m=none)(q:R):qaE C m (.m s) M R:=q5g S.S.s0 hm q
theorem xD{i:Nat}(S:StA C M s h kp A)(hq:A.rg[i]?=some x)(q:Q (.p (.int (A.wd x))) M):IxS qB M (.m h) (.p (.int (i:Int))) Q :=
 xM (us:=((A.ws).map T.int).map U.p) (by simp[qB,S.S.h0]) (jz (by unfold Mc.ws;simp only[Dy,hq,Bw])) q
theorem jT(e:M[h]?=some (iM ws))(hr:r<ws.length)(q:R (M.set h (iM (ws.set r x)))):SubS M (.m h) (.p (.int (r:Int))) (.p (.int x)) R:=by
 refine⟨h,_,r,r,rfl,e,rfl,?_,?_⟩
 ·unfold ixN
  simp[hr]
 ·rw[<-RO, <-RO]
  exact q
theorem StA.l8(S:StA C M s h kp A):A.ws.length=8:=by unfold Mc.ws;rw[Dg,S.O.l8]
theorem V6(S:StA C M s h kp A)(hr:r<8)(hx:A.RfOk x)(g:Go C M s h kp (A.put r x) R):SubS M (.m h) (.p (.int (r:Int))) (.p (.int (A.wd x))) R :=
 jT S.S.h0 (by rw[S.l8];exact hr) (g _ h kp (zf (by simp)) (.inl rfl) (.inl rfl) (S.put hx))
theorem StA.lt(S:StA C M s h kp A):s<M.length:=(Dc.mp S.S.s0).1
theorem QY(R:Right bits ms)(hx:Vld bits ms x (qW ms x.1))(q:R' (.int (wdK bits ms x))):xO [layT bits ms,tOf x] R':=by
 have hm:=hx.k;have eV:=R.w _ hm.mem;have cA:=vY (qW ms x.1).1;have hb:=R.b;refine⟨bits,ms,tOf x,x.1,x.2,qW ms x.1,rfl,by have:=R.n;lia,hx.worth,hm,by lia,by lia,by lia,?_,q⟩;by_cases hs:x.1 = "small"
 ·exact .inl ⟨x.2,by unfold tOf;rw[Ul hs]⟩
 ·exact .inr (hx.o hs)
theorem Yw:tOf ("small", n)=.int n:=by  rfl
theorem q0B:tOf ("one", 0)=.str "none" := by  rfl
theorem Jr{t:Th}:tOf (t.kd,n)=.tup [.str t.kd,.int n]:=by
 cases t with
 |far=>rfl
 |pr=>rfl
noncomputable abbrev kj:Stmt:=qx (top 47) 4
def q2v(C:Addr):List U->MM->UK->Prop:=λus M Q=>∃(s h kp:Nat)(A:Mc)(size:Int),us=[.m s,.p (.int size)]/\StA C M s h kp A/\Q (.p (.bl (decide (A.most<A.os.length+size)))) M
theorem q14(F:Fun Ξ "lacks" "Store.lacks" kj f fd)(N:Nms mg)(TP:q00 Ξ C)(b5:Def P w Ξ mg base "most_outside" 3 ["laying","room"] (spP q7Y)):FnOk P w Ξ mg base CX0 4 f fd ["self","size"] (spU (q2v C)):=by
 exists F.zU, ["self","size"],qc (qi (ze WD (qm qH (qE vJ (by rfl) N.len kY (qa1 (qG qv0 rfl))) qv1) (qf b5 (Wh hr) (qa2 (qG qv0 rfl) (qG qv0 rfl))) (qo _)));rintro us M Qu ⟨s,h,kp,A,size,rfl,S,q⟩;symm;refine xg TP S ?_;symm;refine Vl S.S.k0 ?_;symm;refine xf TP S ?_;symm;refine YR TP S ?_;symm;refine⟨A.bits,A.ms,A.room,rfl,S.O.R,?_⟩;symm;simp only[Dg];exact q
noncomputable abbrev xB:Stmt:=qx (top 47) 5
noncomputable def Mc.mk'(A:Mc)(n:Nat):Mc:=if A.most<A.os.length+n then A.swp else A
def GP(C:Addr):List U->MM->UK->UX->Prop:=λus M Q X=>∃(s h kp:Nat)(A:Mc)(n:Nat),us=[.m s,.p (.int n)]/\StA C M s h kp A/\((((A.mk' n).os.length:Int)+n<=A.most)->Go C M s h kp (A.mk' n) (Q (.p .non)))/\((A.most<((A.mk' n).os.length:Int)+n)->Go C M s h kp (A.mk' n) (X "NoRoom" none))
theorem q1b(F:Fun Ξ "make_room" "Store.make_room" xB f fd)(a5:Cls Ξ C)(aU:ExcC Ξ mg "NoRoom" CENoRoom)(aY:MDef P w Ξ mg base C "lacks" 4 ["self","size"] (spU (q2v C)))(aK:MDef P w Ξ mg base C "sweep" 7 ["self"] (spU (GK C))):FnOk P w Ξ mg base (CXe P w) 8 f fd ["self","size"] (spX mg (GP C)):=by
 exists F.zX, ["self","size"],qX (xY (qI (zg (va aY a5 qv0 (Wh hr) (qa1 qv1))) (qc (vj (zy aK a5 qv0 (Wh hr)))) qt)) (vB (Xr (zg (va aY a5 qv0 (Wh hr) (qa1 qv1))) (vB (JI rfl rfl aU (qa1 qe))) xH));rintro us M Qu Xu ⟨s,h,kp,A,n,rfl,S,q1,q2⟩;unfold Mc.mk' at q1 q2;symm;refine mS S (by rfl) ?_;symm;refine⟨s,h,kp,A,n,rfl,S,?_⟩;symm;refine ite2 (λz=>?_) (λz=>?_)
 ·rw[Ul z]at q1 q2
  symm;refine mS S (by rfl) ?_;symm;refine⟨s,h,kp,A.bits,A.ms,A.room,A.ws,A.os,A.qu,A.sl,A.sw,A.od.map A.pl,rfl,S.S,Mc.si S.O,Mc.fit S.O,λM' h' bA f1 n1 n2 S'=>?_⟩;rw[Mc.ws_swp S.O,Mc.os_swp S.O]at S';have S2:StA C M' s h' bA A.swp:=⟨Mc.ok_swp S.O,S'⟩;have f2:Frm M M' [s,h,kp]:=⟨f1.1,λi hi hn=>f1.2 i hi λz=>hn (by simp at z;simp[z])⟩;left;refine mS S2 (by rfl) ?_;left;refine⟨s,h',bA,A.swp,n,rfl,S2,?_⟩;left;refine ite2 (λz=>?_) (λz=>?_)
  ·left
   exact⟨by rw[Uk];decide,_,_,_,rfl,rfl,q2 z M' h' bA f2 (.inr n1) (.inr n2) S2⟩
  ·left
   exact q1 (BW.mp z) M' h' bA f2 (.inr n1) (.inr n2) S2
 ·rw[Ui z]at q1 q2
  left;refine mS S (by rfl) ?_;left;refine⟨s,h,kp,A,n,rfl,S,?_⟩;left;exact vh z (Go.here S (q1 (BW.mp z)))
noncomputable abbrev Qz:Stmt:=top 13
def jv:List T->(T->Prop)->Prop:=λts Q=>∃(bits:Int)(ms:List Mk3)(n:Int),ts=[layT bits ms,.int n]/\1<=bits/\bits<=60/\Q (.int (lcnt bits n))
theorem Qa(F:Fun Ξ "limb_count" "limb_count" Qz f fd)(N:Nms mg):FnOk P w Ξ mg base CX0 1 f fd ["laying","n"] (spP jv):=by
 exists F.zP, ["laying","n","bits"],qb (ql (i:=2) nd rfl Wr (qh (Ub Ξ) qv0 qa (λ_ _=>rfl))) (qc (qi (qm jV (qm vH (qm qH (We PySem.F.plainAttrs_int PySem.F.slot_int_bit_length PySem.F.type_int_bit_length q3r (qE j3 (by rfl) N.abs q0Z (qa1 qv1))) qv2) qa) qv2))),(qj (by right) (vS (zu (by right) (zu (by right) (zu (by right) (q3B (ZY qat (qq (qk 1) qK))) (qk 2)) (by right)) (qk 2))));rintro ts Qt ⟨bits,ms,n,rfl,b0,b1,q⟩;nofun;rw[Jb,q15,q0l b0];exact⟨⟨by lia,log2_lt (by lia) (by lia)⟩,q⟩
noncomputable abbrev JC:Stmt:=top 17
def J5:List T->(T->Prop)->Prop:=λts Q=>∃(bits:Int)(ms:List Mk3)(n:Int),ts=[layT bits ms,.int n]/\2<=bits/\bits<=60/\Q (.bl (decide (2^(bits-2).toNat<=(lcnt bits n:Int))))
theorem Zg(F:Fun Ξ "is_great" "is_great" JC f fd)(aN:Def P w Ξ mg base "limb_count" 1 ["laying","n"] (spP jv)):FnOk P w Ξ mg base CX0 2 f fd ["laying","n"] (spP J5):=by
 exists F.zP, ["laying","n"],qc (qi (ze q0C (qf aN (Wh hr) (qa2 qv0 qv1)) (qm vO qa (qm vH (qh (Ub Ξ) qv0 qa (λ_ _=>rfl)) qa)) (qo _)));rintro ts Qt ⟨bits,ms,n,rfl,b0,b1,q⟩;nofun;refine⟨bits,ms,n,rfl,by lia,b1,?_⟩;nofun;refine⟨⟨by lia,by lia,by decide⟩,?_⟩;rw[DN];exact q
noncomputable abbrev YH:Stmt:=top 14
def q7B:List T->(T->Prop)->Prop:=λts Q=>∃(bits:Int)(ms:List Mk3)(n:Int),ts=[layT bits ms,.int n]/\1<=bits/\bits<=60/\Bt 20000 n/\Q (qC (xW bits n))
theorem q1f(F:Fun Ξ "rows_of" "rows_of" YH f fd)(N:Nms mg)(aN:Def P w Ξ mg base "limb_count" 1 ["laying","n"] (spP jv)):FnOk P w Ξ mg base CX0 2 f fd ["laying","n"] (spP q7B):=by
 exists F.zP, ["laying","n","bits","count","words","left","limb"],qb (ql (i:=2) nd rfl Wr (qh (Ub Ξ) qv0 qa (λ_ _=>rfl))) (qb (ql (i:=3) nd rfl Wr (qf aN (Wh hr) (qa2 qv0 qv1))) (qb (ql (i:=4) nd rfl Wr (qA (qa1 (qm qH (qm jJ qa qv3) (qZ (qg xw qv1 qa (qo _)) qa qa))))) (qb (ql (i:=5) nd rfl Wr (qE j3 (by rfl) N.abs q0Z (qa1 qv1))) (qb (z0 PassesOwn.never rfl (ja rfl N.range (qa1 qv3)) (vd (i:=6) nd rfl Wr) (qb (vj (jN PySem.F.slot_list_append PySem.F.type_list_append vQ qv4 (qa1 (qm vV qv5 (qm vO qa qv2))))) (qc (ql (i:=5) nd rfl Wr (qm Wz qv5 qv2))))) (qc (qi qv4)))))),(qj (by right) (qj (by right) (qj (qM (zr (qq (zu (by right) (by right) (q3h (xR (zu (zn λ_ _=>.bl _) (qk 1) Wi)) (.int _) (.int _))) qK)) (qF 4)) (by right))));rintro ts Qt ⟨bits,ms,n,rfl,b0,b1,hn,q⟩;have hc:=XJ hn b0 b1;have dY:20061<sizeLine:=by decide
 nofun;refine⟨bits,ms,n,rfl,b0,b1,?_⟩;nofun;refine⟨.inl ⟨by decide,by decide⟩,?_⟩;have iA:4*(lcnt bits n:Int)+(if n<0 then 2 else 0)=vT bits n:=rfl;rw[Jb,iA];refine JF (by lia) (by lia) ?_;refine Q2 (λi ρ M'=>∃x6,ρ=[some (.p (layT bits ms)),some (.p (.int n)),some (.p (.int bits)),some (.p (.int (lcnt bits n))),some (.m 0),some (.p (.int ((n.natAbs / 2^(bits.toNat*i):Nat):Int))),x6]/\M'=[.lst ((T.int (vT bits n)::((List.range i).map (lim bits.toNat n.natAbs)).map T.int).map U.p)]) ⟨none,by simp,rfl⟩ ?_ ?_
 ·rintro i ρ M' hi ⟨x6,rfl,rfl⟩
  nofun;refine⟨⟨by lia,by lia,by decide⟩,?_,?_⟩
  ·rw[DN];exact qO _
  refine⟨by simp;lia,by lia,some (.p (.int i)),?_,?_⟩
  ·rw[<-kL]
   have:((n.natAbs / 2^(bits.toNat*i):Nat):Int) / 2^bits.toNat=((n.natAbs / 2^(bits.toNat*i) / 2^bits.toNat:Nat):Int):=by
    push_cast;rfl
   rw[this]
  ·have:((n.natAbs / 2^(bits.toNat*i):Nat):Int) % (1*2^bits.toNat)=lim bits.toNat n.natAbs i:=by
    unfold lim;rw[q1u];exact_mod_cast rfl
   rw[this,RX,Dq,Dq,Dq];rfl
 ·rintro ρ M' ⟨x6,rfl,rfl⟩
  nofun;refine⟨_,?_,q⟩;simp only[frzN,Rb];rw[show(U.p (T.int (vT bits n))::List.map U.p (List.map T.int (List.map (lim bits.toNat n.natAbs) (List.range (lcnt bits n:Int).toNat))))=((xW bits n).map T.int).map U.p from rfl,Vq (λ_=>ZD)];rfl
noncomputable abbrev VW:Stmt:=qx (top 47) 6
def q4C(C:Addr):List U->MM->UK->Prop:=λus M Q=>∃(s h kp:Nat)(A:Mc)(r:Nat)(t:Th),us=[.m s,.p (.int r),.p (.str t.kd),.p (qC (A.wt t))]/\StA C M s h kp A/\r<8/\A.ThOk t/\2<=t.sz A.bits/\(A.os.length:Int)+t.sz A.bits<=A.most/\Go C M s h kp (A.lay r t) (Q (.p .non))
theorem q3W(F:Fun Ξ "lay" "Store.lay" VW f fd)(N:Nms mg)(TP:q00 Ξ C)(aA:Def P w Ξ mg base "word_of" 3 ["laying","worth"] (spP xO)):FnOk P w Ξ mg base CX0 4 f fd ["self","r","kind","thing"] (spU (q4C C)):=by
 exists F.zU, ["self","r","kind","thing"],qb (vD (qf aA (Wh hr) (qa2 (qG qv0 rfl) (qy (qa2 qv2 (qE vJ (by rfl) N.len kY (qa1 (qG qv0 rfl))))))) (vM (qG qv0 rfl) qv1 qL)) (qc (vj (jN PySem.F.slot_list_extend PySem.F.type_list_extend kB (qG qv0 rfl) (qa1 qv3))));rintro us M Qu ⟨s,h,kp,A,r,t,rfl,S,hr,ht,h2,hf,g⟩;have hh:=(Dc.mp S.S.h0).1;have hk:=(Dc.mp S.S.k0).1;symm;refine xf TP S ?_;symm;refine xg TP S ?_;symm;refine Vl S.S.k0 ?_;symm;simp only[Dg];rw[<-Jr];refine QY S.O.R ?_ ?_
 ·obtain⟨m,hm⟩:=S.O.R.kind (kind:=t.kd) (by cases t<;>(simp only[Th.kd];decide))
  have hl:=(Mc.most_le S.O (k:=t.kd) (by cases t<;>simp[Th.kd])).1;show Vld _ _ _ (qW A.ms t.kd);rw[hm.mk]at hl ⊢;refine⟨hm,λz=>?_,λ_=>⟨R1 _,by show(A.os.length:Int)<_;lia⟩,λz=>?_,λz=>?_⟩<;>(have z:t.kd=_:=z)<;>cases t<;>exact absurd z (by simp only[Th.kd];decide)
 symm;refine vE TP S ?_;symm;refine jT S.S.h0 (by rw[S.l8];exact hr) ?_;have s1:(M.set h (iM (A.ws.set r (wdK A.bits A.ms (t.kd,(A.os.length:Int))))))[s]?=some (.ins C (fldC A.bits A.ms A.room h kp A.qu A.sl A.sw)):=by rw[Di S.S.sh.symm];exact S.S.s0
 have k1:(M.set h (iM (A.ws.set r (wdK A.bits A.ms (t.kd,(A.os.length:Int))))))[kp]?=some (iM A.os):=by rw[Di S.S.hk];exact S.S.k0
 symm;refine zq TP.c TP.n4 s1 (by rfl) ?_;symm;refine XF k1 ?_;symm;have hm:=(Mc.most_le S.O (k := "far") (.inl rfl)).2;have hw:=Mc.wt_len (A:=A) (t:=t);refine⟨_,k1,_,rfl,by simp only[Dg,Uk];lia,?_⟩;rw[<-Dq, <-Dq];refine g _ h kp ((zf (by simp)).trans (zf (F:=[s,h,kp]) (by simp)) λi hi=>.inl hi) (.inl rfl) (.inl rfl) ⟨Mc.ok_lay S.O ht hf,?_,?_,?_,S.S.sh,S.S.sk,S.S.hk⟩
 ·rw[Di S.S.sk.symm]
  exact s1
 ·rw[Di S.S.hk.symm,Dn hh,Mc.ws_lay S.O]
 ·rw[Dn (by rw[Do];exact hk),Mc.os_lay S.O ht]
noncomputable abbrev jE:Stmt:=qx (top 47) 7
noncomputable def Mc.num(A:Mc)(r:Nat)(n:Int):Mc×Bool :=
 if v6 A.sm n=true then(A.put r (.w ("small", n)),true)
 else if 2^(A.bits-2).toNat<=(lcnt A.bits n:Int) then(A,false)
 else if((A.mk' (lcnt A.bits n+1)).os.length:Int)+(lcnt A.bits n+1:Nat)<=A.most then((A.mk' (lcnt A.bits n+1)).lay r (.far n),true)
 else(A.mk' (lcnt A.bits n+1),false)
def q6J(C:Addr):List U->MM->UK->UX->Prop:=λus M Q X=>∃(s h kp:Nat)(A:Mc)(r:Nat)(n:Int),us=[.m s,.p (.int r),.p (.int n)]/\StA C M s h kp A/\r<8/\Bt 20000 n/\((A.num r n).2=true->Go C M s h kp (A.num r n).1 (Q (.p .non)))/\((A.num r n).2=false->Go C M s h kp (A.num r n).1 (X "NoRoom" none))
theorem Mc.mk_keep{A:Mc}:(A.mk' n).bits=A.bits/\(A.mk' n).ms=A.ms/\(A.mk' n).room=A.room:=by unfold Mc.mk';split<;>exact⟨rfl,rfl,rfl⟩
theorem q4X(F:Fun Ξ "number" "Store.number" jE f fd)(N:Nms mg)(TP:q00 Ξ C)(a5:Cls Ξ C)(aU:ExcC Ξ mg "NoRoom" CENoRoom)(cj:Def P w Ξ mg base "is_small" 3 ["laying","n"] (spP J4))(aA:Def P w Ξ mg base "word_of" 3 ["laying","worth"] (spP xO))(cn:Def P w Ξ mg base "is_great" 2 ["laying","n"] (spP J5))(cL:Def P w Ξ mg base "rows_of" 2 ["laying","n"] (spP q7B))(aw:q03 P w Ξ mg base C "make_room" 8 ["self","size"] (spX mg (GP C)))(aV:MDef P w Ξ mg base C "lay" 4 ["self","r","kind","thing"] (spU (q4C C))):FnOk P w Ξ mg base (CXe P w) 9 f fd ["self","r","n"] (spX mg (q6J C)):=by
 exists F.zX, ["self","r","n","thing"],qX (xY (qI (zg (qf cj (Wh hr) (qa2 (qG qv0 rfl) qv2))) (qb (vD (qf aA (Wh hr) (qa2 (qG qv0 rfl) qv2)) (vM (qG qv0 rfl) qv1 qL)) (qc q5e)) qt)) (qX (Xr (zg (qf cn (Wh hr) (qa2 (qG qv0 rfl) qv2))) (vB (JI rfl rfl aU (qa1 qe))) xH) (qX (xY (ql (i:=3) nd rfl Wr (qf cL (Wh hr) (qa2 (qG qv0 rfl) qv2)))) (qX (Xs (zc qv0 a5 aw (Wh hr) (qa1 (qE vJ (by rfl) N.len kY (qa1 qv3))))) (vB (xY (vj (va aV a5 qv0 (Wh hr) (qa3 qv1 qe qv3)))))))),(qj (xh (by right) (qj (by right) q4Q) vG) (by right));rintro us M Qu Xu ⟨s,h,kp,A,r,n,rfl,S,hr,hn,q1,q2⟩;have hb:=S.O.R.b;unfold Mc.num at q1 q2;left;refine xf TP S ?_;left;obtain⟨m,hm⟩:=S.O.R.kind (kind := "small") (by decide);have eV:=S.O.R.w m hm.mem;have cA:=vY m.1;have mO:=S.O.R.n;have oq:A.sm=A.bits-m.2.1:=by unfold Mc.sm;rw[hm.mk]
 refine⟨A.bits,A.ms,n,m,rfl,by lia,hm,by lia,by lia,?_⟩;rw[<-oq];cases hs:v6 A.sm n with
 |true=>
  rw[Ul hs]at q1 q2;left;refine xf TP S ?_;left;have hx:InW A.bits A.ms ("small", n):=by
   have h1:=Uq hs;rw[oq]at h1;refine⟨?_,.inl rfl⟩;show Vld _ _ _ (qW A.ms "small");rw[hm.mk];exact⟨hm,λ_=>h1,λz=>absurd rfl z,λz=>absurd z (by dsimp only;decide),λz=>absurd z (by dsimp only;decide)⟩
  have e:=@Yw n;rw[<-e];refine QY S.O.R hx.v ?_;left;refine vE TP S ?_;left;exact V6 (x:=.w ("small", n)) S hr hx (q1 rfl)
 |false=>
  rw[Ui (by rw[hs];decide)]at q1 q2;left;refine xf TP S ?_;left;refine⟨A.bits,A.ms,n,rfl,by lia,by lia,?_⟩;left;refine ite2 (λhg=>?_) (λhg=>?_)
  ·rw[Ul hg]at q1 q2
   left;exact⟨by rw[Uk];decide,_,_,_,rfl,rfl,Go.here S (q2 rfl)⟩
  rw[Ui hg]at q1 q2;left;refine xf TP S ?_;left;refine⟨A.bits,A.ms,n,rfl,by lia,by lia,hn,?_⟩;left;refine mS S (by rfl) ?_;left;rw[Dg,xl];obtain⟨e1,e2,e3⟩:=Mc.mk_keep (A:=A) (n:=lcnt A.bits n+1);have em:(A.mk' (lcnt A.bits n+1)).most=A.most:=by unfold Mc.most;rw[e1,e2,e3]
  have hl:=xc (bits:=A.bits) (by lia) (Mc.small_ne hs);refine⟨s,h,kp,A,lcnt A.bits n+1,rfl,S,λcR M' h' bA f a b S'=>?_,λbw M' h' bA f a b S'=>?_⟩
  ·rw[Ul cR]at q1
   refine mS S' (by rfl) ?_;refine⟨s,h',bA,A.mk' _,r,.far n,by show _=[_,_,_,U.p (qC (xW _ n))];rw[e1];rfl,S',hr,?_,?_,?_,(q1 rfl).step f a b S.lt⟩
   ·refine⟨?_,?_⟩
    ·unfold Mc.sm at hs ⊢
     rw[e1,e2];exact hs
    ·rw[e1]
     exact Bg.mp hg
   ·show 2<=lcnt _ n+1
    rw[e1];lia
   ·rw[em]
    show _+((lcnt _ n+1:Nat):Int)<=_;rw[e1];exact cR
  ·rw[Ui (Bg.mpr bw)]at q2
   exact⟨_,_,_,rfl,rfl,q2 rfl M' h' bA f a b S'⟩
noncomputable def kS(k:Str):Str:=if k = "small" \/ k = "far" then "number" else k
namespace Mc
noncomputable def rd(A:Mc):Rf->T
 |.w x=>tOf x
 |.t i=>match A.th i with
  |.far n=>.int n
  |.pr _ _=>.tup [.str "pair",.int (A.pl i)]
noncomputable def tl(A:Mc):Rf->T
 |.w x=>tOf x
 |.t i=>match A.th i with
  |.far n=>.int n
  |.pr _ _=>.str "pair"
noncomputable def nv(A:Mc):Rf->Option Int
 |.w x=>if x.1 = "small" then some x.2 else none
 |.t i=>match A.th i with
  |.far n=>some n
  |.pr _ _=>none
noncomputable def kn(A:Mc)(x:Rf):Str:=kS (A.kl x).1
theorem kn_nv{A:Mc}(h:A.RfOk x):A.kn x = "number" ↔ A.nv x≠none:=by
 cases x with
 |w x=>
  show kS x.1 = "number" ↔ (if x.1 = "small" then some x.2 else none)≠none;rcases h.k with e|e|e<;>rw[e]
  ·exact⟨λ_=>by exact(λz=>nomatch z),λ_=>by decide⟩
  ·exact⟨λz=>absurd z (by decide),λz=>absurd (Ui (by decide)) z⟩
  ·exact⟨λz=>absurd z (by decide),λz=>absurd (Ui (by decide)) z⟩
 |t i=>
  show kS (A.th i).kd=_↔(match A.th i with | .far n=>some n | .pr _ _=>none)≠none;cases A.th i with
  |far n=>exact⟨λ_=>(λz=>nomatch z),λ_=>by show kS "far" = "number";decide⟩
  |pr a b=>exact⟨λz=>absurd z (by show ¬kS "pair" = "number";decide),λz=>absurd rfl z⟩
set_option tactic.hygienic true in
theorem Kt{A:Mc}(e:A.nv x=some n):A.tl x=.int n:=by
 cases x with
 |w x=>
  have e:(if x.1 = "small" then some x.2 else none)=some n:=e;split at e
  ·rename_i h
   cases e;show tOf x=_;unfold tOf;rw[Ul h]
  ·cases e
 |t i=>
  have e:(match A.th i with | .far n=>some n | .pr _ _=>none)=some n:=e;show(match A.th i with | .far n=>T.int n | .pr _ _=>T.str "pair")=_;cases et:A.th i with
  |far k=>rw[et]at e;cases e;rfl
  |pr a b=>rw[et]at e;cases e
theorem kn_pair{A:Mc}(h:A.RfOk x):(A.kn x = "pair" -> A.tl x=.str "pair")/\(¬A.kn x = "pair" -> A.tl x=A.rd x):=by
 cases x with
 |w x=>
  refine⟨λz=>?_,λ_=>rfl⟩;have z:kS x.1 = "pair" := z;rcases h.k with e|e|e<;>rw[e]at z<;>exact absurd z (by decide)
 |t i=>
  show(kS (A.th i).kd=_->(match A.th i with | .far n=>T.int n | .pr _ _=>T.str "pair")=_)/\(¬kS (A.th i).kd=_->(match A.th i with | .far n=>T.int n | .pr _ _=>T.str "pair")=(match A.th i with | .far n=>T.int n | .pr _ _=>.tup [.str "pair",.int _]));cases A.th i with
  |far n=>exact⟨λz=>absurd z (by show ¬kS "far" = "pair";decide),λ_=>rfl⟩
  |pr a b=>exact⟨λ_=>rfl,λz=>absurd rfl z⟩
end Mc
noncomputable abbrev kh:Stmt:=qx (top 47) 1
def Vp(C:Addr):List U->MM->UK->Prop:=λus M Q=>∃(s h kp:Nat)(A:Mc),us=[.m s]/\StA C M s h kp A/\Q (.p (qC A.ws)) M
def q1r(C:Addr):List U->MM->UK->Prop:=λus M Q=>∃(s h kp:Nat)(A:Mc),us=[.m s]/\StA C M s h kp A/\Q (.p (qC A.os)) M
theorem Xj(e:M[k]?=some (iM l)):sn M (.m k)=some (qC l):=by
 simp only[sn,e];rw[xn];rfl
theorem WK(F:Fun Ξ "words" "Store.words" kh f fd)(N:Nms mg)(TP:q00 Ξ C):FnOk P w Ξ mg base CX0 1 f fd ["self"] (spU (Vp C)):=by
 exists F.zU, ["self"],qc (qi (vz vc (by rfl) N.list jl (qa1 (qG qv0 rfl))));rintro us M Qu ⟨s,h,kp,A,rfl,S,q⟩;symm;refine vE TP S ?_;exact⟨_,by rw[sns,Xj S.S.h0];rfl,_,_,rfl,rfl,q⟩
noncomputable abbrev xV:Stmt:=qx (top 47) 2
theorem q3C(F:Fun Ξ "outside" "Store.outside" xV f fd)(N:Nms mg)(TP:q00 Ξ C):FnOk P w Ξ mg base CX0 1 f fd ["self"] (spU (q1r C)):=by
 exists F.zU, ["self"],qc (qi (vz vc (by rfl) N.list jl (qa1 (qG qv0 rfl))));rintro us M Qu ⟨s,h,kp,A,rfl,S,q⟩;symm;refine xg TP S ?_;exact⟨_,by rw[sns,Xj S.S.k0];rfl,_,_,rfl,rfl,q⟩
theorem StA.ok{q:Nat}(S:StA C M s h kp A)(e:A.rg[q]?=some x):A.RfOk x:=S.O.g x (Dh e)
noncomputable def Gs:List (Str×V):=[("small",.str "number"),("far",.str "number"),("pair",.str "pair"),("sign",.str "sign"),("one",.str "one")]
noncomputable def kindsT:List (Str×T):=[("small",.str "number"),("far",.str "number"),("pair",.str "pair"),("sign",.str "sign"),("one",.str "one")]
theorem q1x:Paired (λ(a:Str×V) (b:Str×T)=>a.1=b.1/\Sc a.2 b.2) Gs kindsT:=.cons ⟨rfl,.str _⟩ (.cons ⟨rfl,.str _⟩ (.cons ⟨rfl,.str _⟩ (.cons ⟨rfl,.str _⟩ (.cons ⟨rfl,.str _⟩ .nil))))
theorem Gu{A:Mc}(h:A.RfOk x):kindsT.lookup (A.kl x).1=some (.str (A.kn x)):=by
 cases x with
 |w x=>
  show kindsT.lookup x.1=some (.str (kS x.1));rcases h.k with e|e|e<;>rw[e]<;>rfl
 |t i=>
  show kindsT.lookup (A.th i).kd=some (.str (kS (A.th i).kd));cases A.th i<;>rfl
noncomputable abbrev Qm:Stmt:=qx (top 47) 26
def Zy(C:Addr):List U->MM->UK->Prop:=λus M Q=>∃(s h kp:Nat)(A:Mc)(q:Nat)(x:Rf),us=[.m s,.p (.int q)]/\StA C M s h kp A/\A.rg[q]?=some x/\Q (.p (.str (A.kn x))) M
theorem q1B(F:Fun Ξ "kind" "Store.kind" Qm f fd)(N:Nms mg)(TP:q00 Ξ C)(dz:KDi Ξ w mg "KINDS_BY_MARK" kd Gs)(ay:Def P w Ξ mg base "mark_of" 2 ["laying","word"] (spP ju)):FnOk P w Ξ mg base CX0 3 f fd ["self","q"] (spU (Zy C)):=by
 exists F.zU, ["self","q"],qc (qi (q89 dz rfl (qf ay (Wh hr) (qa2 (qG qv0 rfl) (qh (Ua Ξ) (qG qv0 rfl) qv1 (λ_ _=>rfl)))) (λ_ _=>rfl))),(vS (q8A q1x (xt (qq (qaq (qk 0)) (qq (jK (qaq (qk 0)) (qk 1)) qK)))));rintro us M Qu ⟨s,h,kp,A,q',x,rfl,S,hq,q⟩;symm;unfold uKD;symm;refine xf TP S ?_;symm;refine vE TP S ?_;symm;refine xD S hq ?_;symm;have hn:=S.O.R.n;refine⟨A.bits,A.ms,_,rfl,S.O.R.wd,by lia,?_⟩;rw[Mc.mark_wd S.O (S.ok hq)];symm;exact⟨_,_,rfl,Gu (S.ok hq),q⟩
noncomputable abbrev Qq:Stmt:=top 36
def q2T:List U->MM->UK->Prop:=λus M Q=>∃(kp:Nat)(A:Mc)(x:Rf),us=[.p (layT A.bits A.ms),.m kp,.p (.int (A.wd x))]/\A.Ok/\M[kp]?=some (iM A.os)/\A.RfOk x/\Q (.p (A.rd x)) M
theorem q0I(F:Fun Ξ "read_worth" "read_worth" Qq f fd)(N:Nms mg)(cp:Def P w Ξ mg base "worth_of" 3 ["laying","word"] (spP JU))(ay:Def P w Ξ mg base "mark_of" 2 ["laying","word"] (spP ju))(bW:Def P w Ξ mg base "number_at" 2 ["laying","outside","address"] (spP q61)):FnOk P w Ξ mg base CX0 4 f fd ["laying","outside","word"] (spU q2T):=by
 exists F.zU, ["laying","outside","word","worth"],qb (ql (i:=3) nd rfl Wr (qf cp (Wh hr) (qa2 qv0 qv2))) (qb (qI (qg op_eq (qf ay (Wh hr) (qa2 qv0 qv2)) qe (qo _)) (qc (qi (qf bW (Wh hr) (qa3 qv0 qv1 (qh (Ub Ξ) qv3 qa (λ_ _=>rfl)))))) qt) (qc (qi qv3))),(qj (by right) (qj (xh (by right) (vS (q0F (by right))) vG) (by right)));rintro us M Qu ⟨kp,A,x,rfl,O,hk,hx,q⟩;symm;have v:=Mc.vld O hx;have ou:=v.there O.R;refine⟨A.bits,A.ms,_,rfl,O.R,ou.1,?_⟩;rw[show j6 A.bits A.ms (A.wd x)=tOf (A.kl x)from ou.2.2];symm;have hn:=O.R.n;refine⟨A.bits,A.ms,_,rfl,O.R.wd,by lia,?_⟩;rw[Mc.mark_wd O hx];symm;refine ite2 (λz=>?_) (λz=>?_)
 ·cases x with
  |w x=>
   have hx:InW A.bits A.ms x:=hx;have z:x.1 = "far" := z;rcases hx.k with e|e|e<;>rw[e]at z<;>exact absurd z (by decide)
  |t i=>
   have z:(A.th i).kd = "far" := z;have ht:=O.t i hx;obtain⟨l,r,_,_,eo,ep⟩:=Mc.at_ O hx;cases et:A.th i with
   |pr a b=>rw[et]at z;exact absurd z (by simp only[Th.kd];decide)
   |far n=>
    rw[et]at ht;have hb:=O.R.b;have h4:=Mc.head_4 (bits:=A.bits) (by lia) (Mc.small_ne ht.1);have hd:=Mc.hd_at O hx;have hl:=Mc.pl_lt O hx;have hz:=Mc.os_le O;rw[show A.hd i=vT A.bits n by unfold Mc.hd;rw[et]]at hd;rw[show A.sz i=lcnt A.bits n+1 by unfold Mc.sz;rw[et];rfl]at hl;have en:numI A.bits.toNat A.os (A.pl i) (vT A.bits n)=n:=by
     rw[eo,ep,show A.tw i=xW A.bits n by unfold Mc.tw;rw[et]];exact Mc.num_at (by lia) (Mc.small_ne ht.1)
    rw[show A.rd (.t i)=.int n by unfold Mc.rd;simp only[et]]at q;show _;rw[show A.kl (.t i)=((A.th i).kd,(A.pl i:Int))from rfl,Jr];simp only[Yo];symm;exact⟨[layT A.bits A.ms,qC A.os,.int (A.pl i)],by simp only[frzs,ZD,kP hk],A.bits,A.ms,A.os,A.pl i,vT A.bits n,rfl,hd,h4.1,by rw[h4.2.2.2.2];lia,by lia,by lia,by lia,Mc.os_ok O,by rw[en];exact⟨⟨_,rfl⟩,q⟩⟩
 ·symm
  have e:A.rd x=tOf (A.kl x):=by
   cases x with
   |w x=>rfl
   |t i=>
    have z:¬(A.th i).kd = "far" := z;show(match A.th i with | .far n=>T.int n | .pr _ _=>.tup [.str "pair",.int (A.pl i)])=tOf ((A.th i).kd,(A.pl i:Int));rw[Jr];cases et:A.th i with
    |far n=>rw[et]at z;exact absurd rfl z
    |pr a b=>rfl
  rw[<-e];exact q
noncomputable abbrev Qi:Stmt:=qx (top 47) 27
def GM(C:Addr):List U->MM->UK->Prop:=λus M Q=>∃(s h kp:Nat)(A:Mc)(q:Nat)(x:Rf),us=[.m s,.p (.int q)]/\StA C M s h kp A/\A.rg[q]?=some x/\Q (.p (A.tl x)) M
theorem q1M(F:Fun Ξ "told" "Store.told" Qi f fd)(N:Nms mg)(TP:q00 Ξ C)(a5:Cls Ξ C)(aj:MDef P w Ξ mg base C "kind" 3 ["self","q"] (spU (Zy C)))(bE:Def P w Ξ mg base "read_worth" 4 ["laying","outside","word"] (spU q2T)):FnOk P w Ξ mg base CX0 5 f fd ["self","q"] (spU (GM C)):=by
 exists F.zU, ["self","q"],qb (qI (qg op_eq (va aj a5 qv0 (Wh hr) (qa1 qv1)) qe (qo _)) (qc (qi qe)) qt) (qc (qi (qf bE (Wh hr) (qa3 (qG qv0 rfl) (qG qv0 rfl) (qh (Ua Ξ) (qG qv0 rfl) qv1 (λ_ _=>rfl))))));rintro us M Qu ⟨s,h,kp,A,q',x,rfl,S,hq,q⟩;have hp:=Mc.kn_pair (S.ok hq);symm;refine mS S (by rfl) ?_;symm;refine⟨s,h,kp,A,q',x,rfl,S,hq,?_⟩;symm;refine ite2 (λz=>?_) (λz=>?_)
 ·symm
  rw[hp.1 z]at q;exact q
 symm;refine xf TP S ?_;symm;refine xg TP S ?_;symm;refine vE TP S ?_;symm;refine xD S hq ?_;symm;exact⟨kp,A,x,rfl,S.O,S.S.k0,S.ok hq,by rw[<-hp.2 z];exact q⟩
theorem sm1:Jt 1:=by decide
theorem q08(I:UEnv->MM->Prop)(h1:∀nx:UEnv->MM->Prop,(∀bS M',I bS M'->nx bS M')->a { E with nx:=nx } ρ M)(h2:∀bS M',I bS M'->b E bS M'):uSeq a b E ρ M:=h1 _ h2
noncomputable abbrev Qk:Stmt:=qx (top 47) 25
noncomputable abbrev Qr:Stmt:=top 45
def js:List T->(T->Prop)->Prop:=λts Q=>∃(bits:Int)(ms:List Mk3),ts=[layT bits ms]/\Q (layT bits ms)
theorem k9(F:Fun Ξ "own_laying" "own_laying" Qr f fd)(N:Nms mg):FnOk P w Ξ mg base CX0 1 f fd ["laying"] (spP js):=by
 exists F.zP, ["laying"],qc (qi (qy (qa2 (qh (Ub Ξ) qv0 qa (λ_ _=>rfl)) (vz vc (by rfl) N.list jl (qa1 (qh (Ub Ξ) qv0 qa (λ_ _=>rfl)))))));rintro ts Qt ⟨bits,ms,rfl,q⟩;symm;exact⟨_,_,rfl,rfl,q⟩
theorem ke{M L:MM}(hs:s<M.length):(M.set s a++L).set s b=M.set s b++L:=by  simp_all
theorem jr{M L:MM}(hs:s<M.length):(M.set s a++L)[s]?=some a:=by rw[De (by rw[Do];exact hs),Dn hs]
noncomputable def Mc.new(bits:Int)(ms:List Mk3)(room:Int):Mc:=⟨bits,ms,room,List.replicate 8 (.w ("one", 0)), [], [],0,0,0⟩
theorem GD(R:Right bits ms):InW bits ms ("one", 0):=by
 obtain⟨m,hm⟩:=R.kind (kind := "one") (by decide);refine⟨?_,.inr (.inr rfl)⟩;rw[hm.mk];exact⟨hm,λz=>absurd z (by decide),λ_=>⟨RK _,qO _⟩,λz=>absurd z (by decide),λ_=>by decide⟩
theorem q2N(R:Right bits ms)(h0:0<=room)(h4:room<=400):(Mc.new bits ms room).Ok:=by
 refine⟨R,rfl,λr hr=>?_,.nil,(λ_ z=>nomatch z),(λ_ z=>nomatch z),?_,h4⟩
 ·rw[List.eq_of_mem_replicate hr]
  exact GD R
 ·show 0<=kG bits ms room
  unfold kG;have h1:=qO (bits-wOf ms "far").toNat;have h2:=qO (bits-wOf ms "pair").toNat;rcases @Gb room (2^(bits-wOf ms "far").toNat) (2^(bits-wOf ms "pair").toNat)with e|e|e<;>lia
noncomputable abbrev Qn:Stmt:=qx (top 47) 0
def JZ(C:Addr):List U->MM->UK->Prop:=λus M Q=>∃(s:Nat)(bits:Int)(ms:List Mk3)(room:Int),us=[.m s,.p (layT bits ms),.p (.int room)]/\M[s]?=some (.ins C [])/\Right bits ms/\0<=room/\room<=400/\∀M',Frm M M' [s]->StA C M' s M.length (M.length+1) (Mc.new bits ms room)->M'.length=M.length+2->Q (.p .non) M'
theorem q0S(F:Fun Ξ "__init__" "Store.__init__" Qn f fd)(TP:q00 Ξ C)(gi:GInt mg "REGISTERS" 8)(aO:Def P w Ξ mg base "own_laying" 1 ["laying"] (spP js))(aA:Def P w Ξ mg base "word_of" 3 ["laying","worth"] (spP xO)):FnOk P w Ξ mg base CX0 4 f fd ["self","laying","room"] (spU (JZ C)):=by
 exists F.zU, ["self","laying","room"],qb (xa qv0 (qf aO (Wh hr) (qa1 qv1)) rfl) (qb (xa qv0 qv2 rfl) (qb (xa qv0 (qm WA (qA (qa1 (qf aA (Wh hr) (qa2 qv1 qe)))) (zI gi rfl)) rfl) (qb (xa qv0 (qA zm) rfl) (qb (xa qv0 qa rfl) (qb (xa qv0 qa rfl) (qc (xa qv0 qa rfl))))))),(qj (by right) (qj (by right) (qj (ZR (qk 0) (ZV (by right) (by right))) (qj (ZR (qk 0) (zr qK)) (by right)))));rintro us M Qu ⟨s,bits,ms,room,rfl,em,R,h0,h4,q⟩;have hs:=(Dc.mp em).1;symm;refine⟨bits,ms,rfl,?_⟩;symm;refine vF TP.c TP.n1 em (by decide) ?_;symm;refine vF TP.c TP.n2 (Dn hs) (by show 1<1000;decide) ?_;rw[BX];symm;rw[<-q0B];refine QY R (GD R).v ?_;symm;refine YU (by decide) (by decide) (by show 8<=sizeLine;decide) ?_;refine vF TP.c TP.n3 (jr hs) (by show 2<1000;decide) ?_;rw[ke hs];symm;refine vF TP.c TP.n4 (by rw[DC];exact jr hs) (by show 3<1000;decide) ?_;rw[DC,ke hs];symm;refine vF TP.c TP.n5 (jr hs) (by show 4<1000;decide) ?_;rw[ke hs];symm;refine vF TP.c TP.n6 (jr hs) (by show 5<1000;decide) ?_;rw[ke hs];symm;refine vF TP.c TP.n7 (jr hs) (by show 6<1000;decide) ?_;rw[ke hs];symm;simp only[Dj,Do,Dv,D4,Re];refine q _ ⟨by rw[Dj,Do];lia,λi hi hn=>?_⟩ ⟨q2N R h0 h4,jr hs,?_,?_,by lia,by lia,by lia⟩ (by rw[Dj,Do];rfl)
 ·rw[De (by rw[Do];exact hi),Di λz=>hn (by rw[z];simp)]
 ·rw[Dp (by rw[Do];exact Dk _),Do,Rq]
  rfl
 ·rw[Dp (by rw[Do];lia),Do,DM]
  rfl
namespace Mc
variable {A:Mc}
noncomputable def setT(A:Mc)(i:Nat)(t:Th):Mc:={ A with tb:=A.tb.set i t }
noncomputable def pv(A:Mc):Rf->Option (Nat×Rf×Rf)
 |.w _=>none
 |.t i=>match A.th i with
  |.far _=>none
  |.pr a b=>some (i,a,b)
theorem pv_t(h:A.pv x=some (i,a,b)):x=.t i/\A.th i=.pr a b:=by
 cases x with
 |w x=>cases h
 |t j=>
  have h:(match A.th j with | .far _=>none | .pr a b=>some _)=some _:=h;cases e:A.th j with
  |far n=>rw[e]at h;cases h
  |pr c d=>rw[e]at h;cases h;exact⟨rfl,e⟩
theorem kn_pv(h:A.RfOk x):A.kn x = "pair" ↔ A.pv x≠none:=by
 cases x with
 |w x=>
  refine⟨λz=>?_,λz=>absurd rfl z⟩;have z:kS x.1 = "pair" := z;rcases h.k with e|e|e<;>rw[e]at z<;>exact absurd z (by decide)
 |t i=>
  show kS (A.th i).kd=_↔(match A.th i with | .far _=>none | .pr a b=>some _)≠none;cases A.th i with
  |far n=>exact⟨λz=>absurd z (by show ¬kS "far" = "pair";decide),λz=>absurd rfl z⟩
  |pr a b=>exact⟨λ_=>(λz=>nomatch z),λ_=>by show kS "pair" = "pair";decide⟩
variable {i:Nat}{a b a' b':Rf}
set_option tactic.hygienic true in
theorem th_set(hi:i<A.tb.length)(j:Nat):(A.setT i t).th j=if j=i then t else A.th j:=by
 unfold th setT;simp only[Ri];split
 ·rename_i e
  rw[e,Dn hi];rfl
 ·rename_i e
  rw[Di (Ne.symm e)]
section
variable (hi:i<A.tb.length) (e:A.th i=.pr a b)
include hi e
set_option tactic.hygienic true in
theorem q2V(j:Nat):((A.setT i (.pr a' b')).th j).kd=(A.th j).kd/\((A.setT i (.pr a' b')).th j).sz A.bits=(A.th j).sz A.bits:=by
 rw[th_set hi];split
 ·rename_i z
  rw[z,e];exact⟨rfl,rfl⟩
 ·exact⟨rfl,rfl⟩
theorem q6j(j:Nat):(A.setT i (.pr a' b')).pl j=A.pl j:=by
 unfold pl;have:(A.setT i (.pr a' b')).sz=A.sz:=funext λj=>(q2V hi e j).2;rw[this];rfl
theorem VI(x:Rf):(A.setT i (.pr a' b')).wd x=A.wd x:=by
 cases x with
 |w x=>rfl
 |t j=>
  show wdK A.bits A.ms (((A.setT i _).th j).kd,_)=wdK A.bits A.ms ((A.th j).kd,_);rw[(q2V hi e j).1,q6j hi e j]
theorem ws_set:(A.setT i (.pr a' b')).ws=A.ws:=D1 λx _=>VI hi e x
theorem q2K(j:Nat):(A.setT i (.pr a' b')).tw j=if j=i then[1,A.wd a',A.wd b'] else A.tw j:=by
 rw[Xf,Xf,th_set hi];split
 ·show[1,_,_]=[1,_,_]
  rw[VI hi e,VI hi e]
 ·cases A.th j with
  |far n=>rfl
  |pr c d=>
   show[1,_,_]=[1,_,_];rw[VI hi e,VI hi e]
theorem os_set(O:A.Ok)(hm:i∈A.od):(A.setT i (.pr a' b')).os=(A.os.set (A.pl i+1) (A.wd a')).set (A.pl i+2) (A.wd b'):=by
 obtain⟨l,r,e1,e2,e3,e4⟩:=at_ O hm;have hd:=nd O;rw[e1]at hd;have hr:=(DJ.mp (DW.mp hd).2.1).1;have aD:∀l':List Nat,i∉l'->l'.flatMap (A.setT i (.pr a' b')).tw=l'.flatMap A.tw:=λl' h'=>by
  rw[Bo]
  congr 1;exact D1 λj hj=>by rw[q2K hi e];exact Ui λz:j=i=>h' (z▸hj)
 have et:A.tw i=[1,A.wd a,A.wd b]:=by rw[Xf,e];rfl
 rw[e3,e4];show(A.od).flatMap _=_;rw[e1,DT,Rv,q2K hi e,Bz _ _ (by lia)];simp_all
theorem ok_setT(O:A.Ok)(hm:i∈A.od)(ha:A.RfOk a')(hb:A.RfOk b'):(A.setT i (.pr a' b')).Ok:=by
 have rf:∀{x:Rf},A.RfOk x->(A.setT i (.pr a' b')).RfOk x:=λ{x} h=>by cases x<;>exact h
 refine⟨O.R,O.l8,λr hr=>rf (O.g r hr),O.d,λj hj=>by show j<(A.tb.set i _).length;rw[Do];exact O.b j hj,λj hj=>?_,?_,O.m⟩
 ·rw[th_set hi]
  split
  ·exact⟨rf ha,rf hb⟩
  ·have:=O.t j hj
   cases et:A.th j with
   |far n=>rw[et]at this;exact this
   |pr c d=>rw[et]at this;exact⟨rf this.1,rf this.2⟩
 ·rw[os_set hi e O hm,Do,Do]
  exact O.f
end
theorem pr_at(O:A.Ok)(hm:i∈A.od)(e:A.th i=.pr a b):A.os[A.pl i+1]?=some (A.wd a)/\A.os[A.pl i+2]?=some (A.wd b):=by
 obtain⟨l,r,_,_,e3,e4⟩:=at_ O hm;have et:A.tw i=[1,A.wd a,A.wd b]:=by rw[Xf,e];rfl
 rw[e3,e4,et];constructor
 ·rw[Dp (by lia),DM];rfl
 ·rw[Dp (by lia),DM];rfl
end Mc
theorem StA.setT(S:StA C M s h kp A)(hm:i∈A.od)(e:A.th i=.pr a b)(ha:A.RfOk a')(hb:A.RfOk b')(el:l=(A.os.set (A.pl i+1) (A.wd a')).set (A.pl i+2) (A.wd b')):StA C (M.set kp (iM l)) s h kp (A.setT i (.pr a' b')):=by
 have hi:=S.O.b i hm;have hk:=(Dc.mp S.S.k0).1;refine⟨Mc.ok_setT hi e S.O hm ha hb,by rw[Di S.S.sk.symm];exact S.S.s0,?_,?_,S.S.sh,S.S.sk,S.S.hk⟩
 ·rw[Mc.ws_set hi e,Di S.S.hk.symm];exact S.S.h0
 ·rw[Mc.os_set hi e S.O hm,Dn hk,el]
theorem q2R{i:Nat}(S:StA C M s h kp A)(hq:A.os[i]?=some x)(q:Q (.p (.int x)) M):IxS qB M (.m kp) (.p (.int (i:Int))) Q :=
 xM (us:=(A.os.map T.int).map U.p) (by simp[qB,S.S.k0]) (jz (by simp only[Dy,hq,Bw])) q
noncomputable abbrev Qj:Stmt:=qx (top 47) 8
theorem Yq{a b:Int}(h:a<=b):(2:Int)^a.toNat<=2^b.toNat:=by
 have:=Ra (n:=2) (by decide) (show a.toNat<=b.toNat by lia);exact_mod_cast this
theorem XO(R:Right bits ms)(h0:0<=k)(h1:k<128):InW bits ms ("sign", k):=by
 obtain⟨m,hm⟩:=R.kind (kind := "sign") (by decide);refine⟨?_,.inr (.inl rfl)⟩;rw[hm.mk];have hw:=R.w m hm.mem;have hn:need m.1=7:=by rw[hm.is];rfl
 have h7:(2:Int)^(7:Int).toNat<=2^(bits-m.2.1).toNat:=Yq (by lia);exact⟨hm,λz=>absurd z (by dsimp only;decide),λ_=>⟨h0,Int.lt_of_lt_of_le h1 h7⟩,λ_=>h1,λz=>absurd z (by dsimp only;decide)⟩
def GN(C:Addr):List U->MM->UK->Prop:=λus M Q=>∃(s h kp:Nat)(A:Mc)(r:Nat)(k:Int),us=[.m s,.p (.int r),.p (.int k)]/\StA C M s h kp A/\r<8/\0<=k/\k<128/\Go C M s h kp (A.put r (.w ("sign", k))) (Q (.p .non))
theorem q0y(F:Fun Ξ "sign" "Store.sign" Qj f fd)(TP:q00 Ξ C)(aA:Def P w Ξ mg base "word_of" 3 ["laying","worth"] (spP xO)):FnOk P w Ξ mg base CX0 4 f fd ["self","r","k"] (spU (GN C)):=by
 exists F.zU, ["self","r","k"],qc (vD (qf aA (Wh hr) (qa2 (qG qv0 rfl) (qy (qa2 qe qv2)))) (vM (qG qv0 rfl) qv1 qL));rintro us M Qu ⟨s,h,kp,A,r,k,rfl,S,hr,h0,h1,g⟩;symm;refine xf TP S ?_;symm;have e:T.tup [.str "sign",.int k]=tOf ("sign", k):=rfl;refine QY S.O.R (XO S.O.R h0 h1).v ?_;refine vE TP S ?_;exact V6 (x:=.w _) S hr (XO S.O.R h0 h1) g
noncomputable abbrev YF:Stmt:=qx (top 47) 9
noncomputable abbrev Qo:Stmt:=qx (top 47) 10
def q2c(C:Addr):List U->MM->UK->Prop:=λus M Q=>∃(s h kp:Nat)(A:Mc)(r q:Nat)(x:Rf),us=[.m s,.p (.int r),.p (.int q)]/\StA C M s h kp A/\r<8/\A.rg[q]?=some x/\Go C M s h kp (A.put r x) (Q (.p .non))
theorem q0K(F:Fun Ξ "copy" "Store.copy" Qo f fd)(TP:q00 Ξ C):FnOk P w Ξ mg base CX0 1 f fd ["self","r","q"] (spU (q2c C)):=by
 exists F.zU, ["self","r","q"],qc (vD (qh (Ua Ξ) (qG qv0 rfl) qv2 (λ_ _=>rfl)) (vM (qG qv0 rfl) qv1 qL));rintro us M Qu ⟨s,h,kp,A,r,q',x,rfl,S,hr,hq,g⟩;symm;refine vE TP S ?_;refine xD S hq ?_;refine vE TP S ?_;exact V6 S hr (S.ok hq) g
noncomputable abbrev VZ:Stmt:=top 21
def q2q(C:Addr):List U->MM->UK->UX->Prop:=λus M Q X=>∃(s h kp:Nat)(A:Mc)(q:Nat)(x:Rf),us=[.m s,.p (.int q)]/\StA C M s h kp A/\A.rg[q]?=some x/\(∀z,A.pv x=some z->Q (.p .non) M)/\(A.pv x=none->X "WrongKind" (some 1) M)
theorem q0e(F:Fun Ξ "need_pair" "need_pair" VZ f fd)(a5:Cls Ξ C)(mY:ExcD P w Ξ mg base "WrongKind" CW 1)(aj:MDef P w Ξ mg base C "kind" 3 ["self","q"] (spU (Zy C))):FnOk P w Ξ mg base (CXe P w) 4 f fd ["store","q"] (spX mg (q2q C)):=by
 exists F.zX, ["store","q"],vB (Xr (qg q3y (va aj a5 qv0 (Wh hr) (qa1 qv1)) qe (qo _)) (vB (Y3 rfl rfl mY (Wh hr) (qa1 qa))) xH);rintro us M Qu Xu ⟨s,h,kp,A,q,x,rfl,S,hq,k1,k2⟩;have ix:=Mc.kn_pv (S.ok hq);left;refine mS S (by rfl) ?_;left;refine⟨s,h,kp,A,q,x,rfl,S,hq,?_⟩;left;cases ex:A.pv x with
 |none=>
  refine qQ (by rw[Us (λz=>ix.mp z ex)];rfl) ?_;exact⟨1,rfl,sm1,_,_,_,rfl,rfl,k2 ex⟩
 |some a=>
  rw[ix.mpr (by rw[ex];exact λz=>nomatch z)];left;exact k1 a ex
noncomputable abbrev jD:Stmt:=qx (top 47) 19
def kO(C:Addr):List U->MM->UK->UX->Prop:=λus M Q X=>∃(s h kp:Nat)(A:Mc)(q:Nat)(x:Rf),us=[.m s,.p (.int q)]/\StA C M s h kp A/\A.rg[q]?=some x/\(∀i a b,A.pv x=some (i,a,b)->Q (.p (.int (A.pl i))) M)/\(A.pv x=none->X "WrongKind" (some 1) M)
theorem WP(F:Fun Ξ "pair_in" "Store.pair_in" jD f fd)(TP:q00 Ξ C)(bX:DefX P w Ξ mg base "need_pair" 4 ["store","q"] (spX mg (q2q C)))(az:Def P w Ξ mg base "address_of" 3 ["laying","word"] (spP q11)):FnOk P w Ξ mg base (CXe P w) 5 f fd ["self","q"] (spX mg (kO C)):=by
 exists F.zX, ["self","q"],qX (Xs (Y4 bX (Wh hr) (qa2 qv0 qv1))) (vB (xY (qi (qf az (Wh hr) (qa2 (qG qv0 rfl) (qh (Ua Ξ) (qG qv0 rfl) qv1 (λ_ _=>rfl)))))));rintro us M Qu Xu ⟨s,h,kp,A,q,x,rfl,S,hq,k1,k2⟩;left;refine⟨s,h,kp,A,q,x,rfl,S,hq,λz ez=>?_,λe=>⟨_,_,_,rfl,rfl,k2 e⟩⟩;obtain⟨i,a,b⟩:=z;obtain⟨rfl,et⟩:=Mc.pv_t ez;left;refine xf TP S ?_;left;refine vE TP S ?_;left;refine xD S hq ?_;left;exact⟨A.bits,A.ms,_,rfl,S.O.R,by rw[Mc.addr_t S.O (S.ok hq)];exact k1 i a b ez⟩
noncomputable abbrev Ql:Stmt:=qx (top 47) 18
noncomputable def Mc.prd(A:Mc)(r:Nat)(x y:Rf):Mc×Bool:=if((A.mk' 3).os.length:Int)+(3:Nat)<=A.most then((A.mk' 3).lay r (.pr x y),true) else(A.mk' 3,false)
theorem Mc.mk_rg{A:Mc}:(A.mk' n).rg=A.rg:=by unfold Mc.mk';split<;>rfl
def q3n(C:Addr):List U->MM->UK->UX->Prop:=λus M Q X=>∃(s h kp:Nat)(A:Mc)(r q p:Nat)(x y:Rf),us=[.m s,.p (.int r),.p (.int q),.p (.int p)]/\StA C M s h kp A/\r<8/\A.rg[q]?=some x/\A.rg[p]?=some y/\((A.prd r x y).2=true->Go C M s h kp (A.prd r x y).1 (Q (.p .non)))/\((A.prd r x y).2=false->Go C M s h kp (A.prd r x y).1 (X "NoRoom" none))
theorem q0D(F:Fun Ξ "pair" "Store.pair" Ql f fd)(TP:q00 Ξ C)(a5:Cls Ξ C)(b3:GInt mg "PAIR_HEAD" 1)(cG:GInt mg "PAIR_SIZE" 3)(aw:q03 P w Ξ mg base C "make_room" 8 ["self","size"] (spX mg (GP C)))(aV:MDef P w Ξ mg base C "lay" 4 ["self","r","kind","thing"] (spU (q4C C))):FnOk P w Ξ mg base (CXe P w) 9 f fd ["self","r","q","p"] (spX mg (q3n C)):=by
 exists F.zX, ["self","r","q","p"],qX (Xs (zc qv0 a5 aw (Wh hr) (qa1 (zI cG rfl)))) (vB (xY (vj (va aV a5 qv0 (Wh hr) (qa3 qv1 qe (qA (qa3 (zI b3 rfl) (qh (Ua Ξ) (qG qv0 rfl) qv2 (λ_ _=>rfl)) (qh (Ua Ξ) (qG qv0 rfl) qv3 (λ_ _=>rfl)))))))));rintro us M Qu Xu ⟨s,h,kp,A,r,q,p,x,y,rfl,S,hr,hq,hp,q1,q2⟩;unfold Mc.prd at q1 q2;left;refine mS S (by rfl) ?_;left;obtain⟨e1,e2,e3⟩:=Mc.mk_keep (A:=A) (n:=3);have em:(A.mk' 3).most=A.most:=by unfold Mc.most;rw[e1,e2,e3]
 have eg:=Mc.mk_rg (A:=A) (n:=3);refine⟨s,h,kp,A,3,rfl,S,λcR M' h' bA f a b S'=>?_,λbw M' h' bA f a b S'=>?_⟩
 ·rw[Ul cR]at q1
  rw[<-eg]at hq hp;refine mS S' (by rfl) ?_;left;refine vE TP S' ?_;left;refine xD S' hq ?_;left;refine vE TP S' ?_;left;refine xD S' hp ?_;left;exact⟨s,h',bA,A.mk' 3,r,.pr x y,rfl,S',hr,⟨S'.ok hq,S'.ok hp⟩,by show 2<=3;decide,by rw[em];exact cR,(q1 rfl).step f a b S.lt⟩
 ·rw[Ui (Bg.mpr bw)]at q2
  exact⟨_,_,_,rfl,rfl,q2 rfl M' h' bA f a b S'⟩
def q1n(C:Addr)(fst:Bool):List U->MM->UK->UX->Prop:=λus M Q X=>∃(s h kp:Nat)(A:Mc)(r q:Nat)(x:Rf),us=[.m s,.p (.int r),.p (.int q)]/\StA C M s h kp A/\r<8/\A.rg[q]?=some x/\(∀i a b,A.pv x=some (i,a,b)->Go C M s h kp (A.put r (if fst=true then a else b)) (Q (.p .non)))/\(A.pv x=none->X "WrongKind" (some 1) M)
noncomputable abbrev km:Stmt:=qx (top 47) 20
theorem WO(F:Fun Ξ "first" "Store.first" km f fd)(TP:q00 Ξ C)(a5:Cls Ξ C)(aa:q03 P w Ξ mg base C "pair_in" 5 ["self","q"] (spX mg (kO C))):FnOk P w Ξ mg base (CXe P w) 6 f fd ["self","r","q"] (spX mg (q1n C true)):=by
 exists F.zX, ["self","r","q"],vB (q2n (q2b (Ua Ξ) (v3 (qG qv0 rfl)) (JG qH (zc qv0 a5 aa (Wh hr) (qa1 qv2)) (v3 qa)) (λ_ _=>rfl)) (vM (qG qv0 rfl) qv1 qL));rintro us M Qu Xu ⟨s,h,kp,A,r,q,x,rfl,S,hr,hq,k1,k2⟩;left;refine xg TP S ?_;left;refine mS S (by rfl) ?_;left;refine⟨s,h,kp,A,q,x,rfl,S,hq,λi a b e=>?_,λe=>⟨_,_,_,rfl,rfl,k2 e⟩⟩;obtain⟨rfl,et⟩:=Mc.pv_t e;have hm:i∈A.od:=S.ok hq;have ht:=S.O.t i hm;rw[et]at ht;left;refine q2R S (i:=A.pl i+1) (Mc.pr_at S.O hm et).1 ?_;left;refine vE TP S ?_;left;exact V6 S hr ht.1 (k1 i a b e)
noncomputable abbrev jC:Stmt:=qx (top 47) 21
theorem KF(F:Fun Ξ "second" "Store.second" jC f fd)(TP:q00 Ξ C)(a5:Cls Ξ C)(aa:q03 P w Ξ mg base C "pair_in" 5 ["self","q"] (spX mg (kO C))):FnOk P w Ξ mg base (CXe P w) 6 f fd ["self","r","q"] (spX mg (q1n C false)):=by
 exists F.zX, ["self","r","q"],vB (q2n (q2b (Ua Ξ) (v3 (qG qv0 rfl)) (JG qH (zc qv0 a5 aa (Wh hr) (qa1 qv2)) (v3 qa)) (λ_ _=>rfl)) (vM (qG qv0 rfl) qv1 qL));rintro us M Qu Xu ⟨s,h,kp,A,r,q,x,rfl,S,hr,hq,k1,k2⟩;left;refine xg TP S ?_;left;refine mS S (by rfl) ?_;left;refine⟨s,h,kp,A,q,x,rfl,S,hq,λi a b e=>?_,λe=>⟨_,_,_,rfl,rfl,k2 e⟩⟩;obtain⟨rfl,et⟩:=Mc.pv_t e;have hm:i∈A.od:=S.ok hq;have ht:=S.O.t i hm;rw[et]at ht;left;refine q2R S (i:=A.pl i+2) (Mc.pr_at S.O hm et).2 ?_;left;refine vE TP S ?_;left;exact V6 S hr ht.2 (k1 i a b e)
def q0M(C:Addr)(fst:Bool):List U->MM->UK->UX->Prop:=λus M Q X=>∃(s h kp:Nat)(A:Mc)(q p:Nat)(x y:Rf),us=[.m s,.p (.int q),.p (.int p)]/\StA C M s h kp A/\A.rg[q]?=some x/\A.rg[p]?=some y/\(∀i a b,A.pv x=some (i,a,b)->Go C M s h kp (A.setT i (if fst=true then .pr y b else .pr a y)) (Q (.p .non)))/\(A.pv x=none->X "WrongKind" (some 1) M)
theorem Ju{l:List Int}(h:l[i]?=some x):l.set i x=l:=by
 obtain⟨_,rfl⟩:=Dc.mp h;exact BE _
noncomputable abbrev xA:Stmt:=qx (top 47) 22
theorem q1J(F:Fun Ξ "set_first" "Store.set_first" xA f fd)(TP:q00 Ξ C)(a5:Cls Ξ C)(aa:q03 P w Ξ mg base C "pair_in" 5 ["self","q"] (spX mg (kO C))):FnOk P w Ξ mg base (CXe P w) 6 f fd ["self","q","p"] (spX mg (q0M C true)):=by
 exists F.zX, ["self","q","p"],vB (Y5 (qh (Ua Ξ) (qG qv0 rfl) qv2 (λ_ _=>rfl)) (qG qv0 rfl) (JG qH (zc qv0 a5 aa (Wh hr) (qa1 qv1)) (v3 qa)) qL);rintro us M Qu Xu ⟨s,h,kp,A,q,p,x,y,rfl,S,hq,hp,k1,k2⟩;left;refine vE TP S ?_;left;refine xD S hp ?_;left;refine xg TP S ?_;left;refine mS S (by rfl) ?_;left;refine⟨s,h,kp,A,q,x,rfl,S,hq,λi a b e=>?_,λe=>⟨_,_,_,rfl,rfl,k2 e⟩⟩;obtain⟨rfl,et⟩:=Mc.pv_t e;have hm:i∈A.od:=S.ok hq;have ht:=S.O.t i hm;rw[et]at ht;have h2:=(Mc.pr_at S.O hm et).2;have hl:=(Dc.mp h2).1;left;refine jT (r:=A.pl i+1) S.S.k0 (by lia) ?_;exact k1 i a b e _ h kp (zf (by simp)) (.inl rfl) (.inl rfl) (S.setT hm et (S.ok hp) ht.2 (Ju (by rw[Di (by lia)];exact h2)).symm)
noncomputable abbrev zY:Stmt:=qx (top 47) 23
theorem q0z(F:Fun Ξ "set_second" "Store.set_second" zY f fd)(TP:q00 Ξ C)(a5:Cls Ξ C)(aa:q03 P w Ξ mg base C "pair_in" 5 ["self","q"] (spX mg (kO C))):FnOk P w Ξ mg base (CXe P w) 6 f fd ["self","q","p"] (spX mg (q0M C false)):=by
 exists F.zX, ["self","q","p"],vB (Y5 (qh (Ua Ξ) (qG qv0 rfl) qv2 (λ_ _=>rfl)) (qG qv0 rfl) (JG qH (zc qv0 a5 aa (Wh hr) (qa1 qv1)) (v3 qa)) qL);rintro us M Qu Xu ⟨s,h,kp,A,q,p,x,y,rfl,S,hq,hp,k1,k2⟩;left;refine vE TP S ?_;left;refine xD S hp ?_;left;refine xg TP S ?_;left;refine mS S (by rfl) ?_;left;refine⟨s,h,kp,A,q,x,rfl,S,hq,λi a b e=>?_,λe=>⟨_,_,_,rfl,rfl,k2 e⟩⟩;obtain⟨rfl,et⟩:=Mc.pv_t e;have hm:i∈A.od:=S.ok hq;have ht:=S.O.t i hm;rw[et]at ht;obtain⟨h1,h2⟩:=Mc.pr_at S.O hm et;have hl:=(Dc.mp h2).1;left;refine jT (r:=A.pl i+2) S.S.k0 (by lia) ?_;exact k1 i a b e _ h kp (zf (by simp)) (.inl rfl) (.inl rfl) (S.setT hm et ht.1 (S.ok hp) (by rw[Ju h1]))
noncomputable abbrev Qy:Stmt:=top 59
def XT:List T->(T->Prop)->Prop:=λts Q=>∃(bits:Int)(ms:List Mk3)(n:Int)(m:Mk3),ts=[layT bits ms,.int n]/\ms.length<=900/\OfKind ms "small" m/\1<=bits-m.2.1/\bits-m.2.1<=60/\Q (.bl (v6 (bits-m.2.1) n))
theorem WN(F:Fun Ξ "_law_is_small" "_law_is_small" Qy f fd)(cq:Def P w Ξ mg base "_law_load" 2 ["laying","kind"] (spP ZB)):FnOk P w Ξ mg base CX0 3 f fd ["laying","n"] (spP XT):=by
 exists F.zP, ["laying","n","half"],qb (ql (i:=2) nd rfl Wr (qm vO qa (qm vH (qf cq (Wh hr) (qa2 qv0 qe)) qa))) (qc (qi (JJ q4K xw (qm vH qa qv2) qv1 qv2))),(qj (by right) (vS (Km (zn λ_ _=>.bl _) (zn λ_ _=>.bl _) (zu (zn λ_ _=>.int _) Wi (qk 2)) (qk 1) (qk 2))));rintro ts Qt ⟨bits,ms,n,m,rfl,hl,hm,s0,s1,q⟩;symm;refine⟨bits,ms,"small", m,rfl,hl,hm,?_⟩;symm;refine⟨⟨by lia,by lia,by decide⟩,?_⟩;unfold v6 at q
 lia
noncomputable abbrev q2M:Stmt:=top 61
def J1:List T->(T->Prop)->Prop:=λts Q=>∃(bits:Int)(ms:List Mk3)(n:Int),ts=[layT bits ms,.int n]/\1<=bits/\bits<=60/\Bt 20000 n/\Q (qC (zh bits n))
theorem WT(F:Fun Ξ "_law_limbs" "_law_limbs" q2M f fd)(N:Nms mg):FnOk P w Ξ mg base CX0 1 f fd ["laying","n"] (spP J1):=by
 exists F.zP, ["laying","n","found","left"],qb (ql (i:=2) nd rfl Wr (qA zm)) (qb (ql (i:=3) nd rfl Wr (qE j3 (by rfl) N.abs q0Z (qa1 qv1))) (qb (xZ PassesOwn.never (qg WD qv3 qa (qo _)) (qb (vj (jN PySem.F.slot_list_append PySem.F.type_list_append vQ qv2 (qa1 (qm vV qv3 (qm vO qa (qh (Ub Ξ) qv0 qa (λ_ _=>rfl))))))) (qc (ql (i:=3) nd rfl Wr (qm Wz qv3 (qh (Ub Ξ) qv0 qa (λ_ _=>rfl))))))) (qc (qi qv2)))),(qj (qM (zr qK) (qF 2)) (by right));rintro ts Qt ⟨bits,ms,n,rfl,b0,b1,hn,q⟩;have hc:=XJ hn b0 b1;symm;rw[Jb];refine⟨λd ρ M=>∃i:Nat,d=lcnt bits n-i/\i<=lcnt bits n/\ρ=[some (.p (layT bits ms)),some (.p (.int n)),some (.m 0),some (.p (.int ((n.natAbs / 2^(bits.toNat*i):Nat):Int)))]/\M=[iM ((List.range i).map (lim bits.toNat n.natAbs))],⟨_,0,rfl,DG _,by simp,rfl⟩,?_⟩;rintro d ρ M ⟨i,rfl,hi,rfl,rfl⟩;symm;refine ite2 (λhh=>?_) (λhh=>?_)
 ·have mZ:i<lcnt bits n:=(zK b0 i).mp (by exact_mod_cast hh)
  have en:(((n.natAbs / 2^(bits.toNat*i):Nat):Int) / 2^bits.toNat)=((n.natAbs / 2^(bits.toNat*(i+1)):Nat):Int):=by rw[<-kL];push_cast;rfl
  refine⟨λρ M=>ρ=[some (.p (layT bits ms)),some (.p (.int n)),some (.m 0),some (.p (.int ((n.natAbs / 2^(bits.toNat*(i+1)):Nat):Int)))]/\M=[iM ((List.range (i+1)).map (lim bits.toNat n.natAbs))],?_,?_⟩
  ·rintro bS M' ⟨rfl,rfl⟩
   exact⟨lcnt bits n-(i+1),by lia,i+1,rfl,by lia,rfl,rfl⟩
  ·symm
   refine⟨⟨by lia,by lia,by decide⟩,by rw[DN];exact qO _,by simp only[Dg,D2,Uk];lia,?_⟩;symm;refine⟨by lia,by rw[en],?_⟩;rw[RX,Dq,DN];unfold iM;rw[Dq,Dq];unfold lim;push_cast;rfl
 ·have ei:i=lcnt bits n:=by
   have:=mt (zK (n:=n) b0 i).mpr (by exact_mod_cast hh);lia
  subst ei;symm;exact⟨_,kP rfl,q⟩
theorem q1y(R:Right bits ms)(q:Q (.bl (v6 (bits-(qW ms "small").2.1) n))):XT [layT bits ms,.int n] Q:=by
 obtain⟨m,hm⟩:=R.kind (kind := "small") (by decide);have hb:=R.b;have eV:=R.w m hm.mem;have cA:=vY m.1;have hn:=R.n;rw[hm.mk]at q;exact⟨bits,ms,n,m,rfl,by lia,hm,by lia,by lia,q⟩
noncomputable def rfT:Rf->T
 |.w x=>tOf x
 |.t i=>.tup [.str "thing",.int (i:Int)]
noncomputable def thT:Th->List T
 |.far n=>[.str "far",.int n]
 |.pr a b=>[.str "pair", rfT a,rfT b]
noncomputable abbrev tM(l:List T):MO:=.lst (l.map U.p)
noncomputable def nT(i:Nat):T:=.int (i:Int)
noncomputable def kvT(n:Nat):List Nat->List (Key×U)
 | []=>[]
 |j::l=>(.inl (n:Int),.m j)::kvT (n+1) l
theorem q3d:∀{l:List Nat}{n i j:Nat},l[i]?=some j->valU (kvT n l) (.inl ((n+i:Nat):Int))=some (.m j)
 | [],_,_,_,h=>by cases h
 |a::l,n,0,j,h=>by
  cases h;unfold valU kvT;simp
 |a::l,n,i+1,j,h=>by
  have ih:=q3d (n:=n+1) (i:=i) h;have hn:¬((Key.inl n:Key)=Key.inl ((n+(i+1):Nat))):=λz=>by injection z with z;lia
  unfold valU at *;show((_::kvT _ l).find? _).map _=_;rw[RE];simp only[hn,UU];rw[show n+(i+1)=n+1+i by lia];exact ih
theorem Gr:∀{l:List Nat}{n j:Nat},kvT n (l++[j])=kvT n l++[(.inl ((n+l.length:Nat):Int),.m j)]
 | [],_,_=>rfl
 |a::l,n,j=>by
  show _::kvT _ (l++[j])=_;rw[Gr,show n+1+l.length=n+(a::l).length by rw[Dv];lia];rfl
theorem q2O:∀{l:List Nat}{n:Nat},∀kv∈kvT n l,∃k:Nat,kv.1=.inl (k:Int)/\k<n+l.length
 | [],_,_,h=>nomatch h
 |a::l,n,kv,h=>by
  rcases Dl.mp h with rfl|h
  ·exact⟨n,rfl,by rw[Dv];lia⟩
  ·obtain⟨k,e,hk⟩:=q2O kv h
   exact⟨k,e,by rw[Dv];lia⟩
theorem Gq:∀{l:List Nat}{n:Nat},(kvT n l).length=l.length
 | [],_=>rfl
 |a::l,n=>by show(kvT _ l).length+1=_;rw[Gq];rfl
noncomputable def owF(A:Mc)(g d o c:Nat):List U:=[.p (layT A.bits A.ms),.p (.int A.most),.m g,.m d,.m o,.m c,.p (nT A.tb.length)]
structure Ow(M:MM)(w g d o c:Nat)(tm:List Nat)(A:Mc):Prop where
 O:A.Ok
 w0:M[w]?=some (.lst (owF A g d o c))
 g0:M[g]?=some (tM (A.rg.map rfT))
 d0:M[d]?=some (.dK (kvT 0 tm))
 o0:M[o]?=some (tM (A.od.map nT))
 c0:M[c]?=some (iM [A.qu,A.sl,A.sw])
 l:tm.length=A.tb.length
 t:∀i j,tm[i]?=some j->M[j]?=some (tM (thT (A.th i)))
 n:(w::g::d::o::c::tm).Nodup
 z:A.tb.length<=1000
section
variable {M:MM}{w g d o c:Nat}{tm:List Nat}{A:Mc}{Q:UK}
theorem Ow.ix(S:Ow M w g d o c tm A)(h:atI (owF A g d o c) i=some u)(q:Q u M):IxS qB M (.m w) (.p (.int i)) Q:=xM (by simp[qB,S.w0]) h q
theorem Ow.tb(S:Ow M w g d o c tm A)(h:i<A.tb.length):∃j,tm[i]?=some j/\M[j]?=some (tM (thT (A.th i))):=by
 have h':i<tm.length:=by rw[S.l];exact h
 exact⟨_,Df h',S.t i _ (Df h')⟩
theorem Ow.dg(S:Ow M w g d o c tm A){i j:Nat}(h:tm[i]?=some j)(q:Q (.m j) M):qaF M (.m d) (.p (.int (i:Int))) Q:=Ke S.d0 (by have:=q3d (n:=0) h;rw[Re]at this;exact this) q
theorem zl(e:M[j]?=some (tM l))(h:atI l i=some t)(q:Q (.p t) M):IxS qB M (.m j) (.p (.int i)) Q:=xM (by simp[qB,e]) (X9 h) q
end
def GoF(M:MM)(w:Nat)(F:List Nat)(B:Mc)(Q:MM->Prop):Prop:=∀M' g' d' o' c' bY,Frm M M' F->(∀i∈w::g'::d'::o'::c'::bY,i∈F\/M.length<=i)->Ow M' w g' d' o' c' bY B->Q M'
abbrev GoO(M:MM)(w g d o c:Nat)(tm:List Nat)(B:Mc)(Q:MM->Prop):Prop:=GoF M w (w::g::d::o::c::tm) B Q
theorem GoF.step{w:Nat}(h:GoF M w F B Q)(f:Frm M M' F)(hf:∀i∈F',i∈F\/M.length<=i):GoF M' w F' B Q:=λM2 g' d' o' c' bY f2 h2 S=>h M2 g' d' o' c' bY (f.trans f2 hf) (λi hi=>(h2 i hi).elim (hf i) λz=>.inr (DA f.1 z)) S
noncomputable abbrev q72:Stmt:=top 62
theorem q6B{A:Mc}(O:A.Ok)(h:i∈A.od)(e:A.th i=.far n):lcnt A.bits n+1<=400:=by
 have:=Mc.pl_lt O h;have:=Mc.os_le O;have:A.sz i=lcnt A.bits n+1:=by unfold Mc.sz;rw[e];rfl
 lia
theorem q3j{A:Mc}(O:A.Ok)(h:i∈A.od)(e:A.th i=.far n):Bt 12768 n:=by
 have h1:=q6B O h e;have hb:=O.R.b;have:=mt (zK (by lia) (lcnt A.bits n)).mp (DV _);have h2:=(BN.mp (qaH.mp (R9.mp this))).resolve_left (Bu (BF _));have h3:A.bits.toNat*lcnt A.bits n<=32*399:=Nat.mul_le_mul (by lia) (by lia);exact Dx h2 (Ra (by decide) h3)
def GL:List U->MM->UK->Prop:=λus M Q=>∃(w g d o c:Nat)(tm:List Nat)(A:Mc)(i:Nat),us=[.m w,.p (.int (i:Int))]/\Ow M w g d o c tm A/\i∈A.od/\Q (.p (.int (A.sz i:Int))) M
theorem q0u(F:Fun Ξ "_law_size" "_law_size" q72 f fd)(N:Nms mg)(b6:Def P w Ξ mg base "_law_limbs" 1 ["laying","n"] (spP J1)):FnOk P w Ξ mg base CX0 2 f fd ["own","i"] (spU GL):=by
 exists F.zU, ["own","i"],qc (qi (qZ (qg op_eq (qh (Ua Ξ) (zd (zt hr) (qh (Ua Ξ) qv0 qa (λ_ _=>rfl)) qv1 (λ_ _=>rfl)) qa (λ_ _=>rfl)) qe (qo _)) qa (qm qH qa (qE vJ (by rfl) N.len kY (qa1 (qf b6 (Wh hr) (qa2 (qh (Ua Ξ) qv0 qa (λ_ _=>rfl)) (qh (Ua Ξ) (zd (zt hr) (qh (Ua Ξ) qv0 qa (λ_ _=>rfl)) qv1 (λ_ _=>rfl)) qa (λ_ _=>rfl)))))))));rintro us M Qu ⟨w,g,d,o,c,tm,A,i,rfl,S,hi,q⟩;obtain⟨j,ej,em⟩:=S.tb (S.O.b i hi);have hb:=S.O.R.b;symm;refine S.ix (by rfl) ?_;symm;refine S.dg ej ?_;symm;unfold Mc.sz at q;cases et:A.th i with
 |pr a b=>
  rw[et]at q em;refine zl em (by rfl) ?_;left;exact q
 |far n=>
  rw[et]at q em;refine zl em (by rfl) ?_;left;refine S.ix (by rfl) ?_;left;refine S.ix (by rfl) ?_;left;refine S.dg ej ?_;left;refine zl em (by rfl) ?_;left;refine⟨A.bits,A.ms,n,rfl,by lia,by lia,(q3j S.O hi et).mono (by decide),?_⟩;left;have hl:(zh A.bits n).length=lcnt A.bits n:=by unfold zh;rw[Dg,D2]
  rw[Dg,hl,show(1:Int)+(lcnt A.bits n:Int)=((lcnt A.bits n+1:Nat):Int) by push_cast;lia];exact q
noncomputable abbrev q6C:Stmt:=top 63
theorem q4D:(["own","i"]:List Str).Nodup:=by decide+kernel
def q2G:List U->MM->UK->Prop:=λus M Q=>∃(w g d o c:Nat)(tm:List Nat)(A:Mc),us=[.m w]/\Ow M w g d o c tm A/\Q (.p (.int (A.os.length:Int))) M
theorem q1d(F:Fun Ξ "_law_used" "_law_used" q6C f fd)(N:Nms mg)(cH:Def P w Ξ mg base "_law_size" 2 ["own","i"] (spU GL)):FnOk P w Ξ mg base CX0 3 f fd ["own"] (spU q2G):=by
 exists F.zU, ["own"],qc (qi (qE (qau (Ξ:=Ξ) rfl rfl) (by rfl) N.sum q8d (qa1 (jO [true] ["i"] (qY (Ξ:=Ξ) rfl (qh (Ua Ξ) qv0 qa (λ_ _=>rfl))) (λ_ _ _=>(vd (i:=1) q4D rfl Wr)) (λ_ _ _=>jm) (λ_ _ _=>(qf cH (Wh hr) (qa2 qv0 qv1))))))),(vS (ZY q0E (by right)));rintro us M Qu ⟨w,g,d,o,c,tm,A,rfl,S,q⟩;symm;refine S.ix (by rfl) ?_;symm;refine xN S.o0 ?_;symm;have au:A.od.length<=1000:=by
  have h1:=vP (ks:=A.od) (hs:=List.range A.tb.length) (Mc.nd S.O) λk hk=>D8.mpr (S.O.b k hk);rw[D2]at h1;have:=S.z;lia
 refine xT (by rw[Dg,Uk];lia) (λi a7 M'=>M'=M/\a7=(((A.od.take i).map λj=>(A.sz j:Int)).map T.int)) ⟨rfl,rfl⟩ ?_ ?_ ?_
 ·rintro i a7 M' ⟨rfl,_⟩
  exact S.o0
 ·rintro i x a7 M' hx _ ⟨rfl,rfl⟩
  obtain⟨j,hj,rfl⟩:=q02 hx;symm;refine⟨w,g,d,o,c,tm,A,j,rfl,S,Dh hj,_,rfl,rfl,?_⟩;rw[qD hj,Dq,Dq];rfl
 ·rintro a7 M' ⟨rfl,rfl⟩
  rw[Dg,DF];symm;refine⟨_,rfl,?_⟩;rw[show(A.od.map λj=>(A.sz j:Int)).sum=(A.os.length:Int) by
   unfold Mc.os;rw[Mc.fm_len];generalize A.od=l
   induction l with
   |nil=>rfl
   |cons a l ih=>rw[DD,Bk,ih,DD,Bk];push_cast;rfl]
  exact q
theorem InW.cs(h:InW bits ms x):(∃n:Int,x=(("small" : Str),n))\/(∃n:Int,x=(("sign" : Str),n))\/∃n:Int,x=(("one" : Str),n):=by
 obtain⟨k,n⟩:=x;rcases h.k with e|e|e<;>cases e
 ·exact .inl ⟨n,rfl⟩
 ·exact .inr (.inl ⟨n,rfl⟩)
 ·exact .inr (.inr ⟨n,rfl⟩)
noncomputable abbrev q30:Stmt:=top 67
def XR:List U->MM->UK->Prop:=λus M Q=>∃(w g d o c:Nat)(tm:List Nat)(A:Mc)(x:Rf),us=[.m w,.p (rfT x)]/\Ow M w g d o c tm A/\A.RfOk x/\Q (.p (A.tl x)) M
theorem WJ(F:Fun Ξ "_law_worth" "_law_worth" q30 f fd)(N:Nms mg):FnOk P w Ξ mg base CX0 1 f fd ["own","ref"] (spU XR):=by
 exists F.zU, ["own","ref"],qb (qI (V2 (QD (zg (qE (Uc Ξ) (by rfl) N.isinstance vi (qa2 qv1 (xb (v:=.ty "tuple") (by rfl) N.tuple VE rfl)))) (kr (qg op_eq (qh (Ub Ξ) qv1 qa (λ_ _=>rfl)) qe (qo _))))) (qc (qi (qZ (qg op_eq (qh (Ua Ξ) (zd (zt hr) (qh (Ua Ξ) qv0 qa (λ_ _=>rfl)) (qh (Ub Ξ) qv1 qa (λ_ _=>rfl)) (λ_ _=>rfl)) qa (λ_ _=>rfl)) qe (qo _)) (qh (Ua Ξ) (zd (zt hr) (qh (Ua Ξ) qv0 qa (λ_ _=>rfl)) (qh (Ub Ξ) qv1 qa (λ_ _=>rfl)) (λ_ _=>rfl)) qa (λ_ _=>rfl)) qe))) qt) (qc (qi qv1)),(qj (xh (ZQ (ct_b (jL .tuple (qk 1))) (by right)) (by right) vG) (by right));rintro us M Qu ⟨w,g,d,o,c,tm,A,x,rfl,S,hx,q⟩;cases x with
 |w y=>
  rcases InW.cs hx with⟨n,rfl⟩|⟨n,rfl⟩|⟨n,rfl⟩
  ·have e:rfT (.w ("small", n))=.int n:=rfl
   rw[e];left;exact q
  ·have e:rfT (.w ("sign", n))=.tup [.str "sign",.int n]:=rfl
   rw[e];left;exact q
  ·have e:rfT (.w ("one", n))=.str (three3.getD n.toNat "none"):=rfl
   rw[e];left;exact q
 |t i=>
  obtain⟨j,ej,em⟩:=S.tb (S.O.b i hx);have e:rfT (.t i)=.tup [.str "thing",.int (i:Int)]:=rfl;rw[e];left;refine S.ix (by rfl) ?_;left;refine S.dg ej ?_;left;unfold Mc.tl at q;cases et:A.th i with
  |pr a b=>
   simp only[et]at q em;refine zl em (by rfl) ?_;left;exact q
  |far n=>
   simp only[et]at q em;refine zl em (by rfl) ?_;left;refine S.ix (by rfl) ?_;left;refine S.dg ej ?_;left;refine zl em (by rfl) ?_;left;exact q
theorem q0X:∀k:Nat,three3.getD k "none" ≠ "pair"
 |0=>by decide
 |1=>by decide
 |2=>by decide
 |n+3=>by show("none" : Str) ≠ "pair";decide
noncomputable abbrev q6o:Stmt:=top 68
def GT:List U->MM->UK->Prop:=λus M Q=>∃(w g d o c:Nat)(tm:List Nat)(A:Mc)(x:Rf),us=[.m w,.p (rfT x)]/\Ow M w g d o c tm A/\A.RfOk x/\Q (.p (.str (A.kn x))) M
theorem q10(F:Fun Ξ "_law_kind" "_law_kind" q6o f fd)(N:Nms mg)(aZ:Def P w Ξ mg base "_law_worth" 1 ["own","ref"] (spU XR)):FnOk P w Ξ mg base CX0 2 f fd ["own","ref"] (spU GT):=by
 exists F.zU, ["own","ref","worth"],qb (ql (i:=2) nd rfl Wr (qf aZ (Wh hr) (qa2 qv0 qv1))) (qb (qI (zg (qE (Uc Ξ) (by rfl) N.isinstance vi (qa2 qv2 (xb (v:=.ty "int") (by rfl) N.int qaA rfl)))) (qc (qi qe)) qt) (qb (qI (zg (qE (Uc Ξ) (by rfl) N.isinstance vi (qa2 qv2 (xb (v:=.ty "tuple") (by rfl) N.tuple VE rfl)))) (qc (qi qe)) qt) (qc (qi (qZ (qg op_eq qv2 qe (qo _)) qe qe))))),(qj (by right) (qj (xh (ct_b (jL .int (qk 2))) (by right) vG) (qj (xh (ct_b (jL .tuple (qk 2))) (by right) vG) (vS (q3h (xR (zu Wx (qk 2) Wo)) (.str _) (.str _))))));rintro us M Qu ⟨w,g,d,o,c,tm,A,x,rfl,S,hx,q⟩;symm;refine⟨w,g,d,o,c,tm,A,x,rfl,S,hx,?_⟩;cases x with
 |w y=>
  rcases InW.cs hx with⟨n,rfl⟩|⟨n,rfl⟩|⟨n,rfl⟩
  ·have e:A.tl (.w ("small", n))=.int n:=rfl
   rw[e];left;exact q
  ·have e:A.tl (.w ("sign", n))=.tup [.str "sign",.int n]:=rfl
   rw[e];left;exact q
  ·have e:A.tl (.w ("one", n))=.str (three3.getD n.toNat "none"):=rfl
   rw[e];left;rw[Ui (q0X _)];exact q
 |t i=>
  have e:A.tl (.t i)=(match A.th i with | .far n=>T.int n | .pr _ _=>T.str "pair"):=rfl;have e2:A.kn (.t i)=kS (A.th i).kd:=rfl;rw[e];rw[e2]at q;cases et:A.th i with
  |pr a b=>
   rw[et]at q;left;exact q
  |far n=>
   rw[et]at q;left;exact q
noncomputable abbrev Jz:Stmt:=top 60
def q2j:List U->MM->UK->Prop:=λus M Q=>∃(bits:Int)(ms:List Mk3)(room:Int),us=[.p (layT bits ms),.p (.int room)]/\Right bits ms/\0<=room/\room<=400/\∀M' w g d o c,Frm M M' []->(∀i∈[w,g,d,o,c],M.length<=i)->Ow M' w g d o c [] (Mc.new bits ms room)->Q (.m w) M'
theorem q1V(F:Fun Ξ "_law_machine" "_law_machine" Jz f fd)(N:Nms mg)(cq:Def P w Ξ mg base "_law_load" 2 ["laying","kind"] (spP ZB)):FnOk P w Ξ mg base CX0 3 f fd ["laying","room"] (spU q2j):=by
 exists F.zU, ["laying","room","most"],qb (ql (i:=2) nd rfl Wr (qE (qav (Ξ:=Ξ) rfl rfl) (by rfl) N.min q4A (qa1 (qA (qa3 qv1 (qm vO qa (qf cq (Wh hr) (qa2 qv0 qe))) (qm vO qa (qf cq (Wh hr) (qa2 qv0 qe)))))))) (qc (qi (qA (qa_c qv0 (qa_c qv2 (qa_c (qm WA (qA (qa1 qe)) qa) (qa4 ky (qA zm) (qA (qa3 qa qa qa)) qa))))))),(qj (qM (ZY q1a (by right)) (qF 2)) (vS (zr (qq (qk 0) (qq (qk 2) (qq (ZV (by right) (by right)) (qq kW (qq (zr qK) (qq (zr (by right)) (by right))))))))));rintro us M Qu ⟨bits,ms,room,rfl,R,h0,h4,q⟩;have hb:=R.b;obtain⟨mf,n8⟩:=R.kind (kind := "far") (by decide);obtain⟨mp,dM⟩:=R.kind (kind := "pair") (by decide);have hwf:=R.w mf n8.mem;have hwp:=R.w mp dM.mem;have iY:=vY mf.1;have hnp:=vY mp.1;symm;refine⟨bits,ms,"far", mf,rfl,by have:=R.n;lia,n8,?_⟩;symm;refine⟨⟨by lia,by lia,by decide⟩,?_⟩;refine⟨bits,ms,"pair", mp,rfl,by have:=R.n;lia,dM,?_⟩;symm;refine⟨⟨by lia,by lia,by decide⟩,?_⟩;rw[DN,DN];refine⟨[room,2^(bits-mf.2.1).toNat,2^(bits-mp.2.1).toNat],rfl,by show 0<3;decide,λm hm cR=>?_⟩;have em:m=kG bits ms room:=by
  have h3:=@Gc room (2^(bits-wOf ms "far").toNat) (2^(bits-wOf ms "pair").toNat);have ho:=@Gb room (2^(bits-wOf ms "far").toNat) (2^(bits-wOf ms "pair").toNat);unfold kG;rw[Qb n8,Qb dM]at h3 ho ⊢;have l1:=cR _ (.head _);have l2:=cR _ (.tail _ (.head _));have l3:=cR _ (.tail _ (.tail _ (.head _)));simp only[Dl,DU,UP]at hm;lia
 subst em;refine YU (by decide) (by decide) (by show 8<=sizeLine;decide) ?_;have e:∀(a b c d e:MO),M++[a]++[b]++[c]++[d]++[e]=M++[a,b,c,d,e]:=λa b c d e=>by simp
 rw[e];simp only[Dj,Dv,D4,Re];have gt:∀(L:MM)(i:Nat),(M++L)[M.length+i]?=L[i]?:=λL i=>by rw[Dp (by lia),DM]
 refine q _ (M.length+4) M.length (M.length+1) (M.length+2) (M.length+3) ⟨by rw[Dj];lia,λi hi _=>De hi⟩ (λi hi=>by simp only[Dl,DU,UP]at hi;lia) ⟨q2N R h0 h4,?_,?_,?_,?_,?_,rfl,(λi j z=>by cases z),by simp,by show 0<=1000;decide⟩
 ·rw[gt];rfl
 ·have:=gt [.lst ((List.replicate 8 [T.str "none"]).flatten.map U.p),.dK [],.lst [],.lst [.p (.int 0),.p (.int 0),.p (.int 0)],.lst [.p (layT bits ms),.p (.int (kG bits ms room)),.m M.length,.m (M.length+1),.m (M.length+1+1),.m (M.length+1+1+1),.p (.int 0)]] 0
  exact this
 ·rw[gt];rfl
 ·rw[gt];rfl
 ·rw[gt];rfl
noncomputable def Th.kids:Th->List Rf
 |.far n=>[.w ("small", n)]
 |.pr a b=>[a,b]
theorem q6W:(thT t).drop 1=t.kids.map rfT:=by cases t<;>rfl
theorem Vm{t:Th}:t.kids.length<=2:=by cases t with
 |far n=>show 1<=2;decide
 |pr a b=>show 2<=2;decide
def Mc.Wt(A:Mc)(x:Rf):Prop:=(∃n:Int,x=.w ("small", n))\/(∃n:Int,x=.w ("sign", n))\/(∃n:Int,x=.w ("one", n))\/∃i∈A.od,x=.t i
theorem Mc.wt_ok{A:Mc}(h:A.RfOk x):A.Wt x:=by
 cases x with
 |w y=>rcases InW.cs h with⟨n,rfl⟩|⟨n,rfl⟩|⟨n,rfl⟩
       ·exact .inl ⟨n,rfl⟩
       ·exact .inr (.inl ⟨n,rfl⟩)
       ·exact .inr (.inr (.inl ⟨n,rfl⟩))
 |t i=>exact .inr (.inr (.inr ⟨i,h,rfl⟩))
theorem Mc.wt_kid{A:Mc}(O:A.Ok)(h:i∈A.od)(hx:x∈(A.th i).kids):A.Wt x:=by
 have ht:=O.t i h;cases e:A.th i with
 |far n=>
  rw[e]at hx;rw[Dm.mp hx];exact .inl ⟨n,rfl⟩
 |pr a b=>
  rw[e]at hx ht;simp[Th.kids,Dl,DU,UP]at hx;rcases hx with rfl|rfl
  ·exact Mc.wt_ok ht.1
  ·exact Mc.wt_ok ht.2
theorem Mc.rc_kid{A:Mc}(h:A.Rc i)(hx : .t j∈(A.th i).kids):A.Rc j:=by
 cases e:A.th i with
 |far n=>rw[e]at hx;exact nomatch Dm.mp hx
 |pr a b=>
  rw[e]at hx;simp[Th.kids,Dl,DU,UP]at hx;rcases hx with rfl|rfl
  ·exact .l h e
  ·exact .r h e
structure RJ(A:Mc)(ks:List Nat)(L:List Rf):Prop where
 nd:ks.Nodup
 r:∀k∈ks,A.Rc k
 f:∀x∈L,x∈A.rg\/∃j∈ks,x∈(A.th j).kids
 c:∀k,(.t k∈A.rg\/∃j∈ks,.t k∈(A.th j).kids)->k∈ks \/ .t k∈L
 l:L.length<=8+2*ks.length
theorem RJ.done(I:RJ A ks []):k∈ks↔A.Rc k:=by
 refine⟨I.r k,λh=>?_⟩
 induction h with
 |of h=>exact(I.c _ (.inl h)).resolve_right (λz=>nomatch z)
 |l h e ih=>exact(I.c _ (.inr ⟨_,ih,by rw[e];exact .head _⟩)).resolve_right (λz=>nomatch z)
 |r h e ih=>exact(I.c _ (.inr ⟨_,ih,by rw[e];exact .tail _ (.head _)⟩)).resolve_right (λz=>nomatch z)
theorem RJ.skip(I:RJ A ks (L++[x]))(h:∀k,x=.t k->k∈ks):RJ A ks L:=by
 refine⟨I.nd,I.r,λy hy=>I.f y (Dw _ hy),λk hk=>?_,by have:=I.l;grind⟩;rcases I.c k hk with z|z
 ·exact .inl z
 ·rcases Dr.mp z with z|z
  ·exact .inr z
  ·exact .inl (h k (Dm.mp z).symm)
theorem RJ.step(I:RJ A ks (L++[.t k]))(hk:k∉ks):RJ A (ks++[k]) (L++(A.th k).kids):=by
 have mU:A.Rc k:=by
  rcases I.f _ (Ds _ (.head _))with z|⟨j,hj,z⟩
  ·exact .of z
  ·exact Mc.rc_kid (I.r j hj) z
 refine⟨?_,λj hj=>?_,λz hz=>?_,λj hj=>?_,?_⟩
 ·rw[DW]
  exact⟨I.nd,by simp,λa ha b hb z=>hk (by rw[Dm.mp hb]at z;exact z▸ha)⟩
 ·rcases Dr.mp hj with hj|hj
  ·exact I.r j hj
  ·rw[Dm.mp hj];exact mU
 ·rcases Dr.mp hz with hz|hz
  ·rcases I.f z (Dw _ hz)with y|⟨j,hj,y⟩
   ·exact .inl y
   ·exact .inr ⟨j,Dw _ hj,y⟩
  ·exact .inr ⟨k,Ds _ (.head _),hz⟩
 ·have aD:_->j∈ks++[k]\/Rf.t j∈L++(A.th k).kids:=λh=>by
   rcases I.c j h with z|z
   ·exact .inl (Dw _ z)
   ·rcases Dr.mp z with z|z
    ·exact .inr (Dw _ z)
    ·have:=Dm.mp z
     cases this;exact .inl (Ds _ (.head _))
  rcases hj with z|⟨i,hi,z⟩
  ·exact aD (.inl z)
  ·rcases Dr.mp hi with hi|hi
   ·exact aD (.inr ⟨i,hi,z⟩)
   ·rw[Dm.mp hi]at z
    exact .inr (Ds _ z)
 ·have:=I.l
  have:=@Vm (A.th k)
  grind
theorem q4r{α:Type}{l:List α}(h:l≠[]):∃r x,l=r++[x]:=⟨_,_,(RT h).symm⟩
section
variable {M M':MM}{w g d o c:Nat}{tm:List Nat}{A:Mc}
theorem Ow.lt(S:Ow M w g d o c tm A):∀i∈w::g::d::o::c::tm,i<M.length:=λi hi=>by
 have k:∀{j:Nat}{m:MO},M[j]?=some m->j<M.length:=λe=>(Dc.mp e).1;simp at hi;rcases hi with rfl|rfl|rfl|rfl|rfl|hi
 ·exact k S.w0
 ·exact k S.g0
 ·exact k S.d0
 ·exact k S.o0
 ·exact k S.c0
 ·obtain⟨j,hj,e⟩:=List.mem_iff_getElem.mp hi
  exact k (S.t j i (by rw[Df hj,e]))
theorem Ow.keep(S:Ow M w g d o c tm A)(h:∀i∈w::g::d::o::c::tm,M'[i]?=M[i]?):Ow M' w g d o c tm A :=
 ⟨S.O,(h w (by simp)).trans S.w0,(h g (by simp)).trans S.g0,(h d (by simp)).trans S.d0,(h o (by simp)).trans S.o0,(h c (by simp)).trans S.c0,S.l,λi j e=>(h j (by have:=Dh e;simp[this])).trans (S.t i j e),S.n,S.z⟩
theorem Ow.frm(S:Ow M w g d o c tm A)(f:Frm M M' F)(h:∀i∈F,i∉w::g::d::o::c::tm):Ow M' w g d o c tm A :=
 S.keep λi hi=>f.2 i (S.lt i hi) λz=>h i z hi
theorem q7j(e:M[k]?=some (tM l)):sn M (.m k)=some (.lst l):=by
 simp only[sn,e];simp_all
theorem Ko(hz:ts.length<=sizeLine)(Iv:Nat->List T->MM->Prop)(h0:Iv 0 [] M)(hk:∀i a7 M2,Iv i a7 M2->M2[k]?=some (tM ts))(hs:∀i t a7 M2,ts[i]?=some t->a7.length<=i->Iv i a7 M2->ug (.p t) dQ M2 λbB M4=>ut bB M4 λb M5=>if b=true then ua bB M5 λz M6=>∃t,z=.p t/\Iv (i+1) (a7++[t]) M6 else Iv (i+1) a7 M5)(hd:∀a7 M2,Iv ts.length a7 M2->Q (.m M2.length) (M2++[tM a7])):qaD (itU (.m k) (ts.map U.p)) ug ut ua dQ M Q:=by
 refine⟨by simpa[itU]using hz,Iv,h0,λi a7 M2 hi ha h=>⟨by show qB M2 _=_;simp[qB,hk i a7 M2 h],λu hu=>?_⟩,λa7 M2 h=>⟨by show qB M2 _=_;simp[qB,hk _ a7 M2 h],hd a7 M2 (by simpa[itU]using h)⟩⟩;have hu:_[i]?=some u:=hu;rw[Dy]at hu;cases e:ts[i]? with
 |none=>rw[e]at hu;cases hu
 |some t=>rw[e]at hu;cases hu;exact hs i t a7 M2 e ha h
end
noncomputable abbrev q3l:Stmt:=top 64
theorem q0s:(["own","met","waiting","ref","i"]:List Str).Nodup:=by decide+kernel
def XS:List U->MM->UK->Prop:=λus M Q=>∃(w g d o c:Nat)(tm:List Nat)(A:Mc),us=[.m w]/\Ow M w g d o c tm A/\GoO M w g d o c tm A.swp (Q (.p .non))
theorem WL(F:Fun Ξ "_law_sweep" "_law_sweep" q3l f fd)(N:Nms mg):FnOk P w Ξ mg base CX0 1 f fd ["own"] (spU XS):=by
 exists F.zU, ["own","met","waiting","ref"],qb (ql (i:=1) nd rfl Gj ky) (qb (ql (i:=2) nd rfl Wr (vz vc (by rfl) N.list jl (qa1 (qh (Ua Ξ) qv0 qa (λ_ _=>rfl))))) (qb (xZ PassesOwn.never (qg (XA (Ξ:=Ξ) rfl hr.units) qv2 (qA zm) (qo _)) (qb (ql (i:=3) nd rfl Wr (We PySem.F.plainAttrs_list PySem.F.slot_list_pop PySem.F.type_list_pop q2f qv2)) (qc (qI (V2 (QD (zg (qE (Uc Ξ) (by rfl) N.isinstance vi (qa2 qv3 (xb (v:=.ty "tuple") (by rfl) N.tuple VE rfl)))) (QD (qg op_eq (qh (Ub Ξ) qv3 qa (λ_ _=>rfl)) qe (qo _)) (kr (V4 (zt hr) (qh (Ub Ξ) qv3 qa (λ_ _=>rfl)) qv1))))) (qb (ku (zt hr) qv1 (qh (Ub Ξ) qv3 qa (λ_ _=>rfl)) q22) (qc (ql (i:=2) nd rfl Wr (qm jb qv2 (vm (Gm Ξ) (zd (zt hr) (qh (Ua Ξ) qv0 qa (λ_ _=>rfl)) (qh (Ub Ξ) qv3 qa (λ_ _=>rfl)) (λ_ _=>rfl)) (vf qa) zC))))) qt)))) (qb (vD (jO [false,true,false,false] ["i"] (qY (Ξ:=Ξ) rfl (qh (Ua Ξ) qv0 qa (λ_ _=>rfl))) (λ_ _ _=>(vd (i:=4) q0s rfl Wr)) (λ_ _ _=>xI (q2X (zt hr) qv4 qv1)) (λ_ _ _=>qv4)) (vM qv0 qa qL)) (qc (vD (qm qH (qh (Ua Ξ) (qh (Ua Ξ) qv0 qa (λ_ _=>rfl)) qa (λ_ _=>rfl)) qa) (vM (qh (Ua Ξ) qv0 qa (λ_ _=>rfl)) qa qL)))))),(qj (qM kW (qF 1)) (qj (qM (j2 (qq (jK (qk 0) Wi) qK)) (qF 2)) (qj (Vz (xR (zu Ww (qk 2) (by right))) (qj (qM (q3f Ge (qk 2)) (qF 3)) (xh (ZQ (ct_b (jL .tuple (qk 3))) (ZQ (by right) (ct_b (ZW (QU (qk 3) Wi) (qk 1))))) (qj (by right) (qM (q5a (qk 2) (q51 (VD (jK (qk 0) Wi) (QU (qk 3) Wi)) (xS Wi) kU)) (qF 2))) vG))) (qj (qM (Kl (VA (jK (qk 0) Wi)) (VB 4) (ct_b (q2t (qk 4) (qk 1))) (qk 4)) (by right)) (by right)))));rintro us M Qu ⟨w,g,d,o,c,tm,A,rfl,S,q⟩;have f0:Frm M (M++[MO.dK []]) []:=⟨by simp,λi hi _=>De hi⟩;have gD:A.od.length<=1000:=by
  have h1:=vP (ks:=A.od) (hs:=List.range A.tb.length) (Mc.nd S.O) λk hk=>D8.mpr (S.O.b k hk);rw[D2]at h1;have:=S.z;lia
 have nf:∀i∈([]:List Nat),i∉w::g::d::o::c::tm:=λi z=>nomatch z;symm;simp only[Qd];symm;refine(S.frm f0 nf).ix (by rfl) ?_;symm;refine⟨_,_,rfl,.inl (by simp only[qB];rw[(S.frm f0 nf).g0]),?_⟩;symm;refine⟨λdd ρ M'=>∃(ks:List Nat)(L:List Rf)(k:Nat)(x3:Option U),dd=L.length+3*(A.od.length-ks.length)/\ρ=[some (.m w),some (.m M.length),some (.m k),x3]/\Frm M M' []/\M'[M.length]?=some (.dK (vZ ks))/\M'[k]?=some (tM (L.map rfT))/\M.length<k/\RJ A ks L,⟨_, [],A.rg,M.length+1,none,rfl,by simp,⟨by simp,λi hi _=>by rw[De (by simp;lia),De hi]⟩,by rw[De (by simp)];simp;rfl,by simp,by lia,⟨RM,(λk z=>nomatch z),λx hx=>.inl hx,λk hk=>.inr (hk.resolve_right λ⟨_,z,_⟩=>nomatch z),by rw[S.O.l8];exact Dk _⟩⟩,?_⟩;rintro dd ρ M' ⟨ks,L,k,x3,rfl,rfl,f1,iR,n9,bz,I⟩;have S1:=S.frm f1 nf;have hks:ks.length<=A.od.length:=vP I.nd λj hj=>Mc.rc_od S.O (I.r j hj);symm;refine q2Y (q7j n9) rfl ?_;refine⟨_,_,rfl,rfl,?_⟩;by_cases hL:L=[]
 ·subst hL
  refine .inr ⟨rfl,λ_=>true,(λj x y z=>by cases z),?_⟩;left;rw[Jj];symm;refine S1.ix (by rfl) ?_;symm;refine xN S1.o0 ?_;symm;refine Ko (by rw[Dg,Uk];lia) (λi a7 M2=>M2=M'/\a7=((A.od.take i).filter λj=>decide (j∈ks)).map nT) ⟨rfl,rfl⟩ ?_ ?_ ?_
  ·rintro i a7 M2 ⟨rfl,_⟩
   exact S1.o0
  ·rintro i x a7 M2 hx _ ⟨rfl,rfl⟩
   obtain⟨j,hj,rfl⟩:=q02 hx;unfold nT;symm;refine Vy iR ?_;rw[jf];symm;rw[qD hj,D6,Dq];by_cases bf:j∈ks
   ·rw[Ul bf];simp[bf]
   ·rw[Ui bf];simp[bf]
  ·rintro a7 M2 ⟨rfl,rfl⟩
   rw[Dg,DF];have el:(A.od.filter λj=>decide (j∈ks))=A.lv:=by
    unfold Mc.lv;exact Bf λj _=>decide_eq_decide.mpr I.done
   rw[el];have hM:=S1.lt;have hn:=S.n;simp only[DJ,Dl,not_or]at hn;obtain⟨⟨wg,wd,wo,wc,wt⟩,⟨gd,go,gc,gt⟩,⟨dd,dc,dt⟩,⟨oc,ot⟩,ct,nt⟩:=hn;have lw:=hM w (by simp);have lc:=hM c (by simp);have ga:∀i,i<M2.length->∀m n,((M2++[tM (A.lv.map nT)]).set w m).set c n=((M2.set w m).set c n)++[tM (A.lv.map nT)]:=λi _ m n=>by rw[RS _ _ lw,RS _ _ (by rw[Do];exact lc)]
   have g4:∀m:MO,((M2++[tM (A.lv.map nT)]).set w m)[w]?=some m:=λm=>Dn (by rw[Dj];lia);have g5:∀m:MO,((M2++[tM (A.lv.map nT)]).set w m)[c]?=some (iM [A.qu,A.sl,A.sw]):=λm=>by rw[Di wc,De lc];exact S1.c0
   refine⟨w,owF A g d o c,4,4,rfl,by rw[De lw];exact S1.w0,rfl,rfl,?_⟩;refine xM (us:=owF A g d M2.length c) (by simp only[qB];rw[g4];rfl) (by rfl) ?_;refine xM (us:=([A.qu,A.sl,A.sw].map T.int).map U.p) (by simp only[qB];rw[g5]) (by rfl) ?_;symm;refine xM (us:=owF A g d M2.length c) (by simp only[qB];rw[g4];rfl) (by rfl) ?_;refine⟨c,_,2,2,rfl,g5 _,rfl,rfl,?_⟩;rw[ga w lw];have k1:∀i,i<M2.length->i≠w->i≠c->∀m n,((M2.set w m).set c n++[tM (A.lv.map nT)])[i]?=M2[i]?:=λi hi h1 h2 m n=>by rw[De (by simp only[Do];exact hi),Di (Ne.symm h2),Di (Ne.symm h1)]
   refine q _ g d M2.length c tm ⟨by simp only[Dj,Do];have:=f1.1;lia,λi hi hn=>?_⟩ (λi hi=>?_) ⟨Mc.ok_swp S.O,?_,?_,?_,?_,?_,S.l,λi j e=>?_,?_,S.z⟩
   ·rw[k1 i (by have:=f1.1;lia) (λz=>hn (by simp[z])) λz=>hn (by simp[z])]
    exact f1.2 i hi λz=>nomatch z
   ·have:=f1.1
    simp only[Dl]at hi ⊢;rcases hi with h|h|h|h|h|h
    ·exact .inl (.inl h)
    ·exact .inl (.inr (.inl h))
    ·exact .inl (.inr (.inr (.inl h)))
    ·exact .inr (by lia)
    ·exact .inl (.inr (.inr (.inr (.inr (.inl h)))))
    ·exact .inl (.inr (.inr (.inr (.inr (.inr h)))))
   ·rw[De (by simp only[Do];exact lw),Di (Ne.symm wc),Dn lw]
    rfl
   ·rw[k1 g (hM g (by simp)) (Ne.symm wg) gc];exact S1.g0
   ·rw[k1 d (hM d (by simp)) (Ne.symm wd) dc];exact S1.d0
   ·rw[Dp (by simp only[Do];exact Dk _)]
    simp only[Do,Rq];rfl
   ·rw[De (by simp only[Do];exact lc),Dn (by rw[Do];exact lc)]
    rfl
   ·have hj:=Dh e
    rw[k1 j (hM j (by simp[hj])) (λz=>wt (z▸hj)) λz=>ct (z▸hj)];exact S1.t i j e
   ·have hl:∀i∈w::g::d::o::c::tm,i≠M2.length:=λi hi=>Dz (hM i hi)
    simp only[DJ,Dl,not_or];exact⟨⟨wg,wd,hl w (by simp),wc,wt⟩,⟨gd,hl g (by simp),gc,gt⟩,⟨hl d (by simp),dc,dt⟩,⟨(hl c (by simp)).symm,λz=>hl _ (by simp[z]) rfl⟩,ct,nt⟩
 ·refine .inl ⟨λz=>hL (by rw[Dg]at z;exact RF.mp z),?_⟩
  left;obtain⟨r,x,rfl⟩:=q4r hL;have i8:((List.map rfT (r++[x])).map U.p)[((List.map rfT (r++[x])).map U.p).length-1]?=some (.p (rfT x)):=by simp
  have sP:((List.map rfT (r++[x])).map U.p).dropLast=(r.map rfT).map U.p:=by simp
  refine⟨λρ ff=>∃(dw:List Nat)(L':List Rf)(k':Nat)(iB:Option U),L'.length+3*(A.od.length-dw.length)<(r++[x]).length+3*(A.od.length-ks.length)/\ρ=[some (.m w),some (.m M.length),some (.m k'),iB]/\Frm M ff []/\ff[M.length]?=some (.dK (vZ dw))/\ff[k']?=some (tM (L'.map rfT))/\M.length<k'/\RJ A dw L',?_,?_⟩
  ·rintro bS ff ⟨dw,L',k',iB,h1,rfl,h3,h4,h5,h6,h7⟩
   exact⟨_,h1,dw,L',k',iB,rfl,rfl,h3,h4,h5,h6,h7⟩
  symm;simp only[uMe0];symm;refine⟨_,_,rfl,n9,_,rfl,i8,?_⟩;dsimp only;rw[sP];have sQ:k<M'.length:=(Dc.mp n9).1;have f2:Frm M (M'.set k (tM (r.map rfT))) []:=⟨by rw[Do];exact f1.1,λi hi hn=>by rw[Di (by lia)];exact f1.2 i hi hn⟩;have dG:(M'.set k (tM (r.map rfT)))[M.length]?=some (.dK (vZ ks)):=by rw[Di (by lia)];exact iR
  have io:(M'.set k (tM (r.map rfT)))[k]?=some (tM (r.map rfT)):=Dn sQ;generalize M'.set k (tM (r.map rfT))=M2 at f2 dG io;have sk:∀u:Option U,(∀j,x=.t j->j∈ks)->∃(dw:List Nat)(L':List Rf)(k':Nat)(iB:Option U),L'.length+3*(A.od.length-dw.length)<(r++[x]).length+3*(A.od.length-ks.length)/\[some (.m w),some (.m M.length),some (.m k),u]=[some (.m w),some (.m M.length),some (.m k'),iB]/\Frm M M2 []/\M2[M.length]?=some (.dK (vZ dw))/\M2[k']?=some (tM (L'.map rfT))/\M.length<k'/\RJ A dw L':=λu h=>⟨ks,r,k,u,by rw[Dj];show _<_+1+_;lia,rfl,f2,dG,io,bz,I.skip h⟩;have hw:A.Wt x:=by
   rcases I.f x (Ds _ (.head _))with z|⟨j,hj,z⟩
   ·exact Mc.wt_ok (S.O.g x z)
   ·exact Mc.wt_kid S.O (Mc.rc_od S.O (I.r j hj)) z
  have S2:=S.frm f2 nf;rcases hw with⟨n,rfl⟩|⟨n,rfl⟩|⟨n,rfl⟩|⟨i,hi,rfl⟩
  ·have e:rfT (.w ("small", n))=.int n:=rfl
   rw[e];left;exact sk _ λj z=>nomatch z
  ·have e:rfT (.w ("sign", n))=.tup [.str "sign",.int n]:=rfl
   rw[e];left;exact sk _ λj z=>nomatch z
  ·have e:rfT (.w ("one", n))=.str (three3.getD n.toNat "none"):=rfl
   rw[e];left;exact sk _ λj z=>nomatch z
  ·have e:rfT (.t i)=.tup [.str "thing",.int (i:Int)]:=rfl
   rw[e];left;refine Vy dG ?_;rw[jf];left;refine ite2 (λbf=>?_) (λbf=>?_)
   ·have bf:i∉ks:=by simpa using bf
    have I2:=I.step bf;have ng:(ks++[i]).length<=A.od.length:=vP I2.nd λj hj=>Mc.rc_od S.O (I2.r j hj);have hl:=I2.l;rw[Dj,DQ]at ng;obtain⟨j,ej,em⟩:=S2.tb (S.O.b i hi);have dL:j∈w::g::d::o::c::tm:=by have:=Dh ej;simp[this]
    have gF:=S.lt j dL;left;refine jk dG (by unfold vZ;rw[Dg,Uk];lia) ?_;rw[Zr bf];have sR:M.length<M2.length:=(Dc.mp dG).1;have f3:Frm M (M2.set M.length (.dK (vZ (ks++[i])))) []:=⟨by rw[Do];exact f2.1,λi hi hn=>by rw[Di (by lia)];exact f2.2 i hi hn⟩;have l9:(M2.set M.length (.dK (vZ (ks++[i]))))[M.length]?=some (.dK (vZ (ks++[i]))):=Dn sR;have iX:(M2.set M.length (.dK (vZ (ks++[i]))))[k]?=some (tM (r.map rfT)):=by rw[Di (by lia)];exact io
    have S3:=S.frm f3 nf;have ow:(M2.set M.length (.dK (vZ (ks++[i]))))[j]?=some (tM (thT (A.th i))):=by rw[Di (by lia)];exact em
    generalize M2.set M.length (.dK (vZ (ks++[i])))=M3 at f3 l9 iX S3 ow;simp only[q5F];left;refine S3.ix (by rfl) ?_;left;refine S3.dg ej ?_;left;refine⟨_,q7j ow,?_⟩;have ec:cutT (thT (A.th i)) (some 1) none=(A.th i).kids.map rfT:=by
     rw[<-q6W];cases A.th i<;>rfl
    rw[ec];refine⟨_,_,by simp only[qB];rw[iX],rfl,?_,?_⟩
    ·have gh:=@Vm (A.th i)
     simp only[Dg];rw[Uk];simp only[Dj,DQ]at hl;lia
    rw[<-Dq, <-Dq];left;have gh:=@Vm (A.th i);refine⟨ks++[i],r++(A.th i).kids,M3.length,_,?_,rfl,⟨by rw[Dj];have:=f3.1;lia,λi hi hn=>by rw[De (by have:=f3.1;lia)];exact f3.2 i hi hn⟩,?_,by simp,?_,I2⟩
    ·simp only[Dj,DQ]at *
     lia
    ·rw[De (Dc.mp l9).1];exact l9
    ·exact(Dc.mp l9).1
   ·have bf:i∈ks:=by simpa using bf
    left;exact sk _ λj z=>by cases z;exact bf
theorem Mc.mk_tb{A:Mc}:(A.mk' n).tb=A.tb:=by unfold Mc.mk';split<;>rfl
theorem Mc.mk_ok{A:Mc}(O:A.Ok):(A.mk' n).Ok:=by
 unfold Mc.mk';split
 ·exact Mc.ok_swp O
 ·exact O
theorem Mc.rg8{A:Mc}(O:A.Ok):A.rg.set 8 x=A.rg:=List.set_eq_of_length_le (by rw[O.l8];exact Dk _)
theorem Frm.mono(f:Frm M M' F)(h:∀i∈F,i∈G):Frm M M' G:=⟨f.1,λi hi hn=>f.2 i hi λz=>hn (h i z)⟩
theorem Ow.lay{w g d o c j:Nat}{t:Th}(S:Ow M w g d o c tm A)(hj:M[j]?=some (tM (thT t)))(hn:j∉w::g::d::o::c::tm)(ht:A.ThOk t)(hf:(A.os.length:Int)+t.sz A.bits<=A.most)(hz:A.tb.length<1000)(e1:m1=.dK (kvT 0 (tm++[j])))(e2:m2=tM ((A.od++[A.tb.length]).map nT))(e3:m3=.lst (owF (A.lay 8 t) g d o c)):Ow (((M.set d m1).set o m2).set w m3) w g d o c (tm++[j]) (A.lay 8 t):=by
 have hl:=S.lt;have cA:=S.n;simp only[DJ,Dl,not_or]at cA hn;obtain⟨⟨wg,wd,wo,wc,wt⟩,⟨gd,go,gc,gt⟩,⟨dd,dc,dt⟩,⟨oc,ot⟩,ct,nt⟩:=cA;obtain⟨jw,jg,jd,jo,jc,jt⟩:=hn;have k1:∀i,i≠w->i≠d->i≠o->(((M.set d m1).set o m2).set w m3)[i]?=M[i]?:=λi h1 h2 h3=>by rw[Di (Ne.symm h1),Di (Ne.symm h3),Di (Ne.symm h2)]
 refine⟨Mc.ok_lay S.O ht hf,?_,?_,?_,?_,?_,?_,λi k e=>?_,?_,?_⟩
 ·rw[Dn (by simp only[Do];exact hl w (by simp)),e3]
 ·rw[k1 g (Ne.symm wg) gd go,S.g0]
  show _=some (tM (List.map rfT (A.rg.set 8 _)));rw[Mc.rg8 S.O]
 ·rw[Di wd,Di (Ne.symm dd),Dn (hl d (by simp)),e1]
 ·rw[Di wo,Dn (by rw[Do];exact hl o (by simp)),e2]
  rfl
 ·rw[k1 c (Ne.symm wc) (Ne.symm dc) (Ne.symm oc)];exact S.c0
 ·show(tm++[j]).length=(A.tb++[t]).length
  rw[Dj,Dj,S.l];rfl
 ·by_cases hi:i<tm.length
  ·rw[De hi]at e
   have hk:=Dh e;rw[k1 k (λz=>wt (z▸hk)) (λz=>dt (z▸hk)) (λz=>ot (z▸hk)),Mc.th_lay (by rw[<-S.l];exact hi)];exact S.t i k e
  ·rw[Dp (by lia)]at e
   have mZ:=(Dc.mp e).1;have:i=tm.length:=by rw[DQ]at mZ;lia
   subst this;rw[Rq]at e;cases e;rw[k1 j jw jd jo,S.l,Mc.th_new];exact hj
 ·simp only[DJ,Dl,Dr,DU,UP,not_or,DW]
  exact⟨⟨wg,wd,wo,wc,wt,Ne.symm jw⟩,⟨gd,go,gc,gt,Ne.symm jg⟩,⟨dd,dc,dt,Ne.symm jd⟩,⟨oc,ot,Ne.symm jo⟩,⟨ct,Ne.symm jc⟩,nt,by simp,λa ha b hb z=>jt (by rw[<-hb, <-z];exact ha)⟩
 ·show(A.tb++[t]).length<=1000
  rw[Dj,DQ];lia
noncomputable abbrev sNew:Stmt:=top 65
def q4B:List U->MM->UK->Prop:=λus M Q=>∃(w g d o c j:Nat)(tm:List Nat)(A:Mc)(t:Th),us=[.m w,.m j,.p (.int (t.sz A.bits:Int))]/\Ow M w g d o c tm A/\M[j]?=some (tM (thT t))/\j∉w::g::d::o::c::tm/\(A.mk' (t.sz A.bits)).ThOk t/\A.tb.length<1000/\((((A.mk' (t.sz A.bits)).os.length:Int)+(t.sz A.bits:Nat)<=A.most)->GoF M w (j::w::g::d::o::c::tm) ((A.mk' (t.sz A.bits)).lay 8 t) (Q (.p (rfT (.t A.tb.length)))))/\((A.most<((A.mk' (t.sz A.bits)).os.length:Int)+(t.sz A.bits:Nat))->GoO M w g d o c tm (A.mk' (t.sz A.bits)) (Q (.p .non)))
theorem q3T(F:Fun Ξ "_law_new" "_law_new" sNew f fd)(dN:Def P w Ξ mg base "_law_used" 3 ["own"] (spU q2G))(bZ:Def P w Ξ mg base "_law_sweep" 1 ["own"] (spU XS)):FnOk P w Ξ mg base CX0 4 f fd ["own","thing","need"] (spU q4B):=by
 exists F.zU, ["own","thing","need"],qb (qI (qg WD (qm qH (qf dN (Wh hr) (qa1 qv0)) qv2) (qh (Ua Ξ) qv0 qa (λ_ _=>rfl)) (qo _)) (qc (vj (qf bZ (Wh hr) (qa1 qv0)))) qt) (qb (qI (qg WD (qm qH (qf dN (Wh hr) (qa1 qv0)) qv2) (qh (Ua Ξ) qv0 qa (λ_ _=>rfl)) (qo _)) (qc (qi vN)) qt) (qb (ku (zt hr) (qh (Ua Ξ) qv0 qa (λ_ _=>rfl)) (qh (Ua Ξ) qv0 qa (λ_ _=>rfl)) qv1) (qb (vj (jN PySem.F.slot_list_append PySem.F.type_list_append vQ (qh (Ua Ξ) qv0 qa (λ_ _=>rfl)) (qa1 (qh (Ua Ξ) qv0 qa (λ_ _=>rfl))))) (qb (vD (qm qH (qh (Ua Ξ) qv0 qa (λ_ _=>rfl)) qa) (vM qv0 qa qL)) (qc (qi (qy (qa2 qe (qm vH (qh (Ua Ξ) qv0 qa (λ_ _=>rfl)) qa)))))))));rintro us M Qu ⟨w,g,d,o,c,j,tm,A,t,rfl,S,hj,oy,ht,hz,q1,q2⟩;obtain⟨e1,e2,e3⟩:=Mc.mk_keep (A:=A) (n:=t.sz A.bits);have em:(A.mk' (t.sz A.bits)).most=A.most:=by unfold Mc.most;rw[e1,e2,e3]
 have gF:j<M.length:=(Dc.mp hj).1;refine q08 (λρ M'=>∃(g' d' o' c':Nat)(bY:List Nat),ρ=[some (.m w),some (.m j),some (.p (.int (t.sz A.bits:Int)))]/\Frm M M' (w::g::d::o::c::tm)/\(∀i∈w::g'::d'::o'::c'::bY,i∈w::g::d::o::c::tm\/M.length<=i)/\Ow M' w g' d' o' c' bY (A.mk' (t.sz A.bits))) (λnx oz=>?_) (λbS M' hI=>?_)
 ·symm
  refine⟨w,g,d,o,c,tm,A,rfl,S,?_⟩;symm;refine S.ix (by rfl) ?_;symm;refine ite2 (λz=>?_) (λz=>?_)
  ·symm
   refine⟨w,g,d,o,c,tm,A,rfl,S,λM' g' d' o' c' bY f1 h1 S1=>?_⟩;exact oz _ _ ⟨g',d',o',c',bY,rfl,f1,h1,by unfold Mc.mk';rw[Ul z];exact S1⟩
  ·symm
   exact oz _ _ ⟨g,d,o,c,tm,rfl,.refl,λi hi=>.inl hi,by unfold Mc.mk';rw[Ui z];exact S⟩
 obtain⟨g',d',o',c',bY,rfl,f1,h1,S1⟩:=hI;have sS:M'[j]?=some (tM (thT t)):=(f1.2 j gF oy).trans hj;have nh:j∉w::g'::d'::o'::c'::bY:=λz=>(h1 j z).elim oy λy=>by lia
 symm;refine⟨w,g',d',o',c',bY,A.mk' (t.sz A.bits),rfl,S1,?_⟩;symm;refine S1.ix (by rfl) ?_;symm;rw[em];refine ite2 (λz=>?_) (λz=>?_)
 ·symm
  exact q2 z M' g' d' o' c' bY f1 h1 S1
 symm;generalize eB:A.mk' (t.sz A.bits)=B at *;have oA:B.tb.length=A.tb.length:=by rw[<-eB,Mc.mk_tb]
 have cA:=S1.n;simp only[DJ,Dl,not_or]at cA;obtain⟨⟨wg,wd,wo,wc,wt⟩,⟨gd,go,gc,gt⟩,⟨dd,dc,dt⟩,⟨oc,ot⟩,ct,nt⟩:=cA;have hl:=S1.lt;refine S1.ix (by rfl) ?_;refine S1.ix (by rfl) ?_;unfold nT;refine jk S1.d0 (by rw[Gq,S1.l,oA,Uk];lia) ?_;have ep:putU (kvT 0 bY) (.inl (B.tb.length:Int)) (.m j)=kvT 0 (bY++[j]):=by
  rw[jU,Gr,Re,S1.l];intro kv hkv y;obtain⟨k,e,hk⟩:=q2O kv hkv;rw[e]at y;injection y with y
  rw[S1.l]at hk;lia
 rw[ep];have w2:(M'.set d' (.dK (kvT 0 (bY++[j]))))[w]?=some (.lst (owF B g' d' o' c')):=by rw[Di (Ne.symm wd)];exact S1.w0
 have o2:(M'.set d' (.dK (kvT 0 (bY++[j]))))[o']?=some (tM (B.od.map nT)):=by rw[Di dd];exact S1.o0
 symm;refine xM (by simp only[qB];rw[w2]) (by rfl) ?_;symm;refine XF o2 ?_;symm;refine xM (by simp only[qB];rw[w2]) (by rfl) ?_;symm;have gD:B.od.length<=1000:=by
  have h1:=vP (ks:=B.od) (hs:=List.range B.tb.length) (Mc.nd S1.O) λk hk=>D8.mpr (S1.O.b k hk);rw[D2]at h1;lia
 refine⟨_,o2,by rw[Dg,Dg,Uk];lia,?_⟩;have ea:((B.od.map nT).map U.p++[U.p (nT B.tb.length)])=((B.od++[B.tb.length]).map nT).map U.p:=by simp
 rw[ea];have L1:Ow (((M'.set d' (.dK (kvT 0 (bY++[j])))).set o' (tM ((B.od++[B.tb.length]).map nT))).set w (.lst (owF (B.lay 8 t) g' d' o' c'))) w g' d' o' c' (bY++[j]) (B.lay 8 t):=S1.lay sS nh ht (by rw[em,e1];exact BW.mp z) (by lia) rfl rfl rfl;have w3:((M'.set d' (.dK (kvT 0 (bY++[j])))).set o' (tM ((B.od++[B.tb.length]).map nT)))[w]?=some (.lst (owF B g' d' o' c')):=by rw[Di (Ne.symm wo)];exact w2
 have f4:Frm M' ((M'.set d' (.dK (kvT 0 (bY++[j])))).set o' (tM ((B.od++[B.tb.length]).map nT))) [d',o']:=(zf (by simp)).trans (zf (F:=[d',o']) (by simp)) λi hi=>.inl hi;generalize(M'.set d' (.dK (kvT 0 (bY++[j])))).set o' (tM ((B.od++[B.tb.length]).map nT))=M4 at L1 w3 f4;have hw4:w<M4.length:=(Dc.mp w3).1;symm;refine xM (by simp only[qB];rw[w3]) (by rfl) ?_;unfold nT;symm;refine⟨w,_,6,6,rfl,w3,rfl,rfl,?_⟩;have eo:(owF B g' d' o' c').set 6 (U.p (.int ((B.tb.length:Int)+1)))=owF (B.lay 8 t) g' d' o' c':=by
  show[_,_,_,_,_,_,_]=[_,_,_,_,_,_,U.p (.int (((B.tb++[t]).length:Nat):Int))];rw[Dj];rfl
 rw[eo];symm;refine L1.ix (by rfl) ?_;have e5:nT (B.lay 8 t).tb.length=.int ((A.tb.length:Int)+1):=by
  show T.int (((B.tb++[t]).length:Nat):Int)=_;rw[Dj,oA];rfl
 rw[e5];symm;rw[Int.add_sub_cancel];refine q1 (BW.mp z) _ g' d' o' c' (bY++[j]) ((f1.trans ((f4.mono (G:=[d',o',w]) (by simp)).trans (zf (F:=[d',o',w]) (by simp)) λi hi=>.inl hi) λi hi=>?_).mono λi hi=>.tail _ hi) (λi hi=>?_) L1
 ·exact h1 i (by simp only[Dl,DU,UP]at hi ⊢;rcases hi with h|h|h<;>simp[h])
 ·simp only[Dl,Dr,DU,UP]at hi
  by_cases eD:i=j
  ·exact .inl (by simp[eD])
  ·exact(h1 i (by simp only[Dl];rcases hi with h|h|h|h|h|h|h<;>first|exact absurd h eD|simp[h])).imp (λy=>.tail _ y) id
noncomputable abbrev Qv:Stmt:=top 66
noncomputable def optT:Option Rf->T
 |some x=>rfT x
 |none=>.non
noncomputable def Mc.nref(A:Mc)(n:Int):Mc×Option Rf :=
 if v6 A.sm n=true then(A,some (.w ("small", n)))
 else if 2^(A.bits-2).toNat<=(lcnt A.bits n:Int) then(A,none)
 else if((A.mk' (lcnt A.bits n+1)).os.length:Int)+(lcnt A.bits n+1:Nat)<=A.most then((A.mk' (lcnt A.bits n+1)).lay 8 (.far n),some (.t A.tb.length))
 else(A.mk' (lcnt A.bits n+1),none)
theorem Mc.put_lay{A:Mc}(O:A.Ok):(A.lay 8 t).put r (.t A.tb.length)=A.lay r t:=by
 unfold Mc.put Mc.lay;simp[Mc.rg8 O]
theorem Mc.num_ref{A:Mc}(O:A.Ok){r:Nat}{n:Int}:A.num r n=match(A.nref n).2 with
  |some x=>((A.nref n).1.put r x,true)
  |none=>((A.nref n).1,false):=by
 unfold Mc.num Mc.nref;split
 ·rfl
 split
 ·rfl
 split
 ·show _=(((A.mk' _).lay 8 _).put r _,true)
  rw[<-Mc.mk_tb,Mc.put_lay (Mc.mk_ok O)]
 ·rfl
theorem GoF.here{w g d o c:Nat}(S:Ow M w g d o c tm A)(h:GoO M w g d o c tm A Q):Q M:=h M g d o c tm .refl (λi hi=>.inl hi) S
def q36:List U->MM->UK->Prop:=λus M Q=>∃(w g d o c:Nat)(tm:List Nat)(A:Mc)(n:Int),us=[.m w,.p (.int n)]/\Ow M w g d o c tm A/\Bt 20000 n/\A.tb.length<1000/\GoO M w g d o c tm (A.nref n).1 (Q (.p (optT (A.nref n).2)))
theorem q0w(F:Fun Ξ "_law_number_ref" "_law_number_ref" Qv f fd)(N:Nms mg)(bF:Def P w Ξ mg base "_law_is_small" 3 ["laying","n"] (spP XT))(b6:Def P w Ξ mg base "_law_limbs" 1 ["laying","n"] (spP J1))(dS:Def P w Ξ mg base "_law_new" 4 ["own","thing","need"] (spU q4B)):FnOk P w Ξ mg base CX0 5 f fd ["own","n"] (spU q36):=by
 exists F.zU, ["own","n","many"],qb (qI (zg (qf bF (Wh hr) (qa2 (qh (Ua Ξ) qv0 qa (λ_ _=>rfl)) qv1))) (qc (qi qv1)) qt) (qb (ql (i:=2) nd rfl Wr (qE vJ (by rfl) N.len kY (qa1 (qf b6 (Wh hr) (qa2 (qh (Ua Ξ) qv0 qa (λ_ _=>rfl)) qv1))))) (qb (qI (qg q0C qv2 (qm vO qa (qm vH (qh (Ub Ξ) (qh (Ua Ξ) qv0 qa (λ_ _=>rfl)) qa (λ_ _=>rfl)) qa)) (qo _)) (qc (qi vN)) qt) (qc (qi (qf dS (Wh hr) (qa3 qv0 (qA (qa2 qe qv1)) (qm qH qa qv2))))))),(qj (by right) (qj (by right) (qj (by right) (vS (zB (qq (qk 0) (qq (zr (by right)) (by right))))))));rintro us M Qu ⟨w,g,d,o,c,tm,A,n,rfl,S,hn,hz,q⟩;have hb:=S.O.R.b;unfold Mc.nref at q;symm;refine S.ix (by rfl) ?_;symm;refine q1y S.O.R ?_;cases hs:v6 (A.bits-(qW A.ms "small").2.1) n with
 |true=>
  rw[Ul (show v6 A.sm n=true from hs)]at q;symm;exact q.here S
 |false=>
  rw[Ui (show ¬v6 A.sm n=true from by show ¬v6 (A.bits-_) n=true;rw[hs];decide)]at q;symm;refine S.ix (by rfl) ?_;symm;refine⟨A.bits,A.ms,n,rfl,by lia,by lia,hn,?_⟩;symm;have hl:(zh A.bits n).length=lcnt A.bits n:=by unfold zh;rw[Dg,D2]
  rw[Dg,hl];refine S.ix (by rfl) ?_;symm;refine⟨⟨by lia,by lia,by decide⟩,?_⟩;rw[DN];refine ite2 (λhg=>?_) (λhg=>?_)
  ·rw[Ul hg]at q
   symm;exact q.here S
  rw[Ui hg]at q;symm;have f0:Frm M (M++[tM [.str "far",.int n]]) (w::g::d::o::c::tm):=⟨by simp,λi hi _=>De hi⟩;have bw:=S.lt;have S1:Ow (M++[tM [.str "far",.int n]]) w g d o c tm A:=S.keep λi hi=>De (bw i hi);obtain⟨e1,e2,e3⟩:=Mc.mk_keep (A:=A) (n:=lcnt A.bits n+1);refine⟨w,g,d,o,c,M.length,tm,A,.far n,?_,S1,by simp;rfl,λz=>DV _ (bw _ z),⟨?_,?_⟩,hz,λcR=>?_,λfe=>?_⟩
  ·show[_,_,_]=[_,_,U.p (.int ((lcnt A.bits n+1:Nat):Int))]
   rw[show(1:Int)+(lcnt A.bits n:Int)=((lcnt A.bits n+1:Nat):Int) by push_cast;lia]
  ·show v6 (A.mk' (lcnt A.bits n+1)).sm n=false
   unfold Mc.sm;rw[e1,e2];exact hs
  ·show(lcnt (A.mk' (lcnt A.bits n+1)).bits n:Int)<2^((A.mk' (lcnt A.bits n+1)).bits-2).toNat
   rw[e1];exact Bg.mp hg
  ·have cR:((A.mk' (lcnt A.bits n+1)).os.length:Int)+(lcnt A.bits n+1:Nat)<=A.most:=cR
   rw[Ul cR]at q;exact q.step f0 λi hi=>by
    rcases Dl.mp hi with h|h
    ·exact .inr (by lia)
    ·exact .inl h
  ·have fe:A.most<((A.mk' (lcnt A.bits n+1)).os.length:Int)+(lcnt A.bits n+1:Nat):=fe
   rw[Ui (Bg.mpr fe)]at q;exact q.step f0 λi hi=>.inl hi
theorem q04{ss:List Str}:vts (ss.map T.str)=some (ss.map V.str):=by
 induction ss with
 |nil=>rfl
 |cons x r ih=>simp[vts,vt,ih]
theorem GE{ss:List Str}(b:Bool)(h:decide (a∈ss)=b)(q:Q (.bl b)):sIn false (.str a) (.lst (ss.map T.str)) Q :=
 ⟨.str a,ss.map T.str,ss.map V.str,rfl,rfl,q04,by rw[JS,h];exact q⟩
inductive Oc
 |ok (t:T)
 |wk (n:Int)
 |rm
noncomputable def Oc.t:Oc->T
 |.ok t=>.tup [.str "", t]
 |.wk n=>.tup [.str "WrongKind",.int n]
 |.rm=>.tup [.str "NoRoom",.non]
inductive Dd
 |num (r:Nat) (n:Int)
 |sign (r:Nat) (k:Int)
 |copy (r q:Nat)
 |pair (r q p:Nat)
 |get (b:Bool) (r q:Nat)
 |set (b:Bool) (q p:Nat)
 |same (q p:Nat)
 |kind (q:Nat)
 |sweep
noncomputable def Dd.t:Dd->T
 |.num r n=>.tup [.str "number", nT r,.int n]
 |.sign r k=>.tup [.str "sign", nT r,.int k]
 |.copy r q=>.tup [.str "copy", nT r,nT q]
 |.pair r q p=>.tup [.str "pair", nT r,nT q,nT p]
 |.get b r q=>.tup [.str (if b=true then "first" else "second"),nT r,nT q]
 |.set b q p=>.tup [.str (if b=true then "set_first" else "set_second"),nT q,nT p]
 |.same q p=>.tup [.str "same", nT q,nT p]
 |.kind q=>.tup [.str "kind", nT q]
 |.sweep=>.tup [.str "sweep"]
noncomputable def fin(z:Mc×Bool):Mc×Oc:=(z.1,if z.2=true then .ok .non else .rm)
noncomputable def Rf.isW:Rf->Bool
 |.w x=>decide (x.1 = "small")
 |.t _=>false
namespace Mc
noncomputable def rf(A:Mc)(q:Nat):Rf:=A.rg.getD q (.w ("one", 0))
theorem rf_at{A:Mc}(O:A.Ok)(h:q<8):A.rg[q]?=some (A.rf q):=by
 unfold rf;rw[Ri,Df (by rw[O.l8];exact h)];rfl
theorem rf_ok{A:Mc}(O:A.Ok)(h:q<8):A.RfOk (A.rf q):=O.g _ (Dh (rf_at O h))
noncomputable def sameB(A:Mc)(x y:Rf):Bool:=match A.nv x,A.nv y with
 |some a,some b=>decide (a=b)
 |none,none=>@decide (x=y) (Classical.propDecidable _)
 |_,_=>false
noncomputable def getO(A:Mc)(b:Bool)(r:Nat)(x:Rf):Mc×Oc:=match A.pv x with
 |none=>(A,.wk 1)
 |some (_,x,y)=>(A.put r (if b=true then x else y),.ok .non)
noncomputable def setO(A:Mc)(b:Bool)(x y:Rf):Mc×Oc:=match A.pv x with
 |none=>(A,.wk 1)
 |some (i,u,v)=>(A.setT i (if b=true then .pr y v else .pr u y),.ok .non)
noncomputable def act(A:Mc):Dd->Mc×Oc
 |.num r n=>fin (A.num r n)
 |.sign r k=>(A.put r (.w ("sign", k)),.ok .non)
 |.copy r q=>(A.put r (A.rf q),.ok .non)
 |.pair r q p=>fin (A.prd r (A.rf q) (A.rf p))
 |.get b r q=>A.getO b r (A.rf q)
 |.set b q p=>A.setO b (A.rf q) (A.rf p)
 |.same q p=>(A,.ok (.bl (A.sameB (A.rf q) (A.rf p))))
 |.kind q=>(A,.ok (.str (A.kn (A.rf q))))
 |.sweep=>(A.swp,.ok .non)
def DOk(_:Mc):Dd->Prop
 |.num r n=>r<8/\Bt 200 n
 |.sign r k=>r<8/\0<=k/\k<128
 |.copy r q=>r<8/\q<8
 |.pair r q p=>r<8/\q<8/\p<8
 |.get _ r q=>r<8/\q<8
 |.set _ q p=>q<8/\p<8
 |.same q p=>q<8/\p<8
 |.kind q=>q<8
 |.sweep=>True
end Mc
section
variable {M:MM}{w g d o c:Nat}{tm:List Nat}{A:Mc}{Q:UK}
theorem Ow.rix(S:Ow M w g d o c tm A)(h:q<8)(k:Q (.p (rfT (A.rf q))) M):IxS qB M (.m g) (.p (.int (q:Int))) Q :=
 zl S.g0 (jz (by rw[Dy,Mc.rf_at S.O h];rfl)) k
theorem Ow.put(S:Ow M w g d o c tm A)(hr:r<8)(hx:A.RfOk x)(q:GoO M w g d o c tm (A.put r x) R):SubS M (.m g) (.p (.int (r:Int))) (.p (rfT x)) R:=by
 have hl:=S.lt;have cA:=S.n;simp at cA;obtain⟨⟨wg,wd,wo,wc,wt⟩,⟨gd,go,gc,gt⟩,⟨dd,dc,dt⟩,⟨oc,ot⟩,ct,nt⟩:=cA;refine⟨g,_,r,r,rfl,S.g0,rfl,by unfold ixN;simp[S.O.l8];lia,?_⟩;rw[<-RO, <-RO];have k:∀i,i≠g->∀m,(M.set g m)[i]?=M[i]?:=λi h m=>Di (Ne.symm h);refine q _ g d o c tm (zf (by simp)) (λi hi=>.inl hi) ⟨Mc.ok_put S.O hx,?_,?_,?_,?_,?_,S.l,λi j e=>?_,S.n,S.z⟩
 ·rw[k w wg];exact S.w0
 ·rw[Dn (hl g (by simp))];rfl
 ·rw[k d (Ne.symm gd)];exact S.d0
 ·rw[k o (Ne.symm go)];exact S.o0
 ·rw[k c (Ne.symm gc)];exact S.c0
 ·have hj:=Dh e
  rw[k j λz=>gt (z▸hj)];exact S.t i j e
end
def gDoO:Dd->List U->MM->UK->Prop:=λe us M Q=>∃(w g d o c:Nat)(tm:List Nat)(A:Mc),us=[.m w,.p e.t]/\Ow M w g d o c tm A/\A.DOk e/\A.tb.length<1000/\GoO M w g d o c tm (A.act e).1 (Q (.p (A.act e).2.t))
theorem q2F{A:Mc}(h:A.RfOk x):(A.nv x=none->decide (A.kn x = "number")=false)/\(∀a,A.nv x=some a->A.kn x = "number"):=by
 have k:=Mc.kn_nv h;simp_all
set_option tactic.hygienic true in
theorem Mc.nref_some{A:Mc}(O:A.Ok)(e:(A.nref n).2=some z):z.isW=v6 A.sm n/\(A.nref n).1.RfOk z/\((z.isW=true/\rfT z=.int n)\/(z.isW=false/\∃i:Nat,rfT z=.tup [.str "thing",.int (i:Int)])):=by
 unfold Mc.nref at e ⊢;split at e
 ·rename_i hs
  cases e;rw[Ul hs];refine⟨hs.symm,?_,.inl ⟨rfl,rfl⟩⟩;obtain⟨m,hm⟩:=O.R.kind (kind := "small") (by decide);have h1:=Uq hs;unfold Mc.sm at h1;rw[hm.mk]at h1;refine⟨?_,.inl rfl⟩;rw[hm.mk];exact⟨hm,λ_=>h1,λz=>absurd rfl z,λz=>absurd z (by dsimp only;decide),λz=>absurd z (by dsimp only;decide)⟩
 rename_i hs;split at e
 ·cases e
 rename_i hg;split at e
 ·rename_i hf
  cases e;rw[Ui hs,Ui hg,Ul hf];refine⟨(Bool.eq_false_iff.mpr hs).symm,?_,.inr ⟨rfl,A.tb.length,rfl⟩⟩;show A.tb.length∈(A.mk' _).od++[(A.mk' _).tb.length];rw[Mc.mk_tb];exact Ds _ (.head _)
 ·cases e
section
variable {M:MM}{w g d o c:Nat}{tm:List Nat}{A:Mc}
theorem Ow.setT(S:Ow M w g d o c tm A)(hj:tm[i]?=some j)(hm:i∈A.od)(e:A.th i=.pr a b)(ha:A.RfOk a')(hb:A.RfOk b')(em:m=tM (thT (.pr a' b'))):Ow (M.set j m) w g d o c tm (A.setT i (.pr a' b')):=by
 have hl:=S.lt;have cA:=S.n;simp at cA;obtain⟨⟨wg,wd,wo,wc,wt⟩,⟨gd,go,gc,gt⟩,⟨dd,dc,dt⟩,⟨oc,ot⟩,ct,nt⟩:=cA;have hi:=S.O.b i hm;have dL:=Dh hj;have k:∀x,x≠j->(M.set j m)[x]?=M[x]?:=λx h=>Di (Ne.symm h);have el:(A.setT i (.pr a' b')).tb.length=A.tb.length:=Do;refine⟨Mc.ok_setT hi e S.O hm ha hb,?_,?_,?_,?_,?_,by rw[el];exact S.l,λn x h=>?_,S.n,by rw[el];exact S.z⟩
 ·rw[k w λz=>wt (z▸dL),S.w0]
  show _=some (MO.lst [_,_,_,_,_,_,U.p _]);rw[el];rfl
 ·rw[k g λz=>gt (z▸dL)];exact S.g0
 ·rw[k d λz=>dt (z▸dL)];exact S.d0
 ·rw[k o λz=>ot (z▸dL)];exact S.o0
 ·rw[k c λz=>ct (z▸dL)];exact S.c0
 ·rw[Mc.th_set hi]
  by_cases hx:x=j
  ·subst hx
   have hn:=by
    have h1:=(Dc.mp h);have h2:=(Dc.mp hj);exact(Bm nt).mp (h1.2.trans h2.2.symm)
   rw[Ul hn,Dn (hl x (by simp[dL])),em]
  ·rw[k x hx,Ui λz=>hx (by rw[z,hj]at h;exact(Option.some.inj h).symm)]
   exact S.t n x h
end
theorem q5H{A:Mc}(h:A.RfOk x):(A.pv x=none->decide (A.kn x = "pair")=false)/\(∀a,A.pv x=some a->A.kn x = "pair"):=by
 have k:=Mc.kn_pv h;exact⟨λe=>Us λz=>k.mp z e,λa e=>k.mpr (by rw[e];exact λz=>nomatch z)⟩
theorem Mc.rg_mk{A:Mc}(O:A.Ok)(h:x∈A.rg):(A.mk' n).RfOk x:=by
 unfold Mc.mk';split
 ·exact Mc.rg_swp O x h
 ·exact O.g x h
noncomputable abbrev VX:Stmt:=top 71
theorem WQ(F:Fun Ξ "_law_pair_done" "_law_pair_done" VX f fd)(N:Nms mg)(bU:Def P w Ξ mg base "_law_kind" 2 ["own","ref"] (spU GT))(dS:Def P w Ξ mg base "_law_new" 4 ["own","thing","need"] (spU q4B)):FnOk P w Ξ mg base CX0 5 f fd ["own","deed"] (spU λus M Q=>∃e,((∃r q p,e=.pair r q p)\/(∃b r q,e=.get b r q)\/∃b q p,e=.set b q p)/\gDoO e us M Q):=by
 exists F.zU, ["own","deed","word","found","q","thing","at"],qb (ql (i:=2) nd rfl Wr (qh (Ub Ξ) qv1 qa (λ_ _=>rfl))) (qb (qI (qg op_eq qv2 qe (qo _)) (qb (ql (i:=3) nd rfl Wr (qf dS (Wh hr) (qa3 qv0 (qA (qa3 qe (qh (Ua Ξ) (qh (Ua Ξ) qv0 qa (λ_ _=>rfl)) (qh (Ub Ξ) qv1 qa (λ_ _=>rfl)) (λ_ _=>rfl)) (qh (Ua Ξ) (qh (Ua Ξ) qv0 qa (λ_ _=>rfl)) (qh (Ub Ξ) qv1 qa (λ_ _=>rfl)) (λ_ _=>rfl)))) qa))) (qb (qI (qg JM qv3 vN (qo _)) (qc (qi (qy (qa2 qe vN)))) qt) (qb (vD qv3 (vM (qh (Ua Ξ) qv0 qa (λ_ _=>rfl)) (qh (Ub Ξ) qv1 qa (λ_ _=>rfl)) qL)) (qc (qi (qy (qa2 qe vN))))))) qt) (qb (ql (i:=4) nd rfl Wr (qZ (qg (Ud Ξ) qv2 (qA (qa2 qe qe)) (by with_unfolding_all rfl)) (qh (Ub Ξ) qv1 qa (λ_ _=>rfl)) (qh (Ub Ξ) qv1 qa (λ_ _=>rfl)))) (qb (qI (qg q3y (qf bU (Wh hr) (qa2 qv0 (qh (Ua Ξ) (qh (Ua Ξ) qv0 qa (λ_ _=>rfl)) qv4 (λ_ _=>rfl)))) qe (qo _)) (qc (qi (qy (qa2 qe qa)))) qt) (qb (ql (i:=5) nd rfl Wr (zd (zt hr) (qh (Ua Ξ) qv0 qa (λ_ _=>rfl)) (qh (Ub Ξ) (qh (Ua Ξ) (qh (Ua Ξ) qv0 qa (λ_ _=>rfl)) qv4 (λ_ _=>rfl)) qa (λ_ _=>rfl)) (λ_ _=>rfl))) (qb (ql (i:=6) nd rfl Wr (qm qH qa (vz kX (by rfl) N.int qaA (qa1 (ze (Ud Ξ) qv2 (qA (qa2 qe qe)) (by with_unfolding_all rfl)))))) (qb (qI (qg (Ud Ξ) qv2 (qA (qa2 qe qe)) (by with_unfolding_all rfl)) (qc (vD (qh (Ua Ξ) qv5 qv6 (λ_ _=>rfl)) (vM (qh (Ua Ξ) qv0 qa (λ_ _=>rfl)) (qh (Ub Ξ) qv1 qa (λ_ _=>rfl)) qL))) (qc (vD (qh (Ua Ξ) (qh (Ua Ξ) qv0 qa (λ_ _=>rfl)) (qh (Ub Ξ) qv1 qa (λ_ _=>rfl)) (λ_ _=>rfl)) (vM qv5 qv6 qL)))) (qc (qi (qy (qa2 qe vN)))))))))),(qj (by right) (qj (xh (by right) (qj (qM (zB (qq (qk 0) (qq (zr (by right)) (by right)))) (qF 3)) (by right)) vG) (qj (by right) (qj (by right) (qj (by right) (qj (qM (zu (by right) (by right) (ZY X7 (by right))) (qF 6)) (by right)))))));rintro us M Qu ⟨e,he,w,g,d,o,c,tm,A,rfl,S,hd,hz,k⟩;rcases he with⟨r,q,p,rfl⟩|⟨b,r,q,rfl⟩|⟨b,q,p,rfl⟩
 ·obtain⟨hr,hq,hp⟩:=hd
  have e0:(Dd.pair r q p).t=.tup [.str "pair",.int (r:Int),.int (q:Int),.int (p:Int)]:=rfl;rw[e0];have k:GoO M w g d o c tm (fin (A.prd r (A.rf q) (A.rf p))).1 (Qu (.p (fin (A.prd r (A.rf q) (A.rf p))).2.t)):=k;left;refine S.ix (by rfl) ?_;left;refine S.rix hq ?_;left;refine S.ix (by rfl) ?_;left;refine S.rix hp ?_;left;have hx:=Dh (Mc.rf_at S.O hq);have hy:=Dh (Mc.rf_at S.O hp);have hxo:=Mc.rf_ok S.O hq;have hyo:=Mc.rf_ok S.O hp;generalize A.rf q=x at *;generalize A.rf p=y at *;have bw:=S.lt;have f0:Frm M (M++[tM (thT (.pr x y))]) (w::g::d::o::c::tm):=⟨by simp,λi hi _=>De hi⟩;have S1:Ow (M++[tM (thT (.pr x y))]) w g d o c tm A:=S.keep λi hi=>De (bw i hi);refine⟨w,g,d,o,c,M.length,tm,A,.pr x y,rfl,S1,by simp;rfl,λz=>DV _ (bw _ z),⟨Mc.rg_mk S.O hx,Mc.rg_mk S.O hy⟩,hz,λcR=>?_,λfe=>?_⟩
  ·have cR:((A.mk' 3).os.length:Int)+(3:Nat)<=A.most:=cR
   unfold Mc.prd at k;rw[Ul cR]at k;have k2:GoO M w g d o c tm (((A.mk' 3).lay 8 (.pr x y)).put r (.t A.tb.length)) (Qu (.p (.tup [.str "",.non]))):=by
    rw[<-Mc.mk_tb (A:=A) (n:=3),Mc.put_lay (Mc.mk_ok S.O)];exact k
   intro M1 g1 d1 o1 c1 c8 f1 h1 S2;have e1:rfT (.t A.tb.length)=.tup [.str "thing",.int (A.tb.length:Int)]:=rfl;have f2:Frm M M1 (w::g::d::o::c::tm):=f0.trans f1 λi hi=>by
    rcases Dl.mp hi with h|h
    ·exact .inr (by lia)
    ·exact .inl h
   have h2:∀i∈w::g1::d1::o1::c1::c8,i∈w::g::d::o::c::tm\/M.length<=i:=λi hi=>by
    rcases h1 i hi with h|h
    ·rcases Dl.mp h with h|h
     ·exact .inr (by lia)
     ·exact .inl h
    ·exact .inr (by rw[Dj]at h;lia)
   rw[e1];left;refine S2.ix (by rfl) ?_;left;rw[<-e1];refine S2.put hr ?_ ?_
   ·show A.tb.length∈(A.mk' 3).od++[(A.mk' 3).tb.length]
    rw[Mc.mk_tb];exact Ds _ (.head _)
   ·left
    exact k2.step f2 h2
  ·have fe:A.most<((A.mk' 3).os.length:Int)+(3:Nat):=fe
   unfold Mc.prd at k;rw[Ui (Bg.mpr fe)]at k;intro M1 g1 d1 o1 c1 c8 f1 h1 S2;left;exact k M1 g1 d1 o1 c1 c8 (f0.trans f1 λi hi=>.inl hi) (λi hi=>(h1 i hi).imp id λh=>by rw[Dj]at h;lia) S2
 case' inr.inl=>
  obtain⟨hr,hq⟩:=hd;have k:GoO M w g d o c tm (A.getO b r (A.rf q)).1 (Qu (.p (A.getO b r (A.rf q)).2.t)):=k;unfold Mc.getO at k;obtain⟨u,hu,h1,h2,h3⟩:∃u:Str,(if b=true then("first" : Str) else "second")=u/\decide (u = "pair")=false/\decide (u∈(["first","second"]:List Str))=true/\decide (u∈(["second","set_second"]:List Str)) = !b:=⟨_,rfl,by cases b<;>decide,by cases b<;>decide,by cases b<;>decide⟩;have e0:(Dd.get b r q).t=.tup [.str u,.int (r:Int),.int (q:Int)]:=Um (λz=>T.tup (.str z::_)) hu
 case' inr.inr=>
  obtain⟨hq,hp⟩:=hd;have k:GoO M w g d o c tm (A.setO b (A.rf q) (A.rf p)).1 (Qu (.p (A.setO b (A.rf q) (A.rf p)).2.t)):=k;unfold Mc.setO at k;obtain⟨u,hu,h1,h2,h3⟩:∃u:Str,(if b=true then("set_first" : Str) else "set_second")=u/\decide (u = "pair")=false/\decide (u∈(["first","second"]:List Str))=false/\decide (u∈(["second","set_second"]:List Str)) = !b:=⟨_,rfl,by cases b<;>decide,by cases b<;>decide,by cases b<;>decide⟩;have e0:(Dd.set b q p).t=.tup [.str u,.int (q:Int),.int (p:Int)]:=Um (λz=>T.tup (.str z::_)) hu
 all_goals
  have hx:=Mc.rf_ok S.O hq;rw[e0];refine q0U rfl (q8f rfl h1 ?_);left;refine GE (ss:=["first","second"]) _ h2 ?_;left;refine S.ix (by rfl) ?_;left;refine S.rix hq ?_;left;refine⟨w,g,d,o,c,tm,A,A.rf q,rfl,S,hx,?_⟩;left;cases ep:A.pv (A.rf q) with
  |none=>
   simp only[ep]at k;rw[(q5H hx).1 ep];left;exact k.here S
  |some z=>
   obtain⟨i,x,y⟩:=z;simp only[ep]at k;rw[(q5H hx).2 _ ep];obtain⟨e1,e2⟩:=Mc.pv_t ep;rw[e1]at hx;have hi:i∈A.od:=hx;have ht:=S.O.t i hi;rw[e2]at ht;obtain⟨j,ej,em⟩:=S.tb (S.O.b i hi);rw[e2]at em;have e3:rfT (A.rf q)=.tup [.str "thing",.int (i:Int)]:=by rw[e1];rfl
   left;refine S.ix (by rfl) ?_;left;refine S.ix (by rfl) ?_;left;refine S.rix hq ?_;rw[e3];left;refine S.dg ej ?_;left;refine GE (ss:=["second","set_second"]) (!b) h3 ?_;cases b
   all_goals
    left;refine GE (ss:=["first","second"]) _ h2 ?_;left
    first
     | (refine zl em (by rfl) ?_;left;refine S.ix (by rfl) ?_;left;refine S.put hr (by first|exact ht.1|exact ht.2) ?_;left;exact k)
     | (refine S.ix (by rfl) ?_;left;refine S.rix hp ?_;left;refine⟨j,_,_,_,rfl,em,rfl,rfl,?_⟩;left;exact k _ g d o c tm (zf (by have:=Dh ej;simp[this])) (λi hi=>.inl hi) (S.setT ej hi e2 (by first|exact ht.1|exact Mc.rf_ok S.O hp) (by first|exact ht.2|exact Mc.rf_ok S.O hp) rfl))
theorem Yt{m n:Int}(h0:0<=m)(h1:m<3)(h2:0<=n)(h3:n<3)(e:three3.getD m.toNat "none" = three3.getD n.toNat "none"):m=n:=by
 have hm:m=0\/m=1\/m=2:=by lia
 have hn:n=0\/n=1\/n=2:=by lia
 rcases hm with rfl|rfl|rfl<;>rcases hn with rfl|rfl|rfl<;>first|rfl|(revert e;decide)
theorem q8B(q:Q (.bl (decide (x=y/\k=l)))):sEqW (.tup [.str x,.int k]) (.tup [.str y,.int l]) Q:=by
 refine .inr (.inl ⟨_,_,λj=>if j=0 then decide (x=y) else decide (k=l),rfl,rfl,λj u v hx hy=>?_,?_⟩)
 ·match j with
  |0=>
   simp at hx hy;have:=EqT.flat (n:=20) (a:=.str x) (b:=.str y) rfl rfl;have e:eqV (.str x) (.str y)=decide (x=y):=by
    rfl
   lia
  |1=>
   simp at hx hy;have:=EqT.flat (n:=20) (a:=.int k) (b:=.int l) rfl rfl;have e:eqV (.int k) (.int l)=decide (k=l):=by
    rfl
   lia
  |j+2=>simp at hx
 ·have e:((List.range (min [T.str x,T.int k].length [T.str y,T.int l].length)).all (λj=>if j=0 then decide (x=y) else decide (k=l))&&[T.str x,T.int k].length==[T.str y,T.int l].length)=decide (x=y/\k=l):=by
   by_cases h:x=y<;>by_cases h2:k=l<;>simp[h,RX]
  simp only[D3,U4];rw[e];exact q
def Shp(a:T):Prop:=(∃n:Int,a=.int n)\/(∃s:Str,a=.str s)\/∃(s:Str)(n:Int),a=.tup [.str s,.int n]
theorem J8(fa:Shp a)(fb:Shp b)(hr:r=true↔a=b)(q:Q (.bl r)):sEqW a b Q:=by
 have no:a≠b->Q (.bl false):=λh=>by
  have:r=false:=Bool.eq_false_iff.mpr λz=>h (hr.mp z);rw[<-this];exact q
 rcases fa with⟨n,rfl⟩|⟨s,rfl⟩|⟨s,n,rfl⟩<;>rcases fb with⟨m,rfl⟩|⟨u,rfl⟩|⟨u,m,rfl⟩
 ·refine .inl ⟨_,_,rfl,rfl,rfl,?_⟩
  have:r=decide (V.int n=V.int m):=Rg.mpr (by simp[hr]);rw[this]at q;simpa using q
 ·exact .inl ⟨_,_,rfl,rfl,rfl,by simpa using no (λz=>nomatch z)⟩
 ·exact .inr (.inr (.inl ⟨_,rfl,rfl,no λz=>nomatch z⟩))
 ·exact .inl ⟨_,_,rfl,rfl,rfl,by simpa using no (λz=>nomatch z)⟩
 ·refine .inl ⟨_,_,rfl,rfl,rfl,?_⟩
  have:r=decide (V.str s=V.str u):=Rg.mpr (by simp[hr]);rw[this]at q;simpa using q
 ·exact .inr (.inr (.inl ⟨_,rfl,rfl,no λz=>nomatch z⟩))
 ·exact .inr (.inr (.inr ⟨_,rfl,rfl,no λz=>nomatch z⟩))
 ·exact .inr (.inr (.inr ⟨_,rfl,rfl,no λz=>nomatch z⟩))
 ·refine q8B ?_
  have:r=decide (s=u/\n=m):=Rg.mpr (by simp[hr]);rw[this]at q;exact q
namespace Mc
variable {A:Mc}{x y:Rf}
theorem rf_shp(h:A.RfOk x):Shp (rfT x):=by
 cases x with
 |w y=>
  rcases InW.cs h with⟨n,rfl⟩|⟨n,rfl⟩|⟨n,rfl⟩
  ·exact .inl ⟨n,rfl⟩
  ·exact .inr (.inr ⟨"sign", n,rfl⟩)
  ·exact .inr (.inl ⟨_,rfl⟩)
 |t i=>exact .inr (.inr ⟨"thing", i,rfl⟩)
theorem tl_shp(h:A.RfOk x):Shp (A.tl x):=by
 cases x with
 |w y=>exact rf_shp h
 |t i=>
  show Shp (match A.th i with | .far n=>T.int n | .pr _ _=>T.str "pair");cases A.th i with
  |far n=>exact .inl ⟨n,rfl⟩
  |pr a b=>exact .inr (.inl ⟨_,rfl⟩)
theorem rf_inj(hx:A.RfOk x)(hy:A.RfOk y):rfT x=rfT y↔x=y:=by
 refine⟨λe=>?_,λe=>by rw[e]⟩;cases x with
 |w u=>
  cases y with
  |w v=>
   rcases InW.cs hx with⟨n,rfl⟩|⟨n,rfl⟩|⟨n,rfl⟩<;>rcases InW.cs hy with⟨m,rfl⟩|⟨m,rfl⟩|⟨m,rfl⟩
   ·cases e;rfl
   ·cases e
   ·cases e
   ·cases e
   ·have e:T.tup [.str "sign",.int n]=T.tup [.str "sign",.int m]:=e
    simp only[T.tup.injEq,List.cons.injEq,T.int.injEq]at e;rw[e.2.1]
   ·cases e
   ·cases e
   ·cases e
   ·have h1:=hx.v.o (by dsimp only;decide)
    have h2:=hy.v.o (by dsimp only;decide);have h3:n=m:=Yt h1.1 (hx.v.t rfl) h2.1 (hy.v.t rfl) (T.str.inj e);rw[h3]
  |t j=>
   rcases InW.cs hx with⟨n,rfl⟩|⟨n,rfl⟩|⟨n,rfl⟩
   ·cases e
   ·have e:T.tup [.str "sign",.int n]=T.tup [.str "thing",.int (j:Int)]:=e
    simp at e;exact absurd e.1 (by decide)
   ·cases e
 |t i=>
  cases y with
  |w v=>
   rcases InW.cs hy with⟨n,rfl⟩|⟨n,rfl⟩|⟨n,rfl⟩
   ·cases e
   ·have e:T.tup [.str "thing",.int (i:Int)]=T.tup [.str "sign",.int n]:=e
    simp at e;exact absurd e.1 (by decide)
   ·cases e
  |t j=>
   have e:T.tup [.str "thing",.int (i:Int)]=T.tup [.str "thing",.int (j:Int)]:=e
   grind
theorem pv_nv(e:A.pv x=some z):A.nv x=none:=by
 obtain⟨i,a,b⟩:=z;obtain⟨rfl,et⟩:=pv_t e;show(match A.th i with | .far n=>some n | .pr _ _=>none)=none;rw[et]
theorem same_eq(hx:A.RfOk x)(hy:A.RfOk y)(h:A.nv x=none\/A.nv y=none):A.sameB x y=true↔rfT x=rfT y:=by
 rw[rf_inj hx hy];unfold sameB;cases ex:A.nv x with
 |none=>
  cases ey:A.nv y with
  |none=>simp
  |some b=>exact⟨λz=>(by cases z),λz=>by rw[z,ey]at ex;cases ex⟩
 |some a=>
  cases ey:A.nv y with
  |none=>exact⟨λz=>(by cases z),λz=>by rw[z,ey]at ex;cases ex⟩
  |some b=>rw[ex,ey]at h;rcases h with h|h<;>cases h
theorem q1h(hx:A.RfOk x)(h1:A.pv x=none)(h2:A.nv x=none):A.tl x=rfT x/\¬ ∃n:Int,rfT x=.int n:=by
 cases x with
 |w u=>
  refine⟨rfl,?_⟩;rcases InW.cs hx with⟨n,rfl⟩|⟨n,rfl⟩|⟨n,rfl⟩
  ·cases h2
  ·exact λzz=>by obtain⟨m,z⟩:=zz;have z:T.tup _=T.int m:=z;cases z
  ·exact λzz=>by obtain⟨m,z⟩:=zz;have z:T.str _=T.int m:=z;cases z
 |t i=>
  have h1:(match A.th i with | .far _=>none | .pr a b=>some _)=none:=h1;have h2:(match A.th i with | .far n=>some n | .pr _ _=>none)=none:=h2;cases e:A.th i with
  |far n=>rw[e]at h2;cases h2
  |pr a b=>rw[e]at h1;cases h1
theorem same_tl(hx:A.RfOk x)(hy:A.RfOk y)(px:A.pv x=none)(py:A.pv y=none):A.sameB x y=true↔A.tl x=A.tl y:=by
 cases ex:A.nv x with
 |none=>
  obtain⟨t1,t2⟩:=q1h hx px ex;cases ey:A.nv y with
  |none=>
   rw[t1,(q1h hy py ey).1];exact same_eq hx hy (.inl ex)
  |some b=>
   unfold sameB;rw[ex,ey,t1,Kt ey];exact⟨λz=>(by cases z),λz=>(t2 ⟨_,z⟩).elim⟩
 |some a=>
  cases ey:A.nv y with
  |none=>
   obtain⟨t1,t2⟩:=q1h hy py ey;unfold sameB;rw[ex,ey,t1,Kt ex];exact⟨λz=>(by cases z),λz=>(t2 ⟨_,z.symm⟩).elim⟩
  |some b=>
   unfold sameB;rw[ex,ey,Kt ex,Kt ey];simp
end Mc
namespace Mc
variable {A:Mc}{x y:Rf}
theorem q43:tOf (A.kl (.t i))=.tup [.str (A.th i).kd,.int (A.pl i:Int)]:=Jr
theorem wd_inj(O:A.Ok)(hx:A.RfOk x)(hy:A.RfOk y):A.wd x=A.wd y↔x=y:=by
 refine⟨λe=>?_,λe=>by rw[e]⟩;have e1:tOf (A.kl x)=tOf (A.kl y):=by
  have a1:j6 A.bits A.ms (A.wd x)=tOf _:=((vld O hx).there O.R).2.2;have a2:j6 A.bits A.ms (A.wd y)=tOf _:=((vld O hy).there O.R).2.2;rw[<-a1, <-a2,e]
 have kd:∀i,(A.th i).kd ≠ "sign" := λi=>by cases A.th i<;>(simp[Th.kd];decide)
 cases x with
 |w u=>
  cases y with
  |w v=>exact(rf_inj hx hy).mp e1
  |t j=>
   rw[q43]at e1;rcases InW.cs hx with⟨n,rfl⟩|⟨n,rfl⟩|⟨n,rfl⟩
   ·cases e1
   ·have e1:T.tup [.str "sign",.int n]=T.tup [.str (A.th j).kd,.int _]:=e1
    simp only[T.tup.injEq,List.cons.injEq,T.str.injEq]at e1;exact absurd e1.1.symm (kd j)
   ·cases e1
 |t i=>
  rw[q43]at e1;cases y with
  |w v=>
   rcases InW.cs hy with⟨n,rfl⟩|⟨n,rfl⟩|⟨n,rfl⟩
   ·cases e1
   ·have e1:T.tup [.str (A.th i).kd,.int _]=T.tup [.str "sign",.int n]:=e1
    simp only[T.tup.injEq,List.cons.injEq,T.str.injEq]at e1;exact absurd e1.1 (kd i)
   ·cases e1
  |t j=>
   rw[q43]at e1;simp only[T.tup.injEq,List.cons.injEq,T.int.injEq]at e1;rw[Wm O hx hy (by lia)]
theorem same_num(hy:A.RfOk y)(ex:A.nv x=some a):A.sameB x y=true↔A.tl x=A.tl y:=by
 unfold sameB;rw[ex,Kt ex];cases ey:A.nv y with
 |some b=>rw[Kt ey];simp
 |none=>
  refine⟨λz=>(by cases z),λz=>?_⟩;cases ep:A.pv y with
  |some u=>
   obtain⟨i,c,d⟩:=u;obtain⟨rfl,et⟩:=pv_t ep;have z:T.int a=(match A.th i with | .far n=>T.int n | .pr _ _=>T.str "pair"):=z;rw[et]at z;cases z
  |none=>
   obtain⟨t1,t2⟩:=q1h hy ep ey;rw[t1]at z;exact(t2 ⟨_,z.symm⟩).elim
end Mc
def GO(C:Addr):List U->MM->UK->Prop:=λus M Q=>∃(s h kp:Nat)(A:Mc)(q p:Nat)(x y:Rf),us=[.m s,.p (.int q),.p (.int p)]/\StA C M s h kp A/\A.rg[q]?=some x/\A.rg[p]?=some y/\Q (.p (.bl (A.sameB x y))) M
theorem WM(F:Fun Ξ "same" "Store.same" Qk f fd)(TP:q00 Ξ C)(a5:Cls Ξ C)(aj:MDef P w Ξ mg base C "kind" 3 ["self","q"] (spU (Zy C)))(aJ:MDef P w Ξ mg base C "told" 5 ["self","q"] (spU (GM C))):FnOk P w Ξ mg base CX0 6 f fd ["self","q","p"] (spU (GO C)):=by
 exists F.zU, ["self","q","p"],qb (qI (qg op_eq (va aj a5 qv0 (Wh hr) (qa1 qv1)) qe (qo _)) (qc (qi (ze (WE (Ξ:=Ξ) rfl hr.units) (va aJ a5 qv0 (Wh hr) (qa1 qv1)) (va aJ a5 qv0 (Wh hr) (qa1 qv2)) (qo _)))) qt) (qc (qi (ze op_eq (qh (Ua Ξ) (qG qv0 rfl) qv1 (λ_ _=>rfl)) (qh (Ua Ξ) (qG qv0 rfl) qv2 (λ_ _=>rfl)) (qo _))));rintro us M Qu ⟨s,h,kp,A,q',p',x,y,rfl,S,hq,hp,q⟩;have hx:=S.ok hq;have hy:=S.ok hp;left;refine mS S (by rfl) ?_;left;refine⟨s,h,kp,A,q',x,rfl,S,hq,?_⟩;cases ea:A.nv x with
 |some a=>
  rw[(q2F hx).2 a ea];left;refine mS S (by rfl) ?_;left;refine⟨s,h,kp,A,q',x,rfl,S,hq,?_⟩;left;refine mS S (by rfl) ?_;left;refine⟨s,h,kp,A,p',y,rfl,S,hp,?_⟩;left;exact J8 (Mc.tl_shp hx) (Mc.tl_shp hy) (Mc.same_num hy ea) q
 |none=>
  have hk:=(q2F hx).1 ea;left;rw[Ui (UF hk)];left;refine vE TP S ?_;left;refine xD S hq ?_;left;refine vE TP S ?_;left;refine xD S hp ?_;left;have e:decide (A.wd x=A.wd y)=A.sameB x y:=Rg.mpr (by rw[decide_eq_true_iff,Mc.wd_inj S.O hx hy,Mc.same_eq hx hy (.inl ea),Mc.rf_inj hx hy]);rw[e];exact q
theorem q8C:cutT [a,b] none (some 2)=[a,b]:=rfl
theorem q8e:cutT [a,b,c] none (some 2)=[a,b]:=rfl
noncomputable abbrev q29:Stmt:=top 72
theorem q4a(F:Fun Ξ "_law_asked" "_law_asked" q29 f fd)(N:Nms mg)(bU:Def P w Ξ mg base "_law_kind" 2 ["own","ref"] (spU GT))(aZ:Def P w Ξ mg base "_law_worth" 1 ["own","ref"] (spU XR)):FnOk P w Ξ mg base CX0 3 f fd ["own","deed"] (spU λus M Q=>∃e,((∃q,e=.kind q)\/∃q p,e=.same q p)/\gDoO e us M Q):=by
 exists F.zU, ["own","deed","word","q","ref","other","part","one"],qb (vD (vm (Xk (Ξ:=Ξ) rfl) qv1 zC (vf qa)) (V5 (Ξ:=Ξ) (i:=2) (j:=3) rfl nd rfl rfl rfl Wr Wr Wr Wr)) (qb (ql (i:=4) nd rfl Wr (qh (Ua Ξ) (qh (Ua Ξ) qv0 qa (λ_ _=>rfl)) qv3 (λ_ _=>rfl))) (qb (qI (qg op_eq qv2 qe (qo _)) (qc (qi (qy (qa2 qe (qf bU (Wh hr) (qa2 qv0 qv4)))))) qt) (qb (qI (qg op_eq qv2 qe (qo _)) (qc (qi (qy (qa2 qe (qf aZ (Wh hr) (qa2 qv0 qv4)))))) qt) (qb (ql (i:=5) nd rfl Wr (qh (Ua Ξ) (qh (Ua Ξ) qv0 qa (λ_ _=>rfl)) (qh (Ub Ξ) qv1 qa (λ_ _=>rfl)) (λ_ _=>rfl))) (qb (qI (qg op_eq qv2 qe (qo _)) (qb (qI (V2 (q4n (qg op_eq (qf bU (Wh hr) (qa2 qv0 qv4)) qe (qo _)) (Y6 (qg op_eq (qf bU (Wh hr) (qa2 qv0 qv5)) qe (qo _))))) (qc (qi (qy (qa2 qe (ze (WE (Ξ:=Ξ) rfl hr.units) qv4 qv5 (qo _)))))) qt) (qc (qi (qy (qa2 qe (ze (WE (Ξ:=Ξ) rfl hr.units) (qf aZ (Wh hr) (qa2 qv0 qv4)) (qf aZ (Wh hr) (qa2 qv0 qv5)) (qo _))))))) qt) (qb (z0 PassesOwn.never rfl (qY (Ξ:=Ξ) rfl (qA (qa2 (qy (qa2 qa qv4)) (qy (qa2 qa qv5))))) (V5 (Ξ:=Ξ) (i:=6) (j:=7) rfl nd rfl rfl rfl Wr Wr Wr Wr) (qc (qI (qg q3y (qf bU (Wh hr) (qa2 qv0 qv7)) qe (qo _)) (qc (qi (qy (qa2 qe qv6)))) qt))) (qc (qi (qy (qa2 qe (ze xw (qf aZ (Wh hr) (qa2 qv0 qv4)) (qf aZ (Wh hr) (qa2 qv0 qv5)) (qo _)))))))))))),(qj (qM (qan (qk 1) kU (xS Wi)) (VC 2 3)) (by right));rintro us M Qu ⟨e,he,w,g,d,o,c,tm,A,rfl,S,hd,hz,k⟩;rcases he with⟨q,rfl⟩|⟨q,p,rfl⟩
 ·have hx:=Mc.rf_ok S.O hd
  have e0:(Dd.kind q).t=.tup [.str "kind",.int (q:Int)]:=rfl;rw[e0];left
  try simp only[uSlA]
  left;refine⟨_,rfl,?_⟩;rw[q8C];left;refine S.ix (by rfl) ?_;left;refine S.rix hd ?_;left;refine⟨w,g,d,o,c,tm,A,A.rf q,rfl,S,hx,?_⟩;left;exact k.here S
 ·obtain⟨hq,hp⟩:=hd
  have hx:=Mc.rf_ok S.O hq;have hy:=Mc.rf_ok S.O hp;have e0:(Dd.same q p).t=.tup [.str "same",.int (q:Int),.int (p:Int)]:=rfl;rw[e0];left
  try simp only[uSlA]
  left;refine⟨_,rfl,?_⟩;rw[q8e];left;refine S.ix (by rfl) ?_;left;refine S.rix hq ?_;left;refine S.ix (by rfl) ?_;left;refine S.rix hp ?_;left;refine⟨w,g,d,o,c,tm,A,A.rf q,rfl,S,hx,?_⟩;left;have kk:=k.here S;have sx:=Mc.rf_shp hx;have sy:=Mc.rf_shp hy;have nn:∀{z:Rf},A.RfOk z->A.kn z = "pair" -> A.nv z=none:=λ{z} h e=>by
   cases ep:A.pv z with
   |none=>exact absurd ep ((Mc.kn_pv h).mp e)
   |some u=>exact Mc.pv_nv ep
  have np:∀{z:Rf},A.RfOk z->¬A.kn z = "pair" -> A.pv z=none:=λ{z} h e=>by
   cases ep:A.pv z with
   |none=>rfl
   |some u=>exact absurd ((Mc.kn_pv h).mpr (by rw[ep];exact λy=>nomatch y)) e
  refine ite2 (λz=>?_) (λz=>?_)
  ·exact J8 sx sy (Mc.same_eq hx hy (.inl (nn hx z))) kk
  ·left
   refine⟨w,g,d,o,c,tm,A,A.rf p,rfl,S,hy,?_⟩;left;refine ite2 (λz2=>?_) (λz2=>?_)
   ·exact J8 sx sy (Mc.same_eq hx hy (.inr (nn hy z2))) kk
   ·left
    refine⟨w,g,d,o,c,tm,A,A.rf q,rfl,S,hx,?_⟩;left;refine⟨w,g,d,o,c,tm,A,A.rf p,rfl,S,hy,?_⟩;left;exact J8 (Mc.tl_shp hx) (Mc.tl_shp hy) (Mc.same_tl hx hy (np hx z) (np hy z2)) kk
noncomputable abbrev sDo:Stmt:=top 73
noncomputable def lst5:List Str:=["pair","first","second","set_first","set_second"]
theorem q80(F:Fun Ξ "_law_do" "_law_do" sDo f fd)(b7:Def P w Ξ mg base "_law_numbers_done" 6 ["own","deed"] (spU gNo))(c3:Def P w Ξ mg base "_law_pair_done" 5 ["own","deed"] (spU λus M Q=>∃e,((∃r q p,e=.pair r q p)\/(∃b r q,e=.get b r q)\/∃b q p,e=.set b q p)/\gDoO e us M Q))(dA:Def P w Ξ mg base "_law_asked" 3 ["own","deed"] (spU λus M Q=>∃e,((∃q,e=.kind q)\/∃q p,e=.same q p)/\gDoO e us M Q))(bZ:Def P w Ξ mg base "_law_sweep" 1 ["own"] (spU XS))(bG:Def P w Ξ mg base "_law_number_ref" 5 ["own","n"] (spU q36)):FnOk P w Ξ mg base CX0 7 f fd ["own","deed"] (spU λus M Q=>∃e,gDoO e us M Q):=by
 exists F.zU, ["own","deed","word","found"],qb (ql (i:=2) nd rfl Wr (qh (Ub Ξ) qv1 qa (λ_ _=>rfl))) (qb (qI (qg (Ud Ξ) qv2 (qA (qa_c qe (qa4 qe qe qe qe))) (by with_unfolding_all rfl)) (qc (qi (qf b7 (Wh hr) (qa2 qv0 qv1)))) qt) (qb (qI (qg (Ud Ξ) qv2 (qA (qa_c qe (qa4 qe qe qe qe))) (by with_unfolding_all rfl)) (qc (qi (qf c3 (Wh hr) (qa2 qv0 qv1)))) qt) (qb (qI (qg (Ud Ξ) qv2 (qA (qa4 qe qe qe qe)) (by with_unfolding_all rfl)) (qc (qi (qf dA (Wh hr) (qa2 qv0 qv1)))) qt) (qb (qI (qg op_eq qv2 qe (qo _)) (qb (vD (qh (Ua Ξ) (qh (Ua Ξ) qv0 qa (λ_ _=>rfl)) (qh (Ub Ξ) qv1 qa (λ_ _=>rfl)) (λ_ _=>rfl)) (vM (qh (Ua Ξ) qv0 qa (λ_ _=>rfl)) (qh (Ub Ξ) qv1 qa (λ_ _=>rfl)) qL)) (qc (qi (qy (qa2 qe vN))))) qt) (qb (qI (qg op_eq qv2 qe (qo _)) (qb (vj (qf bZ (Wh hr) (qa1 qv0))) (qc (qi (qy (qa2 qe vN))))) qt) (qb (ql (i:=3) nd rfl Wr (qh (Ub Ξ) qv1 qa (λ_ _=>rfl))) (qb (qI (qg op_eq qv2 qe (qo _)) (qc (ql (i:=3) nd rfl Wr (qf bG (Wh hr) (qa2 qv0 (qh (Ub Ξ) qv1 qa (λ_ _=>rfl)))))) qt) (qb (qI (qg op_eq qv2 qe (qo _)) (qc (ql (i:=3) nd rfl Wr (qy (qa2 qe (qh (Ub Ξ) qv1 qa (λ_ _=>rfl)))))) qt) (qb (qI (qg JM qv3 vN (qo _)) (qc (qi (qy (qa2 qe vN)))) qt) (qb (vD qv3 (vM (qh (Ua Ξ) qv0 qa (λ_ _=>rfl)) (qh (Ub Ξ) qv1 qa (λ_ _=>rfl)) qL)) (qc (qi (qy (qa2 qe vN))))))))))))));rintro us M Qu ⟨e,w,g,d,o,c,tm,A,rfl,S,hd,hz,k⟩;by_cases he:(∃r q p,e=.pair r q p)\/(∃b r q,e=.get b r q)\/∃b q p,e=.set b q p
 ·obtain⟨x,l,e0,h1,h2⟩:∃(x:Str)(l:List T),e.t=.tup (.str x::l)/\decide (x∈(["plus","less","times","over","rest"]:List Str))=false/\decide (x∈lst5)=true:=by
   rcases he with⟨_,_,_,rfl⟩|⟨b,_,_,rfl⟩|⟨b,_,_,rfl⟩
   ·exact⟨_,_,rfl,by decide,by decide⟩
   all_goals cases b<;>exact⟨_,_,rfl,by decide,by decide⟩
  rw[e0];refine q0U rfl (Yi rfl (by repeat constructor) h1 (Yh rfl (by repeat constructor) h2 ?_));left;exact⟨e,he,w,g,d,o,c,tm,A,by rw[e0],S,hd,hz,k⟩
 rcases e with⟨r,n⟩|⟨r,n⟩|⟨r,q⟩|⟨r,q,p⟩|⟨b,r,q⟩|⟨b,q,p⟩|⟨q,p⟩|q|_
 all_goals first
  |exact(he (.inl ⟨_,_,_,rfl⟩)).elim
  |exact(he (.inr (.inl ⟨_,_,_,rfl⟩))).elim
  |exact(he (.inr (.inr ⟨_,_,_,rfl⟩))).elim
  |skip
 all_goals
  refine q0U rfl ?_
  repeat refine Yi rfl (by repeat constructor) (by decide) ?_
  try refine Yh rfl (by repeat constructor) (by decide) ?_
  left
 ·obtain⟨hr,hn⟩:=hd
  have k:GoO M w g d o c tm (fin (A.num r n)).1 (Qu (.p (fin (A.num r n)).2.t)):=k;refine⟨w,g,d,o,c,tm,A,n,rfl,S,hn.mono (by decide),hz,λM1 g1 d1 o1 c1 c8 f1 h1 S1=>?_⟩;rw[Mc.num_ref S.O]at k;cases en:(A.nref n).2 with
  |none=>
   simp only[en]at k;unfold optT;left;exact k M1 g1 d1 o1 c1 c8 f1 h1 S1
  |some z=>
   obtain⟨hz1,sT,sU⟩:=Mc.nref_some S.O en;simp only[en]at k;have fh:SubS M1 (.m g1) (.p (.int (r:Int))) (.p (rfT z)) λM3=>Qu (.p (.tup [.str "",.non])) M3:=S1.put hr sT (k.step f1 h1);rcases sU with⟨h3,h4⟩|⟨h3,i,h4⟩
   ·have e5:optT (some z)=.int n:=h4
    rw[e5];rw[h4]at fh;left;refine S1.ix (by rfl) ?_;left;exact fh
   ·have e5:optT (some z)=.tup [.str "thing",.int (i:Int)]:=h4
    rw[e5];rw[h4]at fh;left;refine S1.ix (by rfl) ?_;left;exact fh
 ·refine S.ix (by rfl) ?_
  left;refine S.put hd.1 (x:=.w ("sign", n)) (XO S.O.R hd.2.1 hd.2.2) ?_;left;exact k
 ·obtain⟨hr,hq⟩:=hd
  refine S.ix (by rfl) ?_;left;refine S.rix hq ?_;left;refine S.ix (by rfl) ?_;left;refine S.put hr (Mc.rf_ok S.O hq) ?_;left;exact k
 ·exact⟨_,.inr ⟨q,p,rfl⟩,w,g,d,o,c,tm,A,rfl,S,hd,hz,k⟩
 ·exact⟨_,.inl ⟨q,rfl⟩,w,g,d,o,c,tm,A,rfl,S,hd,hz,k⟩
 ·refine⟨w,g,d,o,c,tm,A,rfl,S,λM1 g1 d1 o1 c1 c8 f1 h1 S1=>?_⟩
  left;exact k M1 g1 d1 o1 c1 c8 f1 h1 S1
def OcG(Q:UK)(X:UX):Oc->MM->Prop
 |.ok t=>Q (.p t)
 |.wk n=>X "WrongKind" (some n)
 |.rm=>X "NoRoom" none
def q2E(C:Addr):List U->MM->UK->UX->Prop:=λus M Q X=>∃(s h kp:Nat)(A:Mc)(e:Dd),us=[.m s,.p e.t]/\StA C M s h kp A/\A.DOk e/\Go C M s h kp (A.act e).1 (OcG Q X (A.act e).2)
theorem q2Q(g:Go C M s h kp (fin z).1 (OcG Q X (fin z).2)):(z.2=true->Go C M s h kp z.1 (Q (.p .non)))/\(z.2=false->Go C M s h kp z.1 (X "NoRoom" none)):=by
 unfold fin at g;refine⟨λe=>?_,λe=>?_⟩
 ·simp only[e]at g;exact g
 ·simp only[e]at g;exact g
noncomputable abbrev V1:Stmt:=top 78
theorem q1N(F:Fun Ξ "_law_deed_done" "_law_deed_done" V1 f fd)(a5:Cls Ξ C)(b8:q03 P w Ξ mg base C "number" 9 ["self","r","n"] (spX mg (q6J C)))(aP:MDef P w Ξ mg base C "sign" 4 ["self","r","k"] (spU (GN C)))(c4:MDef P w Ξ mg base C "one" 1 ["self","r","text"] (spU gNo))(bH:MDef P w Ξ mg base C "copy" 1 ["self","r","q"] (spU (q2c C)))(bI:MDef P w Ξ mg base C "plus" 1 ["self","r","q","p"] (spU gNo))(bJ:MDef P w Ξ mg base C "less" 1 ["self","r","q","p"] (spU gNo))(bp:MDef P w Ξ mg base C "times" 1 ["self","r","q","p"] (spU gNo))(bK:MDef P w Ξ mg base C "over" 1 ["self","r","q","p"] (spU gNo))(bL:MDef P w Ξ mg base C "rest" 1 ["self","r","q","p"] (spU gNo))(bM:q03 P w Ξ mg base C "pair" 9 ["self","r","q","p"] (spX mg (q3n C)))(bq:q03 P w Ξ mg base C "first" 6 ["self","r","q"] (spX mg (q1n C true)))(ba:q03 P w Ξ mg base C "second" 6 ["self","r","q"] (spX mg (q1n C false)))(aX:q03 P w Ξ mg base C "set_first" 6 ["self","q","p"] (spX mg (q0M C true)))(aT:q03 P w Ξ mg base C "set_second" 6 ["self","q","p"] (spX mg (q0M C false)))(br:MDef P w Ξ mg base C "below" 1 ["self","q","p"] (spU gNo))(bN:MDef P w Ξ mg base C "same" 6 ["self","q","p"] (spU (GO C)))(aj:MDef P w Ξ mg base C "kind" 3 ["self","q"] (spU (Zy C)))(aJ:MDef P w Ξ mg base C "told" 5 ["self","q"] (spU (GM C)))(aK:MDef P w Ξ mg base C "sweep" 7 ["self"] (spU (GK C))):FnOk P w Ξ mg base (CXe P w) 10 f fd ["store","deed"] (spX mg (q2E C)):=by
 exists F.zX, ["store","deed","word","r","q","p"],qX (xY (ql (i:=2) nd rfl Wr (qh (Ub Ξ) qv1 qa (λ_ _=>rfl)))) (qX (xY (vD (vm (Xk (Ξ:=Ξ) rfl) (qm (q5b (Ξ:=Ξ) rfl) (vm (Xk (Ξ:=Ξ) rfl) qv1 (vf qa) zC) (qy (qa3 qa qa qa))) zC (vf qa)) (Wb (Ξ:=Ξ) (i:=3) (j:=4) (k:=5) rfl nd rfl rfl rfl rfl Wr Wr Wr Wr Wr Wr))) (qX (Xr (qg (Ud Ξ) qv2 (qA (qa2 qe qe)) (by with_unfolding_all rfl)) (vB (JH (xX (qg op_eq qv2 qe (qo _)) (zc qv0 a5 b8 (Wh hr) (qa2 qv3 qv4)) (v3 (va aP a5 qv0 (Wh hr) (qa2 qv3 qv4)))))) xH) (qX (xY (qI (qg (Ud Ξ) qv2 (qA (qa2 qe qe)) (by with_unfolding_all rfl)) (qc (qi (qZ (qg op_eq qv2 qe (qo _)) (va c4 a5 qv0 (Wh hr) (qa2 qv3 qv4)) (va bH a5 qv0 (Wh hr) (qa2 qv3 qv4))))) qt)) (qX (xY (qI (qg (Ud Ξ) qv2 (qA (qa2 qe qe)) (by with_unfolding_all rfl)) (qc (qi (qZ (qg op_eq qv2 qe (qo _)) (va bI a5 qv0 (Wh hr) (qa3 qv3 qv4 qv5)) (va bJ a5 qv0 (Wh hr) (qa3 qv3 qv4 qv5))))) qt)) (qX (xY (qI (qg (Ud Ξ) qv2 (qA (qa2 qe qe)) (by with_unfolding_all rfl)) (qc (qi (qZ (qg op_eq qv2 qe (qo _)) (va bp a5 qv0 (Wh hr) (qa3 qv3 qv4 qv5)) (va bK a5 qv0 (Wh hr) (qa3 qv3 qv4 qv5))))) qt)) (qX (Xr (qg (Ud Ξ) qv2 (qA (qa2 qe qe)) (by with_unfolding_all rfl)) (vB (JH (xX (qg op_eq qv2 qe (qo _)) (v3 (va bL a5 qv0 (Wh hr) (qa3 qv3 qv4 qv5))) (zc qv0 a5 bM (Wh hr) (qa3 qv3 qv4 qv5))))) xH) (qX (Xr (qg (Ud Ξ) qv2 (qA (qa2 qe qe)) (by with_unfolding_all rfl)) (vB (JH (xX (qg op_eq qv2 qe (qo _)) (zc qv0 a5 bq (Wh hr) (qa2 qv3 qv4)) (zc qv0 a5 ba (Wh hr) (qa2 qv3 qv4))))) xH) (qX (Xr (qg (Ud Ξ) qv2 (qA (qa2 qe qe)) (by with_unfolding_all rfl)) (vB (JH (xX (qg op_eq qv2 qe (qo _)) (zc qv0 a5 aX (Wh hr) (qa2 qv3 qv4)) (zc qv0 a5 aT (Wh hr) (qa2 qv3 qv4))))) xH) (qX (xY (qI (qg (Ud Ξ) qv2 (qA (qa2 qe qe)) (by with_unfolding_all rfl)) (qc (qi (qZ (qg op_eq qv2 qe (qo _)) (va br a5 qv0 (Wh hr) (qa2 qv3 qv4)) (va bN a5 qv0 (Wh hr) (qa2 qv3 qv4))))) qt)) (qX (xY (qI (qg op_eq qv2 qe (qo _)) (qc (qi (zy aK a5 qv0 (Wh hr)))) qt)) (vB (xY (qi (qZ (qg op_eq qv2 qe (qo _)) (va aj a5 qv0 (Wh hr) (qa1 qv3)) (va aJ a5 qv0 (Wh hr) (qa1 qv3)))))))))))))))),(qj (by right) (qj (qM (qan (q4x (qan (qk 1) (xS Wi) kU) (ZU (qq Wi (qq Wi (qq Wi qK))))) kU (xS Wi)) (by right)) (by right)));rintro us M Qu Xu ⟨s,h,kp,A,e,rfl,S,hd,g⟩;have fj:∀{q},q<8->A.rg[q]?=some (A.rf q):=λh=>Mc.rf_at S.O h;rcases e with⟨r,n⟩|⟨r,n⟩|⟨r,q⟩|⟨r,q,p⟩|⟨_|_,r,q⟩|⟨_|_,q,p⟩|⟨q,p⟩|q|_
 all_goals
  refine q0U rfl (q74 rfl rfl (by rw[Uk];exact Bs rfl) rfl ?_)
  repeat refine Yi rfl (by repeat constructor) (by decide) ?_
  try refine Yh rfl (by repeat constructor) (by decide) ?_
  left;refine mS S (by rfl) ?_;left
 ·obtain⟨hr,hn⟩:=hd
  obtain⟨k1,k2⟩:=q2Q (z:=A.num r n) g;exact⟨s,h,kp,A,r,n,rfl,S,hr,hn.mono (by decide),k1,λe M' h' bA f a b S'=>⟨_,_,_,rfl,rfl,k2 e M' h' bA f a b S'⟩⟩
 ·exact⟨s,h,kp,A,r,n,rfl,S,hd.1,hd.2.1,hd.2.2,g⟩
 ·exact⟨s,h,kp,A,r,q,_,rfl,S,hd.1,fj hd.2,g⟩
 ·obtain⟨hr,hq,hp⟩:=hd
  obtain⟨k1,k2⟩:=q2Q (z:=A.prd r (A.rf q) (A.rf p)) g;exact⟨s,h,kp,A,r,q,p,_,_,rfl,S,hr,fj hq,fj hp,k1,λe M' h' bA f a b S'=>⟨_,_,_,rfl,rfl,k2 e M' h' bA f a b S'⟩⟩
 iterate 2
  ·have g:Go C M s h kp (A.getO _ r (A.rf q)).1 (OcG Qu Xu (A.getO _ r (A.rf q)).2):=g
   unfold Mc.getO at g;exact⟨s,h,kp,A,r,q,_,rfl,S,hd.1,fj hd.2,λi x y ep=>by simp only[ep]at g;exact g,λep=>⟨_,_,_,rfl,rfl,by simp only[ep]at g;exact Go.here S g⟩⟩
 iterate 2
  ·have g:Go C M s h kp (A.setO _ (A.rf q) (A.rf p)).1 (OcG Qu Xu (A.setO _ (A.rf q) (A.rf p)).2):=g
   unfold Mc.setO at g;exact⟨s,h,kp,A,q,p,_,_,rfl,S,fj hd.1,fj hd.2,λi x y ep=>by simp only[ep]at g;exact g,λep=>⟨_,_,_,rfl,rfl,by simp only[ep]at g;exact Go.here S g⟩⟩
 ·exact⟨s,h,kp,A,q,p,_,_,rfl,S,fj hd.1,fj hd.2,Go.here S g⟩
 ·exact⟨s,h,kp,A,q,_,rfl,S,fj hd,Go.here S g⟩
 ·refine⟨s,h,kp,A.bits,A.ms,A.room,A.ws,A.os,A.qu,A.sl,A.sw,A.od.map A.pl,rfl,S.S,Mc.si S.O,Mc.fit S.O,λM' h' bA f1 n1 n2 S'=>?_⟩
  rw[Mc.ws_swp S.O,Mc.os_swp S.O]at S';exact g M' h' bA ⟨f1.1,λi hi hn=>f1.2 i hi λz=>hn (by simp at z;simp[z])⟩ (.inr n1) (.inr n2) ⟨Mc.ok_swp S.O,S'⟩
noncomputable def plL(A:Mc)(l:List Nat):List (Key×U):=l.map λ(i:Nat)=>(Key.inl (i:Int),U.p (nT (A.pl i)))
theorem q2H:∀{l:List Nat},i∈l->valU (plL A l) (.inl (i:Int))=some (.p (nT (A.pl i)))
 | [],h=>nomatch h
 |j::l,h=>by
  unfold valU plL;rw[DD,RE];by_cases e:j=i
  ·subst e
   simp
  ·have h1:¬((Key.inl j:Key)=Key.inl i):=λz=>e (by injection z with z;exact_mod_cast z)
   simp only[h1,UU];exact q2H ((Dl.mp h).resolve_left (Ne.symm e))
noncomputable abbrev YI:Stmt:=top 74
def J0:List U->MM->UK->Prop:=λus M Q=>∃(w g d o c:Nat)(tm:List Nat)(A:Mc),us=[.m w]/\Ow M w g d o c tm A/\Q (.m M.length) (M++[.dK (plL A A.od)])
theorem KG(F:Fun Ξ "_law_places" "_law_places" YI f fd)(cH:Def P w Ξ mg base "_law_size" 2 ["own","i"] (spU GL)):FnOk P w Ξ mg base CX0 3 f fd ["own"] (spU J0):=by
 exists F.zU, ["own","found","at","i"],qb (ql (i:=1) nd rfl Wr ky) (qb (ql (i:=2) nd rfl Wr qa) (qb (z0 PassesOwn.never rfl (qY (Ξ:=Ξ) rfl (qh (Ua Ξ) qv0 qa (λ_ _=>rfl))) (vd (i:=3) nd rfl Wr) (qb (ku (zt hr) qv1 qv3 qv2) (qc (ql (i:=2) nd rfl Wr (qm qH qv2 (qf cH (Wh hr) (qa2 qv0 qv3))))))) (qc (qi qv1)))),(qj (qM kW (qF 1)) (by right));rintro us M Qu ⟨w,g,d,o,c,tm,A,rfl,S,q⟩;have bw:=S.lt;have kp:∀m,Ow (M++[m]) w g d o c tm A:=λm=>S.keep λi hi=>De (bw i hi);have gD:A.od.length<=1000:=by
  have h1:=vP (ks:=A.od) (hs:=List.range A.tb.length) (Mc.nd S.O) λk hk=>D8.mpr (S.O.b k hk);rw[D2]at h1;have:=S.z;lia
 symm;refine(kp _).ix (by rfl) ?_;symm;refine xN (kp _).o0 ?_;refine Jh (λi ρ M'=>M'=M++[.dK (plL A (A.od.take i))]/\∃x3,ρ=[some (.m w),some (.m M.length),some (.p (.int (((A.od.take i).map A.sz).sum:Nat))),x3]) ⟨rfl,none,rfl⟩ ?_ ?_ ?_
 ·rintro i ρ M' ⟨rfl,_⟩
  exact(kp _).o0
 ·rintro i z ρ M' hz ⟨rfl,x3,rfl⟩
  obtain⟨t,ht,rfl⟩:=q02 hz;obtain⟨j,hj,rfl⟩:=q02 ht;have dL:=Dh hj;unfold nT;symm;have il:i<A.od.length:=(Dc.mp hj).1;have da:A.od=A.od.take i++j::A.od.drop (i+1):=by
   have e1:=Rs i A.od;rw[R8 il,(Dc.mp hj).2]at e1;exact e1.symm
  have oB:j∉A.od.take i:=λz=>by
   have h:=Mc.nd S.O;rw[da,DW]at h;exact h.2.2 j z j (.head _) rfl
  have bQ:((A.od.take i).map A.sz).sum=A.pl j:=by
   unfold Mc.pl
   conv=>rhs;rw[da]
   rw[kA oB]
  refine jk (kvs:=plL A (A.od.take i)) (by simp) (by unfold plL;rw[Dg,D0,Uk];lia) ?_;have ep:putU (plL A (A.od.take i)) (.inl (j:Int)) (.p (.int ((((A.od.take i).map A.sz).sum:Nat):Int)))=plL A (A.od.take (i+1)):=by
   rw[qD hj,jU,bQ]
   ·unfold plL
    rw[Dq];rfl
   ·intro kv hkv z
    obtain⟨k,hk,rfl⟩:=DL.mp hkv;have z:(Key.inl (k:Int):Key)=Key.inl (j:Int):=z;injection z with z
    exact oB ((by exact_mod_cast z:k=j)▸hk)
  rw[ep,show(M++[MO.dK (plL A (A.od.take i))]).set M.length (.dK (plL A (A.od.take (i+1))))=M++[.dK (plL A (A.od.take (i+1)))] by simp];refine⟨w,g,d,o,c,tm,A,j,rfl,kp _,dL,?_⟩;symm;refine⟨some (.p (.int (j:Int))),?_⟩;rw[qD hj,Dq,List.sum_append];simp
 ·rintro ρ M' ⟨rfl,x3,rfl⟩
  rw[Dg,Dg,DF];symm;exact q
noncomputable abbrev q6S:Stmt:=top 75
noncomputable def oneU:List (Key×U):=[(.inr "none",.p (.int 0)),(.inr "no",.p (.int 1)),(.inr "yes",.p (.int 2))]
def GJ:List U->MM->UK->Prop:=λus M Q=>∃(w g d o c k:Nat)(tm:List Nat)(A:Mc)(x:Rf),us=[.m w,.m k,.p (rfT x)]/\Ow M w g d o c tm A/\M[k]?=some (.dK (plL A A.od))/\A.RfOk x/\∀M',Frm M M' []->Q (.p (.int (A.wd x))) M'
theorem q0P(F:Fun Ξ "_law_word" "_law_word" q6S f fd)(N:Nms mg)(cF:Def P w Ξ mg base "_law_mark" 1 ["laying","kind"] (spP Zz)):FnOk P w Ξ mg base CX0 2 f fd ["own","places","ref"] (spU GJ):=by
 exists F.zU, ["own","places","ref","kind","load","name","width","pattern"],qb (vD (qZ (zg (qE (Uc Ξ) (by rfl) N.isinstance vi (qa2 qv2 (xb (v:=.ty "str") (by rfl) N.str q6F rfl)))) (qy (qa2 qe (q1o (zt hr) (Wc (zx qe qa (zx qe qa (zx qe qa Wa))) rfl rfl (λz=>nomatch z) (by decide)) qv2 ⟨rfl,rfl,rfl,rfl⟩))) (qy (qa2 qe qv2))) (V5 (Ξ:=Ξ) (i:=3) (j:=4) rfl nd rfl rfl rfl Wr Wr Wr Wr)) (qb (qI (zg (qE (Uc Ξ) (by rfl) N.isinstance vi (qa2 qv2 (xb (v:=.ty "tuple") (by rfl) N.tuple VE rfl)))) (qb (Y8 (i:=3) (j:=4) rfl nd rfl rfl (by decide) rfl rfl (qa2 qe (qh (Ub Ξ) qv2 qa (λ_ _=>rfl))) rfl) (qc (qI (qg op_eq (qh (Ub Ξ) qv2 qa (λ_ _=>rfl)) qe (qo _)) (qc (Y8 (i:=3) (j:=4) rfl nd rfl rfl (by decide) rfl rfl (qa2 (qh (Ua Ξ) (zd (zt hr) (qh (Ua Ξ) qv0 qa (λ_ _=>rfl)) (qh (Ub Ξ) qv2 qa (λ_ _=>rfl)) (λ_ _=>rfl)) qa (λ_ _=>rfl)) (zd (zt hr) qv1 (qh (Ub Ξ) qv2 qa (λ_ _=>rfl)) (λ_ _=>rfl))) rfl)) qt))) qt) (qb (vD (qf cF (Wh hr) (qa2 (qh (Ua Ξ) qv0 qa (λ_ _=>rfl)) qv3)) (Wb (Ξ:=Ξ) (i:=5) (j:=6) (k:=7) rfl nd rfl rfl rfl rfl Wr Wr Wr Wr Wr Wr)) (qc (qi (qm qH (qm jJ (qm vV qv4 (qm vO qa (qm vH (qh (Ub Ξ) (qh (Ua Ξ) qv0 qa (λ_ _=>rfl)) qa (λ_ _=>rfl)) qv6))) (qm vO qa qv6)) qv7))))),(qj (qM (q1Q (ct_b (jL .str (qk 2))) (ZU (qq (by right) (qq (q1c (qar (xi Wo Wi (xi Wo Wi (xi Wo Wi q25)))) (qk 2)) qK))) (by right)) (VC 3 4)) (qj (xh (ct_b (jL .tuple (qk 2))) (qj (qae (qq Wo (qq (QU (qk 2) Wi) qK))) (xh (by right) (qae (qq (jK (VD (jK (qk 0) Wi) (QU (qk 2) Wi)) Wi) (qq (VD (qk 1) (QU (qk 2) Wi)) qK))) vG)) vG) (by right)));rintro us M Qu ⟨w,g,d,o,c,k,tm,A,x,rfl,S,hk,hx,q⟩;have v:=Mc.vld S.O hx;have hb:=S.O.R.b;have mO:=S.O.R.n;have q:∀M',Frm M M' []->Qu (.p (.int ((A.kl x).2 % 2^(A.bits-(qW A.ms (A.kl x).1).2.1).toNat*2^(qW A.ms (A.kl x).1).2.1.toNat+(qW A.ms (A.kl x).1).2.2))) M':=q;have eV:=S.O.R.w _ v.k.mem;have cA:=vY (qW A.ms (A.kl x).1).1;have sV:=qO (qW A.ms (A.kl x).1).2.1.toNat;have mP:=q5c (s:=(qW A.ms (A.kl x).1).2.1) (by lia);have tail:∀(kd:Str)(ld:Int)(M':MM),A.kl x=(kd,ld)->Frm M M' []->IxS qB M' (.m w) (.p (.int 0)) λx M1=>PurS [x,.p (.str kd)] λts=>Zz ts λt=>T3S M1 (.p t) λa b c=>IxS qB M1 (.m w) (.p (.int 0)) λx M1=>IxS vI M1 x (.p (.int 0)) λx M1=>OpS (sI0 λx y=>.int (x-y)) M1 x b λy M2=>OpS (sI CPow λx y=>.int (x*2^y.toNat)) M2 (.p (.int 1)) y λy M2=>OpS (sI (λx j=>0<j) λx y=>.int (x % y)) M2 (.p (.int ld)) y λx M1=>OpS (sI CPow λx y=>.int (x*2^y.toNat)) M1 (.p (.int 1)) b λy M2=>OpS (sI CMul λx y=>.int (x*y)) M2 x y λx M1=>OpS (sI0 λx y=>.int (x+y)) M1 x c Qu:=λkd ld M' ek f=>by
  have S1:=S.frm f λi z=>nomatch z;have oC:(A.kl x).1=kd:=by rw[ek]
  have dJ:(A.kl x).2=ld:=by rw[ek]
  have vk:=v.k;rw[oC]at vk eV cA sV mP;rw[oC,dJ]at q;refine S1.ix (by rfl) ?_;symm;refine⟨A.bits,A.ms,kd,qW A.ms kd,rfl,by lia,vk,?_⟩;unfold jP;symm;refine S1.ix (by rfl) ?_;symm;rw[DN,DN];have hl:=D9 ld (RN (qO (A.bits-(qW A.ms kd).2.1).toNat));have cy:=D5 ld (qO (A.bits-(qW A.ms kd).2.1).toNat);have h61:=q5c (s:=A.bits-(qW A.ms kd).2.1) (by lia);exact⟨⟨by lia,by lia,by decide⟩,qO _,⟨by lia,by lia,by decide⟩,.inr ⟨by lia,by lia⟩,q M' f⟩
 cases x with
 |w y=>
  rcases InW.cs hx with⟨n,rfl⟩|⟨n,rfl⟩|⟨n,rfl⟩
  ·have e:rfT (.w ("small", n))=.int n:=rfl
   rw[e];left;exact tail _ _ M rfl .refl
  ·have e:rfT (.w ("sign", n))=.tup [.str "sign",.int n]:=rfl
   rw[e];left;exact tail _ _ M rfl .refl
  ·have e:rfT (.w ("one", n))=.str (three3.getD n.toNat "none"):=rfl
   rw[e];have h1:0<=n/\n<3:=⟨((InW.v hx).o (by dsimp only;decide)).1,(InW.v hx).t rfl⟩;left;simp only[q2P,q3u];left;refine⟨by simp,oneU,rfl,by show 3<=15;decide,?_⟩;have em:(M++[MO.dK []]).set M.length (MO.dK (xC [] oneU))=M++[.dK oneU]:=by simp;rfl
   rw[em];have f1:Frm M (M++[.dK oneU]) []:=⟨by simp,λi hi _=>De hi⟩;refine⟨M.length,oneU,rfl,by simp,?_⟩;left;refine⟨oneU,.inr (three3.getD n.toNat "none"),by simp,rfl,?_⟩;have ev:(valU oneU (.inr (three3.getD n.toNat "none"))).getD (.p .non)=.p (.int n):=by
    have hn:n=0\/n=1\/n=2:=by lia
    rcases hn with rfl|rfl|rfl<;>rfl
   rw[ev];left;exact tail _ _ _ rfl f1
 |t i=>
  have e:rfT (.t i)=.tup [.str "thing",.int (i:Int)]:=rfl;have hi:i∈A.od:=hx;obtain⟨j,ej,em⟩:=S.tb (S.O.b i hi);rw[e];left;refine S.ix (by rfl) ?_;left;refine S.dg ej ?_;left;refine zl (t:=.str (A.th i).kd) em (by cases A.th i<;>rfl) ?_;left;refine Ke hk (q2H hi) ?_;unfold nT;left;exact tail _ _ M rfl .refl
noncomputable abbrev kg:Stmt:=top 76
def JW:List U->MM->UK->Prop:=λus M Q=>∃(w g d o c k:Nat)(tm:List Nat)(A:Mc)(i:Nat),us=[.m w,.m k,.p (nT i)]/\Ow M w g d o c tm A/\M[k]?=some (.dK (plL A A.od))/\i∈A.od/\∀M',Frm M M' []->Q (.p (qC (A.tw i))) M'
theorem KC(F:Fun Ξ "_law_thing_words" "_law_thing_words" kg f fd)(N:Nms mg)(cr:Def P w Ξ mg base "_law_word" 2 ["own","places","ref"] (spU GJ))(b6:Def P w Ξ mg base "_law_limbs" 1 ["laying","n"] (spP J1)):FnOk P w Ξ mg base CX0 3 f fd ["own","places","i"] (spU JW):=by
 exists F.zU, ["own","places","i","thing","limbs"],qb (ql (i:=3) nd rfl Wr (zd (zt hr) (qh (Ua Ξ) qv0 qa (λ_ _=>rfl)) qv2 (λ_ _=>rfl))) (qb (qI (qg op_eq (qh (Ua Ξ) qv3 qa (λ_ _=>rfl)) qe (qo _)) (qc (qi (qA (qa3 qa (qf cr (Wh hr) (qa3 qv0 qv1 (qh (Ua Ξ) qv3 qa (λ_ _=>rfl)))) (qf cr (Wh hr) (qa3 qv0 qv1 (qh (Ua Ξ) qv3 qa (λ_ _=>rfl)))))))) qt) (qb (ql (i:=4) nd rfl Wr (qf b6 (Wh hr) (qa2 (qh (Ua Ξ) qv0 qa (λ_ _=>rfl)) (qh (Ua Ξ) qv3 qa (λ_ _=>rfl))))) (qc (qi (qm jb (qA (qa1 (qm qH (qm jJ qa (qE vJ (by rfl) N.len kY (qa1 qv4))) (qm jJ qa (vz kX (by rfl) N.int qaA (qa1 (ze xw (qh (Ua Ξ) qv3 qa (λ_ _=>rfl)) qa (qo _)))))))) qv4))))),(qj (by right) (qj (by right) (qj (by right) (vS (zu Wy (qap (qq (zu (by right) (by right) (zu (by right) (by right) (ZY X7 (by right)))) qK)) (qk 4))))));rintro us M Qu ⟨w,g,d,o,c,k,tm,A,i,rfl,S,hk,hi,q⟩;obtain⟨j,ej,em⟩:=S.tb (S.O.b i hi);have ht:=S.O.t i hi;have hb:=S.O.R.b;have nf:∀i∈([]:List Nat),i∉w::g::d::o::c::tm:=λi z=>nomatch z;have bz:k<M.length:=(Dc.mp hk).1;have gF:j<M.length:=(Dc.mp em).1;unfold nT;left;refine S.ix (by rfl) ?_;left;refine S.dg ej ?_;left;cases et:A.th i with
 |pr a b=>
  rw[et]at em ht;rw[show A.tw i=[1,A.wd a,A.wd b] by unfold Mc.tw;rw[et]]at q;refine zl em (by rfl) ?_;left;refine zl em (by rfl) ?_;left;refine⟨w,g,d,o,c,k,tm,A,a,rfl,S,hk,ht.1,λM1 f1=>?_⟩;left;refine zl ((f1.2 j gF λz=>nomatch z).trans em) (by rfl) ?_;left;refine⟨w,g,d,o,c,k,tm,A,b,rfl,S.frm f1 nf,(f1.2 k bz λz=>nomatch z).trans hk,ht.2,λM2 f2=>?_⟩;left;exact q M2 (f1.trans f2 λi z=>nomatch z)
 |far n=>
  rw[et]at em;rw[show A.tw i=xW A.bits n by unfold Mc.tw;rw[et]]at q;refine zl em (by rfl) ?_;left;refine S.ix (by rfl) ?_;left;refine zl em (by rfl) ?_;left;have iW:=q3j S.O hi et;refine⟨A.bits,A.ms,n,rfl,by lia,by lia,iW.mono (by decide),?_⟩;left;have hl:(zh A.bits n).length=lcnt A.bits n:=by unfold zh;rw[Dg,D2]
  rw[Dg,hl];refine⟨.inl (by decide),?_⟩;refine zl em (by rfl) ?_;left;have hc:=XJ iW (bits:=A.bits) (by lia) (by lia);refine⟨.inl (by decide),by rw[Uk];lia,?_⟩;have e:(4*(lcnt A.bits n:Int)+2*if n<0 then 1 else 0)=vT A.bits n:=by unfold vT;split<;>lia
  rw[e];exact q M .refl
noncomputable abbrev q39:Stmt:=top 77
theorem q0t:(["own","places","outside","i","ref"]:List Str).Nodup:=by decide+kernel
def GU:List U->MM->UK->Prop:=λus M Q=>∃(w g d o c:Nat)(tm:List Nat)(A:Mc),us=[.m w]/\Ow M w g d o c tm A/\∀M',Frm M M' []->Q (.p (.tup [qC A.ws,qC A.os])) M'
theorem WU(F:Fun Ξ "_law_image" "_law_image" q39 f fd)(cM:Def P w Ξ mg base "_law_places" 3 ["own"] (spU J0))(bt:Def P w Ξ mg base "_law_thing_words" 3 ["own","places","i"] (spU JW))(cr:Def P w Ξ mg base "_law_word" 2 ["own","places","ref"] (spU GJ)):FnOk P w Ξ mg base CX0 4 f fd ["own"] (spU GU):=by
 exists F.zU, ["own","places","outside","i"],qb (ql (i:=1) nd rfl Gj (qf cM (Wh hr) (qa1 qv0))) (qb (ql (i:=2) nd rfl Wr (qA zm)) (qb (z0 PassesOwn.never rfl (qY (Ξ:=Ξ) rfl (qh (Ua Ξ) qv0 qa (λ_ _=>rfl))) (vd (i:=3) nd rfl Wr) (qc (ql (i:=2) nd rfl Wr (qm jb qv2 (qf bt (Wh hr) (qa3 qv0 qv1 qv3)))))) (qc (qi (qy (qa2 (jO [true,true,false,false] ["ref"] (qY (Ξ:=Ξ) rfl (qh (Ua Ξ) qv0 qa (λ_ _=>rfl))) (λ_ _ _=>(vd (i:=4) q0t rfl Wr)) (λ_ _ _=>jm) (λ_ _ _=>(qf cr (Wh hr) (qa3 qv0 qv1 qv4)))) qv2))))));rintro us M Qu ⟨w,g,d,o,c,tm,A,rfl,S,q⟩;have nf:∀i∈([]:List Nat),i∉w::g::d::o::c::tm:=λi z=>nomatch z;have cR:=Mc.os_le S.O;symm;refine⟨w,g,d,o,c,tm,A,rfl,S,?_⟩;have f0:Frm M (M++[.dK (plL A A.od)]) []:=⟨by simp,λi hi _=>De hi⟩;have lf:(M++[MO.dK (plL A A.od)])[M.length]?=some (.dK (plL A A.od)):=by simp
 generalize M++[MO.dK (plL A A.od)]=M0 at f0 lf;have bz:M.length<M0.length:=(Dc.mp lf).1;symm;refine(S.frm f0 nf).ix (by rfl) ?_;symm;refine xN (S.frm f0 nf).o0 ?_;refine Jh (λi ρ M'=>Frm M0 M' []/\∃x3,ρ=[some (.m w),some (.m M.length),some (.p (qC ((A.od.take i).flatMap A.tw))),x3]) ⟨.refl,none,rfl⟩ ?_ ?_ ?_
 ·rintro i ρ M' ⟨f1,_⟩
  exact(S.frm (f0.trans f1 λi z=>nomatch z) nf).o0
 ·rintro i z ρ M' hz ⟨f1,x3,rfl⟩
  obtain⟨t,ht,rfl⟩:=q02 hz;obtain⟨j,hj,rfl⟩:=q02 ht;have dL:=Dh hj;symm;refine⟨w,g,d,o,c,M.length,tm,A,j,rfl,S.frm (f0.trans f1 λi z=>nomatch z) nf,(f1.2 _ bz λz=>nomatch z).trans lf,dL,λM2 f2=>?_⟩;symm;have cy:((A.od.take (i+1)).flatMap A.tw).length<=A.os.length:=by
   unfold Mc.os
   conv=>rhs;rw[<-Rs (i+1) A.od,DT,Dj]
   lia
  rw[qD hj,DT,Dj]at cy;simp only[Rv,List.flatMap_nil,DI]at cy;refine⟨by simp only[Dg];rw[Uk];lia,?_⟩;refine⟨f1.trans f2 (λi z=>nomatch z),some (.p (nT j)),?_⟩;rw[qD hj,DT];simp[qC]
 ·rintro ρ M' ⟨f1,x3,rfl⟩
  rw[Dg,Dg,DF];have f2:=f0.trans f1 λi z=>nomatch z;have S1:=S.frm f2 nf;symm;refine S1.ix (by rfl) ?_;symm;refine xN S1.g0 ?_;symm;refine xT (by rw[Dg,S.O.l8,Uk];lia) (λi a7 M2=>Frm M0 M2 []/\a7=((A.rg.take i).map A.wd).map T.int) ⟨f1,rfl⟩ ?_ ?_ ?_
  ·rintro i a7 M2 ⟨f3,_⟩
   exact(S.frm (f0.trans f3 λi z=>nomatch z) nf).g0
  ·rintro i t a7 M2 ht _ ⟨f3,rfl⟩
   obtain⟨x,hx,rfl⟩:=q02 ht;symm;refine⟨w,g,d,o,c,M.length,tm,A,x,rfl,S.frm (f0.trans f3 λi z=>nomatch z) nf,(f3.2 _ bz λz=>nomatch z).trans lf,S.O.g x (Dh hx),λM3 f4=>⟨_,rfl,f3.trans f4 (λi z=>nomatch z),?_⟩⟩;rw[qD hx,Dq,Dq];rfl
  ·rintro a7 M2 ⟨f3,rfl⟩
   rw[Dg,DF];symm;exact q M2 (f0.trans f3 λi z=>nomatch z)
structure Lf(n d:Nat)(t:T):Prop where
 sh:(toD t).showable=true
 ls:(toD t).leavesShort 200=true
 wt:(toD t).weight<=n
 dp:(toD t).depth<=d
theorem Lf.show(h:Lf n d t)(hn:n<=60000)(hd:d<=60):q06 t :=
 ⟨h.sh,DA h.dp hd,by
  have e:=PyData.shown_le 200 (by decide) _ h.ls;have:=h.wt;rw[Uk];lia⟩
theorem Lf.mono(h:Lf n d t)(hn:n<=m)(hd:d<=e):Lf m e t:=⟨h.sh,h.ls,DA h.wt hn,DA h.dp hd⟩
theorem Lf.alls:∀{ts:List T},(∀t∈ts,Lf n d t)->PyData.showableAll (toDs ts)=true/\PyData.leavesShortAll 200 (toDs ts)=true/\PyData.weightAll (toDs ts)<=ts.length*(n+1)/\PyData.depthAll (toDs ts)<=d
 | [],_=>⟨rfl,rfl,DG _,DG _⟩
 |t::ts,h=>by
  obtain⟨h1,h2,h3,h4⟩:=Lf.alls λt' ht=>h t' (DR _ ht);have ht:=h t (DH ..);refine⟨?_,?_,?_,?_⟩
  ·show((toD t).showable&&PyData.showableAll _)=true
   rw[ht.sh,h1];rfl
  ·show((toD t).leavesShort 200&&PyData.leavesShortAll 200 _)=true
   rw[ht.ls,h2];rfl
  ·show(toD t).weight+1+PyData.weightAll _<=_
   have:=ht.wt;rw[Dv,Nat.add_mul,Nat.one_mul];lia
  ·exact Nat.max_le.mpr ⟨ht.dp,h4⟩
theorem Lf.lst(h:∀t∈ts,Lf n d t):Lf (ts.length*(n+1)) (d+1) (.lst ts):=by
 obtain⟨h1,h2,h3,h4⟩:=Lf.alls h;exact⟨h1,h2,h3,Rn h4⟩
theorem Lf.tup(h:∀t∈ts,Lf n d t):Lf (ts.length*(n+1)) (d+1) (.tup ts):=by
 obtain⟨h1,h2,h3,h4⟩:=Lf.alls h;exact⟨h1,h2,h3,Rn h4⟩
theorem Lf.int(h:Bt k i)(hk:k<=590):Lf k 0 (.int i):=by
 have hl:i.natAbs=0\/i.natAbs.log2<k:=by
  by_cases hz:i.natAbs=0
  ·exact .inl hz
  ·exact .inr ((Nat.log2_lt hz).mpr h)
 have sW:i.natAbs<10^199:=Dx h (DA (Ra (by decide) hk) (by decide+kernel));have e:=int_text_length_le10 (by decide) sW;have es:=by
  show(Str.ofString (toString i)).length<=200;rw[PySem.ofString_length];exact e
 refine⟨Ux (hl.elim (λz=>by rw[z];decide) (λz=>by lia)),Ux es,?_,Dk _⟩;show(if i==0 then 0 else i.natAbs.log2+1)<=k;by_cases hz:i=0
 ·subst hz;exact DG _
 ·have:¬(i==0)=true:=by simpa using hz
  rw[Ui this];rcases hl with z|z
  ·exact absurd (Int.natAbs_eq_zero.mp z) hz
  ·exact z
theorem Lf.bl:Lf 64 0 (.bl b):=⟨rfl,rfl,DG _,Dk _⟩
theorem Lf.str(h1:(x.cps.toList.all λc=>decide (c<16^8))=true)(h2:x.cps.size<=64):Lf 64 0 (.str x):=⟨rfl,h1,h2,Dk _⟩
noncomputable abbrev q2x:Stmt:=top 80
def XY:List T->(T->Prop)->Prop:=λts Q=>∃t:T,ts=[t,t]/\q06 t/\Q (.bl true)
theorem WV(F:Fun Ξ "_law_alike" "_law_alike" q2x f fd)(dO:mg "repr" = none):FnOk P w Ξ mg base CX0 1 f fd ["found","due"] (spP XY):=by
 exists F.zP, ["found","due"],qc (qi (ze op_eq (qE (ZZ hr.gd hr.units) (by rfl) dO q37 (qa1 qv0)) (qE (ZZ hr.gd hr.units) (by rfl) dO q37 (qa1 qv1)) (qo _)));rintro ts Qt ⟨t,rfl,ht,q⟩;symm;rw[YV];refine⟨ht,?_⟩;rw[YV];refine⟨ht,?_⟩;symm;exact q
structure LfA(n d:Nat)(ts:List T):Prop where
 sh:PyData.showableAll (toDs ts)=true
 ls:PyData.leavesShortAll 200 (toDs ts)=true
 wt:PyData.weightAll (toDs ts)<=n
 dp:PyData.depthAll (toDs ts)<=d
theorem LfA.nil:LfA 0 d []:=⟨rfl,rfl,Dk _,DG _⟩
theorem LfA.cons(h:Lf n d t)(hs:LfA m d ts):LfA (n+1+m) d (t::ts):=by
 refine⟨?_,?_,?_,Nat.max_le.mpr ⟨h.dp,hs.dp⟩⟩
 ·show((toD t).showable&&PyData.showableAll _)=true
  rw[h.sh,hs.sh];rfl
 ·show((toD t).leavesShort 200&&PyData.leavesShortAll 200 _)=true
  rw[h.ls,hs.ls];rfl
 ·show(toD t).weight+1+PyData.weightAll _<=_
  have:=h.wt;have:=hs.wt;lia
theorem LfA.lst(h:LfA n d ts):Lf n (d+1) (.lst ts):=⟨h.sh,h.ls,h.wt,Rn h.dp⟩
theorem LfA.tup(h:LfA n d ts):Lf n (d+1) (.tup ts):=⟨h.sh,h.ls,h.wt,Rn h.dp⟩
theorem Lf.non:Lf 64 0 .non:=⟨rfl,rfl,DG _,Dk _⟩
theorem Vk(h:∀x∈l,Bt k x)(hk:k<=590):Lf (l.length*(k+1)) 1 (qC l):=by
 have:=Lf.lst λt ht=>by
  obtain⟨x,hx,rfl⟩:=DL.mp ht;exact Lf.int (h x hx) hk
 rw[Dg]at this;exact this
structure Mc.Sh(A:Mc):Prop where
 n:∀t∈A.tb,∀n,t=.far n->Bt 200 n
 q:A.qu=0
 l:A.sl=0
 w0:0<=A.sw
 w1:A.sw<=100000
namespace Mc
variable {A:Mc}
theorem q2B(O:A.Ok):(∀x∈A.ws,Bt 60 x)/\∀x∈A.os,Bt 60 x:=by
 have hb:=O.R.b;have p:(2:Int)^A.bits.toNat<=2^(60:Int).toNat:=Yq (by lia);have e6:(2:Int)^(60:Int).toNat=2^60:=rfl;have aD:∀x:Int,0<=x->x<2^A.bits.toNat->Bt 60 x:=λx h0 h1=>by
  show x.natAbs<2^60;lia
 refine⟨λx hx=>?_,λx hx=>?_⟩
 ·obtain⟨r,hr,rfl⟩:=DL.mp hx
  have:=q4Y O (O.g r hr);exact aD _ this.1 this.2
 ·have:=os_ok O x hx
  exact aD _ this.1 this.2
theorem sh_store(O:A.Ok)(h:A.Sh):q06 (.lst [qC A.ws,qC A.os,.int A.qu,.int A.sl,.int A.sw]):=by
 obtain⟨b1,b2⟩:=q2B O;have l8:A.ws.length=8:=by unfold ws;rw[Dg,O.l8]
 have h4:=os_le O;have w0:=h.w0;have w1:=h.w1;have i0:∀{x:Int},0<=x->x<=100000->Lf 60 1 (.int x):=λh0 h1=>(Lf.int (Bt.mono (n:=17) (show _<_ by lia) (by decide)) (by decide)).mono (Dk _) (by decide);have a1:=(Vk b1 (by decide)).mono (m:=500) (by rw[l8];decide) (Dk _);have a2:=(Vk b2 (by decide)).mono (m:=25000) (by lia) (Dk _);exact((LfA.cons a1 (LfA.cons a2 (LfA.cons (i0 (by rw[h.q];decide) (by rw[h.q];decide)) (LfA.cons (i0 (by rw[h.l];decide) (by rw[h.l];decide)) (LfA.cons (i0 w0 w1) LfA.nil))))).lst).show (by decide) (by decide)
theorem q8s(hx:A.RfOk x):Lf 500 1 (.str (A.kn x)):=by
 have:A.kn x = "number" \/ A.kn x = "pair" \/ A.kn x = "sign" \/ A.kn x = "one" := by
  cases x with
  |w u=>
   have hu:=hx;rcases InW.cs hu with⟨n,rfl⟩|⟨n,rfl⟩|⟨n,rfl⟩
   ·exact .inl rfl
   ·exact .inr (.inr (.inl rfl))
   ·exact .inr (.inr (.inr rfl))
  |t i=>
   show kS (A.th i).kd = "number" \/ kS (A.th i).kd = "pair" \/ kS (A.th i).kd = "sign" \/ kS (A.th i).kd = "one";cases A.th i with
   |far n=>exact .inl rfl
   |pr a b=>exact .inr (.inl rfl)
 rcases this with e|e|e|e<;>rw[e]<;>exact(Lf.str (by decide+kernel) (by decide+kernel)).mono (by decide) (by decide)
theorem q27(h:A.Sh)(hw:A.sw+1<=100000):A.swp.Sh:=⟨h.n,h.q,h.l,by show 0<=A.sw+1;have:=h.w0;lia,hw⟩
end Mc
noncomputable abbrev q5P:Stmt:=top 79
def q2I(C:Addr):List U->MM->UK->Prop:=λus M Q=>∃(s h kp:Nat)(A:Mc)(e:Dd),us=[.m s,.p e.t]/\StA C M s h kp A/\A.DOk e/\Go C M s h kp (A.act e).1 (Q (.p (A.act e).2.t))
theorem q3a{A:Mc}(h:(A.act e).2=.wk n):n=1:=by
 have fi:∀z,(fin z).2=.wk n->n=1:=λz h=>by unfold fin at h;lia
 cases e with
 |num r m=>exact fi _ h
 |sign r k=>cases h
 |copy r q=>cases h
 |pair r q p=>exact fi _ h
 |get b r q=>
  have h:(A.getO b r _).2=.wk n:=h;unfold Mc.getO at h
  lia
 |set b q p=>
  have h:(A.setO b _ _).2=.wk n:=h;unfold Mc.setO at h
  lia
 |same q p=>cases h
 |kind q=>cases h
 |sweep=>cases h
theorem q1W{C CN CR CW g:Addr}(F:Fun Ξ "_law_done" "_law_done" q5P f fd)(cN:ExcC Ξ mg "Nought" CN)(aU:ExcC Ξ mg "NoRoom" CR)(CWk:ExcK Ξ CW g)(lg:NoAttr Ξ CW "part")(gI:mg "WrongKind" = some (.ref CW))(cc:mg "Nought" = some (.ref CN))(cO:mg "NoRoom" = some (.ref CR))(EWk_Wk:W.exmOne Ξ (.ref CW) (.ref CW)=some true)(ENought_Wk:W.exmOne Ξ (.ref CN) (.ref CW)=some false)(ENought_Nought:W.exmOne Ξ (.ref CN) (.ref CN)=some true)(ENoRoom_Wk:W.exmOne Ξ (.ref CR) (.ref CW)=some false)(ENoRoom_Nought:W.exmOne Ξ (.ref CR) (.ref CN)=some false)(ENoRoom_NoRoom:W.exmOne Ξ (.ref CR) (.ref CR)=some true)(c5:DefX P w Ξ mg base "_law_deed_done" 10 ["store","deed"] (spX mg (q2E C))):FnOk P w Ξ mg base CX0 11 f fd ["store","deed"] (spU (q2I C)):=by
 exists F.zU, ["store","deed","word","value","e"],qb (ql (i:=2) nd rfl Wr qe)
  (qb (ql (i:=3) nd rfl Wr vN)
  (qb (q79 (l:=[("WrongKind", _),("Nought", _),("NoRoom", _)]) ⟨rfl,rfl,rfl,rfl⟩ (λ_ _=>
   (vB (q5Q (i:=3) nd rfl (.inl rfl) (Y4 c5 (Wh hr) (qa_c (qv 0) (qa_c (qv 1) zm))))))
   (XQ gI (λ_=>(q8m (i:=4) (j:=2) (k:=3) ⟨rfl,rfl,rfl,rfl⟩ CWk lg gI EWk_Wk nd rfl rfl rfl (by decide) (by decide) rfl rfl rfl)) (XQ cc (λ_=>(Xv gI ENought_Wk (q2e cN.b ENought_Nought (λ_=>(qc (ql (i:=2) nd rfl Wr qe)))))) (XQ cO (λ_=>(Xv gI ENoRoom_Wk (Xv cc ENoRoom_Nought (q2e aU.b ENoRoom_NoRoom (λ_=>(qc (ql (i:=2) nd rfl Wr qe))))))) q7m))))
  (qc (qi (qy (qa_c (qv 2) (qa_c (qv 3) zm))))))),(qj (qM Wo (qF 2))
   (qj (qM (ce_c .non) (qF 3))
   (qj (q70 (q58 (G7 (qq (qk 0) (qq (qk 1) qK)))) (Xa (λ_=>q8y) (Xa (λ_=>(qM Wo (qF 2))) (Xa (λ_=>(qM Wo (qF 2))) q6w))))
   (vS (ZU (qq (qk 2) (qq (qk 3) qK)))))))
 rintro us M Qu ⟨s,h,kp,A,e,rfl,S,hd,g⟩;left;refine⟨s,h,kp,A,e,rfl,S,hd,λM' h' bA f a b S'=>?_⟩;have q:=g M' h' bA f a b S';cases ee:(A.act e).2 with
 |ok t=>
  rw[ee]at q;unfold OcG;left;exact q
 |wk n=>
  have:=q3a ee;subst this;rw[ee]at q;refine⟨_,_,_,_,rfl,rfl,rfl,_,rfl,?_⟩;left;exact⟨by decide,q⟩
 |rm=>
  rw[ee]at q;refine⟨_,_,_,_,rfl,rfl,rfl,?_⟩;left;exact q
section
variable {C:Addr}{M M':MM}{s h kp:Nat}{A:Mc}{o:Nat}
theorem StA.frm(S:StA C M s h kp A)(f:Frm M M' F)(hF:∀i∈[s,h,kp],i∉F):StA C M' s h kp A:=by
 have l:=λ{i:Nat}{o:MO} (e:M[i]?=some o)=>(Dc.mp e).1;exact⟨S.O,(f.2 s (l S.S.s0) (hF s (by simp))).trans S.S.s0,(f.2 h (l S.S.h0) (hF h (by simp))).trans S.S.h0,(f.2 kp (l S.S.k0) (hF kp (by simp))).trans S.S.k0,S.S.sh,S.S.sk,S.S.hk⟩
theorem StA.lts(S:StA C M s h kp A):∀i∈[s,h,kp],i<M.length:=λi hi=>by
 have l:=λ{i:Nat}{o:MO} (e:M[i]?=some o)=>(Dc.mp e).1;simp at hi;rcases hi with rfl|rfl|rfl
 ·exact l S.S.s0
 ·exact l S.S.h0
 ·exact l S.S.k0
end
noncomputable abbrev Qp:Stmt:=top 81
def q2m(C:Addr):List U->MM->UK->Prop:=λus M Q=>∃(s h kp w g d o c:Nat)(tm:List Nat)(A:Mc),us=[.m s,.m w]/\StA C M s h kp A/\Ow M w g d o c tm A/\A.Sh/\∀M',Frm M M' []->Q (.p (.bl true)) M'
theorem q1i(F:Fun Ξ "_law_same_store" "_law_same_store" Qp f fd)(TP:q00 Ξ C)(a5:Cls Ξ C)(dB:Def P w Ξ mg base "_law_image" 4 ["own"] (spU GU))(ao:MDef P w Ξ mg base C "words" 1 ["self"] (spU (Vp C)))(ag:MDef P w Ξ mg base C "outside" 1 ["self"] (spU (q1r C)))(bO:Def P w Ξ mg base "_law_alike" 1 ["found","due"] (spP XY)):FnOk P w Ξ mg base CX0 5 f fd ["store","own"] (spU (q2m C)):=by
 exists F.zU, ["store","own","words","outside","found"],qb (vD (qf dB (Wh hr) (qa1 qv1)) (V5 (Ξ:=Ξ) (i:=2) (j:=3) rfl nd rfl rfl rfl Wr Wr Wr Wr)) (qb (ql (i:=4) nd rfl Wr (qA (qa_c (zy ao a5 qv0 (Wh hr)) (qa4 (zy ag a5 qv0 (Wh hr)) (qG qv0 rfl) (qG qv0 rfl) (qG qv0 rfl))))) (qc (qi (qf bO (Wh hr) (qa2 qv4 (qm jb (qA (qa2 qv2 qv3)) (qh (Ua Ξ) qv1 qa (λ_ _=>rfl))))))));rintro us M Qu ⟨s,h,kp,w,g,d,o,c,tm,A,rfl,S,W,hs,q⟩;symm;refine⟨w,g,d,o,c,tm,A,rfl,W,λM1 f1=>?_⟩;have S1:=S.frm f1 λi _ z=>nomatch z;have W1:=W.frm f1 λi z=>nomatch z;symm;refine mS S1 (by rfl) ?_;symm;refine⟨s,h,kp,A,rfl,S1,?_⟩;symm;refine mS S1 (by rfl) ?_;symm;refine⟨s,h,kp,A,rfl,S1,?_⟩;symm;refine zq TP.c TP.n5 S1.S.s0 (by rfl) ?_;symm;refine zq TP.c TP.n6 S1.S.s0 (by rfl) ?_;symm;refine zq TP.c TP.n7 S1.S.s0 (by rfl) ?_;symm;refine W1.ix (by rfl) ?_;symm;refine q2Y rfl (Xj W1.c0) ?_;symm;refine⟨by rw[Uk];show 2+3<=_;decide,?_⟩;symm;exact⟨_,rfl,Mc.sh_store S.O hs,q M1 f1⟩
namespace Mc
variable {A:Mc}
theorem q7n(h:A.Sh)(hw:A.sw+1<=100000):(A.mk' n).Sh/\(A.mk' n).sw<=A.sw+1:=by
 unfold mk';split
 ·exact⟨q27 h hw,RK _⟩
 ·lia
theorem q2W(h:A.Sh)(ht:∀n,t=.far n->Bt 200 n):(A.lay r t).Sh:=⟨λu hu n e=>by
 rcases Dr.mp hu with z|z
 ·exact h.n u z n e
 ·rw[Dm.mp z]at e;exact ht n e,h.q,h.l,h.w0,h.w1⟩
theorem put_sh(h:A.Sh):(A.put r x).Sh:=⟨h.n,h.q,h.l,h.w0,h.w1⟩
theorem act_sh(h:A.Sh)(hw:A.sw+1<=100000)(hd:A.DOk e):(A.act e).1.Sh/\(A.act e).1.sw<=A.sw+1/\(A.act e).1.tb.length<=A.tb.length+1:=by
 have hn:=h.n;have ll:∀(B:Mc) r t,B.tb=A.tb->(B.lay r t).tb.length<=A.tb.length+1:=λB r t e=>by
  show(B.tb++[t]).length<=_
  grind
 cases e with
 |num r n=>
  show(A.num r n).1.Sh/\(A.num r n).1.sw<=_/\(A.num r n).1.tb.length<=_;obtain⟨m1,m2⟩:=q7n h hw (n:=lcnt A.bits n+1);unfold num;split
  ·exact⟨put_sh h,by show A.sw<=_;lia,by show A.tb.length<=_;lia⟩
  split
  ·lia
  split
  ·exact⟨q2W m1 λk e=>by cases e;exact hd.2,m2,ll _ _ _ mk_tb⟩
  ·exact⟨m1,m2,by rw[mk_tb];lia⟩
 |sign r k=>exact⟨put_sh h,by show A.sw<=_;lia,by show A.tb.length<=_;lia⟩
 |same q p=>exact⟨h,by show A.sw<=_;lia,by show A.tb.length<=_;lia⟩
 |kind q=>exact⟨h,by show A.sw<=_;lia,by show A.tb.length<=_;lia⟩
 |sweep=>exact⟨q27 h hw,RK _,by show A.tb.length<=_;lia⟩
 |copy r q=>exact⟨put_sh h,by show A.sw<=_;lia,by show A.tb.length<=_;lia⟩
 |pair r q p=>
  show(A.prd r _ _).1.Sh/\(A.prd r _ _).1.sw<=_/\(A.prd r _ _).1.tb.length<=_;obtain⟨m1,m2⟩:=q7n h hw;unfold prd;split
  ·exact⟨q2W m1 (λk e=>by cases e),m2,ll _ _ _ mk_tb⟩
  ·exact⟨m1,m2,by rw[mk_tb];lia⟩
 |get b r q=>
  show(A.getO b r _).1.Sh/\(A.getO b r _).1.sw<=_/\(A.getO b r _).1.tb.length<=_;unfold getO;split
  ·lia
  ·exact⟨put_sh h,by show A.sw<=_;lia,by show A.tb.length<=_;lia⟩
 |set b q p=>
  show(A.setO b _ _).1.Sh/\(A.setO b _ _).1.sw<=_/\(A.setO b _ _).1.tb.length<=_;unfold setO;split
  ·lia
  ·refine⟨⟨λt ht n e=>?_,h.q,h.l,h.w0,h.w1⟩,by show A.sw<=_;lia,by show(A.tb.set _ _).length<=_;simp_all⟩
   rcases Ry ht with z|z<;>grind
theorem oc_sh(O:A.Ok)(hd:A.DOk e):q06 (A.act e).2.t:=by
 have i1:Lf 60 1 (.int 1):=(Lf.int (by unfold Bt;decide) (by decide)).mono (Dk _) (by decide);have s0:∀{x:Str},x∈(["","WrongKind","NoRoom"]:List Str)->Lf 64 1 _:=λ{x} hx=>by
  simp at hx;rcases hx with rfl|rfl|rfl<;>exact(Lf.str rfl (by decide+kernel)).mono (Dk _) (by decide)
 have n1:Lf 500 1 .non:=Lf.non.mono (by decide) (by decide);have nj:∀{x:Str}{t:T},x∈_->Lf 500 1 t->q06 _:=λhx ht=>((LfA.cons (s0 hx) (LfA.cons ht LfA.nil)).tup).show (by decide) (by decide);have aD:∀o:Oc,(∀t,o=.ok t->Lf 500 1 t)->(∀n,o=.wk n->n=1)->q06 o.t:=λo h1 h2=>by
  cases o with
  |ok t=>exact nj (by simp) (h1 t rfl)
  |wk n=>rw[h2 n rfl];exact nj (by simp) (i1.mono (by decide) (Dk _))
  |rm=>exact nj (by simp) n1
 refine aD _ (λt h=>?_) λn h=>q3a h;have fi:∀z,(fin z).2=.ok t->t=.non:=λz h=>by unfold fin at h;lia
 have no:t=.non->Lf 500 1 t:=λe=>e▸n1;cases e with
 |num r m=>exact no (fi _ h)
 |sign r k=>cases h;exact n1
 |copy r q=>cases h;exact n1
 |pair r q p=>exact no (fi _ h)
 |get b r q=>
  have h:(A.getO b r _).2=.ok t:=h;unfold getO at h;exact no (by lia)
 |set b q p=>
  have h:(A.setO b _ _).2=.ok t:=h;unfold setO at h;exact no (by lia)
 |same q p=>cases h;exact Lf.bl.mono (by decide) (by decide)
 |kind q=>cases h;exact q8s (rf_ok O hd)
 |sweep=>cases h;exact n1
end Mc
noncomputable def imT(A:Mc):T:=.tup [layT A.bits A.ms,.int A.room,qC A.ws,qC A.os]
noncomputable abbrev JD:Stmt:=top 50
def J6(C:Addr):List U->MM->UK->Prop:=λus M Q=>∃(s h kp:Nat)(A:Mc),us=[.m s]/\StA C M s h kp A/\Q (.p (imT A)) M
theorem KJ(F:Fun Ξ "image_of" "image_of" JD f fd)(TP:q00 Ξ C)(a5:Cls Ξ C)(aO:Def P w Ξ mg base "own_laying" 1 ["laying"] (spP js))(ao:MDef P w Ξ mg base C "words" 1 ["self"] (spU (Vp C)))(ag:MDef P w Ξ mg base C "outside" 1 ["self"] (spU (q1r C))):FnOk P w Ξ mg base CX0 3 f fd ["store"] (spU (J6 C)):=by
 exists F.zU, ["store"],qc (qi (qy (qa4 (qf aO (Wh hr) (qa1 (qG qv0 rfl))) (qG qv0 rfl) (zy ao a5 qv0 (Wh hr)) (zy ag a5 qv0 (Wh hr)))));rintro us M Qu ⟨s,h,kp,A,rfl,S,q⟩;symm;refine xf TP S ?_;symm;refine⟨A.bits,A.ms,rfl,?_⟩;refine YR TP S ?_;refine mS S rfl ?_;refine⟨s,h,kp,A,rfl,S,?_⟩;refine mS S rfl ?_;refine⟨s,h,kp,A,rfl,S,?_⟩;symm;exact q
noncomputable def Mc.zero(A:Mc):Mc:={ A with qu:=0,sl:=0,sw:=0 }
theorem Mc.ok_zero{A:Mc}(O:A.Ok):A.zero.Ok:=⟨O.R,O.l8,O.g,O.d,O.b,O.t,O.f,O.m⟩
noncomputable abbrev Jw:Stmt:=top 48
def JX(C:Addr):List U->MM->UK->Prop:=λus M Q=>∃A:Mc,us=[.p (layT A.bits A.ms),.p (.int A.room),.p (qC A.ws),.p (qC A.os)]/\A.Ok/\∀M' h kp,Frm M M' []->M.length<=h->M.length<=kp->StA C M' M.length h kp A.zero->Q (.m M.length) M'
theorem KD(F:Fun Ξ "store_of" "store_of" Jw f fd)(N:Nms mg)(TP:q00 Ξ C)(a5:Cls Ξ C)(c6:q0d P w Ξ mg base C "Store" 4 ["self","laying","room"] (spU (JZ C))):FnOk P w Ξ mg base CX0 6 f fd ["laying","room","words","outside"] (spU (JX C)):=by
 exists F.zU, ["laying","room","words","outside","store"],qb (ql (i:=4) nd rfl Wr (q7u c6 (Wh hr) rfl (qa2 qv0 qv1))) (qb (xa qv4 (vz vc (by rfl) N.list jl (qa1 qv2)) rfl) (qb (xa qv4 (vz vc (by rfl) N.list jl (qa1 qv3)) rfl) (qc (qi qv4)))),(qj (qM (qao (by right)) (qF 4)) (qj (ZR (qk 4) (j2 (qq (qk 2) qK))) (qj (ZR (qk 4) (j2 (qq (qk 3) qK))) (by right))));rintro us M Qu ⟨A,rfl,O,q⟩;have h0:0<=A.room:=by have:=O.f;unfold Mc.most kG min3 at this;lia
 symm;refine⟨_,A.bits,A.ms,A.room,rfl,by simp,O.R,h0,O.m,λM1 f1 S1 e1=>⟨rfl,?_⟩⟩;have e1:M1.length=M.length+3:=by rw[e1];simp
 have e2:(M++[MO.ins C []]).length=M.length+1:=by simp
 rw[e2]at S1;symm;simp only[Qd];symm;refine⟨_,_,rfl,.inl rfl,?_⟩;have s0:M1[M.length]?=some (.ins C (fldC A.bits A.ms A.room (M.length+1) (M.length+1+1) 0 0 0)):=S1.S.s0;have g1:∀x,(M1++[x])[M.length]?=some (.ins C (fldC A.bits A.ms A.room (M.length+1) (M.length+1+1) 0 0 0)):=λx=>(De (by lia)).trans s0;refine vF TP.c TP.n3 (g1 _) (by show 7<1000;decide) ?_;rw[V8];symm;simp only[Qd];symm;refine⟨_,_,rfl,.inl rfl,?_⟩;generalize e3:(M1++[MO.lst (List.map U.p (List.map T.int A.ws))]).set M.length (.ins C (fldC A.bits A.ms A.room M1.length (M.length+1+1) 0 0 0))=M2;have l2:M2.length=M1.length+1:=by rw[<-e3];simp
 have g2:(M2++[MO.lst (List.map U.p (List.map T.int A.os))])[M.length]?=some (.ins C (fldC A.bits A.ms A.room M1.length (M.length+1+1) 0 0 0)):=by rw[De (by lia), <-e3,Dn (by simp;lia)]
 refine vF TP.c TP.n4 g2 (by show 7<1000;decide) ?_;rw[V7];have k:∀(i:Nat) m,i≠M.length->((M2++[MO.lst (List.map U.p (List.map T.int A.os))]).set M.length m)[i]?=(M2++[MO.lst (List.map U.p (List.map T.int A.os))])[i]?:=λi m h=>Di (Ne.symm h);refine q _ M1.length M2.length ⟨by simp;lia,λi hi _=>?_⟩ (by lia) (by lia) ⟨Mc.ok_zero O,Dn (by simp;lia),?_,?_,by lia,by lia,by lia⟩
 ·rw[k i _ (by lia),De (by lia), <-e3,Di (by lia),De (by lia),f1.2 i (by simp;lia) (by simp;lia),De hi]
 ·rw[k _ _ (by lia),De (by lia), <-e3,Di (by lia)]
  simp;rfl
 ·rw[k _ _ (by lia)]
  simp;rfl
noncomputable abbrev jI:Stmt:=top 82
def q34:List U->MM->UK->Prop:=λus M Q=>∃(k:Nat)(o:MO),us=[.m k]/\M[k]?=some o/\BagO o/\∀(e:Dd)(o':MO),BagO o'->(∀A:Mc,A.DOk e)->Q (.p e.t) (M.set k o')
theorem q0W(F:Fun Ξ "_law_deed_of_pairs" "_law_deed_of_pairs" jI f fd)(am:Def P w Ξ mg base "_law_draw" 1 ["bag","many"] (spU XX)):FnOk P w Ξ mg base CX0 2 f fd ["bag"] (spU q34):=by
 exists F.zV, ["bag","r","q","p","kind"],qb (q4e (i:=1) (j:=2) (k:=3) rfl nd rfl rfl rfl (by decide) (by decide) (by decide) rfl rfl rfl (qa3 (qf am (Wh hr) (qa2 qv0 qa)) (qf am (Wh hr) (qa2 qv0 qa)) (qf am (Wh hr) (qa2 qv0 qa))) rfl) (qb (ql (i:=4) nd rfl Wr (qf am (Wh hr) (qa2 qv0 qa))) (qb (qI (qg xw qv4 qa (qo _)) (qc (qi (qy (qa4 qe qv1 qv2 qv3)))) qt) (qb (qI (qg xw qv4 qa (qo _)) (qc (qi (qy (qa4 qe qv1 qv1 qv1)))) qt) (qb (qI (qg xw qv4 qa (qo _)) (qc (qi (qy (qa3 (qh (Ua Ξ) (qA (qa2 qe qe)) (qm vV qv4 qa) (λ_ _=>rfl)) qv1 qv2)))) qt) (qb (qI (qg xw qv4 qa (qo _)) (qc (qi (qy (qa3 (qh (Ua Ξ) (qA (qa2 qe qe)) (qm vV qv4 qa) (λ_ _=>rfl)) qv2 qv3)))) qt) (qb (qI (qg xw qv4 qa (qo _)) (qc (qi (qy (qa3 (qh (Ua Ξ) (qA (qa2 qe qe)) (qm vV qv4 qa) (λ_ _=>rfl)) qv2 qv2)))) qt) (qb (qI (qg xw qv4 qa (qo _)) (qc (qi (qh (Ua Ξ) (qA (qa3 (qy (qa3 qe qv1 qv2)) (qy (qa3 qe qv2 qv3)) (qy (qa3 qe qv2 qv3)))) (qm vH qv4 qa) (λ_ _=>rfl)))) qt) (qc (qi (qh (Ua Ξ) (qA (qa4 (qy (qa3 qe qv1 (qf am (Wh hr) (qa2 qv0 (qm WB qa qa))))) (qy (qa3 qe qv1 qa)) (qy (qa1 qe)) (qy (qa2 qe qv2)))) (qm vH qv4 qa) (λ_ _=>rfl))))))))))),(qj (q57 (qq (zB (qq (qk 0) (qq Wi qK))) (qq (zB (qq (qk 0) (qq Wi qK))) (qq (zB (qq (qk 0) (qq Wi qK))) qK)))) (by right));rintro us M M1 Qu e1 ⟨k,o,rfl,em,hB,post⟩;obtain⟨bz,eM⟩:=VH em;rw[e1.trans eM];nofun;refine vC bz hB (by decide) (by decide) λr' o1 r0 r1 B1=>?_;obtain⟨r,rfl⟩:∃n:Nat,r'=n:=⟨r'.toNat,by lia⟩;refine vC bz B1 (by decide) (by decide) λq' o2 q0 q1 B2=>?_;obtain⟨q,rfl⟩:∃n:Nat,q'=n:=⟨q'.toNat,by lia⟩;refine vC bz B2 (by decide) (by decide) λp' o3 p0 p1 B3=>?_;obtain⟨p,rfl⟩:∃n:Nat,p'=n:=⟨p'.toNat,by lia⟩;nofun;refine vC bz B3 (by decide) (by decide) λa o4 a0 a1 B4=>?_;have fin:∀(o:MO)(e:Dd)(t:T),BagO o->t=e.t->(∀A:Mc,A.DOk e)->zR M (MB M k o [])/\Qu (.p t) ((MB M k o []).take M.length):=λo e t B ht hd=>⟨VF B.pur,by rw[VG,ht];exact post e o B hd⟩;have dC:∀(o:MO)(e:Dd)(t:T),BagO o->t=e.t->(∀A:Mc,A.DOk e)->zR M (MB M k o [])/\∃t',frzB M.length 4 (MB M k o []) (.p t)=some t'/\Qu (.p t') ((MB M k o []).take M.length):=λo e t B ht hd=>⟨(fin o e t B ht hd).1,_,GW,(fin o e t B ht hd).2⟩;have fo:r<8:=by lia
 have dU:q<8:=by lia
 have iC:p<8:=by lia
 nofun;refine ite2 (λz1=>?_) (λz1=>?_)
 ·exact fin o4 (.pair r q p) _ B4 rfl (λ_=>⟨fo,dU,iC⟩)
 nofun;refine ite2 (λz2=>?_) (λz2=>?_)
 ·exact fin o4 (.pair r r r) _ B4 rfl (λ_=>⟨fo,fo,fo⟩)
 nofun;refine ite2 (λz3=>?_) (λz3=>?_)
 ·refine⟨by decide,?_⟩
  rcases(show a % 2=0\/a % 2=1 by lia)with z|z<;>rw[z]
  ·exact qR rfl (by nofun;exact fin o4 (.get true r q) _ B4 rfl (λ_=>⟨fo,dU⟩))
  ·exact qR rfl (by nofun;exact fin o4 (.get false r q) _ B4 rfl (λ_=>⟨fo,dU⟩))
 nofun;refine ite2 (λz4=>?_) (λz4=>?_)
 ·refine⟨by decide,?_⟩
  rcases(show a % 2=0\/a % 2=1 by lia)with z|z<;>rw[z]
  ·exact qR rfl (by nofun;exact fin o4 (.set true q p) _ B4 rfl (λ_=>⟨dU,iC⟩))
  ·exact qR rfl (by nofun;exact fin o4 (.set false q p) _ B4 rfl (λ_=>⟨dU,iC⟩))
 nofun;refine ite2 (λz5=>?_) (λz5=>?_)
 ·refine⟨by decide,?_⟩
  rcases(show a % 2=0\/a % 2=1 by lia)with z|z<;>rw[z]
  ·exact qR rfl (by nofun;exact fin o4 (.set true q q) _ B4 rfl (λ_=>⟨dU,dU⟩))
  ·exact qR rfl (by nofun;exact fin o4 (.set false q q) _ B4 rfl (λ_=>⟨dU,dU⟩))
 nofun;refine ite2 (λz6=>?_) (λz6=>?_)
 ·rcases(show a-19=0\/a-19=1\/a-19=2 by lia)with z|z|z<;>rw[z]
  ·exact qR rfl (dC o4 (.copy r q) _ B4 rfl (λ_=>⟨fo,dU⟩))
  ·exact qR rfl (dC o4 (.same q p) _ B4 rfl (λ_=>⟨dU,iC⟩))
  ·exact qR rfl (dC o4 (.same q p) _ B4 rfl (λ_=>⟨dU,iC⟩))
 nofun;refine⟨⟨by decide,by decide,by decide⟩,?_⟩;refine vC bz B4 (by decide+kernel) (by decide+kernel) λx o5 x0 x1 B5=>?_;have hx:Bt 200 x:=Bt.nonneg_le (j:=_) (by unfold Bt;decide+kernel) x0 (BC x1);nofun;rcases(show a-22=0\/a-22=1\/a-22=2\/a-22=3 by lia)with z|z|z|z<;>rw[z]
 ·exact qR rfl (dC o5 (.num r x) _ B5 rfl (λ_=>⟨fo,hx⟩))
 ·exact qR rfl (dC o5 (.sign r 5) _ B5 rfl (λ_=>⟨fo,by decide,by decide⟩))
 ·exact qR rfl (dC o5 .sweep _ B5 rfl (λ_=>True.intro))
 ·exact qR rfl (dC o5 (.kind q) _ B5 rfl (λ_=>dU))
def YB(Ξ:PySem.W.Frag):Sp:=λvs H Q _=>∃(a:Addr)(ns:List Int),vs=[.ref a]/\SqL Ξ H a (ns.map V.int)/\ns.length<=63/\∀H',Q (.bl true) H'
theorem q3t{st:Stmt}(F:Fun Ξ "law" "law" st f fd)(S:q01 N ["script"] (qw st))(hN:2<=N.length)(aC:∀(ap:Value)(A:Around)(outer:List Env)(s:Shared)(H:Hp)(E:XK),Room k (A.deeper (envOfC "law" (qw st) s.heap.objs.size f ap)) ->
   ∃tR,QSs (cxOf CX0 P w Ξ mg base N "law" (qw st) f ap A outer s H E).nox (vg st) (tSeq (tAsg (zW (q3A Ξ) [] E0 (vW (tVar 0) tNil)) (qJ 1)) tR)/\∃uR,ZS tR uR/\∀o,BagO o->uR { nx:=λ_ _=>False,rt:=λz _=>z=.p (.bl true) } (none::some (.m 0)::List.replicate (N.length-2) none) [o]):FnOk P w Ξ mg base CX0 (k+1) f fd ["script"] (YB Ξ):=by
 refine F.okQ S (λvs H Q E h=>?_) (λap A outer s H vs Q E hr h=>?_)
 ·obtain⟨_,_,rfl,_⟩:=h
  rfl
 ·obtain⟨a,ns,rfl,hS,au,k⟩:=h
  obtain⟨tR,hT,uR,hU,hq⟩:=aC ap A outer s H E hr;refine⟨_,hT,?_⟩;have sX:L2.start N [.ref a]=some (.ref a)::none::List.replicate (N.length-2) none:=by
   unfold L2.start;obtain⟨m,hm⟩:∃m,N.length=m+2:=⟨N.length-2,by lia⟩;rw[hm];rfl
  rw[sX];simp only[tSeq,tAsg,zW,vW,tNil,tVar,Rb,Option.some.injEq,exists_eq_left'];refine⟨a,ns,rfl,hS,au,λb H1 hb s1 B1=>?_⟩;obtain⟨c,ns',i,a',cS,n,iL,iG,r⟩:=id B1.ex;have mC:=qaz iL iG;obtain⟨o,iD,ro,_⟩:=Kn (A:=λ_=>False) (ι:=[b]) B1 ⟨_,iL⟩ (λz=>z.elim id λz=>mC (by simpa using z));have w1:L2.Wd _ [b] H1 [o]:=⟨by simp,rfl,λx hx=>hx.elim,λx _ z=>z,λk a2 o2 e1 e2=>by
   match k,e1,e2 with
   |0,e1,e2=>cases e1;cases e2;exact ro
   |k+1,e1,_=>simp at e1⟩
  have env:EnvR (λ_=>False) [b] H1 (some (.ref a)::some (.ref b)::List.replicate (N.length-2) none) (none::some (.m 0)::List.replicate (N.length-2) none):=by
   refine .cons (λu e=>by cases e) (.cons (λu e=>by cases e;exact⟨_,rfl,.m rfl⟩) ?_);generalize N.length-2=m
   induction m with
   |zero=>exact .nil
   |succ m ih=>exact .cons (λu e=>by cases e) ih
  refine hU.h _ [b] _ H1 _ [o] _ { nx:=λ_ _=>False,rt:=λz _=>z=.p _ } w1 env ⟨λ_ _ _ _ _ _ _ _ q=>q.elim,λι v H2 u M _ _ ru q=>?_,λ_ _ _ _ _ _ _ _ q=>q.elim,λ_ _ _ _ _ _ _ _ q=>q.elim⟩ (hq o iD);subst q;cases ru with
  |p r=>cases r;exact k H2
theorem q3O(B:BagO o)(h0:0<aS)(h1:aS.natAbs.log2<9000)(q:∀(aR:Int)(o':MO),0<=aR->aR<aS->BagO o'->Q (.p (.int aR)) (o'::L)):XX [.m 0,.p (.int aS)] (o::L) Q :=
 ⟨0,o,aS,rfl,rfl,B,h0,h1,λf o' f0 f1 B'=>q f o' f0 f1 B'⟩
theorem q7e(h:X.K=Ξ)(hN:X.N.Nodup)(hc:X.calm=true)(hi:X.N[i]?=some x)(hj:X.N[j]?=some y)(hk:X.N[k]?=some z)(hl:X.N[l]?=some u)(lx:Loc X.env.scope x)(ly:Loc X.env.scope y)(lz:Loc X.env.scope z)(lu:Loc X.env.scope u)(fx:X.fn x=true\/X.env.scope.names.lookup x=some .local)(fy:X.fn y=true\/X.env.scope.names.lookup y=some .local)(fz:X.fn z=true\/X.env.scope.names.lookup z=some .local)(fu:X.fn u=true\/X.env.scope.names.lookup u=some .local):QG X (.Tuple [.Name x px,.Name y py,.Name z pz,.Name u pu] kk pos) (gTup Ξ 4 (vb (qJ i) (vb (qJ j) (vb (qJ k) (vb (qJ l) gNil))))):=
 h▸⟨Wp hc (zi (zD hN hi lx fx) (zi (zD hN hj ly fy) (zi (zD hN hk lz fz) (zi (zD hN hl lu fu) Xz))))⟩
theorem qal(i j l m:Nat)(h:zw bs n i=true:=by rfl)(h2:zw bs n j=true:=by rfl)(h3:zw bs n l=true:=by rfl)(h4:zw bs n m=true:=by rfl):ZX bs n (gTup Ξ 4 (vb (qJ i) (vb (qJ j) (vb (qJ l) (vb (qJ m) gNil))))) (q2l i j l m):=⟨λA ι σ H ρ M v u Qu Q hl w e r ⟨a,b,c,d,ei,q⟩ k=>by
 obtain⟨p,vs,rfl,h1,hh⟩:=zk w r ei;obtain⟨x,y,z,t,rfl,r1,r2,r3,r4⟩:=rep4 hh;exact⟨p, [x,y,z,t],rfl,SqT.of h1,rfl,_,_,rfl,_,_,rfl,_,_,rfl,_,_,rfl,rfl,k _ _ ((((e.put i r1).put j r2).put l r3).put m r4) (((((ExtS.refl _).put (v7 hl h)).put (v7 hl h2)).put (v7 hl h3)).put (v7 hl h4)) (by simp) q⟩⟩
theorem layL(B:BagO o)(q:∀(o':MO)(bits:Int)(ms:List Mk3),BagO o'->Right bits ms->Q (.p (layT bits ms)) (o'::L)):XW [.m 0] (o::L) Q :=
 ⟨0,o,rfl,rfl,B,λo' bits ms B' R=>q o' bits ms B' R⟩
structure All3(C:Addr)(M:MM)(s h kp w g d o c:Nat)(tm:List Nat)(A:Mc):Prop where
 b:∃o,M[0]?=some o/\BagO o
 S:StA C M s h kp A
 W:Ow M w g d o c tm A
 dj:∀i∈[s,h,kp],i∉w::g::d::o::c::tm
 n0:0∉s::h::kp::w::g::d::o::c::tm
 hs:A.Sh
section
variable {C:Addr}{M:MM}{s h kp w g d o c:Nat}{tm:List Nat}{A:Mc}
theorem All3.bag(T:All3 C M s h kp w g d o c tm A){b:MO}(hb:BagO b):All3 C (M.set 0 b) s h kp w g d o c tm A:=by
 have l0:0<M.length:=by obtain⟨o,e,_⟩:=T.b;exact(Dc.mp e).1
 have f:Frm M (M.set 0 b) [0]:=zf (by simp);refine⟨⟨b,Dn l0,hb⟩,T.S.frm f λi hi z=>T.n0 ?_,T.W.frm f λi hi z=>T.n0 ?_,T.dj,T.n0,T.hs⟩
 ·grind
 ·have e:=by simpa using hi
  subst e;exact .tail _ (.tail _ (.tail _ z))
end
section
variable {C:Addr}{M M':MM}{s h kp w g d o c:Nat}{tm:List Nat}{A B:Mc}
theorem All3.go2(T:All3 C M s h kp w g d o c tm A)(hs:B.Sh)(f:Frm M M' (s::h::kp::w::g::d::o::c::tm))(b:∀i∈s::h'::bA::w::g'::d'::o'::c'::bY,i∈s::h::kp::w::g::d::o::c::tm\/M.length<=i)(dj:∀i∈[s,h',bA],i∉w::g'::d'::o'::c'::bY)(S:StA C M' s h' bA B)(W:Ow M' w g' d' o' c' bY B):All3 C M' s h' bA w g' d' o' c' bY B:=by
 obtain⟨bo,e,hb⟩:=T.b;have l0:=(Dc.mp e).1;exact⟨⟨bo,(f.2 0 l0 T.n0).trans e,hb⟩,S,W,dj,λz=>(b 0 z).elim T.n0 λy=>by lia,hs⟩
end
section
variable {C:Addr}{M M' M1 M2:MM}{s h kp w g d o c h2 cI g1 d1 o1 c1:Nat}{tm c8:List Nat}{A B:Mc}
theorem All3.deed(T:All3 C M s h kp w g d o c tm A)(hs:B.Sh)(f1:Frm M M1 (w::g::d::o::c::tm))(b1:∀i∈w::g1::d1::o1::c1::c8,i∈w::g::d::o::c::tm\/M.length<=i)(W1:Ow M1 w g1 d1 o1 c1 c8 B)(f2:Frm M1 M2 [s,h,kp])(n1:Nw M1 h h2)(n2:Nw M1 kp cI)(S2:StA C M2 s h2 cI B):All3 C M2 s h2 cI w g1 d1 o1 c1 c8 B/\Frm M M2 (s::h::kp::w::g::d::o::c::tm)/\∀i∈s::h2::cI::w::g1::d1::o1::c1::c8,i∈s::h::kp::w::g::d::o::c::tm\/M.length<=i:=by
 have ls:=T.S.lts;have sY:=W1.lt;have l1:=f1.1;unfold Nw at n1 n2;have lj:∀i∈[s,h,kp],i∉w::g1::d1::o1::c1::c8:=λi hi z=>(b1 i z).elim (T.dj i hi) λy=>by have:=ls i hi;lia
 have nk:∀i∈[s,h2,cI],i∉w::g1::d1::o1::c1::c8:=λi hi z=>by
  have hz:=sY i z;simp at hi
  grind
 have f:Frm M M2 (s::h::kp::w::g::d::o::c::tm):=(f1.mono λi hi=>.tail _ (.tail _ (.tail _ hi))).trans f2 λi hi=>.inl (by grind);have b:∀i∈s::h2::cI::w::g1::d1::o1::c1::c8,i∈s::h::kp::w::g::d::o::c::tm\/M.length<=i:=λi hi=>by
  simp at hi;rcases hi with y|y|y|hi
  ·exact .inl (by rw[y];exact .head _)
  ·rcases n1 with z|z
   ·exact .inl (by rw[y,z];exact .tail _ (.head _))
   ·exact .inr (by lia)
  ·rcases n2 with z|z
   ·exact .inl (by rw[y,z];exact .tail _ (.tail _ (.head _)))
   ·exact .inr (by lia)
  ·exact(b1 i (by simp;exact hi)).imp (λz=>.tail _ (.tail _ (.tail _ z))) id
 exact⟨T.go2 hs f b nk S2 (W1.frm f2 λi hi z=>lj i hi z),f,b⟩
theorem All3.deed2(T:All3 C M s h kp w g d o c tm A)(hs:B.Sh)(f1:Frm M M1 [s,h,kp])(n1:Nw M h h2)(n2:Nw M kp cI)(S1:StA C M1 s h2 cI B)(f2:Frm M1 M2 (w::g::d::o::c::tm))(b2:∀i∈w::g1::d1::o1::c1::c8,i∈w::g::d::o::c::tm\/M1.length<=i)(W2:Ow M2 w g1 d1 o1 c1 c8 B):All3 C M2 s h2 cI w g1 d1 o1 c1 c8 B:=by
 have lw:=T.W.lt;have sZ:=S1.lts;have l1:=f1.1;unfold Nw at n1 n2;have lj:∀i∈[s,h2,cI],i∉w::g::d::o::c::tm:=λi hi z=>by
  have hz:=lw i z;simp at hi;rcases hi with rfl|rfl|rfl
  ·exact T.dj _ (by simp) z
  ·rcases n1 with y|y
   ·exact T.dj _ (by simp[y]) z
   ·lia
  ·rcases n2 with y|y
   ·exact T.dj _ (by simp[y]) z
   ·lia
 have nk:=λi hi z=>(b2 i z).elim (lj i hi) λy=>by have:=sZ i hi;lia
 refine T.go2 hs ((f1.mono λi hi=>?_).trans f2 λi hi=>.inl (.tail _ (.tail _ (.tail _ hi)))) (λi hi=>?_) nk (S1.frm f2 lj) W2
 ·grind
 ·simp at hi
  grind
structure All4(C:Addr)(M:MM)(s h kp w g d o c:Nat)(tm:List Nat)(A:Mc)(hd:Nat)(L:List T):Prop where
 a:All3 C M s h kp w g d o c tm A
 x:M[hd]?=some (tM L)
 n:hd∉0::s::h::kp::w::g::d::o::c::tm
theorem All4.go(Z:All4 C M s h kp w g d o c tm A hd L)(T:All3 C M' s2 h2 cI w2 g1 d1 o1 c1 c8 B)(f:Frm M M' (s::h::kp::w::g::d::o::c::tm))(b:∀i∈s2::h2::cI::w2::g1::d1::o1::c1::c8,i∈s::h::kp::w::g::d::o::c::tm\/M.length<=i):All4 C M' s2 h2 cI w2 g1 d1 o1 c1 c8 B hd L:=by
 have l:=(Dc.mp Z.x).1;refine⟨T,(f.2 hd l λz=>Z.n (.tail _ z)).trans Z.x,λz=>?_⟩;rcases Dl.mp z with y|y
 ·exact Z.n (by rw[y];exact .head _)
 ·exact(b hd y).elim (λq=>Z.n (.tail _ q)) λq=>by lia
theorem All4.bag(Z:All4 C M s h kp w g d o c tm A hd L)(hb:BagO b):All4 C (M.set 0 b) s h kp w g d o c tm A hd L :=
 ⟨Z.a.bag hb,(Di λe=>Z.n (by rw[<-e];exact .head _)).trans Z.x,Z.n⟩
theorem All4.keep(Z:All4 C M s h kp w g d o c tm A hd L)(f:Frm M M' []):All4 C M' s h kp w g d o c tm A hd L :=
 Z.go (Z.a.go2 Z.a.hs (f.mono λi z=>nomatch z) (λi hi=>.inl hi) Z.a.dj (Z.a.S.frm f λi _ z=>nomatch z) (Z.a.W.frm f λi z=>nomatch z)) (f.mono λi z=>nomatch z) λi hi=>.inl hi
theorem All4.put(Z:All4 C M s h kp w g d o c tm A hd L):All4 C (M.set hd (tM L')) s h kp w g d o c tm A hd L':=by
 have l:=(Dc.mp Z.x).1;have f:Frm M (M.set hd (tM L')) [hd]:=zf (by simp);have no:∀i∈[hd],i∉s::h::kp::w::g::d::o::c::tm:=λi hi z=>Z.n (by rw[Dm.mp hi]at z;exact .tail _ z);obtain⟨b,eb,hb⟩:=Z.a.b;refine⟨⟨⟨b,by rw[Di λe=>Z.n (by rw[e];exact .head _)];exact eb,hb⟩,Z.a.S.frm f λi hi z=>?_,Z.a.W.frm f λi hi z=>?_,Z.a.dj,Z.a.n0,Z.a.hs⟩,Dn l,Z.n⟩
 ·grind
 ·exact no i hi (.tail _ (.tail _ (.tail _ z)))
theorem Ow.zero(S:Ow M w g d o c tm A):Ow ((M++[iM [0,0,0]]).set w (.lst (owF A g d o M.length))) w g d o M.length tm A.zero:=by
 have hl:=S.lt;have hn:=S.n;simp at hn;obtain⟨⟨wg,wd,wo,wc,wt⟩,⟨gd,go,gc,gt⟩,⟨dd,dc,dt⟩,⟨oc,ot⟩,ct,nt⟩:=hn;have lw:=hl w (by simp);have k:∀i,i<M.length->i≠w->∀m,((M++[iM [0,0,0]]).set w m)[i]?=M[i]?:=λi hi h m=>by rw[Di (Ne.symm h),De hi]
 refine⟨Mc.ok_zero S.O,Dn (by grind),?_,?_,?_,?_,S.l,λi j e=>?_,?_,S.z⟩
 ·rw[k g (hl g (by simp)) (Ne.symm wg)];exact S.g0
 ·rw[k d (hl d (by simp)) (Ne.symm wd)];exact S.d0
 ·rw[k o (hl o (by simp)) (Ne.symm wo)];exact S.o0
 ·rw[Di (by lia)];simp;exact⟨rfl,rfl,rfl⟩
 ·have hj:=Dh e
  rw[k j (hl j (by simp[hj])) λz=>wt (z▸hj)];exact S.t i j e
 ·have cy:=λi hi=>Dz (hl i hi)
  simp;exact⟨⟨wg,wd,wo,cy w (by simp),wt⟩,⟨gd,go,cy g (by simp),gt⟩,⟨dd,cy d (by simp),dt⟩,⟨cy o (by simp),ot⟩,λz=>cy _ (by simp[z]) rfl,nt⟩
theorem All4.anew(Z:All4 C M s h kp w g d o c tm A hd L)(f5:Frm M M1 [])(n5:M.length<=h5)(n6:M.length<=k5)(S5:StA C M1 M.length h5 k5 A.zero):All4 C ((M1++[iM [0,0,0]]).set w (.lst (owF A g d o M1.length))) M.length h5 k5 w g d o M1.length tm A.zero hd L:=by
 have Zk:=Z.keep f5;have lw:=Z.a.W.lt;have l1:=f5.1;have l0:0<M.length:=by obtain⟨o,e,_⟩:=Z.a.b;exact(Dc.mp e).1
 have lh:=(Dc.mp Z.x).1;have ww:=lw w (by simp);have ls:=S5.lts;have lm:Frm M1 ((M1++[iM [0,0,0]]).set w (.lst (owF A g d o M1.length))) [w]:=⟨by simp,λi hi hn=>by rw[Di (λe=>hn (by simp[e])),De hi]⟩;have ge:∀i∈[M.length,h5,k5],M.length<=i:=λi hi=>by
  simp at hi;lia
 have old:∀i∈w::g::d::o::M1.length::tm,i<M.length/\i∈w::g::d::o::c::tm\/i=M1.length:=λi hi=>by
  grind
 have new:∀i,i<M.length->i∉w::g::d::o::c::tm->i∉M.length::h5::k5::w::g::d::o::M1.length::tm:=λi hi hn z=>by
  rcases Dl.mp z with y|y
  ·lia
  rcases Dl.mp y with y|y<;>grind
 obtain⟨b,eb,hb⟩:=Zk.a.b;have w0:0∉w::g::d::o::c::tm:=λz=>Z.a.n0 (.tail _ (.tail _ (.tail _ z)));have wh:hd∉w::g::d::o::c::tm:=λz=>Z.n (.tail _ (.tail _ (.tail _ (.tail _ z))));refine⟨⟨⟨b,(lm.2 0 (by lia) λz=>w0 (by simp at z;simp[z])).trans eb,hb⟩,S5.frm lm (λi hi z=>by have:=ge i hi;simp at z;lia),Zk.a.W.zero,λi hi z=>?_,new 0 l0 w0,⟨Zk.a.hs.n,rfl,rfl,RK _,by show 0<=100000;decide⟩⟩,(lm.2 hd (by lia) λz=>wh (by simp at z;simp[z])).trans Zk.x,λz=>?_⟩
 ·grind
 ·rcases Dl.mp z with y|y
  ·exact Z.n (by rw[y];exact .head _)
  ·exact new hd lh wh y
end
namespace Mc
theorem q77{bits:Int}{ms:List Mk3}(R:Right bits ms):Lf 2000 3 (layT bits ms):=by
 have hb:=R.b;have i0:∀{x:Int}{d:Nat},0<=x->x<2^59->Lf 60 d (.int x):=λh0 h1=>(Lf.int (show _<_ by lia) (by decide)).mono (Dk _) (DG _);have hm:=by
  have:=Lf.lst (n:=250) (d:=1) (ts:=ms.map jP) λt ht=>by
   obtain⟨m,hm,rfl⟩:=DL.mp ht;have hk:=R.k.subset (RA hm);have hw:=R.w m hm;have hp:=R.p m hm;have hn:=vY m.1;have p:(2:Int)^m.2.1.toNat<=2^(40:Int).toNat:=Yq (by lia);have e6:(2:Int)^(40:Int).toNat=2^40:=rfl;have hs:=by
    have:∀x∈jR,Lf 64 0 _:=λx hx=>by
     simp[jR,Dl,DU,UP]at hx;rcases hx with rfl|rfl|rfl|rfl|rfl<;>exact Lf.str rfl (by decide+kernel)
    exact this _ hk
   exact(LfA.cons hs (LfA.cons (i0 (by lia) (by lia)) (LfA.cons (i0 hp.1 (by lia)) LfA.nil))).tup.mono (by decide) (by decide)
  rw[Dg,R.n]at this;exact this
 exact(LfA.cons (i0 (by lia) (by lia)) (LfA.cons hm LfA.nil)).tup.mono (by decide) (by decide)
theorem sh_im(O:A.Ok):q06 (imT A):=by
 obtain⟨b1,b2⟩:=q2B O;have l8:A.ws.length=8:=by unfold ws;rw[Dg,O.l8]
 have h4:=os_le O;have hm:=O.m;have h0:=by have:=O.f;unfold Mc.most kG min3 at this;lia
 have ai:Lf 60 3 (.int A.room):=(Lf.int (show _<_ by lia) (by decide)).mono (Dk _) (by decide);have a1:=(Vk b1 (by decide)).mono (m:=500) (e:=3) (by rw[l8];decide) (by decide);have a2:=(Vk b2 (by decide)).mono (m:=25000) (e:=3) (by lia) (by decide);exact((LfA.cons (q77 O.R) (LfA.cons ai (LfA.cons a1 (LfA.cons a2 LfA.nil)))).tup).show (by decide) (by decide)
end Mc
theorem Mc.act_lay{A:Mc}:(A.act e).1.bits=A.bits/\(A.act e).1.ms=A.ms/\(A.act e).1.room=A.room:=by
 have mk:∀n,(A.mk' n).bits=A.bits/\(A.mk' n).ms=A.ms/\(A.mk' n).room=A.room:=λn=>by unfold mk';split<;>exact⟨rfl,rfl,rfl⟩
 cases e with
 |num r n=>
  show(A.num r n).1.bits=A.bits/\(A.num r n).1.ms=A.ms/\(A.num r n).1.room=A.room;unfold num;split
  ·exact⟨rfl,rfl,rfl⟩
  split
  ·exact⟨rfl,rfl,rfl⟩
  split<;>exact mk _
 |pair r q p=>
  show(A.prd r _ _).1.bits=A.bits/\(A.prd r _ _).1.ms=A.ms/\(A.prd r _ _).1.room=A.room;unfold prd;split<;>exact mk _
 |get b r q=>
  show(A.getO b r _).1.bits=A.bits/\(A.getO b r _).1.ms=A.ms/\(A.getO b r _).1.room=A.room;unfold getO;split<;>exact⟨rfl,rfl,rfl⟩
 |set b q p=>
  show(A.setO b _ _).1.bits=A.bits/\(A.setO b _ _).1.ms=A.ms/\(A.setO b _ _).1.room=A.room;unfold setO;split<;>exact⟨rfl,rfl,rfl⟩
 |_=>exact⟨rfl,rfl,rfl⟩
noncomputable abbrev sLaw:Stmt:=top 83
theorem scLaw:q01 ["script","bag","laying","room","store","own","r","held","k","deed","due","words","outside"] ["script"] (qw sLaw):=by ac_rfl
theorem q7x:(["script","bag","laying","room","store","own","r","held","k","deed","due","words","outside","kept","other"]:List Str).Nodup:=by decide+kernel
theorem q45(F:Fun Ξ "law" "law" sLaw f fd)(N:Nms mg)(a5:Cls Ξ C)(c6:q0d P w Ξ mg base C "Store" 4 ["self","laying","room"] (spU (JZ C)))(aP:MDef P w Ξ mg base C "sign" 4 ["self","r","k"] (spU (GN C)))(ao:MDef P w Ξ mg base C "words" 1 ["self"] (spU (Vp C)))(ag:MDef P w Ξ mg base C "outside" 1 ["self"] (spU (q1r C)))(gj:Def P w Ξ mg base "_law_bag" 1 ["script"] (q3A Ξ))(am:Def P w Ξ mg base "_law_draw" 1 ["bag","many"] (spU XX))(cP:Def P w Ξ mg base "_law_laying" 3 ["bag"] (spU XW))(cu:Def P w Ξ mg base "_law_machine" 3 ["laying","room"] (spU q2j))(bb:Def P w Ξ mg base "_law_deed_of_pairs" 2 ["bag"] (spU q34))(lp:Def P w Ξ mg base "_law_do" 7 ["own","deed"] (spU λus M Q=>∃e,gDoO e us M Q))(eN:Def P w Ξ mg base "_law_done" 11 ["store","deed"] (spU (q2I C)))(bO:Def P w Ξ mg base "_law_alike" 1 ["found","due"] (spP XY))(bP:Def P w Ξ mg base "_law_same_store" 5 ["store","own"] (spU (q2m C)))(cv:Def P w Ξ mg base "image_of" 3 ["store"] (spU (J6 C)))(cx:Def P w Ξ mg base "store_of" 6 ["laying","room","words","outside"] (spU (JX C))):FnOk P w Ξ mg base CX0 12 f fd ["script"] (YB Ξ):=by
 refine q3t F scLaw (by decide) (λap A outer s H E hr=>?_);refine⟨_,(qb (ql (i:=1) scLaw.nd rfl Wr (qf gj (Wh hr) (qa1 qv0))) (qb (ql (i:=2) scLaw.nd rfl Wr (qf cP (Wh hr) (qa1 qv1))) (qb (ql (i:=3) scLaw.nd rfl Wr (qh (Ua Ξ) (qA (qa3 qa (qf am (Wh hr) (qa2 qv1 qa)) (qm jJ qa (qf am (Wh hr) (qa2 qv1 qa))))) (qf am (Wh hr) (qa2 qv1 qa)) (λ_ _=>rfl))) (qb (ql (i:=4) scLaw.nd rfl Wr (q7u c6 (Wh hr) rfl (qa2 qv2 qv3))) (qb (ql (i:=5) scLaw.nd rfl Wr (qf cu (Wh hr) (qa2 qv2 qv3))) (qb (z0 PassesOwn.never rfl (ja rfl N.range (qa1 qa)) (vd (i:=6) scLaw.nd rfl Wr) (qb (vj (va aP a5 qv4 (Wh hr) (qa2 qv6 qv6))) (qc (vj (qf lp (Wh hr) (qa2 qv5 (qy (qa3 qe qv6 qv6)))))))) (qb (ql (i:=7) scLaw.nd rfl Wr (qA zm)) (qb (z0 PassesOwn.never rfl (ja rfl N.range (qa1 (qm qH qa (qf am (Wh hr) (qa2 qv1 qa))))) (vd (i:=8) scLaw.nd rfl Wr) (qb (ql (i:=9) scLaw.nd rfl Wr (qf bb (Wh hr) (qa1 qv1))) (qb (ql (i:=10) scLaw.nd rfl Wr (qf lp (Wh hr) (qa2 qv5 (qv 9)))) (qb (qI (V2 (q4n (Y7 (zg (qf bO (Wh hr) (qa2 (qf eN (Wh hr) (qa2 qv4 (qv 9))) (qv 10))))) (Y6 (Y7 (zg (qf bP (Wh hr) (qa2 qv4 qv5))))))) (qc (qi q22)) qt) (qb (qI (qg op_eq (qm vV (qv 8) qa) qa (qo _)) (qb (Y8 (i:=11) (j:=12) rfl scLaw.nd rfl rfl (by decide) rfl rfl (qa2 (zy ao a5 qv4 (Wh hr)) (zy ag a5 qv4 (Wh hr))) rfl) (qb (vj (jN PySem.F.slot_list_append PySem.F.type_list_append vQ qv7 (qa1 (qy (qa4 qv11 (vz vc (by rfl) N.list jl (qa1 qv11)) (qv 12) (vz vc (by rfl) N.list jl (qa1 (qv 12)))))))) (qc (qI (Y7 (zg (qf bO (Wh hr) (qa2 (qf cv (Wh hr) (qa1 qv4)) (qy (qa4 qv2 qv3 qv11 (qv 12))))))) (qc (qi q22)) qt)))) qt) (qc (qI (qg op_eq (qm vV (qv 8) qa) qa (qo _)) (qb (ql (i:=4) scLaw.nd rfl Wr (qf cx (Wh hr) (qa4 qv2 qv3 qv11 (qv 12)))) (qc (vD (qA (qa3 qa qa qa)) (vM qv5 qa qL)))) qt))))))) (qc (qi (ze (q5f (Ξ:=Ξ) rfl hr.units) (jO [false,false,false,false,false,false,false,false,false,false,false,false,false] ["kept","other" ] (qY (Ξ:=Ξ) rfl qv7) (λ_ _ _=>(q7e (Ξ:=Ξ) (i:=11) (j:=13) (k:=12) (l:=14) rfl q7x rfl rfl rfl rfl rfl Wr Wr Wr Wr Gj Gj Gj Gj)) (λ_ _ _=>xI (V2 (q4n (qg (XA (Ξ:=Ξ) rfl hr.units) qv11 (qv 13) (qo _)) (Y6 (qg (XA (Ξ:=Ξ) rfl hr.units) (qv 12) (qv 14) (qo _)))))) (λ_ _ _=>qa)) (qA zm) (qo _)))))))))))),_,(qj (by right) (qj (by right) (qj (qM (qao (by right)) (qF 4)) (qj (by right) (qj (by right) (qj (qM (zr qK) (qF 7)) (qj (QQ (by right) (qF 8) (qj (by right) (qj (by right) (qj (by right) (qj (xh (by right) (qj (qae (qq (X6 (qk 4) qK) (qq (X6 (qk 4) qK) qK))) (by right)) vG) (xh (by right) (qj (by right) (qM (zr (by right)) (by right))) vG)))))) (vS (q6b (qas (VA (qk 7)) (qal 11 13 12 14) (q6n (xR (q3e (qk 11) (qk 13))) (xR (q3e (qk 12) (qk 14)))) Wi) (qap qK)))))))))),λob hB=>?_⟩;show uSeq _ _ _ [none,some (.m 0),none,none,none,none,none,none,none,none,none,none,none] _;left;refine layL hB λo1 bits ms B1 R=>?_;left;refine q3O B1 (by decide) (by decide) λy1 o2 t4 y11 B2=>?_;left;refine q3O B2 (by decide) (by decide) λy2 o3 y20 y21 B3=>?_;left;refine⟨.inl ⟨by decide,by decide⟩,?_⟩;refine q3O B3 (by decide) (by decide) λy3 o4 y30 y31 B4=>?_;have go:∀{Q:UK},(∀l:Int,0<=l->l<=400->Q (.p (.int l)) [o4])->IxS qB [o4] (.p (.lst [.int 400,.int y1,.int (3*y2)])) (.p (.int y3)) Q:=λ{Q} q=>by
  rcases(show y3=0\/y3=1\/y3=2 by lia)with rfl|rfl|rfl
  ·exact qR rfl (q _ (by decide) (by decide))
  ·exact qR rfl (q _ t4 (by lia))
  ·exact qR rfl (q _ (by lia) (by lia))
 refine go λrm r0 r4=>?_;left;refine⟨1,bits,ms,rm,rfl,rfl,R,r0,r4,λM1 f1 S1 e1=>⟨rfl,?_⟩⟩;have e1:M1.length=4:=e1;left;refine⟨bits,ms,rm,rfl,R,r0,r4,λM2 w g d o c f2 b2 W2=>?_⟩;rw[e1]at b2;have m1:M1[0]?=some o4:=f1.2 0 (by show 0<2;decide) (by decide);have T2:All3 C M2 1 2 3 w g d o c [] (Mc.new bits ms rm):=by
  refine⟨⟨o4,(f2.2 0 (by lia) (λz=>nomatch z)).trans m1,B4⟩,S1.frm f2 (λi _ z=>nomatch z),W2,λi hi z=>?_,λz=>?_,⟨(λt z=>nomatch z),rfl,rfl,RK _,by show(0:Int)<=100000;decide⟩⟩
  ·have:=b2 i z
   simp only[Dl,DU,UP]at hi;lia
  ·simp only[Dl]at z
   rcases z with z|z|z|z
   ·cases z
   ·cases z
   ·cases z
   ·have:=b2 0 (by simp only[Dl];exact z)
    lia
 left;refine JF (by lia) (by lia) ?_;refine Q2 (λi ρ M=>∃(A:Mc)(h kp g d o c:Nat)(tm:List Nat)(x6:Option U),All3 C M 1 h kp w g d o c tm A/\A.sw=0/\A.tb=[]/\A.bits=bits/\A.ms=ms/\A.room=rm/\ρ=[none,some (.m 0),some (.p (layT bits ms)),some (.p (.int rm)),some (.m 1),some (.m w),x6,none,none,none,none,none,none]) ⟨_,_,_,_,_,_,_,_,_,T2,rfl,rfl,rfl,rfl,rfl,rfl⟩ ?_ ?_
 ·rintro i ρ M hi ⟨A,h,kp,g,d,o,c,tm,x6,Z,eC,gk,hb,hm,hr,rfl⟩
  left;refine mS Z.S (by rfl) ?_;refine⟨1,h,kp,A,i,(i:Int),rfl,Z.S,by lia,by lia,by lia,λM1 h1 t5 f1 n1 n2 S1=>?_⟩;have W1:=Z.W.frm f1 Z.dj;refine⟨.sign i i,w,g,d,o,c,tm,A,rfl,W1,⟨by lia,by lia,by lia⟩,by rw[gk];decide,λM2 g2 d2 o2 c2 t6 f2 b2 W2=>?_⟩;exact⟨_,h1,t5,g2,d2,o2,c2,t6,_,Z.deed2 (Mc.put_sh Z.hs) f1 n1 n2 S1 f2 b2 W2,eC,gk,hb,hm,hr,rfl⟩
 ·rintro ρ M ⟨A,h,kp,g,d,o,c,tm,x6,Z,eC,gk,hb,hm,hr,rfl⟩
  left;have fr:Frm M (M++[MO.lst []]) []:=⟨by simp,λi hi _=>De hi⟩;have Z4:All4 C (M++[MO.lst []]) 1 h kp w g d o c tm A M.length []:=by
   refine⟨Z.go2 Z.hs (fr.mono λi z=>nomatch z) (λi hi=>.inl hi) Z.dj (Z.S.frm fr λi _ z=>nomatch z) (Z.W.frm fr λi z=>nomatch z),by simp,λz=>?_⟩;have l0:0<M.length:=by obtain⟨o,e,_⟩:=Z.b;exact(Dc.mp e).1
   have ls:=Z.S.lts;have lw:=Z.W.lt;have h1:=ls 1 (by simp);have h2:=ls h (by simp);have h3:=ls kp (by simp);rcases Dl.mp z with y|y
   ·lia
   rcases Dl.mp y with y|y
   ·lia
   rcases Dl.mp y with y|y
   ·lia
   rcases Dl.mp y with y|y
   ·lia
   exact DV _ (lw _ y)
  generalize M.length=hd at Z4 ⊢;obtain⟨bo,eb,iD⟩:=Z4.a.b;refine⟨0,bo,131,rfl,eb,iD,by decide,by decide,λy b' y0 y1 im=>?_⟩;have Z5:=Z4.bag im;left;refine JF (by lia) (by lia) ?_;refine Q2 (λi ρ M=>∃(A:Mc)(s h kp g d o c:Nat)(tm:List Nat)(L:List T)(x8 x9 gf gg eL:Option U),All4 C M s h kp w g d o c tm A hd L/\A.sw<=i/\A.tb.length<=i/\A.bits=bits/\A.ms=ms/\A.room=rm/\L.length<=i/\(∀t∈L,∃a b:List Int,t=.tup [qC a,qC a,qC b,qC b])/\ρ=[none,some (.m 0),some (.p (layT bits ms)),some (.p (.int rm)),some (.m s),some (.m w),x6,some (.m hd),x8,x9,gf,gg,eL]) ⟨A,_,_,_,_,_,_,_,_, [],_,_,_,_,_,Z5,by lia,by rw[gk];exact Dk _,hb,hm,hr,Dk _,(λt z=>nomatch z),rfl⟩ ?_ ?_
  ·clear Z Z4 Z5 eC gk hb hm hr
   rintro i ρ M hi ⟨A,s,h,kp,g,d,o,c,tm,L,x8,x9,gf,gg,eL,Z,eC,gk,rfl,rfl,rfl,hL,hl,rfl⟩;have mZ:i<151:=by lia
   left;obtain⟨bo,eb,iD⟩:=Z.a.b;refine⟨0,bo,rfl,eb,iD,λe o' bv he=>?_⟩;have Z1:=Z.bag bv;left;refine⟨e,w,g,d,o,c,tm,A,rfl,Z1.a.W,he A,by lia,λM1 g1 d1 o1 c1 c8 f1 b1 W1=>?_⟩;obtain⟨a1,a2,a3⟩:=Mc.act_sh Z1.a.hs (by lia) (he A);left;refine⟨s,h,kp,A,e,rfl,Z1.a.S.frm f1 Z1.a.dj,he A,λM2 h2 cI f2 n1 n2 S2=>?_⟩;obtain⟨T2,f,b⟩:=Z1.a.deed a1 f1 b1 W1 f2 n1 n2 S2;have Z2:=Z1.go T2 f b;left;refine⟨_,rfl,Mc.oc_sh Z.a.S.O (he A),?_⟩;left;refine⟨s,h2,cI,w,g1,d1,o1,c1,c8,_,rfl,Z2.a.S,Z2.a.W,Z2.a.hs,λM3 f3=>?_⟩;have Z3:=Z2.keep f3;obtain⟨q1,q2,q3⟩:=Mc.act_lay (A:=A) (e:=e);left;refine⟨by decide,ite2 (λz5=>?_) (λz5=>?_)⟩
   ·left
    refine mS Z3.a.S (by rfl) ?_;left;refine⟨s,h2,cI,_,rfl,Z3.a.S,?_⟩;left;refine mS Z3.a.S (by rfl) ?_;left;refine⟨s,h2,cI,_,rfl,Z3.a.S,?_⟩;left;refine XF Z3.x ?_;left;refine⟨_,_,rfl,rfl,⟨_,_,rfl,rfl,⟨_,Z3.x,by rw[Dg,Uk];lia,?_⟩⟩⟩;have em:∀t:T,MO.lst (L.map U.p++[U.p t])=tM (L++[t]):=λt=>by simp
    rw[em];have Z4:=Z3.put (L':=L++[.tup [qC (A.act e).1.ws,qC (A.act e).1.ws,qC (A.act e).1.os,qC (A.act e).1.os]]);have ei:imT (A.act e).1=.tup [layT A.bits A.ms,.int A.room,qC (A.act e).1.ws,qC (A.act e).1.os]:=by unfold imT;rw[q1,q2,q3]
    refine⟨s,h2,cI,_,rfl,Z4.a.S,?_⟩;rw[ei];left;refine⟨_,rfl,ei▸Mc.sh_im Z4.a.S.O,?_⟩;left;have cy:∀t∈L++[.tup [qC (A.act e).1.ws,qC (A.act e).1.ws,qC (A.act e).1.os,qC (A.act e).1.os]],∃a b:List Int,t=.tup [qC a,qC a,qC b,qC b]:=λt ht=>by
     rcases Dr.mp ht with z|z
     ·exact hl t z
     ·exact⟨_,_,Dm.mp z⟩
    have l2:(L++[T.tup [qC (A.act e).1.ws,qC (A.act e).1.ws,qC (A.act e).1.os,qC (A.act e).1.os]]).length<=i+1:=by rw[Dj];exact Rn hL
    generalize L++[T.tup [qC (A.act e).1.ws,qC (A.act e).1.ws,qC (A.act e).1.os,qC (A.act e).1.os]]=L' at Z4 cy l2 ⊢;generalize M3.set hd (tM L')=M4 at Z4 ⊢;refine⟨by decide,ite2 (λz6=>?_) (λz6=>?_)⟩
    ·left
     refine⟨(A.act e).1,by rw[q1,q2,q3],Z4.a.S.O,λM5 h5 k5 f5 n5 n6 S5=>?_⟩;left;have lw:=(Z4.keep f5).a.W.lt w (by simp);refine⟨w,owF (A.act e).1 g1 d1 o1 c1,5,5,rfl,(De lw).trans (Z4.keep f5).a.W.w0,rfl,rfl,?_⟩;exact⟨_,M4.length,h5,k5,g1,d1,o1,M5.length,c8,L',_,_,_,_,_,Z4.anew f5 n5 n6 S5,by show(0:Int)<=_;lia,by show(A.act e).1.tb.length<=_;lia,q1,q2,q3,l2,cy,rfl⟩
    ·exact⟨_,s,h2,cI,g1,d1,o1,c1,c8,L',_,_,_,_,_,Z4,by lia,by lia,q1,q2,q3,l2,cy,rfl⟩
   ·left
    refine⟨by decide,ite2 (λz6=>absurd z6 (by lia)) (λz6=>?_)⟩;exact⟨_,s,h2,cI,g1,d1,o1,c1,c8,L,_,_,_,_,_,Z3,by lia,by lia,q1,q2,q3,by lia,hl,rfl⟩
  ·rintro ρ M ⟨A,s,h,kp,g,d,o,c,tm,L,x8,x9,gf,gg,eL,Z,eC,gk,rfl,rfl,rfl,hL,hl,rfl⟩
   left;unfold q13;left;refine xN Z.x ?_;have ne:∀{a:List Int}{Q:T->Prop},Q (.bl false)->sEqL true (qC a) (qC a) Q:=λq=>J9 (λx hx=>by obtain⟨n,_,rfl⟩:=DL.mp hx;exact True.intro) q;refine xT (by rw[Uk];lia) (λi a7 M'=>M'=M/\a7=[]) ⟨rfl,rfl⟩ ?_ ?_ ?_
   ·rintro i a7 M2 ⟨rfl,_⟩
    exact Z.x
   ·rintro i x a7 M2 hx _ ⟨rfl,rfl⟩
    obtain⟨a,b,rfl⟩:=hl x (Dh hx);left;refine⟨_,_,rfl,rfl,ne ?_⟩;left;refine⟨_,_,rfl,rfl,ne ?_⟩;left
   ·rintro a7 M2 ⟨rfl,rfl⟩
    exact⟨_,_,rfl,rfl,J9 (λx h=>nomatch h) rfl⟩
noncomputable abbrev Kw:Stmt:=qx (top 47) 13
noncomputable abbrev Ky:Stmt:=qx (top 47) 14
noncomputable abbrev Xm:Stmt:=qx (top 47) 15
noncomputable abbrev Kx:Stmt:=qx (top 47) 16
noncomputable abbrev Kv:Stmt:=qx (top 47) 17
noncomputable abbrev Xn:Stmt:=qx (top 47) 24
--@XI
noncomputable abbrev Xl:Stmt:=qx (top 2) 0
theorem q1Y:q01 ["self","part"] ["self","part"] (qw Xl):=by ac_rfl
theorem q1E(F:Fun Ξ "__init__" "WrongKind.__init__" Xl f fd)(ck:ExcK Ξ C f)(na:NoAttr Ξ C "part")(ib:q3E Ξ mg "WordError" B):FnOk P w Ξ mg base CX0 1 f fd ["self","part"] (spI C):=by
 refine F.okQ q1Y (λvs H Q E h=>?_) (λap A outer s H vs Q E hr h=>?_)
 ·obtain⟨_,_,rfl,_⟩:=h
  rfl
 refine⟨_,(qb (q0r ck ib (qa_c (qv 0) (qa_c (q6c (by decide) (by decide) (qv 1)) zm)))
  (qc (q4u ck na (qv 0) (qv 1)))),?_⟩
 obtain⟨a,n,rfl,hn,ha,q⟩:=h;refine⟨.ref a,rfl,.int n,rfl,n,rfl,hn.1,hn.2.1,a,none,_,rfl,ha,by show 1<=1000;decide,?_⟩;refine⟨.int n,rfl,.ref a,rfl,a,rfl,ha,λd hd=>q d hd⟩
end
end Mw
local macro_rules|`(tactic|walk_at "fk")=>`(tactic|(refine' L2.fun_mk ?l ?c ?k; (case l=>k_is); (case c=>k_is); (case k=>k_is)))
local macro_rules|`(tactic|walk_at "fg")=>`(tactic|(refine' ⟨?n,?m⟩; (case n=>show _=_; k_is); (case m=>walk_at "fk")))
local macro_rules|`(tactic|walk_at "mg")=>`(tactic|(refine' ⟨?u,?n,?m⟩; (case u=>k_is); (case n=>k_is); (case m=>walk_at "fk")))
namespace Mw
open PySem L2
structure FG(K:PySem.W.Frag)(x:Str)(s:Stmt)(f:Addr)(d:FuncData):Prop where
 a:W.nsIn K mainGlobals x=some (some (.ref f))
 F:Fun K x x s f d
structure MG(K:PySem.W.Frag)(C:Addr)(x q:Str)(s:Stmt)(f:Addr)(d:FuncData):Prop where
 a:W.findIn K (.ref C) x=some (some (.ref f))
 n:W.isFn K (.ref f)=true
 F:Fun K x q s f d
structure GB(P:Program)(w:World)(K:PySem.W.Frag)(mg:Str->Option Value)(base h:Heap):Prop where
 X:K.In h
 G:h.Ns mainGlobals mg
theorem mk1{P:Program}{w:World}{K:PySem.W.Frag}{h base:Heap}{mg:Str->Option Value}{x:Str}{st:Stmt}{f:Addr}{d:FuncData}{k:Nat}{ps:List Str}{sp:Sp}(B:GB P w K mg base h)(A:FG K x st f d)(F:FnOk P w K mg base CX0 k f d ps sp)(b:∀(kV bV pm:Value)(an:Option Addr)(ap ct:Value)(us:List Value),us.length=ps.length->bindArgs (W.fnOf x x (zL st) (vg st) (qw st) .none kV bV pm an ap ct) ⟨us, []⟩=pure (ps.zip us)):Def P w K mg base x k ps sp:=⟨f,_,Bl B.X B.G A.a,A.F.kp,A.F.binds b,F⟩
theorem mk1X{P:Program}{w:World}{K:PySem.W.Frag}{h base:Heap}{mg:Str->Option Value}{x:Str}{st:Stmt}{f:Addr}{d:FuncData}{k:Nat}{ps:List Str}{sp:Sp}(B:GB P w K mg base h)(A:FG K x st f d)(F:FnOk P w K mg base (CXe P w) k f d ps sp)(b:∀(kV bV pm:Value)(an:Option Addr)(ap ct:Value)(us:List Value),us.length=ps.length->bindArgs (W.fnOf x x (zL st) (vg st) (qw st) .none kV bV pm an ap ct) ⟨us, []⟩=pure (ps.zip us)):DefX P w K mg base x k ps sp:=⟨f,_,Bl B.X B.G A.a,A.F.kp,A.F.binds b,F⟩
theorem mk2{C:Addr}{q:Str}{P:Program}{w:World}{K:PySem.W.Frag}{h base:Heap}{mg:Str->Option Value}{x:Str}{st:Stmt}{f:Addr}{d:FuncData}{k:Nat}{ps:List Str}{sp:Sp}(B:GB P w K mg base h)(A:MG K C x q st f d)(F:FnOk P w K mg base CX0 k f d ps sp)(b:∀(kV bV pm:Value)(an:Option Addr)(ap ct:Value)(us:List Value),us.length=ps.length->bindArgs (W.fnOf x q (zL st) (vg st) (qw st) .none kV bV pm an ap ct) ⟨us, []⟩=pure (ps.zip us)):MDef P w K mg base C x k ps sp:=⟨f,_,⟨A.a,A.n,A.F.kp⟩,A.F.binds b,F⟩
theorem mk2X{C:Addr}{q:Str}{P:Program}{w:World}{K:PySem.W.Frag}{h base:Heap}{mg:Str->Option Value}{x:Str}{st:Stmt}{f:Addr}{d:FuncData}{k:Nat}{ps:List Str}{sp:Sp}(B:GB P w K mg base h)(A:MG K C x q st f d)(F:FnOk P w K mg base (CXe P w) k f d ps sp)(b:∀(kV bV pm:Value)(an:Option Addr)(ap ct:Value)(us:List Value),us.length=ps.length->bindArgs (W.fnOf x q (zL st) (vg st) (qw st) .none kV bV pm an ap ct) ⟨us, []⟩=pure (ps.zip us)):q03 P w K mg base C x k ps sp:=⟨f,_,⟨A.a,A.n,A.F.kp⟩,A.F.binds b,F⟩
theorem ln1{α:Type}:∀{l:List α},l.length=1->∃a,l=[a]
 | [a],_=>⟨a,rfl⟩
theorem ln2{α:Type}:∀{l:List α},l.length=2->∃a b,l=[a,b]
 | [a,b],_=>⟨a,b,rfl⟩
theorem ln3{α:Type}:∀{l:List α},l.length=3->∃a b c,l=[a,b,c]
 | [a,b,c],_=>⟨a,b,c,rfl⟩
theorem ln4{α:Type}:∀{l:List α},l.length=4->∃a b c d,l=[a,b,c,d]
 | [a,b,c,d],_=>⟨a,b,c,d,rfl⟩
theorem ln5{α:Type}:∀{l:List α},l.length=5->∃a b c d e,l=[a,b,c,d,e]
 | [a,b,c,d,e],_=>⟨a,b,c,d,e,rfl⟩
set_option hygiene false
local macro_rules|`(tactic|ac_nf)=>`(tactic|(intro _ _ _ _ _ _ _ h; first|(obtain⟨_,rfl⟩:=ln1 h; rfl)|(obtain⟨_,_,rfl⟩:=ln2 h; rfl)|(obtain⟨_,_,_,rfl⟩:=ln3 h; rfl)|(obtain⟨_,_,_,_,rfl⟩:=ln4 h; rfl)|(obtain⟨_,_,_,_,_,rfl⟩:=ln5 h; rfl)))
abbrev Ue(K:PySem.W.Frag)(x:Str)(v:Value):=W.nsIn K mainGlobals x=some (some v)
abbrev Uf(K:PySem.W.Frag)(x:Str):=W.nsIn K mainGlobals x=some none
theorem all_mk{l:PySem.W.OpenLaw}{w:World}{K:PySem.W.Frag}{h:Heap}{mg:Str->Option Value}(X:K.In h)(G:h.Ns mainGlobals mg)(t7:mg "law" = some (.ref fa))(ca1:Ue K "Store" (.ref C1))(cb1:W.plainGet K C1 Str.empty=true)(cc1:W.hasDictIn K C1=true)(cd1:W.plainOver K C1=true)(ce1:W.findIn K (.ref C1) "__setattr__" = some (some (.builtin "object.__setattr__")))(cf1:W.makesIn K C1=true)(cg1:W.keepIn K (.ref C1)=true)(ch1_1:W.findIn K (.ref C1) "laying" = some none)(ch1_2:W.findIn K (.ref C1) "room" = some none)(ch1_3:W.findIn K (.ref C1) "held" = some none)(ch1_4:W.findIn K (.ref C1) "kept" = some none)(ch1_5:W.findIn K (.ref C1) "quick" = some none)(ch1_6:W.findIn K (.ref C1) "slow" = some none)(ch1_7:W.findIn K (.ref C1) "sweeps" = some none)(xaNought:Ue K "Nought" (.ref CENought))(xaNoRoom:Ue K "NoRoom" (.ref CENoRoom))(xoNought:W.excIn K CENought [.type "ValueError",.type "Exception",.type "BaseException",.type "object"] "ValueError.__new__" = true)(xoNoRoom:W.excIn K CENoRoom [.type "ValueError",.type "Exception",.type "BaseException",.type "object"] "ValueError.__new__" = true)(xaWk:Ue K "WrongKind" (.ref CEWk))(xaWordError:Ue K "WordError" (.ref CEWordError))(EWk_Wk:W.exmOne K (.ref CEWk) (.ref CEWk)=some true)(ENought_Wk:W.exmOne K (.ref CENought) (.ref CEWk)=some false)(ENought_Nought:W.exmOne K (.ref CENought) (.ref CENought)=some true)(ENoRoom_Wk:W.exmOne K (.ref CENoRoom) (.ref CEWk)=some false)(ENoRoom_Nought:W.exmOne K (.ref CENoRoom) (.ref CENought)=some false)(ENoRoom_NoRoom:W.exmOne K (.ref CENoRoom) (.ref CENoRoom)=some true)(A1:FG K "_law_bag" sBag f1 d1)(A2:FG K "_law_draw" q0H f2 d2)(A3:FG K "_law_full_laying" kq f3 d3)(A4:FG K "_law_laying" YM f4 d4)(A5:FG K "mark_for" Jy f5 d5)(A6:FG K "_law_mark" q7q f6 d6)(A7:FG K "load_bits" V0 f7 d7)(A8:FG K "_law_load" q5V f8 d8)(A9:FG K "kinds_on" JA f9 d9)(A10:FG K "mark_of" YK f10 d10)(A11:FG K "load_of" YL f11 d11)(A12:FG K "marked" YJ f12 d12)(A13:FG K "small_of" Jx f13 d13)(A14:FG K "worth_of" Jv f14 d14)(A15:FG K "word_of" YE f15 d15)(A16:FG K "is_small" JB f16 d16)(A17:FG K "size_at" YG f17 d17)(A18:FG K "number_at" VY f18 d18)(A19:FG K "heads_in" JE f19 d19)(A20:FG K "address_of" QC f20 rW)(A21:FG K "most_outside" jH f21 rX)(A22:FG K "pair_words_at" jG f22 d22)(A23:FG K "reached_from" jF f23 d23)(A24:FG K "new_places" Qw f24 d24)(A25:FG K "moved_word" Qx f25 d25)(A26:FG K "moved_thing" ko f26 d26)(A27:FG K "swept" q2L f27 d27)(A28:MG K C1 "sweep" "Store.sweep" ki f28 d28)(A29:MG K C1 "lacks" "Store.lacks" kj f29 d29)(A30:MG K C1 "make_room" "Store.make_room" xB f30 d30)(A31:FG K "limb_count" Qz f31 d31)(A32:FG K "is_great" JC f32 d32)(A33:FG K "rows_of" YH f33 d33)(A34:MG K C1 "lay" "Store.lay" VW f34 d34)(A35:MG K C1 "number" "Store.number" jE f35 d35)(A36:MG K C1 "words" "Store.words" kh f36 d36)(A37:MG K C1 "outside" "Store.outside" xV f37 d37)(A38:MG K C1 "kind" "Store.kind" Qm f38 d38)(A39:FG K "read_worth" Qq f39 d39)(A40:MG K C1 "told" "Store.told" Qi f40 rY)(A41:FG K "own_laying" Qr f41 rZ)(A42:MG K C1 "__init__" "Store.__init__" Qn f42 d42)(A43:MG K C1 "sign" "Store.sign" Qj f43 d43)(A44:MG K C1 "copy" "Store.copy" Qo f44 d44)(a45:W.findIn K (.ref CEWk) "__init__" = some (some (.ref f45)))(F45:Fun K "__init__" "WrongKind.__init__" Xl f45 d45)(A46:FG K "need_pair" VZ f46 d46)(A47:MG K C1 "pair_in" "Store.pair_in" jD f47 d47)(A48:MG K C1 "pair" "Store.pair" Ql f48 d48)(A49:MG K C1 "first" "Store.first" km f49 d49)(A50:MG K C1 "second" "Store.second" jC f50 sg)(A51:MG K C1 "set_first" "Store.set_first" xA f51 sj)(A52:MG K C1 "set_second" "Store.set_second" zY f52 d52)(A53:FG K "_law_is_small" Qy f53 d53)(A54:FG K "_law_limbs" q2M f54 d54)(A55:FG K "_law_size" q72 f55 d55)(A56:FG K "_law_used" q6C lm d56)(A57:FG K "_law_worth" q30 f57 d57)(A58:FG K "_law_kind" q6o f58 d58)(A59:FG K "_law_machine" Jz f59 d59)(A60:FG K "_law_sweep" q3l f60 d60)(A61:FG K "_law_new" sNew f61 d61)(A62:FG K "_law_number_ref" Qv f62 d62)(A63:FG K "_law_pair_done" VX f63 d63)(A64:MG K C1 "same" "Store.same" Qk f64 d64)(A65:FG K "_law_asked" q29 f65 d65)(a66:Ue K "_law_numbers_done" (.ref f66))(k66:W.keepIn K (.ref f66)=true)(A67:FG K "_law_do" sDo f67 d67)(A68:MG K C1 "plus" "Store.plus" Kw f68 d68)(A69:MG K C1 "less" "Store.less" Ky f69 d69)(A70:MG K C1 "times" "Store.times" Xm f70 d70)(A71:MG K C1 "over" "Store.over" Kx f71 d71)(A72:MG K C1 "rest" "Store.rest" Kv f72 d72)(A73:MG K C1 "below" "Store.below" Xn f73 d73)(A74:MG K C1 "one" "Store.one" YF f74 d74)(A75:FG K "_law_deed_done" V1 f75 d75)(A76:FG K "_law_places" YI f76 d76)(A77:FG K "_law_word" q6S f77 d77)(A78:FG K "_law_thing_words" kg f78 d78)(A79:FG K "_law_image" q39 f79 d79)(A80:FG K "_law_alike" q2x f80 d80)(A81:FG K "_law_done" q5P f81 d81)(A82:FG K "_law_same_store" Qp f82 d82)(A83:FG K "image_of" JD f83 d83)(A84:FG K "store_of" Jw f84 d84)(A85:FG K "_law_deed_of_pairs" jI f85 d85)(A86:FG K "law" sLaw f86 d86)(CWk:ExcK K CEWk f45)(xk8Wk:W.findIn K (.ref CEWk) "part" = some none)(xb1WordError:W.specialIn K (.ref CEWordError) "__getattribute__" = some (some (.builtin "type.__getattribute__")))(xb2WordError:W.readsIn K CEWordError (.type "type")=true)(xb3WordError:W.findCls K (.ref CEWordError) (.type "type") "__init__" = some (.val (.builtin "ValueError.__init__")))(ynNRepr:Uf K "repr")(y1:Uf K "reversed")(z1:Uf K "abs")(z2:Uf K "len")(z3:Uf K "min")(z4:Uf K "max")(z5:Uf K "sum")(z6:Uf K "sorted")(z7:Uf K "all")(z8:Uf K "any")(z9:Uf K "isinstance")(z10:Uf K "range")(z11:Uf K "int")(z12:Uf K "list")(z13:Uf K "str")(z14:Uf K "bool")(z15:Uf K "tuple")(z16:Uf K "zip")(z17:Uf K "enumerate")(z18:Uf K "dict")(p1:Ue K "THREE" (.ref ft1))(q1:K.lookup ft1=some ⟨.type "tuple", none,.seq #[.str "none" tk1_0,.str "no" tk1_1,.str "yes" tk1_2] tn1,tsl1⟩)(g1:W.nsIn K mainGlobals "SIGNS" = some (some (.int 128 gk1)))(g2:W.nsIn K mainGlobals "REGISTERS" = some (some (.int 8 gk2)))(g3:W.nsIn K mainGlobals "PAIR_HEAD" = some (some (.int 1 gk3)))(g4:W.nsIn K mainGlobals "PAIR_SIZE" = some (some (.int 3 gk4)))(kg1:Ue K "KINDS_BY_MARK" (.ref fd_1))(kl1:K.lookup fd_1=some ⟨.type "dict", none,.dict (([("small", ka1_0,.str "number" kb1_0),("far", ka1_1,.str "number" kb1_1),("pair", ka1_2,.str "pair" kb1_2),("sign", ka1_3,.str "sign" kb1_3),("one", ka1_4,.str "one" kb1_4)]:List (Str×Tok×Value)).map (entD w.params)).toArray ke1, #[]⟩):
  ∃fd:FuncData,(∀(s:Shared)(v:Value),BindsTo s fd ⟨[v], []⟩ [("script", v)])/\∀base:Heap,K.In base->base.Ns mainGlobals mg->FnOk l.prog w K mg base CX0 12 fa fd ["script"] (YB K):=by
 have e:=t7.symm.trans (Bl X G A86.a);cases e;have mo:=λ{x:Str}{v:Value} (a:W.nsIn K mainGlobals x=some (some v))=>Bl X G a;have mn:=λ{x:Str} (a:W.nsIn K mainGlobals x=some none)=>W.mg_none_of X G a;have N:Nms mg:=⟨mn z1,mn z2,mn z3,mn z4,mn z5,mn z6,mn z7,mn z8,mn z9,mn z10,mn z11,mn z12,mn z13,mn z14,mn z15,mn z16,mn z17,mn z18⟩;have T3:Tup3 K mg "THREE" ft1 "none" "no" "yes" := ⟨mo p1,_,_,_,_,_,q1⟩;have N2:Nms2 mg:=⟨mn y1⟩;have dv:GInt mg "SIGNS" 128:=⟨_,mo g1⟩;have gi:GInt mg "REGISTERS" 8:=⟨_,mo g2⟩;have b3:GInt mg "PAIR_HEAD" 1:=⟨_,mo g3⟩;have cG:GInt mg "PAIR_SIZE" 3:=⟨_,mo g4⟩;have dz:KDi K w mg "KINDS_BY_MARK" fd_1 Gs:=⟨mo kg1,_,_,kl1,by show(["small","far","pair","sign","one"]:List Str).Nodup;decide+kernel,.cons ⟨rfl,_,rfl⟩ (.cons ⟨rfl,_,rfl⟩ (.cons ⟨rfl,_,rfl⟩ (.cons ⟨rfl,_,rfl⟩ (.cons ⟨rfl,_,rfl⟩ (.nil)))))⟩;have a5:Cls K C1:=⟨cb1,cc1,cd1,ce1⟩;have aq:q00 K C1:=⟨a5,ch1_1,ch1_2,ch1_3,ch1_4,ch1_5,ch1_6,ch1_7⟩;have cN:ExcC K mg "Nought" CENought:=⟨mo xaNought,xoNought⟩;have aU:ExcC K mg "NoRoom" CENoRoom:=⟨mo xaNoRoom,xoNoRoom⟩;have lg:NoAttr K CEWk "part" := xk8Wk;have gI:=mo xaWk;have dD:q3E K mg "WordError" CEWordError:=⟨mo xaWordError,xb1WordError,xb2WordError,xb3WordError⟩;have cc:=mo xaNought;have cO:=mo xaNoRoom;have dO:=mn ynNRepr;have t8:=A42.F.binds (ps:=["self","laying","room"]) (by ac_nf)
 have t9:=F45.binds (ps:=["self","part"]) (by ac_nf)
 have tf:=A63.F.binds (ps:=["own","deed"]) (by ac_nf)
 have tj:=A68.F.binds (ps:=["self","r","q","p"]) (by ac_nf)
 have tp:=A69.F.binds (ps:=["self","r","q","p"]) (by ac_nf)
 have tq:=A70.F.binds (ps:=["self","r","q","p"]) (by ac_nf)
 have tz:=A71.F.binds (ps:=["self","r","q","p"]) (by ac_nf)
 have tD:=A72.F.binds (ps:=["self","r","q","p"]) (by ac_nf)
 have tE:=A73.F.binds (ps:=["self","q","p"]) (by ac_nf)
 have tF:=A74.F.binds (ps:=["self","r","text"]) (by ac_nf)
 refine⟨d86,λs v=>?_,λbase _ _=>?_⟩
 ·obtain⟨_,_,_,_,_,_,_,_,_,rfl,_⟩:=A86.F.ex
  exact .of_eq rfl
 have B:GB l.prog w K mg base h:=⟨X,G⟩;have gj:=mk1 B A1 (q6p A1.F N) (by ac_nf);have am:=mk1 B A2 (q0k A2.F N) (by ac_nf);have bj:=mk1 B A3 (q1g A3.F N am) (by ac_nf);have cP:=mk1 B A4 (KI A4.F N am bj) (by ac_nf);have aL:=mk1 B A5 (Zb A5.F) (by ac_nf);have cF:=mk1 B A6 (Zc A6.F) (by ac_nf);have ak:=mk1 B A7 (Vd A7.F aL) (by ac_nf);have cq:=mk1 B A8 (Zd A8.F cF) (by ac_nf);have cf:=mk1 B A9 (Ze A9.F) (by ac_nf);have ay:=mk1 B A10 (XC A10.F cf) (by ac_nf);have bu:=mk1 B A11 (XD A11.F aL) (by ac_nf);have bT:=mk1 B A12 (KH A12.F aL) (by ac_nf);have cg:=mk1 B A13 (Za A13.F) (by ac_nf);have cp:=mk1 B A14 (V9 A14.F N T3 dv ay bu cg ak) (by ac_nf);have aA:=mk1 B A15 (XB A15.F N T3 bT ak) (by ac_nf);have cj:=mk1 B A16 (Zf A16.F ak) (by ac_nf);have aG:=mk1 B A17 (q0L A17.F b3 cG) (by ac_nf);have bW:=mk1 B A18 (q4p A18.F N2 aG) (by ac_nf);have ci:=mk1 B A19 (q1F A19.F N aG) (by ac_nf);have az:=mk1 B A20 (q5h A20.F ay bu) (by ac_nf);have b5:=mk1 B A21 (q5v A21.F N ak) (by ac_nf);have aE:=mk1 B A22 (q1P A22.F b3) (by ac_nf);have b4:=mk1 B A23 (q1p A23.F N az aE) (by ac_nf);have bD:=mk1 B A24 (q0c A24.F ci aG) (by ac_nf);have aM:=mk1 B A25 (WR A25.F az ay aA) (by ac_nf);have bn:=mk1 B A26 (WS A26.F b3 aE aM aG) (by ac_nf);have dy:=mk1 B A27 (q17 A27.F b4 bD bn aM) (by ac_nf);have aK:=mk2 B A28 (q0o A28.F aq dy) (by ac_nf);have aY:=mk2 B A29 (q14 A29.F N aq b5) (by ac_nf);have aw:=mk2X B A30 (q1b A30.F a5 aU aY aK) (by ac_nf);have aN:=mk1 B A31 (Qa A31.F N) (by ac_nf);have cn:=mk1 B A32 (Zg A32.F aN) (by ac_nf);have cL:=mk1 B A33 (q1f A33.F N aN) (by ac_nf);have aV:=mk2 B A34 (q3W A34.F N aq aA) (by ac_nf);have b8:=mk2X B A35 (q4X A35.F N aq a5 aU cj aA cn cL aw aV) (by ac_nf);have ao:=mk2 B A36 (WK A36.F N aq) (by ac_nf);have ag:=mk2 B A37 (q3C A37.F N aq) (by ac_nf);have aj:=mk2 B A38 (q1B A38.F N aq dz ay) (by ac_nf);have bE:=mk1 B A39 (q0I A39.F N cp ay bW) (by ac_nf);have aJ:=mk2 B A40 (q1M A40.F N aq a5 aj bE) (by ac_nf);have aO:=mk1 B A41 (k9 A41.F N) (by ac_nf);have c6:q0d l.prog w K mg base C1 "Store" 4 ["self","laying","room"] (spU (JZ C1)):=⟨f42,_,⟨cf1,A42.a,A42.n,cg1⟩,mo ca1,t8,q0S A42.F aq gi aO aA⟩;have aP:=mk2 B A43 (q0y A43.F aq aA) (by ac_nf);have bH:=mk2 B A44 (q0K A44.F aq) (by ac_nf);have mY:ExcD l.prog w K mg base "WrongKind" CEWk 1:=⟨mo xaWk,f45,_,CWk,t9,q1E F45 CWk lg dD⟩;have bX:=mk1X B A46 (q0e A46.F a5 mY aj) (by ac_nf);have aa:=mk2X B A47 (WP A47.F aq bX az) (by ac_nf);have bM:=mk2X B A48 (q0D A48.F aq a5 b3 cG aw aV) (by ac_nf);have bq:=mk2X B A49 (WO A49.F aq a5 aa) (by ac_nf);have ba:=mk2X B A50 (KF A50.F aq a5 aa) (by ac_nf);have aX:=mk2X B A51 (q1J A51.F aq a5 aa) (by ac_nf);have aT:=mk2X B A52 (q0z A52.F aq a5 aa) (by ac_nf);have bF:=mk1 B A53 (WN A53.F cq) (by ac_nf);have b6:=mk1 B A54 (WT A54.F N) (by ac_nf);have cH:=mk1 B A55 (q0u A55.F N b6) (by ac_nf);have dN:=mk1 B A56 (q1d A56.F N cH) (by ac_nf);have aZ:=mk1 B A57 (WJ A57.F N) (by ac_nf);have bU:=mk1 B A58 (q10 A58.F N aZ) (by ac_nf);have cu:=mk1 B A59 (q1V A59.F N cq) (by ac_nf);have bZ:=mk1 B A60 (WL A60.F N) (by ac_nf);have dS:=mk1 B A61 (q3T A61.F dN bZ) (by ac_nf);have bG:=mk1 B A62 (q0w A62.F N bF b6 dS) (by ac_nf);have c3:=mk1 B A63 (WQ A63.F N bU dS) (by ac_nf);have bN:=mk2 B A64 (WM A64.F aq a5 aj aJ) (by ac_nf);have dA:=mk1 B A65 (q4a A65.F N bU aZ) (by ac_nf);have b7:Def l.prog w K mg base "_law_numbers_done" 6 ["own","deed"] (spU gNo):=⟨f66,_,mo a66,k66,tf,FnOk.no⟩;have lp:=mk1 B A67 (q80 A67.F b7 c3 dA bZ bG) (by ac_nf);have bI:MDef l.prog w K mg base C1 "plus" 1 ["self","r","q","p"] (spU gNo):=⟨f68,_,⟨A68.a,A68.n,A68.F.kp⟩,tj,FnOk.no⟩;have bJ:MDef l.prog w K mg base C1 "less" 1 ["self","r","q","p"] (spU gNo):=⟨f69,_,⟨A69.a,A69.n,A69.F.kp⟩,tp,FnOk.no⟩;have bp:MDef l.prog w K mg base C1 "times" 1 ["self","r","q","p"] (spU gNo):=⟨f70,_,⟨A70.a,A70.n,A70.F.kp⟩,tq,FnOk.no⟩;have bK:MDef l.prog w K mg base C1 "over" 1 ["self","r","q","p"] (spU gNo):=⟨f71,_,⟨A71.a,A71.n,A71.F.kp⟩,tz,FnOk.no⟩;have bL:MDef l.prog w K mg base C1 "rest" 1 ["self","r","q","p"] (spU gNo):=⟨f72,_,⟨A72.a,A72.n,A72.F.kp⟩,tD,FnOk.no⟩;have br:MDef l.prog w K mg base C1 "below" 1 ["self","q","p"] (spU gNo):=⟨f73,_,⟨A73.a,A73.n,A73.F.kp⟩,tE,FnOk.no⟩;have c4:MDef l.prog w K mg base C1 "one" 1 ["self","r","text"] (spU gNo):=⟨f74,_,⟨A74.a,A74.n,A74.F.kp⟩,tF,FnOk.no⟩;have c5:=mk1X B A75 (q1N A75.F a5 b8 aP c4 bH bI bJ bp bK bL bM bq ba aX aT br bN aj aJ aK) (by ac_nf);have cM:=mk1 B A76 (KG A76.F cH) (by ac_nf);have cr:=mk1 B A77 (q0P A77.F N cF) (by ac_nf);have bt:=mk1 B A78 (KC A78.F N cr b6) (by ac_nf);have dB:=mk1 B A79 (WU A79.F cM bt cr) (by ac_nf);have bO:=mk1 B A80 (WV A80.F dO) (by ac_nf);have eN:=mk1 B A81 (q1W A81.F cN aU CWk lg gI cc cO EWk_Wk ENought_Wk ENought_Nought ENoRoom_Wk ENoRoom_Nought ENoRoom_NoRoom c5) (by ac_nf);have bP:=mk1 B A82 (q1i A82.F aq a5 dB ao ag bO) (by ac_nf);have cv:=mk1 B A83 (KJ A83.F aq a5 aO ao ag) (by ac_nf);have cx:=mk1 B A84 (KD A84.F N aq a5 c6) (by ac_nf);have bb:=mk1 B A85 (q0W A85.F am) (by ac_nf);exact q45 A86.F N a5 c6 aP ao ag gj am cP cu bb lp eN bO bP cv cx
theorem walk{l:PySem.W.OpenLaw}{q:Program}{loose:List Str}{XP:(Str->Option Value)->Heap->Prop}{YP:World->Heap->Prop}{d:DefRec}{K:Params->PySem.W.Frag}(hn:l.most=some 63)(gW:d.params.defaults=[])(hY:∀(w:World)(h:Heap),YP w h->(K w.params).In h)(F:∀(w:World)(mg:Str->Option Value)(fa:Addr)(h:Heap),(K w.params).In h->h.Ns mainGlobals mg->mg d.name=some (.ref fa) ->
   ∃fd:FuncData,(∀(s:Shared)(u:Value),BindsTo s fd ⟨[u], []⟩ [("script", u)])/\∀base:Heap,(K w.params).In base->base.Ns mainGlobals mg->FnOk l.prog w (K w.params) mg base CX0 12 fa fd ["script"] (YB (K w.params))):
  PySem.W.WalkO q loose XP YP l.row.toRowW d [] (λf vs=>PySem.call f vs):=
 L2.walk_of (n:=63) (k:=12) (x := "script") (CX:=λ_=>CX0) (sp:=λw=>YB (K w.params)) hn (by decide) gW ⟨rfl,by decide,by decide,rfl⟩ hY F (λ_ _ a ns hl _ hS=>⟨a,ns,rfl,hS,hl,λ_=>rfl⟩) λ_ _ _ _ _ z=>z
end Mw
open PySem PySem.W PyProof.Rows
set_option maxRecDepth 100000 in
set_option maxHeartbeats 0 in
theorem PySem.Challenge.cw_markwords_k34_pairs_and_rings_holds : PySem.Challenge.rw_markwords_k34_pairs_and_rings.Holds := by
 w_on; o_law
 refine Hd.close (q:=Mx.vw) (loose:=Mx.ls) (lv:=Mx.lv) (H:=kHook Mx.K Mx.KA Mx.K_as) (N:=8398) Mx.hLf9 (by rfl) (by rfl) (by rfl) (by rfl) (by assumption) (by decide +kernel) ⟨rfl,rfl,rfl,rfl,rfl,by decide +kernel⟩ ?hw ?hc
 case hw=>w_witness2
 k_fill
 refine Mw.walk (l:=PySem.Challenge.rw_markwords_k34_pairs_and_rings) rfl rfl (fun w h Y=>PySem.W.kIn_of Y) ?F
 case F =>
  intro w mg fa h KX G hmg
  refine' Mw.all_mk KX G hmg ?ca1 ?cb1 ?cc1 ?cd1 ?ce1 ?cf1 ?cg1 ?ch1_1 ?ch1_2 ?ch1_3 ?ch1_4 ?ch1_5 ?ch1_6 ?ch1_7 ?xaNought ?xaNoRoom ?xoNought ?xoNoRoom ?xaWk ?xaWordError ?EWk_Wk ?ENought_Wk ?ENought_Nought ?ENoRoom_Wk ?ENoRoom_Nought ?ENoRoom_NoRoom ?A1 ?A2 ?A3 ?A4 ?A5 ?A6 ?A7 ?A8 ?A9 ?A10 ?A11 ?A12 ?A13 ?A14 ?A15 ?A16 ?A17 ?A18 ?A19 ?A20 ?A21 ?A22 ?A23 ?A24 ?A25 ?A26 ?A27 ?A28 ?A29 ?A30 ?A31 ?A32 ?A33 ?A34 ?A35 ?A36 ?A37 ?A38 ?A39 ?A40 ?A41 ?A42 ?A43 ?A44 ?a45 ?F45 ?A46 ?A47 ?A48 ?A49 ?A50 ?A51 ?A52 ?A53 ?A54 ?A55 ?A56 ?A57 ?A58 ?A59 ?A60 ?A61 ?A62 ?A63 ?A64 ?A65 ?a66 ?k66 ?A67 ?A68 ?A69 ?A70 ?A71 ?A72 ?A73 ?A74 ?A75 ?A76 ?A77 ?A78 ?A79 ?A80 ?A81 ?A82 ?A83 ?A84 ?A85 ?A86 ?CWk ?xk8Wk ?xb1WordError ?xb2WordError ?xb3WordError ?ynNRepr ?y1 ?z1 ?z2 ?z3 ?z4 ?z5 ?z6 ?z7 ?z8 ?z9 ?z10 ?z11 ?z12 ?z13 ?z14 ?z15 ?z16 ?z17 ?z18 ?p1 ?q1 ?g1 ?g2 ?g3 ?g4 ?kg1 ?kl1
  (case ca1|cb1|cc1|cd1|ce1|cf1|cg1|ch1_1|ch1_2|ch1_3|ch1_4|ch1_5|ch1_6|ch1_7|xaNought|xaNoRoom|xaWk|xaWordError|a45|a66|k66|ynNRepr|y1|z1|z2|z3|z4|z5|z6|z7|z8|z9|z10|z11|z12|z13|z14|z15|z16|z17|z18|p1|q1|g1|g2|g3|g4|kg1|kl1=>show _=_;k_is)
  (case xoNought|xoNoRoom|EWk_Wk|ENought_Wk|ENought_Nought|ENoRoom_Wk|ENoRoom_Nought|ENoRoom_NoRoom|xk8Wk|xb1WordError|xb2WordError|xb3WordError=>kernel_rfl)
  (case A1|A2|A3|A4|A5|A6|A7|A8|A9|A10|A11|A12|A13|A14|A15|A16|A17|A18|A19|A20|A21|A22|A23|A24|A25|A26|A27|A31|A32|A33|A39|A41|A46|A53|A54|A55|A56|A57|A58|A59|A60|A61|A62|A63|A65|A67|A75|A76|A77|A78|A79|A80|A81|A82|A83|A84|A85|A86=>walk_at "fg")
  (case A28|A29|A30|A34|A35|A36|A37|A38|A40|A42|A43|A44|A47|A48|A49|A50|A51|A52|A64|A68|A69|A70|A71|A72|A73|A74=>walk_at "mg")
  (case F45=>walk_at "fk")
  (case CWk=>constructor<;>kernel_rfl)
